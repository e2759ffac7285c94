import PyProof.Rows.All
import Wide.All
import OpenK.AllK
import Wide.FinOn
import PyProof.EqAt
import PyProof.EqKinds
import PyProof.TupleCall
import HandS.Base
import HandS.Call
import HandS.List
import HandS.Ends
import HandS.Words
import HandS.Comp
import HandS.Dict
import HandS.Iter
import HandS.Text
import HandS.WordsList
import HandS.Defaults
import PyProof.EnumMake
import PyProof.Draws
import KE.GoesMore
import KE.KRevSl
import PyProof.ReprLen
import PyProof.ReprText
import HandS.More
import HandS.Evl
import HandS.Walk
import HandS.IsInst
import HandS.TupAny
import HandS.Style
import HandS.TupMul
import HandS.Strs
import HandS.Set
import HandS.GenBody
import HandS.GenYield
import HandS.GenCall
import HandS.GenList
import PyProof.GenComp
import HandS.Property
import HandS.ClsMeth
import HandS.MakeKwOnly
import PyProof.InstEq
import KE.KFmtOwn
import HandS.OwnEq
import HandS.FStr
import HandS.SetKeys
import HandS.DictComp
import HandS.ListItems
import HandS.Deep
import PySem.Challenge.RW_stackeffect_k51_effects_on_several_stack
set_option Elab.async false
set_option linter.all false
set_option maxRecDepth 100000
set_option maxHeartbeats 4000000
/-! Defs called where no repr is under way: their promise (GOk), their call, the law's head, and repr of plain data. -/
namespace SE
open PySem PySem.Spec PyProof.Rows L2

/-- the promise of a def whose caller has no repr under way -/
structure GOk (P : Program) (w : World) (K : PySem.W.Frag) (mg : Str → Option Value) (base : Heap) (k : Nat) (f : Addr) (fd : FuncData) (ps : List Str) (sp : Sp) : Prop where
  len : ∀ xs H Q E, sp xs H Q E → xs.length = ps.length
  run : ∀ (A : Around) (out : List Env) (s : Shared) (H : Hp) (args : Args) (us : List Value) (xs : List V) (Q : VK) (E : XK), A.guards = some [] → Room k A → Env0 P w K mg base A out s H →
    BindsTo s fd args (ps.zip us) → Vals xs us → sp xs H Q E → codeAny (model P w) A (.call (.ref f) args) (CR (fun _ _ _ _ _ _ => False) out P w H s Q E) s

section
variable {P : Program} {w : World} {K : PySem.W.Frag} {mg : Str → Option Value} {base : Heap}
theorem gok_of {k : Nat} {f : Addr} {nm ql : Str} {pars : Arguments} {bd : List Stmt} {sc : Scope} {dV kV doc pm cv ct oc : Value} {an od : Option Addr}
    {osl : Array (Option Value)} {N ps : List Str} {sp : Sp} (look : K.lookup f = some ⟨oc, od, .func (PySem.W.fnOf nm ql pars bd sc dV kV doc pm an cv ct), osl⟩) (hcode : PySem.W.codeIn K cv ql = true) (S : FnScope N ps sc)
    (len : ∀ xs H Q E, sp xs H Q E → xs.length = ps.length)
    (hbd : ∀ (A : Around) (out : List Env) (s : Shared) (H : Hp) (xs : List V) (Q : VK) (E : XK), A.guards = some [] → Room k (A.deeper (envOfC ql sc s.heap.objs.size f cv)) → sp xs H Q E →
      ∃ t, PSs (cxOf (fun _ _ _ _ _ _ => False) P w K mg base N ql sc f cv A out s H E) bd t ∧ t { nx := fun _ H2 => Q .non H2, rt := Q } (start N xs) H) :
    GOk P w K mg base (k + 1) f (PySem.W.fnOf nm ql pars bd sc dV kV doc pm an cv ct) ps sp := by
  constructor
  · exact len
  intro A out s H args us xs Q E hgu hroom env hbind hvals hpre
  have hlen := len _ _ _ _ hpre
  have kin : K.In s.heap := env.mod.kin.keeps fun b o z => (env.bs b o z).1
  have nolim : s.heap.NoLimit := env.mod.nolimit.keeps fun b o z => (env.bs b o z).1
  have kinds : ∀ y ∈ ps.zip us, sc.names.lookup y.1 = some .local ∨ (sc.names.lookup y.1 = some .cell ∧ ((cellsFrom (s.heap.objs.size + 1) sc.names []).lookup y.1).isSome = true) := by
    rintro ⟨n, v⟩ hy
    rcases S.par n (List.of_mem_zip hy).1 with q | q
    · exact .inl q
    · exact .inr ⟨q, PySem.W.cellsFrom_some _ _ _ (.inl q)⟩
  apply codeAny_call_function hroom.depth (kin _ _ look) rfl S.co S.gen rfl (PySem.W.codeRec_of kin hcode)
  apply hbind
  refine wpAny_newFunctionEnv_cells S.kind kinds fun ev hev s2 inc => ?_
  subst hev
  refine ⟨nolim.keeps inc.toInCall.keep, codeAny_func ?_⟩
  obtain ⟨t, der, rd⟩ := hbd A out s H xs Q E hgu (hroom.deeper _) hpre
  have J0 : Inv (cxOf (fun _ _ _ _ _ _ => False) P w K mg base N ql sc f cv A out s H E) [] (start N xs) H s2 := inv_start S hroom.hd env hlen hvals inc
  refine wpAny_mono (der.run [] s2 (start N xs) H _ J0 rd) (fun fl s3 hs => ?_) fun e s3 hs => hs
  cases fl with
  | ret u =>
    obtain ⟨v, σ3, H3, J, rv, q⟩ := hs
    exact ⟨v, H3, J.os, J.bare, J.base, J.hok, rv, q⟩
  | next =>
    obtain ⟨σ3, H3, J, q⟩ := hs
    exact ⟨V.non, H3, J.os, J.bare, J.base, J.hok, rfl, q⟩
  | brk => exact hs.elim fun _ z => z.elim fun _ z => z.2.elim
  | cont => exact hs.elim fun _ z => z.elim fun _ z => z.2.elim
theorem gok_mk {x ql : Str} {st : Stmt} {f : Addr} {fd : FuncData} {N ps : List Str} {k : Nat} {sp : Sp} (F : Fun K x ql st f fd) (S : FnScope N ps (defScope st)) (len : ∀ xs H Q E, sp xs H Q E → xs.length = ps.length)
    (hbd : ∀ (cv : Value) (A : Around) (out : List Env) (s : Shared) (H : Hp) (xs : List V) (Q : VK) (E : XK), A.guards = some [] → Room k (A.deeper (envOfC ql (defScope st) s.heap.objs.size f cv)) → sp xs H Q E →
      ∃ t, PSs (cxOf CX0 P w K mg base N ql (defScope st) f cv A out s H E).nox (defBody st) t ∧ t { nx := fun _ H2 => Q .non H2, rt := Q } (start N xs) H) : GOk P w K mg base (k + 1) f fd ps sp := by
  obtain ⟨oc, od, kV, doc, pm, an, cv, ct, osl, rfl, look, hcode⟩ := F.ex
  refine gok_of look hcode S len fun A out s H xs Q E hgu hr hpre => ?_
  obtain ⟨t, a, b⟩ := hbd cv A out s H xs Q E hgu hr hpre
  exact ⟨t, a.nox, b⟩
end

section
variable {X : Cx} {k : Nat} {f : Addr} {fd : FuncData} {ps : List Str} {sp : Sp} {x : Str} {p pos : Pos} {e : Expr} {es : List Expr} {t : TA}
theorem pe_callG (F : GOk X.prog X.w X.K X.mg X.base k f fd ps sp) (hgu : X.A.guards = some []) (hr : Room k X.A) (hg : Gl X x) (hm : X.mg x = some (.ref f)) (hk : PySem.W.keepIn X.K (.ref f) = true) (hb : Binds X.K fd ps [])
    (ha : PA X (e :: es) t) (hdb : (x == ("__debug__" : Str)) = false := by decide) (he : starEach (e :: es) X.env = (false, eval e X.env) :: starEach es X.env := by rfl) (hpl : (backTo pos (starEach es X.env)).any (·.1) = false := by rfl) :
    PE X (.Call (.Name x p) (e :: es) [] pos) (tCall sp [] (fun _ _ _ => False) t) := by
  constructor
  intro pins s σ H Q I h
  apply wpAny_Call_Name_kw
  apply ld_glob I hg hm _ hdb
  refine PySem.W.callWith_K (h₀ := X.base) I.ok.mod.kin hk (thn (ha.run pos pins s σ H _ I h) fun us s1 hh => ?_) he hpl
  obtain ⟨xs, H1, I1, r, q⟩ := hh
  refine ⟨I1.kIn, ?_⟩
  have q' : sp xs H1 Q (fun _ _ _ => False) := by rw [List.append_nil] at q; exact q
  have hl : us.length = ps.length := by rw [← r.length]; exact F.len _ _ _ _ q'
  have hb' := hb s1 us I1.kIn (by rw [List.append_nil]; exact hl)
  rw [List.append_nil] at hb'
  refine wpAny_call (codeAny_mono (F.run X.A X.stack s1 H1 ⟨us, []⟩ us xs Q _ hgu hr I1.env0 hb' r q') fun r2 s2 hq => ?_)
  cases r2 with
  | error _ => exact hq.elim
  | ok fl =>
    cases fl with
    | ret _ => exact I1.after hq
    | next => exact hq.elim
    | brk => exact hq.elim
    | cont => exact hq.elim
end

section
variable {X : Cx}
/-- repr(x), x plain data -/
def rRep (K : PySem.W.Frag) : List V → Hp → VK → Prop := fun xs H Q => ∃ (x : V) (d : PyData), xs = [x] ∧ Dp K H x d ∧ (∃ a, x = .ref a) ∧ d.showable = true ∧ d.hasDict = false ∧ d.depth ≤ 20 ∧ d.shown.length ≤ sizeLine ∧ Q (.str d.shown) H
theorem call_rep (hgu : X.A.guards = some []) (hu : X.A.units + 64 < cLine) : CallR X (.builtin "repr") (rRep X.K) := by
  intro pins s σ H xs us Q I r h
  obtain ⟨x, d, rfl, hd, ⟨a, rfl⟩, hs, hn, hdep, hz, q⟩ := h
  cases r with
  | cons r1 r2 =>
    cases r2
    cases r1
    obtain ⟨as, rd⟩ := Dp.reads I d (.ref a) (.ref a) hd rfl
    refine repr_of_reads' rd hs (PyData.noDict_hsm hn) hgu (by omega) (fun _ _ z => z) (fun h' u tk hk => ?_) hz
    exact ⟨.str d.shown, H, I.kept (t' := tk) hk, ⟨_, rfl⟩, q⟩
end
/-! ### the law's head -/
theorem lawG {P : Program} {w : World} {K : PySem.W.Frag} {mg mb : Str → Option Value} {k : Nat} {fa a : Addr} {fd : FuncData} {x : Str} {sp : Sp} {s1 : Shared} {vs : List Value} {ns : List Int}
    (kin : K.In s1.heap) (hns : s1.heap.Ns mainGlobals mg) (hbn : s1.heap.Ns builtinsNs mb) (hbb : ∀ x : Str, x ≠ "__name__" → mb x = bootBuiltins x) (nolim : s1.heap.NoLimit) (hg : s1.gens = #[])
    (hobj : s1.heap.get? a = some { cls := .type "list", data := .seq vs.toArray }) (hi : IntsAre vs ns) (hz : ns.length ≤ sizeLine) (hr : Room k callerA)
    (F : ∀ base : Heap, K.In base → base.Ns mainGlobals mg → GOk P w K mg base k fa fd [x] sp) (hbind : ∀ (s : Shared) (u : Value), BindsTo s fd ⟨[u], []⟩ [(x, u)])
    (hsp : ∀ H : Hp, SqL K H a (ns.map V.int) → sp [.ref a] H (fun v _ => v = .bl true) fun _ _ _ => False) :
    codeAny (model P w) callerA (.call (.ref fa) ⟨[.ref a], []⟩) (fun r s2 => r = .ok (.ret (.bool true)) ∧ OldK s1.heap s2.heap ∧ s2.os = s1.os ∧ AllBare s2.gens) s1 := by
  have rel := vals_ints hi
  have same := hi.length
  have go : ∀ H : Hp, (∀ b u, H b = some u → b = a ∧ K.lookup a = none ∧ ∃ o xs, u = .frz o (.lst xs)) → SqL K H a (ns.map V.int) → HOk P w H s1.heap →
      codeAny (model P w) callerA (.call (.ref fa) ⟨[.ref a], []⟩) (fun r s2 => r = .ok (.ret (.bool true)) ∧ OldK s1.heap s2.heap ∧ s2.os = s1.os ∧ AllBare s2.gens) s1 := by
    intro H only hS hok
    have free : ∀ {b : Addr}, b ≠ a → H b = none := fun {b} hb => by
      cases q : H b with
      | none => rfl
      | some u => exact absurd (only b u q).1 hb
    have freeD : ∀ {b : Addr} {o : Obj} {es : Array DictEntry} {ep : Nat}, s1.heap.get? b = some o → o.data = .dict es ep → H b = none := fun {b o es ep} e d => by
      by_cases hb : b = a
      · subst hb
        rw [hobj] at e
        cases e
        cases d
      · exact free hb
    have ns2 : ∀ {b : Addr} {m : Str → Option Value}, s1.heap.Ns b m → (hidT s1.heap H).Ns b m := by
      rintro b m ⟨o, es, ep, e, d, r⟩
      exact ⟨o, es, ep, hidT_get e (freeD e d), d, r⟩
    have kin2 : K.In (hidT s1.heap H) := by
      intro b o e
      refine hidT_get (kin b o e) ?_
      cases q : H b with
      | none => rfl
      | some u =>
        obtain ⟨eb, nk, _⟩ := only b u q
        subst eb
        rw [nk] at e
        cases e
    have mod : Mod K mg (hidT s1.heap H) := by
      refine ⟨kin2, ns2 hns, ⟨mb, ns2 hbn, hbb⟩, ?_⟩
      obtain ⟨mc, h1, h2⟩ := nolim
      exact ⟨mc, ns2 h1, h2⟩
    have env : Env0 P w K mg (hidT s1.heap H) callerA [] s1 H :=
      ⟨rfl, mod, fun b o e => of_hidT e, Nat.le_of_eq (hidT_size _ _), trivial, fun b hb => (by cases (show b ∈ ([] : List Addr) from hb)), hok, .of_eq hg⟩
    have runs := (F _ kin2 (ns2 hns)).run callerA [] s1 H ⟨[.ref a], []⟩ [.ref a] [.ref a] (fun v _ => v = .bl true) (fun _ _ _ => False) rfl hr env (hbind s1 (.ref a)) (.cons rfl .nil) (hsp H hS)
    refine codeAny_mono runs fun r s2 h => ?_
    cases r with
    | error _ => exact h.elim
    | ok fl =>
      cases fl with
      | next => exact h.elim
      | brk => exact h.elim
      | cont => exact h.elim
      | ret u =>
        obtain ⟨v, H2, os, bare, un, hok2, r2, q⟩ := h
        have q2 : v = .bl true := q
        subst q2
        obtain rfl : u = Value.bool true := r2
        refine ⟨rfl, OldK.of_keep fun b o e => ?_, os, bare⟩
        cases z : H b with
        | none => exact un.keep b o e z (fun m => by cases (show b ∈ ([] : List Addr) from m)) (fun m => by cases m)
        | some u2 =>
          obtain ⟨_, _, ob, ys, eu⟩ := only b u2 z
          subst eu
          obtain ⟨e1, _⟩ := hok b _ z
          obtain ⟨e2, _⟩ := hok2 b _ (un.frzs b ob _ z)
          rw [e] at e1
          cases e1
          exact e2
  cases hk : K.lookup a with
  | some o =>
    have e := kin a o hk
    rw [hobj] at e
    cases e
    refine go (fun _ => none) (fun b u z => nomatch z) (.inr ⟨_, vs.toArray, _, hk, rfl, rfl, rfl, by rw [List.size_toArray, same]; exact hz, by simpa using rel⟩) (fun b u z => nomatch z)
  | none =>
    have at1 : ∀ {b : Addr} {u : HO}, (if b = a then some (HO.frz { cls := .type "list", data := .seq vs.toArray } (.lst (ns.map V.int))) else none) = some u → b = a ∧ u = .frz { cls := .type "list", data := .seq vs.toArray } (.lst (ns.map V.int)) := fun {b u} z => by
      by_cases hb : b = a
      · rw [if_pos hb] at z
        cases z
        exact ⟨hb, rfl⟩
      · rw [if_neg hb] at z
        cases z
    refine go (fun b => if b = a then some (.frz { cls := .type "list", data := .seq vs.toArray } (.lst (ns.map V.int))) else none) (fun b u z => ?_) (.inl (.inr ⟨{ cls := .type "list", data := .seq vs.toArray }, if_pos rfl⟩)) (fun b u z => ?_)
    · obtain ⟨e1, e2⟩ := at1 z
      exact ⟨e1, hk, _, _, e2⟩
    · obtain ⟨e1, e2⟩ := at1 z
      subst e1
      subst e2
      exact ⟨hobj, by rw [List.length_map]; exact hz, vs, _, rel, hobj⟩
theorem walkG {l : PySem.W.OpenLaw} {n k : Nat} {q : Program} {loose : List Str} {XP : (Str → Option Value) → Heap → Prop} {YP : World → Heap → Prop} {d : DefRec} {K : Params → PySem.W.Frag} {sp : PySem.W.Frag → Sp} {x : Str}
    (hn : l.most = some n) (hn2 : n ≤ sizeLine) (hdf : d.params.defaults = []) (hr : Room k callerA) (hY : ∀ (w : World) (h : Heap), YP w h → (K w.params).In h)
    (F : ∀ (w : World) (mg : Str → Option Value) (fa : Addr) (h : Heap), (K w.params).In h → h.Ns mainGlobals mg → mg d.name = some (.ref fa) →
      ∃ fd : FuncData, (∀ (s : Shared) (u : Value), BindsTo s fd ⟨[u], []⟩ [(x, u)]) ∧ ∀ base : Heap, (K w.params).In base → base.Ns mainGlobals mg → GOk l.prog w (K w.params) mg base k fa fd [x] (sp (K w.params)))
    (hsp : ∀ (K : PySem.W.Frag) (H : Hp) (a : Addr) (ns : List Int), ns.length ≤ n → SqL K H a (ns.map V.int) → sp K [.ref a] H (fun v _ => v = .bl true) fun _ _ _ => False) :
    PySem.W.WalkO q loose XP YP l.row.toRowW d [] (fun f vs => PySem.call f vs) := by
  apply Att.attach_call hn hdf
  intro w s0 s1 mg mb fa o pm cd doc a vs ns G Y ho hd hcd hmg hobj hints hlen hg
  have kin := hY w _ Y
  obtain ⟨fd, hb, hF⟩ := F w mg fa _ kin G.T.g hmg
  exact lawG kin G.T.g G.T.b G.T.builtins G.T.nolimit hg hobj hints (Nat.le_trans hlen hn2) hr hF hb fun H hS => hsp _ H a ns hlen hS
end SE
/-! Defs by their names. -/
namespace SE
open PySem PySem.Spec PyProof.Rows L2
section
variable {P : Program} {w : World} {K : PySem.W.Frag} {mg : Str → Option Value} {base : Heap}
/-- the def st stands under its name -/
def Def (K : PySem.W.Frag) (mg : Str → Option Value) (x : Str) (st : Stmt) : Prop := ∃ f fd, Fun K x x st f fd ∧ mg x = some (.ref f)
/-- a def that keeps the promise sp stands under the name x; dvs: the values of its defaults -/
def Has (P : Program) (w : World) (K : PySem.W.Frag) (mg : Str → Option Value) (base : Heap) (x : Str) (k : Nat) (ps : List Str) (dvs : List V) (sp : Sp) : Prop :=
  ∃ f fd ds, FnOk P w K mg base CX0 k f fd ps sp ∧ mg x = some (.ref f) ∧ PySem.W.keepIn K (.ref f) = true ∧ Binds K fd ps ds ∧ Vals dvs ds ∧ ∃ st, Fun K x x st f fd
def GHas (P : Program) (w : World) (K : PySem.W.Frag) (mg : Str → Option Value) (base : Heap) (x : Str) (k : Nat) (ps : List Str) (sp : Sp) : Prop :=
  ∃ f fd, GOk P w K mg base k f fd ps sp ∧ mg x = some (.ref f) ∧ PySem.W.keepIn K (.ref f) = true ∧ Binds K fd ps []
abbrev Bx (P : Program) (w : World) (K : PySem.W.Frag) (mg : Str → Option Value) (base : Heap) (N : List Str) (x : Str) (st : Stmt) (f : Addr) (cv : Value) (A : Around) (out : List Env) (s : Shared) (H : Hp) (E : XK) : Cx :=
  (cxOf CX0 P w K mg base N x (defScope st) f cv A out s H E).nox
theorem has_of {x : Str} {st : Stmt} {N ps : List Str} {k : Nat} {sp : Sp} (D : Def K mg x st) (S : FnScope N ps (defScope st))
    (hb : ∀ (kV doc pm : Value) (an : Option Addr) (cv ct : Value) (us : List Value), us.length = ps.length → bindArgs (PySem.W.fnOf x x (defArgs st) (defBody st) (defScope st) .none kV doc pm an cv ct) ⟨us, []⟩ = pure (ps.zip us))
    (len : ∀ xs H Q E, sp xs H Q E → xs.length = ps.length)
    (hbd : ∀ (f : Addr) (cv : Value) (A : Around) (out : List Env) (s : Shared) (H : Hp) (xs : List V) (Q : VK) (E : XK), Room k (A.deeper (envOfC x (defScope st) s.heap.objs.size f cv)) → sp xs H Q E →
      ∃ t, PSs (Bx P w K mg base N x st f cv A out s H E) (defBody st) t ∧ t { nx := fun _ H2 => Q .non H2, rt := Q } (start N xs) H) : Has P w K mg base x (k + 1) ps [] sp := by
  obtain ⟨f, fd, F, hm⟩ := D
  exact ⟨f, fd, [], F.ok S len fun cv A out s H xs Q E hr h => hbd f cv A out s H xs Q E hr h, hm, F.kp, F.binds hb, .nil, st, F⟩
theorem ghas_of {x : Str} {st : Stmt} {N ps : List Str} {k : Nat} {sp : Sp} (D : Def K mg x st) (S : FnScope N ps (defScope st))
    (hb : ∀ (kV doc pm : Value) (an : Option Addr) (cv ct : Value) (us : List Value), us.length = ps.length → bindArgs (PySem.W.fnOf x x (defArgs st) (defBody st) (defScope st) .none kV doc pm an cv ct) ⟨us, []⟩ = pure (ps.zip us))
    (len : ∀ xs H Q E, sp xs H Q E → xs.length = ps.length)
    (hbd : ∀ (f : Addr) (cv : Value) (A : Around) (out : List Env) (s : Shared) (H : Hp) (xs : List V) (Q : VK) (E : XK), A.guards = some [] → Room k (A.deeper (envOfC x (defScope st) s.heap.objs.size f cv)) → sp xs H Q E →
      ∃ t, PSs (Bx P w K mg base N x st f cv A out s H E) (defBody st) t ∧ t { nx := fun _ H2 => Q .non H2, rt := Q } (start N xs) H) : GHas P w K mg base x (k + 1) ps sp := by
  obtain ⟨f, fd, F, hm⟩ := D
  exact ⟨f, fd, gok_mk F S len fun cv A out s H xs Q E hg hr h => hbd f cv A out s H xs Q E hg hr h, hm, F.kp, F.binds hb⟩
theorem Has.mono {x : Str} {j k : Nat} {ps : List Str} {dvs : List V} {sp : Sp} (h : Has P w K mg base x j ps dvs sp) (hk : j ≤ k) : Has P w K mg base x k ps dvs sp := by
  obtain ⟨f, fd, ds, F, r⟩ := h
  exact ⟨f, fd, ds, F.mono hk, r⟩
theorem Has.fun {x : Str} {k : Nat} {ps : List Str} {dvs : List V} {sp : Sp} {st : Stmt} (h : Has P w K mg base x k ps dvs sp) (D : Def K mg x st) : ∃ f fd, FnOk P w K mg base CX0 k f fd ps sp ∧ mg x = some (.ref f) ∧ PySem.W.keepIn K (.ref f) = true ∧ Fun K x x st f fd := by
  obtain ⟨f, fd, ds, G, hm, hk, hb, hd, st2, F2⟩ := h
  obtain ⟨g, fe, F, hg⟩ := D
  have e : f = g := by
    rw [hm] at hg
    cases hg
    rfl
  subst e
  have e2 : fd = fe := by
    obtain ⟨_, _, _, _, _, _, _, _, _, _, l1, _⟩ := F.ex
    obtain ⟨_, _, _, _, _, _, _, _, _, _, l2, _⟩ := F2.ex
    rw [l1] at l2
    cases l2
    rfl
  subst e2
  exact ⟨f, fd, G, hm, hk, F⟩
end
section
variable {X : Cx} {k : Nat} {ps : List Str} {sp : Sp} {x : Str} {p pos : Pos} {e : Expr} {es : List Expr} {t : TA} {dvs : List V}
theorem pe_has (h : Has X.prog X.w X.K X.mg X.base x k ps dvs sp) (hr : Room k X.A) (ha : PA X (e :: es) t) (hg : Gl X x := by rfl) (hdb : (x == ("__debug__" : Str)) = false := by decide)
    (he : starEach (e :: es) X.env = (false, eval e X.env) :: starEach es X.env := by rfl) (hpl : (backTo pos (starEach es X.env)).any (·.1) = false := by rfl) : PE X (.Call (.Name x p) (e :: es) [] pos) (tCall sp dvs E0 t) := by
  obtain ⟨f, fd, ds, F, hm, hk, hb, hd, _⟩ := h
  exact pe_call F hr hg hm hk hb hd pass0 ha hdb he hpl
theorem pe_ghas (h : GHas X.prog X.w X.K X.mg X.base x k ps sp) (hgu : X.A.guards = some []) (hr : Room k X.A) (ha : PA X (e :: es) t) (hg : Gl X x := by rfl) (hdb : (x == ("__debug__" : Str)) = false := by decide)
    (he : starEach (e :: es) X.env = (false, eval e X.env) :: starEach es X.env := by rfl) (hpl : (backTo pos (starEach es X.env)).any (·.1) = false := by rfl) : PE X (.Call (.Name x p) (e :: es) [] pos) (tCall sp [] E0 t) := by
  obtain ⟨f, fd, F, hm, hk, hb⟩ := h
  exact pe_callG F hgu hr hg hm hk hb ha hdb he hpl
end
/-! ### heaps -/
theorem Same.tup {K : PySem.W.Frag} {H H' : Hp} {a : Addr} {xs : List V} (e : Same H H') (h : SqT K H a xs) : SqT K H' a xs := by
  rcases h with (h | ⟨o, h⟩) | h
  · exact .inl (.inl (e _ _ h))
  · exact .inl (.inr ⟨o, e _ _ h⟩)
  · exact .inr h
theorem Same.new {H : Hp} {p : Addr} {o : HO} (h : H p = none) : Same H (upd H p o) := fun b u z => by
  rw [upd_ne (ne_of_none z h)]
  exact z
/-- all but what stands at p -/
def But (p : Addr) (H H' : Hp) : Prop := ∀ b o, b ≠ p → H b = some o → H' b = some o
theorem But.refl (p : Addr) (H : Hp) : But p H H := fun _ _ _ h => h
theorem But.trans {p : Addr} {H H1 H2 : Hp} (a : But p H H1) (b : But p H1 H2) : But p H H2 := fun c o n h => b c o n (a c o n h)
theorem But.of {p : Addr} {H H1 : Hp} (a : Same H H1) : But p H H1 := fun c o _ h => a c o h
theorem But.at {p : Addr} {H : Hp} {o : HO} : But p H (upd H p o) := fun c u n h => by
  rw [upd_ne n]
  exact h
/-- what H does not know may change -/
theorem But.free {p q : Addr} {H H1 : Hp} {o : HO} (a : But p H H1) (h : H q = none) : But p H (upd H1 q o) := fun c u n z => by
  rw [upd_ne (ne_of_none z h)]
  exact a c u n z
theorem Same.free2 {q : Addr} {H H1 : Hp} {o : HO} (a : Same H H1) (h : H q = none) : Same H (upd H1 q o) := fun c u z => by
  rw [upd_ne (ne_of_none z h)]
  exact a c u z
theorem But.none {p q : Addr} {H H1 : Hp} (a : But p H H1) (n : q ≠ p) (h : H1 q = Option.none) : H q = Option.none := by
  cases z : H q with
  | none => rfl
  | some o =>
    rw [a q o n z] at h
    cases h
/-! ### the drawn numbers -/
/-- a pool: two numbers -/
structure Pool (H : Hp) (p : Addr) : Prop where
  ex : ∃ m s : Int, H p = some (.lst [.int m, .int s]) ∧ 0 ≤ m ∧ 0 ≤ s ∧ s < 2147483647
theorem Pool.ne {H : Hp} {p t : Addr} {xs : List V} (h : Pool H p) (ht : H t = some (.tup xs)) : t ≠ p := by
  obtain ⟨m, s, e, _⟩ := h.ex
  intro z
  rw [z, e] at ht
  cases ht
theorem Pool.free {H : Hp} {p q : Addr} (h : Pool H p) (hq : H q = none) : q ≠ p := by
  obtain ⟨m, s, e, _⟩ := h.ex
  intro z
  rw [z, e] at hq
  cases hq
theorem Pool.same {H H' : Hp} {p : Addr} (h : Pool H p) (s : Same H H') : Pool H' p := by
  obtain ⟨m, n, e, r⟩ := h.ex
  exact ⟨m, n, s _ _ e, r⟩
theorem Pool.upd {H : Hp} {p q : Addr} {o : HO} (h : Pool H p) (n : q ≠ p) : Pool (L2.upd H q o) p := by
  obtain ⟨m, k, e, r⟩ := h.ex
  exact ⟨m, k, by rw [upd_ne (Ne.symm n)]; exact e, r⟩
end SE
/-! enumerate(t) and t[::-1] of a tuple. -/
namespace SE
open PySem PySem.Spec PyProof.Rows L2
section
open Sem (wp)
open AutoSeq1 (wpAny_loadPart')
theorem meets_enum_newT (t : Addr) (items : Array Value) (n : Nat) (dct : Option Addr) (sl : Array (Option Value)) :
    Meets (Builtin.«enumerate.__new__» ⟨[.type "enumerate", .ref t], []⟩) (fun _ R s => s.heap.get? t = some { cls := .type "tuple", dict := dct, data := .seq items n, slots := sl } ∧
      R (.ok (.ret (.ref (s.heap.push { cls := .type "tuple_iterator", data := .fields #[.ref t, .int 0 0] }).objs.size)))
        { s with heap := (s.heap.push { cls := .type "tuple_iterator", data := .fields #[.ref t, .int 0 0] }).push { cls := .type "enumerate", data := .fields #[.none, .bool false, .ref s.heap.objs.size, rawInt 0, .none, .none] } }) := by
  refine .of_wp fun prog w A R s h => ?_
  obtain ⟨hp, g, d, tk, os⟩ := s
  obtain ⟨ht, h⟩ := h
  have hsub := sub_enumerate
  have hT : Heap.IsTuple (Shared.heap ⟨hp, g, d, tk, os⟩) t items := ⟨_, ht, rfl, n, rfl⟩
  wp_walk using wpAny_loadPart' ht
  refine wpAny_stack_any fun st => wpAny_pure ?_
  split
  · rename_i c _ _ _ _ _
    cases (c == Value.type "enumerate")
    · wp_walk using wpAny_loadPart' ht, wpAny_pyIter_tuple hT
      exact ⟨_, rfl, h⟩
    · wp_walk using wpAny_loadPart' ht, wpAny_pyIter_tuple hT
      exact ⟨_, rfl, h⟩
  · wp_walk using wpAny_loadPart' ht, wpAny_pyIter_tuple hT
    exact ⟨_, rfl, h⟩
end
section
variable {prog : Program} {w : World} {A : Around} {E : Value → Shared → Prop} {s : Shared}
theorem call_enumT {t : Addr} {items : Array Value} {Q : Value → Shared → Prop} (hT : s.heap.IsTuple t items)
    (h : ∀ h', IsEnum h' (s.heap.objs.size + 1) s.heap.objs.size 0 .none → h'.IsTupleIter s.heap.objs.size t 0 → (∀ b o, s.heap.get? b = some o → h'.get? b = some o) → Q (.ref (s.heap.objs.size + 1)) { s with heap := h' }) :
    wpAny (model prog w) A (call (.type "enumerate") [.ref t]) Q E s := by
  obtain ⟨⟨c, dct, dt, sl⟩, ht, hc, n, hd⟩ := hT
  simp only at hc hd
  subst hc hd
  refine callType_new F.called_enumerate (by decide) (F.typeCall_enumerate_1 _) (F.newCall_enumerate_1 _) (fun obj => F.args_object_init_2 obj _) F.entry_enumerate_new (meets_enum_newT t items n dct sl) ⟨ht, ?_⟩
  have hz : (s.heap.push { cls := .type "tuple_iterator", data := .fields #[.ref t, .int 0 0] }).objs.size = s.heap.objs.size + 1 := Heap.size_push ..
  show _ ∧ _
  rw [hz]
  have he : IsEnum ((s.heap.push { cls := .type "tuple_iterator", data := .fields #[.ref t, .int 0 0] }).push
      { cls := .type "enumerate", data := .fields #[.none, .bool false, .ref s.heap.objs.size, rawInt 0, .none, .none] }) (s.heap.objs.size + 1) s.heap.objs.size 0 .none := by
    have z := Heap.get?_push_size (s.heap.push { cls := .type "tuple_iterator", data := .fields #[.ref t, .int 0 0] })
      (o := { cls := .type "enumerate", data := .fields #[.none, .bool false, .ref s.heap.objs.size, rawInt 0, .none, .none] }) rfl
    rw [hz] at z
    exact z
  exact ⟨⟨_, he, rfl⟩, h _ he ⟨_, Heap.get?_push_of_some _ (Heap.get?_push_size _ rfl), rfl, rfl⟩ fun b o x => Heap.get?_push_of_some _ (Heap.get?_push_of_some _ x)⟩
end
/-- the tuple at a, each item in a new pair -/
def ItE (K : PySem.W.Frag) (a : Addr) : It :=
  ⟨fun i H => ∃ (xs : List V) (x : V), SqT K H a xs ∧ xs[i]? = some x, fun i H v H' => ∃ T x, v = .ref T ∧ H T = none ∧ H' = upd H T (.tup [.int (i : Nat), x]) ∧ ∀ xs, SqT K H a xs → xs[i]? = some x, fun i H => ∃ xs : List V, SqT K H a xs ∧ xs.length ≤ i⟩
theorem turn_enumT {P : Program} {w : World} {K : PySem.W.Frag} {elts : List Expr} {kk : Nat} {tpos : Pos} (a e it : Addr) :
    Turn P w K (.Tuple elts kk tpos) (ItE K a) [e, it] e (fun i h => (∃ old, IsEnum h e it ((i : Nat) : Int) old) ∧ h.IsTupleIter it a i ∧ e ≠ it ∧ a ≠ it ∧ a ≠ e) where
  mem := by simp
  obj := fun i h st b hb => by
    obtain ⟨⟨old, he⟩, ⟨o, ho, hc, hd⟩, _⟩ := st
    have ee : b = e ∨ b = it := by simpa using hb
    rcases ee with z | z
    · rw [z]
      exact ⟨_, he, fun v q => nomatch q⟩
    · rw [z]
      exact ⟨o, ho, fun v q => by rw [hd] at q; cases q⟩
  keep := fun i h h' st k => by
    obtain ⟨⟨old, he⟩, hi, hne⟩ := st
    exact ⟨⟨old, k e (by simp) _ he⟩, (let ⟨o, ho, r⟩ := hi; ⟨o, k it (by simp) o ho, r⟩), hne⟩
  item := by
    intro X hP hw hK hc i pins s σ H E I hf st hg
    subst hP hw hK
    obtain ⟨⟨old, he⟩, hit, hne, hai, hae⟩ := st
    obtain ⟨xs, x, hq, hx⟩ := hg
    obtain ⟨its, rv, p, hz⟩ := I.tuple hq
    obtain ⟨u, hu, ru⟩ := rv.get hx
    have hel : e < s.heap.objs.size := Heap.lt_size he
    have hil : it < s.heap.objs.size := by
      obtain ⟨_, q, _⟩ := hit
      exact Heap.lt_size q
    have hlt : i < its.toArray.size := by
      rw [List.size_toArray, ← rv.length]
      exact (List.getElem?_eq_some_iff.mp hx).1
    have D : Draws X.prog X.w X.A.in1 it [it, a] its.toArray.size (fun j v => its.toArray[j]? = some v) (fun j h => h.IsTupleIter it a j ∧ h.IsTuple a its.toArray) := Draws.tuple (A := X.A.in1) (I.ok.hd hc) it a hai its.toArray
    refine wpAny_pyNext_enum_itemD D he ⟨hit, p⟩ hlt hne (by simp [Ne.symm hae, hne]) fun v h1 tk hv ho hit1 hT hsz hk => ?_
    have ev : v = u := by
      have z : some v = some u := by rw [← hv]; simpa using hu
      exact Option.some.inj z
    subst ev
    refine ⟨_, rfl, wpAny_letOwnedTupleGo_enum (s := { s with heap := h1, toks := tk + 1 }) ho fun h2 he2 sb => ?_⟩
    have hT2 : h2.get? s.heap.objs.size = some { cls := .type "tuple", data := .seq #[.int i tk, v] } := (sb.2 _ (Nat.ne_of_gt hel)).trans hT
    have new : ObjOk X.prog X.w (upd H s.heap.objs.size (.tup [.int (i : Nat), x])) h2 s.heap.objs.size (.tup [.int (i : Nat), x]) :=
      ⟨by show 2 ≤ sizeLine; decide, [.int i tk, v], .cons ⟨_, rfl⟩ (.cons ru .nil), ⟨_, hT2, rfl, _, rfl⟩⟩
    have J : Inv X pins σ (upd H s.heap.objs.size (.tup [.int (i : Nat), x])) { s with heap := h2, toks := tk + 1 } :=
      I.turnedNew (ch := [e, it]) (fun b ob hb q => (sb.2 b (fun z => hb (by simp [z]))).trans (hk b ob (fun z => hb (by simp [z])) (fun z => hb (by simp [z])) q)) hf (Nat.le_refl _) new
    refine ⟨.ref s.heap.objs.size, _, J, rfl, ⟨_, x, rfl, I.hok.fresh (Nat.le_refl _), rfl, fun ys hy => by rw [I.tuple_inj hy hq]; exact hx⟩, ⟨⟨v, ?_⟩, ?_, hne, hai, hae⟩, fun b hb => ?_⟩
    · have e1 : ((i + 1 : Nat) : Int) = (i : Int) + 1 := by omega
      rw [e1]
      exact he2
    · obtain ⟨o, ho2, r⟩ := hit1.1
      exact ⟨o, (sb.2 it (Ne.symm hne)).trans ho2, r⟩
    · have hb2 : b < s.heap.objs.size := by
        have ee : b = e ∨ b = it := by simpa using hb
        rcases ee with z | z
        · rw [z]; exact hel
        · rw [z]; exact hil
      rw [upd_ne (Nat.ne_of_lt hb2)]
      exact (hf b hb).1
  done := by
    intro X hP hw hK hc i pins s σ H E I hf st hg
    subst hP hw hK
    obtain ⟨⟨old, he⟩, hit, hne, hai, hae⟩ := st
    obtain ⟨xs, hq, hx⟩ := hg
    obtain ⟨its, rv, p, hz⟩ := I.tuple hq
    obtain ⟨f0, f1, f2, f3, f4, f5⟩ := hf it (by simp)
    have hl := rv.length
    have D : Draws X.prog X.w X.A.in1 it [it, a] i (fun j v => its.toArray[j]? = some v) (fun j h => j = i ∧ h.IsTupleIter it a i ∧ h.IsTuple a its.toArray ∧ its.toArray.size ≤ i) := by
      have D0 := Draws.tuple (prog := X.prog) (w := X.w) (A := X.A.in1) (I.ok.hd hc) it a hai its.toArray
      refine ⟨fun j h z => D0.live i h ⟨z.2.1, z.2.2.1⟩, fun j h h' z k => ⟨z.1, (D0.frame i h h' ⟨z.2.1, z.2.2.1⟩ k).1, (D0.frame i h h' ⟨z.2.1, z.2.2.1⟩ k).2, z.2.2.2⟩, fun j s Q E hj z k => ?_, fun s Q E z k => ?_⟩
      · exact absurd z.1 (Nat.ne_of_lt hj)
      · exact wpAny_nextOf_tuple_end (I.ok.hd hc) z.2.1 z.2.2.1 (Array.getElem?_eq_none z.2.2.2) k
    exact wpAny_pyNext_enum_endD D he ⟨rfl, hit, p, by rw [List.size_toArray]; omega⟩ fun h' eb => ⟨rfl, I.turned (t' := s.toks) (fun b o hb q => eb b o hb q) f0 f1 f3 f4 f5⟩
  self := fun A i s Q E st h => let ⟨⟨_, he⟩, _⟩ := st; wpAny_pyIter_enum he h
def iEnumT (K : PySem.W.Frag) (ta : TA) : TI := fun σ H R => ta σ H fun vs H1 => ∃ a xs, vs = [.ref a] ∧ SqT K H1 a xs ∧ R (ItE K a) H1
theorem pi_enumT {X : Cx} {e : Expr} {ta : TA} {p pos tpos : Pos} {elts : List Expr} {kk : Nat} (hg : Gl X "enumerate") (hm : X.mg "enumerate" = none) (ha : PA X [e] ta) (hs : starEach [e] X.env = [(false, eval e X.env)] := by rfl) :
    PI X (.Tuple elts kk tpos) (.Call (.Name "enumerate" p) [e] [] pos) (iEnumT X.K ta) := by
  constructor
  intro pins s σ H R I h
  refine Call_ (ld_blt I hg hm boot_enumerate (PyProof.Rows.callWith_type1 (thn (ha.run pos pins s σ H _ I h) fun us s1 hh => ?_) hs rfl))
  obtain ⟨vs, H1, I1, r1, a, xs, ex, hq, q⟩ := hh
  subst ex
  cases r1 with
  | cons r rr =>
    cases rr
    cases r
    obtain ⟨its, rv, p2, hz⟩ := I1.tuple hq
    refine call_enumT p2 fun h2 he hit hk => wpAny_pyIter_enum he ?_
    have I2 : Inv X pins σ H1 { s1 with heap := h2 } := I1.kept (t' := s1.toks) hk
    have hlt : a < s1.heap.objs.size := p2.lt
    refine ⟨s1.heap.objs.size + 1, [s1.heap.objs.size + 1, s1.heap.objs.size], _, _, H1, rfl, I2, turn_enumT a (s1.heap.objs.size + 1) s1.heap.objs.size, ⟨⟨.none, he⟩, hit, Nat.succ_ne_self _, Nat.ne_of_lt hlt, Nat.ne_of_lt (Nat.lt_succ_of_lt hlt)⟩, fun b hb => ?_, q⟩
    have ee : b = s1.heap.objs.size + 1 ∨ b = s1.heap.objs.size := by simpa using hb
    have hle : s1.heap.objs.size ≤ b := by
      rcases ee with z | z
      · rw [z]; exact Nat.le_add_right _ _
      · rw [z]; exact Nat.le_refl _
    exact I1.fpOk hle (I1.hok.fresh hle)
/-! ### t[::-1] -/
section
variable {prog : Program} {w : World} {A : Around} {E : Value → Shared → Prop} {s : Shared}
theorem back_pick (xs : Array Value) (n : Nat) (hn : n = xs.size) : (List.range n).filterMap (fun (m : Nat) => xs[(((n : Int) - 1) + (m : Int) * (-1)).toNat]?) = xs.toList.reverse := by
  subst hn
  have e : (fun (m : Nat) => xs[(((xs.size : Nat) : Int) - 1 + (m : Int) * (-1)).toNat]?) = fun m => xs[xs.size - 1 - m]? := by
    funext m
    have z : (((xs.size : Nat) : Int) - 1 + (m : Int) * (-1)).toNat = xs.size - 1 - m := by omega
    rw [z]
  rw [e]
  have a := PySem.W.krv_pick xs
  have b : PySem.slicePick xs none none (some (-1)) = ((List.range xs.size).filterMap fun m => xs[xs.size - 1 - m]?).toArray := by
    unfold PySem.slicePick
    rw [PySem.W.krv_bounds]
    show ((PySem.sliceRange ((xs.size : Int) - 1) (-1) (-1)).filterMap (xs[·]?)).toArray = _
    rw [PySem.W.krv_sliceRange, List.filterMap_map]
    rfl
  have c := a.symm.trans b
  have d := congrArg Array.toList c
  exact d.symm
theorem applied_back {sl : Addr} {vs : Value} {n : Nat} {Q : Int × Int × Nat → Shared → Prop} (hs : s.heap.IsSliceOf sl .none .none vs) (pv : IsPart vs (some (-1)))
    (h : Q ((n : Int) - 1, -1, n) s) : wpAny (model prog w) A (Builtin.Slice.sliceApplied (.ref sl) (pure (n : Int))) Q E s := by
  obtain ⟨os, hos, hcs, hds⟩ := id hs
  unfold Builtin.Slice.sliceApplied Builtin.Slice.sliceFields
  refine wpAny_bind (wpAny_bind (wpAny_field hos hds (x := .none) rfl (wpAny_bind (wpAny_field hos hds (x := .none) rfl (wpAny_bind (wpAny_field hos hds (x := vs) rfl (wpAny_pure ?_)))))))
  refine wpAny_bind (HT.slicePart_ pv ?_)
  show wpAny _ _ (if ((-1 : Int) == 0) = true then _ else _) _ _ s
  rw [if_neg (by decide)]
  refine wpAny_bind (HT.slicePart_ .none (wpAny_bind (HT.slicePart_ .none (wpAny_bind (wpAny_pure ?_)))))
  show wpAny _ _ (pure ((n : Int) - 1, (-1 : Int), Builtin.Slice.slicePlaces ((n : Int) - 1) (-1) (-1))) _ _ s
  have e : Builtin.Slice.slicePlaces ((n : Int) - 1) (-1) (-1) = n := by
    unfold Builtin.Slice.slicePlaces
    rw [if_neg (by decide)]
    by_cases hn : (n : Int) - 1 > -1
    · rw [if_pos hn, show (- -1 : Int) = 1 by decide, Int.ediv_one]
      omega
    · rw [if_neg hn]
      omega
  rw [e]
  exact wpAny_pure h
theorem item_back {t sl : Addr} {items : Array Value} {vs : Value} {Q : Value → Shared → Prop} (ht : IsTup s.heap t items) (hs : s.heap.IsSliceOf sl .none .none vs) (pv : IsPart vs (some (-1)))
    (h : Q (.ref s.heap.objs.size) { s with heap := s.heap.push { cls := .type "tuple", data := .seq items.toList.reverse.toArray } }) (hsz : items.size ≤ sizeLine) : wpAny (model prog w) A (getItem (.ref t) (.ref sl)) Q E s := by
  have hok : sizeOk (.seq items.toList.reverse.toArray) := by
    show items.toList.reverse.toArray.size ≤ sizeLine
    rw [List.size_toArray, List.length_reverse, Array.length_toList]
    exact hsz
  obtain ⟨os, hos, hcs, hds⟩ := id hs
  have hTs : s.TypeIs (.ref sl) "slice" := ⟨os, hos, hcs⟩
  unfold getItem
  try with_reducible refine wpAny_holding ?_
  first | refine wpAny_bind (wpAny_pure ?_) | skip
  refine wpAny_bind (wpAny_sequenceKey ht.typeIs (by decide) ?_)
  refine wpAny_bind (wpAny_callSpecial?_slot (name := Str.ofString "__getitem__") ht.typeIs PyProof.Rows.slot_tuple_getitem (wpAny_call_entry PyProof.Rows.slot_tuple_getitem ht.typeIs entry_tuple_getitem ?_ (args_tuple_getitem _ _)))
  show wpAny _ _ (Builtin.Tuple.tupleItemsOf (.ref t) >>= _) _ _ s
  refine wpAny_bind (tupleItemsOf_ ht ?_)
  refine wpAny_bind (wpAny_typeOf hTs ?_)
  rw [if_pos (by decide)]
  refine wpAny_bind (applied_back hs pv ?_)
  have hno : ¬ ((((items.size : Int) - 1) == 0 && (-1 : Int) == 1 && items.size == items.size) = true) := by
    intro q
    rw [Bool.and_eq_true, Bool.and_eq_true] at q
    exact absurd q.1.2 (by decide)
  show wpAny _ _ (if (((items.size : Int) - 1) == 0 && (-1 : Int) == 1 && items.size == items.size) = true then _ else _) _ _ s
  rw [if_neg hno, back_pick items items.size rfl]
  first
    | exact wpAny_bind (m := Builtin.Tuple.tupleExact _) (wpAny_newObj_type (wpAny_pure ⟨_, rfl, wpAny_pure h⟩) hok)
    | exact wpAny_bind (m := Builtin.Tuple.tupleExact _) (wpAny_newObj_type (wpAny_bind (wpAny_pure (wpAny_pure ⟨_, rfl, wpAny_pure h⟩))) hok)
    | exact wpAny_bind (wpAny_bind (m := Builtin.Tuple.tupleExact _) (wpAny_newObj_type (wpAny_pure (wpAny_pure ⟨_, rfl, wpAny_pure h⟩)) hok))
    | exact wpAny_bind (wpAny_bind (m := Builtin.Tuple.tupleExact _) (wpAny_newObj_type (wpAny_pure ⟨_, rfl, wpAny_pure h⟩) hok))
end
def tRevT (K : PySem.W.Frag) (te : TE) : TE := fun σ H Q => te σ H fun x H1 => ∃ a xs, x = .ref a ∧ SqT K H1 a xs ∧ ∀ p, H1 p = none → Q (.ref p) (upd H1 p (.tup xs.reverse))
theorem pe_revT {X : Cx} {e : Expr} {te : TE} {k : Nat} {p1 p2 p3 pos : Pos} (he : PE X e te) : PE X (.Subscript e (.Slice none none (some (.UnaryOp .USub (.Constant (.int 1) k p1) p2)) p3) pos) (tRevT X.K te) := by
  constructor
  intro pins s σ H Q I h
  refine Subscript_ (thn (he.run pins s σ H _ I h) fun v s1 hh => ?_)
  obtain ⟨x, H1, I1, r1, a, xs, ex, hx, q⟩ := hh
  subst ex
  cases r1
  have hst : PO X (some (.UnaryOp .USub (.Constant (.int 1) k p1) p2)) (tPart (tUn (rU fun i => .int (-i)) (tC (.int 1)))) := po_some (pe_un un_neg pe_int)
  refine wpAny_Slice (thn (po_none.run pins s1 σ H1 (fun o H2 => o = none ∧ H2 = H1) I1 ⟨rfl, rfl⟩) fun vl s2 hl => ?_)
  obtain ⟨l, H2, I2, pl, el, e2⟩ := hl
  subst el e2
  refine thn (po_none.run pins s2 σ H2 (fun o H3 => o = none ∧ H3 = H2) I2 ⟨rfl, rfl⟩) fun vu s3 hu => ?_
  obtain ⟨u, H3, I3, pu, eu, e3⟩ := hu
  subst eu e3
  refine thn (hst.run pins s3 σ H3 (fun o H4 => o = some (-1) ∧ H4 = H3) I3 ⟨1, rfl, -1, rfl, rfl, rfl⟩) fun vs s4 ho => ?_
  obtain ⟨o, H4, I4, ps, eo, e4⟩ := ho
  subst eo e4
  cases pl
  cases pu
  have I5 : Inv X pins σ H4 { s4 with heap := s4.heap.push { cls := .type "slice", data := .fields #[.none, .none, vs] } } := I4.kept (t' := s4.toks) fun b ob q => Heap.get?_push_of_some _ q
  obtain ⟨its, r, ht, hz⟩ := I5.tuple hx
  have hlen := r.length
  show wpAny (model X.prog X.w) X.A (subscriptTail e (.Slice none none (some (.UnaryOp .USub (.Constant (.int 1) k p1) p2)) p3) (.ref a) (.ref s4.heap.objs.size)) (EP X pins σ Q) X.xe { s4 with heap := s4.heap.push { cls := .type "slice", data := .fields #[.none, .none, vs] } }
  refine tail_any (ops := [.ref a, .ref s4.heap.objs.size]) ht.typeIs (PyProof.Rows.slot_tuple_getitem.lookup) ?_ (by with_unfolding_all rfl)
  refine item_back ht (Heap.IsSliceOf.new _ .none .none vs) ps ?_ (by rw [List.size_toArray]; omega)
  refine ⟨.ref _, _, I5.laid (t' := s4.toks) (o := .tup xs.reverse) (fun b ob q => Heap.get?_push_of_some _ q) (Nat.le_refl _) ?_, rfl, q _ (I5.hok.fresh (Nat.le_refl _))⟩
  exact ⟨by rw [List.length_reverse]; exact hz, _, r.reverse, IsTup.new _ _⟩
end SE
/-! Plain data: texts, steps; when they are equal, how they are shown. -/
namespace SE
open PySem PySem.Spec PyProof.Rows L2
/-- a text that is an item -/
structure Item (z : Str) : Prop where
  pos : 1 ≤ z.length
  most : z.length ≤ 8
  low : ∀ c ∈ z.cps.toList, 97 ≤ c ∧ c ≤ 122
/-- data that may be compared and shown: its depth, its weight -/
structure Nice (k B : Nat) (d : PyData) : Prop where
  lay : d.canLay0 = true
  dep : d.depth ≤ k
  sh : d.showable = true
  nd : d.hasDict = false
  ish : d.intsShort 13 = true
  wt : d.weight ≤ B
theorem Nice.mono {k j B C : Nat} {d : PyData} (h : Nice k B d) (hk : k ≤ j) (hB : B ≤ C) : Nice j C d := ⟨h.lay, Nat.le_trans h.dep hk, h.sh, h.nd, h.ish, Nat.le_trans h.wt hB⟩
theorem nice_str {z : Str} {B : Nat} (hc : ∀ c ∈ z.cps.toList, c < 0x110000) (hB : z.length ≤ B) : Nice 0 B (.str z) := by
  refine ⟨?_, ?_, ?_, ?_, ?_, ?_⟩
  · simp only [PyData.canLay0, PyData.strOk]
    rw [← Array.all_toList, List.all_eq_true]
    intro c h
    exact decide_eq_true (hc c h)
  · simp only [PyData.depth]
    exact Nat.le_refl _
  · simp only [PyData.showable]
  · simp only [PyData.hasDict]
  · simp only [PyData.intsShort]
  · simp only [PyData.weight]
    exact hB
theorem Item.nice {z : Str} (h : Item z) : Nice 0 8 (.str z) := nice_str (fun c hc => by have := (h.low c hc).2; omega) h.most
theorem nice_all {k B : Nat} : ∀ {ds : List PyData}, (∀ d ∈ ds, Nice k B d) → PyData.canLayAll0 ds = true ∧ PyData.depthAll ds ≤ k ∧ PyData.showableAll ds = true ∧ PyData.hasDictAll ds = false ∧ PyData.intsShortAll 13 ds = true ∧ PyData.weightAll ds ≤ ds.length * (B + 1)
  | [], _ => by
    refine ⟨?_, ?_, ?_, ?_, ?_, ?_⟩
    · simp only [PyData.canLayAll0]
    · simp only [PyData.depthAll]
      exact Nat.zero_le _
    · simp only [PyData.showableAll]
    · simp only [PyData.hasDictAll]
    · simp only [PyData.intsShortAll]
    · simp only [PyData.weightAll]
      exact Nat.zero_le _
  | d :: ds, h => by
    obtain ⟨a1, a2, a3, a4, a5, a6⟩ := nice_all (ds := ds) fun x hx => h x (List.mem_cons_of_mem _ hx)
    have q := h d List.mem_cons_self
    refine ⟨?_, ?_, ?_, ?_, ?_, ?_⟩
    · simp only [PyData.canLayAll0, q.lay, a1, Bool.and_self]
    · simp only [PyData.depthAll]
      exact Nat.max_le.mpr ⟨q.dep, a2⟩
    · simp only [PyData.showableAll, q.sh, a3, Bool.and_self]
    · simp only [PyData.hasDictAll, q.nd, a4, Bool.or_self]
    · simp only [PyData.intsShortAll, q.ish, a5, Bool.and_self]
    · simp only [PyData.weightAll, List.length_cons]
      have := q.wt
      rw [Nat.add_mul]
      omega
theorem nice_list {k B : Nat} {ds : List PyData} (h : ∀ d ∈ ds, Nice k B d) : Nice (k + 1) (ds.length * (B + 1)) (.list ds) := by
  obtain ⟨a1, a2, a3, a4, a5, a6⟩ := nice_all h
  exact ⟨by simp only [PyData.canLay0]; exact a1, by simp only [PyData.depth]; omega, by simp only [PyData.showable]; exact a3, by simp only [PyData.hasDict]; exact a4, by simp only [PyData.intsShort]; exact a5, by simp only [PyData.weight]; exact a6⟩
theorem nice_tuple {k B : Nat} {ds : List PyData} (h : ∀ d ∈ ds, Nice k B d) : Nice (k + 1) (ds.length * (B + 1)) (.tuple ds) := by
  obtain ⟨a1, a2, a3, a4, a5, a6⟩ := nice_all h
  exact ⟨by simp only [PyData.canLay0]; exact a1, by simp only [PyData.depth]; omega, by simp only [PyData.showable]; exact a3, by simp only [PyData.hasDict]; exact a4, by simp only [PyData.intsShort]; exact a5, by simp only [PyData.weight]; exact a6⟩
theorem Nice.shaped {k B : Nat} {d : PyData} (h : Nice k B d) (hk : k ≤ 64) : SeqAt.shaped d = true := by
  unfold SeqAt.shaped
  rw [h.lay, Bool.true_and]
  exact decide_eq_true (Nat.le_trans h.dep hk)
theorem Nice.shown {k B : Nat} {d : PyData} (h : Nice k B d) (hk : k ≤ 64) (hB : B ≤ 2 ^ 20) : d.shown.length ≤ sizeLine := by
  refine PyData.shown_fits_of_layable0 (B := 13) (by decide) (by decide) ?_ h.ish
  unfold PyData.layable0
  rw [h.lay, Bool.true_and, Bool.and_eq_true]
  exact ⟨decide_eq_true (Nat.le_trans h.dep hk), decide_eq_true (Nat.le_trans h.wt hB)⟩
theorem Nice.eqv {k B : Nat} {d : PyData} (h : Nice k B d) : PyData.eqv d d = true := SeqAt.eqv_refl d h.lay
/-! ### texts -/
theorem dp_strs {K : PySem.W.Frag} {H : Hp} : ∀ zs : List Str, DpAll K H (zs.map V.str) (zs.map PyData.str)
  | [] => .nil
  | z :: zs => .cons (.str z) (dp_strs zs)
theorem eqvAll_strs : ∀ a b : List Str, PyData.eqvAll (a.map .str) (b.map .str) = decide (a = b)
  | [], [] => by simp [PyData.eqvAll]
  | [], y :: b => by simp [PyData.eqvAll]
  | x :: a, [] => by simp [PyData.eqvAll]
  | x :: a, y :: b => by
    rw [List.map_cons, List.map_cons]
    unfold PyData.eqvAll
    rw [eqvAll_strs a b]
    unfold PyData.eqv
    by_cases e : x = y
    · subst e
      simp
    · simp [e]
theorem eqv_listS (a b : List Str) : PyData.eqv (.list (a.map .str)) (.list (b.map .str)) = decide (a = b) := by
  unfold PyData.eqv
  exact eqvAll_strs a b
theorem eqv_tupS (a b : List Str) : PyData.eqv (.tuple (a.map .str)) (.tuple (b.map .str)) = decide (a = b) := by
  unfold PyData.eqv
  exact eqvAll_strs a b
theorem nice_strs {zs : List Str} (h : ∀ z ∈ zs, Item z) : ∀ d ∈ zs.map PyData.str, Nice 0 8 d := by
  intro d hd
  obtain ⟨z, hz, rfl⟩ := List.mem_map.mp hd
  exact (h z hz).nice
/-! ### steps -/
abbrev Stp := Bool × Str
def act (b : Bool) : Str := if b then "push" else "pop"
theorem act_nice (b : Bool) : Nice 0 8 (.str (act b)) := by
  cases b
  · exact nice_str (by decide +kernel) (by decide +kernel)
  · exact nice_str (by decide +kernel) (by decide +kernel)
def stepD (s : Stp) : PyData := .tuple [.str (act s.1), .str s.2]
theorem stepD_nice {s : Stp} (h : Item s.2) : Nice 1 18 (stepD s) := by
  refine (nice_tuple (k := 0) (B := 8) (ds := [.str (act s.1), .str s.2]) ?_).mono (Nat.le_refl _) (by show 2 * 9 ≤ 18; decide)
  intro d hd
  rcases List.mem_cons.mp hd with q | q
  · rw [q]
    exact act_nice _
  · rw [List.mem_singleton.mp q]
    exact h.nice
/-- a step -/
def StepV (K : PySem.W.Frag) (H : Hp) (v : V) (s : Stp) : Prop := ∃ t, v = .ref t ∧ SqT K H t [.str (act s.1), .str s.2]
abbrev StepsV (K : PySem.W.Frag) (H : Hp) : List V → List Stp → Prop := Paired (StepV K H)
theorem StepV.same {K : PySem.W.Frag} {H H' : Hp} {v : V} {s : Stp} (h : StepV K H v s) (e : Same H H') : StepV K H' v s := by
  obtain ⟨t, rfl, q⟩ := h
  exact ⟨t, rfl, Same.tup e q⟩
theorem StepsV.same {K : PySem.W.Frag} {H H' : Hp} {xs : List V} {ss : List Stp} (h : StepsV K H xs ss) (e : Same H H') : StepsV K H' xs ss := Paired.mapP h fun _ _ q => q.same e
theorem StepsV.at {K : PySem.W.Frag} {H : Hp} : ∀ {xs : List V} {ss : List Stp} {i : Nat} {v : V}, StepsV K H xs ss → xs[i]? = some v → ∃ s, ss[i]? = some s ∧ StepV K H v s
  | _, _, _, _, .nil, h => by simp at h
  | _, _, 0, _, .cons a _, h => by
    have e := Option.some.inj h
    subst e
    exact ⟨_, rfl, a⟩
  | _, _, i + 1, _, .cons _ r, h => StepsV.at (i := i) r h
theorem dp_steps {K : PySem.W.Frag} {H : Hp} : ∀ {xs : List V} {ss : List Stp}, StepsV K H xs ss → DpAll K H xs (ss.map stepD)
  | _, _, .nil => .nil
  | _, _, .cons a r => by
    obtain ⟨t, rfl, q⟩ := a
    exact .cons (.tup q (.cons (.str _) (.cons (.str _) .nil))) (dp_steps r)
theorem nice_steps {ss : List Stp} (h : ∀ s ∈ ss, Item s.2) : ∀ d ∈ ss.map stepD, Nice 1 18 d := by
  intro d hd
  obtain ⟨s, hs, rfl⟩ := List.mem_map.mp hd
  exact stepD_nice (h s hs)
theorem StepsV.rev {K : PySem.W.Frag} {H : Hp} : ∀ {xs : List V} {ss : List Stp}, StepsV K H xs ss → StepsV K H xs.reverse ss.reverse
  | _, _, .nil => .nil
  | _, _, .cons a r => by
    rw [List.reverse_cons, List.reverse_cons]
    exact (StepsV.rev r).snoc a
/-- the exchange of push and pop -/
def flip1 (s : Stp) : Stp := (!s.1, s.2)
def revM (ss : List Stp) : List Stp := ss.reverse.map flip1
/-- what a step makes of a stack -/
def stepM (s : Stp) (zs : List Str) : Option (List Str) := if s.1 then some (s.2 :: zs) else match zs with
  | [] => none
  | z :: r => if z = s.2 then some r else none
def runM : List Stp → List Str → Option (List Str)
  | [], zs => some zs
  | s :: ss, zs => match stepM s zs with
    | none => none
    | some ws => runM ss ws
theorem runM_append : ∀ (a b : List Stp) (zs : List Str), runM (a ++ b) zs = (runM a zs).bind (runM b)
  | [], b, zs => rfl
  | s :: a, b, zs => by
    show (match stepM s zs with | none => none | some ws => runM (a ++ b) ws) = (match stepM s zs with | none => none | some ws => runM a ws).bind (runM b)
    cases stepM s zs with
    | none => rfl
    | some ws => exact runM_append a b ws
theorem stepM_flip {s : Stp} {zs ws : List Str} (h : stepM s zs = some ws) : stepM (flip1 s) ws = some zs := by
  obtain ⟨b, x⟩ := s
  cases b with
  | true =>
    have e : x :: zs = ws := by
      have q : some (x :: zs) = some ws := h
      exact Option.some.inj q
    subst e
    show (if x = x then some zs else none) = some zs
    rw [if_pos rfl]
  | false =>
    cases zs with
    | nil => exact absurd h (by intro q; cases q)
    | cons z r =>
      have q : (if z = x then some r else none) = some ws := h
      by_cases e : z = x
      · rw [if_pos e] at q
        have e2 := Option.some.inj q
        subst e2
        subst e
        rfl
      · rw [if_neg e] at q
        cases q
theorem runM_rev : ∀ (ss : List Stp) (zs ws : List Str), runM ss zs = some ws → runM (revM ss) ws = some zs
  | [], zs, ws, h => by
    have e : zs = ws := Option.some.inj h
    subst e
    rfl
  | s :: ss, zs, ws, h => by
    have h' : (match stepM s zs with | none => none | some ys => runM ss ys) = some ws := h
    cases e : stepM s zs with
    | none =>
      rw [e] at h'
      cases h'
    | some ys =>
      rw [e] at h'
      have ih := runM_rev ss ys ws h'
      show runM ((s :: ss).reverse.map flip1) ws = some zs
      rw [List.reverse_cons, List.map_append, runM_append]
      have ih' : runM (ss.reverse.map flip1) ws = some ys := ih
      rw [ih']
      show (match stepM (flip1 s) ys with | none => none | some ws => runM [] ws) = some zs
      rw [stepM_flip e]
      rfl
theorem revM_revM (ss : List Stp) : revM (revM ss) = ss := by
  unfold revM
  rw [← List.map_reverse, List.reverse_reverse, List.map_map]
  have e : flip1 ∘ flip1 = id := by
    funext s
    obtain ⟨b, x⟩ := s
    cases b <;> rfl
  rw [e, List.map_id]
theorem revM_items {ss : List Stp} (h : ∀ s ∈ ss, Item s.2) : ∀ s ∈ revM ss, Item s.2 := by
  intro s hs
  obtain ⟨t, ht, rfl⟩ := List.mem_map.mp hs
  exact h t (List.mem_reverse.mp ht)
theorem stepM_items {s : Stp} {zs ws : List Str} (h : stepM s zs = some ws) (hs : Item s.2) (hz : ∀ z ∈ zs, Item z) : ∀ z ∈ ws, Item z := by
  obtain ⟨b, x⟩ := s
  cases b with
  | true =>
    have e : x :: zs = ws := Option.some.inj (show some (x :: zs) = some ws from h)
    subst e
    intro z m
    rcases List.mem_cons.mp m with q | q
    · rw [q]
      exact hs
    · exact hz z q
  | false =>
    cases zs with
    | nil => exact absurd h (by intro q; cases q)
    | cons y r =>
      have q : (if y = x then some r else none) = some ws := h
      by_cases e : y = x
      · rw [if_pos e] at q
        have e2 := Option.some.inj q
        subst e2
        exact fun z m => hz z (List.mem_cons_of_mem _ m)
      · rw [if_neg e] at q
        cases q
theorem stepM_len {s : Stp} {zs ws : List Str} (h : stepM s zs = some ws) : ws.length ≤ zs.length + 1 := by
  obtain ⟨b, x⟩ := s
  cases b with
  | true =>
    have e : x :: zs = ws := Option.some.inj (show some (x :: zs) = some ws from h)
    subst e
    exact Nat.le_refl _
  | false =>
    cases zs with
    | nil => exact absurd h (by intro q; cases q)
    | cons y r =>
      have q : (if y = x then some r else none) = some ws := h
      by_cases e : y = x
      · rw [if_pos e] at q
        have e2 := Option.some.inj q
        subst e2
        rw [List.length_cons]
        omega
      · rw [if_neg e] at q
        cases q
end SE
namespace SE
open PySem PySem.Spec PyProof.Rows L2
def topS (i : Nat) : Stmt := PySem.Challenge.pw_stackeffect_k51_effects_on_several_stack.main.body.getD i (.Pass ⟨0, 0, 0, 0⟩)
abbrev sWall : Stmt := topS 0
abbrev sStackerror : Stmt := topS 2
abbrev sInvalidword : Stmt := topS 3
abbrev sInvalidsteps : Stmt := topS 4
abbrev sInvalidnumber : Stmt := topS 5
abbrev sIsWhole : Stmt := topS 7
abbrev sIsItem : Stmt := topS 13
abbrev sIsWord : Stmt := topS 14
abbrev sIsStep : Stmt := topS 15
abbrev sMayHold : Stmt := topS 16
abbrev sChkSteps : Stmt := topS 17
abbrev sChkWord : Stmt := topS 18
abbrev sLeastPeak : Stmt := topS 20
abbrev sEffect : Stmt := topS 21
abbrev sJoined : Stmt := topS 22
abbrev sPartsOfStep : Stmt := topS 23
abbrev sEffectOf : Stmt := topS 24
abbrev sIsNamedStep : Stmt := topS 26
abbrev sCheckNamedSteps : Stmt := topS 27
abbrev sSplit : Stmt := topS 28
abbrev sEffectsOf : Stmt := topS 29
abbrev sPool : Stmt := topS 31
abbrev sTake : Stmt := topS 32
abbrev sName : Stmt := topS 33
abbrev sItems : Stmt := topS 34
abbrev sSteps : Stmt := topS 35
abbrev sWord : Stmt := topS 36
abbrev sLawNamed : Stmt := topS 37
abbrev sLawNamedWell : Stmt := topS 38
abbrev sLawParts : Stmt := topS 39
abbrev sLawEffect : Stmt := topS 40
abbrev sRight : Stmt := topS 41
abbrev sLaw : Stmt := topS 42
end SE
namespace SE
open PySem PySem.Spec PyProof.Rows L2
section
variable {P : Program} {w : World} {K : PySem.W.Frag} {mg : Str → Option Value} {base : Heap}
/-! ### _law_take -/
def spTake : Sp := fun xs H Q _ => ∃ (p : Addr) (n : Int), xs = [.ref p, .int n] ∧ Pool H p ∧ 1 ≤ n ∧ n ≤ 100000 ∧
  ∀ (r : Int) (H' : Hp), But p H H' → Pool H' p → 0 ≤ r → r < n → Q (.int r) H'
theorem scTake : FnScope ["_law_pool_here", "_law_many", "_law_found"] ["_law_pool_here", "_law_many"] (defScope sTake) := ⟨rfl, rfl, rfl, by decide +kernel, rfl, by decide +kernel, by decide +kernel⟩
theorem has_take (D : Def K mg "_law_take" sTake) : Has P w K mg base "_law_take" 1 ["_law_pool_here", "_law_many"] [] spTake := by
  refine has_of D scTake (fun _ _ _ _ _ _ us hl => match us, hl with | [_, _], _ => rfl) (fun xs H Q E h => ?_) (fun f cv A out s H xs Q E hr h => ?_)
  · obtain ⟨p, n, rfl, _⟩ := h
    rfl
  · obtain ⟨p, n, rfl, hp, h1, h2, k⟩ := h
    obtain ⟨m, z, e, hm, hz0, hz1⟩ := hp.ex
    have a0 : atI [V.int m, V.int z] 0 = some (.int m) := atI_nat (j := 0) rfl
    refine ⟨_, pss_cons (ps_if (pt_cmpR op_gt (pe_ix ix_list (pv 0) pe_int (fun _ _ => rfl)) pe_int (nomark _))
        (pss_cons (ps_set (i := 2) scTake.nd rfl (.inl rfl) (pe_op op_modN (pe_ix ix_list (pv 0) pe_int (fun _ _ => rfl)) (pv 1)))
        (pss_cons (ps_asg (pe_op op_fdivN (pe_ix ix_list (pv 0) pe_int (fun _ _ => rfl)) (pv 1)) (pg_sub (pv 0) pe_int set_list))
        (pss_one (ps_ret (pv 2))))) pss_nil)
      (pss_cons (ps_asg (pe_op op_mod (pe_op op_add (pe_op op_mul (pe_ix ix_list (pv 0) pe_int (fun _ _ => rfl)) pe_int) pe_int) pe_int) (pg_sub (pv 0) pe_int set_list))
      (pss_one (ps_ret (pe_op op_modN (pe_op op_fdiv (pe_op op_mod (pe_op op_mul (pe_ix ix_list (pv 0) pe_int (fun _ _ => rfl)) (pe_ix ix_list (pv 0) pe_int (fun _ _ => rfl))) pe_int) pe_int) (pv 1))))), ?_⟩
    refine ⟨.ref p, rfl, p, _, 0, _, rfl, rfl, .of e, a0, m, 0, rfl, rfl, _, rfl, ite2 (fun c => ?_) (fun c => ?_)⟩
    · refine ⟨.ref p, rfl, p, _, 0, _, rfl, rfl, .of e, a0, .int n, rfl, m, n, rfl, rfl, (by omega), ?_⟩
      refine ⟨.ref p, rfl, p, _, 0, _, rfl, rfl, .of e, a0, .int n, rfl, m, n, rfl, rfl, ⟨by omega, by omega⟩, .ref p, rfl, p, _, 0, 0, rfl, rfl, e, rfl, ?_⟩
      refine ⟨_, rfl, k _ _ .at ⟨m.fdiv n, z, upd_same, ?_, hz0, hz1⟩ ?_ ?_⟩
      · rw [Int.fdiv_eq_ediv_of_nonneg _ (by omega)]
        exact Int.ediv_nonneg hm (by omega)
      · rw [Int.fmod_eq_emod_of_nonneg _ (by omega)]
        exact Int.emod_nonneg _ (by omega)
      · rw [Int.fmod_eq_emod_of_nonneg _ (by omega)]
        exact Int.emod_lt_of_pos _ (by omega)
    · have a1 : atI [V.int m, V.int z] 1 = some (.int z) := atI_nat (j := 1) rfl
      refine ⟨.ref p, rfl, p, _, 1, _, rfl, rfl, .of e, a1, z, 48271, rfl, rfl, .inl ⟨by omega, by omega⟩, _, 11, rfl, rfl, _, 2147483647, rfl, rfl, (by show (0 : Int) < 2147483647; decide), .ref p, rfl, p, _, 1, 1, rfl, rfl, e, rfl, ?_⟩
      have q0 : 0 ≤ (z * 48271 + 11) % 2147483647 := Int.emod_nonneg _ (by omega)
      have q1 : (z * 48271 + 11) % 2147483647 < 2147483647 := Int.emod_lt_of_pos _ (by omega)
      have e' : (upd H p (.lst ([V.int m, V.int z].set 1 (.int ((z * 48271 + 11) % 2147483647))))) p = some (.lst [V.int m, .int ((z * 48271 + 11) % 2147483647)]) := upd_same
      have a1' : atI [V.int m, V.int ((z * 48271 + 11) % 2147483647)] 1 = some (.int ((z * 48271 + 11) % 2147483647)) := atI_nat (j := 1) rfl
      refine ⟨.ref p, rfl, p, _, 1, _, rfl, rfl, .of e', a1', .ref p, rfl, p, _, 1, _, rfl, rfl, .of e', a1', ((z * 48271 + 11) % 2147483647), ((z * 48271 + 11) % 2147483647), rfl, rfl, .inl ⟨by omega, by omega⟩, _, 2147483629, rfl, rfl, (by show (0 : Int) < 2147483629; decide), _, 64, rfl, rfl, ⟨by decide, by decide⟩, .int n, rfl, _, n, rfl, rfl, (by omega), ?_⟩
      refine k _ _ .at ⟨m, ((z * 48271 + 11) % 2147483647), upd_same, hm, q0, q1⟩ ?_ ?_
      · rw [Int.fmod_eq_emod_of_nonneg _ (by omega)]
        exact Int.emod_nonneg _ (by omega)
      · rw [Int.fmod_eq_emod_of_nonneg _ (by omega)]
        exact Int.emod_lt_of_pos _ (by omega)
/-! ### _law_pool -/
def spPool (K : PySem.W.Frag) : Sp := fun xs H Q _ => ∃ (a : Addr) (ns : List Int) (i : Int), xs = [.ref a, .int i] ∧ SqL K H a (ns.map V.int) ∧ 0 ≤ i ∧ i ≤ 63 ∧
  ∀ (p : Addr) (H' : Hp), Same H H' → H p = none → Pool H' p → Q (.ref p) H'
theorem scPool : FnScope ["_law_script", "_law_k", "_law_cell", "_law_size", "_law_seed"] ["_law_script", "_law_k"] (defScope sPool) := ⟨rfl, rfl, rfl, by decide +kernel, rfl, by decide +kernel, by decide +kernel⟩
theorem has_pool (D : Def K mg "_law_pool" sPool) (ml : mg "len" = none) (ma : mg "abs" = none) (mi : mg "int" = none) : Has P w K mg base "_law_pool" 1 ["_law_script", "_law_k"] [] (spPool K) := by
  refine has_of D scPool (fun _ _ _ _ _ _ us hl => match us, hl with | [_, _], _ => rfl) (fun xs H Q E h => ?_) (fun f cv A out s H xs Q E hr h => ?_)
  · obtain ⟨a, ns, i, rfl, _⟩ := h
    rfl
  · obtain ⟨a, ns, i, rfl, hS, h0, h1, k⟩ := h
    refine ⟨_, pss_cons (ps_set (i := 2) scPool.nd rfl (.inl rfl) pe_int)
      (Evl.pss_cut (ps_if (pt_cmpR op_lt (pv 1) (pe_callB call_len_seq (by rfl) ml PySem.boot_len (pa_cons (pv 0) pa_nil)) (nomark _))
        (pss_one (ps_set (i := 2) scPool.nd rfl (.inl rfl) (pe_ix ix_list (pv 0) (pv 1) (fun _ _ => rfl)))) pss_nil)
      (pss_cons (ps_set (i := 3) scPool.nd rfl (.inl rfl) (pe_callB call_abs (by rfl) ma (by decide +kernel) (pa_cons (pv 2) pa_nil)))
      (pss_cons (ps_set (i := 4) scPool.nd rfl (.inl rfl) (pe_op op_mod (pe_op op_pow (pe_op op_add (pe_op op_add (pe_op op_add (pe_op op_mod (pv 2) pe_int) (pe_op op_mul (pe_op op_mul pe_int (pv 1)) (pv 1))) (pe_op op_mul pe_int (pv 1))) pe_int) pe_int) pe_int))
      (pss_one (ps_ret (pe_lst (pa_cons (pe_op op_mul (pv 3) (pe_callTy call_int1 (by rfl) mi (by decide +kernel) (pa_cons (pe_cmpR op_ge (pv 3) (pe_op op_pow pe_int pe_int) (nomark _)) pa_nil))) (pa_cons (pv 4) pa_nil)))))))), ?_⟩
    refine ⟨fun σ H2 => H2 = H ∧ ∃ c : Int, σ = [some (.ref a), some (.int i), some (.int c), none, none], ?_, ?_⟩
    · refine ⟨_, rfl, .ref a, rfl, a, _, rfl, .inl hS, i, _, rfl, rfl, _, rfl, ite2 (fun c => ?_) (fun c => ?_)⟩
      · have hi : i < ((ns.map V.int).length : Int) := of_decide_eq_true c
        rw [List.length_map] at hi
        have hj : i.toNat < ns.length := by omega
        refine ⟨.ref a, rfl, .int i, rfl, a, _, i, .int ns[i.toNat], rfl, rfl, hS, at_of (j := i.toNat) (by omega) ?_, rfl, ns[i.toNat], rfl⟩
        rw [List.getElem?_map, List.getElem?_eq_getElem hj]
        rfl
      · exact ⟨rfl, 0, rfl⟩
    · rintro σ H2 ⟨rfl, c, rfl⟩
      refine ⟨_, rfl, c, rfl, ?_⟩
      refine ⟨_, rfl, c, 2147483629, rfl, rfl, (by show (0 : Int) < 2147483629; decide), _, rfl, 104729, i, rfl, rfl, .inl ⟨by decide, by decide⟩, _, rfl, _, i, rfl, rfl, .inr ⟨by omega, by omega⟩, _, _, rfl, rfl, _, rfl, 7919, i, rfl, rfl, .inl ⟨by decide, by decide⟩, _, _, rfl, rfl, _, 11, rfl, rfl, _, 3, rfl, rfl, ⟨by decide, by decide, ?_⟩, _, 2147483647, rfl, rfl, (by show (0 : Int) < 2147483647; decide), ?_⟩
      · have b0 : 0 ≤ c % 2147483629 := Int.emod_nonneg _ (by omega)
        have b1 : c % 2147483629 < 2147483629 := Int.emod_lt_of_pos _ (by omega)
        have b2 : 0 ≤ 104729 * i * i := Int.mul_nonneg (by omega) h0
        have b3 : 104729 * i * i ≤ 104729 * 63 * 63 := Int.mul_le_mul (by omega) h1 h0 (by omega)
        omega
      · have t0 : ∀ y : Int, 0 ≤ y ^ 3 % 2147483647 ∧ y ^ 3 % 2147483647 < 2147483647 := fun y => ⟨Int.emod_nonneg _ (by omega), Int.emod_lt_of_pos _ (by omega)⟩
        have u0 : 0 ≤ (if c < 0 then -c else c) := by
          split <;> omega
        refine ⟨_, rfl, _, rfl, 10, 18, rfl, rfl, ⟨by decide, by decide, by decide⟩, _, _, rfl, rfl, .inr ⟨_, rfl, ?_⟩⟩
        have b01 : ∀ b : Bool, (0 : Int) ≤ (if b = true then 1 else 0) ∧ (if b = true then (1 : Int) else 0) ≤ 1 := fun b => by cases b <;> decide
        have g := b01 (decide (10 ^ Int.toNat 18 ≤ if c < 0 then -c else c))
        refine ⟨_, _, rfl, rfl, .inr ⟨by omega, by omega⟩, _, rfl, (by show 2 ≤ sizeLine; decide), fun p hp => k p _ (Same.new hp) hp ⟨_, _, upd_same, Int.mul_nonneg u0 g.1, (t0 _).1, (t0 _).2⟩⟩
end
end SE
namespace SE
open PySem PySem.Spec PyProof.Rows L2
theorem len_add (x y : Str) : (x ++ y).length = x.length + y.length := by
  show (x.cps ++ y.cps).size = _
  rw [Array.size_append]
  rfl
theorem cps_add (x y : Str) : (x ++ y).cps.toList = x.cps.toList ++ y.cps.toList := by
  show (x.cps ++ y.cps).toList = _
  exact Array.toList_append
abbrev abc : Str := Str.ofString "abcdefghijklmnopqrstuvwxyz"
theorem abc_len : abc.length = 26 := by decide +kernel
theorem abc_at (i : Nat) (h : i < 26) : ∃ c, abc.cps[i]? = some c ∧ 97 ≤ c ∧ c ≤ 122 := by
  have q : ∀ j : Fin 26, (abc.cps[j.1]?).any (fun c => decide (97 ≤ c) && decide (c ≤ 122)) = true := by decide +kernel
  have z := q ⟨i, h⟩
  simp only [Option.any_eq_true, Bool.and_eq_true, decide_eq_true_eq] at z
  obtain ⟨c, h1, h2, h3⟩ := z
  exact ⟨c, h1, h2, h3⟩
section
variable {P : Program} {w : World} {K : PySem.W.Frag} {mg : Str → Option Value} {base : Heap}
/-! ### _law_name -/
def spName : Sp := fun xs H Q _ => ∃ (p : Addr), xs = [.ref p] ∧ Pool H p ∧ ∀ (z : Str) (H' : Hp), But p H H' → Pool H' p → Item z → Q (.str z) H'
theorem scName : FnScope ["_law_pool_here", "_law_letters", "_law_found", "_law_turn"] ["_law_pool_here"] (defScope sName) := ⟨rfl, rfl, rfl, by decide +kernel, rfl, by decide +kernel, by decide +kernel⟩
theorem has_name (D : Def K mg "_law_name" sName) (GT : Has P w K mg base "_law_take" 1 ["_law_pool_here", "_law_many"] [] spTake) (mr : mg "range" = none) : Has P w K mg base "_law_name" 2 ["_law_pool_here"] [] spName := by
  refine has_of D scName (fun _ _ _ _ _ _ us hl => match us, hl with | [_], _ => rfl) (fun xs H Q E h => ?_) (fun f cv A out s H xs Q E hr h => ?_)
  · obtain ⟨p, rfl, _⟩ := h
    rfl
  · obtain ⟨p, rfl, hp, k⟩ := h
    refine ⟨_, pss_cons (ps_set (i := 1) scName.nd rfl (.inl rfl) pe_str)
      (pss_cons (ps_set (i := 2) scName.nd rfl (.inl rfl) (pe_item_str (pv 1) (pe_has GT hr (pa_cons (pv 0) (pa_cons pe_int pa_nil))) (fun _ _ => rfl)))
      (pss_cons (ps_for PassesOwn.never rfl (pi_range1 (by rfl) mr (pa_cons (pe_has GT hr (pa_cons (pv 0) (pa_cons pe_int pa_nil))) pa_nil)) (pg_name (i := 3) scName.nd rfl (.inl rfl))
        (pss_one (ps_set (i := 2) scName.nd rfl (.inl rfl) (pe_op op_add_str (pv 2) (pe_item_str (pv 1) (pe_has GT hr (pa_cons (pv 0) (pa_cons pe_int pa_nil))) (fun _ _ => rfl))))))
      (pss_one (ps_ret (pv 2))))), ?_⟩
    refine ⟨_, rfl, _, rfl, p, 26, rfl, hp, by decide, by decide, fun r H1 b1 p1 r0 r1 => ?_⟩
    obtain ⟨c, hc, c0, c1⟩ := abc_at r.toNat (by omega)
    refine ⟨abc, r, c, rfl, rfl, r0, by omega, ?_, hc, ?_⟩
    · have := abc_len
      rw [this]
      omega
    refine ⟨_, rfl, p, 8, rfl, p1, by decide, by decide, fun n H2 b2 p2 n0 n1 => ?_⟩
    refine ⟨n, rfl, by omega, by omega, for_range (lo := 0) (n := n.toNat) (fun i σ H3 => ∃ (z : Str) (y : Option V), σ = [some (.ref p), some (.str abc), some (.str z), y] ∧ But p H H3 ∧ Pool H3 p ∧ z.length = i + 1 ∧ ∀ c ∈ z.cps.toList, 97 ≤ c ∧ c ≤ 122) ?_ ?_ ?_⟩
    · refine ⟨⟨#[c]⟩, none, rfl, b1.trans b2, p2, rfl, fun d hd => ?_⟩
      obtain rfl : d = c := by simpa using hd
      exact ⟨c0, c1⟩
    · rintro i σ H3 hi ⟨z, y, rfl, b3, p3, hz, hl⟩
      refine ⟨_, rfl, _, rfl, _, rfl, p, 26, rfl, p3, by decide, by decide, fun r2 H4 b4 p4 s0 s1 => ?_⟩
      obtain ⟨d, hd, d0, d1⟩ := abc_at r2.toNat (by omega)
      refine ⟨abc, r2, d, rfl, rfl, s0, by omega, ?_, hd, z, ⟨#[d]⟩, rfl, rfl, ?_, z ++ ⟨#[d]⟩, _, rfl, b3.trans b4, p4, ?_, fun e he => ?_⟩
      · have := abc_len
        rw [this]
        omega
      · rw [hz]
        exact Nat.le_of_lt (small1000 (show i + 1 + 1 ≤ 1000 by omega))
      · rw [len_add, hz]
        rfl
      · rw [cps_add] at he
        rcases List.mem_append.mp he with q | q
        · exact hl e q
        · obtain rfl : e = d := by simpa using q
          exact ⟨d0, d1⟩
    · rintro σ H3 ⟨z, y, rfl, b3, p3, hz, hl⟩
      exact ⟨_, rfl, k z H3 b3 p3 ⟨by omega, by omega, hl⟩⟩
end
end SE
namespace SE
open PySem PySem.Spec PyProof.Rows L2
theorem nodup_le {α : Type} [DecidableEq α] : ∀ {ys zs : List α}, ys.Nodup → (∀ y ∈ ys, y ∈ zs) → ys.length ≤ zs.length
  | [], _, _, _ => Nat.zero_le _
  | y :: ys, zs, nd, h => by
    obtain ⟨n1, n2⟩ := List.nodup_cons.mp nd
    have hy : y ∈ zs := h y List.mem_cons_self
    have ih := nodup_le (zs := zs.erase y) n2 fun x hx => (List.mem_erase_of_ne (fun e => n1 (by rw [← e]; exact hx))).mpr (h x (List.mem_cons_of_mem _ hx))
    rw [List.length_erase_of_mem hy] at ih
    have : 0 < zs.length := List.length_pos_of_mem hy
    rw [List.length_cons]
    omega
theorem yes_in {σ : L2.St} {H : Hp} {F G : Hp → Prop} (h : F H) : tYes σ H (fun b H3 => if b = true then F H3 else G H3) := by
  show if true = true then F H else G H
  exact iteT h
theorem eqV_str (a b : Str) : eqV (.str a) (.str b) = (a == b) := by
  unfold eqV
  rfl
theorem inV_str (z : Str) : ∀ zs : List Str, inV (.str z) (zs.map V.str) = decide (z ∈ zs)
  | [] => by simp [inV]
  | y :: zs => by
    have ih := inV_str z zs
    unfold inV at ih ⊢
    rw [List.map_cons, List.any_cons, ih, eqV_str]
    by_cases e : y = z
    · subst e
      simp
    · have e2 : ¬ z = y := fun q => e q.symm
      simp [e, e2]
theorem flat_strs : ∀ zs : List Str, (zs.map V.str).all flatV = true
  | [] => rfl
  | y :: zs => by
    rw [List.map_cons, List.all_cons, flat_strs zs]
    rfl
/-- the names that are taken where one is drawn twice -/
def spare : List Str := abc.cps.toList.map fun c => (⟨#[c]⟩ : Str) ++ "zz"
theorem spare_len : spare.length = 26 := by decide +kernel
theorem spare_nd : spare.Nodup := by decide +kernel
theorem spare_item {z : Str} (h : z ∈ spare) : Item z := by
  have q : ∀ y ∈ spare, (decide (1 ≤ y.length) && decide (y.length ≤ 8) && y.cps.toList.all fun c => decide (97 ≤ c) && decide (c ≤ 122)) = true := by decide +kernel
  have e := q z h
  simp only [Bool.and_eq_true, decide_eq_true_eq, List.all_eq_true] at e
  exact ⟨e.1.1, e.1.2, e.2⟩
theorem spare_at {i c : Nat} (h : abc.cps[i]? = some c) : spare[i]? = some ((⟨#[c]⟩ : Str) ++ "zz") := by
  unfold spare
  rw [List.getElem?_map, Array.getElem?_toList, h]
  rfl
theorem abc_size : abc.cps.size = 26 := by decide +kernel
section
variable {P : Program} {w : World} {K : PySem.W.Frag} {mg : Str → Option Value} {base : Heap}
/-! ### _law_items -/
def spItems : Sp := fun xs H Q _ => ∃ (p : Addr) (n : Int), xs = [.ref p, .int n] ∧ Pool H p ∧ 0 ≤ n ∧ n ≤ 20 ∧
  ∀ (l : Addr) (zs : List Str) (H' : Hp), But p H H' → Pool H' p → H l = none → l ≠ p → H' l = some (.lst (zs.map V.str)) → zs.length = n.toNat → (∀ z ∈ zs, Item z) → Q (.ref l) H'
theorem scItems : FnScope ["_law_pool_here", "_law_many", "_law_found", "_law_at", "_law_name_here", "_law_some", "_law_one"] ["_law_pool_here", "_law_many"] (defScope sItems) := ⟨rfl, rfl, rfl, by decide +kernel, rfl, by decide +kernel, by decide +kernel⟩
abbrev nItems : List Str := ["_law_pool_here", "_law_many", "_law_found", "_law_at", "_law_name_here", "_law_some", "_law_one"]
theorem has_items (D : Def K mg "_law_items" sItems) (GN : Has P w K mg base "_law_name" 2 ["_law_pool_here"] [] spName) (mr : mg "range" = none) : Has P w K mg base "_law_items" 3 ["_law_pool_here", "_law_many"] [] spItems := by
  refine has_of D scItems (fun _ _ _ _ _ _ us hl => match us, hl with | [_, _], _ => rfl) (fun xs H Q E h => ?_) (fun f cv A out s H xs Q E hr h => ?_)
  · obtain ⟨p, n, rfl, _⟩ := h
    rfl
  · obtain ⟨p, n, rfl, hp, h0, h1, k⟩ := h
    refine ⟨_, pss_cons (ps_set (i := 2) scItems.nd rfl (.inr rfl) (pe_lst pa_nil))
      (pss_cons (ps_for PassesOwn.never rfl (pi_range1 (by rfl) mr (pa_cons (pv 1) pa_nil)) (pg_name (i := 3) scItems.nd rfl (.inl rfl))
        (pss_cons (ps_set (i := 4) scItems.nd rfl (.inl rfl) (pe_has GN hr (pa_cons (pv 0) pa_nil)))
        (Evl.pss_cut (ps_if (pt_cmpR op_in_seq (pv 4) (pv 2) (by rfl))
          (pss_cons (ps_setLc (i := 5) (own := [("_law_one", 6)]) (g := gName 6) (tt := tYes) rfl scItems.nd rfl rfl (sw_true rfl rfl rfl (by decide +kernel)) (pi_str pe_str) (blkOk_by (own := [("_law_one", 6)]) (N := nItems) (sc := defScope sItems) (by decide +kernel))
              (fun _ _ _ _ _ => pg_name (i := 6) scItems.nd rfl (.inl rfl)) (fun _ _ _ _ _ => pts_nil) (fun _ _ _ _ _ => pe_op op_add_str (pv 6) pe_str))
          (pss_one (ps_set (i := 4) scItems.nd rfl (.inl rfl) (pe_ix ix_list (pe_lc (own := [("_law_one", 6)]) (g := gName 6) (tt := tTest (tOp (rIn K true) (tVar 6) (tVar 2))) (te := tVar 6) rfl scItems.nd (pi_list (pv 5)) (blkOk_by (own := [("_law_one", 6)]) (N := nItems) (sc := defScope sItems) (by decide +kernel))
              (fun _ _ _ _ _ => pg_name (i := 6) scItems.nd rfl (.inl rfl)) (fun _ _ _ _ _ => pts_one (pt_cmpR op_notIn_seq (pv 6) (pv 2) (by rfl))) (fun _ _ _ _ _ => pv 6)) pe_int (fun _ _ => rfl))))) pss_nil)
        (pss_one (ps_expr (pe_bm PySem.F.plainAttrs_list PySem.F.slot_list_append PySem.F.type_list_append mt_append (pv 2) (pa_cons (pv 4) pa_nil)))))))
      (pss_one (ps_ret (pv 2)))), ?_⟩
    refine ⟨Nat.zero_le _, fun l hl => ?_⟩
    have lp : l ≠ p := hp.free hl
    refine ⟨_, rfl, n, rfl, by omega, by omega, for_range (lo := 0) (n := n.toNat) (fun i σ H3 => ∃ (zs : List Str) (y3 y4 y5 y6 : Option V), σ = [some (.ref p), some (.int n), some (.ref l), y3, y4, y5, y6] ∧ But p H H3 ∧ Pool H3 p ∧ H3 l = some (.lst (zs.map V.str)) ∧ zs.length = i ∧ ∀ z ∈ zs, Item z) ?_ ?_ ?_⟩
    · exact ⟨[], none, none, none, none, rfl, .of (Same.new hl), hp.upd lp, upd_same, rfl, fun z h => nomatch h⟩
    · rintro i σ H3 hi ⟨zs, y3, y4, y5, y6, rfl, b3, p3, hl3, hz, hI⟩
      refine ⟨_, rfl, p, rfl, p3, fun z H4 b4 p4 iz => ?_⟩
      have hl4 : H4 l = some (.lst (zs.map V.str)) := b4 l _ lp hl3
      have bb := b3.trans b4
      refine ⟨fun σ H5 => ∃ (z : Str) (y5 y6 : Option V), σ = [some (.ref p), some (.int n), some (.ref l), some (.int (0 + i)), some (.str z), y5, y6] ∧ But p H H5 ∧ Pool H5 p ∧ H5 l = some (.lst (zs.map V.str)) ∧ Item z, ?_, ?_⟩
      · refine ⟨_, rfl, _, rfl, l, _, rfl, .inl (.of hl4), rfl, flat_strs _, _, rfl, ite2 (fun c => ?_) (fun c => ?_)⟩
        · refine ⟨abc, rfl, fun D hD => lc_it walk_str (fun j H5 => H5 D = some (.lst ((spare.take j).map V.str)) ∧ But p H H5 ∧ Pool H5 p ∧ H5 l = some (.lst (zs.map V.str))) ?_ (fun _ _ _ _ => trivial) ?_ ?_⟩
          · have Dp : D ≠ p := p4.free hD
            exact ⟨upd_same, bb.free (bb.none Dp hD), p4.upd Dp, by rw [upd_ne (ne_of_none hl4 hD)]; exact hl4⟩
          · rintro j x H5 H6 hj ⟨hD5, b5, p5, hl5⟩ ⟨rfl, d, hd, rfl⟩
            have Dp : D ≠ p := p4.free hD
            refine ⟨rfl, yes_in ⟨_, rfl, ⟨#[d]⟩, "zz", rfl, rfl, (by show 1 + 2 ≤ sizeLine; decide), _, hD5, ?_, ?_, b5.free (bb.none Dp hD), p5.upd Dp, ?_⟩⟩
            · rw [List.length_map, List.length_take, spare_len]
              exact small1000 (by omega)
            · rw [upd_same, List.take_add_one, spare_at hd, List.map_append]
              rfl
            · rw [upd_ne (ne_of_none hl4 hD)]
              exact hl5
          · rintro H5 ⟨hD5, b5, p5, hl5⟩
            have full : spare.take abc.cps.size = spare := List.take_of_length_le (by rw [spare_len, abc_size]; omega)
            rw [full] at hD5
            have Dp : D ≠ p := p4.free hD
            have Dl : l ≠ D := ne_of_none hl4 hD
            refine ⟨_, rfl, D, rfl, ⟨_, .of hD5⟩, fun E2 hE => lc_list (K := K) (a := D) (xs := spare.map V.str) (fun j H6 => H6 D = some (.lst (spare.map V.str)) ∧ H6 E2 = some (.lst (((spare.take j).filter fun y => !decide (y ∈ zs)).map V.str)) ∧ But p H H6 ∧ Pool H6 p ∧ H6 l = some (.lst (zs.map V.str))) ?_ (fun _ _ _ q => .of q.1) ?_ ?_⟩
            · have Ep : E2 ≠ p := p5.free hE
              refine ⟨?_, upd_same, b5.free (b5.none Ep hE), p5.upd Ep, ?_⟩
              · rw [upd_ne (ne_of_none hD5 hE)]
                exact hD5
              · rw [upd_ne (ne_of_none hl5 hE)]
                exact hl5
            · rintro j x H6 hj ⟨hD6, hE6, b6, p6, hl6⟩
              have Ep : E2 ≠ p := p5.free hE
              rw [List.getElem?_map] at hj
              obtain ⟨y, hy, rfl⟩ : ∃ y, spare[j]? = some y ∧ V.str y = x := by
                cases e : spare[j]? with
                | none => rw [e] at hj; cases hj
                | some y => rw [e] at hj; exact ⟨y, rfl, Option.some.inj hj⟩
              have tk : spare.take (j + 1) = spare.take j ++ [y] := by
                rw [List.take_add_one, hy]
                rfl
              refine ⟨rfl, _, rfl, _, rfl, l, _, rfl, .inl (.of hl6), rfl, flat_strs _, _, rfl, ?_⟩
              rw [if_pos rfl, inV_str]
              by_cases m : y ∈ zs
              · rw [decide_eq_true m]
                refine iteF ⟨hD6, ?_, b6, p6, hl6⟩
                rw [tk, List.filter_append, List.filter_cons_of_neg (by simp [m]), List.filter_nil, List.append_nil]
                exact hE6
              · rw [decide_eq_false m]
                refine iteT ⟨_, rfl, _, hE6, ?_, ?_, ?_, b6.free (b5.none Ep hE), p6.upd Ep, ?_⟩
                · rw [List.length_map]
                  have z1 := List.length_filter_le (fun y => !decide (y ∈ zs)) (spare.take j)
                  have z2 : (spare.take j).length ≤ 26 := by
                    rw [List.length_take, spare_len]
                    omega
                  exact small1000 (by omega)
                · rw [upd_ne (ne_of_none hD5 hE)]
                  exact hD6
                · rw [upd_same, tk, List.filter_append, List.filter_cons_of_pos (by simp [m]), List.filter_nil, List.map_append]
                  rfl
                · rw [upd_ne (ne_of_none hl5 hE)]
                  exact hl6
            · rintro H6 ⟨hD6, hE6, b6, p6, hl6⟩
              rw [List.length_map, List.take_length] at hE6
              have some1 : ∃ y0 r, (spare.filter fun y => !decide (y ∈ zs)) = y0 :: r := by
                cases e : spare.filter fun y => !decide (y ∈ zs) with
                | cons y0 r => exact ⟨y0, r, rfl⟩
                | nil =>
                  have all : ∀ y ∈ spare, y ∈ zs := fun y hy => by
                    by_cases m : y ∈ zs
                    · exact m
                    · have q : y ∈ spare.filter fun y => !decide (y ∈ zs) := List.mem_filter.mpr ⟨hy, by simp [m]⟩
                      rw [e] at q
                      cases q
                  have q := nodup_le spare_nd all
                  rw [spare_len] at q
                  omega
              obtain ⟨y0, r, e0⟩ := some1
              have y0s : y0 ∈ spare := (List.mem_filter.mp (show y0 ∈ spare.filter fun y => !decide (y ∈ zs) by rw [e0]; exact List.mem_cons_self)).1
              rw [e0] at hE6
              exact ⟨E2, _, 0, .str y0, rfl, rfl, .of hE6, atI_nat (j := 0) rfl, y0, _, _, rfl, b6, p6, hl6, spare_item y0s⟩
        · exact ⟨z, _, _, rfl, bb, p4, hl4, iz⟩
      · rintro σ H5 ⟨z, y5, y6, rfl, b5, p5, hl5, iz⟩
        refine ⟨.ref l, rfl, .inl ⟨rfl, _, .inl (.inl hl5)⟩, _, rfl, l, _, _, rfl, rfl, hl5, ?_, zs ++ [z], _, _, _, _, rfl, b5.free hl, p5.upd lp, ?_, ?_, ?_⟩
        · rw [List.length_map, hz]
          exact small1000 (by omega)
        · rw [upd_same, List.map_append]
          rfl
        · rw [List.length_append, hz]
          rfl
        · intro y hy
          rcases List.mem_append.mp hy with q | q
          · exact hI y q
          · rw [List.mem_singleton.mp q]
            exact iz
    · rintro σ H3 ⟨zs, y3, y4, y5, y6, rfl, b3, p3, hl3, hz, hI⟩
      exact ⟨_, rfl, k l zs H3 b3 p3 hl lp hl3 hz hI⟩
end
end SE
namespace SE
open PySem PySem.Spec PyProof.Rows L2
section
variable {P : Program} {w : World} {K : PySem.W.Frag} {mg : Str → Option Value} {base : Heap}
/-! ### _law_word -/
def spWord : Sp := fun xs H Q _ => ∃ (p l : Addr) (m : Int) (zs : List Str), xs = [.ref p, .ref l, .int m] ∧ Pool H p ∧ l ≠ p ∧ H l = some (.lst (zs.map V.str)) ∧ zs ≠ [] ∧ zs.length ≤ 100 ∧ 0 ≤ m ∧ m ≤ 900 ∧
  ∀ (t : Addr) (ws : List Str) (H' : Hp), But p H H' → Pool H' p → H t = none → H' t = some (.tup (ws.map V.str)) → (ws.length : Int) ≤ m → (∀ z ∈ ws, z ∈ zs) → Q (.ref t) H'
abbrev nWord : List Str := ["_law_pool_here", "_law_items_here", "_law_most", "_law_turn"]
theorem scWord : FnScope nWord ["_law_pool_here", "_law_items_here", "_law_most"] (defScope sWord) := ⟨rfl, rfl, rfl, by decide +kernel, rfl, by decide +kernel, by decide +kernel⟩
theorem pick_str {zs : List Str} {r : Int} (h0 : 0 ≤ r) (h1 : r < (zs.length : Int)) : ∃ z, z ∈ zs ∧ atI (zs.map V.str) r = some (.str z) := by
  have hj : r.toNat < zs.length := by omega
  refine ⟨zs[r.toNat], List.getElem_mem hj, at_of (j := r.toNat) (by omega) ?_⟩
  rw [List.getElem?_map, List.getElem?_eq_getElem hj]
  rfl
theorem has_word (D : Def K mg "_law_word" sWord) (GT : Has P w K mg base "_law_take" 1 ["_law_pool_here", "_law_many"] [] spTake) (mr : mg "range" = none) (ml : mg "len" = none) (mt : mg "tuple" = none) : Has P w K mg base "_law_word" 2 ["_law_pool_here", "_law_items_here", "_law_most"] [] spWord := by
  refine has_of D scWord (fun _ _ _ _ _ _ us hl => match us, hl with | [_, _, _], _ => rfl) (fun xs H Q E h => ?_) (fun f cv A out s H xs Q E hr h => ?_)
  · obtain ⟨p, l, m, zs, rfl, _⟩ := h
    rfl
  · obtain ⟨p, l, m, zs, rfl, hp, lp, hl, hne, hz, h0, h1, k⟩ := h
    refine ⟨_, pss_one (ps_ret (pe_callTy call_tuple_of (by rfl) mt (by decide +kernel) (pa_cons
      (pe_lc (own := [("_law_turn", 3)]) (g := gName 3) (tt := tYes) (te := tOp (rIxL K) (tVar 1) (tCall spTake [] E0 (tCons (tVar 0) (tCons (tCB (Evl.rLenS K) (tCons (tVar 1) tNil)) tNil)))) rfl scWord.nd
        (pi_range1 (by rfl) mr (pa_cons (pe_has GT hr (pa_cons (pv 0) (pa_cons (pe_op op_add (pv 2) pe_int) pa_nil))) pa_nil)) (blkOk_by (own := [("_law_turn", 3)]) (N := nWord) (sc := defScope sWord) (by decide +kernel))
        (fun _ _ _ _ _ => pg_name (i := 3) scWord.nd rfl (.inl rfl)) (fun _ _ _ _ _ => pts_nil)
        (fun _ _ _ _ _ => pe_ix ix_list (pv 1) (pe_has GT hr (pa_cons (pv 0) (pa_cons (pe_callB call_len_seq (by rfl) ml PySem.boot_len (pa_cons (pv 1) pa_nil)) pa_nil))) (fun _ _ => rfl))) pa_nil))), ?_⟩
    refine ⟨_, rfl, _, rfl, m, 1, rfl, rfl, p, m + 1, rfl, hp, by omega, by omega, fun n H1 b1 p1 n0 n1 => ?_⟩
    have hl1 : H1 l = some (.lst (zs.map V.str)) := b1 l _ lp hl
    refine ⟨n, rfl, by omega, by omega, fun D hD => lc_range (lo := 0) (n := n.toNat) (fun i H2 => ∃ ws : List Str, H2 D = some (.lst (ws.map V.str)) ∧ ws.length = i ∧ (∀ z ∈ ws, z ∈ zs) ∧ But p H H2 ∧ Pool H2 p ∧ H2 l = some (.lst (zs.map V.str))) ?_ ?_ ?_⟩
    · have Dp : D ≠ p := p1.free hD
      exact ⟨[], upd_same, rfl, fun z q => (by cases q), b1.free (b1.none Dp hD), p1.upd Dp, by rw [upd_ne (ne_of_none hl1 hD)]; exact hl1⟩
    · rintro i H2 hi ⟨ws, hw, wl, wz, b2, p2, hl2⟩
      have Dp : D ≠ p := p1.free hD
      have Dl : l ≠ D := ne_of_none hl1 hD
      have hzp : 0 < zs.length := List.length_pos_iff.mpr hne
      refine ⟨rfl, yes_in ⟨_, rfl, _, rfl, _, rfl, l, _, rfl, .inl (.of hl2), p, _, rfl, p2, ?_, ?_, fun r H3 b3 p3 r0 r1 => ?_⟩⟩
      · rw [List.length_map]
        omega
      · rw [List.length_map]
        omega
      · rw [List.length_map] at r1
        obtain ⟨z, zm, az⟩ := pick_str r0 r1
        have hl3 : H3 l = some (.lst (zs.map V.str)) := b3 l _ lp hl2
        have hD3 : H3 D = some (.lst (ws.map V.str)) := b3 D _ Dp hw
        refine ⟨l, _, r, _, rfl, rfl, .of hl3, az, _, hD3, ?_, ws ++ [z], ?_, ?_, ?_, (b2.trans b3).free (b1.none Dp hD), p3.upd Dp, ?_⟩
        · rw [List.length_map, wl]
          exact small1000 (by omega)
        · rw [upd_same, List.map_append]
          rfl
        · rw [List.length_append, wl]
          rfl
        · intro y hy
          rcases List.mem_append.mp hy with q | q
          · exact wz y q
          · rw [List.mem_singleton.mp q]
            exact zm
        · rw [upd_ne Dl]
          exact hl3
    · rintro H2 ⟨ws, hw, wl, wz, b2, p2, hl2⟩
      refine ⟨D, _, rfl, .inl ⟨.of hw, fun t ht => ?_⟩⟩
      have tp : t ≠ p := p2.free ht
      refine k t ws _ (b2.free (b2.none tp ht)) (p2.upd tp) (b2.none tp ht) upd_same ?_ wz
      omega
end
end SE
namespace SE
open PySem PySem.Spec PyProof.Rows L2
/-- a test whose ways meet -/
def tCutT (t : TT) : TT := fun σ H Q => ∃ M : Bool → Hp → Prop, t σ H M ∧ ∀ b H2, M b H2 → Q b H2
theorem pt_cut {X : Cx} {e : Expr} {t : TT} (h : PT X e t) : PT X e (tCutT t) := ⟨fun pins s σ H Q I hw => by
  obtain ⟨M, h1, h2⟩ := hw
  refine thn (h.run pins s σ H M I h1) fun b s2 z => ?_
  obtain ⟨H2, I2, q⟩ := z
  exact ⟨H2, I2, h2 b H2 q⟩⟩
theorem cut_map {α : Type} (f : α → V) (hs : List α) (lo hi : Option Int) : cutV (hs.map f) lo hi = ((hs.drop (HT.sIx hs.length 0 lo)).take (HT.sIx hs.length hs.length hi - HT.sIx hs.length 0 lo)).map f := by
  unfold cutV
  rw [List.length_map, List.map_take, List.map_drop]
theorem cut_mem {α : Type} {x : α} {hs : List α} {a b : Nat} (h : x ∈ (hs.drop a).take b) : x ∈ hs := List.mem_of_mem_drop (List.mem_of_mem_take h)
/-- steps whose tuples stand in the heap -/
abbrev StepsH (H : Hp) : List V → List Stp → Prop := Paired fun v s => ∃ t, v = .ref t ∧ H t = some (.tup [.str (act s.1), .str s.2])
theorem StepsH.v {K : PySem.W.Frag} {H : Hp} {xs : List V} {ss : List Stp} (h : StepsH H xs ss) : StepsV K H xs ss := Paired.mapP h fun _ _ q => by
  obtain ⟨t, e, z⟩ := q
  exact ⟨t, e, .of z⟩
theorem StepsH.but {H H' : Hp} {p : Addr} {xs : List V} {ss : List Stp} (h : StepsH H xs ss) (hp : Pool H p) (b : But p H H') : StepsH H' xs ss := Paired.mapP h fun _ _ q => by
  obtain ⟨t, e, z⟩ := q
  exact ⟨t, e, b t _ (hp.ne z) z⟩
theorem StepsH.upd {H : Hp} {q : Addr} {o : HO} {xs : List V} {ss : List Stp} (h : StepsH H xs ss) (hq : ∀ ys, H q ≠ some (.tup ys)) : StepsH (upd H q o) xs ss := Paired.mapP h fun _ _ r => by
  obtain ⟨t, e, z⟩ := r
  refine ⟨t, e, ?_⟩
  rw [upd_ne (fun w => hq _ (by rw [← w]; exact z))]
  exact z
structure SI (p l f h : Addr) (zs : List Str) (H H3 : Hp) (xs : List V) (ss : List Stp) (hs : List Str) : Prop where
  b : But p H H3
  pl : Pool H3 p
  it : H3 l = some (.lst (zs.map V.str))
  fl : H3 f = some (.lst xs)
  st : StepsH H3 xs ss
  sz : ∀ s ∈ ss, s.2 ∈ zs
  hl : H3 h = some (.lst (hs.map V.str))
  hz : ∀ z ∈ hs, z ∈ zs
  lp : l ≠ p
  fp : f ≠ p
  fn : H f = none
  hp : h ≠ p
  hn : H h = none
  hf : h ≠ f
  hnl : h ≠ l
  lf : l ≠ f
section
variable {p l f h : Addr} {zs : List Str} {H H3 : Hp} {xs : List V} {ss : List Stp} {hs : List Str}
theorem SI.new (a : SI p l f h zs H H3 xs ss hs) {q : Addr} {o : HO} (hq : H3 q = none) : SI p l f h zs H (upd H3 q o) xs ss hs := by
  have qp : q ≠ p := a.pl.free hq
  exact ⟨a.b.free (a.b.none qp hq), a.pl.upd qp, by rw [upd_ne (ne_of_none a.it hq)]; exact a.it, by rw [upd_ne (ne_of_none a.fl hq)]; exact a.fl, a.st.upd (fun ys z => by rw [hq] at z; cases z), a.sz,
    by rw [upd_ne (ne_of_none a.hl hq)]; exact a.hl, a.hz, a.lp, a.fp, a.fn, a.hp, a.hn, a.hf, a.hnl, a.lf⟩
theorem SI.draw (a : SI p l f h zs H H3 xs ss hs) {H4 : Hp} (b : But p H3 H4) (q : Pool H4 p) : SI p l f h zs H H4 xs ss hs :=
  ⟨a.b.trans b, q, b _ _ a.lp a.it, b _ _ a.fp a.fl, a.st.but a.pl b, a.sz, b _ _ a.hp a.hl, a.hz, a.lp, a.fp, a.fn, a.hp, a.hn, a.hf, a.hnl, a.lf⟩
theorem SI.app (a : SI p l f h zs H H3 xs ss hs) {t : Addr} {c : Bool} {z : Str} (ht : H3 t = some (.tup [.str (act c), .str z])) (hz : z ∈ zs) : SI p l f h zs H (upd H3 f (.lst (xs ++ [.ref t]))) (xs ++ [.ref t]) (ss ++ [(c, z)]) hs := by
  have tf : t ≠ f := ne_of ht a.fl (by intro w; cases w)
  refine ⟨a.b.free a.fn, a.pl.upd a.fp, by rw [upd_ne a.lf]; exact a.it, upd_same, (a.st.upd (fun ys w => by rw [a.fl] at w; cases w)).snoc ⟨t, rfl, by rw [upd_ne tf]; exact ht⟩, fun s hs' => ?_, by rw [upd_ne a.hf]; exact a.hl, a.hz, a.lp, a.fp, a.fn, a.hp, a.hn, a.hf, a.hnl, a.lf⟩
  rcases List.mem_append.mp hs' with q | q
  · exact a.sz s q
  · rw [List.mem_singleton.mp q]
    exact hz
theorem SI.hset (a : SI p l f h zs H H3 xs ss hs) {ys : List Str} (hy : ∀ z ∈ ys, z ∈ zs) : SI p l f h zs H (upd H3 h (.lst (ys.map V.str))) xs ss ys :=
  ⟨a.b.free a.hn, a.pl.upd a.hp, by rw [upd_ne (Ne.symm a.hnl)]; exact a.it, by rw [upd_ne (Ne.symm a.hf)]; exact a.fl, a.st.upd (fun us w => by rw [a.hl] at w; cases w), a.sz, upd_same, hy, a.lp, a.fp, a.fn, a.hp, a.hn, a.hf, a.hnl, a.lf⟩
theorem SI.hnew (a : SI p l f h zs H H3 xs ss hs) {q : Addr} {ys : List Str} (hq : H3 q = none) (hy : ∀ z ∈ ys, z ∈ zs) : SI p l f q zs H (upd H3 q (.lst (ys.map V.str))) xs ss ys := by
  have b := a.new (o := .lst (ys.map V.str)) hq
  have qp : q ≠ p := a.pl.free hq
  exact ⟨b.b, b.pl, b.it, b.fl, b.st, b.sz, upd_same, hy, a.lp, a.fp, a.fn, qp, a.b.none qp hq, Ne.symm (ne_of_none a.fl hq), Ne.symm (ne_of_none a.it hq), a.lf⟩
end
section
variable {P : Program} {w : World} {K : PySem.W.Frag} {mg : Str → Option Value} {base : Heap}
/-! ### _law_steps -/
def spSteps : Sp := fun xs H Q _ => ∃ (p l : Addr) (m : Int) (zs : List Str), xs = [.ref p, .ref l, .int m] ∧ Pool H p ∧ l ≠ p ∧ H l = some (.lst (zs.map V.str)) ∧ zs ≠ [] ∧ zs.length ≤ 100 ∧ (∀ z ∈ zs, Item z) ∧ 0 ≤ m ∧ m ≤ 100 ∧
  ∀ (t : Addr) (us : List V) (ss : List Stp) (H' : Hp), But p H H' → Pool H' p → H t = none → H' t = some (.lst us) → StepsH H' us ss → ss.length = m.toNat → (∀ s ∈ ss, s.2 ∈ zs) → Q (.ref t) H'
abbrev nSteps : List Str := ["_law_pool_here", "_law_items_here", "_law_many", "_law_found", "_law_held", "_law_turn", "_law_way", "_law_item"]
theorem scSteps : FnScope nSteps ["_law_pool_here", "_law_items_here", "_law_many"] (defScope sSteps) := ⟨rfl, rfl, rfl, by decide +kernel, rfl, by decide +kernel, by decide +kernel⟩
theorem has_steps (D : Def K mg "_law_steps" sSteps) (GT : Has P w K mg base "_law_take" 1 ["_law_pool_here", "_law_many"] [] spTake) (mr : mg "range" = none) (ml : mg "len" = none) : Has P w K mg base "_law_steps" 2 ["_law_pool_here", "_law_items_here", "_law_many"] [] spSteps := by
  refine has_of D scSteps (fun _ _ _ _ _ _ us hl => match us, hl with | [_, _, _], _ => rfl) (fun xs H Q E h => ?_) (fun f cv A out s H xs Q E hr h => ?_)
  · obtain ⟨p, l, m, zs, rfl, _⟩ := h
    rfl
  · obtain ⟨p, l, m, zs, rfl, hp, lp, hl, hne, hz, hI, h0, h1, k⟩ := h
    refine ⟨_, pss_cons (ps_par (i := 3) (j := 4) (by rfl) scSteps.nd rfl rfl (by decide) rfl rfl (pa_cons (pe_lst pa_nil) (pa_cons (pe_lst pa_nil) pa_nil)) (by rfl))
      (pss_cons (ps_for PassesOwn.never rfl (pi_range1 (by rfl) mr (pa_cons (pv 2) pa_nil)) (pg_name (i := 5) scSteps.nd rfl (.inl rfl))
        (pss_cons (ps_set (i := 6) scSteps.nd rfl (.inl rfl) (pe_has GT hr (pa_cons (pv 0) (pa_cons pe_int pa_nil))))
        (pss_cons (ps_set (i := 7) scSteps.nd rfl (.inl rfl) (pe_ix ix_list (pv 1) (pe_has GT hr (pa_cons (pv 0) (pa_cons (pe_callB call_len_seq (by rfl) ml PySem.boot_len (pa_cons (pv 1) pa_nil)) pa_nil))) (fun _ _ => rfl)))
        (pss_one (ps_if (pt_cut (PW.pt (pw_and (pt_cmpR op_lt (pv 6) pe_int (nomark _)) (pw_and1 (pt_cmpR (op_neD hr.units) (pv 4) (pe_lst pa_nil) (nomark _))))))
          (pss_cons (ps_set (i := 7) scSteps.nd rfl (.inl rfl) (pe_bm0 PySem.F.plainAttrs_list PySem.F.slot_list_pop PySem.F.type_list_pop mt_pop (pv 4)))
          (pss_one (ps_expr (pe_bm PySem.F.plainAttrs_list PySem.F.slot_list_append PySem.F.type_list_append mt_append (pv 3) (pa_cons (pe_tup (pa_cons pe_str (pa_cons (pv 7) pa_nil))) pa_nil)))))
          (pss_one (ps_if (pt_cut (PW.pt (pw_or (pt_cmpR op_eq (pv 6) pe_int (nomark _)) (pw_or1 (PW.pt (pw_and (pt_cmpR op_eq (pv 6) pe_int (nomark _)) (pw_and1 (pt_cmpR (op_eqD hr.units) (pv 4) (pe_lst pa_nil) (nomark _)))))))))
            (pss_cons (ps_expr (pe_bm PySem.F.plainAttrs_list PySem.F.slot_list_append PySem.F.type_list_append mt_append (pv 3) (pa_cons (pe_tup (pa_cons pe_str (pa_cons (pv 7) pa_nil))) pa_nil)))
            (pss_one (ps_set (i := 4) scSteps.nd rfl (.inl rfl) (pe_ifExp (pt_cut (pt_cmpR (op_eqD hr.units) (pe_slice sl_list (pv 4) (po_some (pe_un un_neg pe_int)) po_none) (pe_lst (pa_cons (pv 7) pa_nil)) (nomark _))) (pe_slice sl_list (pv 4) po_none (po_some (pe_un un_neg pe_int))) (pv 4)))))
            (pss_cons (ps_expr (pe_bm PySem.F.plainAttrs_list PySem.F.slot_list_append PySem.F.type_list_append mt_append (pv 3) (pa_cons (pe_tup (pa_cons pe_str (pa_cons (pv 7) pa_nil))) pa_nil)))
            (pss_one (ps_expr (pe_bm PySem.F.plainAttrs_list PySem.F.slot_list_append PySem.F.type_list_append mt_append (pv 4) (pa_cons (pv 7) pa_nil)))))))))))
      ) (pss_one (ps_ret (pv 3)))), ?_⟩
    refine ⟨Nat.zero_le _, fun g hg => ⟨Nat.zero_le _, fun h0' hh => ⟨_, _, rfl, ?_⟩⟩⟩
    have gp : g ≠ p := hp.free hg
    have hh0 : H h0' = none := (Same.new hg).free hh
    have hgne : g ≠ h0' := ne_of_none upd_same hh
    have ofz : ∀ {hs : List Str}, (∀ z ∈ hs, z ∈ zs) → SeqAt.shaped (.list (hs.map PyData.str)) = true := fun {hs} q => (nice_list (nice_strs fun z m => hI z (q z m))).shaped (by decide)
    refine ⟨_, rfl, m, rfl, by omega, by omega, for_range (lo := 0) (n := m.toNat) (fun i σ H3 => ∃ (h : Addr) (xs : List V) (ss : List Stp) (hs : List Str) (y5 y6 y7 : Option V), σ = [some (.ref p), some (.ref l), some (.int m), some (.ref g), some (.ref h), y5, y6, y7] ∧ SI p l g h zs H H3 xs ss hs ∧ ss.length = i ∧ xs.length = i ∧ hs.length ≤ i) ?_ ?_ ?_⟩
    · refine ⟨h0', [], [], [], none, none, none, rfl, ⟨(But.of (Same.new hg)).free hh0, (hp.upd gp).upd (hp.free hh0), ?_, ?_, .nil, fun s q => (by cases q), upd_same, fun z q => (by cases q), lp, gp, hg, hp.free hh0, hh0, Ne.symm hgne, Ne.symm (ne_of_none hl hh0), ne_of_none hl hg⟩, rfl, rfl, Nat.le_refl _⟩
      · rw [upd_ne (ne_of_none hl hh0), upd_ne (ne_of_none hl hg)]
        exact hl
      · rw [upd_ne hgne]
        exact upd_same
    · rintro i σ H3 hi ⟨h, xs, ss, hs, y5, y6, y7, rfl, a, hsl, hxl, hhl⟩
      refine ⟨_, rfl, p, 8, rfl, a.pl, by decide, by decide, fun r H4 b4 p4 r0 r1 => ?_⟩
      have a4 := a.draw b4 p4
      have hzp : 0 < zs.length := List.length_pos_iff.mpr hne
      refine ⟨_, rfl, _, rfl, _, rfl, l, _, rfl, .inl (.of a4.it), p, _, rfl, a4.pl, ?_, ?_, fun r2 H5 b5 p5 s0 s1 => ?_⟩
      · rw [List.length_map]
        omega
      · rw [List.length_map]
        omega
      rw [List.length_map] at s1
      obtain ⟨z, zm, az⟩ := pick_str s0 s1
      have a5 := a4.draw b5 p5
      refine ⟨l, _, r2, _, rfl, rfl, .of a5.it, az, ?_⟩
      -- way < 3 and held != []
      refine ⟨fun b H6 => SI p l g h zs H H6 xs ss hs ∧ (b = true → hs ≠ []), ?_, ?_⟩
      · refine ⟨_, rfl, r, 3, rfl, rfl, _, rfl, ite2 (fun c => ?_) (fun c => ?_)⟩
        · refine ⟨_, rfl, Nat.zero_le _, fun q hq => ⟨.list (hs.map .str), .list (([] : List Str).map .str), .lst (.of (a5.new hq).hl) (dp_strs hs), .lst (.of upd_same) .nil, ofz a5.hz, ofz (fun z w => (by cases w)), _, rfl, a5.new hq, fun e => ?_⟩⟩
          rw [eqv_listS] at e
          intro z
          rw [z] at e
          exact absurd e (by decide)
        · exact ⟨a5, fun e => (by cases e)⟩
      rintro b H6 ⟨a6, hb⟩
      cases b with
      | true =>
        have hs0 : hs ≠ [] := hb rfl
        refine iteT ?_
        have hlast : (hs.map V.str)[(hs.map V.str).length - 1]? = some (.str (hs.getLast hs0)) := by
          rw [List.length_map, List.getElem?_map, ← List.getLast?_eq_getElem?, List.getLast?_eq_getLast hs0]
          rfl
        have hmem : hs.getLast hs0 ∈ zs := a6.hz _ (List.getLast_mem hs0)
        have a7 : SI p l g h zs H (upd H6 h (.lst (hs.dropLast.map V.str))) xs ss hs.dropLast := a6.hset fun z m => a6.hz z ((List.dropLast_sublist hs).subset m)
        refine ⟨.ref h, rfl, .inl ⟨rfl, _, .of a6.hl⟩, h, _, _, rfl, rfl, a6.hl, hlast, ?_⟩
        rw [← List.map_dropLast]
        refine ⟨.ref g, rfl, .inl ⟨rfl, _, .of a7.fl⟩, _, rfl, (by show 2 ≤ sizeLine; decide), fun t ht => ⟨g, _, _, rfl, rfl, (a7.new ht).fl, ?_, ?_⟩⟩
        · rw [hxl]
          exact small1000 (by omega)
        · refine ⟨h, _, ss ++ [(false, hs.getLast hs0)], _, _, _, _, rfl, (a7.new ht).app (c := false) upd_same hmem, ?_, ?_, ?_⟩
          · rw [List.length_append, hsl]
            rfl
          · rw [List.length_append, hxl]
            rfl
          · rw [List.length_dropLast]
            omega
      | false =>
        refine iteF ?_
        -- the other ways
        refine ⟨fun b H7 => SI p l g h zs H H7 xs ss hs, ?_, ?_⟩
        · refine ⟨_, rfl, rfl, _, rfl, ite2 (fun c => ?_) (fun c => ?_)⟩
          · exact a6
          · refine ⟨_, rfl, rfl, _, rfl, ite2 (fun c2 => ?_) (fun c2 => ?_)⟩
            · exact ⟨_, rfl, Nat.zero_le _, fun q hq => ⟨.list (hs.map .str), .list (([] : List Str).map .str), .lst (.of (a6.new hq).hl) (dp_strs hs), .lst (.of upd_same) .nil, ofz a6.hz, ofz (fun z w => (by cases w)), _, rfl, a6.new hq⟩⟩
            · exact a6
        rintro b H7 a7
        cases b with
        | true =>
          refine iteT ?_
          refine ⟨.ref g, rfl, .inl ⟨rfl, _, .of a7.fl⟩, _, rfl, (by show 2 ≤ sizeLine; decide), fun t ht => ⟨g, _, _, rfl, rfl, (a7.new ht).fl, ?_, ?_⟩⟩
          · rw [hxl]
            exact small1000 (by omega)
          have a8 := (a7.new ht).app (c := false) upd_same zm
          have fin : ∀ (v : Addr) (H9 : Hp) (ks : List Str), SI p l g v zs H H9 (xs ++ [.ref t]) (ss ++ [(false, z)]) ks → ks.length ≤ i → ∃ (h : Addr) (xs : List V) (ss : List Stp) (hs : List Str) (y5 y6 y7 : Option V), [some (.ref p), some (.ref l), some (.int m), some (.ref g), some (.ref v), some (.int (0 + i)), some (.int r), some (.str z)] = [some (V.ref p), some (.ref l), some (.int m), some (.ref g), some (.ref h), y5, y6, y7] ∧ SI p l g h zs H H9 xs ss hs ∧ ss.length = i + 1 ∧ xs.length = i + 1 ∧ hs.length ≤ i + 1 := by
            intro v H9 ks a9 kl
            refine ⟨v, _, _, ks, _, _, _, rfl, a9, ?_, ?_, by omega⟩
            · rw [List.length_append, hsl]
              rfl
            · rw [List.length_append, hxl]
              rfl
          refine ⟨fun b H8 => SI p l g h zs H H8 (xs ++ [.ref t]) (ss ++ [(false, z)]) hs, ?_, ?_⟩
          · refine ⟨_, rfl, 1, rfl, -1, rfl, h, _, rfl, .of a8.hl, fun q hq => ⟨_, rfl, (by show 1 ≤ sizeLine; decide), fun q2 hq2 => ?_⟩⟩
            have a9 := (a8.new hq (o := .lst (cutV (hs.map V.str) (some (-1)) none))).new hq2 (o := .lst [.str z])
            have ne2 : q ≠ q2 := ne_of_none upd_same hq2
            refine ⟨.list (((hs.drop (HT.sIx hs.length 0 (some (-1)))).take (HT.sIx hs.length hs.length none - HT.sIx hs.length 0 (some (-1)))).map .str), .list ([z].map .str), .lst (.of ?_) (dp_strs _), .lst (.of upd_same) (dp_strs [z]), ofz (fun y m => a8.hz y (cut_mem m)), ofz (fun y m => (by rw [List.mem_singleton.mp m]; exact zm)), _, rfl, a9⟩
            rw [upd_ne ne2, upd_same, cut_map]
          rintro b H8 a9
          cases b with
          | true =>
            refine iteT ?_
            refine ⟨_, rfl, 1, rfl, -1, rfl, h, _, rfl, .of a9.hl, fun q hq => ?_⟩
            rw [cut_map]
            refine fin q _ _ (a9.hnew hq fun y m => a9.hz y (cut_mem m)) ?_
            rw [List.length_take, List.length_drop]
            omega
          | false =>
            refine iteF ?_
            exact ⟨_, rfl, fin h H8 hs a9 hhl⟩
        | false =>
          refine iteF ?_
          refine ⟨.ref g, rfl, .inl ⟨rfl, _, .of a7.fl⟩, _, rfl, (by show 2 ≤ sizeLine; decide), fun t ht => ⟨g, _, _, rfl, rfl, (a7.new ht).fl, ?_, ?_⟩⟩
          · rw [hxl]
            exact small1000 (by omega)
          have a8 := (a7.new ht).app (c := true) upd_same zm
          refine ⟨.ref h, rfl, .inl ⟨rfl, _, .of a8.hl⟩, _, rfl, h, _, _, rfl, rfl, a8.hl, ?_, ?_⟩
          · rw [List.length_map]
            exact small1000 (by omega)
          · have a9 : SI p l g h zs H (upd _ h (.lst ((hs ++ [z]).map V.str))) (xs ++ [.ref t]) (ss ++ [(true, z)]) (hs ++ [z]) := a8.hset fun y m => by
              rcases List.mem_append.mp m with q | q
              · exact a8.hz y q
              · rw [List.mem_singleton.mp q]
                exact zm
            rw [List.map_append] at a9
            refine ⟨h, _, _, _, _, _, _, rfl, a9, ?_, ?_, ?_⟩
            · rw [List.length_append, hsl]
              rfl
            · rw [List.length_append, hxl]
              rfl
            · rw [List.length_append]
              show hs.length + 1 ≤ i + 1
              omega
    · rintro σ H3 ⟨h, xs, ss, hs, y5, y6, y7, rfl, a, hsl, hxl, hhl⟩
      exact ⟨_, rfl, k g xs ss H3 a.b a.pl hg a.fl a.st hsl a.sz⟩
end
end SE
namespace SE
open PySem PySem.Spec PyProof.Rows L2
/-! ### what is never reached; types -/
theorem pe_never {X : Cx} {e : Expr} : PE X e (fun _ _ _ => False) := ⟨fun _ _ _ _ _ _ h => h.elim⟩
theorem ty_tup {K : PySem.W.Frag} {H : Hp} {a : Addr} {xs : List V} (h : SqT K H a xs) : TyX K H (.ref a) (.type "tuple") := by
  rcases h with (h | ⟨o, h⟩) | ⟨o, its, n, h1, h2, _⟩
  · exact .base (.tup h)
  · exact .fTuple h
  · exact .kTuple h1 h2
theorem ty_lst {K : PySem.W.Frag} {H : Hp} {a : Addr} {xs : List V} (h : SqL K H a xs) : TyX K H (.ref a) (.type "list") := by
  rcases h with (h | ⟨o, h⟩) | ⟨o, its, n, h1, h2, _⟩
  · exact .base (.lst h)
  · exact .base (.frz h)
  · exact .kList h1 h2
theorem bl_snoc (n : Nat) : (List.replicate n true).map V.bl ++ [V.bl true] = (List.replicate (n + 1) true).map V.bl := by
  rw [List.replicate_succ', List.map_append]
  rfl
theorem all_true (n : Nat) : (List.replicate n true).all id = true := by
  rw [List.all_eq_true]
  intro b hb
  rw [(List.mem_replicate.mp hb).2]
  rfl
theorem abc_has {c : Nat} (h : 97 ≤ c ∧ c ≤ 122) : c ∈ abc.cps.toList := by
  have q : ∀ j : Fin 26, (97 + j.1) ∈ abc.cps.toList := by decide +kernel
  have z := q ⟨c - 97, by omega⟩
  have e : 97 + (c - 97) = c := by omega
  rw [← e]
  exact z
/-- the module's constants -/
structure Cons (K : PySem.W.Frag) (w : World) (mg : Str → Option Value) : Prop where
  let_ : ∃ t, mg "LETTERS" = some (.str abc t)
  ml : ∃ t, mg "MOST_LETTERS" = some (.int 8 t)
  ms : ∃ t, mg "MOST_STEPS" = some (.int 1000 t)
  opp : ∃ (d : Addr) (es : Array DictEntry) (n : Nat) (u v : Value), mg "OPPOSITES" = some (.ref d) ∧ KDict K w d es n ∧ PySem.W.nsIn K d "push" = some (some u) ∧ RelV (.str "pop") u ∧ PySem.W.nsIn K d "pop" = some (some v) ∧ RelV (.str "push") v
/-- built-in names that the module leaves as they are -/
structure Blt (mg : Str → Option Value) : Prop where
  isi : mg "isinstance" = none
  str : mg "str" = none
  len : mg "len" = none
  all : mg "all" = none
  tup : mg "tuple" = none
  lst : mg "list" = none
  enu : mg "enumerate" = none
section
variable {P : Program} {w : World} {K : PySem.W.Frag} {mg : Str → Option Value} {base : Heap}
/-! ### is_item -/
def spIsItem : Sp := fun xs H Q _ => ∃ (z : Str), xs = [.str z] ∧ Item z ∧ ∀ H', Same H H' → Q (.bl true) H'
theorem scIsItem : FnScope ["value", "letter"] ["value"] (defScope sIsItem) := ⟨rfl, rfl, rfl, by decide +kernel, rfl, by decide +kernel, by decide +kernel⟩
theorem has_isItem (D : Def K mg "is_item" sIsItem) (B : Blt mg) (C : Cons K w mg) : Has P w K mg base "is_item" 1 ["value"] [] spIsItem := by
  obtain ⟨tl, hL⟩ := C.let_
  obtain ⟨tm, hM⟩ := C.ml
  refine has_of D scIsItem (fun _ _ _ _ _ _ us hl => match us, hl with | [_], _ => rfl) (fun xs H Q E h => ?_) (fun f cv A out s H xs Q E hr h => ?_)
  · obtain ⟨z, rfl, _⟩ := h
    rfl
  · obtain ⟨z, rfl, iz, k⟩ := h
    refine ⟨_, pss_cons (ps_if (PW.pt (pw_or (pt_not (pt_val (pe_callB call_isi (by rfl) B.isi (by decide +kernel) (pa_cons (pv 0) (pa_cons (pe_bltn (v := .ty "str") (by rfl) B.str (by decide +kernel) rfl) pa_nil)))))
        (pw_or1 (pt_not (pt_chain op_le op_le pe_int (pe_callB call_len_str (by rfl) B.len PySem.boot_len (pa_cons (pv 0) pa_nil)) (pe_glob (v := .int 8) rfl hM ⟨_, rfl⟩)))))) (pss_one (ps_ret pe_bl)) pss_nil)
      (pss_one (ps_ret (pe_callB (cr_all rfl) (by rfl) B.all (by decide +kernel) (pa_cons
        (pe_lc (own := [("letter", 1)]) (g := gName 1) (tt := tYes) rfl scIsItem.nd (pi_str (pv 0)) (blkOk_by (own := [("letter", 1)]) (N := ["value", "letter"]) (sc := defScope sIsItem) (by decide +kernel))
          (fun _ _ _ _ _ => pg_name (i := 1) scIsItem.nd rfl (.inl rfl)) (fun _ _ _ _ _ => pts_nil) (fun _ _ _ _ _ => pe_cmpR op_in_sign (pv 1) (pe_glob (v := .str abc) rfl hL ⟨_, rfl⟩) (by rfl))) pa_nil)))), ?_⟩
    refine ⟨_, rfl, _, .ty "str", .type "str", .type "str", true, rfl, .ty _, .base (.str z), kit_ty (by decide +kernel), true, rfl, iteF ?_⟩
    have p1 : (1 : Int) ≤ (z.length : Int) := by have := iz.pos; omega
    have p2 : (z.length : Int) ≤ 8 := by have := iz.most; omega
    refine ⟨_, rfl, z, rfl, Nat.le_of_lt (small1000 (by have := iz.most; omega)), 1, _, rfl, rfl, true, congrArg V.bl (decide_eq_true p1), iteT ⟨_, 8, rfl, rfl, true, congrArg V.bl (decide_eq_true p2), iteF ?_⟩⟩
    refine ⟨_, rfl, z, rfl, fun D hD => lc_it walk_str (fun j H2 => H2 D = some (.lst ((List.replicate j true).map V.bl)) ∧ Same H H2) ⟨upd_same, Same.new hD⟩ (fun _ _ _ _ => trivial) ?_ ?_⟩
    · rintro j x H2 H3 hj ⟨h2, s2⟩ ⟨rfl, c, hc, rfl⟩
      refine ⟨rfl, yes_in ⟨_, rfl, c, abc, rfl, rfl, _, h2, ?_, ?_, ?_⟩⟩
      · rw [List.length_map, List.length_replicate]
        have : j < z.length := hj
        have := iz.most
        exact small1000 (by omega)
      · have cm : c ∈ z.cps.toList := by
          have q : z.cps.toList[j]? = some c := by rw [Array.getElem?_toList]; exact hc
          exact List.mem_of_getElem? q
        rw [upd_same, decide_eq_true (abc_has (iz.low c cm)), bl_snoc]
      · exact Same.free2 s2 hD
    · rintro H2 ⟨h2, s2⟩
      refine ⟨D, _, rfl, .of h2, ?_⟩
      rw [all_true]
      exact k H2 s2
/-! ### is_word -/
def spIsWord (K : PySem.W.Frag) : Sp := fun xs H Q _ => ∃ (a : Addr) (zs : List Str), xs = [.ref a] ∧ SqT K H a (zs.map V.str) ∧ zs.length ≤ 5000 ∧ (∀ z ∈ zs, Item z) ∧ ∀ H', Same H H' → Q (.bl true) H'
theorem scIsWord : FnScope ["value", "item"] ["value"] (defScope sIsWord) := ⟨rfl, rfl, rfl, by decide +kernel, rfl, by decide +kernel, by decide +kernel⟩
theorem has_isWord (D : Def K mg "is_word" sIsWord) (G : Has P w K mg base "is_item" 1 ["value"] [] spIsItem) (B : Blt mg) : Has P w K mg base "is_word" 2 ["value"] [] (spIsWord K) := by
  refine has_of D scIsWord (fun _ _ _ _ _ _ us hl => match us, hl with | [_], _ => rfl) (fun xs H Q E h => ?_) (fun f cv A out s H xs Q E hr h => ?_)
  · obtain ⟨a, zs, rfl, _⟩ := h
    rfl
  · obtain ⟨a, zs, rfl, hT, hz, hI, k⟩ := h
    refine ⟨_, pss_one (ps_ret (pe_and (pe_callB call_isi (by rfl) B.isi (by decide +kernel) (pa_cons (pv 0) (pa_cons (pe_bltn (v := .ty "tuple") (by rfl) B.tup (by decide +kernel) rfl) pa_nil)))
      (pe_one (pe_callB (cr_all rfl) (by rfl) B.all (by decide +kernel) (pa_cons
        (pe_lc (own := [("item", 1)]) (g := gName 1) (tt := tYes) (te := tCall spIsItem [] E0 (tCons (tVar 1) tNil)) rfl scIsWord.nd (pi_tup (pv 0)) (blkOk_by (own := [("item", 1)]) (N := ["value", "item"]) (sc := defScope sIsWord) (by decide +kernel))
          (fun _ _ _ _ _ => pg_name (i := 1) scIsWord.nd rfl (.inl rfl)) (fun _ _ _ _ _ => pts_nil) (fun _ _ _ _ _ => pe_has G hr (pa_cons (pv 1) pa_nil))) pa_nil))))), ?_⟩
    refine ⟨_, rfl, _, .ty "tuple", .type "tuple", .type "tuple", true, rfl, .ty _, ty_tup hT, kit_ty (by decide +kernel), true, rfl, iteT ?_⟩
    refine ⟨_, rfl, a, rfl, ⟨_, hT⟩, fun D hD => lc_tup (K := K) (a := a) (xs := zs.map V.str) (fun j H2 => H2 D = some (.lst ((List.replicate j true).map V.bl)) ∧ Same H H2) ⟨upd_same, Same.new hD⟩ (fun _ _ _ q => Same.tup q.2 hT) ?_ ?_⟩
    · rintro j x H2 hj ⟨h2, s2⟩
      have jl : j < zs.length := by
        have := (List.getElem?_eq_some_iff.mp hj).1
        rwa [List.length_map] at this
      rw [List.getElem?_map, List.getElem?_eq_getElem jl] at hj
      have e := Option.some.inj hj
      subst e
      refine ⟨rfl, yes_in ⟨_, rfl, zs[j], rfl, hI _ (List.getElem_mem jl), fun H3 s3 => ⟨_, s3 _ _ h2, ?_, ?_, ?_⟩⟩⟩
      · rw [List.length_map, List.length_replicate]
        exact Nat.lt_of_lt_of_le jl (Nat.le_trans hz (by decide))
      · rw [upd_same, bl_snoc]
      · exact Same.free2 (s2.trans s3) hD
    · rintro H2 ⟨h2, s2⟩
      refine ⟨D, _, rfl, .of h2, ?_⟩
      rw [all_true]
      exact k H2 s2
/-! ### is_step -/
def spIsStep (K : PySem.W.Frag) : Sp := fun xs H Q _ => ∃ (v : V) (s : Stp), xs = [v] ∧ StepV K H v s ∧ Item s.2 ∧ ∀ H', Same H H' → Q (.bl true) H'
theorem scIsStep : FnScope ["value", "action", "item"] ["value"] (defScope sIsStep) := ⟨rfl, rfl, rfl, by decide +kernel, rfl, by decide +kernel, by decide +kernel⟩
theorem has_isStep (D : Def K mg "is_step" sIsStep) (G : Has P w K mg base "is_item" 1 ["value"] [] spIsItem) (B : Blt mg) (C : Cons K w mg) : Has P w K mg base "is_step" 2 ["value"] [] (spIsStep K) := by
  obtain ⟨d, es, n, u1, u2, hO, KD, n1, r1, n2, r2⟩ := C.opp
  refine has_of D scIsStep (fun _ _ _ _ _ _ us hl => match us, hl with | [_], _ => rfl) (fun xs H Q E h => ?_) (fun f cv A out s H xs Q E hr h => ?_)
  · obtain ⟨v, st, rfl, _⟩ := h
    rfl
  · obtain ⟨v, st, rfl, ⟨t, rfl, hT⟩, iz, k⟩ := h
    refine ⟨_, pss_cons (ps_if (PW.pt (pw_or (pt_not (pt_val (pe_callB call_isi (by rfl) B.isi (by decide +kernel) (pa_cons (pv 0) (pa_cons (pe_bltn (v := .ty "tuple") (by rfl) B.tup (by decide +kernel) rfl) pa_nil)))))
        (pw_or1 (pt_cmpR op_ne (pe_callB call_len_seq (by rfl) B.len PySem.boot_len (pa_cons (pv 0) pa_nil)) pe_int (nomark _))))) (pss_one (ps_ret pe_bl)) pss_nil)
      (pss_cons (ps_asg (pv 0) (pg_tup (by rfl) (pgs_cons (pg_name (i := 1) scIsStep.nd rfl (.inl rfl)) (pgs_cons (pg_name (i := 2) scIsStep.nd rfl (.inl rfl)) pgs_nil))))
      (pss_one (ps_ret (pe_and (pe_callB call_isi (by rfl) B.isi (by decide +kernel) (pa_cons (pv 1) (pa_cons (pe_bltn (v := .ty "str") (by rfl) B.str (by decide +kernel) rfl) pa_nil)))
        (pe_and (pe_cmpR (op_in_kd KD) (pv 1) (pe_glob (v := .ref d) rfl hO rfl) (by rfl)) (pe_one (pe_has G hr (pa_cons (pv 2) pa_nil)))))))), ?_⟩
    refine ⟨_, rfl, _, .ty "tuple", .type "tuple", .type "tuple", true, rfl, .ty _, ty_tup hT, kit_ty (by decide +kernel), true, rfl, iteF ?_⟩
    refine ⟨_, rfl, t, _, rfl, .inr hT, rfl, _, rfl, iteF ?_⟩
    refine ⟨_, rfl, t, _, rfl, hT, rfl, _, _, rfl, _, _, rfl, rfl, ?_⟩
    refine ⟨_, rfl, _, .ty "str", .type "str", .type "str", true, rfl, .ty _, .base (.str _), kit_ty (by decide +kernel), true, rfl, iteT ?_⟩
    have inO : ∃ r, PySem.W.nsIn K d (act st.1) = some r ∧ r.isSome = true := by
      cases e : st.1 with
      | true => exact ⟨some u1, n1, rfl⟩
      | false => exact ⟨some u2, n2, rfl⟩
    obtain ⟨r, hr1, hr2⟩ := inO
    refine ⟨_, rfl, act st.1, r, rfl, rfl, hr1, r.isSome, rfl, ?_⟩
    rw [hr2]
    exact iteT ⟨_, rfl, st.2, rfl, iz, k⟩
end
end SE
namespace SE
open PySem PySem.Spec PyProof.Rows L2
section
variable {P : Program} {w : World} {K : PySem.W.Frag} {mg : Str → Option Value} {base : Heap}
/-! ### may_hold_steps -/
def spMay (K : PySem.W.Frag) : Sp := fun xs H Q _ => ∃ (a : Addr) (ys : List V), xs = [.ref a] ∧ (SqL K H a ys ∨ SqT K H a ys) ∧ ys.length ≤ 1000 ∧ ∀ H', Same H H' → Q (.bl true) H'
theorem scMay : FnScope ["value"] ["value"] (defScope sMayHold) := ⟨rfl, rfl, rfl, by decide +kernel, rfl, by decide +kernel, by decide +kernel⟩
theorem has_may (D : Def K mg "may_hold_steps" sMayHold) (B : Blt mg) (C : Cons K w mg) : Has P w K mg base "may_hold_steps" 1 ["value"] [] (spMay K) := by
  obtain ⟨tm, hM⟩ := C.ms
  refine has_of D scMay (fun _ _ _ _ _ _ us hl => match us, hl with | [_], _ => rfl) (fun xs H Q E h => ?_) (fun f cv A out s H xs Q E hr h => ?_)
  · obtain ⟨a, ys, rfl, _⟩ := h
    rfl
  · obtain ⟨a, ys, rfl, hS, hl, k⟩ := h
    refine ⟨_, pss_one (ps_ret (pe_and (pe_callB call_isiT (by rfl) B.isi (by decide +kernel) (pa_cons (pv 0) (pa_cons (pe_tup (pa_cons (pe_bltn (v := .ty "list") (by rfl) B.lst (by decide +kernel) rfl) (pa_cons (pe_bltn (v := .ty "tuple") (by rfl) B.tup (by decide +kernel) rfl) pa_nil))) pa_nil)))
      (pe_one (pe_cmpR op_le (pe_callB call_len_seq (by rfl) B.len PySem.boot_len (pa_cons (pv 0) pa_nil)) (pe_glob (v := .int 1000) rfl hM ⟨_, rfl⟩) (nomark _))))), ?_⟩
    refine ⟨_, rfl, (by show 2 ≤ sizeLine; decide), fun t ht => ?_⟩
    have s1 : Same H (upd H t (.tup [.ty "list", .ty "tuple"])) := Same.new ht
    have p1 : (ys.length : Int) ≤ 1000 := by omega
    have ty : ∃ T, TyX K (upd H t (.tup [.ty "list", .ty "tuple"])) (.ref a) T ∧ PySem.W.kitAny K T [.type "list", .type "tuple"] = some true := by
      rcases hS with q | q
      · exact ⟨_, ty_lst (Same.seq s1 q), kitAny_cons (b := true) (kit_ty (by decide +kernel)) (fun z => (by cases z)) (fun _ => rfl)⟩
      · exact ⟨_, ty_tup (Same.tup s1 q), kitAny_cons (b := false) (kit_ty (by decide +kernel)) (fun _ => kitAny_cons (b := true) (kit_ty (by decide +kernel)) (fun z => (by cases z)) (fun _ => rfl)) (fun z => (by cases z))⟩
    obtain ⟨T, ty1, ty2⟩ := ty
    refine ⟨_, t, _, T, _, true, rfl, upd_same, .cons (.ty _) (.cons (.ty _) .nil), ty1, ty2, true, rfl, iteT ?_⟩
    refine ⟨_, rfl, a, ys, rfl, hS.imp (Same.seq s1) (Same.tup s1), _, 1000, rfl, rfl, ?_⟩
    show Q (V.bl (decide ((ys.length : Int) ≤ 1000))) _
    rw [decide_eq_true p1]
    exact k _ s1
/-! ### check_steps -/
def spChkSteps (K : PySem.W.Frag) : Sp := fun xs H Q _ => ∃ (a : Addr) (ys : List V) (ss : List Stp), xs = [.ref a] ∧ (SqL K H a ys ∨ SqT K H a ys) ∧ ys.length ≤ 1000 ∧ StepsV K H ys ss ∧ (∀ s ∈ ss, Item s.2) ∧ ∀ H', Same H H' → Q .non H'
theorem scChk : FnScope ["steps", "index", "step"] ["steps"] (defScope sChkSteps) := ⟨rfl, rfl, rfl, by decide +kernel, rfl, by decide +kernel, by decide +kernel⟩
theorem walk_enumT {K : PySem.W.Frag} {a : Addr} {xs : List V} : Walk (ItE K a) xs.length (fun H => SqT K H a xs) (YPair (fun i => some (.int (i : Nat))) (fun i => xs[i]?)) := by
  refine ⟨fun i _ hi q => ⟨xs, xs[i], q, by simp [hi]⟩, fun _ q => ⟨xs, q, Nat.le_refl _⟩, fun i H v H2 _ q y => ?_⟩
  obtain ⟨T, x, h1, h2, h3, h4⟩ := y
  exact ⟨T, .int (i : Nat), x, h1, h2, h3, rfl, h4 xs q⟩
theorem has_chkSteps (D : Def K mg "check_steps" sChkSteps) (GM : Has P w K mg base "may_hold_steps" 1 ["value"] [] (spMay K)) (GS : Has P w K mg base "is_step" 2 ["value"] [] (spIsStep K)) (B : Blt mg) : Has P w K mg base "check_steps" 3 ["steps"] [] (spChkSteps K) := by
  refine has_of D scChk (fun _ _ _ _ _ _ us hl => match us, hl with | [_], _ => rfl) (fun xs H Q E h => ?_) (fun f cv A out s H xs Q E hr h => ?_)
  · obtain ⟨a, ys, ss, rfl, _⟩ := h
    rfl
  · obtain ⟨a, ys, ss, rfl, hS, hl, hV, hI, k⟩ := h
    have hr1 : Room 1 _ := hr.mono (by decide)
    have one : ∀ {i : Nat} {y : V} {H2 : Hp}, ys[i]? = some y → Same H H2 → ∃ s, StepV K H2 y s ∧ Item s.2 := by
      intro i y H2 hy s2
      obtain ⟨st, h1, h2⟩ := StepsV.at hV hy
      exact ⟨st, h2.same s2, hI st (List.mem_of_getElem? h1)⟩
    rcases hS with hS | hS
    · refine ⟨_, pss_cons (ps_if (pt_not (pt_val (pe_has GM hr1 (pa_cons (pv 0) pa_nil)))) pss_never pss_nil)
        (pss_one (ps_for PassesOwn.never rfl (pi_enum (by rfl) B.enu (pa_cons (pv 0) pa_nil)) (pg_tup (by rfl) (pgs_cons (pg_name (i := 1) scChk.nd rfl (.inl rfl)) (pgs_cons (pg_name (i := 2) scChk.nd rfl (.inl rfl)) pgs_nil)))
          (pss_one (ps_if (pt_not (pt_val (pe_has GS hr (pa_cons (pv 2) pa_nil)))) pss_never pss_nil)))), ?_⟩
      refine ⟨_, rfl, a, ys, rfl, .inl hS, hl, fun H1 s1 => ⟨true, rfl, iteF ?_⟩⟩
      refine ⟨_, rfl, a, ys, rfl, Same.seq s1 hS, for_it (walk_enum (K := K) (a := a) (xs := ys)) (fun i σ H2 => ∃ y1 y2, σ = [some (.ref a), y1, y2] ∧ Same H H2) ⟨none, none, rfl, s1⟩ (fun i σ H2 _ q => ?_) ?_ ?_⟩
      · obtain ⟨_, _, _, s2⟩ := q
        exact Same.seq s2 hS
      · rintro i x σ H2 H3 hi ⟨y1, y2, rfl, s2⟩ ⟨T, p, y, rfl, nT, rfl, hp, hy⟩
        refine ⟨T, _, rfl, .of upd_same, rfl, _, _, rfl, _, _, rfl, rfl, ?_⟩
        have s3 : Same H (upd H2 T (.tup [p, y])) := Same.free2 s2 (s2.free nT)
        obtain ⟨st, h1, h2⟩ := one hy s3
        exact ⟨_, rfl, y, st, rfl, h1, h2, fun H4 s4 => ⟨true, rfl, iteF ⟨_, _, rfl, s3.trans s4⟩⟩⟩
      · rintro σ H2 ⟨y1, y2, rfl, s2⟩
        exact k H2 s2
    · refine ⟨_, pss_cons (ps_if (pt_not (pt_val (pe_has GM hr1 (pa_cons (pv 0) pa_nil)))) pss_never pss_nil)
        (pss_one (ps_for PassesOwn.never rfl (pi_enumT (by rfl) B.enu (pa_cons (pv 0) pa_nil)) (pg_tup (by rfl) (pgs_cons (pg_name (i := 1) scChk.nd rfl (.inl rfl)) (pgs_cons (pg_name (i := 2) scChk.nd rfl (.inl rfl)) pgs_nil)))
          (pss_one (ps_if (pt_not (pt_val (pe_has GS hr (pa_cons (pv 2) pa_nil)))) pss_never pss_nil)))), ?_⟩
      refine ⟨_, rfl, a, ys, rfl, .inr hS, hl, fun H1 s1 => ⟨true, rfl, iteF ?_⟩⟩
      refine ⟨_, rfl, a, ys, rfl, Same.tup s1 hS, for_it (walk_enumT (K := K) (a := a) (xs := ys)) (fun i σ H2 => ∃ y1 y2, σ = [some (.ref a), y1, y2] ∧ Same H H2) ⟨none, none, rfl, s1⟩ (fun i σ H2 _ q => ?_) ?_ ?_⟩
      · obtain ⟨_, _, _, s2⟩ := q
        exact Same.tup s2 hS
      · rintro i x σ H2 H3 hi ⟨y1, y2, rfl, s2⟩ ⟨T, p, y, rfl, nT, rfl, hp, hy⟩
        refine ⟨T, _, rfl, .of upd_same, rfl, _, _, rfl, _, _, rfl, rfl, ?_⟩
        have s3 : Same H (upd H2 T (.tup [p, y])) := Same.free2 s2 (s2.free nT)
        obtain ⟨st, h1, h2⟩ := one hy s3
        exact ⟨_, rfl, y, st, rfl, h1, h2, fun H4 s4 => ⟨true, rfl, iteF ⟨_, _, rfl, s3.trans s4⟩⟩⟩
      · rintro σ H2 ⟨y1, y2, rfl, s2⟩
        exact k H2 s2
/-! ### check_word, is_limit, check_limit, check_run, is_too_high -/
def spChkWord (K : PySem.W.Frag) : Sp := fun xs H Q _ => ∃ (a : Addr) (zs : List Str), xs = [.ref a] ∧ SqT K H a (zs.map V.str) ∧ zs.length ≤ 5000 ∧ (∀ z ∈ zs, Item z) ∧ ∀ H', Same H H' → Q .non H'
theorem scCw : FnScope ["word"] ["word"] (defScope sChkWord) := ⟨rfl, rfl, rfl, by decide +kernel, rfl, by decide +kernel, by decide +kernel⟩
theorem has_chkWord (D : Def K mg "check_word" sChkWord) (G : Has P w K mg base "is_word" 2 ["value"] [] (spIsWord K)) : Has P w K mg base "check_word" 3 ["word"] [] (spChkWord K) := by
  refine has_of D scCw (fun _ _ _ _ _ _ us hl => match us, hl with | [_], _ => rfl) (fun xs H Q E h => ?_) (fun f cv A out s H xs Q E hr h => ?_)
  · obtain ⟨a, zs, rfl, _⟩ := h
    rfl
  · obtain ⟨a, zs, rfl, hT, hz, hI, k⟩ := h
    refine ⟨_, pss_one (ps_if (pt_not (pt_val (pe_has G hr (pa_cons (pv 0) pa_nil)))) pss_never pss_nil), ?_⟩
    exact ⟨_, rfl, a, zs, rfl, hT, hz, hI, fun H1 s1 => ⟨true, rfl, iteF (k H1 s1)⟩⟩
end
end SE
namespace SE
open PySem PySem.Spec PyProof.Rows L2
/-- a def with keyword-only defaults alone -/
def DefK (K : PySem.W.Frag) (mg : Str → Option Value) (x : Str) (st : Stmt) (kws : List (Str × V)) : Prop := ∃ f fd, Fun K x x st f fd ∧ FunD K x x (defArgs st) (defBody st) (defScope st) [] kws f fd ∧ mg x = some (.ref f)
end SE
namespace SE
open PySem PySem.Spec PyProof.Rows L2
section
variable {P : Program} {w : World} {K : PySem.W.Frag} {mg : Str → Option Value} {base : Heap}
/-! ### is_whole, is_between, check_between -/
def spWhole : Sp := fun xs H Q _ => ∃ n : Int, xs = [.int n] ∧ Q (.bl true) H
theorem scWh : FnScope ["value"] ["value"] (defScope sIsWhole) := ⟨rfl, rfl, rfl, by decide +kernel, rfl, by decide +kernel, by decide +kernel⟩
theorem has_whole (D : Def K mg "is_whole" sIsWhole) (B : Blt mg) (mi : mg "int" = none) (mb : mg "bool" = none) : Has P w K mg base "is_whole" 1 ["value"] [] spWhole := by
  refine has_of D scWh (fun _ _ _ _ _ _ us hl => match us, hl with | [_], _ => rfl) (fun xs H Q E h => ?_) (fun f cv A out s H xs Q E hr h => ?_)
  · obtain ⟨n, rfl, _⟩ := h
    rfl
  · obtain ⟨n, rfl, k⟩ := h
    refine ⟨_, pss_one (ps_ret (pe_and (pe_callB call_isi (by rfl) B.isi (by decide +kernel) (pa_cons (pv 0) (pa_cons (pe_bltn (v := .ty "int") (by rfl) mi (by decide +kernel) rfl) pa_nil)))
      (pe_one (pe_not (pe_callB call_isi (by rfl) B.isi (by decide +kernel) (pa_cons (pv 0) (pa_cons (pe_bltn (v := .ty "bool") (by rfl) mb (by decide +kernel) rfl) pa_nil))))))), ?_⟩
    refine ⟨_, rfl, _, .ty "int", .type "int", .type "int", true, rfl, .ty _, .base (.int n), kit_ty (by decide +kernel), true, rfl, iteT ?_⟩
    exact ⟨_, rfl, _, .ty "bool", .type "int", .type "bool", false, rfl, .ty _, .base (.int n), kit_ty (by decide +kernel), false, rfl, k⟩
end
end SE
/-! (x,) * n for n up to 5000. -/
namespace SE
open PySem PySem.Spec PyProof.Rows L2
def rRepB (K : PySem.W.Frag) : R2 := fun x y H Q => ∃ (l : Addr) (k : Int) (v : V), x = .ref l ∧ y = .int k ∧ SqT K H l [v] ∧ 2 ≤ k ∧ k ≤ 5000 ∧ ∀ p, H p = none → Q (.ref p) (upd H p (.tup (List.replicate k.toNat v)))
theorem op_repB {X : Cx} : OpR X (binaryOp .Mult) (rRepB X.K) := by
  intro pins s σ H x y a u Q I rx ry h
  obtain ⟨l, k, v, rfl, rfl, hT, h1, h2, q⟩ := h
  cases rx
  obtain ⟨t, rfl⟩ := ry
  obtain ⟨its, r, ⟨⟨cls, dd, data, sl⟩, ho, hc, n, hd⟩, hs⟩ := I.tuple hT
  simp only at hc hd
  subst hc hd
  obtain ⟨w, rfl⟩ : ∃ w, its = [w] := by
    cases r with
    | cons r1 r2 =>
      cases r2
      exact ⟨_, rfl⟩
  have sz : (([w] : List Value).toArray.size : Int) * k = k := by
    show ((1 : Nat) : Int) * k = k
    omega
  have rep : ∀ {α : Type} (z : α), (List.replicate k.toNat [z]).flatten = List.replicate k.toNat z := fun z => List.flatten_replicate_singleton
  have big : k.toNat ≤ sizeLine := by
    rw [sizeLine_eq]
    omega
  refine wpAny_binaryOp_repeat_ref (T := "tuple") (U := "int") (by decide) ⟨_, ho, rfl⟩ (fun s2 => typeIs_int s2 k t) noFill_tuple_mul F.fills_int_mul F.slot_int_rmul repeat_tuple F.slot_int_index.lookup ?_
  refine call_meets F.slot_int_rmul (typeIs_int s k t) F.entry_int_rmul (F.args_int_rmul_2 _ _) (int_rmul_tuple k t l _ n dd sl) ⟨ho, rfl, ⟨_, ho, rfl⟩, ?_⟩
  refine call_meets F.slot_tuple_mul ⟨_, ho, rfl⟩ F.entry_tuple_mul (F.args_tuple_mul_2 _ _) (tuple_mulW l _ n dd sl k t ?_ ?_ ?_ ?_ ?_ ?_) ⟨ho, ?_⟩
  · rw [decide_eq_false (by omega), decide_eq_false (by omega)]
    rfl
  · show (false || k == 1) = false
    rw [Bool.false_or]
    exact beq_eq_false_iff_ne.mpr (by omega)
  · show (decide (k ≤ 0) || false) = false
    rw [Bool.or_false]
    exact decide_eq_false (by omega)
  · rw [sz]
    omega
  · rw [sz]
    unfold Builtin.Tuple.tupleTooMany
    rw [sizeLine_eq]
    exact decide_eq_false (by omega)
  · rw [size_rep, List.size_toArray, rep, List.length_replicate]
    exact big
  · rw [size_rep, rep]
    refine ⟨.ref s.heap.objs.size, _, I.laid (t' := s.toks) (o := .tup (List.replicate k.toNat v)) (fun b ob e => Heap.get?_push_of_some _ e) (Nat.le_refl _) ?_, rfl, q _ (I.hok.fresh (Nat.le_refl _))⟩
    refine ⟨by rw [List.length_replicate]; exact big, _, ?_, IsTup.new _ _⟩
    have z := r.rep k.toNat
    rw [rep, rep] at z
    exact z
end SE
/-! Tuples: t * n, t + u, t[a:b] whichever object comes out; len(set(t)) of texts. -/
namespace SE
open PySem PySem.Spec PyProof.Rows L2
section
variable {X : Cx}
theorem tmul_one (l : Addr) (w : Value) (n : Nat) (dd : Option Addr) (sl : Array (Option Value)) (u : Tok) :
    Meets (Builtin.«tuple.__mul__» ⟨[.ref l, .int 1 u], []⟩) (fun _ R s => s.heap.get? l = some { cls := .type "tuple", dict := dd, data := .seq #[w] n, slots := sl } ∧ R (.ok (.ret (Value.ref l))) s) :=
  .of_wp fun prog wd A R s h => by
    obtain ⟨hp, g, d, tk, os⟩ := s
    obtain ⟨hl, h⟩ := h
    have f1 := AutoSeq1.idx_int
    wp_walk using AutoSeq1.wpAny_loadPart' hl
    exact ⟨_, rfl, h⟩
theorem tmul_none (l : Addr) (w : Value) (n : Nat) (dd : Option Addr) (sl : Array (Option Value)) (k : Int) (u : Tok) (h0 : -1000000 ≤ k) (h1 : k ≤ 0) :
    Meets (Builtin.«tuple.__mul__» ⟨[.ref l, .int k u], []⟩) (fun _ R s => s.heap.get? l = some { cls := .type "tuple", dict := dd, data := .seq #[w] n, slots := sl } ∧
      R (.ok (.ret (Value.ref s.heap.objs.size))) { s with heap := s.heap.push { cls := .type "tuple", data := .seq #[] } }) :=
  .of_wp fun prog wd A R s h => by
    obtain ⟨hp, g, d, tk, os⟩ := s
    obtain ⟨hl, h⟩ := h
    have f1 := AutoSeq1.idx_int
    have c0 : (decide (k < -(2 ^ 63)) || decide (k ≥ 2 ^ 63)) = false := by
      rw [decide_eq_false (by omega), decide_eq_false (by omega)]
      rfl
    have c1 : ((#[w] : Array Value).isEmpty || k == 1) = false := by
      show (false || k == 1) = false
      rw [Bool.false_or]
      exact beq_eq_false_iff_ne.mpr (by omega)
    have c2 : (decide (k ≤ 0) || (#[w] : Array Value).isEmpty) = true := by
      rw [decide_eq_true h1]
      rfl
    wp_walk using AutoSeq1.wpAny_loadPart' hl
    repeat (first
      | (refine wpAny_ite_false (decide_eq_false (by rw [c0]; exact Bool.false_ne_true)) ?_; wp_walk using AutoSeq1.wpAny_loadPart' hl)
      | (refine wpAny_ite_false (decide_eq_false (by rw [c1]; exact Bool.false_ne_true)) ?_; wp_walk using AutoSeq1.wpAny_loadPart' hl)
      | (refine wpAny_ite_true (decide_eq_true (by rw [c2])) ?_; wp_walk using AutoSeq1.wpAny_loadPart' hl))
    exact ⟨_, rfl, h⟩
/-- (x,) * k, any k -/
def rRepS (K : PySem.W.Frag) : R2 := fun x y H Q => ∃ (l : Addr) (k : Int) (v : V), x = .ref l ∧ y = .int k ∧ SqT K H l [v] ∧ -1000000 ≤ k ∧ k ≤ 5000 ∧ ∀ (p : Addr) (H' : Hp), Same H H' → SqT K H' p (List.replicate k.toNat v) → Q (.ref p) H'
theorem op_repS : OpR X (binaryOp .Mult) (rRepS X.K) := by
  intro pins s σ H x y a u Q I rx ry h
  obtain ⟨l, k, v, rfl, rfl, hT, h1, h2, q⟩ := h
  by_cases c : 2 ≤ k
  · exact op_repB pins s σ H _ _ a u Q I rx ry ⟨l, k, v, rfl, rfl, hT, c, h2, fun p hp => q p _ (Same.new hp) (.of upd_same)⟩
  cases rx
  obtain ⟨t, rfl⟩ := ry
  obtain ⟨its, r, ⟨⟨cls, dd, data, sl⟩, ho, hc, n, hd⟩, hs⟩ := I.tuple hT
  simp only at hc hd
  subst hc hd
  obtain ⟨w, rfl⟩ : ∃ w, its = [w] := by
    cases r with
    | cons r1 r2 =>
      cases r2
      exact ⟨_, rfl⟩
  refine wpAny_binaryOp_repeat_ref (T := "tuple") (U := "int") (by decide) ⟨_, ho, rfl⟩ (fun s2 => typeIs_int s2 k t) noFill_tuple_mul F.fills_int_mul F.slot_int_rmul repeat_tuple F.slot_int_index.lookup ?_
  refine call_meets F.slot_int_rmul (typeIs_int s k t) F.entry_int_rmul (F.args_int_rmul_2 _ _) (int_rmul_tuple k t l _ n dd sl) ⟨ho, rfl, ⟨_, ho, rfl⟩, ?_⟩
  by_cases c1 : k = 1
  · subst c1
    refine call_meets F.slot_tuple_mul ⟨_, ho, rfl⟩ F.entry_tuple_mul (F.args_tuple_mul_2 _ _) (tmul_one l w n dd sl t) ⟨ho, ?_⟩
    exact ⟨.ref l, H, I, rfl, q l H (Same.refl H) hT⟩
  · have k0 : k ≤ 0 := by omega
    refine call_meets F.slot_tuple_mul ⟨_, ho, rfl⟩ F.entry_tuple_mul (F.args_tuple_mul_2 _ _) (tmul_none l w n dd sl k t h1 k0) ⟨ho, ?_⟩
    refine ⟨.ref s.heap.objs.size, _, I.laid (t' := s.toks) (o := .tup []) (fun b ob e => Heap.get?_push_of_some _ e) (Nat.le_refl _) ?_, rfl, q _ _ (Same.new (I.hok.fresh (Nat.le_refl _))) ?_⟩
    · exact ⟨Nat.zero_le _, [], .nil, IsTup.new _ _⟩
    · rw [show k.toNat = 0 by omega]
      exact .of upd_same
/-- t + u -/
def rCatS (K : PySem.W.Frag) : R2 := fun x y H Q => ∃ (a b : Addr) (xs ys : List V), x = .ref a ∧ y = .ref b ∧ SqT K H a xs ∧ SqT K H b ys ∧ xs.length + ys.length ≤ sizeLine ∧ ∀ (p : Addr) (H' : Hp), Same H H' → SqT K H' p (xs ++ ys) → Q (.ref p) H'
theorem op_catS : OpR X (binaryOp .Add) (rCatS X.K) := by
  intro pins s σ H x y v u Q I rx ry h
  obtain ⟨a, b, xs, ys, rfl, rfl, ha, hb, hz, q⟩ := h
  refine op_catA pins s σ H _ _ v u Q I rx ry ⟨a, b, xs, ys, rfl, rfl, ha, hb, hz, fun e => ?_, fun _ e => ?_, fun _ _ p hp => q p _ (Same.new hp) (.of upd_same)⟩
  · subst e
    exact q b H (Same.refl H) hb
  · subst e
    exact q a H (Same.refl H) (by rw [List.append_nil]; exact ha)
/-- t[lo:hi] -/
def rSlS (K : PySem.W.Frag) : V → Option Int → Option Int → Hp → VK → Prop := fun x lo hi H Q => ∃ (a : Addr) (xs : List V), x = .ref a ∧ SqT K H a xs ∧ ∀ (p : Addr) (H' : Hp), Same H H' → SqT K H' p (cutV xs lo hi) → Q (.ref p) H'
theorem sl_tupS : SlR X (rSlS X.K) := by
  intro pins s σ H x v vl vu lo hi sl Q I rx hs pl pu h
  obtain ⟨a, xs, rfl, hx, q⟩ := h
  refine sl_tupA pins s σ H _ v vl vu lo hi sl Q I rx hs pl pu ⟨a, xs, rfl, hx, fun e => q a H (Same.refl H) ?_, fun _ p hp => q p _ (Same.new hp) (.of upd_same)⟩
  have e2 : cutV xs lo hi = xs := by
    unfold cutV
    rw [e.1, e.2, List.drop_zero, Nat.sub_zero, List.take_length]
  rw [e2]
  exact hx
end
end SE
/-! A for in a generator's body; a generator def called with keywords. -/
namespace SE
open PySem PySem.Spec PyProof.Rows L2 GenW
section
variable {X : Cx}
def tGFor (wi : TI) (g : TG) (tb : TGn) : TGn := fun D ys σ H => wi σ H fun J H1 => ∃ W : Nat → Nat → List V → L2.St → Hp → Prop, (∃ m, W 0 m ys σ H1) ∧ ∀ i m ys σ H, W i m ys σ H →
  (J.stop i H ∧ D.nx ys σ H) ∨ (J.go i H ∧ ∃ N : List V → L2.St → Hp → Prop, (∀ zs σ2 H2, N zs σ2 H2 → ∃ j, j < m ∧ W (i + 1) j zs σ2 H2) ∧ ∀ x H2, J.yld i H x H2 → g x σ H2 fun σ3 H3 => tb { D with nx := N, ct := N, bk := D.nx } ys σ3 H3)
theorem gs_for {tg iter : Expr} {body : List Stmt} {pos : Pos} {wi : TI} {g : TG} {tb : TGn} (hp : PassesOwn (model X.prog X.w) X.A X.env X.xe) (hc : X.calm = true) (hi : PI X tg iter wi) (hg : PG X tg g) (hb : GSs X body tb)
    (hs : ∀ x, foldedSetIterable iter X.env x = pure x := by intro _; rfl) : GS X (.For tg iter body [] pos) (tGFor wi g tb) := by
  constructor
  intro A S ip R n ys s₀ c fs K J gd lv s σ H D gc hn k hI ht
  obtain ⟨acc, cc, r, I⟩ := hI
  rw [exec_For]
  refine seg_bind_wrap (wpAny_standAt ?_)
  refine seg_bind_wrap ?_
  rw [gc.over]
  refine wpAny_mono (hi.run _ s σ H _ I ht) (fun v s1 h1 => ?_) fun x s2 hx => k.exc n s₀ x s2 hx
  refine seg_bind_wrap (wpAny_of_eq (hs v) ?_)
  refine seg_bind_wrap (wpAny_standAt ?_)
  refine seg_bind_wrap (wpAny_holding ?_)
  rw [gc.over]
  refine wpAny_mono h1 (fun itv s2 h2 => ?_) fun x s3 hx => k.exc n s₀ x s3 hx
  obtain ⟨it, fp, tn, Jt, H2, e2, I2, T, st2, f2, W, ⟨m0, w0⟩, turn⟩ := h2
  subst e2
  refine seg_call fun p => ?_
  have gl := fun (kk : Result → Sem PySem.Fin) => gc_loop (X := X) (k := kk) (c' := .forLoop tg (.ref it) body [] X.env) (l := lv []) (kp := []) (p := p) gc rfl rfl
  have apart : ∀ b ∈ fp, b ≠ S := fun b hb z => by
    obtain ⟨_, _, _, _, _, q⟩ := f2 b hb
    exact q (S, lstObj acc cc) (List.mem_append_right _ List.mem_cons_self) z.symm
  have fpok : ∀ {acc2 : Array Value} {c2 : Nat} {H3 : Hp}, (∀ b ∈ fp, H3 b = none) → ∀ b ∈ fp, FpOk X ((S, lstObj acc2 c2) :: ip) H3 b := by
    intro acc2 c2 H3 hn3 b hb
    obtain ⟨_, a2, a3, a4, a5, a6⟩ := f2 b hb
    refine ⟨hn3 b hb, a2, a3, a4, a5, fun q hq => ?_⟩
    rcases List.mem_append.mp hq with z | z
    · exact a6 q (List.mem_append_left _ z)
    · rcases List.mem_cons.mp z with y | y
      · rw [y]
        exact Ne.symm (apart b hb)
      · exact a6 q (List.mem_append_right _ (List.mem_cons_of_mem _ y))
  have loop : ∀ (m n i : Nat) (ys : List V) (s₀ s : Shared) (σ : L2.St) (H : Hp), n + ys.length = sizeLine → W i m ys σ H → GI X S ip ys σ H s → tn i s.heap → (∀ b ∈ fp, H b = none) →
      Seg (model X.prog X.w) A R (GY X S) n s₀ (.forLoop tg (.ref it) body [] X.env) ((model X.prog X.w).den (.forLoop tg (.ref it) body [] X.env))
        (.ret (fun r => ((match r with | .ok f => (.pure f : Sem Flow) | .error e => .raise e).onRaise (cameBack X.env)).wrap K J gd lv) none (gd false) (lv []) c p [] :: fs) s := by
    intro m
    induction m using Nat.strongRecOn with
    | ind m ih =>
      intro n i ys s₀ s σ H hn w hI st fr
      have ee : ∀ (n : Nat) (s₀ : Shared) (x : Value) (s4 : Shared), X.xe x s4 → Seg (model X.prog X.w) A R (GY X S) n s₀ (.forLoop tg (.ref it) body [] X.env)
          ((do noteFrame x X.env; theTreesLotGoes x : Sem Unit).bind fun _ => .raise x)
          (.ret (fun r => ((match r with | .ok f => (.pure f : Sem Flow) | .error e => .raise e).onRaise (cameBack X.env)).wrap K J gd lv) none (gd false) (lv []) c p [] :: fs) s4 := fun n s₀ x s4 hx => by
        rw [Sem.bind_eq_wrap]
        refine seg_wrap ?_
        rw [(gl _).over]
        refine wpAny_bind (wpAny_mono (hp x s4 hx) (fun _ s5 hcb => wpAny_theTreesLotGoes ?_) fun y s5 hcb => ?_)
        · exact seg_leaf (.error x) (seg_cameBack gc k hcb)
        · exact seg_leaf (.error y) (seg_cameBack gc k hcb)
      show Seg _ A R _ n s₀ _ ((forTurn tg (.ref it) body [] X.env).onRaise (fun x => do noteFrame x X.env; theTreesLotGoes x)) _ s
      unfold forTurn
      rw [Sem.onRaise_eq_wrap]
      refine seg_bind_wrap (wpAny_standAt ?_)
      refine seg_bind_wrap ?_
      rw [(gl _).over]
      obtain ⟨acc3, c3, r3, I3⟩ := hI
      rcases turn i m ys σ H w with ⟨stop, qn⟩ | ⟨go, N, hN, step⟩
      · refine wpAny_onRaise (wpAny_mono (T.done X rfl rfl rfl hc i _ s σ H X.xe I3 (fpok fr) st stop) (fun rr s4 hh => ?_) fun x s4 hx => wpAny_standAt (ee n s₀ x s4 hx))
        obtain ⟨hr, I4⟩ := hh
        subst hr
        refine seg_again rfl ?_
        show Seg _ A R _ n s₀ _ (do return Fin.done (← (execs [] X.env).onRaise (fun x => do noteFrame x X.env; theTreesLotGoes x))) _ s4
        exact seg_leaf (.ok .next) (k.ok n ys s₀ s4 .next hn ⟨σ, H, ⟨acc3, c3, r3, I4⟩, qn⟩)
      · refine wpAny_onRaise (wpAny_mono (T.item X rfl rfl rfl hc i _ s σ H X.xe I3 (fpok fr) st go) (fun rr s4 hh => ?_) fun x s4 hx => wpAny_standAt (ee n s₀ x s4 hx))
        obtain ⟨u, hr, h4⟩ := hh
        subst hr
        refine seg_bind_wrap ?_
        rw [(gl _).over]
        refine wpAny_mono h4 (fun _ s5 hh => ?_) fun x s5 hx => ee n s₀ x s5 hx
        obtain ⟨x, H5, I5, r5, y5, st5, fr5⟩ := hh
        have I6 := I5.pinned (fpok fr5) (T.obj _ _ st5)
        refine seg_bind_wrap ?_
        rw [(gl _).over]
        refine wpAny_mono (hg.run _ s5 σ H5 x u _ I6 r5 (step x H5 y5)) (fun _ s6 hh => ?_) fun x s6 hx => ee n s₀ x s6 hx
        obtain ⟨σ6, H6, I7, q6⟩ := hh
        have gb : GC X S (ip ++ pinsAt fp s5.heap) A (.forLoop tg (.ref it) body [] X.env) (.ret (fun r => ((match r with | .ok f => (.pure f : Sem Flow) | .error e => .raise e).onRaise (cameBack X.env)).wrap K J gd lv) none (gd false) (lv []) c p [] :: fs) id := by
          have q := gl (fun r => ((match r with | .ok f => (.pure f : Sem Flow) | .error e => .raise e).onRaise (cameBack X.env)).wrap K J gd lv)
          refine ⟨q.pn, fun z hz => ?_, q.apart, q.over, q.split, q.guard, q.gd⟩
          rcases List.mem_append.mp hz with y | y
          · exact q.ip z y
          · exact apart z.1 (of_pinsAt y).1
        rw [Sem.bind_eq_wrap', Sem.wrap_wrap]
        refine hb.run A S (ip ++ pinsAt fp s5.heap) R n ys s₀ _ _ _ _ id id s6 σ6 H6 { D with nx := N, ct := N, bk := D.nx } gb hn ⟨fun n2 zs s7 s8 f hn2 hs8 => ?_, fun n2 s7 x s8 hx => ee n2 s7 x s8 hx⟩ ⟨acc3, c3, r3, I7⟩ q6
        have again : ∀ {σ8 : L2.St} {H8 : Hp}, GI X S (ip ++ pinsAt fp s5.heap) zs σ8 H8 s8 → N zs σ8 H8 → Seg (model X.prog X.w) A R (GY X S) n2 s7 (.forLoop tg (.ref it) body [] X.env) ((model X.prog X.w).den (.forLoop tg (.ref it) body [] X.env))
            (.ret (fun r => ((match r with | .ok f => (.pure f : Sem Flow) | .error e => .raise e).onRaise (cameBack X.env)).wrap K J gd lv) none (gd false) (lv []) c p [] :: fs) s8 := by
          intro σ8 H8 G8 n8
          obtain ⟨j, hj, w8⟩ := hN zs σ8 H8 n8
          obtain ⟨acc8, c8, r8, I8⟩ := G8
          have pin8 : ∀ b ∈ fp, ∀ o, s5.heap.get? b = some o → s8.heap.get? b = some o ∧ H8 b = none := fun b hb o e => by
            have q := I8.pin (b, o) (List.mem_append_right _ (List.mem_cons_of_mem _ (List.mem_append_right _ (mem_pinsAt hb e))))
            exact ⟨q.1, q.2.1⟩
          refine ih j hj n2 (i + 1) zs s7 s8 σ8 H8 hn2 w8 ⟨acc8, c8, r8, I8.pins_of fun q hq => I8.pin q (List.mem_append_right _ ?_)⟩ (T.keep _ _ _ st5 fun b hb o e => (pin8 b hb o e).1) fun b hb => ?_
          · rcases List.mem_cons.mp hq with y | y
            · rw [y]
              exact List.mem_cons_self
            · exact List.mem_cons_of_mem _ (List.mem_append_left _ y)
          · obtain ⟨o, e, _⟩ := T.obj _ _ st5 b hb
            exact (pin8 b hb o e).2
        have thin : ∀ {σ8 : L2.St} {H8 : Hp}, GI X S (ip ++ pinsAt fp s5.heap) zs σ8 H8 s8 → GI X S ip zs σ8 H8 s8 := by
          intro σ8 H8 G8
          obtain ⟨acc8, c8, r8, I8⟩ := G8
          refine ⟨acc8, c8, r8, I8.pins_of fun q hq => I8.pin q (List.mem_append_right _ ?_)⟩
          rcases List.mem_cons.mp hq with y | y
          · rw [y]
            exact List.mem_cons_self
          · exact List.mem_cons_of_mem _ (List.mem_append_left _ y)
        cases f with
        | next =>
          obtain ⟨σ8, H8, G8, n8⟩ := hs8
          exact seg_again rfl (again G8 n8)
        | cont =>
          obtain ⟨σ8, H8, G8, n8⟩ := hs8
          exact seg_again rfl (again G8 n8)
        | brk =>
          obtain ⟨σ8, H8, G8, n8⟩ := hs8
          exact seg_leaf (.ok .next) (k.ok n2 zs s7 s8 .next hn2 ⟨σ8, H8, thin G8, n8⟩)
        | ret v =>
          obtain ⟨x8, σ8, H8, G8, r8, n8⟩ := hs8
          exact seg_leaf (.ok (.ret v)) (k.ok n2 zs s7 s8 (.ret v) hn2 ⟨x8, σ8, H8, thin G8, r8, n8⟩)
  exact loop m0 n 0 ys s₀ s2 σ H2 hn w0 ⟨acc, cc, r, I2⟩ st2 fun b hb => (f2 b hb).1
end
end SE
/-! Calls by keywords. -/
namespace SE
open PySem PySem.Spec PyProof.Rows L2 GenW
section
variable {K : PySem.W.Frag} {x qual : Str} {params : Arguments} {body : List Stmt} {scope : Scope} {kws : List (Str × V)} {f : Addr} {fd : FuncData} {ps : List Str}
/-- keyword-only defaults alone; ms: those that lack -/
theorem kb_some (F : FunD K x qual params body scope [] kws f fd) (n : Nat) (ks : List Str) (ms : List (Str × V)) (g : {α : Type} → List α → List α → List α → List α) (hk : kws ≠ []) (hms : ∀ q ∈ ms, q ∈ kws)
    (hrel : ∀ {vs mz zs : List V} {us mv ws : List Value}, Vals vs us → Vals mz mv → Vals zs ws → Vals (g vs mz zs) (g us mv ws))
    (h : ∀ (D : Addr) (doc pm : Value) (an : Option Addr) (cv ct : Value) (us mv ws : List Value), us.length = n → mv.length = ms.length → ws.length = ks.length →
      KwChain D ((ms.map (·.1)).zip mv) (bindArgs (PySem.W.fnOf x qual params body scope .none (.ref D) doc pm an cv ct) ⟨us, ks.zip ws⟩) (ps.zip (g us mv ws))) :
    ∃ mv : List Value, KBn K fd ps n ks (fun us ws => g us mv ws) (fun vs zs => g vs (ms.map (·.2)) zs) := by
  obtain ⟨oc, od, dV, kV, doc, pm, an, cv, ct, osl, rfl, look, hc, hD, hK⟩ := F.ex
  rcases hD with ⟨_, rfl⟩ | ⟨e, _⟩
  · rcases hK with e | ⟨D, rfl, hq⟩
    · exact absurd e hk
    · obtain ⟨mv, hl, rk, hks⟩ := kwd_vals (ms := ms) fun q hm => hq q (hms q hm)
      exact ⟨mv, fun s us ws X l1 l2 => BindsTo.of_looks fun M => KwChain.looks X hks (h D doc pm an cv ct us mv ws l1 hl l2), fun r1 r2 => hrel r1 rk r2⟩
  · exact absurd rfl e
theorem kb_all {st : Stmt} (F : Fun K x qual st f fd) (n : Nat) (ks : List Str) (g : {α : Type} → List α → List α → List α)
    (hrel : ∀ {vs zs : List V} {us ws : List Value}, Vals vs us → Vals zs ws → Vals (g vs zs) (g us ws))
    (h : ∀ (kV doc pm : Value) (an : Option Addr) (cv ct : Value) (us ws : List Value), us.length = n → ws.length = ks.length → bindArgs (PySem.W.fnOf x qual (defArgs st) (defBody st) (defScope st) .none kV doc pm an cv ct) ⟨us, ks.zip ws⟩ = pure (ps.zip (g us ws))) :
    KBn K fd ps n ks (fun us ws => g us ws) (fun vs zs => g vs zs) := by
  obtain ⟨oc, od, kV, doc, pm, an, cv, ct, osl, rfl, look, hc⟩ := F.ex
  exact ⟨fun s us ws X l1 l2 => .of_eq (h kV doc pm an cv ct us ws l1 l2), fun r1 r2 => hrel r1 r2⟩
end
section
variable {X : Cx} {k n : Nat} {f : Addr} {fd : FuncData} {ps ks : List Str} {sp : Sp} {E : XK} {x : Str} {p pos : Pos} {e : Expr} {es : List Expr} {kws : List Keyword} {t tk : TA} {g : List Value → List Value → List Value} {gV : List V → List V → List V}
/-- f(k = v, ..) -/
theorem pe_kw0 (F : FnOk X.prog X.w X.K X.mg X.base CX0 k f fd ps sp) (hr : Room k X.A) (hg : Gl X x) (hm : X.mg x = some (.ref f)) (hk : PySem.W.keepIn X.K (.ref f) = true) (hb : KBn X.K fd ps 0 ks g gV)
    (hkw : PK X kws tk) (hall : (backToKw pos (keywordEach kws X.env)).all (·.1.isSome) = true := by rfl) (hks : (backToKw pos (keywordEach kws X.env)).filterMap (·.1) = ks := by rfl)
    (hdb : (x == ("__debug__" : Str)) = false := by decide) (hpl : ((backTo pos (starEach [] X.env)).any (·.1) || (backToKw pos (keywordEach kws X.env)).any (·.1.isNone)) = false := by rfl) :
    PE X (.Call (.Name x p) [] kws pos) (tCallN 0 ks.length sp gV E0 tNil tk) := by
  constructor
  intro pins s σ H Q I h
  apply wpAny_Call_Name_kw
  apply ld_glob I hg hm _ hdb
  refine PySem.W.callWith_KW0 (h₀ := X.base) I.ok.mod.kin hk hall (thn (hkw.run pos pins s σ H _ I h) fun ws s2 hh => ?_) hpl
  obtain ⟨zs, H2, I2, rz, l1, l2, q2⟩ := hh
  refine ⟨I2.kIn, ?_⟩
  rw [hks]
  exact run_fnN F hr hb pass0 I2 .nil rz l1 l2 q2
/-! ### generators -/
variable {sg : SpG}
theorem run_gkw {pins : List (Addr × Obj)} {σ : L2.St} {H : Hp} {s : Shared} {us ws : List Value} {vs zs : List V} {cont : List V → Hp → Prop} {E1 : Value → Shared → Prop} (F : GFn X.prog X.w X.K X.mg X.base k f fd ps sg) (hr : Room k X.A) (hb : KBn X.K fd ps n ks g gV)
    (I : Inv X pins σ H s) (r : Vals vs us) (rz : Vals zs ws) (l1 : vs.length = n) (l2 : zs.length = ks.length) (h : sg (gV vs zs) H cont E) :
    wpAny (model X.prog X.w) X.A (call (.ref f) us (ks.zip ws)) (fun u s2 => ∃ H1 sc ex, Inv X pins σ H1 sc ∧ ExOk X pins ex ∧ GMade X.prog X.w k X.stack H1 sc ex cont E u s2) E1 s := by
  have r2 := hb.rel r rz
  refine wpAny_call (codeAny_mono (F.run X.A X.stack s H ⟨us, ks.zip ws⟩ (g us ws) (gV vs zs) cont E hr I.env0 (hb.to s us ws I.kIn (r.length.symm.trans l1) (rz.length.symm.trans l2)) r2 h) fun rr s2 hq => ?_)
  cases rr with
  | error _ => exact hq.elim
  | ok fl =>
    cases fl with
    | ret u => exact ⟨H, s, [], I, .nil, hq⟩
    | next => exact hq.elim
    | brk => exact hq.elim
    | cont => exact hq.elim
def tGenN (n m : Nat) (sg : SpG) (gV : List V → List V → List V) (E : XK) (t tk : TA) : TGen := fun σ H cont => t σ H fun vs H1 => tk σ H1 fun zs H2 => vs.length = n ∧ zs.length = m ∧ sg (gV vs zs) H2 cont E
theorem pgen_kw (F : GFn X.prog X.w X.K X.mg X.base k f fd ps sg) (hr : Room k X.A) (hg : Gl X x) (hm : X.mg x = some (.ref f)) (hk : PySem.W.keepIn X.K (.ref f) = true) (hb : KBn X.K fd ps n ks g gV)
    (ha : PA X (e :: es) t) (hkw : PK X kws tk) (hall : (backToKw pos (keywordEach kws X.env)).all (·.1.isSome) = true := by rfl) (hks : (backToKw pos (keywordEach kws X.env)).filterMap (·.1) = ks := by rfl)
    (hdb : (x == ("__debug__" : Str)) = false := by decide) (he : starEach (e :: es) X.env = (false, eval e X.env) :: starEach es X.env := by rfl)
    (hpl : ((backTo pos (starEach (e :: es) X.env)).any (·.1) || (backToKw pos (keywordEach kws X.env)).any (·.1.isNone)) = false := by rfl) :
    PGen X k (.Call (.Name x p) (e :: es) kws pos) (tGenN n ks.length sg gV E t tk) E := by
  constructor
  intro pins s σ H cont I h
  apply wpAny_Call_Name_kw
  apply ld_glob I hg hm _ hdb
  refine PySem.W.callWith_KW (h₀ := X.base) I.ok.mod.kin hk hall (thn (ha.run pos pins s σ H _ I h) fun us s1 hh => ?_) hpl he
  obtain ⟨vs, H1, I1, r, q⟩ := hh
  refine thn (hkw.run pos pins s1 σ H1 _ I1 q) fun ws s2 hh => ?_
  obtain ⟨zs, H2, I2, rz, l1, l2, q2⟩ := hh
  refine ⟨I2.kIn, ?_⟩
  rw [hks]
  exact run_gkw F hr hb I2 r rz l1 l2 q2
theorem pgen_kw0 (F : GFn X.prog X.w X.K X.mg X.base k f fd ps sg) (hr : Room k X.A) (hg : Gl X x) (hm : X.mg x = some (.ref f)) (hk : PySem.W.keepIn X.K (.ref f) = true) (hb : KBn X.K fd ps 0 ks g gV)
    (hkw : PK X kws tk) (hall : (backToKw pos (keywordEach kws X.env)).all (·.1.isSome) = true := by rfl) (hks : (backToKw pos (keywordEach kws X.env)).filterMap (·.1) = ks := by rfl)
    (hdb : (x == ("__debug__" : Str)) = false := by decide) (hpl : ((backTo pos (starEach [] X.env)).any (·.1) || (backToKw pos (keywordEach kws X.env)).any (·.1.isNone)) = false := by rfl) :
    PGen X k (.Call (.Name x p) [] kws pos) (tGenN 0 ks.length sg gV E tNil tk) E := by
  constructor
  intro pins s σ H cont I h
  apply wpAny_Call_Name_kw
  apply ld_glob I hg hm _ hdb
  refine PySem.W.callWith_KW0 (h₀ := X.base) I.ok.mod.kin hk hall (thn (hkw.run pos pins s σ H _ I h) fun ws s2 hh => ?_) hpl
  obtain ⟨zs, H2, I2, rz, l1, l2, q2⟩ := hh
  refine ⟨I2.kIn, ?_⟩
  rw [hks]
  exact run_gkw F hr hb I2 .nil rz l1 l2 q2
/-- nothing is raised by a generator that raises nothing -/
theorem pass_gen : Passes (CX X.prog X.w) X E0 := by
  intro pins σ H s e s2 I h
  obtain ⟨a, B, H2, cls, d, _, _, _, _, _, _, _, q⟩ := h
  exact q.elim
theorem nostop0 {K : PySem.W.Frag} : NoStop K E0 := fun _ _ _ h => h.elim
end
end SE
namespace SE
open PySem PySem.Spec PyProof.Rows L2
/-! ### rules: a class held by a local name, called; a classmethod called with nothing -/
section
variable {X : Cx} {CX : CXT} {k i : Nat} {f C p g : Addr} {mc : Value} {fd : FuncData} {ps : List Str} {sp : Sp} {dvs : List V} {ds : List Value} {E : XK} {x m : Str} {pn pos apos : Pos} {o e : Expr} {es : List Expr} {ta : TE} {t : TA} {pl : Sem Bool}
def tMakeL (i : Nat) (C : Addr) (sp : Sp) (dvs : List V) (E : XK) (t : TA) : TE := fun σ H Q => σ[i]? = some (some (.ref C)) ∧ tMake C sp dvs E t σ H Q
theorem pe_makeL (M : Mk X.K C f) (F : FnOk X.prog X.w X.K X.mg X.base CX k f fd ps sp) (hr : Room (k + 1) X.A) (hN : X.N[i]? = some x) (hv : Vis X.env.scope x) (hb : Binds X.K fd ps ds) (hd : Vals dvs ds) (hx : Passes CX X E)
    (ha : PA X (e :: es) t) (hdb : (x == ("__debug__" : Str)) = false := by decide) (hcd : (x == ("__classdict__" : Str)) = false := by decide)
    (he : starEach (e :: es) X.env = (false, eval e X.env) :: starEach es X.env := by rfl) (hpl : (backTo pos (starEach es X.env)).any (·.1) = false := by rfl) :
    PE X (.Call (.Name x pn) (e :: es) [] pos) (tMakeL i C sp dvs E t) := by
  constructor
  intro pins s σ H Q I h
  obtain ⟨hs, ht⟩ := h
  refine wpAny_Call_Name_kw (thn ((pe_var (pos := pn) hN hv hdb hcd).run pins s σ H (fun v H1 => v = .ref C ∧ H1 = H) I ⟨.ref C, hs, rfl, rfl⟩) fun u s1 hh => ?_)
  obtain ⟨v, H1, I1, r1, rfl, rfl⟩ := hh
  cases r1
  refine PySem.W.callWith_K (h₀ := X.base) I.ok.mod.kin M.kp (thn (ha.run pos pins s1 σ _ _ I1 ht) fun us s2 hh => ?_) he hpl
  obtain ⟨vs, H2, I2, r, q⟩ := hh
  exact ⟨I2.kIn, run_make M F hr hb hd hx I2 r q⟩
/-- C.m() -/
def tCMeth0 (C : Addr) (sp : Sp) (E : XK) (ta : TE) : TE := fun σ H Q => ta σ H fun x H1 => x = .ref C ∧ sp [.ref C] H1 Q E
theorem pe_cmeth0 (he : PE X o ta) (r : ClX.CRead X.K C mc) (c : ClX.CMet X.K C mc m p g) (F : FnR X.prog X.w X.K X.mg X.base CX k g sp) (hr : Room k X.A) (hx : Passes CX X E)
    (ht : eval (.Call (.Attribute o m apos) [] [] pos) X.env = (do
      let v ← eval o X.env
      standAt apos.atName
      let (f, first) ← holding [v] (getMethod v m pl)
      callWith pos f first (backTo pos (starEach [] X.env)) (backToKw pos (keywordEach [] X.env))) := by rfl) :
    PE X (.Call (.Attribute o m apos) [] [] pos) (tCMeth0 C sp E ta) := by
  constructor
  intro pins s σ H Q I h
  refine PySem.W.methodCall_KW (pl := pl) (thn (he.run pins s σ H _ I h) fun u s1 hh => ?_) ht
  obtain ⟨v, H1, I1, rx, ex, q⟩ := hh
  subst ex
  obtain rfl : u = Value.ref C := rx
  refine ClX.getmethcm_ok I1 r c fun s2 I2 => ?_
  exact PySem.W.callWith_M0 ⟨ClX.pin_at I2, I2.kIn⟩ c.fi (ClX.run_cm (us := []) (vs := []) F hr hx I2 .nil q)
end
end SE
namespace SE
open PySem PySem.Spec PyProof.Rows L2
/-! ### the class Effect -/
abbrev sInit : Stmt := inClass sEffect 0
abbrev sNever : Stmt := inClass sEffect 2
abbrev sPops : Stmt := inClass sEffect 4
abbrev sPushes : Stmt := inClass sEffect 5
abbrev sPeak : Stmt := inClass sEffect 6
abbrev sChange : Stmt := inClass sEffect 7
abbrev sIsNever : Stmt := inClass sEffect 8
def eF (a b c : V) : List (Str × V) := [("needs", a), ("leaves", b), ("highest", c)]
theorem eF_new (a b c : V) : putF "highest" c (putF "leaves" b (putF "needs" a [])) = eF a b c := by
  have h1 : ¬ (("needs" : Str) = "leaves") := by decide +kernel
  have h2 : ¬ (("needs" : Str) = "highest") := by decide +kernel
  have h3 : ¬ (("leaves" : Str) = "highest") := by decide +kernel
  simp only [putF, h1, h2, h3, if_false]
  rfl
theorem eF_two (a b : V) : (putF "leaves" b (putF "needs" a [])).length < 1000 := by
  have h1 : ¬ (("needs" : Str) = "leaves") := by decide +kernel
  simp only [putF, h1, if_false]
  show 2 < 1000
  decide
theorem eF_n (x a b c : V) : putF "needs" x (eF a b c) = eF x b c := by
  unfold eF
  simp only [putF, if_true]
theorem eF_l (x a b c : V) : putF "leaves" x (eF a b c) = eF a x c := by
  have h1 : ¬ (("needs" : Str) = "leaves") := by decide +kernel
  unfold eF
  simp only [putF, h1, if_false, if_true]
theorem eF_h (x a b c : V) : putF "highest" x (eF a b c) = eF a b x := by
  have h2 : ¬ (("needs" : Str) = "highest") := by decide +kernel
  have h3 : ¬ (("leaves" : Str) = "highest") := by decide +kernel
  unfold eF
  simp only [putF, h2, h3, if_false, if_true]
theorem eF_needs (a b c : V) : (eF a b c).lookup ("needs" : Str) = some a := by
  rw [← eF_new, lookup_putF, if_neg (by decide +kernel), lookup_putF, if_neg (by decide +kernel), lookup_putF, if_pos rfl]
theorem eF_leaves (a b c : V) : (eF a b c).lookup ("leaves" : Str) = some b := by
  rw [← eF_new, lookup_putF, if_neg (by decide +kernel), lookup_putF, if_pos rfl]
theorem eF_high (a b c : V) : (eF a b c).lookup ("highest" : Str) = some c := by
  rw [← eF_new, lookup_putF, if_pos rfl]
/-- an effect that is not never -/
structure EffAt (K : PySem.W.Frag) (C : Addr) (H : Hp) (e : Addr) (xs ys : List Str) (p : Int) : Prop where
  ex : ∃ dx u v, H e = some (.ins C dx (eF (.ref u) (.ref v) (.int p))) ∧ SqT K H u (xs.map V.str) ∧ SqT K H v (ys.map V.str)
theorem EffAt.same {K : PySem.W.Frag} {C : Addr} {H H' : Hp} {e : Addr} {xs ys : List Str} {p : Int} (h : EffAt K C H e xs ys p) (s : Same H H') : EffAt K C H' e xs ys p := by
  obtain ⟨dx, u, v, h1, h2, h3⟩ := h.ex
  exact ⟨dx, u, v, s _ _ h1, Same.tup s h2, Same.tup s h3⟩
structure NevAt (C : Addr) (H : Hp) (e : Addr) : Prop where
  ex : ∃ dx, H e = some (.ins C dx (eF .non .non .non))
theorem NevAt.same {C : Addr} {H H' : Hp} {e : Addr} (h : NevAt C H e) (s : Same H H') : NevAt C H' e := by
  obtain ⟨dx, h1⟩ := h.ex
  exact ⟨dx, s _ _ h1⟩
/-- the least peak -/
def lp (xs ys : List Str) : Int := if (ys.length : Int) - (xs.length : Int) > 0 then (ys.length : Int) - (xs.length : Int) else 0
def pkV : Option Int → V
  | none => .non
  | some p => .int p
structure EC (K : PySem.W.Frag) (mg : Str → Option Value) (C : Addr) : Prop where
  cl : Cls K C
  nN : NoAttr K C "needs"
  nL : NoAttr K C "leaves"
  nH : NoAttr K C "highest"
  mgE : mg "Effect" = some (.ref C)
section
variable {P : Program} {w : World} {K : PySem.W.Frag} {mg : Str → Option Value} {base : Heap} {C : Addr}
def spLeast (K : PySem.W.Frag) : Sp := fun vs H Q _ => ∃ (a b : Addr) (xs ys : List Str), vs = [.ref a, .ref b] ∧ SqT K H a (xs.map V.str) ∧ SqT K H b (ys.map V.str) ∧ Q (.int (lp xs ys)) H
theorem scLe : FnScope ["pops", "pushes"] ["pops", "pushes"] (defScope sLeastPeak) := ⟨rfl, rfl, rfl, by decide +kernel, rfl, by decide +kernel, by decide +kernel⟩
theorem has_least (D : Def K mg "least_peak" sLeastPeak) (B : Blt mg) (mx : mg "max" = none) : Has P w K mg base "least_peak" 1 ["pops", "pushes"] [] (spLeast K) := by
  refine has_of D scLe (fun _ _ _ _ _ _ us hl => match us, hl with | [_, _], _ => rfl) (fun xs H Q E h => ?_) (fun f cv A out s H xs Q E hr h => ?_)
  · obtain ⟨a, b, xs, ys, rfl, _⟩ := h
    rfl
  · obtain ⟨a, b, xs, ys, rfl, ha, hb, k⟩ := h
    refine ⟨_, pss_one (ps_ret (pe_callB (call_max2 rfl) (by rfl) mx (by decide +kernel) (pa_cons pe_int (pa_cons (pe_op op_sub (pe_callB call_len_seq (by rfl) B.len PySem.boot_len (pa_cons (pv 1) pa_nil)) (pe_callB call_len_seq (by rfl) B.len PySem.boot_len (pa_cons (pv 0) pa_nil))) pa_nil)))), ?_⟩
    refine ⟨_, rfl, b, _, rfl, .inr hb, _, rfl, a, _, rfl, .inr ha, _, _, rfl, rfl, 0, _, rfl, ?_⟩
    rw [List.length_map, List.length_map]
    exact k
def spInit (K : PySem.W.Frag) (C : Addr) : Sp := fun vs H Q _ => ∃ (x dx a b : Addr) (xs ys : List Str) (pk : Option Int), vs = [.ref x, .ref a, .ref b, pkV pk] ∧ H x = some (.ins C dx []) ∧ SqT K H a (xs.map V.str) ∧ SqT K H b (ys.map V.str) ∧
  xs.length ≤ 5000 ∧ ys.length ≤ 5000 ∧ (∀ z ∈ xs, Item z) ∧ (∀ z ∈ ys, Item z) ∧ (∀ p, pk = some p → lp xs ys ≤ p) ∧
  ∀ H', (∀ b o, H b = some o → b ≠ x → H' b = some o) → H' x = some (.ins C dx (eF (.ref a) (.ref b) (.int (pk.getD (lp xs ys))))) → Q .non H'
abbrev pInit : List Str := ["self", "pops", "pushes", "peak"]
theorem scIn : FnScope ["self", "pops", "pushes", "peak", "least"] pInit (defScope sInit) := ⟨rfl, rfl, rfl, by decide +kernel, rfl, by decide +kernel, by decide +kernel⟩
theorem ok_init {f : Addr} {fd : FuncData} (F : Fun K "__init__" "Effect.__init__" sInit f fd) (T : EC K mg C) (GW : Has P w K mg base "check_word" 3 ["word"] [] (spChkWord K)) (GL : Has P w K mg base "least_peak" 1 ["pops", "pushes"] [] (spLeast K)) (GH : Has P w K mg base "is_whole" 1 ["value"] [] spWhole) :
    FnOk P w K mg base CX0 4 f fd pInit (spInit K C) := by
  refine F.ok scIn (fun vs H Q E h => ?_) (fun cdv A outer s H vs Q E hr h => ?_)
  · obtain ⟨x, dx, a, b, xs, ys, pk, rfl, _⟩ := h
    rfl
  · obtain ⟨x, dx, a, b, xs, ys, pk, rfl, hx, ha, hb, l1, l2, i1, i2, hp, k⟩ := h
    have hr1 : Room 1 _ := hr.mono (by decide)
    refine ⟨_, pss_cons (ps_expr (pe_has GW hr (pa_cons (pv 1) pa_nil))) (pss_cons (ps_expr (pe_has GW hr (pa_cons (pv 2) pa_nil)))
      (pss_cons (ps_set (i := 4) scIn.nd rfl (.inl rfl) (pe_has GL hr1 (pa_cons (pv 1) (pa_cons (pv 2) pa_nil))))
      (pss_cons (ps_if (pt_cut (PW.pt (pw_and (pt_cmpR op_notN (pv 3) pe_non (nomark _)) (pw_and1 (PW.pt (pw_or (pt_not (pt_val (pe_has GH hr1 (pa_cons (pv 3) pa_nil)))) (pw_or1 (pt_cmpR op_lt (pv 3) (pv 4) (nomark _))))))))) pss_never pss_nil)
      (pss_cons (ps_fld (pv 0) (pv 1) rfl) (pss_cons (ps_fld (pv 0) (pv 2) rfl)
      (pss_one (ps_fld (pv 0) (pe_ifExp (pt_cmpR op_isN (pv 3) pe_non (nomark _)) (pv 4) (pv 3)) rfl))))))), ?_⟩
    refine ⟨_, rfl, a, xs, rfl, ha, l1, i1, fun H1 s1 => ⟨_, rfl, b, ys, rfl, Same.tup s1 hb, l2, i2, fun H2 s2 => ?_⟩⟩
    have s12 := s1.trans s2
    refine ⟨_, rfl, _, rfl, a, b, xs, ys, rfl, Same.tup s12 ha, Same.tup s12 hb, ?_⟩
    refine ⟨fun c H3 => c = false ∧ H3 = H2, ?_, ?_⟩
    · cases pk with
      | none => exact ⟨_, rfl, rfl, false, rfl, iteF ⟨rfl, rfl⟩⟩
      | some p =>
        have hq := hp p rfl
        refine ⟨_, rfl, rfl, true, rfl, iteT ⟨_, rfl, p, rfl, true, rfl, iteF ⟨_, rfl, _, rfl, p, lp xs ys, rfl, rfl, _, rfl, ?_, rfl⟩⟩⟩
        exact decide_eq_false (by omega)
    rintro c H3 ⟨rfl, rfl⟩
    refine iteF ?_
    have hx3 := s12 _ _ hx
    have fin : ∀ z : V, z = .int (pk.getD (lp xs ys)) → Q .non (upd (upd (upd H3 x (.ins C dx (putF "needs" (.ref a) []))) x (.ins C dx (putF "leaves" (.ref b) (putF "needs" (.ref a) [])))) x (.ins C dx (putF "highest" z (putF "leaves" (.ref b) (putF "needs" (.ref a) []))))) := by
      intro z ez
      refine k _ (fun c o e ne => ?_) ?_
      · rw [upd_ne ne, upd_ne ne, upd_ne ne]
        exact s12 _ _ e
      · rw [upd_same, eF_new, ez]
    refine ⟨_, rfl, _, rfl, x, C, dx, [], rfl, hx3, T.cl, T.nN, (by show 0 < 1000; decide), _, rfl, _, rfl, x, C, dx, _, rfl, upd_same, T.cl, T.nL, (by show 1 < 1000; decide), ?_⟩
    cases pk with
    | none => exact ⟨_, rfl, rfl, true, rfl, iteT ⟨_, rfl, _, rfl, x, C, dx, _, rfl, upd_same, T.cl, T.nH, eF_two _ _, fin _ rfl⟩⟩
    | some p => exact ⟨_, rfl, rfl, false, rfl, iteF ⟨_, rfl, _, rfl, x, C, dx, _, rfl, upd_same, T.cl, T.nH, eF_two _ _, fin _ rfl⟩⟩
end
end SE
namespace SE
open PySem PySem.Spec PyProof.Rows L2
/-- a property of the class C with its promise -/
def PropHas (P : Program) (w : World) (K : PySem.W.Frag) (mg : Str → Option Value) (base : Heap) (C : Addr) (f : Str) (k : Nat) (sp : Sp) : Prop := ∃ p g fd, PropOf K C f p g ∧ FnOk P w K mg base CX0 k g fd ["self"] sp ∧ Binds K fd ["self"] []
theorem pe_propH {X : Cx} {C : Addr} {f : Str} {k : Nat} {sp : Sp} {e : Expr} {ta : TE} {pos : Pos} (h : PropHas X.prog X.w X.K X.mg X.base C f k sp) (he : PE X e ta) (c : Cls X.K C) (hr : Room (k + 1) X.A)
    (hab : attributeBase e f X.env (eval e X.env) = eval e X.env := by rfl) : PE X (.Attribute e f pos) (tProp C sp [] E0 ta) := by
  obtain ⟨p, g, fd, hp, F, hb⟩ := h
  exact pe_prop he c hp F hr hb .nil pass0 hab
section
variable {P : Program} {w : World} {K : PySem.W.Frag} {mg : Str → Option Value} {base : Heap} {C : Addr}
/-! ### properties -/
/-- of an effect that is not never: its parts -/
def spPops (K : PySem.W.Frag) (C : Addr) : Sp := fun vs H Q _ => ∃ (e : Addr) (xs ys : List Str) (p : Int), vs = [.ref e] ∧ EffAt K C H e xs ys p ∧ ∀ u, SqT K H u (xs.map V.str) → Q (.ref u) H
def spPush (K : PySem.W.Frag) (C : Addr) : Sp := fun vs H Q _ => ∃ (e : Addr) (xs ys : List Str) (p : Int), vs = [.ref e] ∧ EffAt K C H e xs ys p ∧ ∀ u, SqT K H u (ys.map V.str) → Q (.ref u) H
def spIsNev (K : PySem.W.Frag) (C : Addr) : Sp := fun vs H Q _ => ∃ (e : Addr), vs = [.ref e] ∧ ((∃ xs ys p, EffAt K C H e xs ys p ∧ Q (.bl false) H) ∨ (NevAt C H e ∧ Q (.bl true) H))
theorem scPo : FnScope ["self"] ["self"] (defScope sPops) := ⟨rfl, rfl, rfl, by decide +kernel, rfl, by decide +kernel, by decide +kernel⟩
theorem scPu : FnScope ["self"] ["self"] (defScope sPushes) := ⟨rfl, rfl, rfl, by decide +kernel, rfl, by decide +kernel, by decide +kernel⟩
theorem scNv : FnScope ["self"] ["self"] (defScope sIsNever) := ⟨rfl, rfl, rfl, by decide +kernel, rfl, by decide +kernel, by decide +kernel⟩
theorem ok_pops {f : Addr} {fd : FuncData} (F : Fun K "pops" "Effect.pops" sPops f fd) (T : EC K mg C) : FnOk P w K mg base CX0 1 f fd ["self"] (spPops K C) := by
  refine F.ok scPo (fun vs H Q E h => ?_) (fun cdv A outer s H vs Q E hr h => ?_)
  · obtain ⟨e, xs, ys, p, rfl, _⟩ := h
    rfl
  · obtain ⟨e, xs, ys, p, rfl, h, k⟩ := h
    obtain ⟨dx, u, v, h1, h2, h3⟩ := h.ex
    exact ⟨_, pss_one (ps_ret (pe_fld (pv 0) rfl)), _, rfl, e, C, dx, _, _, rfl, h1, T.cl, T.nN, eF_needs _ _ _, k u h2⟩
theorem ok_push {f : Addr} {fd : FuncData} (F : Fun K "pushes" "Effect.pushes" sPushes f fd) (T : EC K mg C) : FnOk P w K mg base CX0 1 f fd ["self"] (spPush K C) := by
  refine F.ok scPu (fun vs H Q E h => ?_) (fun cdv A outer s H vs Q E hr h => ?_)
  · obtain ⟨e, xs, ys, p, rfl, _⟩ := h
    rfl
  · obtain ⟨e, xs, ys, p, rfl, h, k⟩ := h
    obtain ⟨dx, u, v, h1, h2, h3⟩ := h.ex
    exact ⟨_, pss_one (ps_ret (pe_fld (pv 0) rfl)), _, rfl, e, C, dx, _, _, rfl, h1, T.cl, T.nL, eF_leaves _ _ _, k v h3⟩
theorem ok_isNev {f : Addr} {fd : FuncData} (F : Fun K "is_never" "Effect.is_never" sIsNever f fd) (T : EC K mg C) : FnOk P w K mg base CX0 1 f fd ["self"] (spIsNev K C) := by
  refine F.ok scNv (fun vs H Q E h => ?_) (fun cdv A outer s H vs Q E hr h => ?_)
  · obtain ⟨e, rfl, _⟩ := h
    rfl
  · obtain ⟨e, rfl, h⟩ := h
    refine ⟨_, pss_one (ps_ret (pe_cmpR op_isN (pe_fld (pv 0) rfl) pe_non (nomark _))), ?_⟩
    rcases h with ⟨xs, ys, p, h, k⟩ | ⟨h, k⟩
    · obtain ⟨dx, u, v, h1, h2, h3⟩ := h.ex
      exact ⟨_, rfl, e, C, dx, _, _, rfl, h1, T.cl, T.nN, eF_needs _ _ _, rfl, k⟩
    · obtain ⟨dx, h1⟩ := h.ex
      exact ⟨_, rfl, e, C, dx, _, _, rfl, h1, T.cl, T.nN, eF_needs _ _ _, rfl, k⟩
/-! ### Effect(a, b), Effect.never() -/
/-- the class can be called -/
def Makes (P : Program) (w : World) (K : PySem.W.Frag) (mg : Str → Option Value) (base : Heap) (C : Addr) : Prop := ∃ f fd, Mk K C f ∧ FnOk P w K mg base CX0 4 f fd pInit (spInit K C) ∧ FunD K "__init__" "Effect.__init__" (defArgs sInit) (defBody sInit) (defScope sInit) [] [("peak", .non)] f fd
theorem Makes.two (h : Makes P w K mg base C) : ∃ f fd ds, Mk K C f ∧ FnOk P w K mg base CX0 4 f fd pInit (spInit K C) ∧ Vals [V.non] ds ∧ Binds K fd pInit ds := by
  obtain ⟨f, fd, M, F, FD⟩ := h
  obtain ⟨ds, hd, hb⟩ := FD.binds0 (ps := pInit) 3 (by simp) rfl (fun D doc pm an cv ct us ks h1 h2 => match us, ks, h1, h2 with | [_, _, _], [_], _, _ => ⟨_, _, _, _, _, _, rfl, rfl, rfl⟩)
  exact ⟨f, fd, ds, M, F, hd, hb⟩
/-- what Effect(a, b) asks -/
def tEff2 (K : PySem.W.Frag) (C : Addr) (t : TA) : TE := fun σ H Q => t σ H fun vs H1 => ∃ (a b : Addr) (xs ys : List Str), vs = [.ref a, .ref b] ∧ SqT K H1 a (xs.map V.str) ∧ SqT K H1 b (ys.map V.str) ∧ xs.length ≤ 5000 ∧ ys.length ≤ 5000 ∧ (∀ z ∈ xs, Item z) ∧ (∀ z ∈ ys, Item z) ∧
  ∀ (e : Addr) (H' : Hp), Same H1 H' → H1 e = none → EffAt K C H' e xs ys (lp xs ys) → Q (.ref e) H'
theorem make_imp {vs : List V} {H1 : Hp} {Q : VK} (h : ∃ (a b : Addr) (xs ys : List Str), vs = [.ref a, .ref b] ∧ SqT K H1 a (xs.map V.str) ∧ SqT K H1 b (ys.map V.str) ∧ xs.length ≤ 5000 ∧ ys.length ≤ 5000 ∧ (∀ z ∈ xs, Item z) ∧ (∀ z ∈ ys, Item z) ∧
    ∀ (e : Addr) (H' : Hp), Same H1 H' → H1 e = none → EffAt K C H' e xs ys (lp xs ys) → Q (.ref e) H') : ∀ x dx, H1 x = none → H1 dx = none → dx ≠ x →
    spInit K C (.ref x :: (vs ++ [V.non])) (upd (upd H1 dx (.own x)) x (.ins C dx [])) (fun v H2 => v = .non ∧ Q (.ref x) H2) E0 := by
  intro x dx nx nd ne
  obtain ⟨a, b, xs, ys, rfl, ha, hb, l1, l2, i1, i2, k⟩ := h
  have s0 : Same H1 (upd (upd H1 dx (.own x)) x (.ins C dx [])) := Same.made nx nd fun b o e _ => e
  refine ⟨x, dx, a, b, xs, ys, none, rfl, upd_same, Same.tup s0 ha, Same.tup s0 hb, l1, l2, i1, i2, fun p z => (by cases z), fun H' kp hx => ⟨rfl, ?_⟩⟩
  have s1 : Same H1 H' := fun c o e => kp c o (s0 c o e) (ne_of_none e nx)
  exact k x H' s1 nx ⟨dx, a, b, hx, Same.tup s1 ha, Same.tup s1 hb⟩
theorem pe_eff2 {X : Cx} {p pos : Pos} {e1 e2 : Expr} {t : TA} (M : Makes X.prog X.w X.K X.mg X.base C) (mgE : X.mg "Effect" = some (.ref C)) (hr : Room 5 X.A) (ha : PA X [e1, e2] t) (hg : Gl X "Effect" := by rfl)
    (he : starEach [e1, e2] X.env = (false, eval e1 X.env) :: starEach [e2] X.env := by rfl) (hpl : (backTo pos (starEach [e2] X.env)).any (·.1) = false := by rfl) :
    PE X (.Call (.Name "Effect" p) [e1, e2] [] pos) (tEff2 X.K C t) := by
  obtain ⟨f, fd, ds, Mk1, F, hd, hb⟩ := M.two
  constructor
  intro pins s σ H Q I h
  refine wpAny_Call_Name_kw (ld_glob I hg mgE ?_ (by decide))
  refine PySem.W.callWith_K (h₀ := X.base) I.ok.mod.kin Mk1.kp (thn (ha.run pos pins s σ H _ I h) fun us s1 hh => ?_) he hpl
  obtain ⟨vs, H1, I1, r, q⟩ := hh
  exact ⟨I1.kIn, run_make Mk1 F hr hb hd pass0 I1 r (make_imp q)⟩
/-! ### Effect.never() -/
def spNever (C : Addr) : Sp := fun vs H Q _ => vs = [.ref C] ∧ ∀ (e : Addr) (H' : Hp), Same H H' → NevAt C H' e → Q (.ref e) H'
theorem scNe : FnScope ["cls", "effect"] ["cls"] (defScope sNever) := ⟨rfl, rfl, rfl, by decide +kernel, rfl, by decide +kernel, by decide +kernel⟩
theorem ok_never {g : Addr} {gd : FuncData} (F : Fun K "never" "Effect.never" sNever g gd) (T : EC K mg C) (M : Makes P w K mg base C) : FnOk P w K mg base CX0 6 g gd ["cls"] (spNever C) := by
  obtain ⟨f, fd, ds, Mk1, FI, hd, hb⟩ := M.two
  refine F.ok scNe (fun vs H Q E h => ?_) (fun cdv A outer s H vs Q E hr h => ?_)
  · obtain ⟨rfl, _⟩ := h
    rfl
  · obtain ⟨rfl, k⟩ := h
    refine ⟨_, pss_cons (ps_set (i := 1) scNe.nd rfl (.inl rfl) (pe_makeL (i := 0) Mk1 FI hr rfl (.inl rfl) hb hd pass0 (pa_cons (pe_tup pa_nil) (pa_cons (pe_tup pa_nil) pa_nil))))
      (pss_cons (ps_fld (pv 1) pe_non rfl) (pss_cons (ps_fld (pv 1) pe_non rfl) (pss_cons (ps_fld (pv 1) pe_non rfl) (pss_one (ps_ret (pv 1)))))), ?_⟩
    refine ⟨rfl, Nat.zero_le _, fun t1 h1 => ⟨Nat.zero_le _, fun t2 h2 => ?_⟩⟩
    have n2 : t1 ≠ t2 := ne_of_none upd_same h2
    have s2 : Same H (upd (upd H t1 (.tup [])) t2 (.tup [])) := Same.free2 (Same.new h1) ((Same.new h1).free h2)
    intro y dy ny nd nyd
    have s3 : Same (upd (upd H t1 (.tup [])) t2 (.tup [])) (upd (upd (upd (upd H t1 (.tup [])) t2 (.tup [])) dy (.own y)) y (.ins C dy [])) := Same.made ny nd fun b o z _ => z
    refine ⟨y, dy, t1, t2, [], [], none, rfl, upd_same, Same.tup s3 (.of (by rw [upd_ne n2]; exact upd_same)), Same.tup s3 (.of upd_same), Nat.zero_le _, Nat.zero_le _, fun z m => (by cases m), fun z m => (by cases m), fun p z => (by cases z), fun H' kp e1 => ⟨rfl, ?_⟩⟩
    have s4 : Same H H' := fun c o z => kp c o (s3 _ _ (s2 c o z)) (ne_of_none z (s2.free ny))
    have hne : H y = none := s2.free ny
    refine ⟨_, rfl, y, C, dy, _, rfl, e1, T.cl, T.nN, (by show 3 < 1000; decide), _, rfl, y, C, dy, _, rfl, upd_same, T.cl, T.nL, (by rw [eF_n]; show 3 < 1000; decide), _, rfl, y, C, dy, _, rfl, upd_same, T.cl, T.nH, (by rw [eF_n, eF_l]; show 3 < 1000; decide), _, rfl, ?_⟩
    refine k y _ ?_ ⟨dy, ?_⟩
    · exact Same.free2 (Same.free2 (Same.free2 s4 hne) hne) hne
    · rw [upd_same, eF_n, eF_l, eF_h]
/-- the classmethod -/
def NeverHas (P : Program) (w : World) (K : PySem.W.Frag) (mg : Str → Option Value) (base : Heap) (C : Addr) : Prop := ∃ mc p g, ClX.CRead K C mc ∧ ClX.CMet K C mc "never" p g ∧ FnR P w K mg base CX0 6 g (spNever C)
theorem pe_never0 {X : Cx} {p apos pos : Pos} {pl : Sem Bool} (h : NeverHas X.prog X.w X.K X.mg X.base C) (mgE : X.mg "Effect" = some (.ref C)) (hr : Room 6 X.A) (hg : Gl X "Effect" := by rfl)
    (ht : eval (.Call (.Attribute (.Name "Effect" p) "never" apos) [] [] pos) X.env = (do
      let v ← eval (.Name "Effect" p) X.env
      standAt apos.atName
      let (f, first) ← holding [v] (getMethod v "never" pl)
      callWith pos f first (backTo pos (starEach [] X.env)) (backToKw pos (keywordEach [] X.env))) := by rfl) :
    PE X (.Call (.Attribute (.Name "Effect" p) "never" apos) [] [] pos) (tCMeth0 C (spNever C) E0 (tC (.ref C))) := by
  obtain ⟨mc, q, g, r, c, F⟩ := h
  exact pe_cmeth0 (pl := pl) (pe_glob hg mgE rfl) r c F hr pass0 ht
end
end SE
namespace SE
open PySem PySem.Spec PyProof.Rows L2
section
variable {P : Program} {w : World} {K : PySem.W.Frag} {mg : Str → Option Value} {base : Heap} {C : Addr}
/-! ### Effect(a, b, peak = c) -/
def tEffK (K : PySem.W.Frag) (C : Addr) (t : TA) (tk : TE) : TE := fun σ H Q => t σ H fun vs H1 => tCons tk tNil σ H1 fun zs H2 => ∃ (a b : Addr) (xs ys : List Str) (pk : Option Int), vs = [.ref a, .ref b] ∧ zs = [pkV pk] ∧ SqT K H2 a (xs.map V.str) ∧ SqT K H2 b (ys.map V.str) ∧ xs.length ≤ 5000 ∧ ys.length ≤ 5000 ∧
  (∀ z ∈ xs, Item z) ∧ (∀ z ∈ ys, Item z) ∧ (∀ p, pk = some p → lp xs ys ≤ p) ∧ ∀ (e : Addr) (H' : Hp), Same H2 H' → H2 e = none → EffAt K C H' e xs ys (pk.getD (lp xs ys)) → Q (.ref e) H'
theorem pe_effK {X : Cx} {p pos q1 : Pos} {e1 e2 c : Expr} {t : TA} {tk : TE} (M : Makes X.prog X.w X.K X.mg X.base C) (mgE : X.mg "Effect" = some (.ref C)) (hr : Room 5 X.A) (ha : PA X [e1, e2] t) (hc : PE X c tk) (hg : Gl X "Effect" := by rfl)
    (he : starEach [e1, e2] X.env = (false, eval e1 X.env) :: starEach [e2] X.env := by rfl) (hpl : ((backTo pos (starEach [e1, e2] X.env)).any (·.1) || (backToKw pos (keywordEach [⟨some "peak", c, q1⟩] X.env)).any (·.1.isNone)) = false := by rfl) :
    PE X (.Call (.Name "Effect" p) [e1, e2] [⟨some "peak", c, q1⟩] pos) (tEffK X.K C t tk) := by
  obtain ⟨f, fd, Mk1, F, FD⟩ := M
  obtain ⟨mv, kb⟩ := kb_some (ps := pInit) FD 3 ["peak"] [] (fun us _ ws => us ++ ws) (by simp) (fun q h => (by cases h)) (fun r1 _ r3 => r1.append r3) (fun D doc pm an cv ct us mv ws h1 h2 h3 => match us, mv, ws, h1, h2, h3 with | [_, _, _], [], [_], _, _, _ => rfl)
  constructor
  intro pins s σ H Q I h
  refine wpAny_Call_Name_kw (ld_glob I hg mgE ?_ (by decide))
  refine PySem.W.callWith_KW (h₀ := X.base) I.ok.mod.kin Mk1.kp rfl (thn (ha.run pos pins s σ H _ I h) fun us s1 hh => ?_) hpl he
  obtain ⟨vs, H1, I1, r, q⟩ := hh
  refine thn ((pk_cons (nm := some "peak") (kpos := q1) hc pk_nil).run pos pins s1 σ H1 _ I1 q) fun ws s2 hh => ?_
  obtain ⟨zs, H2, I2, rz, a, b, xs, ys, pk, rfl, rfl, ha2, hb2, l1, l2, i1, i2, hp, k⟩ := hh
  refine ⟨I2.kIn, ?_⟩
  refine run_makeK (ks := ["peak"]) (n := 2) Mk1 F hr kb pass0 I2 r rz rfl rfl ?_
  intro x dx nx nd ne
  have s0 : Same H2 (upd (upd H2 dx (.own x)) x (.ins C dx [])) := Same.made nx nd fun b o e _ => e
  refine ⟨x, dx, a, b, xs, ys, pk, rfl, upd_same, Same.tup s0 ha2, Same.tup s0 hb2, l1, l2, i1, i2, hp, fun H' kp hx => ⟨rfl, ?_⟩⟩
  have s3 : Same H2 H' := fun c o e => kp c o (s0 c o e) (ne_of_none e nx)
  exact k x H' s3 nx ⟨dx, a, b, hx, Same.tup s3 ha2, Same.tup s3 hb2⟩
/-! ### effects as values -/
abbrev Eff := Option (List Str × List Str × Int)
def EffV (K : PySem.W.Frag) (C : Addr) (H : Hp) (e : Addr) : Eff → Prop
  | none => NevAt C H e
  | some (xs, ys, p) => EffAt K C H e xs ys p
theorem EffV.same {H H' : Hp} {e : Addr} : ∀ {o : Eff}, EffV K C H e o → Same H H' → EffV K C H' e o
  | none, h, s => NevAt.same h s
  | some (_, _, _), h, s => EffAt.same h s
theorem EffV.ins {H : Hp} {e : Addr} : ∀ {o : Eff}, EffV K C H e o → ∃ dx fs, H e = some (.ins C dx fs)
  | none, h => by
    obtain ⟨dx, h1⟩ := NevAt.ex h
    exact ⟨dx, _, h1⟩
  | some (_, _, _), h => by
    obtain ⟨dx, u, v, h1, _⟩ := EffAt.ex h
    exact ⟨dx, _, h1⟩
/-! ### peak, nothing -/
def spPeak (K : PySem.W.Frag) (C : Addr) : Sp := fun vs H Q _ => ∃ (e : Addr) (xs ys : List Str) (p : Int), vs = [.ref e] ∧ EffAt K C H e xs ys p ∧ Q (.int p) H
theorem scPk : FnScope ["self"] ["self"] (defScope sPeak) := ⟨rfl, rfl, rfl, by decide +kernel, rfl, by decide +kernel, by decide +kernel⟩
theorem ok_peak {f : Addr} {fd : FuncData} (F : Fun K "peak" "Effect.peak" sPeak f fd) (T : EC K mg C) : FnOk P w K mg base CX0 1 f fd ["self"] (spPeak K C) := by
  refine F.ok scPk (fun vs H Q E h => ?_) (fun cdv A outer s H vs Q E hr h => ?_)
  · obtain ⟨e, xs, ys, p, rfl, _⟩ := h
    rfl
  · obtain ⟨e, xs, ys, p, rfl, h, k⟩ := h
    obtain ⟨dx, u, v, h1, h2, h3⟩ := h.ex
    exact ⟨_, pss_one (ps_ret (pe_fld (pv 0) rfl)), _, rfl, e, C, dx, _, _, rfl, h1, T.cl, T.nH, eF_high _ _ _, k⟩
end
end SE
namespace SE
open PySem PySem.Spec PyProof.Rows L2
/-! ### effects one after the other: the mathematics' side -/
abbrev Prt := List Str × List Str × Int
def comp (A B : Prt) : Option Prt :=
  if A.2.1.take (min A.2.1.length B.1.length) = B.1.take (min A.2.1.length B.1.length) then
    some (A.1 ++ B.1.drop (min A.2.1.length B.1.length), B.2.1 ++ A.2.1.drop (min A.2.1.length B.1.length), if (A.2.1.length : Int) - (A.1.length : Int) + B.2.2 > A.2.2 then (A.2.1.length : Int) - (A.1.length : Int) + B.2.2 else A.2.2)
  else none
def joinF : Prt → List Prt → Eff
  | A, [] => some A
  | A, B :: r => match comp A B with
    | none => none
    | some D => joinF D r
def joinM (ps : List Prt) : Eff := joinF ([], [], 0) ps
def szP (ps : List Prt) : Nat := (ps.map fun B => B.1.length + B.2.1.length).sum
/-- a part that may be joined -/
structure PrtOk (B : Prt) : Prop where
  i1 : ∀ z ∈ B.1, Item z
  i2 : ∀ z ∈ B.2.1, Item z
  h0 : 0 ≤ B.2.2
  h1 : (B.2.1.length : Int) - (B.1.length : Int) ≤ B.2.2
theorem comp_ok {A B D : Prt} (hA : PrtOk A) (hB : PrtOk B) (h : comp A B = some D) : PrtOk D ∧ D.1.length + D.2.1.length ≤ A.1.length + A.2.1.length + (B.1.length + B.2.1.length) := by
  unfold comp at h
  split at h
  · cases h
    have q1 := hA.h0
    have q2 := hA.h1
    have q3 := hB.h1
    refine ⟨⟨fun z m => ?_, fun z m => ?_, ?_, ?_⟩, ?_⟩
    · rcases List.mem_append.mp m with q | q
      · exact hA.i1 z q
      · exact hB.i1 z (List.mem_of_mem_drop q)
    · rcases List.mem_append.mp m with q | q
      · exact hB.i2 z q
      · exact hA.i2 z (List.mem_of_mem_drop q)
    · dsimp only
      split <;> omega
    · dsimp only
      rw [List.length_append, List.length_append, List.length_drop, List.length_drop]
      have m1 := Nat.min_le_left A.2.1.length B.1.length
      have m2 := Nat.min_le_right A.2.1.length B.1.length
      generalize min A.2.1.length B.1.length = m at m1 m2 ⊢
      split <;> omega
    · show (A.1 ++ B.1.drop (min A.2.1.length B.1.length)).length + (B.2.1 ++ A.2.1.drop (min A.2.1.length B.1.length)).length ≤ _
      rw [List.length_append, List.length_append, List.length_drop, List.length_drop]
      omega
  · cases h
theorem PrtOk.lp {D : Prt} (h : PrtOk D) : lp D.1 D.2.1 ≤ D.2.2 := by
  have q1 := h.h0
  have q2 := h.h1
  unfold SE.lp
  split <;> omega
theorem cutF_to {α : Type} (f : α → V) (xs : List α) (j : Nat) : cutV (xs.map f) none (some (j : Int)) = (xs.take j).map f := by
  unfold cutV
  rw [List.length_map]
  have e1 : HT.sIx xs.length 0 none = 0 := rfl
  rw [e1, HT.sIx_nat, List.drop_zero, Nat.sub_zero, ← List.map_take]
  congr 1
  by_cases c : j ≤ xs.length
  · rw [Nat.min_eq_left c]
  · rw [Nat.min_eq_right (by omega), List.take_length, List.take_of_length_le (by omega)]
theorem cutF_from {α : Type} (f : α → V) (xs : List α) (j : Nat) : cutV (xs.map f) (some (j : Int)) none = (xs.drop j).map f := by
  unfold cutV
  rw [List.length_map]
  have e1 : HT.sIx xs.length xs.length none = xs.length := rfl
  rw [e1, HT.sIx_nat, ← List.map_drop, ← List.map_take]
  congr 1
  by_cases c : j ≤ xs.length
  · rw [Nat.min_eq_left c, List.take_of_length_le (by rw [List.length_drop]; exact Nat.le_refl _)]
  · rw [Nat.min_eq_right (by omega), List.drop_of_length_le (Nat.le_refl _), List.drop_of_length_le (by omega), List.take_nil]
theorem min_int (a b : Nat) : (if (b : Int) < (a : Int) then (b : Int) else (a : Int)) = ((min a b : Nat) : Int) := by
  split <;> omega
/-- a part as a tuple -/
def PrtV (K : PySem.W.Frag) (H : Hp) (v : V) (B : Prt) : Prop := ∃ t a b, v = .ref t ∧ SqT K H t [.ref a, .ref b, .int B.2.2] ∧ SqT K H a (B.1.map V.str) ∧ SqT K H b (B.2.1.map V.str)
theorem PrtV.same {K : PySem.W.Frag} {H H' : Hp} {v : V} {B : Prt} (h : PrtV K H v B) (s : Same H H') : PrtV K H' v B := by
  obtain ⟨t, a, b, e, h1, h2, h3⟩ := h
  exact ⟨t, a, b, e, Same.tup s h1, Same.tup s h2, Same.tup s h3⟩
section
variable {P : Program} {w : World} {K : PySem.W.Frag} {mg : Str → Option Value} {base : Heap} {C : Addr}
/-! ### joined -/
def spJoin (K : PySem.W.Frag) (C : Addr) : Sp := fun vs H Q _ => ∃ (a : Addr) (us : List V) (ps : List Prt), vs = [.ref a] ∧ SqL K H a us ∧ Paired (PrtV K H) us ps ∧ (∀ B ∈ ps, PrtOk B) ∧ szP ps ≤ 5000 ∧ ∀ (e : Addr) (H' : Hp), Same H H' → EffV K C H' e (joinM ps) → Q (.ref e) H'
theorem scJo : FnScope ["parts", "pops", "pushes", "peak", "needed", "left", "highest", "shared"] ["parts"] (defScope sJoined) := ⟨rfl, rfl, rfl, by decide +kernel, rfl, by decide +kernel, by decide +kernel⟩
theorem paired_at {α β : Type} {F : α → β → Prop} : ∀ {l₁ : List α} {l₂ : List β} {i : Nat} {x : α}, Paired F l₁ l₂ → l₁[i]? = some x → ∃ y, l₂[i]? = some y ∧ F x y
  | _, _, _, _, .nil, h => by simp at h
  | _, _, 0, _, .cons r _, h => ⟨_, rfl, by cases h; exact r⟩
  | _, _, i + 1, _, .cons _ t, h => by
    obtain ⟨y, h1, h2⟩ := paired_at t (i := i) h
    exact ⟨y, h1, h2⟩
theorem paired_len {α β : Type} {F : α → β → Prop} : ∀ {l₁ : List α} {l₂ : List β}, Paired F l₁ l₂ → l₁.length = l₂.length
  | _, _, .nil => rfl
  | _, _, .cons _ t => congrArg Nat.succ (paired_len t)
theorem has_join (D : Def K mg "joined" sJoined) (T : EC K mg C) (M : Makes P w K mg base C) (GN : NeverHas P w K mg base C) (B : Blt mg) (mx : mg "max" = none) (mn : mg "min" = none) : Has P w K mg base "joined" 7 ["parts"] [] (spJoin K C) := by
  refine has_of D scJo (fun _ _ _ _ _ _ us hl => match us, hl with | [_], _ => rfl) (fun xs H Q E h => ?_) (fun f cv A out s H xs Q E hr h => ?_)
  · obtain ⟨a, us, ps, rfl, _⟩ := h
    rfl
  · obtain ⟨a, us, ps, rfl, hS, hV, hO, hz, k⟩ := h
    have hr5 : Room 5 _ := hr.mono (by decide)
    refine ⟨_, pss_cons (ps_asg (pe_tup (pa_cons (pe_tup pa_nil) (pa_cons (pe_tup pa_nil) (pa_cons pe_int pa_nil)))) (pg_tup (by rfl) (pgs_cons (pg_name (i := 1) scJo.nd rfl (.inl rfl)) (pgs_cons (pg_name (i := 2) scJo.nd rfl (.inl rfl)) (pgs_cons (pg_name (i := 3) scJo.nd rfl (.inl rfl)) pgs_nil)))))
      (pss_cons (ps_for PassesOwn.never rfl (pi_list (pv 0)) (pg_tup (by rfl) (pgs_cons (pg_name (i := 4) scJo.nd rfl (.inl rfl)) (pgs_cons (pg_name (i := 5) scJo.nd rfl (.inl rfl)) (pgs_cons (pg_name (i := 6) scJo.nd rfl (.inl rfl)) pgs_nil))))
        (pss_cons (ps_set (i := 7) scJo.nd rfl (.inl rfl) (pe_callB (call_min2 rfl) (by rfl) mn (by decide +kernel) (pa_cons (pe_callB call_len_seq (by rfl) B.len PySem.boot_len (pa_cons (pv 2) pa_nil)) (pa_cons (pe_callB call_len_seq (by rfl) B.len PySem.boot_len (pa_cons (pv 4) pa_nil)) pa_nil))))
        (pss_cons (ps_if (pt_cut (pt_cmpR (op_neD hr.units) (pe_slice sl_tupS (pv 2) po_none (po_some (pv 7))) (pe_slice sl_tupS (pv 4) po_none (po_some (pv 7))) (nomark _))) (pss_one (ps_ret (pe_never0 GN T.mgE hr))) pss_nil)
        (pss_cons (ps_set (i := 3) scJo.nd rfl (.inl rfl) (pe_callB (call_max2 rfl) (by rfl) mx (by decide +kernel) (pa_cons (pv 3) (pa_cons (pe_op op_add (pe_op op_sub (pe_callB call_len_seq (by rfl) B.len PySem.boot_len (pa_cons (pv 2) pa_nil)) (pe_callB call_len_seq (by rfl) B.len PySem.boot_len (pa_cons (pv 1) pa_nil))) (pv 6)) pa_nil))))
        (pss_cons (ps_set (i := 1) scJo.nd rfl (.inl rfl) (pe_op op_catS (pv 1) (pe_slice sl_tupS (pv 4) (po_some (pv 7)) po_none)))
        (pss_one (ps_set (i := 2) scJo.nd rfl (.inl rfl) (pe_op op_catS (pv 5) (pe_slice sl_tupS (pv 2) (po_some (pv 7)) po_none)))))))))
      (pss_one (ps_ret (pe_effK M T.mgE hr5 (pa_cons (pv 1) (pa_cons (pv 2) pa_nil)) (pv 3))))), ?_⟩
    refine ⟨Nat.zero_le _, fun t1 ht1 => ⟨Nat.zero_le _, fun t2 ht2 => ?_⟩⟩
    have n12 : t1 ≠ t2 := ne_of_none upd_same ht2
    have s0 : Same H (upd (upd H t1 (.tup [])) t2 (.tup [])) := Same.free2 (Same.new ht1) ((Same.new ht1).free ht2)
    have shp : ∀ {zs : List Str}, (∀ z ∈ zs, Item z) → SeqAt.shaped (.tuple (zs.map PyData.str)) = true := fun {zs} q => (nice_tuple (nice_strs q)).shaped (by decide)
    refine ⟨(by show 3 ≤ sizeLine; decide), fun t3 ht3 => ⟨t3, _, rfl, .of upd_same, rfl, _, _, rfl, _, _, rfl, _, _, rfl, rfl, ?_⟩⟩
    have s00 := Same.new (o := .tup [.ref t1, .ref t2, .int 0]) ht3
    generalize upd (upd (upd H t1 (.tup [])) t2 (.tup [])) t3 (.tup [.ref t1, .ref t2, .int 0]) = H1 at s00 ⊢
    have w1 : SqT K H1 t1 (([] : List Str).map V.str) := Same.tup s00 (.of (by rw [upd_ne n12]; exact upd_same))
    have w2 : SqT K H1 t2 (([] : List Str).map V.str) := Same.tup s00 (.of upd_same)
    replace s0 := s0.trans s00
    refine ⟨_, rfl, a, rfl, ⟨_, Same.seq s0 hS⟩, for_list (K := K) (a := a) (xs := us) (fun i σ H2 => ∃ (u v : Addr) (A : Prt) (y4 y5 y6 y7 : Option V), σ = [some (.ref a), some (.ref u), some (.ref v), some (.int A.2.2), y4, y5, y6, y7] ∧ Same H H2 ∧ SqT K H2 u (A.1.map V.str) ∧ SqT K H2 v (A.2.1.map V.str) ∧ PrtOk A ∧ joinM ps = joinF A (ps.drop i) ∧ A.1.length + A.2.1.length + szP (ps.drop i) ≤ 5000)
      ⟨t1, t2, ([], [], 0), none, none, none, none, rfl, s0, w1, w2, ⟨fun z m => (by cases m), fun z m => (by cases m), Int.le_refl _, Int.le_refl _⟩, rfl, by rw [List.drop_zero]; show 0 + 0 + szP ps ≤ 5000; omega⟩ (fun i σ H2 _ q => ?_) ?_ ?_⟩
    · obtain ⟨_, _, _, _, _, _, _, _, s2, _⟩ := q
      exact Same.seq s2 hS
    · rintro i x σ H2 hx ⟨u, v, A, y4, y5, y6, y7, rfl, s2, hu, hv, oA, hj, hsz⟩
      obtain ⟨Bp, hB, hP⟩ := paired_at hV hx
      obtain ⟨t, p1, p2, rfl, q1, q2, q3⟩ := hP.same s2
      have oB := hO Bp (List.mem_of_getElem? hB)
      have hd : ps.drop i = Bp :: ps.drop (i + 1) := by
        obtain ⟨hl, he⟩ := List.getElem?_eq_some_iff.mp hB
        rw [List.drop_eq_getElem_cons hl, he]
      have hsz2 : A.1.length + A.2.1.length + (Bp.1.length + Bp.2.1.length) + szP (ps.drop (i + 1)) ≤ 5000 := by
        rw [hd] at hsz
        have e : szP (Bp :: ps.drop (i + 1)) = Bp.1.length + Bp.2.1.length + szP (ps.drop (i + 1)) := by
          unfold szP
          rw [List.map_cons, List.sum_cons]
        omega
      refine ⟨t, _, rfl, q1, rfl, _, _, rfl, _, _, rfl, _, _, rfl, rfl, ?_⟩
      refine ⟨_, rfl, v, _, rfl, .inr hv, _, rfl, p1, _, rfl, .inr q2, _, _, rfl, ?_⟩
      rw [List.length_map, List.length_map, min_int]
      -- do they fit
      refine ⟨fun b H3 => b = !decide (A.2.1.take (min A.2.1.length Bp.1.length) = Bp.1.take (min A.2.1.length Bp.1.length)) ∧ Same H2 H3, ?_, ?_⟩
      · refine ⟨_, rfl, _, rfl, _, rfl, v, _, rfl, hv, fun c1 H3 s3 hc1 => ⟨_, rfl, _, rfl, _, rfl, p1, _, rfl, Same.tup s3 q2, fun c2 H4 s4 hc2 => ?_⟩⟩
        rw [cutF_to] at hc1 hc2
        refine ⟨.tuple ((A.2.1.take (min A.2.1.length Bp.1.length)).map .str), .tuple ((Bp.1.take (min A.2.1.length Bp.1.length)).map .str), .tup (Same.tup s4 hc1) (dp_strs _), .tup hc2 (dp_strs _), shp (fun z m => oA.i2 z (List.mem_of_mem_take m)), shp (fun z m => oB.i1 z (List.mem_of_mem_take m)), _, rfl, ?_, s3.trans s4⟩
        rw [eqv_tupS]
      rintro b H3 ⟨rfl, s3⟩
      have s23 := s2.trans s3
      by_cases c : A.2.1.take (min A.2.1.length Bp.1.length) = Bp.1.take (min A.2.1.length Bp.1.length)
      rotate_left
      · rw [decide_eq_false c]
        refine iteT ⟨rfl, rfl, fun e H4 s4 he => k e H4 (s23.trans s4) ?_⟩
        have ej : joinM ps = none := by
          rw [hj, hd]
          unfold joinF comp
          rw [if_neg c]
        rw [ej]
        exact he
      rw [decide_eq_true c]
      refine iteF ?_
      refine ⟨_, rfl, _, rfl, v, _, rfl, .inr (Same.tup s3 hv), _, rfl, u, _, rfl, .inr (Same.tup s3 hu), _, _, rfl, rfl, _, rfl, _, _, rfl, rfl, _, _, rfl, ?_⟩
      rw [List.length_map, List.length_map]
      refine ⟨_, rfl, _, rfl, _, rfl, _, rfl, p1, _, rfl, Same.tup s3 q2, fun c1 H4 s4 hc1 => ?_⟩
      rw [cutF_from] at hc1
      refine ⟨u, c1, _, _, rfl, rfl, Same.tup (s3.trans s4) hu, hc1, ?_, fun u2 H5 s5 hu2 => ?_⟩
      · rw [List.length_map, List.length_map, List.length_drop, sizeLine_eq]
        omega
      have s35 := (s3.trans s4).trans s5
      refine ⟨_, rfl, _, rfl, _, rfl, _, rfl, v, _, rfl, Same.tup s35 hv, fun c2 H6 s6 hc2 => ?_⟩
      rw [cutF_from] at hc2
      refine ⟨p2, c2, _, _, rfl, rfl, Same.tup (s35.trans s6) q3, hc2, ?_, fun v2 H7 s7 hv2 => ?_⟩
      · rw [List.length_map, List.length_map, List.length_drop, sizeLine_eq]
        omega
      obtain ⟨Dp, hD⟩ : ∃ Dp, comp A Bp = some Dp := by
        unfold comp
        rw [if_pos c]
        exact ⟨_, rfl⟩
      have oD := comp_ok oA oB hD
      have e1 : Dp.1 = A.1 ++ Bp.1.drop (min A.2.1.length Bp.1.length) ∧ Dp.2.1 = Bp.2.1 ++ A.2.1.drop (min A.2.1.length Bp.1.length) ∧ Dp.2.2 = if (A.2.1.length : Int) - (A.1.length : Int) + Bp.2.2 > A.2.2 then (A.2.1.length : Int) - (A.1.length : Int) + Bp.2.2 else A.2.2 := by
        unfold comp at hD
        rw [if_pos c] at hD
        cases hD
        exact ⟨rfl, rfl, rfl⟩
      rw [← List.map_append, ← e1.1] at hu2
      rw [← List.map_append, ← e1.2.1] at hv2
      refine ⟨u2, v2, Dp, some (.ref p1), some (.ref p2), some (.int Bp.2.2), some (.int ((min A.2.1.length Bp.1.length : Nat) : Int)), ?_, s2.trans ((s35.trans s6).trans s7), Same.tup (s6.trans s7) hu2, hv2, oD.1, ?_, ?_⟩
      · rw [e1.2.2]
        rfl
      · rw [hj, hd]
        conv => lhs; unfold joinF
        rw [hD]
      · have := oD.2
        omega
    · rintro σ H2 ⟨u, v, A, y4, y5, y6, y7, rfl, s2, hu, hv, oA, hj, hsz⟩
      rw [paired_len hV, List.drop_length] at hj
      refine ⟨_, rfl, _, rfl, _, rfl, u, v, A.1, A.2.1, some A.2.2, rfl, rfl, hu, hv, by omega, by omega, oA.i1, oA.i2, fun p z => ?_, fun e H3 s3 _ he => ?_⟩
      · cases z
        exact oA.lp
      · refine k e H3 (s2.trans s3) ?_
        rw [hj]
        exact he
end
end SE
namespace SE
open PySem PySem.Spec PyProof.Rows L2
/-! ### effect_of -/
def partM (s : Stp) : Prt := if s.1 = true then ([], [s.2], 1) else ([s.2], [], 0)
def effM (ss : List Stp) : Eff := joinM (ss.map partM)
theorem partM_ok {s : Stp} (h : Item s.2) : PrtOk (partM s) := by
  unfold partM
  split
  · exact ⟨fun z m => (by cases m), fun z m => (by rw [List.mem_singleton.mp m]; exact h), (by show (0 : Int) ≤ 1; decide), (by show ((1 : Nat) : Int) - ((0 : Nat) : Int) ≤ 1; decide)⟩
  · exact ⟨fun z m => (by rw [List.mem_singleton.mp m]; exact h), fun z m => (by cases m), (by show (0 : Int) ≤ 0; decide), (by show ((0 : Nat) : Int) - ((1 : Nat) : Int) ≤ 0; decide)⟩
theorem szP_steps : ∀ ss : List Stp, szP (ss.map partM) = ss.length
  | [] => rfl
  | s :: ss => by
    have ih := szP_steps ss
    unfold szP at ih ⊢
    rw [List.map_cons, List.map_cons, List.sum_cons, ih, List.length_cons]
    unfold partM
    split
    · show 0 + 1 + ss.length = _
      omega
    · show 1 + 0 + ss.length = _
      omega
theorem tup_updL {K : PySem.W.Frag} {H : Hp} {D t : Addr} {xs us : List V} {o : HO} (hD : H D = some (.lst us)) (h : SqT K H t xs) : SqT K (upd H D o) t xs := by
  rcases h with (h | ⟨p, h⟩) | h
  · exact .inl (.inl (by rw [upd_ne (ne_of h hD (by intro z; cases z))]; exact h))
  · exact .inl (.inr ⟨p, by rw [upd_ne (ne_of h hD (by intro z; cases z))]; exact h⟩)
  · exact .inr h
theorem PrtV.updL {K : PySem.W.Frag} {H : Hp} {D : Addr} {us : List V} {v : V} {B : Prt} {o : HO} (hD : H D = some (.lst us)) (h : PrtV K H v B) : PrtV K (upd H D o) v B := by
  obtain ⟨t, a, b, e, h1, h2, h3⟩ := h
  exact ⟨t, a, b, e, tup_updL hD h1, tup_updL hD h2, tup_updL hD h3⟩
theorem Paired.snoc2 {α β : Type} {F : α → β → Prop} : ∀ {l₁ : List α} {l₂ : List β} {x : α} {y : β}, Paired F l₁ l₂ → F x y → Paired F (l₁ ++ [x]) (l₂ ++ [y])
  | _, _, _, _, .nil, h => .cons h .nil
  | _, _, _, _, .cons r t, h => .cons r (Paired.snoc2 t h)
section
variable {P : Program} {w : World} {K : PySem.W.Frag} {mg : Str → Option Value} {base : Heap} {C : Addr}
def spPart (K : PySem.W.Frag) : Sp := fun vs H Q _ => ∃ (v : V) (s : Stp), vs = [v] ∧ StepV K H v s ∧ ∀ (u : V) (H' : Hp), Same H H' → PrtV K H' u (partM s) → Q u H'
theorem scPt : FnScope ["step", "action", "item"] ["step"] (defScope sPartsOfStep) := ⟨rfl, rfl, rfl, by decide +kernel, rfl, by decide +kernel, by decide +kernel⟩
theorem has_part (D : Def K mg "parts_of_step" sPartsOfStep) : Has P w K mg base "parts_of_step" 1 ["step"] [] (spPart K) := by
  refine has_of D scPt (fun _ _ _ _ _ _ us hl => match us, hl with | [_], _ => rfl) (fun xs H Q E h => ?_) (fun f cv A out s H xs Q E hr h => ?_)
  · obtain ⟨v, st, rfl, _⟩ := h
    rfl
  · obtain ⟨v, st, rfl, ⟨t, rfl, hT⟩, k⟩ := h
    refine ⟨_, pss_cons (ps_asg (pv 0) (pg_tup (by rfl) (pgs_cons (pg_name (i := 1) scPt.nd rfl (.inl rfl)) (pgs_cons (pg_name (i := 2) scPt.nd rfl (.inl rfl)) pgs_nil))))
      (pss_one (ps_ret (pe_ifExp (pt_cmpR op_eq (pv 1) pe_str (nomark _)) (pe_tup (pa_cons (pe_tup pa_nil) (pa_cons (pe_tup (pa_cons (pv 2) pa_nil)) (pa_cons pe_int pa_nil)))) (pe_tup (pa_cons (pe_tup (pa_cons (pv 2) pa_nil)) (pa_cons (pe_tup pa_nil) (pa_cons pe_int pa_nil))))))), ?_⟩
    refine ⟨_, rfl, t, _, rfl, hT, rfl, _, _, rfl, _, _, rfl, rfl, ?_⟩
    obtain ⟨b, z⟩ := st
    cases b with
    | true =>
      refine ⟨_, rfl, rfl, true, congrArg V.bl (decide_eq_true (show V.str (act true) = V.str "push" from rfl)), iteT ?_⟩
      refine ⟨Nat.zero_le _, fun a ha => ⟨_, rfl, (by show 1 ≤ sizeLine; decide), fun c hc => ⟨(by show 3 ≤ sizeLine; decide), fun q hq => ?_⟩⟩⟩
      have nac : a ≠ c := ne_of_none upd_same hc
      have naq : a ≠ q := ne_of_none (by rw [upd_ne nac]; exact upd_same) hq
      have ncq : c ≠ q := ne_of_none upd_same hq
      refine k (.ref q) _ ?_ ⟨q, a, c, rfl, .of upd_same, .of ?_, .of ?_⟩
      · exact Same.free2 (Same.free2 (Same.new ha) ((Same.new ha).free hc)) ((Same.free2 (Same.new ha) ((Same.new ha).free hc)).free hq)
      · rw [upd_ne naq, upd_ne nac]
        exact upd_same
      · rw [upd_ne ncq]
        exact upd_same
    | false =>
      refine ⟨_, rfl, rfl, false, congrArg V.bl (decide_eq_false (fun y => absurd (V.str.inj (show V.str (act false) = V.str "push" from y)) (by decide +kernel))), iteF ?_⟩
      refine ⟨_, rfl, (by show 1 ≤ sizeLine; decide), fun a ha => ⟨Nat.zero_le _, fun c hc => ⟨(by show 3 ≤ sizeLine; decide), fun q hq => ?_⟩⟩⟩
      have nac : a ≠ c := ne_of_none upd_same hc
      have naq : a ≠ q := ne_of_none (by rw [upd_ne nac]; exact upd_same) hq
      have ncq : c ≠ q := ne_of_none upd_same hq
      refine k (.ref q) _ ?_ ⟨q, a, c, rfl, .of upd_same, .of ?_, .of ?_⟩
      · exact Same.free2 (Same.free2 (Same.new ha) ((Same.new ha).free hc)) ((Same.free2 (Same.new ha) ((Same.new ha).free hc)).free hq)
      · rw [upd_ne naq, upd_ne nac]
        exact upd_same
      · rw [upd_ne ncq]
        exact upd_same
def spEffOf (K : PySem.W.Frag) (C : Addr) : Sp := fun vs H Q _ => ∃ (a : Addr) (ys : List V) (ss : List Stp), vs = [.ref a] ∧ SqL K H a ys ∧ ys.length ≤ 1000 ∧ StepsV K H ys ss ∧ (∀ s ∈ ss, Item s.2) ∧ ∀ (e : Addr) (H' : Hp), Same H H' → EffV K C H' e (effM ss) → Q (.ref e) H'
theorem scEo : FnScope ["steps", "step"] ["steps"] (defScope sEffectOf) := ⟨rfl, rfl, rfl, by decide +kernel, rfl, by decide +kernel, by decide +kernel⟩
theorem has_effOf (D : Def K mg "effect_of" sEffectOf) (GC : Has P w K mg base "check_steps" 3 ["steps"] [] (spChkSteps K)) (GP : Has P w K mg base "parts_of_step" 1 ["step"] [] (spPart K)) (GJ : Has P w K mg base "joined" 7 ["parts"] [] (spJoin K C)) :
    Has P w K mg base "effect_of" 8 ["steps"] [] (spEffOf K C) := by
  refine has_of D scEo (fun _ _ _ _ _ _ us hl => match us, hl with | [_], _ => rfl) (fun xs H Q E h => ?_) (fun f cv A out s H xs Q E hr h => ?_)
  · obtain ⟨a, ys, ss, rfl, _⟩ := h
    rfl
  · obtain ⟨a, ys, ss, rfl, hS, hl, hV, hI, k⟩ := h
    have hr1 : Room 1 _ := hr.mono (by decide)
    have hr3 : Room 3 _ := hr.mono (by decide)
    have hln : ys.length = ss.length := hV.length
    refine ⟨_, pss_cons (ps_expr (pe_has GC hr3 (pa_cons (pv 0) pa_nil))) (pss_one (ps_ret (pe_has GJ hr (pa_cons
      (pe_lc (own := [("step", 1)]) (g := gName 1) (tt := tYes) (te := tCall (spPart K) [] E0 (tCons (tVar 1) tNil)) rfl scEo.nd (pi_list (pv 0)) (blkOk_by (own := [("step", 1)]) (N := ["steps", "step"]) (sc := defScope sEffectOf) (by decide +kernel))
        (fun _ _ _ _ _ => pg_name (i := 1) scEo.nd rfl (.inl rfl)) (fun _ _ _ _ _ => pts_nil) (fun _ _ _ _ _ => pe_has GP hr1 (pa_cons (pv 1) pa_nil))) pa_nil)))), ?_⟩
    refine ⟨_, rfl, a, ys, ss, rfl, .inl hS, hl, hV, hI, fun H1 s1 => ?_⟩
    refine ⟨_, rfl, a, rfl, ⟨_, Same.seq s1 hS⟩, fun D hD => lc_list (K := K) (a := a) (xs := ys) (fun j H2 => ∃ us, H2 D = some (.lst us) ∧ Paired (PrtV K H2) us ((ss.take j).map partM) ∧ Same H1 H2) ⟨[], upd_same, .nil, Same.new hD⟩ (fun j H2 _ q => ?_) ?_ ?_⟩
    · obtain ⟨_, _, _, s2⟩ := q
      exact Same.seq (s1.trans s2) hS
    · rintro j x H2 hx ⟨us, hu, hP, s2⟩
      obtain ⟨st, h1, h2⟩ := StepsV.at hV hx
      refine ⟨rfl, yes_in ⟨_, rfl, x, st, rfl, h2.same (s1.trans s2), fun u H3 s3 hp => ⟨us, s3 _ _ hu, ?_, us ++ [u], upd_same, ?_, ?_⟩⟩⟩
      · have l2 := paired_len hP
        rw [List.length_map, List.length_take] at l2
        rw [sizeLine_eq]
        omega
      · have e1 : (ss.take (j + 1)).map partM = (ss.take j).map partM ++ [partM st] := by
          rw [List.take_add_one, h1, List.map_append]
          rfl
        rw [e1]
        have hu3 := s3 _ _ hu
        exact Paired.snoc2 (Paired.mapP hP fun v B q => (q.same s3).updL hu3) (hp.updL hu3)
      · exact Same.free2 (s2.trans s3) hD
    · rintro H2 ⟨us, hu, hP, s2⟩
      rw [hln, List.take_length] at hP
      refine ⟨D, us, ss.map partM, rfl, .of hu, hP, fun Bp m => ?_, ?_, fun e H3 s3 he => k e H3 ((s1.trans s2).trans s3) he⟩
      · obtain ⟨st, ms, rfl⟩ := List.mem_map.mp m
        exact partM_ok (hI st ms)
      · rw [szP_steps]
        omega
end
end SE
/-! == and != by an own __eq__, whatever it answers; repr by an own __repr__. -/
namespace SE
open PySem PySem.Spec PyProof.Rows L2
section
variable {prog : Program} {w : World} {A : Around} {E : Value → Shared → Prop} {s : Shared} {K : PySem.W.Frag} {x y C f : Addr} {ox oy : Obj} {od oe : Option Obj} {Q : Value → Shared → Prop}
/-- a special method that is a built-in's slot -/
theorem bound_slot {M : Model} {name : Str} {id : String} {args : List Value} {R : Option Value → Shared → Prop} (X : K.In s.heap) (I : PySem.W.InstAt s.heap x ox C od) (hs : PySem.W.findIn K (.ref C) name = some (some (.builtin id)))
    (hb : ∀ v, bindSpecial (.builtin id) v = pure (.builtin id, [v])) (h : wpAny M A (call (.builtin id) (.ref x :: args)) (fun v => R (some v)) E s) : wpAny M A (callSpecialIfBound? (.ref x) name args) R E s := by
  simp only [callSpecialIfBound?, bindSpecialIfBound?]
  refine wpAny_holding (wpAny_bind (wpAny_bind (wpAny_bind (I.type.here ((PySem.W.looks_findIn X hs).here (wpAny_bind (wpAny_askSetting (wpAny_ite ?_))))))))
  have last : wpAny M A (call (.builtin id) ([.ref x] ++ args) >>= fun v => pure (some v)) R E s := wpAny_bind (wpAny_mono h (fun v s2 z => wpAny_pure z) fun _ _ z => z)
  split
  · exact wpAny_bind ((PySem.W.Looks.of_pure (hb _)).here (wpAny_pure (by exact last)))
  · exact wpAny_tryCatch (wpAny_bind ((PySem.W.Looks.of_pure (hb _)).here (wpAny_pure (by exact last))))
open Builtin in
theorem ne_call {v : Value} (hu : A.in1.units < cLine) (X : K.In s.heap) (I : PySem.W.InstAt s.heap x ox C od) (hm : PySem.W.mroIn K C (.type "object") = some true) (hs : PySem.W.findIn K (.ref C) "__eq__" = some (some (.ref f))) (hf : PySem.W.isFn K (.ref f) = true)
    (h : wpAny (model prog w) A.in1 (call (.ref f) [.ref x, v]) (fun r s2 => ∃ b, r = .bool b ∧ Q (.bool (!b)) s2) E s) : wpAny (model prog w) A (call (.builtin "object.__ne__") [.ref x, v]) Q E s := by
  refine wpAny_call (codeAny_call_builtin PySem.F.cmp_object.ne.plain PySem.F.cmpEntry_ne (PySem.W.check_slot PySem.F.cmpKind_ne PySem.F.cmpSplit_ne (I.type.andThen (PySem.W.looks_mroIn X hm)) (PySem.F.cmpArgs_ne _ _) ?_))
  unfold Builtin.«object.__ne__»
  refine wpAny_bind (m := slotArgs "__ne__" 1 _) (wpAny_pure ?_)
  refine wpAny_bind (m := cRoomFor _ _) (wpAny_cRoomFor hu ?_)
  refine wpAny_bind (m := callSpecialIfBound? (.ref x) (Str.ofString "__eq__") _) (PySem.W.ifBound_K X I hs hf (wpAny_mono h (fun r s2 z => ?_) fun _ _ z => z))
  obtain ⟨b, rfl, q⟩ := z
  exact wpAny_bind (wpAny_truthy_bool (wpAny_pure q))
theorem ne_inst (hu : A.units + 1 < cLine) (X : K.In s.heap) (I : PySem.W.InstAt s.heap x ox C od) (J : PySem.W.InstAt s.heap y oy C oe) (hm : PySem.W.mroIn K C (.type "object") = some true)
    (hn : PySem.W.findIn K (.ref C) "__ne__" = some (some (.builtin "object.__ne__"))) (hs : PySem.W.findIn K (.ref C) "__eq__" = some (some (.ref f))) (hf : PySem.W.isFn K (.ref f) = true)
    (h : wpAny (model prog w) A.in1 (call (.ref f) [.ref x, .ref y]) (fun r s2 => ∃ b, r = .bool b ∧ Q (.bool (!b)) s2) E s) : wpAny (model prog w) A (richCompare .NotEq (.ref x) (.ref y)) Q E s := by
  have one : wpAny (model prog w) A (tryCompare (.ref x) (cmpInfo .NotEq).2.1 (.ref y)) (fun r s2 => ∃ v, r = some v ∧ Q v s2) E s := by
    unfold tryCompare
    refine wpAny_bind (bound_slot X I hn PySem.F.cmp_object.ne.bind (ne_call hu X I hm hs hf (wpAny_mono h (fun v s2 z => ?_) fun _ _ z => z)))
    obtain ⟨b, rfl, q⟩ := z
    exact ⟨b, rfl, wpAny_pure ⟨_, rfl, q⟩⟩
  unfold richCompare
  simp only [oneThing_ref]
  refine wpAny_holding (wpAny_bind (wpAny_cRoomFor (Nat.lt_of_succ_lt hu) (wpAny_bind (I.type.here (wpAny_bind (J.type.here ?_))))))
  rw [show (Value.ref C != Value.ref C) = false by simp]
  simp only [Bool.false_eq_true, if_false]
  refine wpAny_bind (wpAny_pure ?_)
  simp only [Bool.false_eq_true, if_false]
  refine wpAny_bind (wpAny_mono one (fun r s2 z => ?_) fun _ _ z => z)
  obtain ⟨v, rfl, q⟩ := z
  exact wpAny_pure q
end
/-! ### the rules -/
/-- what an own == promises -/
def spEqB (R : Addr → Addr → Bool → Hp → Prop) : Sp := fun vs H Q _ => ∃ (a b : Addr) (c : Bool), vs = [.ref a, .ref b] ∧ R a b c H ∧ ∀ H', Same H H' → Q (.bl c) H'
def rCmp (C : Addr) (R : Addr → Addr → Bool → Hp → Prop) (neg : Bool) : R2 := fun x y H Q => ∃ (a b : Addr) (c : Bool) (dx dy : Addr) (fs gs : List (Str × V)), x = .ref a ∧ y = .ref b ∧ H a = some (.ins C dx fs) ∧ H b = some (.ins C dy gs) ∧ R a b c H ∧ ∀ H', Same H H' → Q (.bl (c != neg)) H'
section
variable {X : Cx} {n : Nat} {C f : Addr} {fd : FuncData} {ps : List Str} {R : Addr → Addr → Bool → Hp → Prop}
theorem op_eqE (F : FnOk X.prog X.w X.K X.mg X.base CX0 n f fd ps (spEqB R)) (hs : PySem.W.findIn X.K (.ref C) "__eq__" = some (some (.ref f))) (hf : PySem.W.isFn X.K (.ref f) = true) (hb : Binds X.K fd ps []) (hr : Room n X.A) : OpR X (compareOp .Eq) (rCmp C R false) := by
  intro pins s σ H x y u v Q I rx ry hq
  obtain ⟨a, b, c, dx, dy, fs, gs, rfl, rfl, ha, hb2, hR, k⟩ := hq
  cases rx
  cases ry
  obtain ⟨mA, J, _⟩ := ins_get I.hok ha
  obtain ⟨mB, J2, _⟩ := ins_get I.hok hb2
  obtain ⟨od, J, _⟩ := J.look
  obtain ⟨oe, J2, _⟩ := J2.look
  obtain ⟨m, hF⟩ := I.fr
  show wpAny (model X.prog X.w) X.A (richCompare .Eq (.ref a) (.ref b)) (EP X pins σ Q) X.xe s
  refine PySem.W.cmp_K (op := .Eq) (tb := .ref C) hr.units0 hF I.ok.mod.kin J J2.type (by simp [PySem.W.notFirst]) hs hf ?_
  have hsp : spEqB R [.ref a, .ref b] H (fun z H' => z = .bl c ∧ Same H H') (fun _ _ _ => False) := ⟨a, b, c, rfl, hR, fun H' e => ⟨rfl, e⟩⟩
  have hl := F.len _ _ _ _ hsp
  refine wpAny_call (codeAny_mono (F.run X.A X.stack s H ⟨[.ref a, .ref b], []⟩ [.ref a, .ref b] [.ref a, .ref b] _ _ hr I.env0 (by simpa using hb s [.ref a, .ref b] I.kIn (by simpa using hl)) (.cons rfl (.cons rfl .nil)) hsp) fun r s2 hq => ?_)
  cases r with
  | error e => exact hq.elim
  | ok fl =>
    cases fl with
    | ret z =>
      obtain ⟨y, H2, I2, rz, ez, ex⟩ := I.after hq
      subst ez
      cases rz
      refine ⟨.bl c, H2, I2, rfl, ?_⟩
      have q := k H2 ex
      rw [show (c != false) = c by cases c <;> rfl] at q
      exact q
    | next => exact hq.elim
    | brk => exact hq.elim
    | cont => exact hq.elim
theorem op_neE (F : FnOk X.prog X.w X.K X.mg X.base CX0 n f fd ps (spEqB R)) (hs : PySem.W.findIn X.K (.ref C) "__eq__" = some (some (.ref f))) (hf : PySem.W.isFn X.K (.ref f) = true) (hb : Binds X.K fd ps []) (hm : PySem.W.mroIn X.K C (.type "object") = some true)
    (hn : PySem.W.findIn X.K (.ref C) "__ne__" = some (some (.builtin "object.__ne__"))) (hr : Room (n + 1) X.A) : OpR X (compareOp .NotEq) (rCmp C R true) := by
  intro pins s σ H x y u v Q I rx ry hq
  obtain ⟨a, b, c, dx, dy, fs, gs, rfl, rfl, ha, hb2, hR, k⟩ := hq
  cases rx
  cases ry
  obtain ⟨mA, J, _⟩ := ins_get I.hok ha
  obtain ⟨mB, J2, _⟩ := ins_get I.hok hb2
  obtain ⟨od, J, _⟩ := J.look
  obtain ⟨oe, J2, _⟩ := J2.look
  show wpAny (model X.prog X.w) X.A (richCompare .NotEq (.ref a) (.ref b)) (EP X pins σ Q) X.xe s
  refine ne_inst (by have := hr.in1.units0; exact this) I.kIn J J2 hm hn hs hf ?_
  have hsp : spEqB R [.ref a, .ref b] H (fun z H' => z = .bl c ∧ Same H H') (fun _ _ _ => False) := ⟨a, b, c, rfl, hR, fun H' e => ⟨rfl, e⟩⟩
  have hl := F.len _ _ _ _ hsp
  refine wpAny_call (codeAny_mono (F.run X.A.in1 X.stack s H ⟨[.ref a, .ref b], []⟩ [.ref a, .ref b] [.ref a, .ref b] _ _ hr.in1 I.env0.in1 (by simpa using hb s [.ref a, .ref b] I.kIn (by simpa using hl)) (.cons rfl (.cons rfl .nil)) hsp) fun r s2 hq => ?_)
  cases r with
  | error e => exact hq.elim
  | ok fl =>
    cases fl with
    | ret z =>
      obtain ⟨y, H2, I2, rz, ez, ex⟩ := I.after hq
      subst ez
      cases rz
      refine ⟨c, rfl, .bl (!c), H2, I2, rfl, ?_⟩
      have q := k H2 ex
      rw [show (c != true) = !c by cases c <;> rfl] at q
      exact q
    | next => exact hq.elim
    | brk => exact hq.elim
    | cont => exact hq.elim
/-- repr(o), an own __repr__ -/
theorem call_reprE {sp : Sp} (F : GOk X.prog X.w X.K X.mg X.base n f fd ["self"] sp) (hs : PySem.W.findIn X.K (.ref C) "__repr__" = some (some (.ref f))) (hf : PySem.W.isFn X.K (.ref f) = true) (hb : Binds X.K fd ["self"] []) (hgu : X.A.guards = some []) (hr : Room (n + 1) X.A) :
    CallR X (.builtin "repr") (fun xs H Q => ∃ (a dx : Addr) (fs : List (Str × V)), xs = [.ref a] ∧ H a = some (.ins C dx fs) ∧ sp [.ref a] H (fun v H' => ∃ z, v = .str z ∧ Q (.str z) H') (fun _ _ _ => False)) := by
  intro pins s σ H xs us Q I r h
  obtain ⟨a, dx, fs, rfl, ha, hsp⟩ := h
  cases r with
  | cons r1 r2 =>
    cases r2
    cases r1
    obtain ⟨mA, J, _⟩ := ins_get I.hok ha
    obtain ⟨od, J, _⟩ := J.look
    obtain ⟨m, hF⟩ := I.fr
    refine PySem.W.repr_K hr.in1.units0 hF I.ok.mod.kin J hs hf ?_
    refine wpAny_call (codeAny_mono (F.run X.A.in1 X.stack s H ⟨[.ref a], []⟩ [.ref a] [.ref a] _ _ hgu hr.in1 I.env0.in1 (by simpa using hb s [.ref a] I.kIn rfl) (.cons rfl .nil) hsp) fun r s2 hq => ?_)
    cases r with
    | error e => exact hq.elim
    | ok fl =>
      cases fl with
      | ret z =>
        obtain ⟨y, H2, I2, rz, t, ez, q⟩ := I.after hq
        subst ez
        obtain ⟨tk, rfl⟩ := rz
        exact ⟨.str t, H2, I2, ⟨_, rfl⟩, q⟩
      | next => exact hq.elim
      | brk => exact hq.elim
      | cont => exact hq.elim
/-- {x!r}, x plain data -/
def tFmtT (K : PySem.W.Frag) (te : TE) : TE := fun σ H Q => te σ H fun x H1 => ∃ (a : Addr) (d : PyData), x = .ref a ∧ Dp K H1 x d ∧ d.showable = true ∧ d.hasDict = false ∧ d.depth ≤ 20 ∧ d.shown.length ≤ sizeLine ∧ Q (.str d.shown) H1
theorem pe_fmtT {e : Expr} {te : TE} {pos : Pos} (hgu : X.A.guards = some []) (hu : X.A.units + 64 < cLine) (he : PE X e te) : PE X (.FormattedValue e 114 none pos) (tFmtT X.K te) := by
  constructor
  intro pins s σ H Q I h
  refine wpAny_FormattedValue_repr (thn (he.run pins s σ H _ I h) fun v s1 hv => ?_)
  obtain ⟨x, H1, I1, r1, a, d, rfl, hd, hs, hn, hdep, hz, q⟩ := hv
  cases r1
  obtain ⟨as, rd⟩ := Dp.reads I1 d (.ref a) (.ref a) hd rfl
  refine pyReprObj_of_reads rd hs (PyData.noDict_hsm hn) hgu (by omega) (fun _ _ z => z) (fun h2 u tk keep => ?_) hz
  have I2 := I1.kept (t' := tk) keep
  exact wpAny_formatField_str ⟨.str d.shown, H1, I2, ⟨u, rfl⟩, q⟩ ⟨.str d.shown, H1, I2.tok _, ⟨_, rfl⟩, q⟩ hz
end
theorem Nice.shownLe {k B : Nat} {d : PyData} (h : Nice k B d) : d.shown.length ≤ 15 * B + 13 := by
  have q := PyData.shown_le 13 (by decide) d (PyData.leavesShort_of_canLay0 13 d h.lay h.ish)
  have := h.wt
  omega
end SE
namespace SE
open PySem PySem.Spec PyProof.Rows L2
abbrev sEq : Stmt := inClass sEffect 13
abbrev sRepr : Stmt := inClass sEffect 14
/-- what isinstance asks of the class -/
structure EI (K : PySem.W.Frag) (C : Addr) : Prop where
  ha : PySem.W.findIn K (.ref C) "__class__" = some (some (.builtin "object.__class__"))
  hn : PySem.W.specialIn K (.builtin "object.__class__") "__get__" = some (some (.builtin "getset_descriptor.__get__"))
  ht : PySem.W.takesIn K (.builtin "object.__class__") = some true
  hm : PySem.W.mroIn K C (.type "object") = some true
  ki : PySem.W.kitOne K (.ref C) (.ref C) = some true
/-- the parts of an effect as data -/
def dN : Eff → PyData
  | none => .none
  | some (xs, _, _) => .tuple (xs.map .str)
def dL : Eff → PyData
  | none => .none
  | some (_, ys, _) => .tuple (ys.map .str)
def dH : Eff → PyData
  | none => .none
  | some (_, _, p) => .int p
/-- an effect whose words are of items -/
def EffOk : Eff → Prop
  | none => True
  | some (xs, ys, p) => (∀ z ∈ xs, Item z) ∧ (∀ z ∈ ys, Item z) ∧ xs.length ≤ 1000 ∧ ys.length ≤ 1000 ∧ 0 ≤ p ∧ p ≤ 100000
theorem eff_eqv (a b : Eff) : (PyData.eqv (dN a) (dN b) && (PyData.eqv (dL a) (dL b) && PyData.eqv (dH a) (dH b))) = decide (a = b) := by
  cases a with
  | none =>
    cases b with
    | none => simp [dN, dL, dH, PyData.eqv]
    | some b =>
      obtain ⟨x, y, p⟩ := b
      simp [dN, dL, dH, PyData.eqv]
  | some a =>
    obtain ⟨x, y, p⟩ := a
    cases b with
    | none => simp [dN, dL, dH, PyData.eqv]
    | some b =>
      obtain ⟨x2, y2, p2⟩ := b
      show (PyData.eqv (.tuple (x.map .str)) (.tuple (x2.map .str)) && (PyData.eqv (.tuple (y.map .str)) (.tuple (y2.map .str)) && PyData.eqv (.int p) (.int p2))) = _
      rw [eqv_tupS, eqv_tupS]
      have e : PyData.eqv (.int p) (.int p2) = decide (p = p2) := by
        unfold PyData.eqv
        by_cases c : p = p2
        · subst c
          simp
        · simp [c]
      rw [e]
      by_cases c1 : x = x2 <;> by_cases c2 : y = y2 <;> by_cases c3 : p = p2 <;> simp [c1, c2, c3]
def shownE : Eff → Str
  | none => "Effect.never()"
  | some (xs, ys, p) => Str.empty ++ "Effect(" ++ (PyData.tuple (xs.map .str)).shown ++ ", " ++ (PyData.tuple (ys.map .str)).shown ++ ", peak=" ++ toString p ++ ")"
section
variable {P : Program} {w : World} {K : PySem.W.Frag} {mg : Str → Option Value} {base : Heap} {C : Addr}
theorem EffV.dp {H : Hp} {e : Addr} : ∀ {o : Eff}, EffV K C H e o → ∃ dx u v p, H e = some (.ins C dx (eF u v p)) ∧ Dp K H u (dN o) ∧ Dp K H v (dL o) ∧ Dp K H p (dH o)
  | none, h => by
    obtain ⟨dx, h1⟩ := NevAt.ex h
    exact ⟨dx, _, _, _, h1, .non, .non, .non⟩
  | some (_, _, _), h => by
    obtain ⟨dx, u, v, h1, h2, h3⟩ := EffAt.ex h
    exact ⟨dx, _, _, _, h1, .tup h2 (dp_strs _), .tup h3 (dp_strs _), .int _⟩
theorem EffOk.shaped : ∀ {o : Eff}, EffOk o → SeqAt.shaped (dN o) = true ∧ SeqAt.shaped (dL o) = true ∧ SeqAt.shaped (dH o) = true
  | none, _ => ⟨rfl, rfl, rfl⟩
  | some (_, _, _), h => ⟨(nice_tuple (nice_strs h.1)).shaped (by decide), (nice_tuple (nice_strs h.2.1)).shaped (by decide), rfl⟩
/-! ### __eq__ -/
def rEff (K : PySem.W.Frag) (C : Addr) (a b : Addr) (c : Bool) (H : Hp) : Prop := ∃ o1 o2, EffV K C H a o1 ∧ EffV K C H b o2 ∧ EffOk o1 ∧ EffOk o2 ∧ c = decide (o1 = o2)
theorem scEq : FnScope ["self", "other"] ["self", "other"] (defScope sEq) := ⟨rfl, rfl, rfl, by decide +kernel, rfl, by decide +kernel, by decide +kernel⟩
theorem ok_eq {f : Addr} {fd : FuncData} (F : Fun K "__eq__" "Effect.__eq__" sEq f fd) (T : EC K mg C) (TI : EI K C) (B : Blt mg) : FnOk P w K mg base CX0 1 f fd ["self", "other"] (spEqB (rEff K C)) := by
  refine F.ok scEq (fun vs H Q E h => ?_) (fun cdv A outer s H vs Q E hr h => ?_)
  · obtain ⟨a, b, c, rfl, _⟩ := h
    rfl
  · obtain ⟨a, b, c, rfl, ⟨o1, o2, h1, h2, k1, k2, rfl⟩, k⟩ := h
    obtain ⟨dx, u, v, p, i1, d1, d2, d3⟩ := h1.dp
    obtain ⟨dy, u2, v2, p2, i2, g1, g2, g3⟩ := h2.dp
    obtain ⟨s1, s2, s3⟩ := k1.shaped
    obtain ⟨t1, t2, t3⟩ := k2.shaped
    refine ⟨_, pss_one (ps_ret (pe_and (pe_callB call_isi (by rfl) B.isi (by decide +kernel) (pa_cons (pv 1) (pa_cons (pe_glob (v := .ref C) rfl T.mgE rfl) pa_nil)))
      (pe_and (pe_cmpR (op_eqD hr.units) (pe_fld (pv 0) rfl) (pe_fld (pv 1) rfl) (nomark _)) (pe_and (pe_cmpR (op_eqD hr.units) (pe_fld (pv 0) rfl) (pe_fld (pv 1) rfl) (nomark _)) (pe_one (pe_cmpR (op_eqD hr.units) (pe_fld (pv 0) rfl) (pe_fld (pv 1) rfl) (nomark _))))))), ?_⟩
    have fin := k H (Same.refl H)
    rw [← eff_eqv] at fin
    refine ⟨_, rfl, _, .ref C, .ref C, .ref C, true, rfl, .own C, .base (.ins i2 T.cl TI.ha TI.hn TI.ht TI.hm), TI.ki, true, rfl, iteT ?_⟩
    refine ⟨_, rfl, a, C, dx, _, _, rfl, i1, T.cl, T.nN, eF_needs _ _ _, _, rfl, b, C, dy, _, _, rfl, i2, T.cl, T.nN, eF_needs _ _ _, dN o1, dN o2, d1, g1, s1, t1, _, rfl, ?_⟩
    cases e1 : PyData.eqv (dN o1) (dN o2) with
    | false =>
      rw [e1, Bool.false_and] at fin
      exact iteF fin
    | true =>
      rw [e1, Bool.true_and] at fin
      refine iteT ⟨_, rfl, a, C, dx, _, _, rfl, i1, T.cl, T.nL, eF_leaves _ _ _, _, rfl, b, C, dy, _, _, rfl, i2, T.cl, T.nL, eF_leaves _ _ _, dL o1, dL o2, d2, g2, s2, t2, _, rfl, ?_⟩
      cases e2 : PyData.eqv (dL o1) (dL o2) with
      | false =>
        rw [e2, Bool.false_and] at fin
        exact iteF fin
      | true =>
        rw [e2, Bool.true_and] at fin
        exact iteT ⟨_, rfl, a, C, dx, _, _, rfl, i1, T.cl, T.nH, eF_high _ _ _, _, rfl, b, C, dy, _, _, rfl, i2, T.cl, T.nH, eF_high _ _ _, dH o1, dH o2, d3, g3, s3, t3, fin⟩
/-! ### __repr__ -/
def spRepr (K : PySem.W.Frag) (C : Addr) : Sp := fun vs H Q _ => ∃ (e : Addr) (o : Eff), vs = [.ref e] ∧ EffV K C H e o ∧ EffOk o ∧ Q (.str (shownE o)) H
theorem scRp : FnScope ["self"] ["self"] (defScope sRepr) := ⟨rfl, rfl, rfl, by decide +kernel, rfl, by decide +kernel, by decide +kernel⟩
theorem ok_repr {f : Addr} {fd : FuncData} (F : Fun K "__repr__" "Effect.__repr__" sRepr f fd) (T : EC K mg C) : GOk P w K mg base 1 f fd ["self"] (spRepr K C) := by
  obtain ⟨oc, od, kV, doc, pm, an, cv, ct, osl, rfl, look, hcode⟩ := F.ex
  refine gok_of look hcode scRp (fun vs H Q E h => ?_) (fun A out s H vs Q E hgu hr h => ?_)
  · obtain ⟨e, o, rfl, _⟩ := h
    rfl
  · obtain ⟨e, o, rfl, h, ok, k⟩ := h
    have body : ∃ t, PSs (cxOf CX0 P w K mg base ["self"] "Effect.__repr__" (defScope sRepr) f cv A out s H E).nox (defBody sRepr) t ∧ t { nx := fun _ H2 => Q .non H2, rt := Q } (start ["self"] [.ref e]) H := by
      refine ⟨_, pss_cons (ps_if (pt_cmpR op_isN (pe_fld (pv 0) rfl) pe_non (nomark _)) (pss_one (ps_ret pe_str)) pss_nil)
        (pss_one (ps_ret (pe_joined (.cons pe_str (.cons (pe_fmtT hgu hr.units (pe_fld (pv 0) rfl)) (.cons pe_str (.cons (pe_fmtT hgu hr.units (pe_fld (pv 0) rfl)) (.cons pe_str (.cons (pe_fmtR (pe_fld (pv 0) rfl)) (.cons pe_str .nil)))))))))), ?_⟩
      cases o with
      | none =>
        obtain ⟨dx, h1⟩ := NevAt.ex h
        exact ⟨_, rfl, e, C, dx, _, _, rfl, h1, T.cl, T.nN, eF_needs _ _ _, rfl, true, rfl, iteT k⟩
      | some o =>
        obtain ⟨xs, ys, p⟩ := o
        obtain ⟨dx, u, v, h1, h2, h3⟩ := EffAt.ex h
        obtain ⟨i1, i2, l1, l2, p0, p1⟩ := ok
        have n1 := nice_tuple (nice_strs i1)
        have n2 := nice_tuple (nice_strs i2)
        have z1 := n1.shownLe
        have z2 := n2.shownLe
        rw [List.length_map] at z1 z2
        have tl : (toString p : Str).length ≤ 13 := by
          have := PyData.shown_int_le (i := p) (by omega)
          exact this
        have big : ∀ m : Nat, m ≤ 400000 → m ≤ sizeLine := fun m hm => by
          rw [sizeLine_eq]
          omega
        have w0 : (Str.empty : Str).length = 0 := by decide +kernel
        have w1 : ("Effect(" : Str).length = 7 := by decide +kernel
        have w2 : (", " : Str).length = 2 := by decide +kernel
        have w3 : (", peak=" : Str).length = 7 := by decide +kernel
        have w4 : (")" : Str).length = 1 := by decide +kernel
        have lg : p.natAbs.log2 < 1920 := PySem.Flt.log2_lt_of (by decide) (Nat.lt_of_lt_of_le (show p.natAbs < 2 ^ 17 by show _ < 131072; omega) (Nat.pow_le_pow_right (by decide) (by decide)))
        refine ⟨_, rfl, e, C, dx, _, _, rfl, h1, T.cl, T.nN, eF_needs _ _ _, rfl, false, rfl, iteF ?_⟩
        refine ⟨_, rfl, big _ ?_, _, rfl, e, C, dx, _, _, rfl, h1, T.cl, T.nN, eF_needs _ _ _, u, _, rfl, .tup h2 (dp_strs xs), n1.sh, n1.nd, Nat.le_trans n1.dep (by decide), big _ (by omega), _, rfl, big _ ?_, _, rfl, big _ ?_, _, rfl, e, C, dx, _, _, rfl, h1, T.cl, T.nL, eF_leaves _ _ _, v, _, rfl, .tup h3 (dp_strs ys), n2.sh, n2.nd, Nat.le_trans n2.dep (by decide), big _ (by omega), _, rfl, big _ ?_, _, rfl, big _ ?_, _, rfl, e, C, dx, _, _, rfl, h1, T.cl, T.nH, eF_high _ _ _, .inr ⟨p, rfl, lg, _, rfl, big _ ?_, _, rfl, big _ ?_, k⟩⟩
        all_goals (simp only [len_add, w0, w1, w2, w3, w4]; omega)
    obtain ⟨t, a, b⟩ := body
    exact ⟨t, a.nox, b⟩
end
end SE
namespace SE
open PySem PySem.Spec PyProof.Rows L2
/-! ### the effect of a repeated sequence -/
def cw : List Str → List Str → Option (List Str × List Str)
  | [], R => some (R, [])
  | a :: P, [] => some ([], a :: P)
  | a :: P, b :: R => if a = b then cw P R else none
def mx (a b : Int) : Int := if b > a then b else a
def hg (A : Prt) : Int := (A.2.1.length : Int) - (A.1.length : Int)
theorem cw_nil (P : List Str) : cw P [] = some ([], P) := by
  cases P <;> rfl
theorem cw_eq : ∀ P R : List Str, cw P R = if P.take (min P.length R.length) = R.take (min P.length R.length) then some (R.drop (min P.length R.length), P.drop (min P.length R.length)) else none
  | [], R => by simp [cw]
  | a :: P, [] => by simp [cw]
  | a :: P, b :: R => by
    have ih := cw_eq P R
    unfold cw
    have e : min (a :: P).length (b :: R).length = min P.length R.length + 1 := by
      rw [List.length_cons, List.length_cons]
      omega
    rw [e, List.take_succ_cons, List.take_succ_cons, List.drop_succ_cons, List.drop_succ_cons]
    by_cases c : a = b
    · subst c
      rw [if_pos rfl, ih]
      simp
    · rw [if_neg c, if_neg (fun z => c (List.cons.inj z).1)]
theorem comp_cw (A B : Prt) : comp A B = (cw A.2.1 B.1).map fun z => (A.1 ++ z.1, B.2.1 ++ z.2, mx A.2.2 (hg A + B.2.2)) := by
  unfold comp
  rw [cw_eq]
  split
  · rfl
  · rfl
theorem assoc1 (A E : Prt) (s : Stp) : ((comp A (partM s)).bind fun D => comp D E) = (comp (partM s) E).bind (comp A) := by
  obtain ⟨x, y, p⟩ := A
  obtain ⟨u, v, q⟩ := E
  obtain ⟨b, z⟩ := s
  cases b with
  | true =>
    have e1 : partM (true, z) = ([], [z], 1) := rfl
    rw [e1]
    simp only [comp_cw, cw_nil, Option.map_some, Option.bind_some]
    cases u with
    | nil =>
      simp only [comp_cw, cw_nil, Option.map_some, Option.bind_some, hg, List.append_nil, List.nil_append]
      refine congrArg some (Prod.ext rfl (Prod.ext (by simp) ?_))
      simp only [List.length_append, List.length_cons, List.length_nil, mx]
      grind
    | cons t r =>
      simp only [cw]
      by_cases c : z = t
      · subst c
        simp only [List.cons_append, List.nil_append, cw, if_true, Option.map_some, Option.bind_some, List.append_nil, comp_cw]
        cases cw y r with
        | none => rfl
        | some g =>
          simp only [Option.map_some, hg]
          refine congrArg some (Prod.ext rfl (Prod.ext rfl ?_))
          simp only [List.length_append, List.length_cons, List.length_nil, mx]
          grind
      · simp [cw, c]
  | false =>
    have e1 : partM (false, z) = ([z], [], 0) := rfl
    rw [e1]
    simp only [comp_cw, cw, Option.map_some, Option.bind_some, List.append_nil]
    cases y with
    | nil =>
      simp only [cw, Option.map_some, Option.bind_some, hg, List.append_nil]
      refine congrArg some (Prod.ext (by simp) (Prod.ext (by simp) ?_))
      simp only [List.length_append, List.length_cons, List.length_nil, mx]
      grind
    | cons t r =>
      simp only [List.cons_append, List.nil_append, cw, cw_nil]
      by_cases c : t = z
      · subst c
        simp only [if_true, Option.map_some, Option.bind_some, List.append_nil, List.nil_append]
        cases cw r u with
        | none => rfl
        | some g =>
          simp only [Option.map_some, hg]
          refine congrArg some (Prod.ext rfl (Prod.ext rfl ?_))
          simp only [List.length_append, List.length_cons, List.length_nil, mx]
          grind
      · simp [c]
theorem joinF_cons (A B : Prt) (r : List Prt) : joinF A (B :: r) = (comp A B).bind fun D => joinF D r := by
  rw [joinF]
  cases comp A B <;> rfl
theorem comp_one (s : Stp) : comp ([], [], 0) (partM s) = some (partM s) := by
  obtain ⟨b, z⟩ := s
  cases b <;> simp [comp_cw, partM, cw, hg, mx]
theorem cw_len : ∀ (P R : List Str) (z : List Str × List Str), cw P R = some z → (z.2.length : Int) - z.1.length = P.length - R.length
  | [], R, z, h => by
    cases h
    show ((0 : Nat) : Int) - R.length = ((0 : Nat) : Int) - R.length
    rfl
  | a :: P, [], z, h => by
    cases h
    rfl
  | a :: P, b :: R, z, h => by
    unfold cw at h
    split at h
    · have ih := cw_len P R z h
      rw [List.length_cons, List.length_cons]
      omega
    · cases h
theorem hg_comp {A B D : Prt} (h : comp A B = some D) : hg D = hg A + hg B := by
  rw [comp_cw] at h
  cases e : cw A.2.1 B.1 with
  | none =>
    rw [e] at h
    cases h
  | some z =>
    rw [e] at h
    cases h
    have := cw_len _ _ _ e
    unfold hg
    simp only [List.length_append]
    omega
theorem pk_comp {A B D : Prt} (h : comp A B = some D) : D.2.2 = mx A.2.2 (hg A + B.2.2) := by
  rw [comp_cw] at h
  cases e : cw A.2.1 B.1 with
  | none =>
    rw [e] at h
    cases h
  | some z =>
    rw [e] at h
    cases h
    rfl
theorem hgp (s : Stp) : hg (partM s) ≤ (partM s).2.2 ∧ 0 ≤ (partM s).2.2 ∧ (partM s).2.2 ≤ 1 := by
  obtain ⟨b, z⟩ := s
  cases b
  · exact ⟨(by show ((0 : Nat) : Int) - ((1 : Nat) : Int) ≤ 0; decide), (by show (0 : Int) ≤ 0; decide), (by show (0 : Int) ≤ 1; decide)⟩
  · exact ⟨(by show ((1 : Nat) : Int) - ((0 : Nat) : Int) ≤ 1; decide), (by show (0 : Int) ≤ 1; decide), (by show (1 : Int) ≤ 1; decide)⟩
theorem joinF_eff : ∀ (ss : List Stp) (A : Prt), hg A ≤ A.2.2 → joinF A (ss.map partM) = (effM ss).bind (comp A)
  | [], A, h => by
    obtain ⟨x, y, p⟩ := A
    show some (x, y, p) = comp (x, y, p) ([], [], 0)
    rw [comp_cw, cw_nil]
    simp only [Option.map_some, List.append_nil, List.nil_append]
    refine congrArg some (Prod.ext rfl (Prod.ext rfl ?_))
    have h' : hg (x, y, p) ≤ p := h
    simp only [mx]
    split <;> omega
  | s :: ss, A, h => by
    have ih := joinF_eff ss
    rw [List.map_cons, joinF_cons]
    have hs := hgp s
    have e : effM (s :: ss) = (effM ss).bind (comp (partM s)) := by
      rw [← ih _ hs.1]
      unfold effM joinM
      rw [List.map_cons, joinF_cons, comp_one, Option.bind_some]
    rw [e]
    have e2 : ((comp A (partM s)).bind fun D => joinF D (ss.map partM)) = (comp A (partM s)).bind fun D => (effM ss).bind (comp D) := by
      cases q : comp A (partM s) with
      | none => rfl
      | some D =>
        rw [Option.bind_some, Option.bind_some]
        refine ih D ?_
        rw [hg_comp q, pk_comp q]
        unfold mx
        split <;> omega
    rw [e2]
    cases effM ss with
    | none =>
      simp only [Option.bind_none]
      cases comp A (partM s) <;> rfl
    | some E => exact assoc1 A E s
theorem joinF_app : ∀ (ps qs : List Prt) (A : Prt), joinF A (ps ++ qs) = (joinF A ps).bind fun D => joinF D qs
  | [], qs, A => rfl
  | B :: ps, qs, A => by
    rw [List.cons_append, joinF_cons, joinF_cons]
    cases comp A B with
    | none => rfl
    | some D =>
      rw [Option.bind_some, Option.bind_some]
      exact joinF_app ps qs D
/-- what the effect of a sequence keeps to -/
theorem joinF_ok : ∀ (ss : List Stp) (A D : Prt), PrtOk A → (∀ s ∈ ss, Item s.2) → joinF A (ss.map partM) = some D → PrtOk D ∧ D.1.length + D.2.1.length ≤ A.1.length + A.2.1.length + ss.length ∧ D.2.2 ≤ A.2.2 + ss.length
  | [], A, D, h, _, e => by
    cases e
    refine ⟨h, by simp, by simp⟩
  | s :: ss, A, D, h, hI, e => by
    rw [List.map_cons, joinF_cons] at e
    cases q : comp A (partM s) with
    | none =>
      rw [q] at e
      cases e
    | some B =>
      rw [q, Option.bind_some] at e
      have ok := comp_ok h (partM_ok (hI s List.mem_cons_self)) q
      have ih := joinF_ok ss B D ok.1 (fun z m => hI z (List.mem_cons_of_mem _ m)) e
      have pk := pk_comp q
      have hs := hgp s
      have l1 : (partM s).1.length + (partM s).2.1.length = 1 := by
        unfold partM
        split <;> rfl
      have hh : hg A ≤ A.2.2 := h.h1
      refine ⟨ih.1, ?_, ?_⟩
      · rw [List.length_cons]
        omega
      · have i3 := ih.2.2
        rw [pk] at i3
        have : mx A.2.2 (hg A + (partM s).2.2) ≤ A.2.2 + 1 := by
          unfold mx
          split <;> omega
        rw [List.length_cons]
        omega
theorem effM_ok {ss : List Stp} {D : Prt} (hI : ∀ s ∈ ss, Item s.2) (h : effM ss = some D) : PrtOk D ∧ D.1.length + D.2.1.length ≤ ss.length ∧ D.2.2 ≤ ss.length := by
  have q := joinF_ok ss ([], [], 0) D ⟨fun z m => (by cases m), fun z m => (by cases m), Int.le_refl _, Int.le_refl _⟩ hI h
  refine ⟨q.1, ?_, ?_⟩
  · have := q.2.1
    simpa using this
  · have := q.2.2
    simpa using this
theorem effM_app {ss tt : List Stp} (hI : ∀ s ∈ ss, Item s.2) : effM (ss ++ tt) = (effM ss).bind fun A => (effM tt).bind (comp A) := by
  unfold effM joinM
  rw [List.map_append, joinF_app]
  cases q : joinF ([], [], 0) (ss.map partM) with
  | none => rfl
  | some A =>
    rw [Option.bind_some, Option.bind_some]
    exact joinF_eff tt A (effM_ok hI q).1.h1
theorem cw_self_left : ∀ (w r : List Str), cw w (w ++ r) = some (r, [])
  | [], r => rfl
  | a :: w, r => by
    rw [List.cons_append, cw, if_pos rfl]
    exact cw_self_left w r
theorem cw_self_right : ∀ (w r : List Str), cw (w ++ r) w = some ([], r)
  | [], r => cw_nil r
  | a :: w, r => by
    rw [List.cons_append, cw, if_pos rfl]
    exact cw_self_right w r
theorem effM_EffOk {ss : List Stp} (hI : ∀ s ∈ ss, Item s.2) (hl : ss.length ≤ 1000) : EffOk (effM ss) := by
  cases h : effM ss with
  | none => exact trivial
  | some o =>
    obtain ⟨x, y, p⟩ := o
    obtain ⟨a, b, c⟩ := effM_ok hI h
    have b' : x.length + y.length ≤ ss.length := b
    have c' : p ≤ ss.length := c
    exact ⟨a.i1, a.i2, by omega, by omega, a.h0, by omega⟩
end SE
namespace SE
open PySem PySem.Spec PyProof.Rows L2
/-! ### named steps, and their parts by name -/
abbrev NSt := Bool × Str × Str
def NStV (K : PySem.W.Frag) (H : Hp) (v : V) (s : NSt) : Prop := ∃ t, v = .ref t ∧ SqT K H t [.str (act s.1), .str s.2.1, .str s.2.2]
abbrev NSV (K : PySem.W.Frag) (H : Hp) : List V → List NSt → Prop := Paired (NStV K H)
structure NOk (s : NSt) : Prop where
  n : Item s.2.1
  i : Item s.2.2
theorem NStV.same {K : PySem.W.Frag} {H H' : Hp} {v : V} {s : NSt} (h : NStV K H v s) (e : Same H H') : NStV K H' v s := by
  obtain ⟨t, q, z⟩ := h
  exact ⟨t, q, Same.tup e z⟩
theorem nsv_same {K : PySem.W.Frag} {H H' : Hp} {vs : List V} {ss : List NSt} (h : NSV K H vs ss) (e : Same H H') : NSV K H' vs ss := Paired.mapP h fun _ _ q => q.same e
abbrev Prts := List (Str × List Stp)
def addP (ps : Prts) (n : Str) (s : Stp) : Prts := if ps.any (fun p => decide (p.1 = n)) = true then ps.map (fun p => if p.1 = n then (p.1, p.2 ++ [s]) else p) else ps ++ [(n, [s])]
def prtM (ss : List NSt) : Prts := ss.foldl (fun ps s => addP ps s.2.1 (s.1, s.2.2)) []
theorem prtM_snoc (ss : List NSt) (s : NSt) : prtM (ss ++ [s]) = addP (prtM ss) s.2.1 (s.1, s.2.2) := by
  unfold prtM
  rw [List.foldl_append]
  rfl
theorem prtM_take {ss : List NSt} {j : Nat} {s : NSt} (h : ss[j]? = some s) : prtM (ss.take (j + 1)) = addP (prtM (ss.take j)) s.2.1 (s.1, s.2.2) := by
  rw [List.take_add_one, h]
  exact prtM_snoc _ _
/-- names that differ, names and items as they may be, few enough -/
structure PrOk (ps : Prts) (m : Nat) : Prop where
  nd : (ps.map (·.1)).Nodup
  ok : ∀ p ∈ ps, Item p.1 ∧ (∀ s ∈ p.2, Item s.2) ∧ p.2.length ≤ m
  len : ps.length ≤ m
theorem addP_fst (ps : Prts) (n : Str) (s : Stp) : (addP ps n s).map (·.1) = if ps.any (fun p => decide (p.1 = n)) = true then ps.map (·.1) else ps.map (·.1) ++ [n] := by
  unfold addP
  split
  · rw [List.map_map]
    refine List.map_congr_left fun p _ => ?_
    show (if p.1 = n then (p.1, p.2 ++ [s]) else p).1 = p.1
    split <;> rfl
  · rw [List.map_append]
    rfl
theorem addP_ok {ps : Prts} {m : Nat} {n : Str} {s : Stp} (h : PrOk ps m) (hn : Item n) (hs : Item s.2) : PrOk (addP ps n s) (m + 1) := by
  refine ⟨?_, fun p mp => ?_, ?_⟩
  · rw [addP_fst]
    split
    · exact h.nd
    · rename_i c
      rw [List.nodup_append]
      refine ⟨h.nd, by simp, fun x mx y my e => c ?_⟩
      rw [List.mem_singleton.mp my] at e
      obtain ⟨p, mp, ep⟩ := List.mem_map.mp mx
      exact List.any_eq_true.mpr ⟨p, mp, decide_eq_true (by rw [ep, e])⟩
  · unfold addP at mp
    split at mp
    · obtain ⟨q, mq, rfl⟩ := List.mem_map.mp mp
      obtain ⟨a, b, c⟩ := h.ok q mq
      split
      · refine ⟨a, fun x mx => ?_, by rw [List.length_append, List.length_singleton]; omega⟩
        rcases List.mem_append.mp mx with z | z
        · exact b x z
        · rw [List.mem_singleton.mp z]; exact hs
      · exact ⟨a, b, by omega⟩
    · rcases List.mem_append.mp mp with z | z
      · obtain ⟨a, b, c⟩ := h.ok p z
        exact ⟨a, b, by omega⟩
      · rw [List.mem_singleton.mp z]
        refine ⟨hn, fun x mx => ?_, by show 1 ≤ m + 1; omega⟩
        rw [List.mem_singleton.mp mx]; exact hs
  · unfold addP
    have := h.len
    split
    · rw [List.length_map]; omega
    · rw [List.length_append, List.length_singleton]; omega
theorem prtM_ok : ∀ {ss : List NSt} (j : Nat), (∀ s ∈ ss, NOk s) → PrOk (prtM (ss.take j)) j
  | _, 0, _ => ⟨by simp [prtM], fun p m => by simp [prtM] at m, by simp [prtM]⟩
  | ss, j + 1, h => by
    have ih := prtM_ok (ss := ss) j h
    cases e : ss[j]? with
    | none =>
      have le := List.getElem?_eq_none_iff.mp e
      rw [List.take_of_length_le (by omega)]
      rw [List.take_of_length_le le] at ih
      exact ⟨ih.nd, fun p m => ⟨(ih.ok p m).1, (ih.ok p m).2.1, by have := (ih.ok p m).2.2; omega⟩, by have := ih.len; omega⟩
    | some s =>
      rw [prtM_take e]
      have q := h s (List.mem_of_getElem? e)
      exact addP_ok ih q.n q.i
/-! ### a dict of lists of steps -/
abbrev Ent := Str × Addr × List Stp
def kvsE (es : List Ent) : List (Key × V) := es.map fun e => (Sum.inr e.1, V.ref e.2.1)
def pE (es : List Ent) : Prts := es.map fun e => (e.1, e.2.2)
def LsE (H : Hp) (es : List Ent) : Prop := ∀ e ∈ es, ∃ us, H e.2.1 = some (.lst us) ∧ StepsH H us e.2.2
theorem stepsH_sm {H H' : Hp} {xs : List V} {ss : List Stp} (h : StepsH H xs ss) (s : Same H H') : StepsH H' xs ss := Paired.mapP h fun _ _ q => by
  obtain ⟨t, e, z⟩ := q
  exact ⟨t, e, s _ _ z⟩
theorem LsE.same {H H' : Hp} {es : List Ent} (h : LsE H es) (s : Same H H') : LsE H' es := fun e m => by
  obtain ⟨us, a, b⟩ := h e m
  exact ⟨us, s _ _ a, stepsH_sm b s⟩
theorem valE (es : List Ent) (n : Str) : valV (kvsE es) (Sum.inr n) = (es.find? fun e => decide (e.1 = n)).map fun e => V.ref e.2.1 := by
  induction es with
  | nil => rfl
  | cons e es ih =>
    by_cases c : e.1 = n
    · rw [List.find?_cons_of_pos (by simpa using c)]
      exact valV_pos (show (Sum.inr e.1 : Key) = Sum.inr n by rw [c])
    · rw [List.find?_cons_of_neg (by simpa using c), ← ih]
      exact valV_neg (fun z => c (Sum.inr.inj z))
/-- one more step at an entry that stands -/
def appE (es : List Ent) (n : Str) (s : Stp) : List Ent := es.map fun e => if e.1 = n then (e.1, e.2.1, e.2.2 ++ [s]) else e
theorem appE_kvs (es : List Ent) (n : Str) (s : Stp) : kvsE (appE es n s) = kvsE es := by
  unfold kvsE appE
  rw [List.map_map]
  refine List.map_congr_left fun e _ => ?_
  show ((Sum.inr (if e.1 = n then (e.1, e.2.1, e.2.2 ++ [s]) else e).1 : Key), V.ref (if e.1 = n then (e.1, e.2.1, e.2.2 ++ [s]) else e).2.1) = _
  split <;> rfl
theorem appE_adr (es : List Ent) (n : Str) (s : Stp) : (appE es n s).map (·.2.1) = es.map (·.2.1) := by
  unfold appE
  rw [List.map_map]
  refine List.map_congr_left fun e _ => ?_
  show (if e.1 = n then (e.1, e.2.1, e.2.2 ++ [s]) else e).2.1 = _
  split <;> rfl
theorem appE_p (es : List Ent) (n : Str) (s : Stp) (h : ∃ e ∈ es, e.1 = n) : pE (appE es n s) = addP (pE es) n s := by
  have a : (pE es).any (fun p => decide (p.1 = n)) = true := by
    obtain ⟨e, m, q⟩ := h
    exact List.any_eq_true.mpr ⟨_, List.mem_map.mpr ⟨e, m, rfl⟩, decide_eq_true q⟩
  unfold addP
  rw [if_pos a]
  unfold pE appE
  rw [List.map_map, List.map_map]
  refine List.map_congr_left fun e _ => ?_
  show ((if e.1 = n then (e.1, e.2.1, e.2.2 ++ [s]) else e).1, (if e.1 = n then (e.1, e.2.1, e.2.2 ++ [s]) else e).2.2) = if e.1 = n then (e.1, e.2.2 ++ [s]) else (e.1, e.2.2)
  split <;> rfl
theorem newE_p (es : List Ent) (n : Str) (s : Stp) (L : Addr) (h : ∀ e ∈ es, e.1 ≠ n) : pE (es ++ [(n, L, [s])]) = addP (pE es) n s := by
  have a : ¬ (pE es).any (fun p => decide (p.1 = n)) = true := fun q => by
    obtain ⟨p, m, q⟩ := List.any_eq_true.mp q
    obtain ⟨e, me, rfl⟩ := List.mem_map.mp m
    exact h e me (of_decide_eq_true q)
  unfold addP
  rw [if_neg a]
  unfold pE
  rw [List.map_append]
  rfl
theorem newE_kvs (es : List Ent) (n : Str) (s : Stp) (L : Addr) (h : ∀ e ∈ es, e.1 ≠ n) : putK (kvsE es) (Sum.inr n) (.ref L) = kvsE (es ++ [(n, L, [s])]) := by
  unfold putK
  rw [if_neg]
  · unfold kvsE
    rw [List.map_append]
    rfl
  · intro q
    obtain ⟨p, m, q⟩ := List.any_eq_true.mp q
    obtain ⟨e, me, rfl⟩ := List.mem_map.mp m
    exact h e me (Sum.inr.inj (of_decide_eq_true q))
theorem find_name {es : List Ent} {n : Str} {e : Ent} (h : es.find? (fun e => decide (e.1 = n)) = some e) : e ∈ es ∧ e.1 = n := ⟨List.mem_of_find?_eq_some h, by
  have := List.find?_some (p := fun e : Ent => decide (e.1 = n)) h
  simpa using this⟩
theorem find_no {es : List Ent} {n : Str} (h : es.find? (fun e => decide (e.1 = n)) = none) : ∀ e ∈ es, e.1 ≠ n := fun e m q => by
  have := List.find?_eq_none.mp h e m
  exact this (decide_eq_true q)
section
variable {P : Program} {w : World} {K : PySem.W.Frag} {mg : Str → Option Value} {base : Heap}
/-! ### is_named_step, check_named_steps -/
def spIsN (K : PySem.W.Frag) : Sp := fun xs H Q _ => ∃ (v : V) (s : NSt), xs = [v] ∧ NStV K H v s ∧ NOk s ∧ ∀ H', Same H H' → Q (.bl true) H'
theorem scIn' : FnScope ["value", "action", "name", "item"] ["value"] (defScope sIsNamedStep) := ⟨rfl, rfl, rfl, by decide +kernel, rfl, by decide +kernel, by decide +kernel⟩
theorem has_isN (D : Def K mg "is_named_step" sIsNamedStep) (GI : Has P w K mg base "is_item" 1 ["value"] [] spIsItem) (GS : Has P w K mg base "is_step" 2 ["value"] [] (spIsStep K)) (B : Blt mg) : Has P w K mg base "is_named_step" 3 ["value"] [] (spIsN K) := by
  refine has_of D scIn' (fun _ _ _ _ _ _ us hl => match us, hl with | [_], _ => rfl) (fun xs H Q E h => ?_) (fun f cv A out s H xs Q E hr h => ?_)
  · obtain ⟨v, s, rfl, _⟩ := h
    rfl
  · obtain ⟨v, s, rfl, ⟨t, rfl, hT⟩, ok, k⟩ := h
    have hr1 : Room 1 _ := hr.mono (by decide)
    refine ⟨_, pss_cons (ps_if (PW.pt (pw_or (pt_not (pt_val (pe_callB call_isi (by rfl) B.isi (by decide +kernel) (pa_cons (pv 0) (pa_cons (pe_bltn (v := .ty "tuple") (by rfl) B.tup (by decide +kernel) rfl) pa_nil)))))
        (pw_or1 (pt_cmpR op_ne (pe_callB call_len_seq (by rfl) B.len PySem.boot_len (pa_cons (pv 0) pa_nil)) pe_int (nomark _))))) (pss_one (ps_ret pe_bl)) pss_nil)
      (pss_cons (ps_asg (pv 0) (pg_tup (by rfl) (pgs_cons (pg_name (i := 1) scIn'.nd rfl (.inl rfl)) (pgs_cons (pg_name (i := 2) scIn'.nd rfl (.inl rfl)) (pgs_cons (pg_name (i := 3) scIn'.nd rfl (.inl rfl)) pgs_nil)))))
      (pss_one (ps_ret (pe_and (pe_has GI hr1 (pa_cons (pv 2) pa_nil)) (pe_one (pe_has GS hr (pa_cons (pe_tup (pa_cons (pv 1) (pa_cons (pv 3) pa_nil))) pa_nil))))))), ?_⟩
    refine ⟨_, rfl, _, .ty "tuple", .type "tuple", .type "tuple", true, rfl, .ty _, ty_tup hT, kit_ty (by decide +kernel), true, rfl, iteF ?_⟩
    refine ⟨_, rfl, t, _, rfl, .inr hT, rfl, _, rfl, iteF ?_⟩
    refine ⟨_, rfl, t, _, rfl, hT, rfl, _, _, rfl, _, _, rfl, _, _, rfl, rfl, ?_⟩
    refine ⟨_, rfl, s.2.1, rfl, ok.n, fun H1 s1 => ⟨true, rfl, iteT ⟨_, rfl, _, rfl, (by show 2 ≤ sizeLine; decide), fun u hu => ⟨.ref u, (s.1, s.2.2), rfl, ⟨u, rfl, .of upd_same⟩, ok.i, fun H2 s2 => k H2 ((s1.trans (Same.new hu)).trans s2)⟩⟩⟩⟩
def spChkN (K : PySem.W.Frag) : Sp := fun xs H Q _ => ∃ (a : Addr) (ys : List V) (ss : List NSt), xs = [.ref a] ∧ (SqL K H a ys ∨ SqT K H a ys) ∧ ys.length ≤ 1000 ∧ NSV K H ys ss ∧ (∀ s ∈ ss, NOk s) ∧ ∀ H', Same H H' → Q .non H'
theorem scCn : FnScope ["steps", "index", "step"] ["steps"] (defScope sCheckNamedSteps) := ⟨rfl, rfl, rfl, by decide +kernel, rfl, by decide +kernel, by decide +kernel⟩
theorem has_chkN (D : Def K mg "check_named_steps" sCheckNamedSteps) (GM : Has P w K mg base "may_hold_steps" 1 ["value"] [] (spMay K)) (GS : Has P w K mg base "is_named_step" 3 ["value"] [] (spIsN K)) (B : Blt mg) : Has P w K mg base "check_named_steps" 4 ["steps"] [] (spChkN K) := by
  refine has_of D scCn (fun _ _ _ _ _ _ us hl => match us, hl with | [_], _ => rfl) (fun xs H Q E h => ?_) (fun f cv A out s H xs Q E hr h => ?_)
  · obtain ⟨a, ys, ss, rfl, _⟩ := h
    rfl
  · obtain ⟨a, ys, ss, rfl, hS, hl, hV, hI, k⟩ := h
    have hr1 : Room 1 _ := hr.mono (by decide)
    have one : ∀ {i : Nat} {y : V} {H2 : Hp}, ys[i]? = some y → Same H H2 → ∃ s, NStV K H2 y s ∧ NOk s := by
      intro i y H2 hy s2
      obtain ⟨st, h1, h2⟩ := paired_at hV hy
      exact ⟨st, h2.same s2, hI st (List.mem_of_getElem? h1)⟩
    rcases hS with hS | hS
    · refine ⟨_, pss_cons (ps_if (pt_not (pt_val (pe_has GM hr1 (pa_cons (pv 0) pa_nil)))) pss_never pss_nil)
        (pss_one (ps_for PassesOwn.never rfl (pi_enum (by rfl) B.enu (pa_cons (pv 0) pa_nil)) (pg_tup (by rfl) (pgs_cons (pg_name (i := 1) scCn.nd rfl (.inl rfl)) (pgs_cons (pg_name (i := 2) scCn.nd rfl (.inl rfl)) pgs_nil)))
          (pss_one (ps_if (pt_not (pt_val (pe_has GS hr (pa_cons (pv 2) pa_nil)))) pss_never pss_nil)))), ?_⟩
      refine ⟨_, rfl, a, ys, rfl, .inl hS, hl, fun H1 s1 => ⟨true, rfl, iteF ?_⟩⟩
      refine ⟨_, rfl, a, ys, rfl, Same.seq s1 hS, for_it (walk_enum (K := K) (a := a) (xs := ys)) (fun i σ H2 => ∃ y1 y2, σ = [some (.ref a), y1, y2] ∧ Same H H2) ⟨none, none, rfl, s1⟩ (fun i σ H2 _ q => ?_) ?_ ?_⟩
      · obtain ⟨_, _, _, s2⟩ := q
        exact Same.seq s2 hS
      · rintro i x σ H2 H3 hi ⟨y1, y2, rfl, s2⟩ ⟨T, p, y, rfl, nT, rfl, hp, hy⟩
        refine ⟨T, _, rfl, .of upd_same, rfl, _, _, rfl, _, _, rfl, rfl, ?_⟩
        have s3 : Same H (upd H2 T (.tup [p, y])) := Same.free2 s2 (s2.free nT)
        obtain ⟨st, h1, h2⟩ := one hy s3
        exact ⟨_, rfl, y, st, rfl, h1, h2, fun H4 s4 => ⟨true, rfl, iteF ⟨_, _, rfl, s3.trans s4⟩⟩⟩
      · rintro σ H2 ⟨y1, y2, rfl, s2⟩
        exact k H2 s2
    · refine ⟨_, pss_cons (ps_if (pt_not (pt_val (pe_has GM hr1 (pa_cons (pv 0) pa_nil)))) pss_never pss_nil)
        (pss_one (ps_for PassesOwn.never rfl (pi_enumT (by rfl) B.enu (pa_cons (pv 0) pa_nil)) (pg_tup (by rfl) (pgs_cons (pg_name (i := 1) scCn.nd rfl (.inl rfl)) (pgs_cons (pg_name (i := 2) scCn.nd rfl (.inl rfl)) pgs_nil)))
          (pss_one (ps_if (pt_not (pt_val (pe_has GS hr (pa_cons (pv 2) pa_nil)))) pss_never pss_nil)))), ?_⟩
      refine ⟨_, rfl, a, ys, rfl, .inr hS, hl, fun H1 s1 => ⟨true, rfl, iteF ?_⟩⟩
      refine ⟨_, rfl, a, ys, rfl, Same.tup s1 hS, for_it (walk_enumT (K := K) (a := a) (xs := ys)) (fun i σ H2 => ∃ y1 y2, σ = [some (.ref a), y1, y2] ∧ Same H H2) ⟨none, none, rfl, s1⟩ (fun i σ H2 _ q => ?_) ?_ ?_⟩
      · obtain ⟨_, _, _, s2⟩ := q
        exact Same.tup s2 hS
      · rintro i x σ H2 H3 hi ⟨y1, y2, rfl, s2⟩ ⟨T, p, y, rfl, nT, rfl, hp, hy⟩
        refine ⟨T, _, rfl, .of upd_same, rfl, _, _, rfl, _, _, rfl, rfl, ?_⟩
        have s3 : Same H (upd H2 T (.tup [p, y])) := Same.free2 s2 (s2.free nT)
        obtain ⟨st, h1, h2⟩ := one hy s3
        exact ⟨_, rfl, y, st, rfl, h1, h2, fun H4 s4 => ⟨true, rfl, iteF ⟨_, _, rfl, s3.trans s4⟩⟩⟩
      · rintro σ H2 ⟨y1, y2, rfl, s2⟩
        exact k H2 s2
end
end SE
namespace SE
open PySem PySem.Spec PyProof.Rows L2
/-- a dict from names to lists of steps -/
structure PD (H : Hp) (d : Addr) (es : List Ent) : Prop where
  at_ : H d = some (.dK (kvsE es))
  nd : (es.map (·.2.1)).Nodup
  ls : LsE H es
theorem pE_fst (es : List Ent) : (pE es).map (·.1) = es.map (·.1) := by
  unfold pE
  rw [List.map_map]
  rfl
/-- one step more, at an entry or at a new one; U: the list that is made for it -/
theorem PD.add {H : Hp} {d U t : Addr} {es : List Ent} {n : Str} {s : Stp} (h : PD H d es) (kn : ((pE es).map (·.1)).Nodup) (hU : H U = some (.lst [])) (nU : ∀ e ∈ es, e.2.1 ≠ U) (ht : H t = some (.tup [.str (act s.1), .str s.2])) :
    (∃ L us, valV (kvsE es) (Sum.inr n) = some (.ref L) ∧ H L = some (.lst us) ∧ us.length ≤ ((es.find? fun e => decide (e.1 = n)).map fun e => e.2.2.length).getD 0 ∧ ∃ es', PD (upd H L (.lst (us ++ [.ref t]))) d es' ∧ pE es' = addP (pE es) n s ∧ ∀ e ∈ es', ∃ e0 ∈ es, e.2.1 = e0.2.1) ∨
    (valV (kvsE es) (Sum.inr n) = none ∧ ∃ es', PD (upd (upd H d (.dK (putK (kvsE es) (Sum.inr n) (.ref U)))) U (.lst [.ref t])) d es' ∧ pE es' = addP (pE es) n s ∧ ∀ e ∈ es', e.2.1 = U ∨ ∃ e0 ∈ es, e.2.1 = e0.2.1) := by
  have td : t ≠ d := fun q => by rw [q, h.at_] at ht; cases ht
  cases hf : es.find? fun e => decide (e.1 = n) with
  | some e =>
    obtain ⟨em, en⟩ := find_name hf
    obtain ⟨us, hL, hs⟩ := h.ls e em
    have tL : t ≠ e.2.1 := fun q => by rw [q, hL] at ht; cases ht
    have dL : d ≠ e.2.1 := fun q => by rw [← q, h.at_] at hL; cases hL
    refine .inl ⟨e.2.1, us, by rw [valE, hf]; rfl, hL, ?_, appE es n s, ⟨?_, ?_, ?_⟩, appE_p es n s ⟨e, em, en⟩, fun x mx => ?_⟩
    · rw [Option.map_some, Option.getD_some]
      exact Nat.le_of_eq (Paired.length hs)
    · rw [upd_ne dL, appE_kvs]
      exact h.at_
    · rw [appE_adr]
      exact h.nd
    · intro x mx
      obtain ⟨y, my, rfl⟩ := List.mem_map.mp mx
      obtain ⟨vs, hy, hys⟩ := h.ls y my
      -- the tuples of an entry stay
      have keep : ∀ {xs : List V} {ss : List Stp}, StepsH H xs ss → StepsH (upd H e.2.1 (.lst (us ++ [.ref t]))) xs ss := fun q => Paired.mapP q fun _ _ z => by
        obtain ⟨u, eu, z⟩ := z
        exact ⟨u, eu, by rw [upd_ne (fun w => by rw [w, hL] at z; cases z)]; exact z⟩
      by_cases c : y.1 = n
      · have ey : y = e := by
          have inj : ∀ {l : List Ent}, ((pE l).map (·.1)).Nodup → ∀ a ∈ l, ∀ b ∈ l, a.1 = b.1 → a = b := by
            intro l
            induction l with
            | nil => intro _ a m; cases m
            | cons z l ih =>
              intro nd a ma b mb q
              rw [pE_fst, List.map_cons, List.nodup_cons] at nd
              rcases List.mem_cons.mp ma with rfl | ma'
              · rcases List.mem_cons.mp mb with rfl | mb'
                · rfl
                · exact absurd (List.mem_map.mpr ⟨b, mb', q.symm⟩) nd.1
              · rcases List.mem_cons.mp mb with rfl | mb'
                · exact absurd (List.mem_map.mpr ⟨a, ma', q⟩) nd.1
                · exact ih (by rw [pE_fst]; exact nd.2) a ma' b mb' q
          exact inj kn y my e em (c.trans en.symm)
        subst ey
        show ∃ us', (upd H y.2.1 _) (if y.1 = n then (y.1, y.2.1, y.2.2 ++ [s]) else y).2.1 = some (.lst us') ∧ StepsH _ us' (if y.1 = n then (y.1, y.2.1, y.2.2 ++ [s]) else y).2.2
        rw [if_pos c]
        exact ⟨_, upd_same, Paired.snoc2 (keep hs) ⟨t, rfl, by rw [upd_ne tL]; exact ht⟩⟩
      · show ∃ us', (upd H e.2.1 _) (if y.1 = n then (y.1, y.2.1, y.2.2 ++ [s]) else y).2.1 = some (.lst us') ∧ StepsH _ us' (if y.1 = n then (y.1, y.2.1, y.2.2 ++ [s]) else y).2.2
        rw [if_neg c]
        have ne : y.2.1 ≠ e.2.1 := by
          intro q
          have inj2 : ∀ {l : List Ent}, (l.map (·.2.1)).Nodup → ∀ a ∈ l, ∀ b ∈ l, a.2.1 = b.2.1 → a = b := by
            intro l
            induction l with
            | nil => intro _ a m; cases m
            | cons z l ih =>
              intro nd a ma b mb q
              rw [List.map_cons, List.nodup_cons] at nd
              rcases List.mem_cons.mp ma with rfl | ma'
              · rcases List.mem_cons.mp mb with rfl | mb'
                · rfl
                · exact absurd (List.mem_map.mpr ⟨b, mb', q.symm⟩) nd.1
              · rcases List.mem_cons.mp mb with rfl | mb'
                · exact absurd (List.mem_map.mpr ⟨a, ma', q⟩) nd.1
                · exact ih nd.2 a ma' b mb' q
          exact c (by rw [inj2 h.nd y my e em q]; exact en)
        exact ⟨vs, by rw [upd_ne ne]; exact hy, keep hys⟩
    · obtain ⟨y, my, rfl⟩ := List.mem_map.mp mx
      refine ⟨y, my, ?_⟩
      show (if y.1 = n then (y.1, y.2.1, y.2.2 ++ [s]) else y).2.1 = _
      split <;> rfl
  | none =>
    have no := find_no hf
    have dU : d ≠ U := fun q => by rw [← q, h.at_] at hU; cases hU
    have tU : t ≠ U := fun q => by rw [q, hU] at ht; cases ht
    refine .inr ⟨by rw [valE, hf]; rfl, es ++ [(n, U, [s])], ⟨?_, ?_, ?_⟩, newE_p es n s U no, fun x mx => ?_⟩
    · rw [upd_ne dU, upd_same, newE_kvs es n s U no]
    · rw [List.map_append, List.nodup_append]
      refine ⟨h.nd, by simp, fun x mx y my e => ?_⟩
      have ey : y = U := by simpa using my
      obtain ⟨z, mz, ez⟩ := List.mem_map.mp mx
      exact nU z mz (ez.trans (e.trans ey))
    · intro x mx
      rcases List.mem_append.mp mx with q | q
      · obtain ⟨vs, hy, hys⟩ := h.ls x q
        have xd : x.2.1 ≠ d := fun w => by rw [w, h.at_] at hy; cases hy
        refine ⟨vs, by rw [upd_ne (nU x q), upd_ne xd]; exact hy, Paired.mapP hys fun _ _ z => ?_⟩
        obtain ⟨u, eu, z⟩ := z
        exact ⟨u, eu, by rw [upd_ne (fun w => by rw [w, hU] at z; cases z), upd_ne (fun w => by rw [w, h.at_] at z; cases z)]; exact z⟩
      · rw [List.mem_singleton.mp q]
        exact ⟨_, upd_same, .cons ⟨t, rfl, by rw [upd_ne tU, upd_ne td]; exact ht⟩ .nil⟩
    · rcases List.mem_append.mp mx with q | q
      · exact .inr ⟨x, q, rfl⟩
      · rw [List.mem_singleton.mp q]
        exact .inl rfl
theorem upd_comm {H : Hp} {a b : Addr} {x y : HO} (h : b ≠ a) : upd (upd H a x) b y = upd (upd H b y) a x := by
  funext c
  by_cases e : c = a
  · subst e
    rw [upd_ne (Ne.symm h), upd_same, upd_same]
  · rw [upd_ne (a := a) e]
    by_cases e2 : c = b
    · subst e2
      rw [upd_same, upd_same]
    · rw [upd_ne e2, upd_ne e2, upd_ne e]
theorem hu_of {k : Nat} {A : Around} (hr : Room k A) : A.units + 1 < cLine := by
  have := hr.un
  omega
section
variable {P : Program} {w : World} {K : PySem.W.Frag} {mg : Str → Option Value} {base : Heap}
/-! ### split -/
def spSplit (K : PySem.W.Frag) : Sp := fun xs H Q _ => ∃ (a : Addr) (ys : List V) (ss : List NSt), xs = [.ref a] ∧ (SqL K H a ys ∨ SqT K H a ys) ∧ ys.length ≤ 1000 ∧ NSV K H ys ss ∧ (∀ s ∈ ss, NOk s) ∧
  ∀ (d : Addr) (es : List Ent) (H' : Hp), Same H H' → H d = none → PD H' d es → pE es = prtM ss → (∀ e ∈ es, H e.2.1 = none) → Q (.ref d) H'
abbrev nSp : List Str := ["steps", "found", "action", "name", "item"]
theorem scSp' : FnScope nSp ["steps"] (defScope sSplit) := ⟨rfl, rfl, rfl, by decide +kernel, rfl, by decide +kernel, by decide +kernel⟩
theorem has_split (D : Def K mg "split" sSplit) (GC : Has P w K mg base "check_named_steps" 4 ["steps"] [] (spChkN K)) : Has P w K mg base "split" 5 ["steps"] [] (spSplit K) := by
  refine has_of D scSp' (fun _ _ _ _ _ _ us hl => match us, hl with | [_], _ => rfl) (fun xs H Q E h => ?_) (fun f cv A out s H xs Q E hr h => ?_)
  · obtain ⟨a, ys, ss, rfl, _⟩ := h
    rfl
  · obtain ⟨a, ys, ss, rfl, hS, hl, hV, hI, k⟩ := h
    have hu := hu_of hr
    have ly : ys.length = ss.length := Paired.length hV
    -- a turn
    have go : ∀ {j : Nat} {x : V} {H2 : Hp} {d : Addr} {es : List Ent}, H d = none → ys[j]? = some x → Same H H2 → PD H2 d es → pE es = prtM (ss.take j) → (∀ e ∈ es, H e.2.1 = none) → ∃ (t : Addr) (s : NSt), x = .ref t ∧ SqT K H2 t [.str (act s.1), .str s.2.1, .str s.2.2] ∧
        ∀ (U : Addr), H2 U = none → (kvsE es).length < sizeLine ∧
          (∀ v, valV (kvsE es) (Sum.inr s.2.1) = some v → ∃ L us, v = .ref L ∧ (upd H2 U (.lst [])) L = some (.lst us) ∧ ∀ t', (upd H2 U (.lst [])) t' = none → us.length < sizeLine ∧ (upd (upd H2 U (.lst [])) t' (.tup [.str (act s.1), .str s.2.2])) L = some (.lst us) ∧
            ∃ es', PD (upd (upd (upd H2 U (.lst [])) t' (.tup [.str (act s.1), .str s.2.2])) L (.lst (us ++ [.ref t']))) d es' ∧ pE es' = prtM (ss.take (j + 1)) ∧ (∀ e ∈ es', H e.2.1 = none) ∧ Same H (upd (upd (upd H2 U (.lst [])) t' (.tup [.str (act s.1), .str s.2.2])) L (.lst (us ++ [.ref t'])))) ∧
          (valV (kvsE es) (Sum.inr s.2.1) = none → ∀ t', (upd (upd H2 U (.lst [])) d (.dK (putK (kvsE es) (Sum.inr s.2.1) (.ref U)))) t' = none → (upd (upd (upd H2 U (.lst [])) d (.dK (putK (kvsE es) (Sum.inr s.2.1) (.ref U)))) t' (.tup [.str (act s.1), .str s.2.2])) U = some (.lst []) ∧
            ∃ es', PD (upd (upd (upd (upd H2 U (.lst [])) d (.dK (putK (kvsE es) (Sum.inr s.2.1) (.ref U)))) t' (.tup [.str (act s.1), .str s.2.2])) U (.lst ([] ++ [.ref t']))) d es' ∧ pE es' = prtM (ss.take (j + 1)) ∧ (∀ e ∈ es', H e.2.1 = none) ∧
              Same H (upd (upd (upd (upd H2 U (.lst [])) d (.dK (putK (kvsE es) (Sum.inr s.2.1) (.ref U)))) t' (.tup [.str (act s.1), .str s.2.2])) U (.lst ([] ++ [.ref t'])))) := by
      intro j x H2 d es hd hj s2 pd pe fr
      obtain ⟨st, h1, t, e, h2⟩ := paired_at hV hj
      have pok := prtM_ok (ss := ss) j hI
      rw [← pe] at pok
      have jl := (List.getElem?_eq_some_iff.mp hj).1
      have dn2 : H2 d = some (.dK (kvsE es)) := pd.at_
      refine ⟨t, st, e, Same.tup s2 h2, fun U hU => ⟨?_, fun v hv => ?_, fun hv t' ht' => ?_⟩⟩
      · have q := pok.len
        unfold pE at q
        rw [List.length_map] at q
        unfold kvsE
        rw [List.length_map, sizeLine_eq]
        omega
      · have sU : Same H2 (upd H2 U (.lst [])) := Same.new hU
        have pd1 : PD (upd H2 U (.lst [])) d es := ⟨sU _ _ pd.at_, pd.nd, pd.ls.same sU⟩
        have nU : ∀ e ∈ es, e.2.1 ≠ U := fun e m q => by
          obtain ⟨us, a, _⟩ := pd.ls e m
          rw [q, hU] at a
          cases a
        rw [valE] at hv
        cases hf : es.find? (fun e => decide (e.1 = st.2.1)) with
        | none => rw [hf] at hv; cases hv
        | some e =>
          rw [hf] at hv
          cases hv
          obtain ⟨em, en⟩ := find_name hf
          obtain ⟨us, hL, hs⟩ := pd1.ls e em
          refine ⟨e.2.1, us, rfl, hL, fun t' ht' => ?_⟩
          have sT : Same (upd H2 U (.lst [])) (upd (upd H2 U (.lst [])) t' (.tup [.str (act st.1), .str st.2.2])) := Same.new ht'
          have pd2 : PD (upd (upd H2 U (.lst [])) t' (.tup [.str (act st.1), .str st.2.2])) d es := ⟨sT _ _ pd1.at_, pd.nd, pd1.ls.same sT⟩
          refine ⟨?_, sT _ _ hL, ?_⟩
          · have q := (pok.ok (e.1, e.2.2) (List.mem_map.mpr ⟨e, em, rfl⟩)).2.2
            have q2 : us.length = e.2.2.length := Paired.length hs
            rw [sizeLine_eq]
            have q3 : e.2.2.length ≤ j := q
            omega
          · rcases pd2.add (n := st.2.1) (s := (st.1, st.2.2)) (t := t') pok.nd (sT _ _ upd_same) nU upd_same with ⟨L, us', q1, q2, q3, es', q4, q5, q6⟩ | ⟨q1, _⟩
            · rw [valE, hf] at q1
              have eL : e.2.1 = L := V.ref.inj (Option.some.inj q1)
              subst eL
              rw [sT _ _ hL] at q2
              have eu : us = us' := HO.lst.inj (Option.some.inj q2)
              subst eu
              refine ⟨es', q4, by rw [q5, prtM_take h1, pe], fun x mx => ?_, ?_⟩
              · obtain ⟨e0, m0, z⟩ := q6 x mx
                rw [z]
                exact fr e0 m0
              · exact Same.free2 (s2.trans (sU.trans sT)) (fr e em)
            · rw [valE, hf] at q1
              cases q1
      · have sU : Same H2 (upd H2 U (.lst [])) := Same.new hU
        have nU : ∀ e ∈ es, e.2.1 ≠ U := fun e m q => by
          obtain ⟨us, a, _⟩ := pd.ls e m
          rw [q, hU] at a
          cases a
        have dU : d ≠ U := fun q => by rw [q, hU] at dn2; cases dn2
        have td : t' ≠ d := fun q => by rw [q, upd_same] at ht'; cases ht'
        have tU : t' ≠ U := fun q => by rw [q, upd_ne (Ne.symm dU), upd_same] at ht'; cases ht'
        have ht2 : (upd H2 U (.lst [])) t' = none := by
          rw [upd_ne td] at ht'
          exact ht'
        have sT : Same (upd H2 U (.lst [])) (upd (upd H2 U (.lst [])) t' (.tup [.str (act st.1), .str st.2.2])) := Same.new ht2
        have pd2 : PD (upd (upd H2 U (.lst [])) t' (.tup [.str (act st.1), .str st.2.2])) d es := ⟨sT _ _ (sU _ _ pd.at_), pd.nd, (pd.ls.same sU).same sT⟩
        refine ⟨by rw [upd_ne (Ne.symm tU), upd_ne (Ne.symm dU)]; exact upd_same, ?_⟩
        rcases pd2.add (n := st.2.1) (s := (st.1, st.2.2)) (t := t') pok.nd (sT _ _ upd_same) nU upd_same with ⟨L, us', q1, _⟩ | ⟨q1, es', q4, q5, q6⟩
        · rw [hv] at q1
          cases q1
        · have ec : upd (upd (upd H2 U (.lst [])) d (.dK (putK (kvsE es) (Sum.inr st.2.1) (.ref U)))) t' (.tup [.str (act st.1), .str st.2.2]) = upd (upd (upd H2 U (.lst [])) t' (.tup [.str (act st.1), .str st.2.2])) d (.dK (putK (kvsE es) (Sum.inr st.2.1) (.ref U))) := upd_comm td
          rw [ec]
          refine ⟨es', q4, by rw [q5, prtM_take h1, pe], fun x mx => ?_, ?_⟩
          · rcases q6 x mx with z | ⟨e0, m0, z⟩
            · rw [z]
              exact s2.free hU
            · rw [z]
              exact fr e0 m0
          · exact Same.free2 (Same.free2 (s2.trans (sU.trans sT)) hd) (s2.free hU)
    have pd0 : ∀ {H1 : Hp} {d : Addr}, PD (upd H1 d (.dK [])) d [] := ⟨upd_same, by simp, fun e m => by cases m⟩
    rcases hS with hS | hS
    · refine ⟨_, pss_cons (ps_expr (pe_has GC hr (pa_cons (pv 0) pa_nil)))
        (pss_cons (ps_set (i := 1) scSp'.nd rfl (.inl rfl) pe_dnewK)
        (pss_cons (ps_for PassesOwn.never rfl (pi_list (pv 0)) (pg_tup (by rfl) (pgs_cons (pg_name (i := 2) scSp'.nd rfl (.inl rfl)) (pgs_cons (pg_name (i := 3) scSp'.nd rfl (.inl rfl)) (pgs_cons (pg_name (i := 4) scSp'.nd rfl (.inl rfl)) pgs_nil))))
          (pss_one (ps_expr (pe_bm PySem.F.plainAttrs_list PySem.F.slot_list_append PySem.F.type_list_append mt_append (pe_dsetd (pv 1) (pv 3) (pe_lst pa_nil) ⟨rfl, rfl, rfl, rfl⟩) (pa_cons (pe_tup (pa_cons (pv 2) (pa_cons (pv 4) pa_nil))) pa_nil)))))
        (pss_one (ps_ret (pv 1))))), ?_⟩
      refine ⟨_, rfl, a, ys, ss, rfl, .inl hS, hl, hV, hI, fun H1 s1 => fun d hd => ?_⟩
      have hd0 : H d = none := s1.free hd
      have sd : Same H1 (upd H1 d (.dK [])) := Same.new hd
      refine ⟨_, rfl, a, rfl, ⟨_, Same.seq (s1.trans sd) hS⟩, for_list (K := K) (a := a) (xs := ys) (fun j σ H2 => ∃ (es : List Ent) (y2 y3 y4 : Option V), σ = [some (.ref a), some (.ref d), y2, y3, y4] ∧ PD H2 d es ∧ pE es = prtM (ss.take j) ∧ (∀ e ∈ es, H e.2.1 = none) ∧ Same H H2) ⟨[], _, _, _, rfl, pd0, rfl, fun e m => (by cases m), s1.trans sd⟩ (fun j σ H2 _ q => ?_) ?_ ?_⟩
      · obtain ⟨_, _, _, _, _, _, _, _, s2⟩ := q
        exact Same.seq s2 hS
      · rintro j x σ H2 hj ⟨es, y2, y3, y4, rfl, pd, pe, fr, s2⟩
        obtain ⟨t, st, rfl, hT, q⟩ := go hd0 hj s2 pd pe fr
        refine ⟨t, _, rfl, hT, rfl, _, _, rfl, _, _, rfl, _, _, rfl, rfl, ?_⟩
        refine ⟨_, rfl, d, rfl, .inl ⟨_, .inl pd.at_⟩, _, rfl, (by show 0 ≤ sizeLine; decide), fun U hU => ?_⟩
        obtain ⟨q1, q2, q3⟩ := q U hU
        refine ⟨kvsE es, Sum.inr st.2.1, Same.new hU _ _ pd.at_, rfl, q1, fun v hv => ?_, fun hv => ?_⟩
        · obtain ⟨L, us, rfl, hL, q4⟩ := q2 v hv
          refine ⟨.inl ⟨rfl, _, .of hL⟩, _, rfl, _, rfl, (by show 2 ≤ sizeLine; decide), fun t' ht' => ?_⟩
          obtain ⟨q5, q6, es', z1, z2, z3, z4⟩ := q4 t' ht'
          exact ⟨L, us, .ref t', rfl, rfl, q6, q5, es', _, _, _, rfl, z1, z2, z3, z4⟩
        · have dU : d ≠ U := fun q => by rw [← q, pd.at_] at hU; cases hU
          refine ⟨.inl ⟨rfl, _, .of (by rw [upd_ne (Ne.symm dU)]; exact upd_same)⟩, _, rfl, _, rfl, (by show 2 ≤ sizeLine; decide), fun t' ht' => ?_⟩
          obtain ⟨q6, es', z1, z2, z3, z4⟩ := q3 hv t' ht'
          exact ⟨U, [], .ref t', rfl, rfl, q6, (by show 0 < sizeLine; decide), es', _, _, _, rfl, z1, z2, z3, z4⟩
      · rintro σ H2 ⟨es, y2, y3, y4, rfl, pd, pe, fr, s2⟩
        rw [ly, List.take_length] at pe
        exact ⟨_, rfl, k d es H2 s2 hd0 pd pe fr⟩
    · refine ⟨_, pss_cons (ps_expr (pe_has GC hr (pa_cons (pv 0) pa_nil)))
        (pss_cons (ps_set (i := 1) scSp'.nd rfl (.inl rfl) pe_dnewK)
        (pss_cons (ps_for PassesOwn.never rfl (pi_tup (pv 0)) (pg_tup (by rfl) (pgs_cons (pg_name (i := 2) scSp'.nd rfl (.inl rfl)) (pgs_cons (pg_name (i := 3) scSp'.nd rfl (.inl rfl)) (pgs_cons (pg_name (i := 4) scSp'.nd rfl (.inl rfl)) pgs_nil))))
          (pss_one (ps_expr (pe_bm PySem.F.plainAttrs_list PySem.F.slot_list_append PySem.F.type_list_append mt_append (pe_dsetd (pv 1) (pv 3) (pe_lst pa_nil) ⟨rfl, rfl, rfl, rfl⟩) (pa_cons (pe_tup (pa_cons (pv 2) (pa_cons (pv 4) pa_nil))) pa_nil)))))
        (pss_one (ps_ret (pv 1))))), ?_⟩
      refine ⟨_, rfl, a, ys, ss, rfl, .inr hS, hl, hV, hI, fun H1 s1 => fun d hd => ?_⟩
      have hd0 : H d = none := s1.free hd
      have sd : Same H1 (upd H1 d (.dK [])) := Same.new hd
      refine ⟨_, rfl, a, rfl, ⟨_, Same.tup (s1.trans sd) hS⟩, for_tup (K := K) (a := a) (xs := ys) (fun j σ H2 => ∃ (es : List Ent) (y2 y3 y4 : Option V), σ = [some (.ref a), some (.ref d), y2, y3, y4] ∧ PD H2 d es ∧ pE es = prtM (ss.take j) ∧ (∀ e ∈ es, H e.2.1 = none) ∧ Same H H2) ⟨[], _, _, _, rfl, pd0, rfl, fun e m => (by cases m), s1.trans sd⟩ (fun j σ H2 _ q => ?_) ?_ ?_⟩
      · obtain ⟨_, _, _, _, _, _, _, _, s2⟩ := q
        exact Same.tup s2 hS
      · rintro j x σ H2 hj ⟨es, y2, y3, y4, rfl, pd, pe, fr, s2⟩
        obtain ⟨t, st, rfl, hT, q⟩ := go hd0 hj s2 pd pe fr
        refine ⟨t, _, rfl, hT, rfl, _, _, rfl, _, _, rfl, _, _, rfl, rfl, ?_⟩
        refine ⟨_, rfl, d, rfl, .inl ⟨_, .inl pd.at_⟩, _, rfl, (by show 0 ≤ sizeLine; decide), fun U hU => ?_⟩
        obtain ⟨q1, q2, q3⟩ := q U hU
        refine ⟨kvsE es, Sum.inr st.2.1, Same.new hU _ _ pd.at_, rfl, q1, fun v hv => ?_, fun hv => ?_⟩
        · obtain ⟨L, us, rfl, hL, q4⟩ := q2 v hv
          refine ⟨.inl ⟨rfl, _, .of hL⟩, _, rfl, _, rfl, (by show 2 ≤ sizeLine; decide), fun t' ht' => ?_⟩
          obtain ⟨q5, q6, es', z1, z2, z3, z4⟩ := q4 t' ht'
          exact ⟨L, us, .ref t', rfl, rfl, q6, q5, es', _, _, _, rfl, z1, z2, z3, z4⟩
        · have dU : d ≠ U := fun q => by rw [← q, pd.at_] at hU; cases hU
          refine ⟨.inl ⟨rfl, _, .of (by rw [upd_ne (Ne.symm dU)]; exact upd_same)⟩, _, rfl, _, rfl, (by show 2 ≤ sizeLine; decide), fun t' ht' => ?_⟩
          obtain ⟨q6, es', z1, z2, z3, z4⟩ := q3 hv t' ht'
          exact ⟨U, [], .ref t', rfl, rfl, q6, (by show 0 < sizeLine; decide), es', _, _, _, rfl, z1, z2, z3, z4⟩
      · rintro σ H2 ⟨es, y2, y3, y4, rfl, pd, pe, fr, s2⟩
        rw [ly, List.take_length] at pe
        exact ⟨_, rfl, k d es H2 s2 hd0 pd pe fr⟩
end
end SE
/-! Dicts: a comprehension over any walk; a value that is locked for good. -/
namespace SE
open PySem PySem.Spec PyProof.Rows L2
section
variable {J : It} {n : Nat} {G : Hp → Prop} {Y : Nat → Hp → V → Hp → Prop}
theorem dc_it (w : Walk J n G Y) {g : TG} {tt : TT} {tk tv : TE} {vs : List Nat} {σ : L2.St} {H1 : Hp} {D : Addr} {Qd : Hp → Prop} (Pv : Nat → Hp → Prop) (h0 : Pv 0 (upd H1 D (.dK []))) (hG : ∀ i H, i ≤ n → Pv i H → G H)
    (hs : ∀ i x H H', i < n → Pv i H → Y i H x H' → g x (wipe σ vs) H' fun σ2 H2 => wipe σ2 vs = wipe σ vs ∧ tt σ2 H2 fun b H3 =>
      if b = true then tk σ2 H3 fun y H4 => tv σ2 H4 fun z H5 => ∃ kvs k, y = kV k ∧ H5 D = some (.dK kvs) ∧ kvs.length < sizeLine ∧ Pv (i + 1) (upd H5 D (.dK (putK kvs k z))) else Pv (i + 1) H3) (hd : ∀ H, Pv n H → Qd H) :
    ∃ W : Nat → Nat → Hp → Prop, (∃ m, W 0 m (upd H1 D (.dK []))) ∧ ∀ i m H, W i m H →
      (J.stop i H ∧ Qd H) ∨ (J.go i H ∧ ∃ Nx : Hp → Prop, (∀ H', Nx H' → ∃ m', m' < m ∧ W (i + 1) m' H') ∧ ∀ x H', J.yld i H x H' → g x (wipe σ vs) H' fun σ2 H2 => wipe σ2 vs = wipe σ vs ∧ tt σ2 H2 fun b H3 =>
        if b = true then tk σ2 H3 fun y H4 => tv σ2 H4 fun z H5 => ∃ kvs k, y = kV k ∧ H5 D = some (.dK kvs) ∧ kvs.length < sizeLine ∧ Nx (upd H5 D (.dK (putK kvs k z))) else Nx H3) := by
  refine ⟨fun i m H => m = n - i ∧ i ≤ n ∧ Pv i H, ⟨n, by simp, Nat.zero_le _, h0⟩, ?_⟩
  rintro i m H ⟨rfl, hi, p⟩
  have q := hG i H hi p
  by_cases hlt : i < n
  · exact .inr ⟨w.goes i H hlt q, Pv (i + 1), fun H' p' => ⟨n - (i + 1), by omega, rfl, hlt, p'⟩, fun x H' y => hs i x H H' hlt p (w.yields i H x H' hlt q y)⟩
  · have e : i = n := by omega
    subst e
    exact .inl ⟨w.stops H q, hd H p⟩
end
/-- the value of e, from now on locked -/
def tFrz (te : TE) : TE := fun σ H Q => te σ H fun x H1 => ∃ d u, x = .ref d ∧ H1 d = some u ∧ Mut (some u) ∧ ∀ od, Q x (upd H1 d (.frz od u))
section
variable {X : Cx}
theorem pe_frz {e : Expr} {te : TE} (h : PE X e te) : PE X e (tFrz te) := by
  refine ⟨fun pins s σ H Q I hw => thn (h.run pins s σ H _ I hw) fun v s1 ⟨x, H1, I1, r, d, u, ex, hd, mu, q⟩ => ?_⟩
  obtain ⟨od, I2⟩ := I1.lock hd mu
  exact ⟨x, _, I2, r, q od⟩
end
/-! ### name = {.. for ..} on one line -/
section
variable {X : Cx}
theorem ps_setDc {i : Nat} {y : Str} {yp : Pos} {kx vx tgt itx : Expr} {cs : List Expr} {sco : Scope} {ow : List (Str × Nat)} {dp sp : Pos} {wi : TI} {g : TG} {tt : TT} {tk tv : TE} (calm : X.calm = true) (nod : X.N.Nodup) (hy : X.N[i]? = some y) (loc : X.env.scope.names.lookup y = some .local)
    (sw : swapsWith (.DictComp kx vx [⟨tgt, itx, cs, 0⟩] sco dp) (some (.Name y yp)) sp.line X.env = pure true) (hi : PI X tgt itx wi) (ok : BlkOk X.N X.env.scope sco ow)
    (hg : ∀ (s : Shared) (H : Hp) (U : Addr) (cl : List (Str × Addr)) (fp : List Addr), PG (X.blk s H sco (compEnvC sco cl U X.env) fp) tgt g) (ht : ∀ (s : Shared) (H : Hp) (U : Addr) (cl : List (Str × Addr)) (fp : List Addr), PTs (X.blk s H sco (compEnvC sco cl U X.env) fp) cs tt)
    (hk : ∀ (s : Shared) (H : Hp) (U : Addr) (cl : List (Str × Addr)) (fp : List Addr), PE (X.blk s H sco (compEnvC sco cl U X.env) fp) kx tk)
    (hv : ∀ (s : Shared) (H : Hp) (U : Addr) (cl : List (Str × Addr)) (fp : List Addr), PE (X.blk s H sco (compEnvC sco cl U X.env) fp) vx tv) (fold : ∀ x, foldedSetIterable itx X.env x = pure x := by intro _; rfl) :
    PS X (.Assign [.Name y yp] (.DictComp kx vx [⟨tgt, itx, cs, 0⟩] sco dp) sp) (tAsg (tDc wi g tt tk tv (ow.map (·.2))) (gName i)) := by
  constructor
  intro pins s σ H Dn I q
  rw [exec_Assign_Name_used _ _ _ _ sw]
  refine wpAny_bind (wpAny_standAt (wpAny_bind ?_))
  show wpAny _ X.A (do let _ ← comprehension (.DictComp kx vx [⟨tgt, itx, cs, 0⟩] sco dp) sco X.env (firstIterPos [⟨tgt, itx, cs, 0⟩] dp) newDict false (eval itx X.env) (some (assign (.Name y yp) X.env))) _ _ s
  have q : tDc wi g tt tk tv (ow.map (·.2)) σ H (fun x H1 => gName i x σ H1 Dn.nx) := q
  refine wpAny_bind (thn (dc_core (Qf := fun _ s' => SP X pins Dn .next s') calm nod I hi ok hg ht hk hv fold q fun L U s' m H' J r nm fp => ?_) fun _ s' z => wpAny_pure (wpAny_pure z))
  show wpAny _ _ (assign (.Name y yp) X.env (.ref L)) _ _ _
  obtain ⟨p0, p1, p2, p3, p4, p5⟩ := fp
  refine wpAny_assign_Name (store_ok2 (v := V.ref L) J nod hy (.inl loc) rfl (fun s2 J2 ⟨a, same, wh⟩ => ?_) (.inr loc))
  have ne : U ≠ a := by
    rcases wh with z | z
    · rw [z]; exact p1
    · exact fun e => p4 y a z e.symm
  refine ⟨m, nm.sameBut same ne, fun h3 z3 => ⟨_, H', J2.turned (t' := s2.toks) (fun b o hb e => (z3.2 b hb).trans e) p0 p1 p3 p4 p5, r⟩⟩
theorem swd_true {kx vx : Expr} {gs : List Comprehension} {sco : Scope} {dp yp : Pos} {y : Str} {l : Nat} {env : Env} (fn : env.scope.kind = .function) (loc : env.scope.names.lookup y = some .local) (ln : (yp.line == dp.line) = true)
    (own : (sco.names.any fun (n, k) => n == y && (k == .local || k == .cell)) = false) : swapsWith (.DictComp kx vx gs sco dp) (some (.Name y yp)) l env = pure true := by
  have k1 : env.kindOf y = some .local := loc
  have k2 : env.blockKind = .function := by unfold Env.blockKind; rw [fn]; rfl
  unfold swapsWith
  simp only [k2, k1, own, Expr.pos, ln]
  rfl
end
end SE
namespace SE
open PySem PySem.Spec PyProof.Rows L2
theorem mut_dK {kvs : List (Key × V)} : Mut (some (.dK kvs)) := trivial
/-- what stands elsewhere stays where a dict is locked or unlocked -/
theorem LsE.updD {H : Hp} {d : Addr} {es : List Ent} {o : HO} (h : LsE H es) (hd : ∀ us, H d ≠ some (.lst us)) (ht : ∀ us, H d ≠ some (.tup us)) : LsE (upd H d o) es := fun e m => by
  obtain ⟨us, a, b⟩ := h e m
  have ne : e.2.1 ≠ d := fun q => by rw [q] at a; exact hd us a
  refine ⟨us, by rw [upd_ne ne]; exact a, Paired.mapP b fun _ _ z => ?_⟩
  obtain ⟨t, et, z⟩ := z
  exact ⟨t, et, by rw [upd_ne (fun q => by rw [q] at z; exact ht _ z)]; exact z⟩
theorem find_at {es : List Ent} {e : Ent} (nd : ((pE es).map (·.1)).Nodup) (m : e ∈ es) : es.find? (fun x => decide (x.1 = e.1)) = some e := by
  rw [pE_fst] at nd
  induction es with
  | nil => cases m
  | cons x es ih =>
    rw [List.map_cons, List.nodup_cons] at nd
    rcases List.mem_cons.mp m with rfl | m'
    · exact List.find?_cons_of_pos (by simp)
    · rw [List.find?_cons_of_neg]
      · exact ih nd.2 m'
      · intro q
        exact nd.1 (List.mem_map.mpr ⟨e, m', (of_decide_eq_true q).symm⟩)
theorem take_fresh {l : List Str} {j : Nat} {n : Str} (nd : l.Nodup) (h : l[j]? = some n) : n ∉ l.take j := fun m => by
  obtain ⟨i, hi⟩ := List.getElem?_of_mem m
  have il := (List.getElem?_eq_some_iff.mp hi).1
  rw [List.length_take] at il
  rw [List.getElem?_take_of_lt (by omega)] at hi
  obtain ⟨a1, _⟩ := List.getElem?_eq_some_iff.mp hi
  have := (List.getElem?_inj a1 nd).mp (hi.trans h.symm)
  omega
def EntE (K : PySem.W.Frag) (C : Addr) (H : Hp) (kv : Key × V) (p : Str × List Stp) : Prop := kv.1 = Sum.inr p.1 ∧ ∃ e, kv.2 = .ref e ∧ EffV K C H e (effM p.2)
theorem entE_same {K : PySem.W.Frag} {C : Addr} {H H' : Hp} {kvs : List (Key × V)} {ps : Prts} (h : Paired (EntE K C H) kvs ps) (s : Same H H') : Paired (EntE K C H') kvs ps := Paired.mapP h fun _ _ q => ⟨q.1, q.2.elim fun e z => ⟨e, z.1, z.2.same s⟩⟩
theorem put_fresh {kvs : List (Key × V)} {ps : Prts} {F : Key × V → Str × List Stp → Prop} {n : Str} {v : V} (h : Paired F kvs ps) (hk : ∀ kv p, F kv p → kv.1 = Sum.inr p.1) (hn : n ∉ ps.map (·.1)) : putK kvs (Sum.inr n) v = kvs ++ [(Sum.inr n, v)] := by
  unfold putK
  rw [if_neg]
  intro q
  obtain ⟨kv, m, q⟩ := List.any_eq_true.mp q
  obtain ⟨j, hj⟩ := List.getElem?_of_mem m
  obtain ⟨p, hp, hF⟩ := paired_at h hj
  have e := (hk kv p hF).symm.trans (of_decide_eq_true q)
  exact hn (List.mem_map.mpr ⟨p, List.mem_of_getElem? hp, Sum.inr.inj e⟩)
theorem effV_updD {K : PySem.W.Frag} {C : Addr} {H : Hp} {e D : Addr} {kvs : List (Key × V)} {w : HO} (hD : H D = some (.dK kvs)) : ∀ {o : Eff}, EffV K C H e o → EffV K C (upd H D w) e o := by
  have tu : ∀ {u : Addr} {xs : List V}, SqT K H u xs → SqT K (upd H D w) u xs := fun q => by
    rcases q with (q | ⟨o, q⟩) | q
    · exact .inl (.inl (by rw [upd_ne (fun z => by rw [z, hD] at q; cases q)]; exact q))
    · exact .inl (.inr ⟨o, by rw [upd_ne (fun z => by rw [z, hD] at q; cases q)]; exact q⟩)
    · exact .inr q
  intro o h
  cases o with
  | none =>
    obtain ⟨dx, h1⟩ := NevAt.ex h
    exact ⟨dx, by rw [upd_ne (fun z => by rw [z, hD] at h1; cases h1)]; exact h1⟩
  | some B =>
    obtain ⟨dx, u, v, h1, h2, h3⟩ := EffAt.ex h
    exact ⟨dx, u, v, by rw [upd_ne (fun z => by rw [z, hD] at h1; cases h1)]; exact h1, tu h2, tu h3⟩
theorem effV_upd2 {K : PySem.W.Frag} {C : Addr} {H : Hp} {e D : Addr} {od : Obj} {kvs : List (Key × V)} {w : HO} (hD : H D = some (.frz od (.dK kvs))) : ∀ {o : Eff}, EffV K C H e o → EffV K C (upd H D w) e o := by
  have tu : ∀ {u : Addr} {xs : List V}, SqT K H u xs → SqT K (upd H D w) u xs := fun q => by
    rcases q with (q | ⟨o, q⟩) | q
    · exact .inl (.inl (by rw [upd_ne (fun z => by rw [z, hD] at q; cases q)]; exact q))
    · exact .inl (.inr ⟨o, by rw [upd_ne (fun z => by rw [z, hD] at q; cases q)]; exact q⟩)
    · exact .inr q
  intro o h
  cases o with
  | none =>
    obtain ⟨dx, h1⟩ := NevAt.ex h
    exact ⟨dx, by rw [upd_ne (fun z => by rw [z, hD] at h1; cases h1)]; exact h1⟩
  | some B =>
    obtain ⟨dx, u, v, h1, h2, h3⟩ := EffAt.ex h
    exact ⟨dx, u, v, by rw [upd_ne (fun z => by rw [z, hD] at h1; cases h1)]; exact h1, tu h2, tu h3⟩
theorem entE_upd2 {K : PySem.W.Frag} {C : Addr} {H : Hp} {D : Addr} {od : Obj} {w : HO} {ks kvs : List (Key × V)} {ps : Prts} (h : Paired (EntE K C H) kvs ps) (hD : H D = some (.frz od (.dK ks))) : Paired (EntE K C (upd H D w)) kvs ps := Paired.mapP h fun _ _ q => ⟨q.1, q.2.elim fun e z => ⟨e, z.1, effV_upd2 hD z.2⟩⟩
theorem entE_upd {K : PySem.W.Frag} {C : Addr} {H : Hp} {D : Addr} {w : HO} {ks kvs : List (Key × V)} {ps : Prts} (h : Paired (EntE K C H) kvs ps) (hD : H D = some (.dK ks)) : Paired (EntE K C (upd H D w)) kvs ps := Paired.mapP h fun _ _ q => ⟨q.1, q.2.elim fun e z => ⟨e, z.1, effV_updD hD z.2⟩⟩
section
variable {P : Program} {w : World} {K : PySem.W.Frag} {mg : Str → Option Value} {base : Heap} {C : Addr}
/-! ### effects_of -/
def spEffs (K : PySem.W.Frag) (C : Addr) : Sp := fun xs H Q _ => ∃ (a : Addr) (ys : List V) (ss : List NSt), xs = [.ref a] ∧ (SqL K H a ys ∨ SqT K H a ys) ∧ ys.length ≤ 1000 ∧ NSV K H ys ss ∧ (∀ s ∈ ss, NOk s) ∧
  ((∃ p ∈ prtM ss, effM p.2 = none) → ∀ H', Same H H' → Q .non H') ∧ ((∀ p ∈ prtM ss, effM p.2 ≠ none) → ∀ (d : Addr) (kvs : List (Key × V)) (H' : Hp), Same H H' → H d = none → H' d = some (.dK kvs) → Paired (EntE K C H') kvs (prtM ss) → Q (.ref d) H')
abbrev nEf : List Str := ["steps", "parts", "effects", "name", "effect"]
theorem scEf : FnScope nEf ["steps"] (defScope sEffectsOf) := ⟨rfl, rfl, rfl, by decide +kernel, rfl, by decide +kernel, by decide +kernel⟩
theorem has_effs (D : Def K mg "effects_of" sEffectsOf) (T : EC K mg C) (GS : Has P w K mg base "split" 5 ["steps"] [] (spSplit K)) (GE : Has P w K mg base "effect_of" 8 ["steps"] [] (spEffOf K C)) (GI : PropHas P w K mg base C "is_never" 1 (spIsNev K C)) (ma : mg "any" = none) : Has P w K mg base "effects_of" 9 ["steps"] [] (spEffs K C) := by
  refine has_of D scEf (fun _ _ _ _ _ _ us hl => match us, hl with | [_], _ => rfl) (fun xs H Q E h => ?_) (fun f cv A out s H xs Q E hr h => ?_)
  · obtain ⟨a, ys, ss, rfl, _⟩ := h
    rfl
  · obtain ⟨a, ys, ss, rfl, hS, hl, hV, hI, kN, kS⟩ := h
    have hu := hu_of hr
    have hr2 : Room 2 _ := hr.mono (by decide)
    have hr5 : Room 5 _ := hr.mono (by decide)
    refine ⟨_, pss_cons (ps_set (i := 1) scEf.nd rfl (.inr rfl) (pe_has GS hr5 (pa_cons (pv 0) pa_nil)))
      (pss_cons (ps_lock (ps_setDc (i := 2) (ow := [("name", 3)]) (g := gName 3) (tt := tYes) (tk := tVar 3) (tv := tCall (spEffOf K C) [] E0 (tCons (tDGet (tVar 1) (tVar 3)) tNil)) rfl scEf.nd rfl rfl (swd_true rfl rfl rfl (by decide +kernel)) (pi_keys (pv 1)) (blkOk_by (own := [("name", 3)]) (N := nEf) (sc := defScope sEffectsOf) (by decide +kernel))
        (fun _ _ _ _ _ => pg_name (i := 3) scEf.nd rfl (.inl rfl)) (fun _ _ _ _ _ => pts_nil) (fun _ _ _ _ _ => pv 3) (fun _ _ _ _ _ => pe_has GE hr (pa_cons (pe_dget hu (pv 1) (pv 3) (fun _ _ => rfl)) pa_nil))))
      (pss_one (ps_ret (pe_ifExp (pt_val (pe_callB (cr_any rfl) (by rfl) ma (by decide +kernel) (pa_cons
        (pe_lock (pe_lc (own := [("effect", 4)]) (g := gName 4) (tt := tYes) (te := tProp C (spIsNev K C) [] E0 (tVar 4)) rfl scEf.nd (pi_values (pv 2)) (blkOk_by (own := [("effect", 4)]) (N := nEf) (sc := defScope sEffectsOf) (by decide +kernel))
          (fun _ _ _ _ _ => pg_name (i := 4) scEf.nd rfl (.inl rfl)) (fun _ _ _ _ _ => pts_nil) (fun _ _ _ _ _ => pe_propH GI (pv 4) T.cl hr2))) pa_nil))) pe_non (pv 2))))), ?_⟩
    refine ⟨_, rfl, a, ys, ss, rfl, hS, hl, hV, hI, fun d es H1 s1 hd pd pe fr => ?_⟩
    have pok : PrOk (prtM ss) ss.length := by
      have := prtM_ok (ss := ss) ss.length hI
      rwa [List.take_length] at this
    have nd : ((pE es).map (·.1)).Nodup := by rw [pe]; exact pok.nd
    have ly : ys.length = ss.length := Paired.length hV
    have les : es.length = (prtM ss).length := by rw [← pe]; unfold pE; rw [List.length_map]
    have lnS : ∀ us, H1 d ≠ some (.lst us) := fun us q => by rw [pd.at_] at q; cases q
    have tnS : ∀ us, H1 d ≠ some (.tup us) := fun us q => by rw [pd.at_] at q; cases q
    refine ⟨d, .dK (kvsE es), pd.at_, mut_dK, fun od => ?_⟩
    have hF : upd H1 d (.frz od (.dK (kvsE es))) d = some (.frz od (.dK (kvsE es))) := upd_same
    have lsF : LsE (upd H1 d (.frz od (.dK (kvsE es)))) es := pd.ls.updD lnS tnS
    have sHF : Same H (upd H1 d (.frz od (.dK (kvsE es)))) := Same.free2 s1 hd
    generalize upd H1 d (.frz od (.dK (kvsE es))) = HF at hF lsF sHF
    refine ⟨_, rfl, d, od, rfl, .inl ⟨kvsE es, hF, fun DD hDD => dc_it walk_keys (fun j H2 => ∃ kvs2, H2 DD = some (.dK kvs2) ∧ Paired (EntE K C H2) kvs2 ((prtM ss).take j) ∧ Same HF H2) ⟨[], upd_same, .nil, Same.new hDD⟩ (fun j H2 _ q => ?_) ?_ ?_⟩⟩
    · obtain ⟨_, _, _, s2⟩ := q
      exact s2 _ _ hF
    · rintro j x H2 H3 hj ⟨kvs2, h2, hP, s2⟩ ⟨rfl, k', v', hkv, rfl⟩
      unfold kvsE at hkv
      rw [List.getElem?_map] at hkv
      cases he : es[j]? with
      | none => rw [he] at hkv; cases hkv
      | some e =>
        rw [he] at hkv
        cases hkv
        have em := List.mem_of_getElem? he
        obtain ⟨us, hL, hs⟩ := lsF e em
        have pj : (prtM ss)[j]? = some (e.1, e.2.2) := by
          rw [← pe]
          unfold pE
          rw [List.getElem?_map, he]
          rfl
        obtain ⟨q1, q2, q3⟩ := pok.ok _ (List.mem_of_getElem? pj)
        have q3 : e.2.2.length ≤ ss.length := q3
        have lu : us.length = e.2.2.length := Paired.length hs
        refine ⟨rfl, yes_in ⟨_, rfl, _, rfl, _, rfl, d, .ref e.2.1, rfl, .inl ⟨kvsE es, Sum.inr e.1, .inr ⟨od, s2 _ _ hF⟩, rfl, by rw [valE, find_at nd em]; rfl⟩, e.2.1, us, e.2.2, rfl, .of (s2 _ _ hL), by omega, (stepsH_sm hs s2).v, q2, fun eF H4 s4 hE => ⟨kvs2, Sum.inr e.1, rfl, s4 _ _ h2, ?_, ?_⟩⟩⟩
        · have := paired_len hP
          rw [List.length_take] at this
          rw [sizeLine_eq]
          have := pok.len
          omega
        · have nin : e.1 ∉ ((prtM ss).take j).map (·.1) := by
            rw [List.map_take]
            exact take_fresh pok.nd (by rw [List.getElem?_map, pj]; rfl)
          rw [put_fresh hP (fun _ _ q => q.1) nin]
          refine ⟨_, upd_same, ?_, Same.free2 (s2.trans s4) hDD⟩
          rw [List.take_add_one, pj]
          exact Paired.snoc2 (entE_upd (entE_same hP s4) (s4 _ _ h2)) ⟨rfl, eF, rfl, effV_updD (s4 _ _ h2) hE⟩
    rintro H2 ⟨kvs2, h2, hP, s2⟩
    have lk : (kvsE es).length = (prtM ss).length := by unfold kvsE; rw [List.length_map]; exact les
    rw [lk, List.take_length] at hP
    have hF2 := s2 _ _ hF
    have dD : DD ≠ d := fun q => by rw [q, hF2] at h2; cases h2
    refine ⟨hF2, ?_⟩
    have h5 : upd H2 d (.dK (kvsE es)) DD = some (.dK kvs2) := by rw [upd_ne dD]; exact h2
    have hP5 : Paired (EntE K C (upd H2 d (.dK (kvsE es)))) kvs2 (prtM ss) := entE_upd2 hP hF2
    have s5 : Same H (upd H2 d (.dK (kvsE es))) := Same.free2 (sHF.trans s2) hd
    generalize upd H2 d (.dK (kvsE es)) = H5 at h5 hP5 s5
    have nDD : H DD = none := sHF.free hDD
    refine ⟨DD, .dK kvs2, h5, mut_dK, fun od2 => ?_⟩
    have h6 : upd H5 DD (.frz od2 (.dK kvs2)) DD = some (.frz od2 (.dK kvs2)) := upd_same
    have hP6 : Paired (EntE K C (upd H5 DD (.frz od2 (.dK kvs2)))) kvs2 (prtM ss) := entE_upd hP5 h5
    have s6 : Same H (upd H5 DD (.frz od2 (.dK kvs2))) := Same.free2 s5 nDD
    generalize upd H5 DD (.frz od2 (.dK kvs2)) = H6 at h6 hP6 s6
    refine ⟨_, rfl, DD, od2, kvs2, rfl, h6, fun L hL => lc_it walk_values (fun j H7 => H7 L = some (.lst ((((prtM ss).take j).map fun p => decide (effM p.2 = none)).map V.bl)) ∧ Same H6 H7) ⟨upd_same, Same.new hL⟩ (fun j H7 _ q => q.2 _ _ h6) ?_ ?_⟩
    · rintro j x HX HY hj ⟨h7, s7⟩ ⟨eH, k', hkv⟩
      rw [eH]
      obtain ⟨p, hp, e1, e, e2, hE⟩ := paired_at hP6 hkv
      have e2 : x = .ref e := e2
      subst e2
      have hE7 := hE.same s7
      obtain ⟨dx, fs, hi⟩ := hE7.ins
      have fin : ∀ b : Bool, b = decide (effM p.2 = none) → ∃ acc, HX L = some (.lst acc) ∧ acc.length < sizeLine ∧ (upd HX L (.lst (acc ++ [V.bl b]))) L = some (.lst ((((prtM ss).take (j + 1)).map fun p => decide (effM p.2 = none)).map V.bl)) ∧ Same H6 (upd HX L (.lst (acc ++ [V.bl b]))) := fun b eb => by
        refine ⟨_, h7, ?_, ?_, Same.free2 s7 hL⟩
        · rw [List.length_map, List.length_map, List.length_take, sizeLine_eq]
          have := pok.len
          omega
        · rw [upd_same, List.take_add_one, hp, List.map_append, List.map_append, eb]
          rfl
      cases ho : effM p.2 with
      | none =>
        rw [ho] at hE7
        exact ⟨rfl, yes_in ⟨_, rfl, e, dx, fs, rfl, hi, e, rfl, .inr ⟨hE7, fin true (by rw [ho]; rfl)⟩⟩⟩
      | some B =>
        obtain ⟨xs, zs, q⟩ := B
        rw [ho] at hE7
        exact ⟨rfl, yes_in ⟨_, rfl, e, dx, fs, rfl, hi, e, rfl, .inl ⟨xs, zs, q, hE7, fin false (by rw [ho]; rfl)⟩⟩⟩
    rintro H7 ⟨h7, s7⟩
    have lkv := paired_len hP6
    rw [lkv, List.take_length] at h7
    have hD7 := s7 _ _ h6
    have LD : L ≠ DD := fun q => by rw [q, h6] at hL; cases hL
    refine ⟨hD7, ?_⟩
    have h8 : upd H7 DD (.dK kvs2) DD = some (.dK kvs2) := upd_same
    have hL8 : upd H7 DD (.dK kvs2) L = some (.lst (((prtM ss).map fun p => decide (effM p.2 = none)).map V.bl)) := by rw [upd_ne LD]; exact h7
    have hP8 : Paired (EntE K C (upd H7 DD (.dK kvs2))) kvs2 (prtM ss) := entE_upd2 (entE_same hP6 s7) hD7
    have s8 : Same H (upd H7 DD (.dK kvs2)) := Same.free2 (s6.trans s7) nDD
    generalize upd H7 DD (.dK kvs2) = H8 at h8 hL8 hP8 s8
    refine ⟨L, _, rfl, .of hL8, ?_⟩
    by_cases c : ∃ p ∈ prtM ss, effM p.2 = none
    · have ec : ((prtM ss).map fun p => decide (effM p.2 = none)).any id = true := by
        obtain ⟨p, m, q⟩ := c
        exact List.any_eq_true.mpr ⟨_, List.mem_map.mpr ⟨p, m, rfl⟩, decide_eq_true q⟩
      rw [ec]
      exact ⟨true, rfl, iteT (kN c H8 s8)⟩
    · have ec : ((prtM ss).map fun p => decide (effM p.2 = none)).any id = false := by
        rw [Bool.eq_false_iff]
        intro q
        obtain ⟨b, mb, q⟩ := List.any_eq_true.mp q
        obtain ⟨p, mp, rfl⟩ := List.mem_map.mp mb
        exact c ⟨p, mp, of_decide_eq_true q⟩
      rw [ec]
      exact ⟨false, rfl, iteF ⟨_, rfl, kS (fun p m q => c ⟨p, m, q⟩) DD kvs2 H8 s8 nDD h8 hP8⟩⟩
end
end SE
namespace SE
open PySem PySem.Spec PyProof.Rows L2
/-! ### heaps without some objects -/
def hid (S : List Addr) (H : Hp) : Hp := fun b => if b ∈ S then none else H b
theorem hid_ne {S : List Addr} {b : Addr} {H : Hp} (h : b ∉ S) : hid S H b = H b := if_neg h
theorem hid_out (S : List Addr) (H : Hp) : Same (hid S H) H := fun b o h => by
  unfold hid at h
  by_cases c : b ∈ S
  · rw [if_pos c] at h
    cases h
  · rw [if_neg c] at h
    exact h
theorem hid_map {S T : List Addr} {H H' : Hp} (h : ∀ b o, b ∉ S → H b = some o → b ∉ T ∧ H' b = some o) : Same (hid S H) (hid T H') := fun b o q => by
  unfold hid at q
  by_cases c : b ∈ S
  · rw [if_pos c] at q
    cases q
  · rw [if_neg c] at q
    obtain ⟨h1, h2⟩ := h b o c q
    rw [hid_ne h1]
    exact h2
theorem hid_of {S : List Addr} {H H' : Hp} (h : Same H H') : Same (hid S H) (hid S H') := hid_map fun b o c q => ⟨c, h b o q⟩
theorem hid_but {S : List Addr} {p : Addr} {H H' : Hp} (h : But p H H') (hp : p ∈ S) : Same (hid S H) (hid S H') := hid_map fun b o c q => ⟨c, h b o (fun e => c (e ▸ hp)) q⟩
theorem hid_upd {S : List Addr} {D : Addr} {H : Hp} {o : HO} (hD : D ∈ S) : Same (hid S H) (hid S (upd H D o)) := hid_map fun b u c q => ⟨c, by
  have e : b ≠ D := fun e => c (by rw [e]; exact hD)
  rw [upd_ne e]
  exact q⟩
/-- what H does not know may be hidden too -/
theorem hid_free {S : List Addr} {D : Addr} {H : Hp} (hD : H D = none) : Same (hid S H) (hid (D :: S) H) := hid_map fun b o c q => ⟨fun m => by
  rcases List.mem_cons.mp m with e | m
  · rw [e, hD] at q
    cases q
  · exact c m, q⟩
theorem hid_less {S : List Addr} {D : Addr} {H : Hp} : Same (hid (D :: S) H) (hid S H) := hid_map fun b o c q => ⟨fun m => c (List.mem_cons_of_mem _ m), q⟩
theorem Same.but3 {H H3 H4 : Hp} {p : Addr} (s : Same H H3) (hp : H p = none) (b : But p H3 H4) : Same H H4 := fun c o e => b c o (ne_of_none e hp) (s c o e)
theorem SqT.same3 {K : PySem.W.Frag} {H H' : Hp} {u p : Addr} {xs : List V} (h : SqT K H u xs) (hp : Pool H p) (b : But p H H') : SqT K H' u xs := by
  rcases h with (h | ⟨o, h⟩) | h
  · exact .inl (.inl (b _ _ (fun e => by obtain ⟨m, s, q, _⟩ := hp.ex; rw [e, q] at h; cases h) h))
  · exact .inl (.inr ⟨o, b _ _ (fun e => by obtain ⟨m, s, q, _⟩ := hp.ex; rw [e, q] at h; cases h) h⟩)
  · exact .inr h
theorem ixN_nat {n j : Nat} (h : j < n) : ixN n (j : Int) = some j := by
  unfold ixN
  rw [if_pos (by omega), if_pos (by omega), Int.toNat_natCast]
def LstAll (S : List Addr) (H : Hp) : Prop := ∀ b ∈ S, ∃ us, H b = some (.lst us)
theorem LstAll.nil {H : Hp} : LstAll [] H := fun _ m => by cases m
theorem LstAll.cons {S : List Addr} {D : Addr} {us : List V} {H : Hp} (h : LstAll S H) (hD : H D = some (.lst us)) : LstAll (D :: S) H := fun b m => by
  rcases List.mem_cons.mp m with e | m
  · exact ⟨us, e ▸ hD⟩
  · exact h b m
theorem LstAll.pool {H : Hp} {p : Addr} (h : Pool H p) : LstAll [p] H := by
  obtain ⟨m, s, e, _⟩ := h.ex
  exact LstAll.nil.cons e
theorem hid_at {S : List Addr} {H : Hp} {b : Addr} {o : HO} (h : LstAll S H) (hb : H b = some o) (n : ∀ us, o ≠ .lst us) : hid S H b = some o := by
  rw [hid_ne fun m => ?_]
  · exact hb
  · obtain ⟨us, e⟩ := h b m
    rw [e] at hb
    cases hb
    exact n us rfl
theorem hid_tup {K : PySem.W.Frag} {S : List Addr} {H : Hp} {a : Addr} {xs : List V} (h : LstAll S H) (ha : SqT K H a xs) : SqT K (hid S H) a xs := by
  rcases ha with (h1 | ⟨o, h1⟩) | h1
  · exact .inl (.inl (hid_at h h1 fun us e => by cases e))
  · exact .inl (.inr ⟨o, hid_at h h1 fun us e => by cases e⟩)
  · exact .inr h1
theorem hid_steps {S : List Addr} {H : Hp} {us : List V} {ss : List Stp} (h : LstAll S H) (hs : StepsH H us ss) : StepsH (hid S H) us ss := Paired.mapP hs fun _ _ q => by
  obtain ⟨t, e, z⟩ := q
  exact ⟨t, e, hid_at h z fun us e => by cases e⟩
section
variable {K : PySem.W.Frag} {C : Addr} {S : List Addr} {H : Hp}
theorem hid_eff {e : Addr} (h : LstAll S H) : ∀ {o : Eff}, EffV K C H e o → EffV K C (hid S H) e o
  | none, q => by
    obtain ⟨dx, h1⟩ := NevAt.ex q
    exact ⟨dx, hid_at h h1 fun us e => by cases e⟩
  | some (_, _, _), q => by
    obtain ⟨dx, u, v, h1, h2, h3⟩ := EffAt.ex q
    exact ⟨dx, u, v, hid_at h h1 fun us e => (by cases e), hid_tup h h2, hid_tup h h3⟩
end
end SE
namespace SE
open PySem PySem.Spec PyProof.Rows L2
abbrev NStH (H : Hp) : List V → List NSt → Prop := Paired fun v s => ∃ t, v = .ref t ∧ H t = some (.tup [.str (act s.1), .str s.2.1, .str s.2.2])
theorem NStH.v {K : PySem.W.Frag} {H : Hp} {xs : List V} {ss : List NSt} (h : NStH H xs ss) : NSV K H xs ss := Paired.mapP h fun _ _ q => by
  obtain ⟨t, e, z⟩ := q
  exact ⟨t, e, .of z⟩
theorem nsth_same {H H' : Hp} {xs : List V} {ss : List NSt} (h : NStH H xs ss) (s : Same H H') : NStH H' xs ss := Paired.mapP h fun _ _ q => by
  obtain ⟨t, e, z⟩ := q
  exact ⟨t, e, s _ _ z⟩
section
variable {P : Program} {w : World} {K : PySem.W.Frag} {mg : Str → Option Value} {base : Heap}
/-! ### _law_named -/
def spNamed : Sp := fun xs H Q _ => ∃ (p nl il : Addr) (m : Int) (ns zs : List Str), xs = [.ref p, .ref nl, .ref il, .int m] ∧ Pool H p ∧ nl ≠ p ∧ H nl = some (.lst (ns.map V.str)) ∧ ns ≠ [] ∧ ns.length ≤ 100 ∧ (∀ z ∈ ns, Item z) ∧ il ≠ p ∧ H il = some (.lst (zs.map V.str)) ∧ zs ≠ [] ∧ zs.length ≤ 100 ∧ (∀ z ∈ zs, Item z) ∧ 0 ≤ m ∧ m ≤ 100 ∧
  ∀ (t : Addr) (us : List V) (ss : List NSt) (H' : Hp), But p H H' → Pool H' p → H t = none → t ≠ p → H' t = some (.lst us) → NStH H' us ss → (ss.length : Int) ≤ m → (∀ s ∈ ss, NOk s) → Q (.ref t) H'
abbrev nNa : List Str := ["_law_pool_here", "_law_names", "_law_items_here", "_law_many", "_law_found", "_law_step"]
theorem scNa : FnScope nNa ["_law_pool_here", "_law_names", "_law_items_here", "_law_many"] (defScope sLawNamed) := ⟨rfl, rfl, rfl, by decide +kernel, rfl, by decide +kernel, by decide +kernel⟩
theorem act_len (b : Bool) : (act b).length ≤ 4 := by cases b <;> decide +kernel
theorem has_named (D : Def K mg "_law_named" sLawNamed) (GT : Has P w K mg base "_law_take" 1 ["_law_pool_here", "_law_many"] [] spTake) (GS : Has P w K mg base "_law_steps" 2 ["_law_pool_here", "_law_items_here", "_law_many"] [] spSteps) (ml : mg "len" = none) : Has P w K mg base "_law_named" 3 ["_law_pool_here", "_law_names", "_law_items_here", "_law_many"] [] spNamed := by
  refine has_of D scNa (fun _ _ _ _ _ _ us hl => match us, hl with | [_, _, _, _], _ => rfl) (fun xs H Q E h => ?_) (fun f cv A out s H xs Q E hr h => ?_)
  · obtain ⟨p, nl, il, m, ns, zs, rfl, _⟩ := h
    rfl
  · obtain ⟨p, nl, il, m, ns, zs, rfl, hp, np, hn, nne, n1, nI, lp', hil, zne, z1, zI, m0, m1, k⟩ := h
    have hr1 : Room 1 _ := hr.mono (by decide)
    refine ⟨_, pss_cons (ps_set (i := 4) scNa.nd rfl (.inl rfl) (pe_lst pa_nil))
      (pss_cons (ps_for PassesOwn.never rfl (pi_list (pe_has GS hr (pa_cons (pv 0) (pa_cons (pv 2) (pa_cons (pv 3) pa_nil))))) (pg_name (i := 5) scNa.nd rfl (.inl rfl))
        (pss_one (ps_expr (pe_bm PySem.F.plainAttrs_list PySem.F.slot_list_append PySem.F.type_list_append mt_append (pv 4) (pa_cons (pe_tup (pa_cons (pe_ix ix_tup (pv 5) pe_int (fun _ _ => rfl)) (pa_cons (pe_ix ix_list (pv 1) (pe_has GT hr1 (pa_cons (pv 0) (pa_cons (pe_callB call_len_seq (by rfl) ml PySem.boot_len (pa_cons (pv 1) pa_nil)) pa_nil))) (fun _ _ => rfl)) (pa_cons (pe_ix ix_tup (pv 5) pe_int (fun _ _ => rfl)) pa_nil)))) pa_nil)))))
      (pss_one (ps_ret (pv 4)))), ?_⟩
    refine ⟨(by show 0 ≤ sizeLine; decide), fun g hg => ?_⟩
    have gp : g ≠ p := hp.free hg
    have sg : Same H (upd H g (.lst [])) := Same.new hg
    refine ⟨_, rfl, _, rfl, _, rfl, p, il, m, zs, rfl, hp.same sg, lp', sg _ _ hil, zne, by omega, zI, m0, m1, fun t us ss H1 b1 p1 t0 ht hs ls sz => ?_⟩
    have hg1 : H1 g = some (.lst []) := b1 _ _ gp upd_same
    have tg : t ≠ g := fun q => by rw [q, upd_same] at t0; cases t0
    have tp : t ≠ p := (hp.same sg).free t0
    have hn1 := b1 _ _ np (sg _ _ hn)
    have nlg : nl ≠ g := ne_of_none hn hg
    have la1 : LstAll [g, p] H1 := (LstAll.pool p1).cons hg1
    have hs1 := hid_steps la1 hs
    have ht1 : hid [g, p] H1 t = some (.lst us) := by rw [hid_ne (by simp [tg, tp])]; exact ht
    have hn1h : hid [g, p] H1 nl = some (.lst (ns.map V.str)) := by rw [hid_ne (by simp [nlg, np])]; exact hn1
    have lus : us.length = ss.length := Paired.length hs
    have gm : g ∈ [g, p] := by simp
    have pm : p ∈ [g, p] := by simp
    have bH1 : But p H H1 := fun c o n q => b1 c o n (sg c o q)
    refine ⟨t, rfl, ⟨_, .of ht⟩, for_list (K := K) (a := t) (xs := us) (fun j σ H2 => ∃ (us2 : List V) (ss2 : List NSt) (y5 : Option V), σ = [some (.ref p), some (.ref nl), some (.ref il), some (.int m), some (.ref g), y5] ∧ H2 g = some (.lst us2) ∧ NStH (hid [g, p] H2) us2 ss2 ∧ us2.length = j ∧ Pool H2 p ∧ Same (hid [g, p] H1) (hid [g, p] H2) ∧ But p H H2 ∧ ∀ s ∈ ss2, NOk s) ⟨[], [], _, rfl, hg1, .nil, rfl, p1, Same.refl _, bH1, fun s m => (by cases m)⟩ (fun j σ H2 _ q => ?_) ?_ ?_⟩
    · obtain ⟨_, _, _, _, _, _, _, _, s2, _⟩ := q
      exact .of (hid_out _ _ _ _ (s2 _ _ ht1))
    · rintro j x σ H2 hx ⟨us2, ss2, y5, rfl, hg2, hN2, l2, p2, s2, b2, ok2⟩
      obtain ⟨st, h1, u, rfl, hu⟩ := paired_at hs1 hx
      have hu2 := hid_out _ _ _ _ (s2 _ _ hu)
      have hn2 := hid_out _ _ _ _ (s2 _ _ hn1h)
      have jl := (List.getElem?_eq_some_iff.mp hx).1
      have lns : 0 < ns.length := List.length_pos_iff.mpr nne
      refine ⟨.ref g, rfl, .inl ⟨rfl, _, .of hg2⟩, _, rfl, u, _, 0, _, rfl, rfl, .of hu2, atI_nat (j := 0) rfl, ?_⟩
      refine ⟨_, rfl, _, rfl, _, rfl, nl, _, rfl, .inl (.of hn2), p, _, rfl, p2, ?_, ?_, fun r H3 b3 p3 r0 r1 => ?_⟩
      · rw [List.length_map]; omega
      · rw [List.length_map]; omega
      rw [List.length_map] at r1
      obtain ⟨z, zm, az⟩ := pick_str r0 r1
      have hg3 := b3 _ _ gp hg2
      have s3 := hid_but (S := [g, p]) b3 pm
      have hu3 := hid_out _ _ _ _ (s3 _ _ (s2 _ _ hu))
      refine ⟨nl, _, r, _, rfl, rfl, .of (b3 _ _ np hn2), az, _, rfl, u, _, 1, _, rfl, rfl, .of hu3, atI_nat (j := 1) rfl, (by show 3 ≤ sizeLine; decide), fun T hT => ?_⟩
      have sT : Same H3 (upd H3 T (.tup [.str (act st.1), .str z, .str st.2])) := Same.new hT
      have Tg : T ≠ g := Ne.symm (ne_of_none hg3 hT)
      have Tp : T ≠ p := p3.free hT
      have sx : Same (hid [g, p] H2) (hid [g, p] (upd (upd H3 T (.tup [.str (act st.1), .str z, .str st.2])) g (.lst (us2 ++ [.ref T])))) := (s3.trans (hid_of sT)).trans (hid_upd gm)
      refine ⟨g, us2, _, rfl, rfl, sT _ _ hg3, by rw [sizeLine_eq]; omega, us2 ++ [.ref T], ss2 ++ [(st.1, z, st.2)], _, rfl, upd_same, ?_, by rw [List.length_append, l2]; rfl, (p3.same sT).upd gp, s2.trans sx, ?_, fun q mq => ?_⟩
      · refine Paired.snoc2 (nsth_same hN2 sx) ⟨T, rfl, ?_⟩
        rw [hid_ne (by simp [Tg, Tp]), upd_ne Tg]
        exact upd_same
      · exact ((b2.trans b3).trans (But.of sT)).free hg
      · rcases List.mem_append.mp mq with z' | z'
        · exact ok2 q z'
        · rw [List.mem_singleton.mp z']
          exact ⟨nI z zm, zI _ (sz st (List.mem_of_getElem? h1))⟩
    · rintro σ H2 ⟨us2, ss2, y5, rfl, hg2, hN2, l2, p2, s2, b2, ok2⟩
      have := Paired.length hN2
      exact ⟨_, rfl, k g us2 ss2 H2 b2 p2 hg gp hg2 (nsth_same hN2 (hid_out _ _)) (by omega) ok2⟩
/-! ### _law_parts -/
def spParts (K : PySem.W.Frag) : Sp := fun xs H Q _ => ∃ (a : Addr) (ys : List V) (ss : List NSt), xs = [.ref a] ∧ (SqL K H a ys ∨ SqT K H a ys) ∧ ys.length ≤ 1000 ∧ NSV K H ys ss ∧ (∀ s ∈ ss, NOk s) ∧
  ∀ (d : Addr) (es : List Ent) (H' : Hp), Same H H' → H d = none → H' d = some (.dK (kvsE es)) → LsE H' es → pE es = prtM ss → Q (.ref d) H'
abbrev nPa : List Str := ["_law_steps_here", "_law_found", "_law_action", "_law_name_here", "_law_item"]
theorem scPa : FnScope nPa ["_law_steps_here"] (defScope sLawParts) := ⟨rfl, rfl, rfl, by decide +kernel, rfl, by decide +kernel, by decide +kernel⟩
/-- the entry n with a new list -/
def setE (es : List Ent) (n : Str) (W : Addr) (s : Stp) : List Ent := if es.any (fun e => decide (e.1 = n)) = true then es.map (fun e => if e.1 = n then (e.1, W, e.2.2 ++ [s]) else e) else es ++ [(n, W, [s])]
theorem setE_kvs (es : List Ent) (n : Str) (W : Addr) (s : Stp) : putK (kvsE es) (Sum.inr n) (.ref W) = kvsE (setE es n W s) := by
  unfold putK setE kvsE
  have e : ((es.map fun e => ((Sum.inr e.1 : Key), V.ref e.2.1)).any fun kv => decide (kv.1 = Sum.inr n)) = es.any (fun e => decide (e.1 = n)) := by
    rw [List.any_map]
    congr 1
    funext x
    show decide ((Sum.inr x.1 : Key) = Sum.inr n) = decide (x.1 = n)
    by_cases c : x.1 = n
    · rw [decide_eq_true c, decide_eq_true (by rw [c])]
    · rw [decide_eq_false c, decide_eq_false (fun q => c (Sum.inr.inj q))]
  rw [e]
  split
  · rw [List.map_map, List.map_map]
    refine List.map_congr_left fun x _ => ?_
    show (if (Sum.inr x.1 : Key) = Sum.inr n then ((Sum.inr x.1 : Key), V.ref W) else (Sum.inr x.1, V.ref x.2.1)) = (Sum.inr (if x.1 = n then (x.1, W, x.2.2 ++ [s]) else x).1, V.ref (if x.1 = n then (x.1, W, x.2.2 ++ [s]) else x).2.1)
    by_cases c : x.1 = n
    · rw [if_pos (by rw [c]), if_pos c]
    · rw [if_neg (fun q => c (Sum.inr.inj q)), if_neg c]
  · rw [List.map_append]
    rfl
theorem setE_p (es : List Ent) (n : Str) (W : Addr) (s : Stp) : pE (setE es n W s) = addP (pE es) n s := by
  unfold setE addP pE
  have e : ((es.map fun e => (e.1, e.2.2)).any fun p => decide (p.1 = n)) = es.any (fun e => decide (e.1 = n)) := by
    rw [List.any_map]
    rfl
  rw [e]
  split
  · rw [List.map_map, List.map_map]
    refine List.map_congr_left fun x _ => ?_
    show ((if x.1 = n then (x.1, W, x.2.2 ++ [s]) else x).1, (if x.1 = n then (x.1, W, x.2.2 ++ [s]) else x).2.2) = if x.1 = n then (x.1, x.2.2 ++ [s]) else (x.1, x.2.2)
    split <;> rfl
  · rw [List.map_append]
    rfl
theorem setE_ls {H : Hp} {es : List Ent} {n : Str} {W : Addr} {s : Stp} {ws : List V} (h : LsE H es) (hW : H W = some (.lst ws)) (old : ∀ e ∈ es, e.1 = n → StepsH H ws (e.2.2 ++ [s])) (new : (∀ e ∈ es, e.1 ≠ n) → StepsH H ws [s]) : LsE H (setE es n W s) := by
  intro e me
  unfold setE at me
  split at me
  · obtain ⟨x, mx, rfl⟩ := List.mem_map.mp me
    by_cases c : x.1 = n
    · rw [if_pos c]
      exact ⟨ws, hW, old x mx c⟩
    · rw [if_neg c]
      exact h x mx
  · rename_i c
    rcases List.mem_append.mp me with q | q
    · exact h e q
    · rw [List.mem_singleton.mp q]
      exact ⟨ws, hW, new fun x mx q => c (List.any_eq_true.mpr ⟨x, mx, decide_eq_true q⟩)⟩
theorem has_parts (D : Def K mg "_law_parts" sLawParts) : Has P w K mg base "_law_parts" 1 ["_law_steps_here"] [] (spParts K) := by
  refine has_of D scPa (fun _ _ _ _ _ _ us hl => match us, hl with | [_], _ => rfl) (fun xs H Q E h => ?_) (fun f cv A out s H xs Q E hr h => ?_)
  · obtain ⟨a, ys, ss, rfl, _⟩ := h
    rfl
  · obtain ⟨a, ys, ss, rfl, hS, hl, hV, hI, k⟩ := h
    have hu := hu_of hr
    have ly : ys.length = ss.length := Paired.length hV
    have go : ∀ {j : Nat} {x : V} {H2 : Hp} {d : Addr} {es : List Ent}, H d = none → ys[j]? = some x → Same H H2 → H2 d = some (.dK (kvsE es)) → LsE H2 es → pE es = prtM (ss.take j) → ∃ (t : Addr) (s : NSt), x = .ref t ∧ SqT K H2 t [.str (act s.1), .str s.2.1, .str s.2.2] ∧
        ∀ U, H2 U = none → ∃ L us, (valV (kvsE es) (Sum.inr s.2.1)).getD (.ref U) = .ref L ∧ (upd H2 U (.lst [])) L = some (.lst us) ∧ ∀ t', (upd H2 U (.lst [])) t' = none → ∀ M, (upd (upd H2 U (.lst [])) t' (.tup [.str (act s.1), .str s.2.2])) M = none →
          (upd (upd (upd H2 U (.lst [])) t' (.tup [.str (act s.1), .str s.2.2])) M (.lst [.ref t'])) L = some (.lst us) ∧ us.length + [V.ref t'].length ≤ sizeLine ∧ ∀ W, (upd (upd (upd H2 U (.lst [])) t' (.tup [.str (act s.1), .str s.2.2])) M (.lst [.ref t'])) W = none →
            (upd (upd (upd (upd H2 U (.lst [])) t' (.tup [.str (act s.1), .str s.2.2])) M (.lst [.ref t'])) W (.lst (us ++ [.ref t']))) d = some (.dK (kvsE es)) ∧ (kvsE es).length < sizeLine ∧
            LsE (upd (upd (upd (upd (upd H2 U (.lst [])) t' (.tup [.str (act s.1), .str s.2.2])) M (.lst [.ref t'])) W (.lst (us ++ [.ref t']))) d (.dK (putK (kvsE es) (Sum.inr s.2.1) (.ref W)))) (setE es s.2.1 W (s.1, s.2.2)) ∧ pE (setE es s.2.1 W (s.1, s.2.2)) = prtM (ss.take (j + 1)) ∧
            Same H (upd (upd (upd (upd (upd H2 U (.lst [])) t' (.tup [.str (act s.1), .str s.2.2])) M (.lst [.ref t'])) W (.lst (us ++ [.ref t']))) d (.dK (putK (kvsE es) (Sum.inr s.2.1) (.ref W)))) := by
      intro j x H2 d es hd hj s2 hdk hls pe
      obtain ⟨st, h1, t, e, h2⟩ := paired_at hV hj
      have pok := prtM_ok (ss := ss) j hI
      rw [← pe] at pok
      have jl := (List.getElem?_eq_some_iff.mp hj).1
      refine ⟨t, st, e, Same.tup s2 h2, fun U hU => ?_⟩
      have sU : Same H2 (upd H2 U (.lst [])) := Same.new hU
      -- the list as it was
      obtain ⟨L, us, eL, hL, o1, o2, o3⟩ : ∃ L us, (valV (kvsE es) (Sum.inr st.2.1)).getD (.ref U) = V.ref L ∧ (upd H2 U (.lst [])) L = some (.lst us) ∧ (∀ e ∈ es, e.1 = st.2.1 → StepsH (upd H2 U (.lst [])) us e.2.2) ∧ ((∀ e ∈ es, e.1 ≠ st.2.1) → us = []) ∧ us.length ≤ 1000 := by
        rw [valE]
        cases hf : es.find? (fun e => decide (e.1 = st.2.1)) with
        | none => exact ⟨U, [], rfl, upd_same, fun e m q => absurd q (find_no hf e m), fun _ => rfl, by decide⟩
        | some e =>
          obtain ⟨em, en⟩ := find_name hf
          obtain ⟨us, a1, a2⟩ := hls e em
          have ll : us.length = e.2.2.length := Paired.length a2
          have l2 := (pok.ok (e.1, e.2.2) (List.mem_map.mpr ⟨e, em, rfl⟩)).2.2
          have l2 : e.2.2.length ≤ j := l2
          refine ⟨e.2.1, us, rfl, sU _ _ a1, fun x mx q => ?_, fun q => absurd en (q e em), by omega⟩
          have z1 := find_at pok.nd mx
          rw [q, hf] at z1
          cases z1
          exact stepsH_sm a2 sU
      refine ⟨L, us, eL, hL, fun t' ht' M hM => ?_⟩
      have sT : Same (upd H2 U (.lst [])) (upd (upd H2 U (.lst [])) t' (.tup [.str (act st.1), .str st.2.2])) := Same.new ht'
      have sM : Same (upd (upd H2 U (.lst [])) t' (.tup [.str (act st.1), .str st.2.2])) (upd (upd (upd H2 U (.lst [])) t' (.tup [.str (act st.1), .str st.2.2])) M (.lst [.ref t'])) := Same.new hM
      refine ⟨sM _ _ (sT _ _ hL), by rw [sizeLine_eq, List.length_singleton]; omega, fun W hW => ?_⟩
      have sW : Same (upd (upd (upd H2 U (.lst [])) t' (.tup [.str (act st.1), .str st.2.2])) M (.lst [.ref t'])) (upd (upd (upd (upd H2 U (.lst [])) t' (.tup [.str (act st.1), .str st.2.2])) M (.lst [.ref t'])) W (.lst (us ++ [.ref t']))) := Same.new hW
      have s1 := (sT.trans sM).trans sW
      have sA := sU.trans s1
      have hW1 : (upd (upd (upd (upd H2 U (.lst [])) t' (.tup [.str (act st.1), .str st.2.2])) M (.lst [.ref t'])) W (.lst (us ++ [.ref t']))) W = some (.lst (us ++ [.ref t'])) := upd_same
      have ht1 : (upd (upd (upd (upd H2 U (.lst [])) t' (.tup [.str (act st.1), .str st.2.2])) M (.lst [.ref t'])) W (.lst (us ++ [.ref t']))) t' = some (.tup [.str (act st.1), .str st.2.2]) := sW _ _ (sM _ _ upd_same)
      generalize upd (upd (upd (upd H2 U (.lst [])) t' (.tup [.str (act st.1), .str st.2.2])) M (.lst [.ref t'])) W (.lst (us ++ [.ref t'])) = HB at s1 sA hW1 ht1 ⊢
      have hB := sA _ _ hdk
      refine ⟨hB, ?_, ?_, by rw [setE_p, prtM_take h1, pe], Same.free2 (s2.trans sA) hd⟩
      · have q := pok.len
        unfold pE at q
        rw [List.length_map] at q
        unfold kvsE
        rw [List.length_map, sizeLine_eq]
        omega
      · refine LsE.updD (setE_ls (hls.same sA) hW1 (fun e m q => Paired.snoc2 (stepsH_sm (o1 e m q) s1) ⟨t', rfl, ht1⟩) (fun q => ?_)) (fun us q => by rw [hB] at q; cases q) (fun us q => by rw [hB] at q; cases q)
        rw [o2 q]
        exact .cons ⟨t', rfl, ht1⟩ .nil
    rcases hS with hS | hS
    · refine ⟨_, pss_cons (ps_set (i := 1) scPa.nd rfl (.inl rfl) pe_dnewK)
        (pss_cons (ps_for PassesOwn.never rfl (pi_list (pv 0)) (pg_tup (by rfl) (pgs_cons (pg_name (i := 2) scPa.nd rfl (.inl rfl)) (pgs_cons (pg_name (i := 3) scPa.nd rfl (.inl rfl)) (pgs_cons (pg_name (i := 4) scPa.nd rfl (.inl rfl)) pgs_nil))))
          (pss_one (ps_dput hu (pv 1) (pv 3) (pe_op op_cat (pe_dget2 hu (pv 1) (pv 3) (pe_lst pa_nil) ⟨rfl, rfl, rfl, rfl⟩) (pe_lst (pa_cons (pe_tup (pa_cons (pv 2) (pa_cons (pv 4) pa_nil))) pa_nil))) rfl)))
        (pss_one (ps_ret (pv 1)))), ?_⟩
      refine fun d hd => ?_
      have sd : Same H (upd H d (.dK [])) := Same.new hd
      refine ⟨_, rfl, a, rfl, ⟨_, Same.seq sd hS⟩, for_list (K := K) (a := a) (xs := ys) (fun j σ H2 => ∃ (es : List Ent) (y2 y3 y4 : Option V), σ = [some (.ref a), some (.ref d), y2, y3, y4] ∧ H2 d = some (.dK (kvsE es)) ∧ LsE H2 es ∧ pE es = prtM (ss.take j) ∧ Same H H2) ⟨[], _, _, _, rfl, upd_same, fun e m => (by cases m), rfl, sd⟩ (fun j σ H2 _ q => ?_) ?_ ?_⟩
      · obtain ⟨_, _, _, _, _, _, _, _, s2⟩ := q
        exact Same.seq s2 hS
      · rintro j x σ H2 hj ⟨es, y2, y3, y4, rfl, hdk, hls, pe, s2⟩
        obtain ⟨t, st, rfl, hT, q⟩ := go hd hj s2 hdk hls pe
        refine ⟨t, _, rfl, hT, rfl, _, _, rfl, _, _, rfl, _, _, rfl, rfl, ?_⟩
        refine ⟨_, rfl, d, rfl, .inl ⟨_, .inl hdk⟩, _, rfl, (by show 0 ≤ sizeLine; decide), fun U hU => ?_⟩
        refine ⟨_, DGet.k (k := Sum.inr st.2.1) (Same.new hU _ _ hdk), ?_⟩
        obtain ⟨L, us, eL, hL, q2⟩ := q U hU
        rw [eL]
        refine ⟨_, rfl, _, rfl, (by show 2 ≤ sizeLine; decide), fun t' ht' => ⟨(by show 1 ≤ sizeLine; decide), fun M hM => ?_⟩⟩
        obtain ⟨q3, q4, q5⟩ := q2 t' ht' M hM
        refine ⟨L, M, us, [.ref t'], rfl, rfl, q3, upd_same, q4, fun W hW => ?_⟩
        obtain ⟨q6, q7, q8, q9, q10⟩ := q5 W hW
        exact ⟨_, rfl, _, rfl, d, _, rfl, .inl ⟨kvsE es, Sum.inr st.2.1, q6, rfl, q7, rfl⟩, setE es st.2.1 W (st.1, st.2.2), _, _, _, rfl, by rw [upd_same, setE_kvs], q8, q9, q10⟩
      · rintro σ H2 ⟨es, y2, y3, y4, rfl, hdk, hls, pe, s2⟩
        rw [ly, List.take_length] at pe
        exact ⟨_, rfl, k d es H2 s2 hd hdk hls pe⟩
    · refine ⟨_, pss_cons (ps_set (i := 1) scPa.nd rfl (.inl rfl) pe_dnewK)
        (pss_cons (ps_for PassesOwn.never rfl (pi_tup (pv 0)) (pg_tup (by rfl) (pgs_cons (pg_name (i := 2) scPa.nd rfl (.inl rfl)) (pgs_cons (pg_name (i := 3) scPa.nd rfl (.inl rfl)) (pgs_cons (pg_name (i := 4) scPa.nd rfl (.inl rfl)) pgs_nil))))
          (pss_one (ps_dput hu (pv 1) (pv 3) (pe_op op_cat (pe_dget2 hu (pv 1) (pv 3) (pe_lst pa_nil) ⟨rfl, rfl, rfl, rfl⟩) (pe_lst (pa_cons (pe_tup (pa_cons (pv 2) (pa_cons (pv 4) pa_nil))) pa_nil))) rfl)))
        (pss_one (ps_ret (pv 1)))), ?_⟩
      refine fun d hd => ?_
      have sd : Same H (upd H d (.dK [])) := Same.new hd
      refine ⟨_, rfl, a, rfl, ⟨_, Same.tup sd hS⟩, for_tup (K := K) (a := a) (xs := ys) (fun j σ H2 => ∃ (es : List Ent) (y2 y3 y4 : Option V), σ = [some (.ref a), some (.ref d), y2, y3, y4] ∧ H2 d = some (.dK (kvsE es)) ∧ LsE H2 es ∧ pE es = prtM (ss.take j) ∧ Same H H2) ⟨[], _, _, _, rfl, upd_same, fun e m => (by cases m), rfl, sd⟩ (fun j σ H2 _ q => ?_) ?_ ?_⟩
      · obtain ⟨_, _, _, _, _, _, _, _, s2⟩ := q
        exact Same.tup s2 hS
      · rintro j x σ H2 hj ⟨es, y2, y3, y4, rfl, hdk, hls, pe, s2⟩
        obtain ⟨t, st, rfl, hT, q⟩ := go hd hj s2 hdk hls pe
        refine ⟨t, _, rfl, hT, rfl, _, _, rfl, _, _, rfl, _, _, rfl, rfl, ?_⟩
        refine ⟨_, rfl, d, rfl, .inl ⟨_, .inl hdk⟩, _, rfl, (by show 0 ≤ sizeLine; decide), fun U hU => ?_⟩
        refine ⟨_, DGet.k (k := Sum.inr st.2.1) (Same.new hU _ _ hdk), ?_⟩
        obtain ⟨L, us, eL, hL, q2⟩ := q U hU
        rw [eL]
        refine ⟨_, rfl, _, rfl, (by show 2 ≤ sizeLine; decide), fun t' ht' => ⟨(by show 1 ≤ sizeLine; decide), fun M hM => ?_⟩⟩
        obtain ⟨q3, q4, q5⟩ := q2 t' ht' M hM
        refine ⟨L, M, us, [.ref t'], rfl, rfl, q3, upd_same, q4, fun W hW => ?_⟩
        obtain ⟨q6, q7, q8, q9, q10⟩ := q5 W hW
        exact ⟨_, rfl, _, rfl, d, _, rfl, .inl ⟨kvsE es, Sum.inr st.2.1, q6, rfl, q7, rfl⟩, setE es st.2.1 W (st.1, st.2.2), _, _, _, rfl, by rw [upd_same, setE_kvs], q8, q9, q10⟩
      · rintro σ H2 ⟨es, y2, y3, y4, rfl, hdk, hls, pe, s2⟩
        rw [ly, List.take_length] at pe
        exact ⟨_, rfl, k d es H2 s2 hd hdk hls pe⟩
end
end SE
namespace SE
open PySem PySem.Spec PyProof.Rows L2
theorem effM_app2 (ss ts : List Stp) : effM (ss ++ ts) = (effM ss).bind fun D => joinF D (ts.map partM) := by
  unfold effM joinM
  rw [List.map_append, joinF_app]
theorem effM_snoc (ss : List Stp) (s : Stp) : effM (ss ++ [s]) = (effM ss).bind fun D => comp D (partM s) := by
  rw [effM_app2]
  congr 1
  funext D
  show (match comp D (partM s) with | none => none | some E => some E) = _
  cases comp D (partM s) <;> rfl
theorem effM_none {ss : List Stp} {j : Nat} (h : effM (ss.take j) = none) : effM ss = none := by
  rw [← List.take_append_drop j ss, effM_app2, h]
  rfl
theorem comp_push' (x y : List Str) (p : Int) (z : Str) : comp (x, y, p) (partM (true, z)) = some (x, z :: y, if ((z :: y).length : Int) - (x.length : Int) > p then ((z :: y).length : Int) - (x.length : Int) else p) := by
  have e : ((z :: y).length : Int) - (x.length : Int) = (y.length : Int) - (x.length : Int) + 1 := by
    rw [List.length_cons]
    omega
  rw [e]
  simp [comp, partM]
theorem comp_pop0' (x : List Str) (p : Int) (z : Str) (hp : 0 ≤ p) : comp (x, [], p) (partM (false, z)) = some (x ++ [z], [], if ((0 : Nat) : Int) - ((x ++ [z]).length : Int) > p then ((0 : Nat) : Int) - ((x ++ [z]).length : Int) else p) := by
  have a : ¬ ((0 : Nat) : Int) - ((x ++ [z]).length : Int) > p := by omega
  rw [if_neg a]
  have b : ¬ ((0 : Nat) : Int) - (x.length : Int) + 0 > p := by omega
  have e : comp (x, [], p) (partM (false, z)) = some (x ++ [z], [], if ((0 : Nat) : Int) - (x.length : Int) + 0 > p then ((0 : Nat) : Int) - (x.length : Int) + 0 else p) := by simp [comp, partM]
  rw [e, if_neg b]
theorem comp_pop' (x r : List Str) (p : Int) (t z : Str) (hp : ((t :: r).length : Int) - (x.length : Int) ≤ p) : comp (x, t :: r, p) (partM (false, z)) = if t = z then some (x, r, if (r.length : Int) - (x.length : Int) > p then (r.length : Int) - (x.length : Int) else p) else none := by
  have em : min (t :: r).length [z].length = 1 := by
    rw [List.length_cons, List.length_singleton]
    omega
  rw [List.length_cons] at hp
  have a : ¬ (r.length : Int) - (x.length : Int) > p := by omega
  have b : ¬ ((t :: r).length : Int) - (x.length : Int) + 0 > p := by rw [List.length_cons]; omega
  rw [if_neg a]
  by_cases c : t = z
  · rw [if_pos c]
    have e : comp (x, t :: r, p) (partM (false, z)) = some (x, r, if ((t :: r).length : Int) - (x.length : Int) + 0 > p then ((t :: r).length : Int) - (x.length : Int) + 0 else p) := by simp [comp, partM, em, c]
    rw [e, if_neg b]
  · rw [if_neg c]
    simp [comp, partM, em, c]
section
variable {P : Program} {w : World} {K : PySem.W.Frag} {mg : Str → Option Value} {base : Heap}
/-! ### _law_effect -/
def spLEff (K : PySem.W.Frag) : Sp := fun xs H Q _ => ∃ (a : Addr) (ys : List V) (ss : List Stp), xs = [.ref a] ∧ SqL K H a ys ∧ StepsV K H ys ss ∧ (∀ s ∈ ss, Item s.2) ∧ ss.length ≤ 1000 ∧ (effM ss = none → ∀ H', Same H H' → Q .non H') ∧
  (∀ xs zs p, effM ss = some (xs, zs, p) → ∀ (t u v : Addr) (H' : Hp), Same H H' → H' t = some (.tup [.ref u, .ref v, .int p]) → H' u = some (.tup (xs.map V.str)) → H' v = some (.tup (zs.map V.str)) → Q (.ref t) H')
abbrev nLe : List Str := ["_law_steps_here", "_law_pops", "_law_own", "_law_top", "_law_action", "_law_item"]
theorem scLe' : FnScope nLe ["_law_steps_here"] (defScope sLawEffect) := ⟨rfl, rfl, rfl, by decide +kernel, rfl, by decide +kernel, by decide +kernel⟩
theorem has_leff (D : Def K mg "_law_effect" sLawEffect) (mx : mg "max" = none) (ml : mg "len" = none) (mt : mg "tuple" = none) : Has P w K mg base "_law_effect" 1 ["_law_steps_here"] [] (spLEff K) := by
  refine has_of D scLe' (fun _ _ _ _ _ _ us hl => match us, hl with | [_], _ => rfl) (fun xs H Q E h => ?_) (fun f cv A out s H xs Q E hr h => ?_)
  · obtain ⟨a, ys, ss, rfl, _⟩ := h
    rfl
  · obtain ⟨a, ys, ss, rfl, hS, hV, hI, hl, kN, kS⟩ := h
    have ly : ys.length = ss.length := hV.length
    refine ⟨_, pss_cons (ps_par3 (i := 1) (j := 2) (l := 3) (by rfl) scLe'.nd rfl rfl rfl (by decide) (by decide) (by decide) rfl rfl rfl (pa_cons (pe_lst pa_nil) (pa_cons (pe_lst pa_nil) (pa_cons pe_int pa_nil))) (by rfl))
      (pss_cons (ps_for PassesOwn.never rfl (pi_list (pv 0)) (pg_tup (by rfl) (pgs_cons (pg_name (i := 4) scLe'.nd rfl (.inl rfl)) (pgs_cons (pg_name (i := 5) scLe'.nd rfl (.inl rfl)) pgs_nil)))
        (Evl.pss_cut (ps_if (pt_cmpR op_eq (pv 4) pe_str (nomark _))
          (pss_one (ps_expr (pe_bm PySem.F.plainAttrs_list PySem.F.slot_list_append PySem.F.type_list_append mt_append (pv 2) (pa_cons (pv 5) pa_nil))))
          (pss_one (ps_if (pt_cmpR (op_eqD hr.units) (pv 2) (pe_lst pa_nil) (nomark _))
            (pss_one (ps_expr (pe_bm PySem.F.plainAttrs_list PySem.F.slot_list_append PySem.F.type_list_append mt_append (pv 1) (pa_cons (pv 5) pa_nil))))
            (pss_one (ps_if (pt_cmpR op_ne (pe_bm0 PySem.F.plainAttrs_list PySem.F.slot_list_pop PySem.F.type_list_pop mt_pop (pv 2)) (pv 5) (nomark _)) (pss_one (ps_ret pe_non)) pss_nil)))))
        (pss_one (ps_set (i := 3) scLe'.nd rfl (.inl rfl) (pe_callB (call_max2 rfl) (by rfl) mx (by decide +kernel) (pa_cons (pv 3) (pa_cons (pe_op op_sub (pe_callB call_len_seq (by rfl) ml PySem.boot_len (pa_cons (pv 2) pa_nil)) (pe_callB call_len_seq (by rfl) ml PySem.boot_len (pa_cons (pv 1) pa_nil))) pa_nil)))))))
      (pss_one (ps_ret (pe_tup (pa_cons (pe_callTy call_tuple_of (by rfl) mt (by decide +kernel) (pa_cons (pv 1) pa_nil)) (pa_cons (pe_callTy call_tuple_of (by rfl) mt (by decide +kernel) (pa_cons (pe_revL (pv 2)) pa_nil)) (pa_cons (pv 3) pa_nil))))))), ?_⟩
    refine ⟨(by show 0 ≤ sizeLine; decide), fun L1 h1 => ⟨(by show 0 ≤ sizeLine; decide), fun L2 h2 => ⟨_, _, _, rfl, ?_⟩⟩⟩
    have s1 : Same H (upd H L1 (.lst [])) := Same.new h1
    have s2 : Same (upd H L1 (.lst [])) (upd (upd H L1 (.lst [])) L2 (.lst [])) := Same.new h2
    have ne : L1 ≠ L2 := ne_of_none upd_same h2
    have n2 : H L2 = none := s1.free h2
    refine ⟨_, rfl, a, rfl, ⟨_, Same.seq (s1.trans s2) hS⟩, for_list (K := K) (a := a) (xs := ys) (fun j σ H2 => ∃ (xs zs : List Str) (p : Int) (y4 y5 : Option V), σ = [some (.ref a), some (.ref L1), some (.ref L2), some (.int p), y4, y5] ∧ effM (ss.take j) = some (xs, zs, p) ∧ H2 L1 = some (.lst (xs.map V.str)) ∧ H2 L2 = some (.lst (zs.reverse.map V.str)) ∧ Same H H2) ⟨[], [], 0, _, _, rfl, rfl, s2 _ _ upd_same, upd_same, s1.trans s2⟩ (fun j σ H2 _ q => ?_) ?_ ?_⟩
    · obtain ⟨_, _, _, _, _, _, _, _, _, s3⟩ := q
      exact Same.seq s3 hS
    · rintro j x σ H2 hx ⟨xs, zs, p, y4, y5, rfl, hE, hP, hO, s3⟩
      obtain ⟨⟨b, z⟩, hst, t, rfl, hT⟩ := StepsV.at hV hx
      have iz : Item z := hI (b, z) (List.mem_of_getElem? hst)
      have jl := (List.getElem?_eq_some_iff.mp hx).1
      obtain ⟨pok, pl, pp⟩ := effM_ok (fun s m => hI s (List.mem_of_mem_take m)) hE
      have pl : xs.length + zs.length ≤ (ss.take j).length := pl
      rw [List.length_take] at pl
      have en : effM (ss.take (j + 1)) = comp (xs, zs, p) (partM (b, z)) := by
        rw [List.take_add_one, hst]
        show effM (ss.take j ++ [(b, z)]) = _
        rw [effM_snoc, hE]
        rfl
      refine ⟨t, _, rfl, Same.tup s3 hT, rfl, _, _, rfl, _, _, rfl, rfl, ?_⟩
      refine ⟨fun σ H3 => ∃ (xs' zs' : List Str), σ = [some (.ref a), some (.ref L1), some (.ref L2), some (.int p), some (.str (act b)), some (.str z)] ∧ comp (xs, zs, p) (partM (b, z)) = some (xs', zs', if (zs'.length : Int) - (xs'.length : Int) > p then (zs'.length : Int) - (xs'.length : Int) else p) ∧ H3 L1 = some (.lst (xs'.map V.str)) ∧ H3 L2 = some (.lst (zs'.reverse.map V.str)) ∧ Same H H3, ?_, ?_⟩
      · refine ⟨_, rfl, rfl, _, rfl, ?_⟩
        cases b with
        | true =>
          rw [decide_eq_true (by rfl)]
          refine iteT ⟨.ref L2, rfl, .inl ⟨rfl, _, .of hO⟩, _, rfl, L2, _, _, rfl, rfl, hO, ?_, xs, z :: zs, rfl, comp_push' _ _ _ _, ?_, ?_, Same.free2 s3 n2⟩
          · rw [List.length_map, List.length_reverse, sizeLine_eq]
            omega
          · rw [upd_ne ne]
            exact hP
          · rw [upd_same, List.reverse_cons, List.map_append]
            rfl
        | false =>
          have np : ¬ (act false = Str.ofString "push") := by decide +kernel
          rw [decide_eq_false (fun e => np (V.str.inj e))]
          refine iteF ⟨_, rfl, (by show 0 ≤ sizeLine; decide), fun M hM => ?_⟩
          have sM : Same H2 (upd H2 M (.lst [])) := Same.new hM
          have izs : ∀ y ∈ zs.reverse, Item y := fun y m => pok.i2 y (List.mem_reverse.mp m)
          refine ⟨.list (zs.reverse.map .str), .list (([] : List Str).map .str), .lst (.of (sM _ _ hO)) (dp_strs _), .lst (.of upd_same) .nil, (nice_list (nice_strs izs)).shaped (by decide), rfl, _, rfl, ?_⟩
          rw [eqv_listS]
          have hPM := sM _ _ hP
          have hOM := sM _ _ hO
          cases zs with
          | nil =>
            rw [show decide (([] : List Str).reverse = []) = true from rfl]
            refine iteT ⟨.ref L1, rfl, .inl ⟨rfl, _, .of hPM⟩, _, rfl, L1, _, _, rfl, rfl, hPM, ?_, xs ++ [z], [], rfl, comp_pop0' _ _ _ pok.h0, ?_, ?_, Same.free2 (s3.trans sM) h1⟩
            · rw [List.length_map, sizeLine_eq]
              omega
            · rw [upd_same, List.map_append]
              rfl
            · rw [upd_ne (Ne.symm ne)]
              exact hOM
          | cons y r =>
            rw [decide_eq_false (by simp)]
            have hr' : (y :: r).reverse.map V.str = r.reverse.map V.str ++ [V.str y] := by
              rw [List.reverse_cons, List.map_append]
              rfl
            rw [hr'] at hOM
            refine iteF ⟨.ref L2, rfl, .inl ⟨rfl, _, .of hOM⟩, L2, r.reverse.map V.str ++ [V.str y], .str y, rfl, rfl, hOM, ?_, ?_⟩
            · rw [List.length_append, List.length_singleton, Nat.add_sub_cancel, List.getElem?_append_right (Nat.le_refl _), Nat.sub_self]
              rfl
            · rw [List.dropLast_concat]
              refine ⟨_, rfl, rfl, _, rfl, ?_⟩
              have cp := comp_pop' xs r p y z pok.h1
              by_cases c : y = z
              · rw [decide_eq_true (by rw [c])]
                rw [if_pos c] at cp
                exact iteF ⟨xs, r, rfl, cp, by rw [upd_ne ne]; exact hPM, upd_same, Same.free2 (s3.trans sM) n2⟩
              · rw [decide_eq_false (fun e => c (V.str.inj e))]
                rw [if_neg c] at cp
                exact iteT (kN (effM_none (en.trans cp)) _ (Same.free2 (s3.trans sM) n2))
      · rintro σ H3 ⟨xs', zs', rfl, hc, hP3, hO3, s4⟩
        refine ⟨_, rfl, _, rfl, L2, _, rfl, .inl (.of hO3), _, rfl, L1, _, rfl, .inl (.of hP3), _, _, rfl, rfl, p, _, rfl, xs', zs', _, some (.str (act b)), some (.str z), ?_, en.trans hc, hP3, hO3, s4⟩
        rw [List.length_map, List.length_map, List.length_reverse]
        rfl
    · rintro σ H2 ⟨xs, zs, p, y4, y5, rfl, hE, hP, hO, s3⟩
      rw [ly, List.take_length] at hE
      refine ⟨_, rfl, L1, _, rfl, .inl ⟨.of hP, fun u hu => ?_⟩⟩
      have su : Same H2 (upd H2 u (.tup (xs.map V.str))) := Same.new hu
      refine ⟨_, rfl, L2, _, rfl, .of (su _ _ hO), fun R hR => ?_⟩
      have sR : Same (upd H2 u (.tup (xs.map V.str))) (upd (upd H2 u (.tup (xs.map V.str))) R (.lst (zs.reverse.map V.str).reverse)) := Same.new hR
      refine ⟨R, _, rfl, .inl ⟨.of upd_same, fun v hv => ?_⟩⟩
      have sv := Same.new (o := .tup (zs.reverse.map V.str).reverse) hv
      refine ⟨_, rfl, (by show 3 ≤ sizeLine; decide), fun t ht => ?_⟩
      have st := Same.new (o := .tup [.ref u, .ref v, .int p]) ht
      refine kS xs zs p hE t u v _ ((((s3.trans su).trans sR).trans sv).trans st) upd_same (st _ _ (sv _ _ (sR _ _ upd_same))) ?_
      rw [st _ _ upd_same, ← List.map_reverse, List.reverse_reverse]
end
end SE
namespace SE
open PySem PySem.Spec PyProof.Rows L2
theorem merge_has (B : Addr → Prop) : ∀ (es : List (Str × Addr)) (acc : List (Key × V)) (M : Str → Prop), (∀ n, M n → ∃ b, B b ∧ valV acc (Sum.inr n) = some (.ref b)) → (∀ e ∈ es, B e.2) → ∀ n, (M n ∨ n ∈ es.map (·.1)) → ∃ b, B b ∧ valV (mergeK acc (es.map fun e => ((Sum.inr e.1 : Key), V.ref e.2))) (Sum.inr n) = some (.ref b)
  | [], acc, M, h, _, n, hn => by
    rcases hn with q | q
    · exact h n q
    · cases q
  | e :: es, acc, M, h, hB, n, hn => by
    refine merge_has B es (putK acc (Sum.inr e.1) (.ref e.2)) (fun x => M x ∨ x = e.1) (fun x hx => ?_) (fun x m => hB x (List.mem_cons_of_mem _ m)) n ?_
    · rw [valV_put]
      by_cases c : x = e.1
      · rw [if_pos (by rw [c])]
        exact ⟨e.2, hB e List.mem_cons_self, rfl⟩
      · rw [if_neg (fun q => c (Sum.inr.inj q))]
        rcases hx with q | q
        · exact h x q
        · exact absurd q c
    · rcases hn with q | q
      · exact .inl (.inl q)
      · rw [List.map_cons] at q
        rcases List.mem_cons.mp q with q | q
        · exact .inl (.inr q)
        · exact .inr q
/-- what holds between two turns -/
structure WI (H3 : Hp) (p g : Addr) (B : List Addr) (j : Nat) (us : List V) (ss : List NSt) (Hx : Hp) : Prop where
  gp : g ≠ p
  gB : g ∉ B
  pB : p ∉ B
  at_ : Hx g = some (.lst us)
  n : NStH (hid (g :: p :: B) Hx) us ss
  pl : Pool Hx p
  s : Same (hid (g :: p :: B) H3) (hid (g :: p :: B) Hx)
  bs : ∀ b ∈ B, ∃ ws : List Str, Hx b = some (.lst (ws.map V.str)) ∧ (∀ z ∈ ws, Item z) ∧ ws.length ≤ j
  ok : ∀ s ∈ ss, NOk s
section
variable {H3 Hx Hy : Hp} {p g : Addr} {B : List Addr} {j : Nat} {us : List V} {ss : List NSt}
theorem WI.bp (a : WI H3 p g B j us ss Hx) {b : Addr} (hb : b ∈ B) : b ≠ p := fun e => a.pB (e ▸ hb)
theorem WI.bg (a : WI H3 p g B j us ss Hx) {b : Addr} (hb : b ∈ B) : b ≠ g := fun e => a.gB (e ▸ hb)
theorem WI.new (a : WI H3 p g B j us ss Hx) (e : Same Hx Hy) : WI H3 p g B j us ss Hy := ⟨a.gp, a.gB, a.pB, e _ _ a.at_, nsth_same a.n (hid_of e), a.pl.same e, a.s.trans (hid_of e), fun b hb => by
  obtain ⟨ws, h1, h2⟩ := a.bs b hb
  exact ⟨ws, e _ _ h1, h2⟩, a.ok⟩
theorem WI.draw (a : WI H3 p g B j us ss Hx) (e : But p Hx Hy) (q : Pool Hy p) : WI H3 p g B j us ss Hy :=
  have s : Same (hid (g :: p :: B) Hx) (hid (g :: p :: B) Hy) := hid_but e (by simp)
  ⟨a.gp, a.gB, a.pB, e _ _ a.gp a.at_, nsth_same a.n s, q, a.s.trans s, fun b hb => by
  obtain ⟨ws, h1, h2⟩ := a.bs b hb
  exact ⟨ws, e _ _ (a.bp hb) h1, h2⟩, a.ok⟩
theorem WI.pile (a : WI H3 p g B j us ss Hx) {b : Addr} (hb : b ∈ B) {ws : List Str} (hI : ∀ z ∈ ws, Item z) (hl : ws.length ≤ j + 1) : WI H3 p g B (j + 1) us ss (upd Hx b (.lst (ws.map V.str))) :=
  have s : Same (hid (g :: p :: B) Hx) (hid (g :: p :: B) (upd Hx b (.lst (ws.map V.str)))) := hid_upd (by simp [hb])
  ⟨a.gp, a.gB, a.pB, by rw [upd_ne (Ne.symm (a.bg hb))]; exact a.at_, nsth_same a.n s, a.pl.upd (a.bp hb), a.s.trans s, fun c hc => by
  by_cases e : c = b
  · subst e
    exact ⟨ws, upd_same, hI, hl⟩
  · obtain ⟨vs, h1, h2, h3⟩ := a.bs c hc
    exact ⟨vs, by rw [upd_ne e]; exact h1, h2, by omega⟩, a.ok⟩
theorem WI.up (a : WI H3 p g B j us ss Hx) : WI H3 p g B (j + 1) us ss Hx := ⟨a.gp, a.gB, a.pB, a.at_, a.n, a.pl, a.s, fun b hb => by
  obtain ⟨ws, h1, h2, h3⟩ := a.bs b hb
  exact ⟨ws, h1, h2, by omega⟩, a.ok⟩
theorem WI.app (a : WI H3 p g B j us ss Hx) {t : Addr} {s : NSt} (ht : Hx t = none) (hs : NOk s) : WI H3 p g B j (us ++ [.ref t]) (ss ++ [s]) (upd (upd Hx t (.tup [.str (act s.1), .str s.2.1, .str s.2.2])) g (.lst (us ++ [.ref t]))) := by
  have b := a.new (Same.new (o := .tup [.str (act s.1), .str s.2.1, .str s.2.2]) ht)
  have tg : t ≠ g := Ne.symm (ne_of_none a.at_ ht)
  have tp : t ≠ p := a.pl.free ht
  have tB : t ∉ B := fun m => by
    obtain ⟨ws, h1, _⟩ := a.bs t m
    rw [ht] at h1
    cases h1
  have s0 : Same (hid (g :: p :: B) (upd Hx t (.tup [.str (act s.1), .str s.2.1, .str s.2.2]))) (hid (g :: p :: B) (upd (upd Hx t (.tup [.str (act s.1), .str s.2.1, .str s.2.2])) g (.lst (us ++ [.ref t])))) := hid_upd (by simp)
  refine ⟨a.gp, a.gB, a.pB, upd_same, Paired.snoc2 (nsth_same b.n s0) ⟨t, rfl, ?_⟩, b.pl.upd a.gp, b.s.trans s0, fun c hc => ?_, fun q mq => ?_⟩
  · rw [hid_ne (by simp [tg, tp, tB]), upd_ne tg]
    exact upd_same
  · obtain ⟨ws, h1, h2⟩ := b.bs c hc
    exact ⟨ws, by rw [upd_ne (a.bg hc)]; exact h1, h2⟩
  · rcases List.mem_append.mp mq with z | z
    · exact a.ok q z
    · rw [List.mem_singleton.mp z]
      exact hs
theorem WI.len (a : WI H3 p g B j us ss Hx) : us.length = ss.length := Paired.length a.n
/-- what stands outside -/
theorem WI.out (a : WI H3 p g B j us ss Hx) {c : Addr} {o : HO} (h : H3 c = some o) (h1 : c ≠ g) (h2 : c ≠ p) (h3 : c ∉ B) : Hx c = some o := hid_out _ _ _ _ (a.s _ _ (by rw [hid_ne (by simp [h1, h2, h3])]; exact h))
end
section
variable {P : Program} {w : World} {K : PySem.W.Frag} {mg : Str → Option Value} {base : Heap}
/-! ### _law_named_well -/
abbrev nNw : List Str := ["_law_pool_here", "_law_names", "_law_items_here", "_law_many", "_law_found", "_law_piles", "_law_name_here", "_law_turn", "_law_pile", "_law_item"]
theorem scNw : FnScope nNw ["_law_pool_here", "_law_names", "_law_items_here", "_law_many"] (defScope sLawNamedWell) := ⟨rfl, rfl, rfl, by decide +kernel, rfl, by decide +kernel, by decide +kernel⟩
theorem has_well (D : Def K mg "_law_named_well" sLawNamedWell) (GT : Has P w K mg base "_law_take" 1 ["_law_pool_here", "_law_many"] [] spTake) (ml : mg "len" = none) (md : mg "dict" = none) (mr : mg "range" = none) : Has P w K mg base "_law_named_well" 2 ["_law_pool_here", "_law_names", "_law_items_here", "_law_many"] [] spNamed := by
  refine has_of D scNw (fun _ _ _ _ _ _ us hl => match us, hl with | [_, _, _, _], _ => rfl) (fun xs H Q E h => ?_) (fun f cv A out s H xs Q E hr h => ?_)
  · obtain ⟨p, nl, il, m, ns, zs, rfl, _⟩ := h
    rfl
  · obtain ⟨p, nl, il, m, ns, zs, rfl, hp, np, hn, nne, n1, nI, lp', hil, zne, z1, zI, m0, m1, k⟩ := h
    have hu := hu_of hr
    have hr1 : Room 1 _ := hr.mono (by decide)
    refine ⟨_, pss_cons (ps_par (i := 4) (j := 5) (by rfl) scNw.nd rfl rfl (by decide) rfl rfl (pa_cons (pe_lst pa_nil) (pa_cons (pe_callTy (call_dictP rfl) (by rfl) md (by decide +kernel) (pa_cons
        (pe_lc (own := [("_law_name_here", 6)]) (g := gName 6) (tt := tYes) (te := tTup (tCons (tVar 6) (tCons (tLst tNil) tNil))) rfl scNw.nd (pi_list (pv 1)) (blkOk_by (own := [("_law_name_here", 6)]) (N := nNw) (sc := defScope sLawNamedWell) (by decide +kernel))
          (fun _ _ _ _ _ => pg_name (i := 6) scNw.nd rfl (.inl rfl)) (fun _ _ _ _ _ => pts_nil) (fun _ _ _ _ _ => pe_tup (pa_cons (pv 6) (pa_cons (pe_lst pa_nil) pa_nil)))) pa_nil)) pa_nil)) (by rfl))
      (pss_cons (ps_for PassesOwn.never rfl (pi_range1 (by rfl) mr (pa_cons (pv 3) pa_nil)) (pg_name (i := 7) scNw.nd rfl (.inl rfl))
        (pss_cons (ps_set (i := 6) scNw.nd rfl (.inl rfl) (pe_ix ix_list (pv 1) (pe_has GT hr1 (pa_cons (pv 0) (pa_cons (pe_callB call_len_seq (by rfl) ml PySem.boot_len (pa_cons (pv 1) pa_nil)) pa_nil))) (fun _ _ => rfl)))
        (pss_cons (ps_set (i := 8) scNw.nd rfl (.inl rfl) (pe_dget hu (pv 5) (pv 6) (fun _ _ => rfl)))
        (pss_one (ps_if (pt_cut (PW.pt (pw_and (pt_cmpR (op_neD hr.units) (pv 8) (pe_lst pa_nil) (nomark _)) (pw_and1 (pt_cmpR op_lt (pe_has GT hr1 (pa_cons (pv 0) (pa_cons pe_int pa_nil))) pe_int (nomark _))))))
          (pss_one (ps_expr (pe_bm PySem.F.plainAttrs_list PySem.F.slot_list_append PySem.F.type_list_append mt_append (pv 4) (pa_cons (pe_tup (pa_cons pe_str (pa_cons (pv 6) (pa_cons (pe_bm0 PySem.F.plainAttrs_list PySem.F.slot_list_pop PySem.F.type_list_pop mt_pop (pv 8)) pa_nil)))) pa_nil))))
          (pss_one (ps_if (pt_cut (PW.pt (pw_and (pt_cmpR (op_eqD hr.units) (pv 8) (pe_lst pa_nil) (nomark _)) (pw_and1 (pt_cmpR op_eq (pe_has GT hr1 (pa_cons (pv 0) (pa_cons pe_int pa_nil))) pe_int (nomark _))))))
            (pss_one (ps_expr (pe_bm PySem.F.plainAttrs_list PySem.F.slot_list_append PySem.F.type_list_append mt_append (pv 4) (pa_cons (pe_tup (pa_cons pe_str (pa_cons (pv 6) (pa_cons (pe_ix ix_list (pv 2) (pe_has GT hr1 (pa_cons (pv 0) (pa_cons (pe_callB call_len_seq (by rfl) ml PySem.boot_len (pa_cons (pv 2) pa_nil)) pa_nil))) (fun _ _ => rfl)) pa_nil)))) pa_nil))))
            (pss_cons (ps_set (i := 9) scNw.nd rfl (.inl rfl) (pe_ix ix_list (pv 2) (pe_has GT hr1 (pa_cons (pv 0) (pa_cons (pe_callB call_len_seq (by rfl) ml PySem.boot_len (pa_cons (pv 2) pa_nil)) pa_nil))) (fun _ _ => rfl)))
            (pss_cons (ps_expr (pe_bm PySem.F.plainAttrs_list PySem.F.slot_list_append PySem.F.type_list_append mt_append (pv 8) (pa_cons (pv 9) pa_nil)))
            (pss_one (ps_expr (pe_bm PySem.F.plainAttrs_list PySem.F.slot_list_append PySem.F.type_list_append mt_append (pv 4) (pa_cons (pe_tup (pa_cons pe_str (pa_cons (pv 6) (pa_cons (pv 9) pa_nil)))) pa_nil)))))))))))))
      (pss_one (ps_ret (pv 4)))), ?_⟩
    refine ⟨(by show 0 ≤ sizeLine; decide), fun g hg => ?_⟩
    have gp : g ≠ p := hp.free hg
    have sg : Same H (upd H g (.lst [])) := Same.new hg
    have hg1 : upd H g (.lst []) g = some (.lst []) := upd_same
    generalize upd H g (.lst []) = H1 at sg hg1
    have hn1 := sg _ _ hn
    refine ⟨_, rfl, nl, rfl, ⟨_, .of hn1⟩, fun LL hLL => lc_list (K := K) (a := nl) (xs := ns.map V.str) (fun j H2 => ∃ (ps : List Addr) (es : List (Str × Addr)), H2 LL = some (.lst (ps.map V.ref)) ∧ Paired (fun (p : Addr) (e : Str × Addr) => (hid [LL] H2) p = some (.tup [.str e.1, .ref e.2])) ps es ∧ es.map (·.1) = ns.take j ∧ (∀ e ∈ es, (hid [LL] H2) e.2 = some (.lst []) ∧ H1 e.2 = none) ∧ Same H1 H2) ⟨[], [], upd_same, .nil, rfl, fun e m => (by cases m), Same.new hLL⟩ (fun j H2 _ q => ?_) ?_ ?_⟩
    · obtain ⟨_, _, _, _, _, _, s2⟩ := q
      exact .of (s2 _ _ hn1)
    · rintro j x H2 hx ⟨ps, es, hL, hP, he, hE, s2⟩
      rw [List.getElem?_map] at hx
      obtain ⟨n, hj, rfl⟩ : ∃ n, ns[j]? = some n ∧ x = V.str n := by
        cases hq : ns[j]? with
        | none =>
          rw [hq] at hx
          cases hx
        | some n =>
          rw [hq] at hx
          cases hx
          exact ⟨n, rfl, rfl⟩
      have jl := (List.getElem?_eq_some_iff.mp hj).1
      refine ⟨rfl, yes_in ⟨_, rfl, (by show 0 ≤ sizeLine; decide), fun b hb => ⟨(by show 2 ≤ sizeLine; decide), fun T hT => ?_⟩⟩⟩
      have sb : Same H2 (upd H2 b (.lst [])) := Same.new hb
      have sT : Same (upd H2 b (.lst [])) (upd (upd H2 b (.lst [])) T (.tup [.str n, .ref b])) := Same.new hT
      have bL : b ≠ LL := Ne.symm (ne_of_none hL hb)
      have TL : T ≠ LL := Ne.symm (ne_of_none (sb _ _ hL) hT)
      have TL' : b ≠ T := ne_of_none upd_same hT
      have hLx := sT _ _ (sb _ _ hL)
      have sx : Same (hid [LL] H2) (hid [LL] (upd (upd (upd H2 b (.lst [])) T (.tup [.str n, .ref b])) LL (.lst (ps.map V.ref ++ [.ref T])))) := (hid_of (sb.trans sT)).trans (hid_upd (by simp))
      refine ⟨_, hLx, ?_, ps ++ [T], es ++ [(n, b)], ?_, ?_, ?_, fun e m => ?_, Same.free2 (s2.trans (sb.trans sT)) hLL⟩
      · have l1 := paired_len hP
        have l2 : es.length = (ns.take j).length := by rw [← he, List.length_map]
        rw [List.length_take] at l2
        rw [List.length_map, sizeLine_eq]
        omega
      · rw [upd_same, List.map_append]
        rfl
      · refine Paired.snoc2 (Paired.mapP hP fun _ _ q => sx _ _ q) ?_
        rw [hid_ne (by simpa using TL), upd_ne TL]
        exact upd_same
      · rw [List.map_append, he, List.take_add_one, hj]
        rfl
      · rcases List.mem_append.mp m with q | q
        · exact ⟨sx _ _ (hE e q).1, (hE e q).2⟩
        · rw [List.mem_singleton.mp q]
          refine ⟨?_, s2.free hb⟩
          show hid [LL] _ b = _
          rw [hid_ne (by simpa using bL), upd_ne bL, upd_ne TL']
          exact upd_same
    rintro H2 ⟨ps, es, hL, hP, he, hE, s2⟩
    rw [List.length_map, List.take_length] at he
    refine ⟨LL, ps, es.map fun e => ((Sum.inr e.1 : Key), V.ref e.2), rfl, .of hL, ?_, fun d hd => ?_⟩
    · clear he hE hL
      induction hP with
      | nil => exact .nil
      | cons h t ih => exact .cons (.of (hid_out _ _ _ _ h)) ih
    refine ⟨_, _, rfl, ?_⟩
    have sd : Same H2 (upd H2 d (.dK (mergeK [] (es.map fun e => ((Sum.inr e.1 : Key), V.ref e.2))))) := Same.new hd
    have val : ∀ n ∈ ns, ∃ b, b ∈ es.map (·.2) ∧ valV (mergeK [] (es.map fun e => ((Sum.inr e.1 : Key), V.ref e.2))) (Sum.inr n) = some (.ref b) := fun n m => merge_has (fun b => b ∈ es.map (·.2)) es [] (fun _ => False) (fun _ q => q.elim) (fun e me => List.mem_map.mpr ⟨e, me, rfl⟩) n (.inr (by rw [he]; exact m))
    have hd3 : upd H2 d (.dK (mergeK [] (es.map fun e => ((Sum.inr e.1 : Key), V.ref e.2)))) d = some (.dK (mergeK [] (es.map fun e => ((Sum.inr e.1 : Key), V.ref e.2)))) := upd_same
    generalize mergeK [] (es.map fun e => ((Sum.inr e.1 : Key), V.ref e.2)) = kvs at sd val hd3
    have s3 : Same H (upd H2 d (.dK kvs)) := (sg.trans s2).trans sd
    have s13 : Same H1 (upd H2 d (.dK kvs)) := s2.trans sd
    have bs0 : ∀ b ∈ es.map (·.2), upd H2 d (.dK kvs) b = some (.lst []) ∧ H1 b = none := fun b m => by
      obtain ⟨e, me, rfl⟩ := List.mem_map.mp m
      exact ⟨sd _ _ (hid_out _ _ _ _ (hE e me).1), (hE e me).2⟩
    generalize upd H2 d (.dK kvs) = H3 at hd3 s3 s13 bs0
    generalize es.map (·.2) = B at val bs0
    have old : ∀ {c : Addr} {o : HO}, H1 c = some o → c ∉ B := fun h m => by
      rw [(bs0 _ m).2] at h
      cases h
    have hp1 : Pool H1 p := hp.same sg
    have hg3 := s13 _ _ hg1
    have gB : g ∉ B := old hg1
    have pB : p ∉ B := by
      obtain ⟨_, _, q, _⟩ := hp1.ex
      exact old q
    have nlg : nl ≠ g := ne_of_none hn hg
    have ilg : il ≠ g := ne_of_none hil hg
    have nB : nl ∉ B := old hn1
    have iB : il ∉ B := old (sg _ _ hil)
    have dg : d ≠ g := fun e => by rw [e, hg3] at hd3; cases hd3
    have dp : d ≠ p := fun e => by
      obtain ⟨_, _, q, _⟩ := (hp.same s3).ex
      rw [e, q] at hd3
      cases hd3
    have dB : d ∉ B := fun m => by
      rw [(bs0 _ m).1] at hd3
      cases hd3
    have w0 : WI H3 p g B 0 [] [] H3 := ⟨gp, gB, pB, hg3, .nil, hp.same s3, Same.refl _, fun b hb => ⟨[], (bs0 b hb).1, fun z m => (by cases m), Nat.le_refl _⟩, fun s m => by cases m⟩
    refine ⟨_, rfl, m, rfl, by omega, by omega, for_range (lo := 0) (n := m.toNat) (fun j σ Hx => ∃ (us : List V) (ss : List NSt) (y6 y7 y8 y9 : Option V), σ = [some (.ref p), some (.ref nl), some (.ref il), some (.int m), some (.ref g), some (.ref d), y6, y7, y8, y9] ∧ WI H3 p g B j us ss Hx ∧ us.length = j) ⟨[], [], _, _, _, _, rfl, w0, rfl⟩ ?_ ?_⟩
    · rintro j σ Hx hj ⟨us, ss, y6, y7, y8, y9, rfl, wi, lu⟩
      have lns : 0 < ns.length := List.length_pos_iff.mpr nne
      have lzs : 0 < zs.length := List.length_pos_iff.mpr zne
      refine ⟨_, rfl, _, rfl, _, rfl, nl, _, rfl, .inl (.of (wi.out (s3 _ _ hn) nlg np nB)), p, _, rfl, wi.pl, ?_, ?_, fun r H4 b4 p4 r0 r1 => ?_⟩
      · rw [List.length_map]; omega
      · rw [List.length_map]; omega
      rw [List.length_map] at r1
      obtain ⟨n, nm, an⟩ := pick_str r0 r1
      have w4 := wi.draw b4 p4
      obtain ⟨b, hb, hv⟩ := val n nm
      refine ⟨nl, _, r, _, rfl, rfl, .of (w4.out (s3 _ _ hn) nlg np nB), an, _, rfl, _, rfl, d, .ref b, rfl, .inl ⟨kvs, Sum.inr n, .inl (w4.out hd3 dg dp dB), rfl, hv.symm⟩, ?_⟩
      obtain ⟨ws, hw4, iw, lw⟩ := w4.bs b hb
      have bp := w4.bp hb
      have shw : SeqAt.shaped (.list (ws.map PyData.str)) = true := (nice_list (nice_strs iw)).shaped (by decide)
      clear wi b4 p4 r0 r1 an
      -- one step more
      have app : ∀ {c : Bool} {z : Str} {Hy : Hp} {us' : List V} {ss' : List NSt} {y6 y7 y8 y9 : Option V}, WI H3 p g B (j + 1) us' ss' Hy → us'.length = j → Item z → ∀ T, Hy T = none → ∃ (us2 : List V) (ss2 : List NSt) (z6 z7 z8 z9 : Option V), [some (.ref p), some (.ref nl), some (.ref il), some (.int m), some (.ref g), some (.ref d), y6, y7, y8, y9] = [some (V.ref p), some (.ref nl), some (.ref il), some (.int m), some (.ref g), some (.ref d), z6, z7, z8, z9] ∧ WI H3 p g B (j + 1) us2 ss2 (upd (upd Hy T (.tup [.str (act c), .str n, .str z])) g (.lst (us' ++ [.ref T]))) ∧ us2.length = j + 1 := fun {c z Hy us' ss' y6 y7 y8 y9} w5 l5 iz T hT => ⟨us' ++ [.ref T], ss' ++ [(c, n, z)], y6, y7, y8, y9, rfl, w5.app (s := (c, n, z)) hT ⟨nI n nm, iz⟩, by rw [List.length_append, l5]; rfl⟩
      refine ⟨fun c H5 => (c = true → ws ≠ []) ∧ WI H3 p g B j us ss H5 ∧ H5 b = some (.lst (ws.map V.str)), ?_, ?_⟩
      · refine ⟨_, rfl, (by show 0 ≤ sizeLine; decide), fun M hM => ?_⟩
        have sM : Same H4 (upd H4 M (.lst [])) := Same.new hM
        refine ⟨.list (ws.map .str), .list (([] : List Str).map .str), .lst (.of (sM _ _ hw4)) (dp_strs _), .lst (.of upd_same) .nil, shw, rfl, _, rfl, ?_⟩
        rw [eqv_listS]
        have w5 := w4.new sM
        have h5 := sM _ _ hw4
        generalize upd H4 M (.lst []) = H5 at w5 h5
        cases ws with
        | nil => exact iteF ⟨fun q => (by cases q), w5, h5⟩
        | cons z r =>
          refine iteT ⟨_, rfl, p, 5, rfl, w5.pl, by decide, by decide, fun r H6 b6 p6 r0 r1 => ⟨_, _, rfl, rfl, _, rfl, fun _ q => (by cases q), w5.draw b6 p6, b6 _ _ bp h5⟩⟩
      · rintro c H5 ⟨cw, w5, h5⟩
        cases c with
        | true =>
          rcases List.eq_nil_or_concat ws with e | ⟨r, z, e⟩
          · exact absurd e (cw rfl)
          rw [List.concat_eq_append] at e
          subst e
          have iz : Item z := iw z (by simp)
          have h5' : H5 b = some (.lst (r.map V.str ++ [V.str z])) := by
            rw [h5, List.map_append]
            rfl
          refine iteT ⟨.ref g, rfl, .inl ⟨rfl, _, .of w5.at_⟩, _, rfl, .ref b, rfl, .inl ⟨rfl, _, .of h5⟩, b, r.map V.str ++ [V.str z], .str z, rfl, rfl, h5', ?_, ?_⟩
          · rw [List.length_append, List.length_singleton, Nat.add_sub_cancel, List.getElem?_append_right (Nat.le_refl _), Nat.sub_self]
            rfl
          · rw [List.dropLast_concat]
            have w6 := w5.pile hb (ws := r) (fun y m => iw y (by simp [m])) (by rw [List.length_append] at lw; omega)
            refine ⟨(by show 3 ≤ sizeLine; decide), fun T hT => ⟨g, us, _, rfl, rfl, ?_, by rw [lu, sizeLine_eq]; omega, app (c := false) w6 lu iz T hT⟩⟩
            rw [upd_ne (ne_of_none w6.at_ hT)]
            exact w6.at_
        | false =>
          refine iteF ?_
          refine ⟨fun c H6 => WI H3 p g B j us ss H6 ∧ H6 b = some (.lst (ws.map V.str)), ?_, ?_⟩
          · refine ⟨_, rfl, (by show 0 ≤ sizeLine; decide), fun M hM => ?_⟩
            have sM : Same H5 (upd H5 M (.lst [])) := Same.new hM
            refine ⟨.list (ws.map .str), .list (([] : List Str).map .str), .lst (.of (sM _ _ h5)) (dp_strs _), .lst (.of upd_same) .nil, shw, rfl, _, rfl, ?_⟩
            rw [eqv_listS]
            have w6 := w5.new sM
            have h6 := sM _ _ h5
            generalize upd H5 M (.lst []) = H6 at w6 h6
            cases ws with
            | cons z r => exact iteF ⟨w6, h6⟩
            | nil => exact iteT ⟨_, rfl, p, 4, rfl, w6.pl, by decide, by decide, fun r H7 b7 p7 r0 r1 => ⟨rfl, _, rfl, w6.draw b7 p7, b7 _ _ bp h6⟩⟩
          · rintro c H6 ⟨w6, h6⟩
            have hi6 := w6.out (s3 _ _ hil) ilg lp' iB
            cases c with
            | true =>
              refine iteT ⟨.ref g, rfl, .inl ⟨rfl, _, .of w6.at_⟩, _, rfl, _, rfl, _, rfl, _, rfl, il, _, rfl, .inl (.of hi6), p, _, rfl, w6.pl, ?_, ?_, fun r H7 b7 p7 r0 r1 => ?_⟩
              · rw [List.length_map]; omega
              · rw [List.length_map]; omega
              rw [List.length_map] at r1
              obtain ⟨z, zm, az⟩ := pick_str r0 r1
              have w7 := w6.draw b7 p7
              refine ⟨il, _, r, _, rfl, rfl, .of (b7 _ _ lp' hi6), az, (by show 3 ≤ sizeLine; decide), fun T hT => ⟨g, us, _, rfl, rfl, ?_, by rw [lu, sizeLine_eq]; omega, app (c := false) w7.up lu (zI z zm) T hT⟩⟩
              rw [upd_ne (ne_of_none w7.at_ hT)]
              exact w7.at_
            | false =>
              refine iteF ⟨_, rfl, _, rfl, _, rfl, il, _, rfl, .inl (.of hi6), p, _, rfl, w6.pl, ?_, ?_, fun r H7 b7 p7 r0 r1 => ?_⟩
              · rw [List.length_map]; omega
              · rw [List.length_map]; omega
              rw [List.length_map] at r1
              obtain ⟨z, zm, az⟩ := pick_str r0 r1
              have w7 := w6.draw b7 p7
              have h7 := b7 _ _ bp h6
              refine ⟨il, _, r, _, rfl, rfl, .of (b7 _ _ lp' hi6), az, .ref b, rfl, .inl ⟨rfl, _, .of h7⟩, _, rfl, b, _, _, rfl, rfl, h7, by rw [List.length_map, sizeLine_eq]; omega, ?_⟩
              have w8 := w7.pile hb (ws := ws ++ [z]) (fun y m => by
                rcases List.mem_append.mp m with q | q
                · exact iw y q
                · rw [List.mem_singleton.mp q]
                  exact zI z zm) (by rw [List.length_append]; simp only [List.length_singleton]; omega)
              rw [List.map_append] at w8
              refine ⟨.ref g, rfl, .inl ⟨rfl, _, .of w8.at_⟩, _, rfl, _, rfl, (by show 3 ≤ sizeLine; decide), fun T hT => ⟨g, us, _, rfl, rfl, ?_, by rw [lu, sizeLine_eq]; omega, app (c := true) w8 lu (zI z zm) T hT⟩⟩
              rw [upd_ne (ne_of_none w8.at_ hT)]
              exact w8.at_
    · rintro σ Hx ⟨us, ss, y6, y7, y8, y9, rfl, wi, lu⟩
      have ls := wi.len
      refine ⟨_, rfl, k g us ss Hx (fun c o cp hc => ?_) wi.pl hg gp wi.at_ (nsth_same wi.n (hid_out _ _)) (by omega) wi.ok⟩
      exact wi.out (s3 _ _ hc) (ne_of_none hc hg) cp (old (sg _ _ hc))
end
end SE
/-! list(d.values()). -/
namespace SE
open PySem PySem.Spec PyProof.Rows L2
def tListVals (te : TE) : TE := fun σ H Q => te σ H fun x H1 => ∃ (d : Addr) (kvs : List (Key × V)), x = .ref d ∧ H1 d = some (.dK kvs) ∧ ∀ p, H1 p = none → Q (.ref p) (upd H1 p (.lst (kvs.map Prod.snd)))
theorem vals_of_kv : ∀ {kvs : List (Key × V)} {vs : List (Key × Value)}, KV kvs vs → Vals (kvs.map Prod.snd) (vs.map (·.2))
  | _, _, .nil => .nil
  | _, _, .cons h t => .cons h.2 (vals_of_kv t)
section
variable {X : Cx} {e : Expr} {te : TE} {p apos cpos pos : Pos}
theorem pe_listVals (hc : X.calm = true) (he : PE X e te) (hg : Gl X "list") (hm : X.mg "list" = none) (hv : bootBuiltins "list" = some (.type "list")) (hbase : attributeBase e "values" X.env (eval e X.env) = eval e X.env := by rfl) (hline : (apos.endLine == cpos.line) = true := by rfl)
    (hs : starEach [.Call (.Attribute e "values" apos) [] [] cpos] X.env = (false, eval (.Call (.Attribute e "values" apos) [] [] cpos) X.env) :: starEach [] X.env := by rfl) :
    PE X (.Call (.Name "list" p) [.Call (.Attribute e "values" apos) [] [] cpos] [] pos) (tListVals te) := by
  refine ⟨fun pins s σ H Q I hq => ?_⟩
  refine wpAny_Call_Name_kw (ld_blt I hg hm hv ?_)
  refine PyProof.Rows.callWith_type1 ?_ hs rfl
  rw [hs]
  show wpAny _ _ (spliced ((false, eval (.Call (.Attribute e "values" apos) [] [] cpos) X.env) :: backTo pos (starEach [] X.env))) _ _ s
  refine Calls.spliced_cons ?_
  refine wpAny_Call_method (T := "dict") (id := "dict.values") hbase rfl hline F.plainAttrs_dict F.slot_dict_values F.type_dict_values (thn (he.run pins s σ H _ I hq) fun u s1 ⟨x, H1, I1, rx, d, kvs, ex, hd, q⟩ => ?_)
  subst ex
  obtain rfl : u = Value.ref d := rx
  obtain ⟨hz, hs0, vs, kv, hdo⟩ := I1.hok d _ hd
  obtain ⟨ep, hat⟩ := hdo.dictAt
  have lk : kvs.length = vs.length := Paired.length kv
  have I2 : Inv X pins σ H1 { s1 with heap := s1.heap.push { cls := .type "dict_values", data := .fields #[.ref d] } } := I1.kept (t' := s1.toks) fun b ob q => Heap.get?_push_of_some _ q
  refine ⟨hdo.typeIs, hdo.mapOf.noDict, ?_⟩
  show wpAny _ _ (callWith cpos (.builtin "dict.values") [.ref d] [] []) _ X.xe s1
  refine method_meetsIn F.slot_dict_values F.entry_dict_values rfl (PySem.evalArgs_none ⟨rfl, hdo.typeIs, F.args_dict_values_1 _, _, meets_dict_values (mixKind X.prog X.w) d hs0, ⟨vs, hdo⟩, ?_⟩)
  refine Calls.spliced_nil ?_
  refine PySem.W.kdl_call (PySem.W.kdl_values (knd := mixKind X.prog X.w) (kvs := vs) (ep := ep)) (I1.ok.hd hc) ⟨⟨_, Heap.get?_push_size _ rfl, rfl, rfl⟩, hat.push _⟩ (by omega) fun h' tk acc c' hk hD hacc => ?_
  have hv : acc.toList = vs.map (·.2) := PySem.W.kdl_vals_eq acc.toList (by rw [Array.length_toList]; exact hacc.1) fun j v e => hacc.2 j v (by rw [← Array.getElem?_toList]; exact e)
  refine ⟨.ref _, upd H1 _ (.lst (kvs.map Prod.snd)), I2.laid (t' := tk) hk (Nat.le_refl _) (show ObjOk X.prog X.w _ _ _ (.lst (kvs.map Prod.snd)) from ⟨by rw [List.length_map]; exact hz, acc.toList, c', by rw [hv]; exact vals_of_kv kv, by rw [Array.toArray_toList]; exact hD⟩), rfl, q _ (I2.hok.fresh (Nat.le_refl _))⟩
end
end SE
namespace SE
open PySem PySem.Spec PyProof.Rows L2
def EqHas (P : Program) (w : World) (K : PySem.W.Frag) (mg : Str → Option Value) (base : Heap) (C : Addr) : Prop := ∃ f fd, FnOk P w K mg base CX0 1 f fd ["self", "other"] (spEqB (rEff K C)) ∧ PySem.W.findIn K (.ref C) "__eq__" = some (some (.ref f)) ∧ PySem.W.isFn K (.ref f) = true ∧ Binds K fd ["self", "other"] [] ∧ PySem.W.findIn K (.ref C) "__ne__" = some (some (.builtin "object.__ne__"))
/-! ### named steps and effects as data -/
def nstD (s : NSt) : PyData := .tuple [.str (act s.1), .str s.2.1, .str s.2.2]
theorem nstD_nice {s : NSt} (h : NOk s) : Nice 1 27 (nstD s) := by
  refine (nice_tuple (k := 0) (B := 8) (ds := [.str (act s.1), .str s.2.1, .str s.2.2]) ?_).mono (Nat.le_refl _) (by show 3 * 9 ≤ 27; decide)
  intro d hd
  rcases List.mem_cons.mp hd with q | q
  · rw [q]
    exact act_nice _
  · rcases List.mem_cons.mp q with q | q
    · rw [q]
      exact h.n.nice
    · rw [List.mem_singleton.mp q]
      exact h.i.nice
theorem nice_nsts {ss : List NSt} (h : ∀ s ∈ ss, NOk s) : ∀ d ∈ ss.map nstD, Nice 1 27 d := by
  intro d hd
  obtain ⟨s, hs, rfl⟩ := List.mem_map.mp hd
  exact nstD_nice (h s hs)
theorem dp_nsts {K : PySem.W.Frag} {H : Hp} : ∀ {xs : List V} {ss : List NSt}, NSV K H xs ss → DpAll K H xs (ss.map nstD)
  | _, _, .nil => .nil
  | _, _, .cons a r => by
    obtain ⟨t, rfl, q⟩ := a
    exact .cons (.tup q (.cons (.str _) (.cons (.str _) (.cons (.str _) .nil)))) (dp_nsts r)
theorem nice_i100 {n : Nat} (h : n ≤ 100) : Nice 0 8 (.int (n : Int)) := by
  have q : ∀ m : Fin 101, PyData.showable (.int (m.1 : Int)) = true ∧ PyData.intsShort 13 (.int (m.1 : Int)) = true ∧ PyData.weight (.int (m.1 : Int)) ≤ 8 := by decide +kernel
  obtain ⟨q1, q2, q3⟩ := q ⟨n, by omega⟩
  refine ⟨?_, ?_, q1, ?_, q2, q3⟩
  · simp only [PyData.canLay0]
  · simp only [PyData.depth]; exact Nat.le_refl _
  · simp only [PyData.hasDict]
theorem nice_non : Nice 0 8 .none := ⟨by decide +kernel, by decide +kernel, by decide +kernel, by decide +kernel, by decide +kernel, by decide +kernel⟩
def dV : Eff → PyData
  | none => .none
  | some (xs, ys, p) => .tuple [.tuple (xs.map .str), .tuple (ys.map .str), .int p]
theorem dV_nice {ss : List Stp} (hI : ∀ s ∈ ss, Item s.2) (hl : ss.length ≤ 100) : Nice 2 3000 (dV (effM ss)) := by
  cases h : effM ss with
  | none => exact nice_non.mono (by decide) (by decide)
  | some D =>
    obtain ⟨xs, ys, p⟩ := D
    obtain ⟨ok, l1, l2⟩ := effM_ok hI h
    have l1 : xs.length + ys.length ≤ ss.length := l1
    have l2 : p ≤ ss.length := l2
    have h0 : 0 ≤ p := ok.h0
    refine (nice_tuple (k := 1) (B := 900) fun d hd => ?_).mono (Nat.le_refl _) (by show 3 * 901 ≤ 3000; decide)
    rcases List.mem_cons.mp hd with q | q
    · rw [q]
      exact (nice_tuple (nice_strs ok.i1)).mono (Nat.le_refl _) (by rw [List.length_map]; omega)
    · rcases List.mem_cons.mp q with q | q
      · rw [q]
        exact (nice_tuple (nice_strs ok.i2)).mono (Nat.le_refl _) (by rw [List.length_map]; omega)
      · rw [List.mem_singleton.mp q]
        obtain ⟨n, rfl⟩ := Int.eq_ofNat_of_zero_le h0
        exact (nice_i100 (by omega)).mono (by decide) (by decide)
theorem dV_eqv (o : Eff) : PyData.eqv (dV o) .none = decide (o = none) := by
  cases o with
  | none => simp [dV, PyData.eqv]
  | some B => simp [dV, PyData.eqv]
theorem anyD (ps : Prts) : ((ps.map fun p => dV (effM p.2)).any fun z => PyData.eqv z .none) = ps.any fun p => decide (effM p.2 = none) := by
  rw [List.any_map]
  congr 1
  funext p
  exact dV_eqv _
/-! ### the effects that are due -/
structure DueE (H : Hp) (kv : Key × V) (p : Str × List Stp) : Prop where
  key : kv.1 = Sum.inr p.1
  non : effM p.2 = none → kv.2 = .non
  val : ∀ xs zs q, effM p.2 = some (xs, zs, q) → ∃ t u v, kv.2 = .ref t ∧ H t = some (.tup [.ref u, .ref v, .int q]) ∧ H u = some (.tup (xs.map V.str)) ∧ H v = some (.tup (zs.map V.str))
theorem DueE.map {H H' : Hp} {kv : Key × V} {p : Str × List Stp} (h : DueE H kv p) (s : ∀ b us, H b = some (.tup us) → H' b = some (.tup us)) : DueE H' kv p := ⟨h.key, h.non, fun xs zs q e => by
  obtain ⟨t, u, v, h1, h2, h3, h4⟩ := h.val xs zs q e
  exact ⟨t, u, v, h1, s _ _ h2, s _ _ h3, s _ _ h4⟩⟩
theorem due_map {H H' : Hp} {kvs : List (Key × V)} {ps : Prts} (h : Paired (DueE H) kvs ps) (s : ∀ b us, H b = some (.tup us) → H' b = some (.tup us)) : Paired (DueE H') kvs ps := Paired.mapP h fun _ _ q => q.map s
theorem due_same {H H' : Hp} {kvs : List (Key × V)} {ps : Prts} (h : Paired (DueE H) kvs ps) (s : Same H H') : Paired (DueE H') kvs ps := due_map h fun b us q => s b _ q
theorem tup_upd {H : Hp} {D : Addr} {w o : HO} (hD : H D = some o) (n : ∀ us, o ≠ .tup us) : ∀ b us, H b = some (.tup us) → upd H D w b = some (.tup us) := fun b us q => by
  rw [upd_ne (fun e => by rw [e, hD] at q; cases q; exact n _ rfl)]
  exact q
theorem tup_hid {H : Hp} {D : Addr} {o : HO} (hD : H D = some o) (n : ∀ us, o ≠ .tup us) : ∀ b us, H b = some (.tup us) → hid [D] H b = some (.tup us) := fun b us q => by
  have c : b ≠ D := fun e => by
    rw [e, hD] at q
    cases q
    exact n _ rfl
  rw [hid_ne (by simpa using c)]
  exact q
theorem dp_dues {K : PySem.W.Frag} {H : Hp} : ∀ {kvs : List (Key × V)} {ps : Prts}, Paired (DueE H) kvs ps → DpAll K H (kvs.map Prod.snd) (ps.map fun p => dV (effM p.2))
  | _, _, .nil => .nil
  | _, _, .cons (a := kv) (b := p) a r => by
    refine .cons ?_ (dp_dues r)
    show Dp K H kv.2 (dV (effM p.2))
    cases h : effM p.2 with
    | none =>
      rw [a.non h]
      exact .non
    | some D =>
      obtain ⟨xs, ys, q⟩ := D
      obtain ⟨t, u, v, h1, h2, h3, h4⟩ := a.val xs ys q h
      rw [h1]
      exact .tup (.of h2) (.cons (.tup (.of h3) (dp_strs _)) (.cons (.tup (.of h4) (dp_strs _)) (.cons (.int _) .nil)))
theorem pair_keys {F : Key × V → Str × List Stp → Prop} (hk : ∀ kv p, F kv p → kv.1 = Sum.inr p.1) : ∀ {kvs : List (Key × V)} {ps : Prts}, Paired F kvs ps → kvs.map (·.1) = ps.map fun p => (Sum.inr p.1 : Key)
  | _, _, .nil => rfl
  | _, _, .cons a r => by
    rw [List.map_cons, List.map_cons, hk _ _ a, pair_keys hk r]
theorem pair_val {F : Key × V → Str × List Stp → Prop} (hk : ∀ kv p, F kv p → kv.1 = Sum.inr p.1) {kvs : List (Key × V)} {ps : Prts} (h : Paired F kvs ps) (nd : (ps.map (·.1)).Nodup) {j : Nat} {p : Str × List Stp} (hp : ps[j]? = some p) : ∃ kv, F kv p ∧ valV kvs (Sum.inr p.1) = some kv.2 := by
  have lk := paired_len h
  have jl := (List.getElem?_eq_some_iff.mp hp).1
  obtain ⟨kv, hkv⟩ : ∃ kv, kvs[j]? = some kv := ⟨_, List.getElem?_eq_getElem (by omega)⟩
  obtain ⟨p', hp', hF⟩ := paired_at h hkv
  rw [hp] at hp'
  cases hp'
  refine ⟨kv, hF, ?_⟩
  have n2 : (kvs.map (·.1)).Nodup := by
    rw [pair_keys hk h]
    have e : (ps.map fun p => (Sum.inr p.1 : Key)) = (ps.map (·.1)).map Sum.inr := by rw [List.map_map]; rfl
    rw [e]
    exact List.pairwise_map.mpr (nd.imp fun q z => q (Sum.inr.inj z))
  rw [← hk kv p hF]
  exact val_nodup n2 kv (List.mem_of_getElem? hkv)
theorem pair_names {F : Key × V → Str × List Stp → Prop} (hk : ∀ kv p, F kv p → kv.1 = Sum.inr p.1) {kvs : List (Key × V)} {ps : Prts} (h : Paired F kvs ps) : kvs.map (fun kv => kV kv.1) = (ps.map (·.1)).map V.str := by
  have e := congrArg (List.map kV) (pair_keys hk h)
  rw [List.map_map, List.map_map] at e
  rw [List.map_map]
  exact e
section
variable {P : Program} {w : World} {K : PySem.W.Frag} {mg : Str → Option Value} {base : Heap} {C : Addr}
/-! ### _law_right -/
def spRi (K : PySem.W.Frag) : Sp := fun xs H Q _ => ∃ (a : Addr) (ys : List V) (ss : List NSt), xs = [.ref a] ∧ (SqL K H a ys ∨ SqT K H a ys) ∧ ys.length ≤ 100 ∧ NSV K H ys ss ∧ (∀ s ∈ ss, NOk s) ∧ ∀ H', Same H H' → Q (.bl true) H'
abbrev nRi : List Str := ["_law_steps_here", "_law_due", "_law_kept", "_law_name_here", "_law_own", "_law_found", "_law_parts_here"]
theorem scRi : FnScope nRi ["_law_steps_here"] (defScope sRight) := ⟨rfl, rfl, rfl, by decide +kernel, rfl, by decide +kernel, by decide +kernel⟩
theorem has_right (D : Def K mg "_law_right" sRight) (T : EC K mg C) (TI : EI K C) (M : Makes P w K mg base C) (EQ : EqHas P w K mg base C) (GP : Has P w K mg base "_law_parts" 1 ["_law_steps_here"] [] (spParts K)) (GL : Has P w K mg base "_law_effect" 1 ["_law_steps_here"] [] (spLEff K)) (GE : Has P w K mg base "effects_of" 9 ["steps"] [] (spEffs K C)) (B : Blt mg) (mp : mg "repr" = none) : GHas P w K mg base "_law_right" 10 ["_law_steps_here"] (spRi K) := by
  obtain ⟨fq, fdq, FQ, eq1, eq2, eq3, eq4⟩ := EQ
  refine ghas_of D scRi (fun _ _ _ _ _ _ us hl => match us, hl with | [_], _ => rfl) (fun xs H Q E h => ?_) (fun f cv A out s H xs Q E hgu hr h => ?_)
  · obtain ⟨a, ys, ss, rfl, _⟩ := h
    rfl
  · obtain ⟨a, ys, ss, rfl, hS, hl, hV, hI, k⟩ := h
    have hu := hu_of hr
    have hr1 : Room 1 _ := hr.mono (by decide)
    have hr2 : Room 2 _ := hr.mono (by decide)
    have hr5 : Room 5 _ := hr.mono (by decide)
    have h65 : (A.deeper (envOfC "_law_right" (defScope sRight) s.heap.objs.size f cv)).units + 65 < cLine := by
      have := hr.un
      omega
    refine ⟨_, pss_cons (ps_par (i := 1) (j := 2) (by rfl) scRi.nd rfl rfl (by decide) rfl rfl (pa_cons pe_dnewK (pa_cons (pe_callB (call_rep hgu hr.units) (by rfl) mp (by decide +kernel) (pa_cons (pv 0) pa_nil)) pa_nil)) (by rfl))
      (pss_cons (ps_for PassesOwn.never rfl (pi_items (pe_frz (pe_has GP hr1 (pa_cons (pv 0) pa_nil)))) (pg_tup (by rfl) (pgs_cons (pg_name (i := 3) scRi.nd rfl (.inl rfl)) (pgs_cons (pg_name (i := 4) scRi.nd rfl (.inl rfl)) pgs_nil)))
        (pss_one (ps_dput hu (pv 1) (pv 3) (pe_has GL hr1 (pa_cons (pv 4) pa_nil)) rfl)))
      (pss_cons (ps_set (i := 5) scRi.nd rfl (.inl rfl) (pe_has GE hr (pa_cons (pv 0) pa_nil)))
      (pss_cons (ps_if (pt_cut (PW.pt (pw_or (pt_cmpR op_ne (pe_callB (call_rep hgu hr.units) (by rfl) mp (by decide +kernel) (pa_cons (pv 0) pa_nil)) (pv 2) (nomark _)) (pw_or1 (pt_cmpR op_ne (pe_cmpR op_isN (pv 5) pe_non (nomark _)) (pe_cmpR (op_inD h65) pe_non (pe_listVals rfl (pv 1) (by rfl) B.lst (by decide +kernel)) (by rfl)) (nomark _)))))) (pss_one (ps_ret pe_bl)) pss_nil)
      (pss_cons (ps_if (pt_cmpR op_isN (pv 5) pe_non (nomark _)) (pss_one (ps_ret pe_bl)) pss_nil)
      (pss_cons (ps_lock (ps_for PassesOwn.never rfl (pi_items (pv 1)) (pg_tup (by rfl) (pgs_cons (pg_name (i := 3) scRi.nd rfl (.inl rfl)) (pgs_cons (pg_name (i := 6) scRi.nd rfl (.inl rfl)) pgs_nil)))
        (pss_one (ps_if (pt_cmpR (op_neE FQ eq1 eq2 eq3 TI.hm eq4 hr2) (pe_dget hu (pv 5) (pv 3) (fun _ _ => rfl)) (pe_effK M T.mgE hr5 (pa_cons (pe_ix ix_tup (pv 6) pe_int (fun _ _ => rfl)) (pa_cons (pe_ix ix_tup (pv 6) pe_int (fun _ _ => rfl)) pa_nil)) (pe_ix ix_tup (pv 6) pe_int (fun _ _ => rfl))) (nomark _)) (pss_one (ps_ret pe_bl)) pss_nil))))
      (pss_cons (ps_dput hu (pv 5) pe_str pe_non rfl)
      (pss_one (ps_ret (pe_cmpR (op_eqD hr.units) (pe_callTy (call_listD rfl) (by rfl) B.lst (by decide +kernel) (pa_cons (pe_has GE hr (pa_cons (pv 0) pa_nil)) pa_nil)) (pe_callTy (call_listD rfl) (by rfl) B.lst (by decide +kernel) (pa_cons (pv 1) pa_nil)) (nomark _)))))))))), ?_⟩
    refine fun d hd => ?_
    have ly : ys.length = ss.length := Paired.length hV
    have nl := nice_list (nice_nsts hI)
    rw [List.length_map] at nl
    obtain ⟨dt, nd, hdt⟩ : ∃ dt, Nice 2 (ss.length * 28) dt ∧ ∀ H', Same H H' → Dp K H' (.ref a) dt := by
      rcases hS with q | q
      · exact ⟨.list (ss.map nstD), nl, fun H' s' => .lst (Same.seq s' q) (dp_nsts (nsv_same hV s'))⟩
      · have nt := nice_tuple (nice_nsts hI)
        rw [List.length_map] at nt
        exact ⟨.tuple (ss.map nstD), nt, fun H' s' => .tup (Same.tup s' q) (dp_nsts (nsv_same hV s'))⟩
    have hB : ss.length * 28 ≤ 2 ^ 20 := by
      show _ ≤ 1048576
      omega
    have rd : ∀ {H' : Hp} {R : VK}, Same H H' → R (.str dt.shown) H' → rRep K [.ref a] H' R := fun s' r => ⟨_, dt, rfl, hdt _ s', ⟨_, rfl⟩, nd.sh, nd.nd, Nat.le_trans nd.dep (by decide), nd.shown (by decide) hB, r⟩
    have s1 : Same H (upd H d (.dK [])) := Same.new hd
    have hd1 : upd H d (.dK []) d = some (.dK []) := upd_same
    generalize upd H d (.dK []) = H1 at s1 hd1
    refine ⟨_, rfl, ?_⟩
    dsimp only [tNil]
    refine rd s1 ⟨_, _, rfl, ?_⟩
    refine ⟨_, rfl, a, ys, ss, rfl, hS.imp (Same.seq s1) (Same.tup s1), by omega, nsv_same hV s1, hI, fun dp es H2 s2 hdp hdk hls pe => ?_⟩
    refine ⟨dp, .dK (kvsE es), rfl, hdk, mut_dK, fun od => ?_⟩
    have pok : PrOk (prtM ss) ss.length := by
      have := prtM_ok (ss := ss) ss.length hI
      rwa [List.take_length] at this
    have les : es.length = (prtM ss).length := by rw [← pe]; unfold pE; rw [List.length_map]
    have hd2 := s2 _ _ hd1
    have ddp : d ≠ dp := ne_of_none hd1 hdp
    have hF : upd H2 dp (.frz od (.dK (kvsE es))) dp = some (.frz od (.dK (kvsE es))) := upd_same
    have lsF : LsE (upd H2 dp (.frz od (.dK (kvsE es)))) es := hls.updD (fun us q => by rw [hdk] at q; cases q) (fun us q => by rw [hdk] at q; cases q)
    have hdF : upd H2 dp (.frz od (.dK (kvsE es))) d = some (.dK []) := by
      rw [upd_ne ddp]
      exact hd2
    have sF : Same H1 (upd H2 dp (.frz od (.dK (kvsE es)))) := Same.free2 s2 hdp
    generalize upd H2 dp (.frz od (.dK (kvsE es))) = HF at hF lsF hdF sF
    have keep : ∀ {H3 : Hp} {b : Addr} {o : HO}, Same (hid [d] HF) (hid [d] H3) → HF b = some o → b ≠ d → H3 b = some o := fun s3 q n => hid_out _ _ _ _ (s3 _ _ (by rw [hid_ne (by simpa using n)]; exact q))
    refine ⟨dp, od, kvsE es, rfl, hF, for_it walk_items (fun j σ H3 => ∃ (kvs : List (Key × V)) (y3 y4 y5 y6 : Option V), σ = [some (.ref a), some (.ref d), some (.str dt.shown), y3, y4, y5, y6] ∧ H3 d = some (.dK kvs) ∧ Paired (DueE (hid [d] H3)) kvs ((prtM ss).take j) ∧ Same (hid [d] HF) (hid [d] H3)) ⟨[], _, _, _, _, rfl, hdF, .nil, Same.refl _⟩ (fun j σ H3 _ q => ?_) ?_ ?_⟩
    · obtain ⟨_, _, _, _, _, _, _, _, s3⟩ := q
      exact keep s3 hF (Ne.symm ddp)
    · rintro j x σ H3 HY hj ⟨kvs, y3, y4, y5, y6, rfl, h3, hP, s3⟩ ⟨T, x', y', rfl, nT, rfl, hx, hy⟩
      dsimp only at hx hy
      unfold kvsE at hx hy
      rw [List.getElem?_map] at hx hy
      obtain ⟨e, he, rfl, rfl⟩ : ∃ e, es[j]? = some e ∧ x' = V.str e.1 ∧ y' = V.ref e.2.1 := by
        cases hq : es[j]? with
        | none =>
          rw [hq] at hx
          cases hx
        | some e =>
          rw [hq] at hx hy
          cases hx
          cases hy
          exact ⟨e, rfl, rfl, rfl⟩
      have pj : (prtM ss)[j]? = some (e.1, e.2.2) := by
        rw [← pe]
        unfold pE
        rw [List.getElem?_map, he]
        rfl
      obtain ⟨q1, q2, q3⟩ := pok.ok _ (List.mem_of_getElem? pj)
      have q3 : e.2.2.length ≤ ss.length := q3
      obtain ⟨us, hL, hs⟩ := lsF e (List.mem_of_getElem? he)
      have sT : Same H3 (upd H3 T (.tup [.str e.1, .ref e.2.1])) := Same.new nT
      have Ld : e.2.1 ≠ d := fun q => by
        rw [q, hdF] at hL
        cases hL
      have hL4 := sT _ _ (keep s3 hL Ld)
      have hs4 : StepsH (upd H3 T (.tup [.str e.1, .ref e.2.1])) us e.2.2 := Paired.mapP hs fun _ _ q => by
        obtain ⟨t, et, z⟩ := q
        exact ⟨t, et, sT _ _ (keep s3 z (fun q => by rw [q, hdF] at z; cases z))⟩
      refine ⟨T, _, rfl, .of upd_same, rfl, _, _, rfl, _, _, rfl, rfl, ?_⟩
      have h4 := sT _ _ h3
      have s4 := s3.trans (hid_of (S := [d]) sT)
      have hP4 := due_same hP (hid_of (S := [d]) sT)
      generalize upd H3 T (.tup [.str e.1, .ref e.2.1]) = H4 at hL4 hs4 h4 s4 hP4
      have fin : ∀ (v : V) (H5 : Hp), Same H4 H5 → DueE H5 (Sum.inr e.1, v) (e.1, e.2.2) → H5 d = some (.dK kvs) ∧ kvs.length < sizeLine ∧ upd H5 d (.dK (putK kvs (Sum.inr e.1) v)) d = some (.dK (kvs ++ [(Sum.inr e.1, v)])) ∧ Paired (DueE (hid [d] (upd H5 d (.dK (putK kvs (Sum.inr e.1) v))))) (kvs ++ [(Sum.inr e.1, v)]) ((prtM ss).take (j + 1)) ∧ Same (hid [d] HF) (hid [d] (upd H5 d (.dK (putK kvs (Sum.inr e.1) v)))) := fun v H5 s5 hE => by
        have h5 := s5 _ _ h4
        have nin : e.1 ∉ ((prtM ss).take j).map (·.1) := by
          rw [List.map_take]
          exact take_fresh pok.nd (by rw [List.getElem?_map, pj]; rfl)
        have ep : putK kvs (Sum.inr e.1) v = kvs ++ [(Sum.inr e.1, v)] := put_fresh hP4 (fun _ _ q => q.key) nin
        have s6 : Same (hid [d] H5) (hid [d] (upd H5 d (.dK (putK kvs (Sum.inr e.1) v)))) := hid_upd (by simp)
        refine ⟨h5, ?_, ?_, ?_, (s4.trans (hid_of s5)).trans s6⟩
        · have := paired_len hP4
          rw [List.length_take] at this
          have := pok.len
          rw [sizeLine_eq]
          omega
        · rw [upd_same, ep]
        · rw [List.take_add_one, pj]
          exact Paired.snoc2 (due_same (due_same hP4 (hid_of s5)) s6) ((hE.map (tup_hid h5 fun us q => by cases q)).map fun b us q => s6 _ _ q)
      have lus : us.length = e.2.2.length := hs4.length
      refine ⟨_, rfl, e.2.1, us, e.2.2, rfl, .of hL4, hs4.v, q2, by omega, fun hn H5 s5 => ?_, fun xs zs q hq t u v H5 s5 ht hu2 hv => ?_⟩
      · obtain ⟨f1, f2, f3, f4, f5⟩ := fin .non H5 s5 ⟨rfl, fun _ => rfl, fun xs zs q hq => by rw [hn] at hq; cases hq⟩
        exact ⟨_, rfl, _, rfl, d, _, rfl, .inl ⟨kvs, Sum.inr e.1, f1, rfl, f2, rfl⟩, _, _, _, _, _, rfl, f3, f4, f5⟩
      · obtain ⟨f1, f2, f3, f4, f5⟩ := fin (.ref t) H5 s5 ⟨rfl, fun hn => (by rw [hq] at hn; cases hn), fun xs' zs' q' h' => by
          rw [hq] at h'
          cases h'
          exact ⟨t, u, v, rfl, ht, hu2, hv⟩⟩
        exact ⟨_, rfl, _, rfl, d, _, rfl, .inl ⟨kvs, Sum.inr e.1, f1, rfl, f2, rfl⟩, _, _, _, _, _, rfl, f3, f4, f5⟩
    rintro σ H3 ⟨kvs, y3, y4, y5, y6, rfl, h3, hP, s3⟩
    have lk : (kvsE es).length = (prtM ss).length := by unfold kvsE; rw [List.length_map]; exact les
    rw [lk, List.take_length] at hP
    have hP3 : Paired (DueE H3) kvs (prtM ss) := due_same hP (hid_out _ _)
    have sH3 : Same H H3 := fun b o q => keep s3 (sF _ _ (s1 _ _ q)) (ne_of_none q hd)
    have shL : SeqAt.shaped (.list ((prtM ss).map fun p => dV (effM p.2))) = true := (nice_list (k := 2) (B := 3000) fun z hz => by
      obtain ⟨p, mp, rfl⟩ := List.mem_map.mp hz
      obtain ⟨_, i2, i3⟩ := pok.ok p mp
      exact dV_nice i2 (by omega)).shaped (by decide)
    have nd3 : d ≠ dp := ddp
    clear hP s3 keep lsF hdF sF hF hls hdk
    refine ⟨_, rfl, a, ys, ss, rfl, hS.imp (Same.seq sH3) (Same.tup sH3), by omega, nsv_same hV sH3, hI, fun c H4 s4 => ?_, fun c fd fkvs H4 s4 hf0 hf4 hPf => ?_⟩
    · refine ⟨fun b H5 => b = false ∧ Same H4 H5, ?_, ?_⟩
      · refine ⟨_, rfl, ?_⟩
        dsimp only [tNil]
        refine rd (sH3.trans s4) ⟨_, rfl, rfl, _, rfl, ?_⟩
        rw [decide_eq_true rfl]
        refine iteF ⟨_, rfl, rfl, _, rfl, d, kvs, rfl, s4 _ _ h3, fun L hL => ⟨.none, (prtM ss).map fun p => dV (effM p.2), .non, .lst (.of upd_same) (dp_dues (due_same hP3 (s4.trans (Same.new hL)))), rfl, shL, rfl, _, rfl, ?_, Same.new hL⟩⟩
        rw [anyD, show ((prtM ss).any fun p => decide (effM p.2 = none)) = true from by
          obtain ⟨p, m, q⟩ := c
          exact List.any_eq_true.mpr ⟨p, m, decide_eq_true q⟩]
        rfl
      · rintro b H5 ⟨rfl, s5⟩
        refine iteF ⟨_, rfl, rfl, _, rfl, ?_⟩
        rw [decide_eq_true rfl]
        exact iteT (k H5 ((sH3.trans s4).trans s5))
    · refine ⟨fun b H5 => b = false ∧ Same H4 H5, ?_, ?_⟩
      · refine ⟨_, rfl, ?_⟩
        dsimp only [tNil]
        refine rd (sH3.trans s4) ⟨_, rfl, rfl, _, rfl, ?_⟩
        rw [decide_eq_true rfl]
        refine iteF ⟨_, rfl, rfl, _, rfl, d, kvs, rfl, s4 _ _ h3, fun L hL => ⟨.none, (prtM ss).map fun p => dV (effM p.2), .non, .lst (.of upd_same) (dp_dues (due_same hP3 (s4.trans (Same.new hL)))), rfl, shL, rfl, _, rfl, ?_, Same.new hL⟩⟩
        rw [anyD, show ((prtM ss).any fun p => decide (effM p.2 = none)) = false from by
          rw [Bool.eq_false_iff]
          intro q
          obtain ⟨p, m, q⟩ := List.any_eq_true.mp q
          exact c p m (of_decide_eq_true q)]
        rfl
      · rintro b H5 ⟨rfl, s5⟩
        refine iteF ⟨_, rfl, rfl, _, rfl, ?_⟩
        rw [show decide (V.ref fd = V.non) = false from rfl]
        refine iteF ?_
        have h5 : H5 d = some (.dK kvs) := s5 _ _ (s4 _ _ h3)
        have hf5 := s5 _ _ hf4
        have hPf5 := entE_same hPf s5
        have hP5 := due_same hP3 (s4.trans s5)
        have s05 : Same H H5 := (sH3.trans s4).trans s5
        have nf : H fd = none := sH3.free hf0
        have dfd : fd ≠ d := Ne.symm (ne_of_none h3 hf0)
        refine ⟨d, .dK kvs, h5, mut_dK, fun od2 => ?_⟩
        have h6 : upd H5 d (.frz od2 (.dK kvs)) d = some (.frz od2 (.dK kvs)) := upd_same
        have hf6 : upd H5 d (.frz od2 (.dK kvs)) fd = some (.dK fkvs) := by
          rw [upd_ne dfd]
          exact hf5
        have hPf6 : Paired (EntE K C (upd H5 d (.frz od2 (.dK kvs)))) fkvs (prtM ss) := entE_upd hPf5 h5
        have hP6 : Paired (DueE (upd H5 d (.frz od2 (.dK kvs)))) kvs (prtM ss) := due_map hP5 (tup_upd h5 fun us q => by cases q)
        have s6 : Same H (upd H5 d (.frz od2 (.dK kvs))) := Same.free2 s05 hd
        generalize upd H5 d (.frz od2 (.dK kvs)) = H6 at h6 hf6 hPf6 hP6 s6
        refine ⟨_, rfl, d, od2, kvs, rfl, h6, for_it walk_items (fun j σ H7 => ∃ z3 z6, σ = [some (.ref a), some (.ref d), some (.str dt.shown), z3, y4, some (.ref fd), z6] ∧ Same H6 H7) ⟨_, _, rfl, Same.refl _⟩ (fun j σ H7 _ q => ?_) ?_ ?_⟩
        · obtain ⟨_, _, _, s7⟩ := q
          exact s7 _ _ h6
        · rintro j x σ H7 HY hj ⟨z3, z6, rfl, s7⟩ ⟨T', x', y', rfl, nT, rfl, hx, hy⟩
          dsimp only at hx hy
          obtain ⟨kk, vv, hkv, rfl, rfl⟩ : ∃ kk vv, kvs[j]? = some (kk, vv) ∧ x' = kV kk ∧ y' = vv := by
            cases hq : kvs[j]? with
            | none =>
              rw [hq] at hx
              cases hx
            | some kv =>
              obtain ⟨kk, vv⟩ := kv
              rw [hq] at hx hy
              cases hx
              cases hy
              exact ⟨kk, vv, rfl, rfl, rfl⟩
          obtain ⟨p, hp, hD⟩ := paired_at hP6 hkv
          obtain ⟨i1, i2, i3⟩ := pok.ok p (List.mem_of_getElem? hp)
          cases ho : effM p.2 with
          | none => exact absurd ho (c p (List.mem_of_getElem? hp))
          | some B =>
            obtain ⟨xs, zs, q⟩ := B
            obtain ⟨t, u, v, e1, e2, e3, e4⟩ := hD.val xs zs q ho
            obtain rfl : kk = Sum.inr p.1 := hD.key
            obtain rfl : y' = .ref t := e1
            refine ⟨T', _, rfl, .of upd_same, rfl, _, _, rfl, _, _, rfl, rfl, ?_⟩
            have s8 : Same H6 (upd H7 T' (.tup [kV (Sum.inr p.1), .ref t])) := s7.trans (Same.new nT)
            generalize upd H7 T' (.tup [kV (Sum.inr p.1), .ref t]) = H8 at s8
            obtain ⟨fkv, hE, hv⟩ := pair_val (F := EntE K C H6) (fun _ _ q => q.1) hPf6 pok.nd hp
            obtain ⟨_, e, ee, hEV⟩ := hE
            rw [ee] at hv
            rw [ho] at hEV
            have hA : EffAt K C H8 e xs zs q := EffAt.same hEV s8
            obtain ⟨ok, l1, l2⟩ := effM_ok i2 ho
            have l1 : xs.length + zs.length ≤ p.2.length := l1
            have okE : EffOk (some (xs, zs, q)) := by
              rw [← ho]
              exact effM_EffOk i2 (by omega)
            refine ⟨_, rfl, _, rfl, fd, .ref e, rfl, .inl ⟨fkvs, Sum.inr p.1, .inl (s8 _ _ hf6), rfl, hv.symm⟩, ?_⟩
            refine ⟨_, rfl, t, _, 0, _, rfl, rfl, .of (s8 _ _ e2), atI_nat (j := 0) rfl, _, rfl, t, _, 1, _, rfl, rfl, .of (s8 _ _ e2), atI_nat (j := 1) rfl, _, rfl, t, _, 2, _, rfl, rfl, .of (s8 _ _ e2), atI_nat (j := 2) rfl, u, v, xs, zs, some q, rfl, rfl, .of (s8 _ _ e3), .of (s8 _ _ e4), by omega, by omega, ok.i1, ok.i2, fun z hz => (by cases hz; exact ok.lp), fun e5 H9 s9 n9 hE9 => ?_⟩
            have hA9 : EffV K C H9 e (some (xs, zs, q)) := EffAt.same hA s9
            have hE9 : EffV K C H9 e5 (some (xs, zs, q)) := hE9
            obtain ⟨d1, f1, j1⟩ := EffV.ins hA9
            obtain ⟨d2, f2, j2⟩ := EffV.ins hE9
            exact ⟨e, e5, true, d1, d2, f1, f2, rfl, rfl, j1, j2, ⟨_, _, hA9, hE9, okE, okE, (decide_eq_true rfl).symm⟩, fun H10 s10 => ⟨false, rfl, iteF ⟨_, _, rfl, (s8.trans s9).trans s10⟩⟩⟩
        · rintro σ H7 ⟨z3, z6, rfl, s7⟩
          refine ⟨s7 _ _ h6, ?_⟩
          have h8 : upd H7 d (.dK kvs) d = some (.dK kvs) := upd_same
          have hf8 : upd H7 d (.dK kvs) fd = some (.dK fkvs) := by
            rw [upd_ne dfd]
            exact s7 _ _ hf6
          have s8 : Same H (upd H7 d (.dK kvs)) := Same.free2 (s6.trans s7) hd
          generalize upd H7 d (.dK kvs) = H8 at h8 hf8 s8
          have lf : fkvs.length < sizeLine := by
            have := paired_len hPf6
            have := pok.len
            rw [sizeLine_eq]
            omega
          refine ⟨_, rfl, fd, _, rfl, .inl ⟨fkvs, Sum.inr "zz", hf8, rfl, lf, rfl⟩, ?_⟩
          have s9 : Same H (upd H8 fd (.dK (putK fkvs (Sum.inr "zz") .non))) := Same.free2 s8 nf
          have h9 : upd H8 fd (.dK (putK fkvs (Sum.inr "zz") .non)) d = some (.dK kvs) := by
            rw [upd_ne (Ne.symm dfd)]
            exact h8
          generalize upd H8 fd (.dK (putK fkvs (Sum.inr "zz") .non)) = H9 at s9 h9
          have en := pair_names (F := DueE H6) (fun _ _ q => q.key) hP6
          refine ⟨_, rfl, a, ys, ss, rfl, hS.imp (Same.seq s9) (Same.tup s9), by omega, nsv_same hV s9, hI, fun q => absurd q (fun ⟨p, m, z⟩ => c p m z), fun _ fd2 fk2 H10 s10 _ h10 hP10 => ⟨fd2, fk2, rfl, .of h10, fun L1 hL1 => ⟨_, rfl, d, kvs, rfl, .of (Same.new hL1 _ _ (s10 _ _ h9)), fun L2 hL2 => ?_⟩⟩⟩
          have en2 := pair_names (F := EntE K C H10) (fun _ _ q => q.1) hP10
          rw [en2] at hL2 ⊢
          rw [en]
          have shn : SeqAt.shaped (.list (((prtM ss).map (·.1)).map PyData.str)) = true := (nice_list (nice_strs fun z m => by
            obtain ⟨p, mp, rfl⟩ := List.mem_map.mp m
            exact (pok.ok p mp).1)).shaped (by decide)
          refine ⟨.list (((prtM ss).map (·.1)).map .str), .list (((prtM ss).map (·.1)).map .str), .lst (.of (Same.new hL2 _ _ upd_same)) (dp_strs _), .lst (.of upd_same) (dp_strs _), shn, shn, ?_⟩
          rw [eqv_listS, decide_eq_true rfl]
          exact k _ (((s9.trans s10).trans (Same.new hL1)).trans (Same.new hL2))
end
end SE
namespace SE
open PySem PySem.Spec PyProof.Rows L2
section
variable {P : Program} {w : World} {K : PySem.W.Frag} {mg : Str → Option Value} {base : Heap} {C : Addr}
/-! ### law -/
def spLaw (K : PySem.W.Frag) : Sp := fun xs H Q _ => ∃ (a : Addr) (ns : List Int), xs = [.ref a] ∧ SqL K H a (ns.map V.int) ∧ ns.length ≤ 63 ∧ ∀ H', Q (.bl true) H'
abbrev nLaw : List Str := ["_law_script", "_law_k", "_law_pool_here", "_law_turn", "_law_names", "_law_items_here", "_law_steps_here"]
theorem scLaw : FnScope nLaw ["_law_script"] (defScope sLaw) := ⟨rfl, rfl, rfl, by decide +kernel, rfl, by decide +kernel, by decide +kernel⟩
theorem ok_law {f : Addr} {fd : FuncData} (F : Fun K "law" "law" sLaw f fd)
    (GPl : Has P w K mg base "_law_pool" 1 ["_law_script", "_law_k"] [] (spPool K)) (GT : Has P w K mg base "_law_take" 1 ["_law_pool_here", "_law_many"] [] spTake) (GIt : Has P w K mg base "_law_items" 3 ["_law_pool_here", "_law_many"] [] spItems)
    (GW : Has P w K mg base "_law_named_well" 2 ["_law_pool_here", "_law_names", "_law_items_here", "_law_many"] [] spNamed) (GN : Has P w K mg base "_law_named" 3 ["_law_pool_here", "_law_names", "_law_items_here", "_law_many"] [] spNamed)
    (GR : GHas P w K mg base "_law_right" 10 ["_law_steps_here"] (spRi K)) (GE : Has P w K mg base "effects_of" 9 ["steps"] [] (spEffs K C)) (B : Blt mg) (mr : mg "range" = none) (mx : mg "max" = none) (mn : mg "min" = none) : GOk P w K mg base 11 f fd ["_law_script"] (spLaw K) := by
  refine gok_mk F scLaw (fun xs H Q E h => ?_) (fun cv A out s H xs Q E hgu hr h => ?_)
  · obtain ⟨a, ns, rfl, _⟩ := h
    rfl
  · obtain ⟨a, ns, rfl, hS, hlen, k⟩ := h
    have hr1 : Room 1 _ := hr.mono (by decide)
    have hr2 : Room 2 _ := hr.mono (by decide)
    have hr3 : Room 3 _ := hr.mono (by decide)
    have hr9 : Room 9 _ := hr.mono (by decide)
    refine ⟨_, pss_cons (ps_for PassesOwn.never rfl (pi_range1 (by rfl) mr (pa_cons (pe_callB (call_max2 rfl) (by rfl) mx (by decide +kernel) (pa_cons pe_int (pa_cons (pe_callB (call_min2 rfl) (by rfl) mn (by decide +kernel) (pa_cons (pe_callB call_len_seq (by rfl) B.len PySem.boot_len (pa_cons (pv 0) pa_nil)) (pa_cons pe_int pa_nil))) pa_nil))) pa_nil)) (pg_name (i := 1) scLaw.nd rfl (.inl rfl))
      (pss_cons (ps_set (i := 2) scLaw.nd rfl (.inl rfl) (pe_has GPl hr1 (pa_cons (pv 0) (pa_cons (pv 1) pa_nil))))
      (pss_one (ps_for PassesOwn.never rfl (pi_range1 (by rfl) mr (pa_cons pe_int pa_nil)) (pg_name (i := 3) scLaw.nd rfl (.inl rfl))
        (pss_cons (ps_par (i := 4) (j := 5) (by rfl) scLaw.nd rfl rfl (by decide) rfl rfl (pa_cons (pe_has GIt hr3 (pa_cons (pv 2) (pa_cons (pe_op op_add pe_int (pe_has GT hr1 (pa_cons (pv 2) (pa_cons pe_int pa_nil)))) pa_nil))) (pa_cons (pe_has GIt hr3 (pa_cons (pv 2) (pa_cons (pe_op op_add pe_int (pe_has GT hr1 (pa_cons (pv 2) (pa_cons pe_int pa_nil)))) pa_nil))) pa_nil)) (by rfl))
        (pss_cons (ps_set (i := 6) scLaw.nd rfl (.inl rfl) (pe_has GW hr2 (pa_cons (pv 2) (pa_cons (pv 4) (pa_cons (pv 5) (pa_cons (pe_has GT hr1 (pa_cons (pv 2) (pa_cons pe_int pa_nil))) pa_nil))))))
        (pss_cons (ps_if (pt_cut (PW.pt (pw_or (pt_not (pt_val (pe_ghas GR hgu hr (pa_cons (pv 6) pa_nil)))) (pw_or1 (pt_not (pt_val (pe_ghas GR hgu hr (pa_cons (pe_callTy call_tuple_of (by rfl) B.tup (by decide +kernel) (pa_cons (pv 6) pa_nil)) pa_nil)))))))) (pss_one (ps_ret pe_bl)) pss_nil)
        (pss_one (ps_if (pt_not (pt_val (pe_ghas GR hgu hr (pa_cons (pe_has GN hr3 (pa_cons (pv 2) (pa_cons (pv 4) (pa_cons (pv 5) (pa_cons (pe_has GT hr1 (pa_cons (pv 2) (pa_cons pe_int pa_nil))) pa_nil))))) pa_nil)))) (pss_one (ps_ret pe_bl)) pss_nil)))))))))
      (pss_one (ps_ret (pe_cmpR (op_eq_dictA hr.units0) (pe_has GE hr9 (pa_cons (pe_lst pa_nil) pa_nil)) pe_dnewK (nomark _)))), ?_⟩
    refine ⟨_, rfl, a, _, rfl, .inl hS, _, 8, rfl, 1, _, rfl, ?_⟩
    have hN : ∀ n : Nat, (1 : Int) ≤ (if (if (8 : Int) < (n : Int) then 8 else (n : Int)) > 1 then (if (8 : Int) < (n : Int) then 8 else (n : Int)) else 1) ∧ (if (if (8 : Int) < (n : Int) then 8 else (n : Int)) > 1 then (if (8 : Int) < (n : Int) then 8 else (n : Int)) else 1) ≤ 8 := by
      intro n
      split <;> split <;> omega
    have hN1 := hN (ns.map V.int).length
    generalize hM : (if (if (8 : Int) < ((ns.map V.int).length : Int) then 8 else ((ns.map V.int).length : Int)) > 1 then (if (8 : Int) < ((ns.map V.int).length : Int) then 8 else ((ns.map V.int).length : Int)) else 1) = N at hN1
    refine ⟨N, by rw [← hM], by omega, by omega, for_range (lo := 0) (n := N.toNat) (fun i σ H2 => ∃ (y1 y2 y3 y4 y5 y6 : Option V), σ = [some (.ref a), y1, y2, y3, y4, y5, y6] ∧ Same H H2) ⟨_, _, _, _, _, _, rfl, Same.refl H⟩ ?_ ?_⟩
    rotate_left
    · rintro σ H2 ⟨y1, y2, y3, y4, y5, y6, rfl, s2⟩
      refine ⟨(by show 0 ≤ sizeLine; decide), fun L hL => ⟨L, [], [], rfl, .inl (.of upd_same), by decide, .nil, fun s m => (by cases m), fun ⟨p, m, _⟩ => (by cases m), fun _ d kvs H3 s3 _ hd hP e he => ⟨d, e, kvs, [], rfl, rfl, ?_, upd_same, ?_, fun p m => ?_, k _⟩⟩⟩
      · rw [upd_ne (ne_of_none hd he)]
        exact hd
      · exact (paired_len hP).trans rfl
      · have l0 : kvs.length = 0 := (paired_len hP).trans rfl
        rw [List.eq_nil_of_length_eq_zero l0] at m
        cases m
    rintro i σ H2 hi ⟨y1, y2, y3, y4, y5, y6, rfl, s2⟩
    refine ⟨_, rfl, _, rfl, a, ns, 0 + i, rfl, Same.seq s2 hS, by omega, by omega, fun p H3 s3 hp p3 => ?_⟩
    have hpn : H p = none := s2.free hp
    refine ⟨3, rfl, by decide, by decide, for_range (lo := 0) (n := 3) (fun j σ H4 => ∃ (z3 z4 z5 z6 : Option V), σ = [some (.ref a), some (.int (0 + (i : Nat))), some (.ref p), z3, z4, z5, z6] ∧ Pool H4 p ∧ But p H3 H4) ⟨_, _, _, _, rfl, p3, But.refl _ _⟩ ?_ ?_⟩
    rotate_left
    · rintro σ H4 ⟨z3, z4, z5, z6, rfl, p4, b4⟩
      exact ⟨_, _, _, _, _, _, rfl, Same.but3 (s2.trans s3) hpn b4⟩
    rintro j σ H4 hj ⟨z3, z4, z5, z6, rfl, p4, b4⟩
    refine ⟨_, rfl, _, rfl, p, 4, rfl, p4, by decide, by decide, fun r H5 b5 p5 r0 r1 => ⟨1, r, rfl, rfl, p, 1 + r, rfl, p5, by omega, by omega, fun n ns' H6 b6 p6 n0 np hn6 ln nI => ?_⟩⟩
    refine ⟨_, rfl, _, rfl, p, 3, rfl, p6, by decide, by decide, fun r' H7 b7 p7 r0' r1' => ⟨1, r', rfl, rfl, p, 1 + r', rfl, p7, by omega, by omega, fun l zs H8 b8 p8 l0 lp hl8 lz iz => ?_⟩⟩
    have nne : ns' ≠ [] := fun e => by rw [e] at ln; simp only [List.length_nil] at ln; omega
    have zne : zs ≠ [] := fun e => by rw [e] at lz; simp only [List.length_nil] at lz; omega
    refine ⟨_, _, rfl, ?_⟩
    have hn8 := b8 _ _ np (b7 _ _ np hn6)
    refine ⟨_, rfl, _, rfl, _, rfl, _, rfl, p, 19, rfl, p8, by decide, by decide, fun r3 H9 b9 p9 u0 u1 => ⟨p, n, l, r3, ns', zs, rfl, p9, np, b9 _ _ np hn8, nne, by omega, nI, lp, b9 _ _ lp hl8, zne, by omega, iz, by omega, by omega, fun t us ss HA bA pA t0 tp htA hsA ls ok => ?_⟩⟩
    have lus : us.length = ss.length := Paired.length hsA
    refine ⟨fun b HB => b = false ∧ Same HA HB, ?_, ?_⟩
    · refine ⟨_, rfl, t, us, ss, rfl, .inl (.of htA), by omega, hsA.v, ok, fun HB sB => ⟨true, rfl, iteF ?_⟩⟩
      refine ⟨_, rfl, t, us, rfl, .inl ⟨.of (sB _ _ htA), fun u hu => ?_⟩⟩
      have su : Same HB (upd HB u (.tup us)) := Same.new hu
      exact ⟨u, us, ss, rfl, .inr (.of upd_same), by omega, (nsth_same hsA (sB.trans su)).v, ok, fun HC sC => ⟨true, rfl, rfl, (sB.trans su).trans sC⟩⟩
    · rintro b HB ⟨rfl, sB⟩
      have bB : But p H6 HB := (((b7.trans b8).trans b9).trans bA).trans (But.of sB)
      have pB := pA.same sB
      refine iteF ⟨_, rfl, _, rfl, _, rfl, _, rfl, p, 12, rfl, pB, by decide, by decide, fun r4 HC bC pC v0 v1 => ⟨p, n, l, r4, ns', zs, rfl, pC, np, bC _ _ np (bB _ _ np hn6), nne, by omega, nI, lp, bC _ _ lp (sB _ _ (bA _ _ lp (b9 _ _ lp hl8))), zne, by omega, iz, by omega, by omega, fun t' us' ss' HD bD pD t0' tp' htD hsD ls' ok' => ?_⟩⟩
      have lus' : us'.length = ss'.length := Paired.length hsD
      exact ⟨t', us', ss', rfl, .inl (.of htD), by omega, hsD.v, ok', fun HE sE => ⟨true, rfl, iteF ⟨_, _, _, _, rfl, pD.same sE, ((((b4.trans b5).trans b6).trans bB).trans (bC.trans bD)).trans (But.of sE)⟩⟩⟩
end
end SE
namespace SE
open PySem PySem.Spec PyProof.Rows L2
section
/-! ### what the top has left -/
theorem def_mk {K : PySem.W.Frag} {h : Heap} {mg : Str → Option Value} {x : Str} {st : Stmt} {f : Addr} {oc : Value} {od an : Option Addr} {osl : Array (Option Value)} {kV doc pm cdv ct : Value} (X : K.In h) (G : h.Ns mainGlobals mg)
    (a : PySem.W.nsIn K mainGlobals x = some (some (.ref f))) (l : K.lookup f = some ⟨oc, od, .func (PySem.W.fnOf x x (defArgs st) (defBody st) (defScope st) .none kV doc pm an cdv ct), osl⟩)
    (c : PySem.W.codeIn K cdv x = true) (k : PySem.W.keepIn K (.ref f) = true) : Def K mg x st := ⟨f, _, fun_mk l c k, PySem.W.mg_of X G a⟩
theorem defk_mk {K : PySem.W.Frag} {h : Heap} {mg : Str → Option Value} {x y : Str} {st : Stmt} {f d : Addr} {oc : Value} {od an : Option Addr} {osl : Array (Option Value)} {doc pm cdv ct : Value} (X : K.In h) (G : h.Ns mainGlobals mg)
    (a : PySem.W.nsIn K mainGlobals x = some (some (.ref f))) (l : K.lookup f = some ⟨oc, od, .func (PySem.W.fnOf x x (defArgs st) (defBody st) (defScope st) .none (.ref d) doc pm an cdv ct), osl⟩)
    (c : PySem.W.codeIn K cdv x = true) (k : PySem.W.keepIn K (.ref f) = true) (n : PySem.W.nsIn K d y = some (some .none)) : DefK K mg x st [(y, .non)] := by
  refine ⟨f, _, fun_mk l c k, ⟨⟨oc, od, .none, .ref d, doc, pm, an, cdv, ct, osl, rfl, l, c, .inl ⟨rfl, rfl⟩, .inr ⟨d, rfl, fun q hq => ?_⟩⟩, k⟩, PySem.W.mg_of X G a⟩
  rw [List.mem_singleton.mp hq]
  exact ⟨.none, n, rfl⟩
theorem init_mk {K : PySem.W.Frag} {x q y : Str} {st : Stmt} {f d : Addr} {oc : Value} {od an : Option Addr} {osl : Array (Option Value)} {doc pm cdv ct : Value}
    (l : K.lookup f = some ⟨oc, od, .func (PySem.W.fnOf x q (defArgs st) (defBody st) (defScope st) .none (.ref d) doc pm an cdv ct), osl⟩) (c : PySem.W.codeIn K cdv q = true) (k : PySem.W.keepIn K (.ref f) = true) (n : PySem.W.nsIn K d y = some (some .none)) :
    FunD K x q (defArgs st) (defBody st) (defScope st) [] [(y, .non)] f (PySem.W.fnOf x q (defArgs st) (defBody st) (defScope st) .none (.ref d) doc pm an cdv ct) := by
  refine ⟨⟨oc, od, .none, .ref d, doc, pm, an, cdv, ct, osl, rfl, l, c, .inl ⟨rfl, rfl⟩, .inr ⟨d, rfl, fun z hz => ?_⟩⟩, k⟩
  rw [List.mem_singleton.mp hz]
  exact ⟨.none, n, rfl⟩
theorem all_mk {l : PySem.W.OpenLaw} {w : World} {K : PySem.W.Frag} {h : Heap} {mg : Str → Option Value} {fa gI dI C D fL gP0 qP0 gP1 qP1 gP2 qP2 gP3 qP3 gM0 qM0 gQ : Addr} {tk1 tk2 tk3 : Tok} (X : K.In h) (G : h.Ns mainGlobals mg) (hfa : mg "law" = some (.ref fa))
    {odI anI : Option Addr} {slI : Array (Option Value)} {ocI dcI pmI cdI ctI : Value}
    {odP0 anP0 : Option Addr} {slP0 : Array (Option Value)} {ocP0 kVP0 dcP0 pmP0 cdP0 ctP0 : Value}
    {rP0 : List Value}
    {odP1 anP1 : Option Addr} {slP1 : Array (Option Value)} {ocP1 kVP1 dcP1 pmP1 cdP1 ctP1 : Value}
    {rP1 : List Value}
    {odP2 anP2 : Option Addr} {slP2 : Array (Option Value)} {ocP2 kVP2 dcP2 pmP2 cdP2 ctP2 : Value}
    {rP2 : List Value}
    {odP3 anP3 : Option Addr} {slP3 : Array (Option Value)} {ocP3 kVP3 dcP3 pmP3 cdP3 ctP3 : Value}
    {rP3 : List Value}
    {odM0 anM0 : Option Addr} {slM0 : Array (Option Value)} {ocM0 kVM0 dcM0 pmM0 cdM0 ctM0 : Value}
    {rM0 : List Value}
    {odQ anQ : Option Addr} {slQ : Array (Option Value)} {ocQ kVQ dcQ pmQ cdQ ctQ : Value}
    {odL anL : Option Addr} {slL : Array (Option Value)} {ocL kVL dcL pmL cdL ctL : Value} {es : Array DictEntry} {n : Nat} {uP uQ : Value}
    (d_is_whole : Def K mg "is_whole" sIsWhole)
    (d_is_item : Def K mg "is_item" sIsItem)
    (d_is_word : Def K mg "is_word" sIsWord)
    (d_is_step : Def K mg "is_step" sIsStep)
    (d_may_hold_steps : Def K mg "may_hold_steps" sMayHold)
    (d_check_steps : Def K mg "check_steps" sChkSteps)
    (d_check_word : Def K mg "check_word" sChkWord)
    (d_least_peak : Def K mg "least_peak" sLeastPeak)
    (d_joined : Def K mg "joined" sJoined)
    (d_parts_of_step : Def K mg "parts_of_step" sPartsOfStep)
    (d_effect_of : Def K mg "effect_of" sEffectOf)
    (d_is_named_step : Def K mg "is_named_step" sIsNamedStep)
    (d_check_named_steps : Def K mg "check_named_steps" sCheckNamedSteps)
    (d_split : Def K mg "split" sSplit)
    (d_effects_of : Def K mg "effects_of" sEffectsOf)
    (d__law_pool : Def K mg "_law_pool" sPool)
    (d__law_take : Def K mg "_law_take" sTake)
    (d__law_name : Def K mg "_law_name" sName)
    (d__law_items : Def K mg "_law_items" sItems)
    (d__law_steps : Def K mg "_law_steps" sSteps)
    (d__law_named : Def K mg "_law_named" sLawNamed)
    (d__law_named_well : Def K mg "_law_named_well" sLawNamedWell)
    (d__law_parts : Def K mg "_law_parts" sLawParts)
    (d__law_effect : Def K mg "_law_effect" sLawEffect)
    (d__law_right : Def K mg "_law_right" sRight)
    (z_isinstance : PySem.W.nsIn K mainGlobals "isinstance" = some none)
    (z_str : PySem.W.nsIn K mainGlobals "str" = some none)
    (z_len : PySem.W.nsIn K mainGlobals "len" = some none)
    (z_all : PySem.W.nsIn K mainGlobals "all" = some none)
    (z_tuple : PySem.W.nsIn K mainGlobals "tuple" = some none)
    (z_list : PySem.W.nsIn K mainGlobals "list" = some none)
    (z_enumerate : PySem.W.nsIn K mainGlobals "enumerate" = some none)
    (z_range : PySem.W.nsIn K mainGlobals "range" = some none)
    (z_abs : PySem.W.nsIn K mainGlobals "abs" = some none)
    (z_int : PySem.W.nsIn K mainGlobals "int" = some none)
    (z_bool : PySem.W.nsIn K mainGlobals "bool" = some none)
    (z_max : PySem.W.nsIn K mainGlobals "max" = some none)
    (z_min : PySem.W.nsIn K mainGlobals "min" = some none)
    (z_repr : PySem.W.nsIn K mainGlobals "repr" = some none)
    (z_any : PySem.W.nsIn K mainGlobals "any" = some none)
    (z_dict : PySem.W.nsIn K mainGlobals "dict" = some none)
    (cL : PySem.W.nsIn K mainGlobals "LETTERS" = some (some (.str abc tk1)))
    (cM : PySem.W.nsIn K mainGlobals "MOST_LETTERS" = some (some (.int 8 tk2)))
    (cS : PySem.W.nsIn K mainGlobals "MOST_STEPS" = some (some (.int 1000 tk3)))
    (cO : PySem.W.nsIn K mainGlobals "OPPOSITES" = some (some (.ref D)))
    (lO : K.lookup D = some ⟨.type "dict", none, .dict es n, #[]⟩)
    (kO : PySem.W.KeysLit w.params es.toList)
    (wO : (D == sysModules) = false)
    (pO : PySem.W.nsIn K D "push" = some (some uP))
    (qO : PySem.W.nsIn K D "pop" = some (some uQ))
    (rP : RelV (.str "pop") uP)
    (rQ : RelV (.str "push") uQ)
    (aC : PySem.W.nsIn K mainGlobals "Effect" = some (some (.ref C)))
    (pg : PySem.W.plainGet K C Str.empty = true)
    (hd : PySem.W.hasDictIn K C = true)
    (po : PySem.W.plainOver K C = true)
    (sa : PySem.W.findIn K (.ref C) "__setattr__" = some (some (.builtin "object.__setattr__")))
    (nN : PySem.W.findIn K (.ref C) "needs" = some none)
    (nL : PySem.W.findIn K (.ref C) "leaves" = some none)
    (nH : PySem.W.findIn K (.ref C) "highest" = some none)
    (mkC : PySem.W.makesIn K C = true)
    (keC : PySem.W.keepIn K (.ref C) = true)
    (aI : PySem.W.findIn K (.ref C) "__init__" = some (some (.ref gI)))
    (iI : PySem.W.isFn K (.ref gI) = true)
    (lI : K.lookup gI = some ⟨ocI, odI, .func (PySem.W.fnOf "__init__" "Effect.__init__" (defArgs sInit) (defBody sInit) (defScope sInit) .none (.ref dI) dcI pmI anI cdI ctI), slI⟩)
    (cI : PySem.W.codeIn K cdI "Effect.__init__" = true)
    (kI : PySem.W.keepIn K (.ref gI) = true)
    (nI : PySem.W.nsIn K dI "peak" = some (some .none))
    (aP0 : PySem.W.findIn K (.ref C) "pops" = some (some (.ref qP0)))
    (bP0 : PySem.W.specialIn K (.ref qP0) "__get__" = some (some (.builtin "property.__get__")))
    (tP0 : PySem.W.takesIn K (.ref qP0) = some true)
    (uP0 : PySem.W.recIn K qP0 "property" = some (.ref gP0 :: rP0))
    (lP0 : K.lookup gP0 = some ⟨ocP0, odP0, .func (PySem.W.fnOf "pops" "Effect.pops" (defArgs sPops) (defBody sPops) (defScope sPops) .none kVP0 dcP0 pmP0 anP0 cdP0 ctP0), slP0⟩)
    (cP0 : PySem.W.codeIn K cdP0 "Effect.pops" = true)
    (kP0 : PySem.W.keepIn K (.ref gP0) = true)
    (aP1 : PySem.W.findIn K (.ref C) "pushes" = some (some (.ref qP1)))
    (bP1 : PySem.W.specialIn K (.ref qP1) "__get__" = some (some (.builtin "property.__get__")))
    (tP1 : PySem.W.takesIn K (.ref qP1) = some true)
    (uP1 : PySem.W.recIn K qP1 "property" = some (.ref gP1 :: rP1))
    (lP1 : K.lookup gP1 = some ⟨ocP1, odP1, .func (PySem.W.fnOf "pushes" "Effect.pushes" (defArgs sPushes) (defBody sPushes) (defScope sPushes) .none kVP1 dcP1 pmP1 anP1 cdP1 ctP1), slP1⟩)
    (cP1 : PySem.W.codeIn K cdP1 "Effect.pushes" = true)
    (kP1 : PySem.W.keepIn K (.ref gP1) = true)
    (aP2 : PySem.W.findIn K (.ref C) "is_never" = some (some (.ref qP2)))
    (bP2 : PySem.W.specialIn K (.ref qP2) "__get__" = some (some (.builtin "property.__get__")))
    (tP2 : PySem.W.takesIn K (.ref qP2) = some true)
    (uP2 : PySem.W.recIn K qP2 "property" = some (.ref gP2 :: rP2))
    (lP2 : K.lookup gP2 = some ⟨ocP2, odP2, .func (PySem.W.fnOf "is_never" "Effect.is_never" (defArgs sIsNever) (defBody sIsNever) (defScope sIsNever) .none kVP2 dcP2 pmP2 anP2 cdP2 ctP2), slP2⟩)
    (cP2 : PySem.W.codeIn K cdP2 "Effect.is_never" = true)
    (kP2 : PySem.W.keepIn K (.ref gP2) = true)
    (aP3 : PySem.W.findIn K (.ref C) "peak" = some (some (.ref qP3)))
    (bP3 : PySem.W.specialIn K (.ref qP3) "__get__" = some (some (.builtin "property.__get__")))
    (tP3 : PySem.W.takesIn K (.ref qP3) = some true)
    (uP3 : PySem.W.recIn K qP3 "property" = some (.ref gP3 :: rP3))
    (lP3 : K.lookup gP3 = some ⟨ocP3, odP3, .func (PySem.W.fnOf "peak" "Effect.peak" (defArgs sPeak) (defBody sPeak) (defScope sPeak) .none kVP3 dcP3 pmP3 anP3 cdP3 ctP3), slP3⟩)
    (cP3 : PySem.W.codeIn K cdP3 "Effect.peak" = true)
    (kP3 : PySem.W.keepIn K (.ref gP3) = true)
    (rdC : PySem.W.readsIn K C (.type "type") = true)
    (gaC : PySem.W.specialIn K (.ref C) "__getattribute__" = some (some (.builtin "type.__getattribute__")))
    (aM0 : PySem.W.findCls K (.ref C) (.type "type") "never" = some (.get (.builtin "classmethod.__get__") (.ref qM0) .none (.ref C)))
    (uM0 : PySem.W.recIn K qM0 "classmethod" = some (.ref gM0 :: rM0))
    (fM0 : PySem.W.fnIn K gM0 = true)
    (lM0 : K.lookup gM0 = some ⟨ocM0, odM0, .func (PySem.W.fnOf "never" "Effect.never" (defArgs sNever) (defBody sNever) (defScope sNever) .none kVM0 dcM0 pmM0 anM0 cdM0 ctM0), slM0⟩)
    (cM0 : PySem.W.codeIn K cdM0 "Effect.never" = true)
    (kM0 : PySem.W.keepIn K (.ref gM0) = true)
    (aQ : PySem.W.findIn K (.ref C) "__eq__" = some (some (.ref gQ)))
    (iQ : PySem.W.isFn K (.ref gQ) = true)
    (lQ : K.lookup gQ = some ⟨ocQ, odQ, .func (PySem.W.fnOf "__eq__" "Effect.__eq__" (defArgs sEq) (defBody sEq) (defScope sEq) .none kVQ dcQ pmQ anQ cdQ ctQ), slQ⟩)
    (cQ : PySem.W.codeIn K cdQ "Effect.__eq__" = true)
    (kQ : PySem.W.keepIn K (.ref gQ) = true)
    (aNE : PySem.W.findIn K (.ref C) "__ne__" = some (some (.builtin "object.__ne__")))
    (e1 : PySem.W.findIn K (.ref C) "__class__" = some (some (.builtin "object.__class__")))
    (e2 : PySem.W.specialIn K (.builtin "object.__class__") "__get__" = some (some (.builtin "getset_descriptor.__get__")))
    (e3 : PySem.W.takesIn K (.builtin "object.__class__") = some true)
    (e4 : PySem.W.mroIn K C (.type "object") = some true)
    (aL : PySem.W.nsIn K mainGlobals "law" = some (some (.ref fL)))
    (lL : K.lookup fL = some ⟨ocL, odL, .func (PySem.W.fnOf "law" "law" (defArgs sLaw) (defBody sLaw) (defScope sLaw) .none kVL dcL pmL anL cdL ctL), slL⟩)
    (ckL : PySem.W.codeIn K cdL "law" = true)
    (kL : PySem.W.keepIn K (.ref fL) = true) :
    ∃ fd : FuncData, (∀ (s : Shared) (v : Value), BindsTo s fd ⟨[v], []⟩ [("_law_script", v)]) ∧ ∀ base : Heap, K.In base → base.Ns mainGlobals mg → GOk l.prog w K mg base 11 fa fd ["_law_script"] (spLaw K) := by
  have e := hfa.symm.trans (PySem.W.mg_of X G aL)
  cases e
  have F := fun_mk (st := sLaw) lL ckL kL
  have m_isinstance : mg "isinstance" = none := PySem.W.mg_none_of X G z_isinstance
  have m_str : mg "str" = none := PySem.W.mg_none_of X G z_str
  have m_len : mg "len" = none := PySem.W.mg_none_of X G z_len
  have m_all : mg "all" = none := PySem.W.mg_none_of X G z_all
  have m_tuple : mg "tuple" = none := PySem.W.mg_none_of X G z_tuple
  have m_list : mg "list" = none := PySem.W.mg_none_of X G z_list
  have m_enumerate : mg "enumerate" = none := PySem.W.mg_none_of X G z_enumerate
  have m_range : mg "range" = none := PySem.W.mg_none_of X G z_range
  have m_abs : mg "abs" = none := PySem.W.mg_none_of X G z_abs
  have m_int : mg "int" = none := PySem.W.mg_none_of X G z_int
  have m_bool : mg "bool" = none := PySem.W.mg_none_of X G z_bool
  have m_max : mg "max" = none := PySem.W.mg_none_of X G z_max
  have m_min : mg "min" = none := PySem.W.mg_none_of X G z_min
  have m_repr : mg "repr" = none := PySem.W.mg_none_of X G z_repr
  have m_any : mg "any" = none := PySem.W.mg_none_of X G z_any
  have m_dict : mg "dict" = none := PySem.W.mg_none_of X G z_dict
  have B : Blt mg := ⟨m_isinstance, m_str, m_len, m_all, m_tuple, m_list, m_enumerate⟩
  have Co : Cons K w mg := ⟨⟨_, PySem.W.mg_of X G cL⟩, ⟨_, PySem.W.mg_of X G cM⟩, ⟨_, PySem.W.mg_of X G cS⟩, ⟨D, es, n, uP, uQ, PySem.W.mg_of X G cO, ⟨lO, kO, wO⟩, pO, rP, qO, rQ⟩⟩
  have T : EC K mg C := ⟨⟨pg, hd, po, sa⟩, nN, nL, nH, PySem.W.mg_of X G aC⟩
  refine ⟨PySem.W.fnOf "law" "law" (defArgs sLaw) (defBody sLaw) (defScope sLaw) .none kVL dcL pmL anL cdL ctL, fun s v => .of_eq rfl, fun base _ _ => ?_⟩
  have gTake := has_take (P := l.prog) (w := w) (base := base) d__law_take
  have gPool := has_pool (P := l.prog) (w := w) (base := base) d__law_pool m_len m_abs m_int
  have gName := has_name d__law_name gTake m_range
  have gItems := has_items d__law_items gName m_range
  have gSt := has_steps d__law_steps gTake m_range m_len
  have gItem := has_isItem (P := l.prog) (w := w) (base := base) d_is_item B Co
  have gIsWord := has_isWord d_is_word gItem B
  have gCw := has_chkWord d_check_word gIsWord
  have gIsStep := has_isStep d_is_step gItem B Co
  have gMay := has_may (P := l.prog) (w := w) (base := base) d_may_hold_steps B Co
  have gChk := has_chkSteps d_check_steps gMay gIsStep B
  have gWh := has_whole (P := l.prog) (w := w) (base := base) d_is_whole B m_int m_bool
  have gLe := has_least (P := l.prog) (w := w) (base := base) d_least_peak B m_max
  have gM := (⟨gI, _, ⟨mkC, aI, iI, keC⟩, ok_init (fun_mk lI cI kI) T gCw gLe gWh, init_mk lI cI kI nI⟩ : Makes l.prog w K mg base C)
  have gPo := (⟨qP0, gP0, _, ⟨aP0, bP0, tP0, rP0, uP0⟩, ok_pops (fun_mk lP0 cP0 kP0) T, (fun_mk lP0 cP0 kP0).binds (ps := ["self"]) fun _ _ _ _ _ _ us hl => match us, hl with | [_], _ => rfl⟩ : PropHas l.prog w K mg base C "pops" 1 _)
  have gPu := (⟨qP1, gP1, _, ⟨aP1, bP1, tP1, rP1, uP1⟩, ok_push (fun_mk lP1 cP1 kP1) T, (fun_mk lP1 cP1 kP1).binds (ps := ["self"]) fun _ _ _ _ _ _ us hl => match us, hl with | [_], _ => rfl⟩ : PropHas l.prog w K mg base C "pushes" 1 _)
  have gNv := (⟨qP2, gP2, _, ⟨aP2, bP2, tP2, rP2, uP2⟩, ok_isNev (fun_mk lP2 cP2 kP2) T, (fun_mk lP2 cP2 kP2).binds (ps := ["self"]) fun _ _ _ _ _ _ us hl => match us, hl with | [_], _ => rfl⟩ : PropHas l.prog w K mg base C "is_never" 1 _)
  have gPk := (⟨qP3, gP3, _, ⟨aP3, bP3, tP3, rP3, uP3⟩, ok_peak (fun_mk lP3 cP3 kP3) T, (fun_mk lP3 cP3 kP3).binds (ps := ["self"]) fun _ _ _ _ _ _ us hl => match us, hl with | [_], _ => rfl⟩ : PropHas l.prog w K mg base C "peak" 1 _)
  have fNe := ok_never (fun_mk lM0 cM0 kM0) T gM
  have bNe := (fun_mk (st := sNever) lM0 cM0 kM0).binds (ps := ["cls"]) fun _ _ _ _ _ _ us hl => match us, hl with | [_], _ => rfl
  have gNe := (⟨.type "type", qM0, gM0, ⟨rdC, gaC⟩, ⟨aM0, ⟨_, uM0⟩, fM0⟩, (fNe.raw bNe .nil).imp fun vs H Q E h => by rw [List.append_nil]; exact h⟩ : NeverHas l.prog w K mg base C)
  have gPart := has_part (P := l.prog) (w := w) (base := base) d_parts_of_step
  have gJn := has_join d_joined T gM gNe B m_max m_min
  have gE := has_effOf d_effect_of gChk gPart gJn
  have TI := (⟨e1, e2, e3, e4, if_pos (beq_self_eq_true _)⟩ : EI K C)
  have gEq := (⟨gQ, _, ok_eq (fun_mk lQ cQ kQ) T TI B, aQ, iQ, (fun_mk lQ cQ kQ).binds (ps := ["self", "other"]) fun _ _ _ _ _ _ us hl => match us, hl with | [_, _], _ => rfl, aNE⟩ : EqHas l.prog w K mg base C)
  have gIn := has_isN d_is_named_step gItem gIsStep B
  have gCn := has_chkN d_check_named_steps gMay gIn B
  have gSp := has_split d_split gCn
  have gEf := has_effs d_effects_of T gSp gE gNv m_any
  have gNm := has_named d__law_named gTake gSt m_len
  have gWl := has_well d__law_named_well gTake m_len m_dict m_range
  have gPa := has_parts (P := l.prog) (w := w) (base := base) d__law_parts
  have gLf := has_leff (P := l.prog) (w := w) (base := base) d__law_effect m_max m_len m_tuple
  have gRi := has_right d__law_right T TI gM gEq gPa gLf gEf B m_repr
  exact ok_law F gPool gTake gItems gWl gNm gRi gEf B m_range m_max m_min
end
end SE
open PySem PySem.W PyProof.Rows
set_option maxHeartbeats 0 in
theorem PySem.Challenge.cw_stackeffect_k51_effects_on_several_stack_holds : PySem.Challenge.rw_stackeffect_k51_effects_on_several_stack.Holds := by
  w_on; o_law; k_head; (case hw => w_witness2)
  k_fill
  refine SE.walkG (l := PySem.Challenge.rw_stackeffect_k51_effects_on_several_stack) (n := 63) (k := 11) (x := "_law_script") (sp := SE.spLaw) rfl (by decide) rfl ⟨rfl, by decide, by decide⟩ (fun w h Y => PySem.W.kIn_of Y) ?F (fun _ _ a ns hl hS => ⟨a, ns, rfl, hS, hl, fun _ => rfl⟩)
  case F =>
    intro w mg fa h KX G hmg
    refine' SE.all_mk KX G hmg ?d_is_whole ?d_is_item ?d_is_word ?d_is_step ?d_may_hold_steps ?d_check_steps ?d_check_word ?d_least_peak ?d_joined ?d_parts_of_step ?d_effect_of ?d_is_named_step ?d_check_named_steps ?d_split ?d_effects_of ?d__law_pool ?d__law_take ?d__law_name ?d__law_items ?d__law_steps ?d__law_named ?d__law_named_well ?d__law_parts ?d__law_effect ?d__law_right ?z_isinstance ?z_str ?z_len ?z_all ?z_tuple ?z_list ?z_enumerate ?z_range ?z_abs ?z_int ?z_bool ?z_max ?z_min ?z_repr ?z_any ?z_dict ?cL ?cM ?cS ?cO ?lO ?kO ?wO ?pO ?qO ?rP ?rQ ?aC ?pg ?hd ?po ?sa ?nN ?nL ?nH ?mkC ?keC ?aI ?iI ?lI ?cI ?kI ?nI ?aP0 ?bP0 ?tP0 ?uP0 ?lP0 ?cP0 ?kP0 ?aP1 ?bP1 ?tP1 ?uP1 ?lP1 ?cP1 ?kP1 ?aP2 ?bP2 ?tP2 ?uP2 ?lP2 ?cP2 ?kP2 ?aP3 ?bP3 ?tP3 ?uP3 ?lP3 ?cP3 ?kP3 ?rdC ?gaC ?aM0 ?uM0 ?fM0 ?lM0 ?cM0 ?kM0 ?aQ ?iQ ?lQ ?cQ ?kQ ?aNE ?e1 ?e2 ?e3 ?e4 ?aL ?lL ?ckL ?kL
    (case d_is_whole => refine' SE.def_mk KX G ?a ?l ?c ?k; (case a => k_is); (case l => k_is); (case c => k_is); (case k => k_is))
    (case d_is_item => refine' SE.def_mk KX G ?a ?l ?c ?k; (case a => k_is); (case l => k_is); (case c => k_is); (case k => k_is))
    (case d_is_word => refine' SE.def_mk KX G ?a ?l ?c ?k; (case a => k_is); (case l => k_is); (case c => k_is); (case k => k_is))
    (case d_is_step => refine' SE.def_mk KX G ?a ?l ?c ?k; (case a => k_is); (case l => k_is); (case c => k_is); (case k => k_is))
    (case d_may_hold_steps => refine' SE.def_mk KX G ?a ?l ?c ?k; (case a => k_is); (case l => k_is); (case c => k_is); (case k => k_is))
    (case d_check_steps => refine' SE.def_mk KX G ?a ?l ?c ?k; (case a => k_is); (case l => k_is); (case c => k_is); (case k => k_is))
    (case d_check_word => refine' SE.def_mk KX G ?a ?l ?c ?k; (case a => k_is); (case l => k_is); (case c => k_is); (case k => k_is))
    (case d_least_peak => refine' SE.def_mk KX G ?a ?l ?c ?k; (case a => k_is); (case l => k_is); (case c => k_is); (case k => k_is))
    (case d_joined => refine' SE.def_mk KX G ?a ?l ?c ?k; (case a => k_is); (case l => k_is); (case c => k_is); (case k => k_is))
    (case d_parts_of_step => refine' SE.def_mk KX G ?a ?l ?c ?k; (case a => k_is); (case l => k_is); (case c => k_is); (case k => k_is))
    (case d_effect_of => refine' SE.def_mk KX G ?a ?l ?c ?k; (case a => k_is); (case l => k_is); (case c => k_is); (case k => k_is))
    (case d_is_named_step => refine' SE.def_mk KX G ?a ?l ?c ?k; (case a => k_is); (case l => k_is); (case c => k_is); (case k => k_is))
    (case d_check_named_steps => refine' SE.def_mk KX G ?a ?l ?c ?k; (case a => k_is); (case l => k_is); (case c => k_is); (case k => k_is))
    (case d_split => refine' SE.def_mk KX G ?a ?l ?c ?k; (case a => k_is); (case l => k_is); (case c => k_is); (case k => k_is))
    (case d_effects_of => refine' SE.def_mk KX G ?a ?l ?c ?k; (case a => k_is); (case l => k_is); (case c => k_is); (case k => k_is))
    (case d__law_pool => refine' SE.def_mk KX G ?a ?l ?c ?k; (case a => k_is); (case l => k_is); (case c => k_is); (case k => k_is))
    (case d__law_take => refine' SE.def_mk KX G ?a ?l ?c ?k; (case a => k_is); (case l => k_is); (case c => k_is); (case k => k_is))
    (case d__law_name => refine' SE.def_mk KX G ?a ?l ?c ?k; (case a => k_is); (case l => k_is); (case c => k_is); (case k => k_is))
    (case d__law_items => refine' SE.def_mk KX G ?a ?l ?c ?k; (case a => k_is); (case l => k_is); (case c => k_is); (case k => k_is))
    (case d__law_steps => refine' SE.def_mk KX G ?a ?l ?c ?k; (case a => k_is); (case l => k_is); (case c => k_is); (case k => k_is))
    (case d__law_named => refine' SE.def_mk KX G ?a ?l ?c ?k; (case a => k_is); (case l => k_is); (case c => k_is); (case k => k_is))
    (case d__law_named_well => refine' SE.def_mk KX G ?a ?l ?c ?k; (case a => k_is); (case l => k_is); (case c => k_is); (case k => k_is))
    (case d__law_parts => refine' SE.def_mk KX G ?a ?l ?c ?k; (case a => k_is); (case l => k_is); (case c => k_is); (case k => k_is))
    (case d__law_effect => refine' SE.def_mk KX G ?a ?l ?c ?k; (case a => k_is); (case l => k_is); (case c => k_is); (case k => k_is))
    (case d__law_right => refine' SE.def_mk KX G ?a ?l ?c ?k; (case a => k_is); (case l => k_is); (case c => k_is); (case k => k_is))
    (case z_isinstance => k_is)
    (case z_str => k_is)
    (case z_len => k_is)
    (case z_all => k_is)
    (case z_tuple => k_is)
    (case z_list => k_is)
    (case z_enumerate => k_is)
    (case z_range => k_is)
    (case z_abs => k_is)
    (case z_int => k_is)
    (case z_bool => k_is)
    (case z_max => k_is)
    (case z_min => k_is)
    (case z_repr => k_is)
    (case z_any => k_is)
    (case z_dict => k_is)
    (case cL => k_is)
    (case cM => k_is)
    (case cS => k_is)
    (case cO => k_is)
    (case lO => k_is)
    (case kO => exact ⟨⟨_, _, rfl, rfl⟩, ⟨_, _, rfl, rfl⟩, trivial⟩)
    (case wO => rfl)
    (case pO => k_is)
    (case qO => k_is)
    (case rP => exact ⟨_, rfl⟩)
    (case rQ => exact ⟨_, rfl⟩)
    (case aC => k_is)
    (case pg => k_is)
    (case hd => k_is)
    (case po => k_is)
    (case sa => k_is)
    (case nN => k_is)
    (case nL => k_is)
    (case nH => k_is)
    (case mkC => k_is)
    (case keC => k_is)
    (case aI => k_is)
    (case iI => k_is)
    (case lI => k_is)
    (case cI => k_is)
    (case kI => k_is)
    (case nI => k_is)
    (case aP0 => k_is)
    (case bP0 => k_is)
    (case tP0 => k_is)
    (case uP0 => k_is)
    (case lP0 => k_is)
    (case cP0 => k_is)
    (case kP0 => k_is)
    (case aP1 => k_is)
    (case bP1 => k_is)
    (case tP1 => k_is)
    (case uP1 => k_is)
    (case lP1 => k_is)
    (case cP1 => k_is)
    (case kP1 => k_is)
    (case aP2 => k_is)
    (case bP2 => k_is)
    (case tP2 => k_is)
    (case uP2 => k_is)
    (case lP2 => k_is)
    (case cP2 => k_is)
    (case kP2 => k_is)
    (case aP3 => k_is)
    (case bP3 => k_is)
    (case tP3 => k_is)
    (case uP3 => k_is)
    (case lP3 => k_is)
    (case cP3 => k_is)
    (case kP3 => k_is)
    (case rdC => k_is)
    (case gaC => k_is)
    (case aM0 => k_is)
    (case uM0 => k_is)
    (case fM0 => k_is)
    (case lM0 => k_is)
    (case cM0 => k_is)
    (case kM0 => k_is)
    (case aQ => k_is)
    (case iQ => k_is)
    (case lQ => k_is)
    (case cQ => k_is)
    (case kQ => k_is)
    (case aNE => k_is)
    (case e1 => k_is)
    (case e2 => k_is)
    (case e3 => k_is)
    (case e4 => k_is)
    (case aL => k_is)
    (case lL => k_is)
    (case ckL => k_is)
    (case kL => k_is)
