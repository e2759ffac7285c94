import PyProof.Rows.All
import Wide.All
import OpenK.AllK
import Wide.FinOn
import PyProof.EqAt
import PyProof.EqKinds
import PyProof.TupleCall
import HandS.Base
import HandS.Call
import HandS.List
import HandS.Ends
import HandS.Words
import HandS.Comp
import HandS.Dict
import HandS.Iter
import HandS.Text
import HandS.WordsList
import HandS.Defaults
import PyProof.EnumMake
import PyProof.Draws
import KE.GoesMore
import KE.KRevSl
import PyProof.ReprLen
import PyProof.ReprText
import HandS.More
import HandS.Evl
import HandS.Walk
import HandS.IsInst
import HandS.TupAny
import HandS.Style
import HandS.TupMul
import HandS.Strs
import HandS.Set
import HandS.GenBody
import HandS.GenYield
import HandS.GenCall
import HandS.GenList
import PyProof.GenComp
import HandS.Property
import HandS.ClsMeth
import HandS.MakeKwOnly
import PyProof.InstEq
import KE.KFmtOwn
import HandS.OwnEq
import HandS.FStr
import KE.IntBitsLaws
import HandS.Deep
import PyProof.ReprRoads
import PyProof.ReprDict
import PyProof.CallFns
import HandS.Exc
import HandS.ExcOwn
import HandS.ExcInit
import HandS.ExcField
import HandS.ExcIs
import HandS.WordsExc
import KE.KExcIs
import HandS.DictComp
import HandS.SetKeys
import HandS.NoneIn
import PySem.Challenge.RW_stackeffect_k16_shortest_by_enumeration
set_option Elab.async false
set_option linter.all false
set_option maxRecDepth 100000
set_option maxHeartbeats 4000000
/-! Defs called where no repr is under way: their promise (GOk), their call, the law's head, and repr of plain data. -/
namespace SE
open PySem PySem.Spec PyProof.Rows L2

/-- the promise of a def whose caller has no repr under way -/
structure GOk (P : Program) (w : World) (K : PySem.W.Frag) (mg : Str → Option Value) (base : Heap) (k : Nat) (f : Addr) (fd : FuncData) (ps : List Str) (sp : Sp) : Prop where
  len : ∀ xs H Q E, sp xs H Q E → xs.length = ps.length
  run : ∀ (A : Around) (out : List Env) (s : Shared) (H : Hp) (args : Args) (us : List Value) (xs : List V) (Q : VK) (E : XK), A.guards = some [] → Room k A → Env0 P w K mg base A out s H →
    BindsTo s fd args (ps.zip us) → Vals xs us → sp xs H Q E → codeAny (model P w) A (.call (.ref f) args) (CR (fun _ _ _ _ _ _ => False) out P w H s Q E) s

section
variable {P : Program} {w : World} {K : PySem.W.Frag} {mg : Str → Option Value} {base : Heap}
theorem gok_of {k : Nat} {f : Addr} {nm ql : Str} {pars : Arguments} {bd : List Stmt} {sc : Scope} {dV kV doc pm cv ct oc : Value} {an od : Option Addr}
    {osl : Array (Option Value)} {N ps : List Str} {sp : Sp} (look : K.lookup f = some ⟨oc, od, .func (PySem.W.fnOf nm ql pars bd sc dV kV doc pm an cv ct), osl⟩) (hcode : PySem.W.codeIn K cv ql = true) (S : FnScope N ps sc)
    (len : ∀ xs H Q E, sp xs H Q E → xs.length = ps.length)
    (hbd : ∀ (A : Around) (out : List Env) (s : Shared) (H : Hp) (xs : List V) (Q : VK) (E : XK), A.guards = some [] → Room k (A.deeper (envOfC ql sc s.heap.objs.size f cv)) → sp xs H Q E →
      ∃ t, PSs (cxOf (fun _ _ _ _ _ _ => False) P w K mg base N ql sc f cv A out s H E) bd t ∧ t { nx := fun _ H2 => Q .non H2, rt := Q } (start N xs) H) :
    GOk P w K mg base (k + 1) f (PySem.W.fnOf nm ql pars bd sc dV kV doc pm an cv ct) ps sp := by
  constructor
  · exact len
  intro A out s H args us xs Q E hgu hroom env hbind hvals hpre
  have hlen := len _ _ _ _ hpre
  have kin : K.In s.heap := env.mod.kin.keeps fun b o z => (env.bs b o z).1
  have nolim : s.heap.NoLimit := env.mod.nolimit.keeps fun b o z => (env.bs b o z).1
  have kinds : ∀ y ∈ ps.zip us, sc.names.lookup y.1 = some .local ∨ (sc.names.lookup y.1 = some .cell ∧ ((cellsFrom (s.heap.objs.size + 1) sc.names []).lookup y.1).isSome = true) := by
    rintro ⟨n, v⟩ hy
    rcases S.par n (List.of_mem_zip hy).1 with q | q
    · exact .inl q
    · exact .inr ⟨q, PySem.W.cellsFrom_some _ _ _ (.inl q)⟩
  apply codeAny_call_function hroom.depth (kin _ _ look) rfl S.co S.gen rfl (PySem.W.codeRec_of kin hcode)
  apply hbind
  refine wpAny_newFunctionEnv_cells S.kind kinds fun ev hev s2 inc => ?_
  subst hev
  refine ⟨nolim.keeps inc.toInCall.keep, codeAny_func ?_⟩
  obtain ⟨t, der, rd⟩ := hbd A out s H xs Q E hgu (hroom.deeper _) hpre
  have J0 : Inv (cxOf (fun _ _ _ _ _ _ => False) P w K mg base N ql sc f cv A out s H E) [] (start N xs) H s2 := inv_start S hroom.hd env hlen hvals inc
  refine wpAny_mono (der.run [] s2 (start N xs) H _ J0 rd) (fun fl s3 hs => ?_) fun e s3 hs => hs
  cases fl with
  | ret u =>
    obtain ⟨v, σ3, H3, J, rv, q⟩ := hs
    exact ⟨v, H3, J.os, J.bare, J.base, J.hok, rv, q⟩
  | next =>
    obtain ⟨σ3, H3, J, q⟩ := hs
    exact ⟨V.non, H3, J.os, J.bare, J.base, J.hok, rfl, q⟩
  | brk => exact hs.elim fun _ z => z.elim fun _ z => z.2.elim
  | cont => exact hs.elim fun _ z => z.elim fun _ z => z.2.elim
theorem gok_mk {x ql : Str} {st : Stmt} {f : Addr} {fd : FuncData} {N ps : List Str} {k : Nat} {sp : Sp} (F : Fun K x ql st f fd) (S : FnScope N ps (defScope st)) (len : ∀ xs H Q E, sp xs H Q E → xs.length = ps.length)
    (hbd : ∀ (cv : Value) (A : Around) (out : List Env) (s : Shared) (H : Hp) (xs : List V) (Q : VK) (E : XK), A.guards = some [] → Room k (A.deeper (envOfC ql (defScope st) s.heap.objs.size f cv)) → sp xs H Q E →
      ∃ t, PSs (cxOf CX0 P w K mg base N ql (defScope st) f cv A out s H E).nox (defBody st) t ∧ t { nx := fun _ H2 => Q .non H2, rt := Q } (start N xs) H) : GOk P w K mg base (k + 1) f fd ps sp := by
  obtain ⟨oc, od, kV, doc, pm, an, cv, ct, osl, rfl, look, hcode⟩ := F.ex
  refine gok_of look hcode S len fun A out s H xs Q E hgu hr hpre => ?_
  obtain ⟨t, a, b⟩ := hbd cv A out s H xs Q E hgu hr hpre
  exact ⟨t, a.nox, b⟩
end

section
variable {X : Cx} {k : Nat} {f : Addr} {fd : FuncData} {ps : List Str} {sp : Sp} {x : Str} {p pos : Pos} {e : Expr} {es : List Expr} {t : TA}
theorem pe_callG (F : GOk X.prog X.w X.K X.mg X.base k f fd ps sp) (hgu : X.A.guards = some []) (hr : Room k X.A) (hg : Gl X x) (hm : X.mg x = some (.ref f)) (hk : PySem.W.keepIn X.K (.ref f) = true) (hb : Binds X.K fd ps [])
    (ha : PA X (e :: es) t) (hdb : (x == ("__debug__" : Str)) = false := by decide) (he : starEach (e :: es) X.env = (false, eval e X.env) :: starEach es X.env := by rfl) (hpl : (backTo pos (starEach es X.env)).any (·.1) = false := by rfl) :
    PE X (.Call (.Name x p) (e :: es) [] pos) (tCall sp [] (fun _ _ _ => False) t) := by
  constructor
  intro pins s σ H Q I h
  apply wpAny_Call_Name_kw
  apply ld_glob I hg hm _ hdb
  refine PySem.W.callWith_K (h₀ := X.base) I.ok.mod.kin hk (thn (ha.run pos pins s σ H _ I h) fun us s1 hh => ?_) he hpl
  obtain ⟨xs, H1, I1, r, q⟩ := hh
  refine ⟨I1.kIn, ?_⟩
  have q' : sp xs H1 Q (fun _ _ _ => False) := by rw [List.append_nil] at q; exact q
  have hl : us.length = ps.length := by rw [← r.length]; exact F.len _ _ _ _ q'
  have hb' := hb s1 us I1.kIn (by rw [List.append_nil]; exact hl)
  rw [List.append_nil] at hb'
  refine wpAny_call (codeAny_mono (F.run X.A X.stack s1 H1 ⟨us, []⟩ us xs Q _ hgu hr I1.env0 hb' r q') fun r2 s2 hq => ?_)
  cases r2 with
  | error _ => exact hq.elim
  | ok fl =>
    cases fl with
    | ret _ => exact I1.after hq
    | next => exact hq.elim
    | brk => exact hq.elim
    | cont => exact hq.elim
end

section
variable {X : Cx}
/-- repr(x), x plain data -/
def rRep (K : PySem.W.Frag) : List V → Hp → VK → Prop := fun xs H Q => ∃ (x : V) (d : PyData), xs = [x] ∧ Dp K H x d ∧ (∃ a, x = .ref a) ∧ d.showable = true ∧ d.hasDict = false ∧ d.depth ≤ 20 ∧ d.shown.length ≤ sizeLine ∧ Q (.str d.shown) H
theorem call_rep (hgu : X.A.guards = some []) (hu : X.A.units + 64 < cLine) : CallR X (.builtin "repr") (rRep X.K) := by
  intro pins s σ H xs us Q I r h
  obtain ⟨x, d, rfl, hd, ⟨a, rfl⟩, hs, hn, hdep, hz, q⟩ := h
  cases r with
  | cons r1 r2 =>
    cases r2
    cases r1
    obtain ⟨as, rd⟩ := Dp.reads I d (.ref a) (.ref a) hd rfl
    refine repr_of_reads' rd hs (PyData.noDict_hsm hn) hgu (by omega) (fun _ _ z => z) (fun h' u tk hk => ?_) hz
    exact ⟨.str d.shown, H, I.kept (t' := tk) hk, ⟨_, rfl⟩, q⟩
end
/-! ### the law's head -/
theorem lawG {P : Program} {w : World} {K : PySem.W.Frag} {mg mb : Str → Option Value} {k : Nat} {fa a : Addr} {fd : FuncData} {x : Str} {sp : Sp} {s1 : Shared} {vs : List Value} {ns : List Int}
    (kin : K.In s1.heap) (hns : s1.heap.Ns mainGlobals mg) (hbn : s1.heap.Ns builtinsNs mb) (hbb : ∀ x : Str, x ≠ "__name__" → mb x = bootBuiltins x) (nolim : s1.heap.NoLimit) (hg : s1.gens = #[])
    (hobj : s1.heap.get? a = some { cls := .type "list", data := .seq vs.toArray }) (hi : IntsAre vs ns) (hz : ns.length ≤ sizeLine) (hr : Room k callerA)
    (F : ∀ base : Heap, K.In base → base.Ns mainGlobals mg → GOk P w K mg base k fa fd [x] sp) (hbind : ∀ (s : Shared) (u : Value), BindsTo s fd ⟨[u], []⟩ [(x, u)])
    (hsp : ∀ H : Hp, SqL K H a (ns.map V.int) → sp [.ref a] H (fun v _ => v = .bl true) fun _ _ _ => False) :
    codeAny (model P w) callerA (.call (.ref fa) ⟨[.ref a], []⟩) (fun r s2 => r = .ok (.ret (.bool true)) ∧ OldK s1.heap s2.heap ∧ s2.os = s1.os ∧ AllBare s2.gens) s1 := by
  have rel := vals_ints hi
  have same := hi.length
  have go : ∀ H : Hp, (∀ b u, H b = some u → b = a ∧ K.lookup a = none ∧ ∃ o xs, u = .frz o (.lst xs)) → SqL K H a (ns.map V.int) → HOk P w H s1.heap →
      codeAny (model P w) callerA (.call (.ref fa) ⟨[.ref a], []⟩) (fun r s2 => r = .ok (.ret (.bool true)) ∧ OldK s1.heap s2.heap ∧ s2.os = s1.os ∧ AllBare s2.gens) s1 := by
    intro H only hS hok
    have free : ∀ {b : Addr}, b ≠ a → H b = none := fun {b} hb => by
      cases q : H b with
      | none => rfl
      | some u => exact absurd (only b u q).1 hb
    have freeD : ∀ {b : Addr} {o : Obj} {es : Array DictEntry} {ep : Nat}, s1.heap.get? b = some o → o.data = .dict es ep → H b = none := fun {b o es ep} e d => by
      by_cases hb : b = a
      · subst hb
        rw [hobj] at e
        cases e
        cases d
      · exact free hb
    have ns2 : ∀ {b : Addr} {m : Str → Option Value}, s1.heap.Ns b m → (hidT s1.heap H).Ns b m := by
      rintro b m ⟨o, es, ep, e, d, r⟩
      exact ⟨o, es, ep, hidT_get e (freeD e d), d, r⟩
    have kin2 : K.In (hidT s1.heap H) := by
      intro b o e
      refine hidT_get (kin b o e) ?_
      cases q : H b with
      | none => rfl
      | some u =>
        obtain ⟨eb, nk, _⟩ := only b u q
        subst eb
        rw [nk] at e
        cases e
    have mod : Mod K mg (hidT s1.heap H) := by
      refine ⟨kin2, ns2 hns, ⟨mb, ns2 hbn, hbb⟩, ?_⟩
      obtain ⟨mc, h1, h2⟩ := nolim
      exact ⟨mc, ns2 h1, h2⟩
    have env : Env0 P w K mg (hidT s1.heap H) callerA [] s1 H :=
      ⟨rfl, mod, fun b o e => of_hidT e, Nat.le_of_eq (hidT_size _ _), trivial, fun b hb => (by cases (show b ∈ ([] : List Addr) from hb)), hok, .of_eq hg⟩
    have runs := (F _ kin2 (ns2 hns)).run callerA [] s1 H ⟨[.ref a], []⟩ [.ref a] [.ref a] (fun v _ => v = .bl true) (fun _ _ _ => False) rfl hr env (hbind s1 (.ref a)) (.cons rfl .nil) (hsp H hS)
    refine codeAny_mono runs fun r s2 h => ?_
    cases r with
    | error _ => exact h.elim
    | ok fl =>
      cases fl with
      | next => exact h.elim
      | brk => exact h.elim
      | cont => exact h.elim
      | ret u =>
        obtain ⟨v, H2, os, bare, un, hok2, r2, q⟩ := h
        have q2 : v = .bl true := q
        subst q2
        obtain rfl : u = Value.bool true := r2
        refine ⟨rfl, OldK.of_keep fun b o e => ?_, os, bare⟩
        cases z : H b with
        | none => exact un.keep b o e z (fun m => by cases (show b ∈ ([] : List Addr) from m)) (fun m => by cases m)
        | some u2 =>
          obtain ⟨_, _, ob, ys, eu⟩ := only b u2 z
          subst eu
          obtain ⟨e1, _⟩ := hok b _ z
          obtain ⟨e2, _⟩ := hok2 b _ (un.frzs b ob _ z)
          rw [e] at e1
          cases e1
          exact e2
  cases hk : K.lookup a with
  | some o =>
    have e := kin a o hk
    rw [hobj] at e
    cases e
    refine go (fun _ => none) (fun b u z => nomatch z) (.inr ⟨_, vs.toArray, _, hk, rfl, rfl, rfl, by rw [List.size_toArray, same]; exact hz, by simpa using rel⟩) (fun b u z => nomatch z)
  | none =>
    have at1 : ∀ {b : Addr} {u : HO}, (if b = a then some (HO.frz { cls := .type "list", data := .seq vs.toArray } (.lst (ns.map V.int))) else none) = some u → b = a ∧ u = .frz { cls := .type "list", data := .seq vs.toArray } (.lst (ns.map V.int)) := fun {b u} z => by
      by_cases hb : b = a
      · rw [if_pos hb] at z
        cases z
        exact ⟨hb, rfl⟩
      · rw [if_neg hb] at z
        cases z
    refine go (fun b => if b = a then some (.frz { cls := .type "list", data := .seq vs.toArray } (.lst (ns.map V.int))) else none) (fun b u z => ?_) (.inl (.inr ⟨{ cls := .type "list", data := .seq vs.toArray }, if_pos rfl⟩)) (fun b u z => ?_)
    · obtain ⟨e1, e2⟩ := at1 z
      exact ⟨e1, hk, _, _, e2⟩
    · obtain ⟨e1, e2⟩ := at1 z
      subst e1
      subst e2
      exact ⟨hobj, by rw [List.length_map]; exact hz, vs, _, rel, hobj⟩
theorem walkG {l : PySem.W.OpenLaw} {n k : Nat} {q : Program} {loose : List Str} {XP : (Str → Option Value) → Heap → Prop} {YP : World → Heap → Prop} {d : DefRec} {K : Params → PySem.W.Frag} {sp : PySem.W.Frag → Sp} {x : Str}
    (hn : l.most = some n) (hn2 : n ≤ sizeLine) (hdf : d.params.defaults = []) (hr : Room k callerA) (hY : ∀ (w : World) (h : Heap), YP w h → (K w.params).In h)
    (F : ∀ (w : World) (mg : Str → Option Value) (fa : Addr) (h : Heap), (K w.params).In h → h.Ns mainGlobals mg → mg d.name = some (.ref fa) →
      ∃ fd : FuncData, (∀ (s : Shared) (u : Value), BindsTo s fd ⟨[u], []⟩ [(x, u)]) ∧ ∀ base : Heap, (K w.params).In base → base.Ns mainGlobals mg → GOk l.prog w (K w.params) mg base k fa fd [x] (sp (K w.params)))
    (hsp : ∀ (K : PySem.W.Frag) (H : Hp) (a : Addr) (ns : List Int), ns.length ≤ n → SqL K H a (ns.map V.int) → sp K [.ref a] H (fun v _ => v = .bl true) fun _ _ _ => False) :
    PySem.W.WalkO q loose XP YP l.row.toRowW d [] (fun f vs => PySem.call f vs) := by
  apply Att.attach_call hn hdf
  intro w s0 s1 mg mb fa o pm cd doc a vs ns G Y ho hd hcd hmg hobj hints hlen hg
  have kin := hY w _ Y
  obtain ⟨fd, hb, hF⟩ := F w mg fa _ kin G.T.g hmg
  exact lawG kin G.T.g G.T.b G.T.builtins G.T.nolimit hg hobj hints (Nat.le_trans hlen hn2) hr hF hb fun H hS => hsp _ H a ns hlen hS
end SE
/-! Defs by their names. -/
namespace SE
open PySem PySem.Spec PyProof.Rows L2
section
variable {P : Program} {w : World} {K : PySem.W.Frag} {mg : Str → Option Value} {base : Heap}
/-- the def st stands under its name -/
def Def (K : PySem.W.Frag) (mg : Str → Option Value) (x : Str) (st : Stmt) : Prop := ∃ f fd, Fun K x x st f fd ∧ mg x = some (.ref f)
/-- a def that keeps the promise sp stands under the name x; dvs: the values of its defaults -/
def Has (P : Program) (w : World) (K : PySem.W.Frag) (mg : Str → Option Value) (base : Heap) (x : Str) (k : Nat) (ps : List Str) (dvs : List V) (sp : Sp) : Prop :=
  ∃ f fd ds, FnOk P w K mg base CX0 k f fd ps sp ∧ mg x = some (.ref f) ∧ PySem.W.keepIn K (.ref f) = true ∧ Binds K fd ps ds ∧ Vals dvs ds ∧ ∃ st, Fun K x x st f fd
def GHas (P : Program) (w : World) (K : PySem.W.Frag) (mg : Str → Option Value) (base : Heap) (x : Str) (k : Nat) (ps : List Str) (sp : Sp) : Prop :=
  ∃ f fd, GOk P w K mg base k f fd ps sp ∧ mg x = some (.ref f) ∧ PySem.W.keepIn K (.ref f) = true ∧ Binds K fd ps []
abbrev Bx (P : Program) (w : World) (K : PySem.W.Frag) (mg : Str → Option Value) (base : Heap) (N : List Str) (x : Str) (st : Stmt) (f : Addr) (cv : Value) (A : Around) (out : List Env) (s : Shared) (H : Hp) (E : XK) : Cx :=
  (cxOf CX0 P w K mg base N x (defScope st) f cv A out s H E).nox
theorem has_of {x : Str} {st : Stmt} {N ps : List Str} {k : Nat} {sp : Sp} (D : Def K mg x st) (S : FnScope N ps (defScope st))
    (hb : ∀ (kV doc pm : Value) (an : Option Addr) (cv ct : Value) (us : List Value), us.length = ps.length → bindArgs (PySem.W.fnOf x x (defArgs st) (defBody st) (defScope st) .none kV doc pm an cv ct) ⟨us, []⟩ = pure (ps.zip us))
    (len : ∀ xs H Q E, sp xs H Q E → xs.length = ps.length)
    (hbd : ∀ (f : Addr) (cv : Value) (A : Around) (out : List Env) (s : Shared) (H : Hp) (xs : List V) (Q : VK) (E : XK), Room k (A.deeper (envOfC x (defScope st) s.heap.objs.size f cv)) → sp xs H Q E →
      ∃ t, PSs (Bx P w K mg base N x st f cv A out s H E) (defBody st) t ∧ t { nx := fun _ H2 => Q .non H2, rt := Q } (start N xs) H) : Has P w K mg base x (k + 1) ps [] sp := by
  obtain ⟨f, fd, F, hm⟩ := D
  exact ⟨f, fd, [], F.ok S len fun cv A out s H xs Q E hr h => hbd f cv A out s H xs Q E hr h, hm, F.kp, F.binds hb, .nil, st, F⟩
theorem ghas_of {x : Str} {st : Stmt} {N ps : List Str} {k : Nat} {sp : Sp} (D : Def K mg x st) (S : FnScope N ps (defScope st))
    (hb : ∀ (kV doc pm : Value) (an : Option Addr) (cv ct : Value) (us : List Value), us.length = ps.length → bindArgs (PySem.W.fnOf x x (defArgs st) (defBody st) (defScope st) .none kV doc pm an cv ct) ⟨us, []⟩ = pure (ps.zip us))
    (len : ∀ xs H Q E, sp xs H Q E → xs.length = ps.length)
    (hbd : ∀ (f : Addr) (cv : Value) (A : Around) (out : List Env) (s : Shared) (H : Hp) (xs : List V) (Q : VK) (E : XK), A.guards = some [] → Room k (A.deeper (envOfC x (defScope st) s.heap.objs.size f cv)) → sp xs H Q E →
      ∃ t, PSs (Bx P w K mg base N x st f cv A out s H E) (defBody st) t ∧ t { nx := fun _ H2 => Q .non H2, rt := Q } (start N xs) H) : GHas P w K mg base x (k + 1) ps sp := by
  obtain ⟨f, fd, F, hm⟩ := D
  exact ⟨f, fd, gok_mk F S len fun cv A out s H xs Q E hg hr h => hbd f cv A out s H xs Q E hg hr h, hm, F.kp, F.binds hb⟩
theorem Has.mono {x : Str} {j k : Nat} {ps : List Str} {dvs : List V} {sp : Sp} (h : Has P w K mg base x j ps dvs sp) (hk : j ≤ k) : Has P w K mg base x k ps dvs sp := by
  obtain ⟨f, fd, ds, F, r⟩ := h
  exact ⟨f, fd, ds, F.mono hk, r⟩
theorem Has.fun {x : Str} {k : Nat} {ps : List Str} {dvs : List V} {sp : Sp} {st : Stmt} (h : Has P w K mg base x k ps dvs sp) (D : Def K mg x st) : ∃ f fd, FnOk P w K mg base CX0 k f fd ps sp ∧ mg x = some (.ref f) ∧ PySem.W.keepIn K (.ref f) = true ∧ Fun K x x st f fd := by
  obtain ⟨f, fd, ds, G, hm, hk, hb, hd, st2, F2⟩ := h
  obtain ⟨g, fe, F, hg⟩ := D
  have e : f = g := by
    rw [hm] at hg
    cases hg
    rfl
  subst e
  have e2 : fd = fe := by
    obtain ⟨_, _, _, _, _, _, _, _, _, _, l1, _⟩ := F.ex
    obtain ⟨_, _, _, _, _, _, _, _, _, _, l2, _⟩ := F2.ex
    rw [l1] at l2
    cases l2
    rfl
  subst e2
  exact ⟨f, fd, G, hm, hk, F⟩
end
section
variable {X : Cx} {k : Nat} {ps : List Str} {sp : Sp} {x : Str} {p pos : Pos} {e : Expr} {es : List Expr} {t : TA} {dvs : List V}
theorem pe_has (h : Has X.prog X.w X.K X.mg X.base x k ps dvs sp) (hr : Room k X.A) (ha : PA X (e :: es) t) (hg : Gl X x := by rfl) (hdb : (x == ("__debug__" : Str)) = false := by decide)
    (he : starEach (e :: es) X.env = (false, eval e X.env) :: starEach es X.env := by rfl) (hpl : (backTo pos (starEach es X.env)).any (·.1) = false := by rfl) : PE X (.Call (.Name x p) (e :: es) [] pos) (tCall sp dvs E0 t) := by
  obtain ⟨f, fd, ds, F, hm, hk, hb, hd, _⟩ := h
  exact pe_call F hr hg hm hk hb hd pass0 ha hdb he hpl
theorem pe_ghas (h : GHas X.prog X.w X.K X.mg X.base x k ps sp) (hgu : X.A.guards = some []) (hr : Room k X.A) (ha : PA X (e :: es) t) (hg : Gl X x := by rfl) (hdb : (x == ("__debug__" : Str)) = false := by decide)
    (he : starEach (e :: es) X.env = (false, eval e X.env) :: starEach es X.env := by rfl) (hpl : (backTo pos (starEach es X.env)).any (·.1) = false := by rfl) : PE X (.Call (.Name x p) (e :: es) [] pos) (tCall sp [] E0 t) := by
  obtain ⟨f, fd, F, hm, hk, hb⟩ := h
  exact pe_callG F hgu hr hg hm hk hb ha hdb he hpl
end
/-! ### heaps -/
theorem Same.tup {K : PySem.W.Frag} {H H' : Hp} {a : Addr} {xs : List V} (e : Same H H') (h : SqT K H a xs) : SqT K H' a xs := by
  rcases h with (h | ⟨o, h⟩) | h
  · exact .inl (.inl (e _ _ h))
  · exact .inl (.inr ⟨o, e _ _ h⟩)
  · exact .inr h
theorem Same.new {H : Hp} {p : Addr} {o : HO} (h : H p = none) : Same H (upd H p o) := fun b u z => by
  rw [upd_ne (ne_of_none z h)]
  exact z
/-- all but what stands at p -/
def But (p : Addr) (H H' : Hp) : Prop := ∀ b o, b ≠ p → H b = some o → H' b = some o
theorem But.refl (p : Addr) (H : Hp) : But p H H := fun _ _ _ h => h
theorem But.trans {p : Addr} {H H1 H2 : Hp} (a : But p H H1) (b : But p H1 H2) : But p H H2 := fun c o n h => b c o n (a c o n h)
theorem But.of {p : Addr} {H H1 : Hp} (a : Same H H1) : But p H H1 := fun c o _ h => a c o h
theorem But.at {p : Addr} {H : Hp} {o : HO} : But p H (upd H p o) := fun c u n h => by
  rw [upd_ne n]
  exact h
/-- what H does not know may change -/
theorem But.free {p q : Addr} {H H1 : Hp} {o : HO} (a : But p H H1) (h : H q = none) : But p H (upd H1 q o) := fun c u n z => by
  rw [upd_ne (ne_of_none z h)]
  exact a c u n z
theorem Same.free2 {q : Addr} {H H1 : Hp} {o : HO} (a : Same H H1) (h : H q = none) : Same H (upd H1 q o) := fun c u z => by
  rw [upd_ne (ne_of_none z h)]
  exact a c u z
theorem But.none {p q : Addr} {H H1 : Hp} (a : But p H H1) (n : q ≠ p) (h : H1 q = Option.none) : H q = Option.none := by
  cases z : H q with
  | none => rfl
  | some o =>
    rw [a q o n z] at h
    cases h
/-! ### the drawn numbers -/
/-- a pool: two numbers -/
structure Pool (H : Hp) (p : Addr) : Prop where
  ex : ∃ m s : Int, H p = some (.lst [.int m, .int s]) ∧ 0 ≤ m ∧ 0 ≤ s ∧ s < 2147483647
theorem Pool.ne {H : Hp} {p t : Addr} {xs : List V} (h : Pool H p) (ht : H t = some (.tup xs)) : t ≠ p := by
  obtain ⟨m, s, e, _⟩ := h.ex
  intro z
  rw [z, e] at ht
  cases ht
theorem Pool.free {H : Hp} {p q : Addr} (h : Pool H p) (hq : H q = none) : q ≠ p := by
  obtain ⟨m, s, e, _⟩ := h.ex
  intro z
  rw [z, e] at hq
  cases hq
theorem Pool.same {H H' : Hp} {p : Addr} (h : Pool H p) (s : Same H H') : Pool H' p := by
  obtain ⟨m, n, e, r⟩ := h.ex
  exact ⟨m, n, s _ _ e, r⟩
theorem Pool.upd {H : Hp} {p q : Addr} {o : HO} (h : Pool H p) (n : q ≠ p) : Pool (L2.upd H q o) p := by
  obtain ⟨m, k, e, r⟩ := h.ex
  exact ⟨m, k, by rw [upd_ne (Ne.symm n)]; exact e, r⟩
end SE
/-! enumerate(t) and t[::-1] of a tuple. -/
namespace SE
open PySem PySem.Spec PyProof.Rows L2
section
open Sem (wp)
open AutoSeq1 (wpAny_loadPart')
theorem meets_enum_newT (t : Addr) (items : Array Value) (n : Nat) (dct : Option Addr) (sl : Array (Option Value)) :
    Meets (Builtin.«enumerate.__new__» ⟨[.type "enumerate", .ref t], []⟩) (fun _ R s => s.heap.get? t = some { cls := .type "tuple", dict := dct, data := .seq items n, slots := sl } ∧
      R (.ok (.ret (.ref (s.heap.push { cls := .type "tuple_iterator", data := .fields #[.ref t, .int 0 0] }).objs.size)))
        { s with heap := (s.heap.push { cls := .type "tuple_iterator", data := .fields #[.ref t, .int 0 0] }).push { cls := .type "enumerate", data := .fields #[.none, .bool false, .ref s.heap.objs.size, rawInt 0, .none, .none] } }) := by
  refine .of_wp fun prog w A R s h => ?_
  obtain ⟨hp, g, d, tk, os⟩ := s
  obtain ⟨ht, h⟩ := h
  have hsub := sub_enumerate
  have hT : Heap.IsTuple (Shared.heap ⟨hp, g, d, tk, os⟩) t items := ⟨_, ht, rfl, n, rfl⟩
  wp_walk using wpAny_loadPart' ht
  refine wpAny_stack_any fun st => wpAny_pure ?_
  split
  · rename_i c _ _ _ _ _
    cases (c == Value.type "enumerate")
    · wp_walk using wpAny_loadPart' ht, wpAny_pyIter_tuple hT
      exact ⟨_, rfl, h⟩
    · wp_walk using wpAny_loadPart' ht, wpAny_pyIter_tuple hT
      exact ⟨_, rfl, h⟩
  · wp_walk using wpAny_loadPart' ht, wpAny_pyIter_tuple hT
    exact ⟨_, rfl, h⟩
end
section
variable {prog : Program} {w : World} {A : Around} {E : Value → Shared → Prop} {s : Shared}
theorem call_enumT {t : Addr} {items : Array Value} {Q : Value → Shared → Prop} (hT : s.heap.IsTuple t items)
    (h : ∀ h', IsEnum h' (s.heap.objs.size + 1) s.heap.objs.size 0 .none → h'.IsTupleIter s.heap.objs.size t 0 → (∀ b o, s.heap.get? b = some o → h'.get? b = some o) → Q (.ref (s.heap.objs.size + 1)) { s with heap := h' }) :
    wpAny (model prog w) A (call (.type "enumerate") [.ref t]) Q E s := by
  obtain ⟨⟨c, dct, dt, sl⟩, ht, hc, n, hd⟩ := hT
  simp only at hc hd
  subst hc hd
  refine callType_new F.called_enumerate (by decide) (F.typeCall_enumerate_1 _) (F.newCall_enumerate_1 _) (fun obj => F.args_object_init_2 obj _) F.entry_enumerate_new (meets_enum_newT t items n dct sl) ⟨ht, ?_⟩
  have hz : (s.heap.push { cls := .type "tuple_iterator", data := .fields #[.ref t, .int 0 0] }).objs.size = s.heap.objs.size + 1 := Heap.size_push ..
  show _ ∧ _
  rw [hz]
  have he : IsEnum ((s.heap.push { cls := .type "tuple_iterator", data := .fields #[.ref t, .int 0 0] }).push
      { cls := .type "enumerate", data := .fields #[.none, .bool false, .ref s.heap.objs.size, rawInt 0, .none, .none] }) (s.heap.objs.size + 1) s.heap.objs.size 0 .none := by
    have z := Heap.get?_push_size (s.heap.push { cls := .type "tuple_iterator", data := .fields #[.ref t, .int 0 0] })
      (o := { cls := .type "enumerate", data := .fields #[.none, .bool false, .ref s.heap.objs.size, rawInt 0, .none, .none] }) rfl
    rw [hz] at z
    exact z
  exact ⟨⟨_, he, rfl⟩, h _ he ⟨_, Heap.get?_push_of_some _ (Heap.get?_push_size _ rfl), rfl, rfl⟩ fun b o x => Heap.get?_push_of_some _ (Heap.get?_push_of_some _ x)⟩
end
/-- the tuple at a, each item in a new pair -/
def ItE (K : PySem.W.Frag) (a : Addr) : It :=
  ⟨fun i H => ∃ (xs : List V) (x : V), SqT K H a xs ∧ xs[i]? = some x, fun i H v H' => ∃ T x, v = .ref T ∧ H T = none ∧ H' = upd H T (.tup [.int (i : Nat), x]) ∧ ∀ xs, SqT K H a xs → xs[i]? = some x, fun i H => ∃ xs : List V, SqT K H a xs ∧ xs.length ≤ i⟩
theorem turn_enumT {P : Program} {w : World} {K : PySem.W.Frag} {elts : List Expr} {kk : Nat} {tpos : Pos} (a e it : Addr) :
    Turn P w K (.Tuple elts kk tpos) (ItE K a) [e, it] e (fun i h => (∃ old, IsEnum h e it ((i : Nat) : Int) old) ∧ h.IsTupleIter it a i ∧ e ≠ it ∧ a ≠ it ∧ a ≠ e) where
  mem := by simp
  obj := fun i h st b hb => by
    obtain ⟨⟨old, he⟩, ⟨o, ho, hc, hd⟩, _⟩ := st
    have ee : b = e ∨ b = it := by simpa using hb
    rcases ee with z | z
    · rw [z]
      exact ⟨_, he, fun v q => nomatch q⟩
    · rw [z]
      exact ⟨o, ho, fun v q => by rw [hd] at q; cases q⟩
  keep := fun i h h' st k => by
    obtain ⟨⟨old, he⟩, hi, hne⟩ := st
    exact ⟨⟨old, k e (by simp) _ he⟩, (let ⟨o, ho, r⟩ := hi; ⟨o, k it (by simp) o ho, r⟩), hne⟩
  item := by
    intro X hP hw hK hc i pins s σ H E I hf st hg
    subst hP hw hK
    obtain ⟨⟨old, he⟩, hit, hne, hai, hae⟩ := st
    obtain ⟨xs, x, hq, hx⟩ := hg
    obtain ⟨its, rv, p, hz⟩ := I.tuple hq
    obtain ⟨u, hu, ru⟩ := rv.get hx
    have hel : e < s.heap.objs.size := Heap.lt_size he
    have hil : it < s.heap.objs.size := by
      obtain ⟨_, q, _⟩ := hit
      exact Heap.lt_size q
    have hlt : i < its.toArray.size := by
      rw [List.size_toArray, ← rv.length]
      exact (List.getElem?_eq_some_iff.mp hx).1
    have D : Draws X.prog X.w X.A.in1 it [it, a] its.toArray.size (fun j v => its.toArray[j]? = some v) (fun j h => h.IsTupleIter it a j ∧ h.IsTuple a its.toArray) := Draws.tuple (A := X.A.in1) (I.ok.hd hc) it a hai its.toArray
    refine wpAny_pyNext_enum_itemD D he ⟨hit, p⟩ hlt hne (by simp [Ne.symm hae, hne]) fun v h1 tk hv ho hit1 hT hsz hk => ?_
    have ev : v = u := by
      have z : some v = some u := by rw [← hv]; simpa using hu
      exact Option.some.inj z
    subst ev
    refine ⟨_, rfl, wpAny_letOwnedTupleGo_enum (s := { s with heap := h1, toks := tk + 1 }) ho fun h2 he2 sb => ?_⟩
    have hT2 : h2.get? s.heap.objs.size = some { cls := .type "tuple", data := .seq #[.int i tk, v] } := (sb.2 _ (Nat.ne_of_gt hel)).trans hT
    have new : ObjOk X.prog X.w (upd H s.heap.objs.size (.tup [.int (i : Nat), x])) h2 s.heap.objs.size (.tup [.int (i : Nat), x]) :=
      ⟨by show 2 ≤ sizeLine; decide, [.int i tk, v], .cons ⟨_, rfl⟩ (.cons ru .nil), ⟨_, hT2, rfl, _, rfl⟩⟩
    have J : Inv X pins σ (upd H s.heap.objs.size (.tup [.int (i : Nat), x])) { s with heap := h2, toks := tk + 1 } :=
      I.turnedNew (ch := [e, it]) (fun b ob hb q => (sb.2 b (fun z => hb (by simp [z]))).trans (hk b ob (fun z => hb (by simp [z])) (fun z => hb (by simp [z])) q)) hf (Nat.le_refl _) new
    refine ⟨.ref s.heap.objs.size, _, J, rfl, ⟨_, x, rfl, I.hok.fresh (Nat.le_refl _), rfl, fun ys hy => by rw [I.tuple_inj hy hq]; exact hx⟩, ⟨⟨v, ?_⟩, ?_, hne, hai, hae⟩, fun b hb => ?_⟩
    · have e1 : ((i + 1 : Nat) : Int) = (i : Int) + 1 := by omega
      rw [e1]
      exact he2
    · obtain ⟨o, ho2, r⟩ := hit1.1
      exact ⟨o, (sb.2 it (Ne.symm hne)).trans ho2, r⟩
    · have hb2 : b < s.heap.objs.size := by
        have ee : b = e ∨ b = it := by simpa using hb
        rcases ee with z | z
        · rw [z]; exact hel
        · rw [z]; exact hil
      rw [upd_ne (Nat.ne_of_lt hb2)]
      exact (hf b hb).1
  done := by
    intro X hP hw hK hc i pins s σ H E I hf st hg
    subst hP hw hK
    obtain ⟨⟨old, he⟩, hit, hne, hai, hae⟩ := st
    obtain ⟨xs, hq, hx⟩ := hg
    obtain ⟨its, rv, p, hz⟩ := I.tuple hq
    obtain ⟨f0, f1, f2, f3, f4, f5⟩ := hf it (by simp)
    have hl := rv.length
    have D : Draws X.prog X.w X.A.in1 it [it, a] i (fun j v => its.toArray[j]? = some v) (fun j h => j = i ∧ h.IsTupleIter it a i ∧ h.IsTuple a its.toArray ∧ its.toArray.size ≤ i) := by
      have D0 := Draws.tuple (prog := X.prog) (w := X.w) (A := X.A.in1) (I.ok.hd hc) it a hai its.toArray
      refine ⟨fun j h z => D0.live i h ⟨z.2.1, z.2.2.1⟩, fun j h h' z k => ⟨z.1, (D0.frame i h h' ⟨z.2.1, z.2.2.1⟩ k).1, (D0.frame i h h' ⟨z.2.1, z.2.2.1⟩ k).2, z.2.2.2⟩, fun j s Q E hj z k => ?_, fun s Q E z k => ?_⟩
      · exact absurd z.1 (Nat.ne_of_lt hj)
      · exact wpAny_nextOf_tuple_end (I.ok.hd hc) z.2.1 z.2.2.1 (Array.getElem?_eq_none z.2.2.2) k
    exact wpAny_pyNext_enum_endD D he ⟨rfl, hit, p, by rw [List.size_toArray]; omega⟩ fun h' eb => ⟨rfl, I.turned (t' := s.toks) (fun b o hb q => eb b o hb q) f0 f1 f3 f4 f5⟩
  self := fun A i s Q E st h => let ⟨⟨_, he⟩, _⟩ := st; wpAny_pyIter_enum he h
def iEnumT (K : PySem.W.Frag) (ta : TA) : TI := fun σ H R => ta σ H fun vs H1 => ∃ a xs, vs = [.ref a] ∧ SqT K H1 a xs ∧ R (ItE K a) H1
theorem pi_enumT {X : Cx} {e : Expr} {ta : TA} {p pos tpos : Pos} {elts : List Expr} {kk : Nat} (hg : Gl X "enumerate") (hm : X.mg "enumerate" = none) (ha : PA X [e] ta) (hs : starEach [e] X.env = [(false, eval e X.env)] := by rfl) :
    PI X (.Tuple elts kk tpos) (.Call (.Name "enumerate" p) [e] [] pos) (iEnumT X.K ta) := by
  constructor
  intro pins s σ H R I h
  refine Call_ (ld_blt I hg hm boot_enumerate (PyProof.Rows.callWith_type1 (thn (ha.run pos pins s σ H _ I h) fun us s1 hh => ?_) hs rfl))
  obtain ⟨vs, H1, I1, r1, a, xs, ex, hq, q⟩ := hh
  subst ex
  cases r1 with
  | cons r rr =>
    cases rr
    cases r
    obtain ⟨its, rv, p2, hz⟩ := I1.tuple hq
    refine call_enumT p2 fun h2 he hit hk => wpAny_pyIter_enum he ?_
    have I2 : Inv X pins σ H1 { s1 with heap := h2 } := I1.kept (t' := s1.toks) hk
    have hlt : a < s1.heap.objs.size := p2.lt
    refine ⟨s1.heap.objs.size + 1, [s1.heap.objs.size + 1, s1.heap.objs.size], _, _, H1, rfl, I2, turn_enumT a (s1.heap.objs.size + 1) s1.heap.objs.size, ⟨⟨.none, he⟩, hit, Nat.succ_ne_self _, Nat.ne_of_lt hlt, Nat.ne_of_lt (Nat.lt_succ_of_lt hlt)⟩, fun b hb => ?_, q⟩
    have ee : b = s1.heap.objs.size + 1 ∨ b = s1.heap.objs.size := by simpa using hb
    have hle : s1.heap.objs.size ≤ b := by
      rcases ee with z | z
      · rw [z]; exact Nat.le_add_right _ _
      · rw [z]; exact Nat.le_refl _
    exact I1.fpOk hle (I1.hok.fresh hle)
/-! ### t[::-1] -/
section
variable {prog : Program} {w : World} {A : Around} {E : Value → Shared → Prop} {s : Shared}
theorem back_pick (xs : Array Value) (n : Nat) (hn : n = xs.size) : (List.range n).filterMap (fun (m : Nat) => xs[(((n : Int) - 1) + (m : Int) * (-1)).toNat]?) = xs.toList.reverse := by
  subst hn
  have e : (fun (m : Nat) => xs[(((xs.size : Nat) : Int) - 1 + (m : Int) * (-1)).toNat]?) = fun m => xs[xs.size - 1 - m]? := by
    funext m
    have z : (((xs.size : Nat) : Int) - 1 + (m : Int) * (-1)).toNat = xs.size - 1 - m := by omega
    rw [z]
  rw [e]
  have a := PySem.W.krv_pick xs
  have b : PySem.slicePick xs none none (some (-1)) = ((List.range xs.size).filterMap fun m => xs[xs.size - 1 - m]?).toArray := by
    unfold PySem.slicePick
    rw [PySem.W.krv_bounds]
    show ((PySem.sliceRange ((xs.size : Int) - 1) (-1) (-1)).filterMap (xs[·]?)).toArray = _
    rw [PySem.W.krv_sliceRange, List.filterMap_map]
    rfl
  have c := a.symm.trans b
  have d := congrArg Array.toList c
  exact d.symm
theorem applied_back {sl : Addr} {vs : Value} {n : Nat} {Q : Int × Int × Nat → Shared → Prop} (hs : s.heap.IsSliceOf sl .none .none vs) (pv : IsPart vs (some (-1)))
    (h : Q ((n : Int) - 1, -1, n) s) : wpAny (model prog w) A (Builtin.Slice.sliceApplied (.ref sl) (pure (n : Int))) Q E s := by
  obtain ⟨os, hos, hcs, hds⟩ := id hs
  unfold Builtin.Slice.sliceApplied Builtin.Slice.sliceFields
  refine wpAny_bind (wpAny_bind (wpAny_field hos hds (x := .none) rfl (wpAny_bind (wpAny_field hos hds (x := .none) rfl (wpAny_bind (wpAny_field hos hds (x := vs) rfl (wpAny_pure ?_)))))))
  refine wpAny_bind (HT.slicePart_ pv ?_)
  show wpAny _ _ (if ((-1 : Int) == 0) = true then _ else _) _ _ s
  rw [if_neg (by decide)]
  refine wpAny_bind (HT.slicePart_ .none (wpAny_bind (HT.slicePart_ .none (wpAny_bind (wpAny_pure ?_)))))
  show wpAny _ _ (pure ((n : Int) - 1, (-1 : Int), Builtin.Slice.slicePlaces ((n : Int) - 1) (-1) (-1))) _ _ s
  have e : Builtin.Slice.slicePlaces ((n : Int) - 1) (-1) (-1) = n := by
    unfold Builtin.Slice.slicePlaces
    rw [if_neg (by decide)]
    by_cases hn : (n : Int) - 1 > -1
    · rw [if_pos hn, show (- -1 : Int) = 1 by decide, Int.ediv_one]
      omega
    · rw [if_neg hn]
      omega
  rw [e]
  exact wpAny_pure h
theorem item_back {t sl : Addr} {items : Array Value} {vs : Value} {Q : Value → Shared → Prop} (ht : IsTup s.heap t items) (hs : s.heap.IsSliceOf sl .none .none vs) (pv : IsPart vs (some (-1)))
    (h : Q (.ref s.heap.objs.size) { s with heap := s.heap.push { cls := .type "tuple", data := .seq items.toList.reverse.toArray } }) (hsz : items.size ≤ sizeLine) : wpAny (model prog w) A (getItem (.ref t) (.ref sl)) Q E s := by
  have hok : sizeOk (.seq items.toList.reverse.toArray) := by
    show items.toList.reverse.toArray.size ≤ sizeLine
    rw [List.size_toArray, List.length_reverse, Array.length_toList]
    exact hsz
  obtain ⟨os, hos, hcs, hds⟩ := id hs
  have hTs : s.TypeIs (.ref sl) "slice" := ⟨os, hos, hcs⟩
  unfold getItem
  try with_reducible refine wpAny_holding ?_
  first | refine wpAny_bind (wpAny_pure ?_) | skip
  refine wpAny_bind (wpAny_sequenceKey ht.typeIs (by decide) ?_)
  refine wpAny_bind (wpAny_callSpecial?_slot (name := Str.ofString "__getitem__") ht.typeIs PyProof.Rows.slot_tuple_getitem (wpAny_call_entry PyProof.Rows.slot_tuple_getitem ht.typeIs entry_tuple_getitem ?_ (args_tuple_getitem _ _)))
  show wpAny _ _ (Builtin.Tuple.tupleItemsOf (.ref t) >>= _) _ _ s
  refine wpAny_bind (tupleItemsOf_ ht ?_)
  refine wpAny_bind (wpAny_typeOf hTs ?_)
  rw [if_pos (by decide)]
  refine wpAny_bind (applied_back hs pv ?_)
  have hno : ¬ ((((items.size : Int) - 1) == 0 && (-1 : Int) == 1 && items.size == items.size) = true) := by
    intro q
    rw [Bool.and_eq_true, Bool.and_eq_true] at q
    exact absurd q.1.2 (by decide)
  show wpAny _ _ (if (((items.size : Int) - 1) == 0 && (-1 : Int) == 1 && items.size == items.size) = true then _ else _) _ _ s
  rw [if_neg hno, back_pick items items.size rfl]
  first
    | exact wpAny_bind (m := Builtin.Tuple.tupleExact _) (wpAny_newObj_type (wpAny_pure ⟨_, rfl, wpAny_pure h⟩) hok)
    | exact wpAny_bind (m := Builtin.Tuple.tupleExact _) (wpAny_newObj_type (wpAny_bind (wpAny_pure (wpAny_pure ⟨_, rfl, wpAny_pure h⟩))) hok)
    | exact wpAny_bind (wpAny_bind (m := Builtin.Tuple.tupleExact _) (wpAny_newObj_type (wpAny_pure (wpAny_pure ⟨_, rfl, wpAny_pure h⟩)) hok))
    | exact wpAny_bind (wpAny_bind (m := Builtin.Tuple.tupleExact _) (wpAny_newObj_type (wpAny_pure ⟨_, rfl, wpAny_pure h⟩) hok))
end
def tRevT (K : PySem.W.Frag) (te : TE) : TE := fun σ H Q => te σ H fun x H1 => ∃ a xs, x = .ref a ∧ SqT K H1 a xs ∧ ∀ p, H1 p = none → Q (.ref p) (upd H1 p (.tup xs.reverse))
theorem pe_revT {X : Cx} {e : Expr} {te : TE} {k : Nat} {p1 p2 p3 pos : Pos} (he : PE X e te) : PE X (.Subscript e (.Slice none none (some (.UnaryOp .USub (.Constant (.int 1) k p1) p2)) p3) pos) (tRevT X.K te) := by
  constructor
  intro pins s σ H Q I h
  refine Subscript_ (thn (he.run pins s σ H _ I h) fun v s1 hh => ?_)
  obtain ⟨x, H1, I1, r1, a, xs, ex, hx, q⟩ := hh
  subst ex
  cases r1
  have hst : PO X (some (.UnaryOp .USub (.Constant (.int 1) k p1) p2)) (tPart (tUn (rU fun i => .int (-i)) (tC (.int 1)))) := po_some (pe_un un_neg pe_int)
  refine wpAny_Slice (thn (po_none.run pins s1 σ H1 (fun o H2 => o = none ∧ H2 = H1) I1 ⟨rfl, rfl⟩) fun vl s2 hl => ?_)
  obtain ⟨l, H2, I2, pl, el, e2⟩ := hl
  subst el e2
  refine thn (po_none.run pins s2 σ H2 (fun o H3 => o = none ∧ H3 = H2) I2 ⟨rfl, rfl⟩) fun vu s3 hu => ?_
  obtain ⟨u, H3, I3, pu, eu, e3⟩ := hu
  subst eu e3
  refine thn (hst.run pins s3 σ H3 (fun o H4 => o = some (-1) ∧ H4 = H3) I3 ⟨1, rfl, -1, rfl, rfl, rfl⟩) fun vs s4 ho => ?_
  obtain ⟨o, H4, I4, ps, eo, e4⟩ := ho
  subst eo e4
  cases pl
  cases pu
  have I5 : Inv X pins σ H4 { s4 with heap := s4.heap.push { cls := .type "slice", data := .fields #[.none, .none, vs] } } := I4.kept (t' := s4.toks) fun b ob q => Heap.get?_push_of_some _ q
  obtain ⟨its, r, ht, hz⟩ := I5.tuple hx
  have hlen := r.length
  show wpAny (model X.prog X.w) X.A (subscriptTail e (.Slice none none (some (.UnaryOp .USub (.Constant (.int 1) k p1) p2)) p3) (.ref a) (.ref s4.heap.objs.size)) (EP X pins σ Q) X.xe { s4 with heap := s4.heap.push { cls := .type "slice", data := .fields #[.none, .none, vs] } }
  refine tail_any (ops := [.ref a, .ref s4.heap.objs.size]) ht.typeIs (PyProof.Rows.slot_tuple_getitem.lookup) ?_ (by with_unfolding_all rfl)
  refine item_back ht (Heap.IsSliceOf.new _ .none .none vs) ps ?_ (by rw [List.size_toArray]; omega)
  refine ⟨.ref _, _, I5.laid (t' := s4.toks) (o := .tup xs.reverse) (fun b ob q => Heap.get?_push_of_some _ q) (Nat.le_refl _) ?_, rfl, q _ (I5.hok.fresh (Nat.le_refl _))⟩
  exact ⟨by rw [List.length_reverse]; exact hz, _, r.reverse, IsTup.new _ _⟩
end SE
/-! Plain data: texts, steps; when they are equal, how they are shown. -/
namespace SE
open PySem PySem.Spec PyProof.Rows L2
/-- a text that is an item -/
structure Item (z : Str) : Prop where
  pos : 1 ≤ z.length
  most : z.length ≤ 8
  low : ∀ c ∈ z.cps.toList, 97 ≤ c ∧ c ≤ 122
/-- data that may be compared and shown: its depth, its weight -/
structure Nice (k B : Nat) (d : PyData) : Prop where
  lay : d.canLay0 = true
  dep : d.depth ≤ k
  sh : d.showable = true
  nd : d.hasDict = false
  ish : d.intsShort 13 = true
  wt : d.weight ≤ B
theorem Nice.mono {k j B C : Nat} {d : PyData} (h : Nice k B d) (hk : k ≤ j) (hB : B ≤ C) : Nice j C d := ⟨h.lay, Nat.le_trans h.dep hk, h.sh, h.nd, h.ish, Nat.le_trans h.wt hB⟩
theorem nice_str {z : Str} {B : Nat} (hc : ∀ c ∈ z.cps.toList, c < 0x110000) (hB : z.length ≤ B) : Nice 0 B (.str z) := by
  refine ⟨?_, ?_, ?_, ?_, ?_, ?_⟩
  · simp only [PyData.canLay0, PyData.strOk]
    rw [← Array.all_toList, List.all_eq_true]
    intro c h
    exact decide_eq_true (hc c h)
  · simp only [PyData.depth]
    exact Nat.le_refl _
  · simp only [PyData.showable]
  · simp only [PyData.hasDict]
  · simp only [PyData.intsShort]
  · simp only [PyData.weight]
    exact hB
theorem Item.nice {z : Str} (h : Item z) : Nice 0 8 (.str z) := nice_str (fun c hc => by have := (h.low c hc).2; omega) h.most
theorem nice_all {k B : Nat} : ∀ {ds : List PyData}, (∀ d ∈ ds, Nice k B d) → PyData.canLayAll0 ds = true ∧ PyData.depthAll ds ≤ k ∧ PyData.showableAll ds = true ∧ PyData.hasDictAll ds = false ∧ PyData.intsShortAll 13 ds = true ∧ PyData.weightAll ds ≤ ds.length * (B + 1)
  | [], _ => by
    refine ⟨?_, ?_, ?_, ?_, ?_, ?_⟩
    · simp only [PyData.canLayAll0]
    · simp only [PyData.depthAll]
      exact Nat.zero_le _
    · simp only [PyData.showableAll]
    · simp only [PyData.hasDictAll]
    · simp only [PyData.intsShortAll]
    · simp only [PyData.weightAll]
      exact Nat.zero_le _
  | d :: ds, h => by
    obtain ⟨a1, a2, a3, a4, a5, a6⟩ := nice_all (ds := ds) fun x hx => h x (List.mem_cons_of_mem _ hx)
    have q := h d List.mem_cons_self
    refine ⟨?_, ?_, ?_, ?_, ?_, ?_⟩
    · simp only [PyData.canLayAll0, q.lay, a1, Bool.and_self]
    · simp only [PyData.depthAll]
      exact Nat.max_le.mpr ⟨q.dep, a2⟩
    · simp only [PyData.showableAll, q.sh, a3, Bool.and_self]
    · simp only [PyData.hasDictAll, q.nd, a4, Bool.or_self]
    · simp only [PyData.intsShortAll, q.ish, a5, Bool.and_self]
    · simp only [PyData.weightAll, List.length_cons]
      have := q.wt
      rw [Nat.add_mul]
      omega
theorem nice_list {k B : Nat} {ds : List PyData} (h : ∀ d ∈ ds, Nice k B d) : Nice (k + 1) (ds.length * (B + 1)) (.list ds) := by
  obtain ⟨a1, a2, a3, a4, a5, a6⟩ := nice_all h
  exact ⟨by simp only [PyData.canLay0]; exact a1, by simp only [PyData.depth]; omega, by simp only [PyData.showable]; exact a3, by simp only [PyData.hasDict]; exact a4, by simp only [PyData.intsShort]; exact a5, by simp only [PyData.weight]; exact a6⟩
theorem nice_tuple {k B : Nat} {ds : List PyData} (h : ∀ d ∈ ds, Nice k B d) : Nice (k + 1) (ds.length * (B + 1)) (.tuple ds) := by
  obtain ⟨a1, a2, a3, a4, a5, a6⟩ := nice_all h
  exact ⟨by simp only [PyData.canLay0]; exact a1, by simp only [PyData.depth]; omega, by simp only [PyData.showable]; exact a3, by simp only [PyData.hasDict]; exact a4, by simp only [PyData.intsShort]; exact a5, by simp only [PyData.weight]; exact a6⟩
theorem Nice.shaped {k B : Nat} {d : PyData} (h : Nice k B d) (hk : k ≤ 64) : SeqAt.shaped d = true := by
  unfold SeqAt.shaped
  rw [h.lay, Bool.true_and]
  exact decide_eq_true (Nat.le_trans h.dep hk)
theorem Nice.shown {k B : Nat} {d : PyData} (h : Nice k B d) (hk : k ≤ 64) (hB : B ≤ 2 ^ 20) : d.shown.length ≤ sizeLine := by
  refine PyData.shown_fits_of_layable0 (B := 13) (by decide) (by decide) ?_ h.ish
  unfold PyData.layable0
  rw [h.lay, Bool.true_and, Bool.and_eq_true]
  exact ⟨decide_eq_true (Nat.le_trans h.dep hk), decide_eq_true (Nat.le_trans h.wt hB)⟩
theorem Nice.eqv {k B : Nat} {d : PyData} (h : Nice k B d) : PyData.eqv d d = true := SeqAt.eqv_refl d h.lay
/-! ### texts -/
theorem dp_strs {K : PySem.W.Frag} {H : Hp} : ∀ zs : List Str, DpAll K H (zs.map V.str) (zs.map PyData.str)
  | [] => .nil
  | z :: zs => .cons (.str z) (dp_strs zs)
theorem eqvAll_strs : ∀ a b : List Str, PyData.eqvAll (a.map .str) (b.map .str) = decide (a = b)
  | [], [] => by simp [PyData.eqvAll]
  | [], y :: b => by simp [PyData.eqvAll]
  | x :: a, [] => by simp [PyData.eqvAll]
  | x :: a, y :: b => by
    rw [List.map_cons, List.map_cons]
    unfold PyData.eqvAll
    rw [eqvAll_strs a b]
    unfold PyData.eqv
    by_cases e : x = y
    · subst e
      simp
    · simp [e]
theorem eqv_listS (a b : List Str) : PyData.eqv (.list (a.map .str)) (.list (b.map .str)) = decide (a = b) := by
  unfold PyData.eqv
  exact eqvAll_strs a b
theorem eqv_tupS (a b : List Str) : PyData.eqv (.tuple (a.map .str)) (.tuple (b.map .str)) = decide (a = b) := by
  unfold PyData.eqv
  exact eqvAll_strs a b
theorem nice_strs {zs : List Str} (h : ∀ z ∈ zs, Item z) : ∀ d ∈ zs.map PyData.str, Nice 0 8 d := by
  intro d hd
  obtain ⟨z, hz, rfl⟩ := List.mem_map.mp hd
  exact (h z hz).nice
/-! ### steps -/
abbrev Stp := Bool × Str
def act (b : Bool) : Str := if b then "push" else "pop"
theorem act_nice (b : Bool) : Nice 0 8 (.str (act b)) := by
  cases b
  · exact nice_str (by decide +kernel) (by decide +kernel)
  · exact nice_str (by decide +kernel) (by decide +kernel)
def stepD (s : Stp) : PyData := .tuple [.str (act s.1), .str s.2]
theorem stepD_nice {s : Stp} (h : Item s.2) : Nice 1 18 (stepD s) := by
  refine (nice_tuple (k := 0) (B := 8) (ds := [.str (act s.1), .str s.2]) ?_).mono (Nat.le_refl _) (by show 2 * 9 ≤ 18; decide)
  intro d hd
  rcases List.mem_cons.mp hd with q | q
  · rw [q]
    exact act_nice _
  · rw [List.mem_singleton.mp q]
    exact h.nice
/-- a step -/
def StepV (K : PySem.W.Frag) (H : Hp) (v : V) (s : Stp) : Prop := ∃ t, v = .ref t ∧ SqT K H t [.str (act s.1), .str s.2]
abbrev StepsV (K : PySem.W.Frag) (H : Hp) : List V → List Stp → Prop := Paired (StepV K H)
theorem StepV.same {K : PySem.W.Frag} {H H' : Hp} {v : V} {s : Stp} (h : StepV K H v s) (e : Same H H') : StepV K H' v s := by
  obtain ⟨t, rfl, q⟩ := h
  exact ⟨t, rfl, Same.tup e q⟩
theorem StepsV.same {K : PySem.W.Frag} {H H' : Hp} {xs : List V} {ss : List Stp} (h : StepsV K H xs ss) (e : Same H H') : StepsV K H' xs ss := Paired.mapP h fun _ _ q => q.same e
theorem StepsV.at {K : PySem.W.Frag} {H : Hp} : ∀ {xs : List V} {ss : List Stp} {i : Nat} {v : V}, StepsV K H xs ss → xs[i]? = some v → ∃ s, ss[i]? = some s ∧ StepV K H v s
  | _, _, _, _, .nil, h => by simp at h
  | _, _, 0, _, .cons a _, h => by
    have e := Option.some.inj h
    subst e
    exact ⟨_, rfl, a⟩
  | _, _, i + 1, _, .cons _ r, h => StepsV.at (i := i) r h
theorem dp_steps {K : PySem.W.Frag} {H : Hp} : ∀ {xs : List V} {ss : List Stp}, StepsV K H xs ss → DpAll K H xs (ss.map stepD)
  | _, _, .nil => .nil
  | _, _, .cons a r => by
    obtain ⟨t, rfl, q⟩ := a
    exact .cons (.tup q (.cons (.str _) (.cons (.str _) .nil))) (dp_steps r)
theorem nice_steps {ss : List Stp} (h : ∀ s ∈ ss, Item s.2) : ∀ d ∈ ss.map stepD, Nice 1 18 d := by
  intro d hd
  obtain ⟨s, hs, rfl⟩ := List.mem_map.mp hd
  exact stepD_nice (h s hs)
theorem StepsV.rev {K : PySem.W.Frag} {H : Hp} : ∀ {xs : List V} {ss : List Stp}, StepsV K H xs ss → StepsV K H xs.reverse ss.reverse
  | _, _, .nil => .nil
  | _, _, .cons a r => by
    rw [List.reverse_cons, List.reverse_cons]
    exact (StepsV.rev r).snoc a
/-- the exchange of push and pop -/
def flip1 (s : Stp) : Stp := (!s.1, s.2)
def revM (ss : List Stp) : List Stp := ss.reverse.map flip1
/-- what a step makes of a stack -/
def stepM (s : Stp) (zs : List Str) : Option (List Str) := if s.1 then some (s.2 :: zs) else match zs with
  | [] => none
  | z :: r => if z = s.2 then some r else none
def runM : List Stp → List Str → Option (List Str)
  | [], zs => some zs
  | s :: ss, zs => match stepM s zs with
    | none => none
    | some ws => runM ss ws
theorem runM_append : ∀ (a b : List Stp) (zs : List Str), runM (a ++ b) zs = (runM a zs).bind (runM b)
  | [], b, zs => rfl
  | s :: a, b, zs => by
    show (match stepM s zs with | none => none | some ws => runM (a ++ b) ws) = (match stepM s zs with | none => none | some ws => runM a ws).bind (runM b)
    cases stepM s zs with
    | none => rfl
    | some ws => exact runM_append a b ws
theorem stepM_flip {s : Stp} {zs ws : List Str} (h : stepM s zs = some ws) : stepM (flip1 s) ws = some zs := by
  obtain ⟨b, x⟩ := s
  cases b with
  | true =>
    have e : x :: zs = ws := by
      have q : some (x :: zs) = some ws := h
      exact Option.some.inj q
    subst e
    show (if x = x then some zs else none) = some zs
    rw [if_pos rfl]
  | false =>
    cases zs with
    | nil => exact absurd h (by intro q; cases q)
    | cons z r =>
      have q : (if z = x then some r else none) = some ws := h
      by_cases e : z = x
      · rw [if_pos e] at q
        have e2 := Option.some.inj q
        subst e2
        subst e
        rfl
      · rw [if_neg e] at q
        cases q
theorem runM_rev : ∀ (ss : List Stp) (zs ws : List Str), runM ss zs = some ws → runM (revM ss) ws = some zs
  | [], zs, ws, h => by
    have e : zs = ws := Option.some.inj h
    subst e
    rfl
  | s :: ss, zs, ws, h => by
    have h' : (match stepM s zs with | none => none | some ys => runM ss ys) = some ws := h
    cases e : stepM s zs with
    | none =>
      rw [e] at h'
      cases h'
    | some ys =>
      rw [e] at h'
      have ih := runM_rev ss ys ws h'
      show runM ((s :: ss).reverse.map flip1) ws = some zs
      rw [List.reverse_cons, List.map_append, runM_append]
      have ih' : runM (ss.reverse.map flip1) ws = some ys := ih
      rw [ih']
      show (match stepM (flip1 s) ys with | none => none | some ws => runM [] ws) = some zs
      rw [stepM_flip e]
      rfl
theorem revM_revM (ss : List Stp) : revM (revM ss) = ss := by
  unfold revM
  rw [← List.map_reverse, List.reverse_reverse, List.map_map]
  have e : flip1 ∘ flip1 = id := by
    funext s
    obtain ⟨b, x⟩ := s
    cases b <;> rfl
  rw [e, List.map_id]
theorem revM_items {ss : List Stp} (h : ∀ s ∈ ss, Item s.2) : ∀ s ∈ revM ss, Item s.2 := by
  intro s hs
  obtain ⟨t, ht, rfl⟩ := List.mem_map.mp hs
  exact h t (List.mem_reverse.mp ht)
theorem stepM_items {s : Stp} {zs ws : List Str} (h : stepM s zs = some ws) (hs : Item s.2) (hz : ∀ z ∈ zs, Item z) : ∀ z ∈ ws, Item z := by
  obtain ⟨b, x⟩ := s
  cases b with
  | true =>
    have e : x :: zs = ws := Option.some.inj (show some (x :: zs) = some ws from h)
    subst e
    intro z m
    rcases List.mem_cons.mp m with q | q
    · rw [q]
      exact hs
    · exact hz z q
  | false =>
    cases zs with
    | nil => exact absurd h (by intro q; cases q)
    | cons y r =>
      have q : (if y = x then some r else none) = some ws := h
      by_cases e : y = x
      · rw [if_pos e] at q
        have e2 := Option.some.inj q
        subst e2
        exact fun z m => hz z (List.mem_cons_of_mem _ m)
      · rw [if_neg e] at q
        cases q
theorem stepM_len {s : Stp} {zs ws : List Str} (h : stepM s zs = some ws) : ws.length ≤ zs.length + 1 := by
  obtain ⟨b, x⟩ := s
  cases b with
  | true =>
    have e : x :: zs = ws := Option.some.inj (show some (x :: zs) = some ws from h)
    subst e
    exact Nat.le_refl _
  | false =>
    cases zs with
    | nil => exact absurd h (by intro q; cases q)
    | cons y r =>
      have q : (if y = x then some r else none) = some ws := h
      by_cases e : y = x
      · rw [if_pos e] at q
        have e2 := Option.some.inj q
        subst e2
        rw [List.length_cons]
        omega
      · rw [if_neg e] at q
        cases q
end SE
namespace SE
open PySem PySem.Spec PyProof.Rows L2
def topS (i : Nat) : Stmt := PySem.Challenge.pw_stackeffect_k16_shortest_by_enumeration.main.body.getD i (.Pass ⟨0, 0, 0, 0⟩)
abbrev sWall : Stmt := topS 0
abbrev sStackerror : Stmt := topS 2
abbrev sInvalidword : Stmt := topS 3
abbrev sInvalidsteps : Stmt := topS 4
abbrev sInvalidnumber : Stmt := topS 5
abbrev sInvaliditems : Stmt := topS 6
abbrev sIsWhole : Stmt := topS 8
abbrev sPower : Stmt := topS 9
abbrev sIsItem : Stmt := topS 16
abbrev sIsWord : Stmt := topS 17
abbrev sIsStep : Stmt := topS 18
abbrev sMayHold : Stmt := topS 19
abbrev sChkSteps : Stmt := topS 20
abbrev sChkWord : Stmt := topS 21
abbrev sLeastPeak : Stmt := topS 23
abbrev sEffect : Stmt := topS 24
abbrev sJoined : Stmt := topS 25
abbrev sPartsOfStep : Stmt := topS 26
abbrev sEffectOf : Stmt := topS 27
abbrev sIsItemList : Stmt := topS 31
abbrev sCheckItems : Stmt := topS 32
abbrev sSurplus : Stmt := topS 33
abbrev sShortest : Stmt := topS 34
abbrev sShortestLength : Stmt := topS 35
abbrev sWaysMany : Stmt := topS 36
abbrev sShortestMany : Stmt := topS 37
abbrev sPool : Stmt := topS 39
abbrev sTake : Stmt := topS 40
abbrev sItems : Stmt := topS 41
abbrev sWord : Stmt := topS 42
abbrev sSteps : Stmt := topS 43
abbrev sLawRun : Stmt := topS 44
abbrev sLawAll : Stmt := topS 45
abbrev sLaw : Stmt := topS 46
end SE
namespace SE
open PySem PySem.Spec PyProof.Rows L2
section
variable {P : Program} {w : World} {K : PySem.W.Frag} {mg : Str → Option Value} {base : Heap}
/-! ### _law_take -/
def spTake : Sp := fun xs H Q _ => ∃ (p : Addr) (n : Int), xs = [.ref p, .int n] ∧ Pool H p ∧ 1 ≤ n ∧ n ≤ 100000 ∧
  ∀ (r : Int) (H' : Hp), But p H H' → Pool H' p → 0 ≤ r → r < n → Q (.int r) H'
theorem scTake : FnScope ["_law_pool_here", "_law_many", "_law_found"] ["_law_pool_here", "_law_many"] (defScope sTake) := ⟨rfl, rfl, rfl, by decide +kernel, rfl, by decide +kernel, by decide +kernel⟩
theorem has_take (D : Def K mg "_law_take" sTake) : Has P w K mg base "_law_take" 1 ["_law_pool_here", "_law_many"] [] spTake := by
  refine has_of D scTake (fun _ _ _ _ _ _ us hl => match us, hl with | [_, _], _ => rfl) (fun xs H Q E h => ?_) (fun f cv A out s H xs Q E hr h => ?_)
  · obtain ⟨p, n, rfl, _⟩ := h
    rfl
  · obtain ⟨p, n, rfl, hp, h1, h2, k⟩ := h
    obtain ⟨m, z, e, hm, hz0, hz1⟩ := hp.ex
    have a0 : atI [V.int m, V.int z] 0 = some (.int m) := atI_nat (j := 0) rfl
    refine ⟨_, pss_cons (ps_if (pt_cmpR op_gt (pe_ix ix_list (pv 0) pe_int (fun _ _ => rfl)) pe_int (nomark _))
        (pss_cons (ps_set (i := 2) scTake.nd rfl (.inl rfl) (pe_op op_modN (pe_ix ix_list (pv 0) pe_int (fun _ _ => rfl)) (pv 1)))
        (pss_cons (ps_asg (pe_op op_fdivN (pe_ix ix_list (pv 0) pe_int (fun _ _ => rfl)) (pv 1)) (pg_sub (pv 0) pe_int set_list))
        (pss_one (ps_ret (pv 2))))) pss_nil)
      (pss_cons (ps_asg (pe_op op_mod (pe_op op_add (pe_op op_mul (pe_ix ix_list (pv 0) pe_int (fun _ _ => rfl)) pe_int) pe_int) pe_int) (pg_sub (pv 0) pe_int set_list))
      (pss_one (ps_ret (pe_op op_modN (pe_op op_fdiv (pe_op op_mod (pe_op op_mul (pe_ix ix_list (pv 0) pe_int (fun _ _ => rfl)) (pe_ix ix_list (pv 0) pe_int (fun _ _ => rfl))) pe_int) pe_int) (pv 1))))), ?_⟩
    refine ⟨.ref p, rfl, p, _, 0, _, rfl, rfl, .of e, a0, m, 0, rfl, rfl, _, rfl, ite2 (fun c => ?_) (fun c => ?_)⟩
    · refine ⟨.ref p, rfl, p, _, 0, _, rfl, rfl, .of e, a0, .int n, rfl, m, n, rfl, rfl, (by omega), ?_⟩
      refine ⟨.ref p, rfl, p, _, 0, _, rfl, rfl, .of e, a0, .int n, rfl, m, n, rfl, rfl, ⟨by omega, by omega⟩, .ref p, rfl, p, _, 0, 0, rfl, rfl, e, rfl, ?_⟩
      refine ⟨_, rfl, k _ _ .at ⟨m.fdiv n, z, upd_same, ?_, hz0, hz1⟩ ?_ ?_⟩
      · rw [Int.fdiv_eq_ediv_of_nonneg _ (by omega)]
        exact Int.ediv_nonneg hm (by omega)
      · rw [Int.fmod_eq_emod_of_nonneg _ (by omega)]
        exact Int.emod_nonneg _ (by omega)
      · rw [Int.fmod_eq_emod_of_nonneg _ (by omega)]
        exact Int.emod_lt_of_pos _ (by omega)
    · have a1 : atI [V.int m, V.int z] 1 = some (.int z) := atI_nat (j := 1) rfl
      refine ⟨.ref p, rfl, p, _, 1, _, rfl, rfl, .of e, a1, z, 48271, rfl, rfl, .inl ⟨by omega, by omega⟩, _, 11, rfl, rfl, _, 2147483647, rfl, rfl, (by show (0 : Int) < 2147483647; decide), .ref p, rfl, p, _, 1, 1, rfl, rfl, e, rfl, ?_⟩
      have q0 : 0 ≤ (z * 48271 + 11) % 2147483647 := Int.emod_nonneg _ (by omega)
      have q1 : (z * 48271 + 11) % 2147483647 < 2147483647 := Int.emod_lt_of_pos _ (by omega)
      have e' : (upd H p (.lst ([V.int m, V.int z].set 1 (.int ((z * 48271 + 11) % 2147483647))))) p = some (.lst [V.int m, .int ((z * 48271 + 11) % 2147483647)]) := upd_same
      have a1' : atI [V.int m, V.int ((z * 48271 + 11) % 2147483647)] 1 = some (.int ((z * 48271 + 11) % 2147483647)) := atI_nat (j := 1) rfl
      refine ⟨.ref p, rfl, p, _, 1, _, rfl, rfl, .of e', a1', .ref p, rfl, p, _, 1, _, rfl, rfl, .of e', a1', ((z * 48271 + 11) % 2147483647), ((z * 48271 + 11) % 2147483647), rfl, rfl, .inl ⟨by omega, by omega⟩, _, 2147483629, rfl, rfl, (by show (0 : Int) < 2147483629; decide), _, 64, rfl, rfl, ⟨by decide, by decide⟩, .int n, rfl, _, n, rfl, rfl, (by omega), ?_⟩
      refine k _ _ .at ⟨m, ((z * 48271 + 11) % 2147483647), upd_same, hm, q0, q1⟩ ?_ ?_
      · rw [Int.fmod_eq_emod_of_nonneg _ (by omega)]
        exact Int.emod_nonneg _ (by omega)
      · rw [Int.fmod_eq_emod_of_nonneg _ (by omega)]
        exact Int.emod_lt_of_pos _ (by omega)
/-! ### _law_pool -/
def spPool (K : PySem.W.Frag) : Sp := fun xs H Q _ => ∃ (a : Addr) (ns : List Int) (i : Int), xs = [.ref a, .int i] ∧ SqL K H a (ns.map V.int) ∧ 0 ≤ i ∧ i ≤ 63 ∧
  ∀ (p : Addr) (H' : Hp), Same H H' → H p = none → Pool H' p → Q (.ref p) H'
theorem scPool : FnScope ["_law_script", "_law_k", "_law_cell", "_law_size", "_law_seed"] ["_law_script", "_law_k"] (defScope sPool) := ⟨rfl, rfl, rfl, by decide +kernel, rfl, by decide +kernel, by decide +kernel⟩
theorem has_pool (D : Def K mg "_law_pool" sPool) (ml : mg "len" = none) (ma : mg "abs" = none) (mi : mg "int" = none) : Has P w K mg base "_law_pool" 1 ["_law_script", "_law_k"] [] (spPool K) := by
  refine has_of D scPool (fun _ _ _ _ _ _ us hl => match us, hl with | [_, _], _ => rfl) (fun xs H Q E h => ?_) (fun f cv A out s H xs Q E hr h => ?_)
  · obtain ⟨a, ns, i, rfl, _⟩ := h
    rfl
  · obtain ⟨a, ns, i, rfl, hS, h0, h1, k⟩ := h
    refine ⟨_, pss_cons (ps_set (i := 2) scPool.nd rfl (.inl rfl) pe_int)
      (Evl.pss_cut (ps_if (pt_cmpR op_lt (pv 1) (pe_callB call_len_seq (by rfl) ml PySem.boot_len (pa_cons (pv 0) pa_nil)) (nomark _))
        (pss_one (ps_set (i := 2) scPool.nd rfl (.inl rfl) (pe_ix ix_list (pv 0) (pv 1) (fun _ _ => rfl)))) pss_nil)
      (pss_cons (ps_set (i := 3) scPool.nd rfl (.inl rfl) (pe_callB call_abs (by rfl) ma (by decide +kernel) (pa_cons (pv 2) pa_nil)))
      (pss_cons (ps_set (i := 4) scPool.nd rfl (.inl rfl) (pe_op op_mod (pe_op op_pow (pe_op op_add (pe_op op_add (pe_op op_add (pe_op op_mod (pv 2) pe_int) (pe_op op_mul (pe_op op_mul pe_int (pv 1)) (pv 1))) (pe_op op_mul pe_int (pv 1))) pe_int) pe_int) pe_int))
      (pss_one (ps_ret (pe_lst (pa_cons (pe_op op_mul (pv 3) (pe_callTy call_int1 (by rfl) mi (by decide +kernel) (pa_cons (pe_cmpR op_ge (pv 3) (pe_op op_pow pe_int pe_int) (nomark _)) pa_nil))) (pa_cons (pv 4) pa_nil)))))))), ?_⟩
    refine ⟨fun σ H2 => H2 = H ∧ ∃ c : Int, σ = [some (.ref a), some (.int i), some (.int c), none, none], ?_, ?_⟩
    · refine ⟨_, rfl, .ref a, rfl, a, _, rfl, .inl hS, i, _, rfl, rfl, _, rfl, ite2 (fun c => ?_) (fun c => ?_)⟩
      · have hi : i < ((ns.map V.int).length : Int) := of_decide_eq_true c
        rw [List.length_map] at hi
        have hj : i.toNat < ns.length := by omega
        refine ⟨.ref a, rfl, .int i, rfl, a, _, i, .int ns[i.toNat], rfl, rfl, hS, at_of (j := i.toNat) (by omega) ?_, rfl, ns[i.toNat], rfl⟩
        rw [List.getElem?_map, List.getElem?_eq_getElem hj]
        rfl
      · exact ⟨rfl, 0, rfl⟩
    · rintro σ H2 ⟨rfl, c, rfl⟩
      refine ⟨_, rfl, c, rfl, ?_⟩
      refine ⟨_, rfl, c, 2147483629, rfl, rfl, (by show (0 : Int) < 2147483629; decide), _, rfl, 104729, i, rfl, rfl, .inl ⟨by decide, by decide⟩, _, rfl, _, i, rfl, rfl, .inr ⟨by omega, by omega⟩, _, _, rfl, rfl, _, rfl, 7919, i, rfl, rfl, .inl ⟨by decide, by decide⟩, _, _, rfl, rfl, _, 11, rfl, rfl, _, 3, rfl, rfl, ⟨by decide, by decide, ?_⟩, _, 2147483647, rfl, rfl, (by show (0 : Int) < 2147483647; decide), ?_⟩
      · have b0 : 0 ≤ c % 2147483629 := Int.emod_nonneg _ (by omega)
        have b1 : c % 2147483629 < 2147483629 := Int.emod_lt_of_pos _ (by omega)
        have b2 : 0 ≤ 104729 * i * i := Int.mul_nonneg (by omega) h0
        have b3 : 104729 * i * i ≤ 104729 * 63 * 63 := Int.mul_le_mul (by omega) h1 h0 (by omega)
        omega
      · have t0 : ∀ y : Int, 0 ≤ y ^ 3 % 2147483647 ∧ y ^ 3 % 2147483647 < 2147483647 := fun y => ⟨Int.emod_nonneg _ (by omega), Int.emod_lt_of_pos _ (by omega)⟩
        have u0 : 0 ≤ (if c < 0 then -c else c) := by
          split <;> omega
        refine ⟨_, rfl, _, rfl, 10, 18, rfl, rfl, ⟨by decide, by decide, by decide⟩, _, _, rfl, rfl, .inr ⟨_, rfl, ?_⟩⟩
        have b01 : ∀ b : Bool, (0 : Int) ≤ (if b = true then 1 else 0) ∧ (if b = true then (1 : Int) else 0) ≤ 1 := fun b => by cases b <;> decide
        have g := b01 (decide (10 ^ Int.toNat 18 ≤ if c < 0 then -c else c))
        refine ⟨_, _, rfl, rfl, .inr ⟨by omega, by omega⟩, _, rfl, (by show 2 ≤ sizeLine; decide), fun p hp => k p _ (Same.new hp) hp ⟨_, _, upd_same, Int.mul_nonneg u0 g.1, (t0 _).1, (t0 _).2⟩⟩
end
end SE
namespace SE
open PySem PySem.Spec PyProof.Rows L2
theorem len_add (x y : Str) : (x ++ y).length = x.length + y.length := by
  show (x.cps ++ y.cps).size = _
  rw [Array.size_append]
  rfl
theorem cps_add (x y : Str) : (x ++ y).cps.toList = x.cps.toList ++ y.cps.toList := by
  show (x.cps ++ y.cps).toList = _
  exact Array.toList_append
abbrev abc : Str := Str.ofString "abcdefghijklmnopqrstuvwxyz"
theorem abc_len : abc.length = 26 := by decide +kernel
theorem abc_at (i : Nat) (h : i < 26) : ∃ c, abc.cps[i]? = some c ∧ 97 ≤ c ∧ c ≤ 122 := by
  have q : ∀ j : Fin 26, (abc.cps[j.1]?).any (fun c => decide (97 ≤ c) && decide (c ≤ 122)) = true := by decide +kernel
  have z := q ⟨i, h⟩
  simp only [Option.any_eq_true, Bool.and_eq_true, decide_eq_true_eq] at z
  obtain ⟨c, h1, h2, h3⟩ := z
  exact ⟨c, h1, h2, h3⟩
end SE
namespace SE
open PySem PySem.Spec PyProof.Rows L2
theorem nodup_le {α : Type} [DecidableEq α] : ∀ {ys zs : List α}, ys.Nodup → (∀ y ∈ ys, y ∈ zs) → ys.length ≤ zs.length
  | [], _, _, _ => Nat.zero_le _
  | y :: ys, zs, nd, h => by
    obtain ⟨n1, n2⟩ := List.nodup_cons.mp nd
    have hy : y ∈ zs := h y List.mem_cons_self
    have ih := nodup_le (zs := zs.erase y) n2 fun x hx => (List.mem_erase_of_ne (fun e => n1 (by rw [← e]; exact hx))).mpr (h x (List.mem_cons_of_mem _ hx))
    rw [List.length_erase_of_mem hy] at ih
    have : 0 < zs.length := List.length_pos_of_mem hy
    rw [List.length_cons]
    omega
theorem yes_in {σ : L2.St} {H : Hp} {F G : Hp → Prop} (h : F H) : tYes σ H (fun b H3 => if b = true then F H3 else G H3) := by
  show if true = true then F H else G H
  exact iteT h
theorem eqV_str (a b : Str) : eqV (.str a) (.str b) = (a == b) := by
  unfold eqV
  rfl
theorem inV_str (z : Str) : ∀ zs : List Str, inV (.str z) (zs.map V.str) = decide (z ∈ zs)
  | [] => by simp [inV]
  | y :: zs => by
    have ih := inV_str z zs
    unfold inV at ih ⊢
    rw [List.map_cons, List.any_cons, ih, eqV_str]
    by_cases e : y = z
    · subst e
      simp
    · have e2 : ¬ z = y := fun q => e q.symm
      simp [e, e2]
theorem flat_strs : ∀ zs : List Str, (zs.map V.str).all flatV = true
  | [] => rfl
  | y :: zs => by
    rw [List.map_cons, List.all_cons, flat_strs zs]
    rfl
/-- the names that are taken where one is drawn twice -/
def spare : List Str := abc.cps.toList.map fun c => (⟨#[c]⟩ : Str) ++ "zz"
theorem spare_len : spare.length = 26 := by decide +kernel
theorem spare_nd : spare.Nodup := by decide +kernel
theorem spare_item {z : Str} (h : z ∈ spare) : Item z := by
  have q : ∀ y ∈ spare, (decide (1 ≤ y.length) && decide (y.length ≤ 8) && y.cps.toList.all fun c => decide (97 ≤ c) && decide (c ≤ 122)) = true := by decide +kernel
  have e := q z h
  simp only [Bool.and_eq_true, decide_eq_true_eq, List.all_eq_true] at e
  exact ⟨e.1.1, e.1.2, e.2⟩
theorem spare_at {i c : Nat} (h : abc.cps[i]? = some c) : spare[i]? = some ((⟨#[c]⟩ : Str) ++ "zz") := by
  unfold spare
  rw [List.getElem?_map, Array.getElem?_toList, h]
  rfl
theorem abc_size : abc.cps.size = 26 := by decide +kernel
end SE
namespace SE
open PySem PySem.Spec PyProof.Rows L2
section
variable {P : Program} {w : World} {K : PySem.W.Frag} {mg : Str → Option Value} {base : Heap}
/-! ### _law_word -/
def spWord : Sp := fun xs H Q _ => ∃ (p l : Addr) (m : Int) (zs : List Str), xs = [.ref p, .ref l, .int m] ∧ Pool H p ∧ l ≠ p ∧ H l = some (.lst (zs.map V.str)) ∧ zs ≠ [] ∧ zs.length ≤ 100 ∧ 0 ≤ m ∧ m ≤ 900 ∧
  ∀ (t : Addr) (ws : List Str) (H' : Hp), But p H H' → Pool H' p → H t = none → H' t = some (.tup (ws.map V.str)) → (ws.length : Int) ≤ m → (∀ z ∈ ws, z ∈ zs) → Q (.ref t) H'
abbrev nWord : List Str := ["_law_pool_here", "_law_items_here", "_law_most", "_law_turn"]
theorem scWord : FnScope nWord ["_law_pool_here", "_law_items_here", "_law_most"] (defScope sWord) := ⟨rfl, rfl, rfl, by decide +kernel, rfl, by decide +kernel, by decide +kernel⟩
theorem pick_str {zs : List Str} {r : Int} (h0 : 0 ≤ r) (h1 : r < (zs.length : Int)) : ∃ z, z ∈ zs ∧ atI (zs.map V.str) r = some (.str z) := by
  have hj : r.toNat < zs.length := by omega
  refine ⟨zs[r.toNat], List.getElem_mem hj, at_of (j := r.toNat) (by omega) ?_⟩
  rw [List.getElem?_map, List.getElem?_eq_getElem hj]
  rfl
theorem has_word (D : Def K mg "_law_word" sWord) (GT : Has P w K mg base "_law_take" 1 ["_law_pool_here", "_law_many"] [] spTake) (mr : mg "range" = none) (ml : mg "len" = none) (mt : mg "tuple" = none) : Has P w K mg base "_law_word" 2 ["_law_pool_here", "_law_items_here", "_law_most"] [] spWord := by
  refine has_of D scWord (fun _ _ _ _ _ _ us hl => match us, hl with | [_, _, _], _ => rfl) (fun xs H Q E h => ?_) (fun f cv A out s H xs Q E hr h => ?_)
  · obtain ⟨p, l, m, zs, rfl, _⟩ := h
    rfl
  · obtain ⟨p, l, m, zs, rfl, hp, lp, hl, hne, hz, h0, h1, k⟩ := h
    refine ⟨_, pss_one (ps_ret (pe_callTy call_tuple_of (by rfl) mt (by decide +kernel) (pa_cons
      (pe_lc (own := [("_law_turn", 3)]) (g := gName 3) (tt := tYes) (te := tOp (rIxL K) (tVar 1) (tCall spTake [] E0 (tCons (tVar 0) (tCons (tCB (Evl.rLenS K) (tCons (tVar 1) tNil)) tNil)))) rfl scWord.nd
        (pi_range1 (by rfl) mr (pa_cons (pe_has GT hr (pa_cons (pv 0) (pa_cons (pe_op op_add (pv 2) pe_int) pa_nil))) pa_nil)) (blkOk_by (own := [("_law_turn", 3)]) (N := nWord) (sc := defScope sWord) (by decide +kernel))
        (fun _ _ _ _ _ => pg_name (i := 3) scWord.nd rfl (.inl rfl)) (fun _ _ _ _ _ => pts_nil)
        (fun _ _ _ _ _ => pe_ix ix_list (pv 1) (pe_has GT hr (pa_cons (pv 0) (pa_cons (pe_callB call_len_seq (by rfl) ml PySem.boot_len (pa_cons (pv 1) pa_nil)) pa_nil))) (fun _ _ => rfl))) pa_nil))), ?_⟩
    refine ⟨_, rfl, _, rfl, m, 1, rfl, rfl, p, m + 1, rfl, hp, by omega, by omega, fun n H1 b1 p1 n0 n1 => ?_⟩
    have hl1 : H1 l = some (.lst (zs.map V.str)) := b1 l _ lp hl
    refine ⟨n, rfl, by omega, by omega, fun D hD => lc_range (lo := 0) (n := n.toNat) (fun i H2 => ∃ ws : List Str, H2 D = some (.lst (ws.map V.str)) ∧ ws.length = i ∧ (∀ z ∈ ws, z ∈ zs) ∧ But p H H2 ∧ Pool H2 p ∧ H2 l = some (.lst (zs.map V.str))) ?_ ?_ ?_⟩
    · have Dp : D ≠ p := p1.free hD
      exact ⟨[], upd_same, rfl, fun z q => (by cases q), b1.free (b1.none Dp hD), p1.upd Dp, by rw [upd_ne (ne_of_none hl1 hD)]; exact hl1⟩
    · rintro i H2 hi ⟨ws, hw, wl, wz, b2, p2, hl2⟩
      have Dp : D ≠ p := p1.free hD
      have Dl : l ≠ D := ne_of_none hl1 hD
      have hzp : 0 < zs.length := List.length_pos_iff.mpr hne
      refine ⟨rfl, yes_in ⟨_, rfl, _, rfl, _, rfl, l, _, rfl, .inl (.of hl2), p, _, rfl, p2, ?_, ?_, fun r H3 b3 p3 r0 r1 => ?_⟩⟩
      · rw [List.length_map]
        omega
      · rw [List.length_map]
        omega
      · rw [List.length_map] at r1
        obtain ⟨z, zm, az⟩ := pick_str r0 r1
        have hl3 : H3 l = some (.lst (zs.map V.str)) := b3 l _ lp hl2
        have hD3 : H3 D = some (.lst (ws.map V.str)) := b3 D _ Dp hw
        refine ⟨l, _, r, _, rfl, rfl, .of hl3, az, _, hD3, ?_, ws ++ [z], ?_, ?_, ?_, (b2.trans b3).free (b1.none Dp hD), p3.upd Dp, ?_⟩
        · rw [List.length_map, wl]
          exact small1000 (by omega)
        · rw [upd_same, List.map_append]
          rfl
        · rw [List.length_append, wl]
          rfl
        · intro y hy
          rcases List.mem_append.mp hy with q | q
          · exact wz y q
          · rw [List.mem_singleton.mp q]
            exact zm
        · rw [upd_ne Dl]
          exact hl3
    · rintro H2 ⟨ws, hw, wl, wz, b2, p2, hl2⟩
      refine ⟨D, _, rfl, .inl ⟨.of hw, fun t ht => ?_⟩⟩
      have tp : t ≠ p := p2.free ht
      refine k t ws _ (b2.free (b2.none tp ht)) (p2.upd tp) (b2.none tp ht) upd_same ?_ wz
      omega
end
end SE
namespace SE
open PySem PySem.Spec PyProof.Rows L2
/-- a test whose ways meet -/
def tCutT (t : TT) : TT := fun σ H Q => ∃ M : Bool → Hp → Prop, t σ H M ∧ ∀ b H2, M b H2 → Q b H2
theorem pt_cut {X : Cx} {e : Expr} {t : TT} (h : PT X e t) : PT X e (tCutT t) := ⟨fun pins s σ H Q I hw => by
  obtain ⟨M, h1, h2⟩ := hw
  refine thn (h.run pins s σ H M I h1) fun b s2 z => ?_
  obtain ⟨H2, I2, q⟩ := z
  exact ⟨H2, I2, h2 b H2 q⟩⟩
theorem cut_map {α : Type} (f : α → V) (hs : List α) (lo hi : Option Int) : cutV (hs.map f) lo hi = ((hs.drop (HT.sIx hs.length 0 lo)).take (HT.sIx hs.length hs.length hi - HT.sIx hs.length 0 lo)).map f := by
  unfold cutV
  rw [List.length_map, List.map_take, List.map_drop]
theorem cut_mem {α : Type} {x : α} {hs : List α} {a b : Nat} (h : x ∈ (hs.drop a).take b) : x ∈ hs := List.mem_of_mem_drop (List.mem_of_mem_take h)
/-- steps whose tuples stand in the heap -/
abbrev StepsH (H : Hp) : List V → List Stp → Prop := Paired fun v s => ∃ t, v = .ref t ∧ H t = some (.tup [.str (act s.1), .str s.2])
theorem StepsH.v {K : PySem.W.Frag} {H : Hp} {xs : List V} {ss : List Stp} (h : StepsH H xs ss) : StepsV K H xs ss := Paired.mapP h fun _ _ q => by
  obtain ⟨t, e, z⟩ := q
  exact ⟨t, e, .of z⟩
theorem StepsH.but {H H' : Hp} {p : Addr} {xs : List V} {ss : List Stp} (h : StepsH H xs ss) (hp : Pool H p) (b : But p H H') : StepsH H' xs ss := Paired.mapP h fun _ _ q => by
  obtain ⟨t, e, z⟩ := q
  exact ⟨t, e, b t _ (hp.ne z) z⟩
theorem StepsH.upd {H : Hp} {q : Addr} {o : HO} {xs : List V} {ss : List Stp} (h : StepsH H xs ss) (hq : ∀ ys, H q ≠ some (.tup ys)) : StepsH (upd H q o) xs ss := Paired.mapP h fun _ _ r => by
  obtain ⟨t, e, z⟩ := r
  refine ⟨t, e, ?_⟩
  rw [upd_ne (fun w => hq _ (by rw [← w]; exact z))]
  exact z
end SE
namespace SE
open PySem PySem.Spec PyProof.Rows L2
/-! ### what is never reached; types -/
theorem pe_never {X : Cx} {e : Expr} : PE X e (fun _ _ _ => False) := ⟨fun _ _ _ _ _ _ h => h.elim⟩
theorem ty_tup {K : PySem.W.Frag} {H : Hp} {a : Addr} {xs : List V} (h : SqT K H a xs) : TyX K H (.ref a) (.type "tuple") := by
  rcases h with (h | ⟨o, h⟩) | ⟨o, its, n, h1, h2, _⟩
  · exact .base (.tup h)
  · exact .fTuple h
  · exact .kTuple h1 h2
theorem ty_lst {K : PySem.W.Frag} {H : Hp} {a : Addr} {xs : List V} (h : SqL K H a xs) : TyX K H (.ref a) (.type "list") := by
  rcases h with (h | ⟨o, h⟩) | ⟨o, its, n, h1, h2, _⟩
  · exact .base (.lst h)
  · exact .base (.frz h)
  · exact .kList h1 h2
theorem bl_snoc (n : Nat) : (List.replicate n true).map V.bl ++ [V.bl true] = (List.replicate (n + 1) true).map V.bl := by
  rw [List.replicate_succ', List.map_append]
  rfl
theorem all_true (n : Nat) : (List.replicate n true).all id = true := by
  rw [List.all_eq_true]
  intro b hb
  rw [(List.mem_replicate.mp hb).2]
  rfl
theorem abc_has {c : Nat} (h : 97 ≤ c ∧ c ≤ 122) : c ∈ abc.cps.toList := by
  have q : ∀ j : Fin 26, (97 + j.1) ∈ abc.cps.toList := by decide +kernel
  have z := q ⟨c - 97, by omega⟩
  have e : 97 + (c - 97) = c := by omega
  rw [← e]
  exact z
/-- the module's constants -/
structure Cons (K : PySem.W.Frag) (w : World) (mg : Str → Option Value) : Prop where
  let_ : ∃ t, mg "LETTERS" = some (.str abc t)
  ml : ∃ t, mg "MOST_LETTERS" = some (.int 8 t)
  ms : ∃ t, mg "MOST_STEPS" = some (.int 1000 t)
  opp : ∃ (d : Addr) (es : Array DictEntry) (n : Nat) (u v : Value), mg "OPPOSITES" = some (.ref d) ∧ KDict K w d es n ∧ PySem.W.nsIn K d "push" = some (some u) ∧ RelV (.str "pop") u ∧ PySem.W.nsIn K d "pop" = some (some v) ∧ RelV (.str "push") v
/-- built-in names that the module leaves as they are -/
structure Blt (mg : Str → Option Value) : Prop where
  isi : mg "isinstance" = none
  str : mg "str" = none
  len : mg "len" = none
  all : mg "all" = none
  tup : mg "tuple" = none
  lst : mg "list" = none
  enu : mg "enumerate" = none
section
variable {P : Program} {w : World} {K : PySem.W.Frag} {mg : Str → Option Value} {base : Heap}
/-! ### is_item -/
def spIsItem : Sp := fun xs H Q _ => ∃ (z : Str), xs = [.str z] ∧ Item z ∧ ∀ H', Same H H' → Q (.bl true) H'
theorem scIsItem : FnScope ["value", "letter"] ["value"] (defScope sIsItem) := ⟨rfl, rfl, rfl, by decide +kernel, rfl, by decide +kernel, by decide +kernel⟩
theorem has_isItem (D : Def K mg "is_item" sIsItem) (B : Blt mg) (C : Cons K w mg) : Has P w K mg base "is_item" 1 ["value"] [] spIsItem := by
  obtain ⟨tl, hL⟩ := C.let_
  obtain ⟨tm, hM⟩ := C.ml
  refine has_of D scIsItem (fun _ _ _ _ _ _ us hl => match us, hl with | [_], _ => rfl) (fun xs H Q E h => ?_) (fun f cv A out s H xs Q E hr h => ?_)
  · obtain ⟨z, rfl, _⟩ := h
    rfl
  · obtain ⟨z, rfl, iz, k⟩ := h
    refine ⟨_, pss_cons (ps_if (PW.pt (pw_or (pt_not (pt_val (pe_callB call_isi (by rfl) B.isi (by decide +kernel) (pa_cons (pv 0) (pa_cons (pe_bltn (v := .ty "str") (by rfl) B.str (by decide +kernel) rfl) pa_nil)))))
        (pw_or1 (pt_not (pt_chain op_le op_le pe_int (pe_callB call_len_str (by rfl) B.len PySem.boot_len (pa_cons (pv 0) pa_nil)) (pe_glob (v := .int 8) rfl hM ⟨_, rfl⟩)))))) (pss_one (ps_ret pe_bl)) pss_nil)
      (pss_one (ps_ret (pe_callB (cr_all rfl) (by rfl) B.all (by decide +kernel) (pa_cons
        (pe_lc (own := [("letter", 1)]) (g := gName 1) (tt := tYes) rfl scIsItem.nd (pi_str (pv 0)) (blkOk_by (own := [("letter", 1)]) (N := ["value", "letter"]) (sc := defScope sIsItem) (by decide +kernel))
          (fun _ _ _ _ _ => pg_name (i := 1) scIsItem.nd rfl (.inl rfl)) (fun _ _ _ _ _ => pts_nil) (fun _ _ _ _ _ => pe_cmpR op_in_sign (pv 1) (pe_glob (v := .str abc) rfl hL ⟨_, rfl⟩) (by rfl))) pa_nil)))), ?_⟩
    refine ⟨_, rfl, _, .ty "str", .type "str", .type "str", true, rfl, .ty _, .base (.str z), kit_ty (by decide +kernel), true, rfl, iteF ?_⟩
    have p1 : (1 : Int) ≤ (z.length : Int) := by have := iz.pos; omega
    have p2 : (z.length : Int) ≤ 8 := by have := iz.most; omega
    refine ⟨_, rfl, z, rfl, Nat.le_of_lt (small1000 (by have := iz.most; omega)), 1, _, rfl, rfl, true, congrArg V.bl (decide_eq_true p1), iteT ⟨_, 8, rfl, rfl, true, congrArg V.bl (decide_eq_true p2), iteF ?_⟩⟩
    refine ⟨_, rfl, z, rfl, fun D hD => lc_it walk_str (fun j H2 => H2 D = some (.lst ((List.replicate j true).map V.bl)) ∧ Same H H2) ⟨upd_same, Same.new hD⟩ (fun _ _ _ _ => trivial) ?_ ?_⟩
    · rintro j x H2 H3 hj ⟨h2, s2⟩ ⟨rfl, c, hc, rfl⟩
      refine ⟨rfl, yes_in ⟨_, rfl, c, abc, rfl, rfl, _, h2, ?_, ?_, ?_⟩⟩
      · rw [List.length_map, List.length_replicate]
        have : j < z.length := hj
        have := iz.most
        exact small1000 (by omega)
      · have cm : c ∈ z.cps.toList := by
          have q : z.cps.toList[j]? = some c := by rw [Array.getElem?_toList]; exact hc
          exact List.mem_of_getElem? q
        rw [upd_same, decide_eq_true (abc_has (iz.low c cm)), bl_snoc]
      · exact Same.free2 s2 hD
    · rintro H2 ⟨h2, s2⟩
      refine ⟨D, _, rfl, .of h2, ?_⟩
      rw [all_true]
      exact k H2 s2
/-! ### is_word -/
def spIsWord (K : PySem.W.Frag) : Sp := fun xs H Q _ => ∃ (a : Addr) (zs : List Str), xs = [.ref a] ∧ SqT K H a (zs.map V.str) ∧ zs.length ≤ 5000 ∧ (∀ z ∈ zs, Item z) ∧ ∀ H', Same H H' → Q (.bl true) H'
theorem scIsWord : FnScope ["value", "item"] ["value"] (defScope sIsWord) := ⟨rfl, rfl, rfl, by decide +kernel, rfl, by decide +kernel, by decide +kernel⟩
theorem has_isWord (D : Def K mg "is_word" sIsWord) (G : Has P w K mg base "is_item" 1 ["value"] [] spIsItem) (B : Blt mg) : Has P w K mg base "is_word" 2 ["value"] [] (spIsWord K) := by
  refine has_of D scIsWord (fun _ _ _ _ _ _ us hl => match us, hl with | [_], _ => rfl) (fun xs H Q E h => ?_) (fun f cv A out s H xs Q E hr h => ?_)
  · obtain ⟨a, zs, rfl, _⟩ := h
    rfl
  · obtain ⟨a, zs, rfl, hT, hz, hI, k⟩ := h
    refine ⟨_, pss_one (ps_ret (pe_and (pe_callB call_isi (by rfl) B.isi (by decide +kernel) (pa_cons (pv 0) (pa_cons (pe_bltn (v := .ty "tuple") (by rfl) B.tup (by decide +kernel) rfl) pa_nil)))
      (pe_one (pe_callB (cr_all rfl) (by rfl) B.all (by decide +kernel) (pa_cons
        (pe_lc (own := [("item", 1)]) (g := gName 1) (tt := tYes) (te := tCall spIsItem [] E0 (tCons (tVar 1) tNil)) rfl scIsWord.nd (pi_tup (pv 0)) (blkOk_by (own := [("item", 1)]) (N := ["value", "item"]) (sc := defScope sIsWord) (by decide +kernel))
          (fun _ _ _ _ _ => pg_name (i := 1) scIsWord.nd rfl (.inl rfl)) (fun _ _ _ _ _ => pts_nil) (fun _ _ _ _ _ => pe_has G hr (pa_cons (pv 1) pa_nil))) pa_nil))))), ?_⟩
    refine ⟨_, rfl, _, .ty "tuple", .type "tuple", .type "tuple", true, rfl, .ty _, ty_tup hT, kit_ty (by decide +kernel), true, rfl, iteT ?_⟩
    refine ⟨_, rfl, a, rfl, ⟨_, hT⟩, fun D hD => lc_tup (K := K) (a := a) (xs := zs.map V.str) (fun j H2 => H2 D = some (.lst ((List.replicate j true).map V.bl)) ∧ Same H H2) ⟨upd_same, Same.new hD⟩ (fun _ _ _ q => Same.tup q.2 hT) ?_ ?_⟩
    · rintro j x H2 hj ⟨h2, s2⟩
      have jl : j < zs.length := by
        have := (List.getElem?_eq_some_iff.mp hj).1
        rwa [List.length_map] at this
      rw [List.getElem?_map, List.getElem?_eq_getElem jl] at hj
      have e := Option.some.inj hj
      subst e
      refine ⟨rfl, yes_in ⟨_, rfl, zs[j], rfl, hI _ (List.getElem_mem jl), fun H3 s3 => ⟨_, s3 _ _ h2, ?_, ?_, ?_⟩⟩⟩
      · rw [List.length_map, List.length_replicate]
        exact Nat.lt_of_lt_of_le jl (Nat.le_trans hz (by decide))
      · rw [upd_same, bl_snoc]
      · exact Same.free2 (s2.trans s3) hD
    · rintro H2 ⟨h2, s2⟩
      refine ⟨D, _, rfl, .of h2, ?_⟩
      rw [all_true]
      exact k H2 s2
/-! ### is_step -/
def spIsStep (K : PySem.W.Frag) : Sp := fun xs H Q _ => ∃ (v : V) (s : Stp), xs = [v] ∧ StepV K H v s ∧ Item s.2 ∧ ∀ H', Same H H' → Q (.bl true) H'
theorem scIsStep : FnScope ["value", "action", "item"] ["value"] (defScope sIsStep) := ⟨rfl, rfl, rfl, by decide +kernel, rfl, by decide +kernel, by decide +kernel⟩
theorem has_isStep (D : Def K mg "is_step" sIsStep) (G : Has P w K mg base "is_item" 1 ["value"] [] spIsItem) (B : Blt mg) (C : Cons K w mg) : Has P w K mg base "is_step" 2 ["value"] [] (spIsStep K) := by
  obtain ⟨d, es, n, u1, u2, hO, KD, n1, r1, n2, r2⟩ := C.opp
  refine has_of D scIsStep (fun _ _ _ _ _ _ us hl => match us, hl with | [_], _ => rfl) (fun xs H Q E h => ?_) (fun f cv A out s H xs Q E hr h => ?_)
  · obtain ⟨v, st, rfl, _⟩ := h
    rfl
  · obtain ⟨v, st, rfl, ⟨t, rfl, hT⟩, iz, k⟩ := h
    refine ⟨_, pss_cons (ps_if (PW.pt (pw_or (pt_not (pt_val (pe_callB call_isi (by rfl) B.isi (by decide +kernel) (pa_cons (pv 0) (pa_cons (pe_bltn (v := .ty "tuple") (by rfl) B.tup (by decide +kernel) rfl) pa_nil)))))
        (pw_or1 (pt_cmpR op_ne (pe_callB call_len_seq (by rfl) B.len PySem.boot_len (pa_cons (pv 0) pa_nil)) pe_int (nomark _))))) (pss_one (ps_ret pe_bl)) pss_nil)
      (pss_cons (ps_asg (pv 0) (pg_tup (by rfl) (pgs_cons (pg_name (i := 1) scIsStep.nd rfl (.inl rfl)) (pgs_cons (pg_name (i := 2) scIsStep.nd rfl (.inl rfl)) pgs_nil))))
      (pss_one (ps_ret (pe_and (pe_callB call_isi (by rfl) B.isi (by decide +kernel) (pa_cons (pv 1) (pa_cons (pe_bltn (v := .ty "str") (by rfl) B.str (by decide +kernel) rfl) pa_nil)))
        (pe_and (pe_cmpR (op_in_kd KD) (pv 1) (pe_glob (v := .ref d) rfl hO rfl) (by rfl)) (pe_one (pe_has G hr (pa_cons (pv 2) pa_nil)))))))), ?_⟩
    refine ⟨_, rfl, _, .ty "tuple", .type "tuple", .type "tuple", true, rfl, .ty _, ty_tup hT, kit_ty (by decide +kernel), true, rfl, iteF ?_⟩
    refine ⟨_, rfl, t, _, rfl, .inr hT, rfl, _, rfl, iteF ?_⟩
    refine ⟨_, rfl, t, _, rfl, hT, rfl, _, _, rfl, _, _, rfl, rfl, ?_⟩
    refine ⟨_, rfl, _, .ty "str", .type "str", .type "str", true, rfl, .ty _, .base (.str _), kit_ty (by decide +kernel), true, rfl, iteT ?_⟩
    have inO : ∃ r, PySem.W.nsIn K d (act st.1) = some r ∧ r.isSome = true := by
      cases e : st.1 with
      | true => exact ⟨some u1, n1, rfl⟩
      | false => exact ⟨some u2, n2, rfl⟩
    obtain ⟨r, hr1, hr2⟩ := inO
    refine ⟨_, rfl, act st.1, r, rfl, rfl, hr1, r.isSome, rfl, ?_⟩
    rw [hr2]
    exact iteT ⟨_, rfl, st.2, rfl, iz, k⟩
end
end SE
namespace SE
open PySem PySem.Spec PyProof.Rows L2
section
variable {P : Program} {w : World} {K : PySem.W.Frag} {mg : Str → Option Value} {base : Heap}
/-! ### may_hold_steps -/
def spMay (K : PySem.W.Frag) : Sp := fun xs H Q _ => ∃ (a : Addr) (ys : List V), xs = [.ref a] ∧ (SqL K H a ys ∨ SqT K H a ys) ∧ ys.length ≤ 1000 ∧ ∀ H', Same H H' → Q (.bl true) H'
theorem scMay : FnScope ["value"] ["value"] (defScope sMayHold) := ⟨rfl, rfl, rfl, by decide +kernel, rfl, by decide +kernel, by decide +kernel⟩
theorem has_may (D : Def K mg "may_hold_steps" sMayHold) (B : Blt mg) (C : Cons K w mg) : Has P w K mg base "may_hold_steps" 1 ["value"] [] (spMay K) := by
  obtain ⟨tm, hM⟩ := C.ms
  refine has_of D scMay (fun _ _ _ _ _ _ us hl => match us, hl with | [_], _ => rfl) (fun xs H Q E h => ?_) (fun f cv A out s H xs Q E hr h => ?_)
  · obtain ⟨a, ys, rfl, _⟩ := h
    rfl
  · obtain ⟨a, ys, rfl, hS, hl, k⟩ := h
    refine ⟨_, pss_one (ps_ret (pe_and (pe_callB call_isiT (by rfl) B.isi (by decide +kernel) (pa_cons (pv 0) (pa_cons (pe_tup (pa_cons (pe_bltn (v := .ty "list") (by rfl) B.lst (by decide +kernel) rfl) (pa_cons (pe_bltn (v := .ty "tuple") (by rfl) B.tup (by decide +kernel) rfl) pa_nil))) pa_nil)))
      (pe_one (pe_cmpR op_le (pe_callB call_len_seq (by rfl) B.len PySem.boot_len (pa_cons (pv 0) pa_nil)) (pe_glob (v := .int 1000) rfl hM ⟨_, rfl⟩) (nomark _))))), ?_⟩
    refine ⟨_, rfl, (by show 2 ≤ sizeLine; decide), fun t ht => ?_⟩
    have s1 : Same H (upd H t (.tup [.ty "list", .ty "tuple"])) := Same.new ht
    have p1 : (ys.length : Int) ≤ 1000 := by omega
    have ty : ∃ T, TyX K (upd H t (.tup [.ty "list", .ty "tuple"])) (.ref a) T ∧ PySem.W.kitAny K T [.type "list", .type "tuple"] = some true := by
      rcases hS with q | q
      · exact ⟨_, ty_lst (Same.seq s1 q), kitAny_cons (b := true) (kit_ty (by decide +kernel)) (fun z => (by cases z)) (fun _ => rfl)⟩
      · exact ⟨_, ty_tup (Same.tup s1 q), kitAny_cons (b := false) (kit_ty (by decide +kernel)) (fun _ => kitAny_cons (b := true) (kit_ty (by decide +kernel)) (fun z => (by cases z)) (fun _ => rfl)) (fun z => (by cases z))⟩
    obtain ⟨T, ty1, ty2⟩ := ty
    refine ⟨_, t, _, T, _, true, rfl, upd_same, .cons (.ty _) (.cons (.ty _) .nil), ty1, ty2, true, rfl, iteT ?_⟩
    refine ⟨_, rfl, a, ys, rfl, hS.imp (Same.seq s1) (Same.tup s1), _, 1000, rfl, rfl, ?_⟩
    show Q (V.bl (decide ((ys.length : Int) ≤ 1000))) _
    rw [decide_eq_true p1]
    exact k _ s1
/-! ### check_steps -/
def spChkSteps (K : PySem.W.Frag) : Sp := fun xs H Q _ => ∃ (a : Addr) (ys : List V) (ss : List Stp), xs = [.ref a] ∧ (SqL K H a ys ∨ SqT K H a ys) ∧ ys.length ≤ 1000 ∧ StepsV K H ys ss ∧ (∀ s ∈ ss, Item s.2) ∧ ∀ H', Same H H' → Q .non H'
theorem scChk : FnScope ["steps", "index", "step"] ["steps"] (defScope sChkSteps) := ⟨rfl, rfl, rfl, by decide +kernel, rfl, by decide +kernel, by decide +kernel⟩
theorem walk_enumT {K : PySem.W.Frag} {a : Addr} {xs : List V} : Walk (ItE K a) xs.length (fun H => SqT K H a xs) (YPair (fun i => some (.int (i : Nat))) (fun i => xs[i]?)) := by
  refine ⟨fun i _ hi q => ⟨xs, xs[i], q, by simp [hi]⟩, fun _ q => ⟨xs, q, Nat.le_refl _⟩, fun i H v H2 _ q y => ?_⟩
  obtain ⟨T, x, h1, h2, h3, h4⟩ := y
  exact ⟨T, .int (i : Nat), x, h1, h2, h3, rfl, h4 xs q⟩
theorem has_chkSteps (D : Def K mg "check_steps" sChkSteps) (GM : Has P w K mg base "may_hold_steps" 1 ["value"] [] (spMay K)) (GS : Has P w K mg base "is_step" 2 ["value"] [] (spIsStep K)) (B : Blt mg) : Has P w K mg base "check_steps" 3 ["steps"] [] (spChkSteps K) := by
  refine has_of D scChk (fun _ _ _ _ _ _ us hl => match us, hl with | [_], _ => rfl) (fun xs H Q E h => ?_) (fun f cv A out s H xs Q E hr h => ?_)
  · obtain ⟨a, ys, ss, rfl, _⟩ := h
    rfl
  · obtain ⟨a, ys, ss, rfl, hS, hl, hV, hI, k⟩ := h
    have hr1 : Room 1 _ := hr.mono (by decide)
    have one : ∀ {i : Nat} {y : V} {H2 : Hp}, ys[i]? = some y → Same H H2 → ∃ s, StepV K H2 y s ∧ Item s.2 := by
      intro i y H2 hy s2
      obtain ⟨st, h1, h2⟩ := StepsV.at hV hy
      exact ⟨st, h2.same s2, hI st (List.mem_of_getElem? h1)⟩
    rcases hS with hS | hS
    · refine ⟨_, pss_cons (ps_if (pt_not (pt_val (pe_has GM hr1 (pa_cons (pv 0) pa_nil)))) pss_never pss_nil)
        (pss_one (ps_for PassesOwn.never rfl (pi_enum (by rfl) B.enu (pa_cons (pv 0) pa_nil)) (pg_tup (by rfl) (pgs_cons (pg_name (i := 1) scChk.nd rfl (.inl rfl)) (pgs_cons (pg_name (i := 2) scChk.nd rfl (.inl rfl)) pgs_nil)))
          (pss_one (ps_if (pt_not (pt_val (pe_has GS hr (pa_cons (pv 2) pa_nil)))) pss_never pss_nil)))), ?_⟩
      refine ⟨_, rfl, a, ys, rfl, .inl hS, hl, fun H1 s1 => ⟨true, rfl, iteF ?_⟩⟩
      refine ⟨_, rfl, a, ys, rfl, Same.seq s1 hS, for_it (walk_enum (K := K) (a := a) (xs := ys)) (fun i σ H2 => ∃ y1 y2, σ = [some (.ref a), y1, y2] ∧ Same H H2) ⟨none, none, rfl, s1⟩ (fun i σ H2 _ q => ?_) ?_ ?_⟩
      · obtain ⟨_, _, _, s2⟩ := q
        exact Same.seq s2 hS
      · rintro i x σ H2 H3 hi ⟨y1, y2, rfl, s2⟩ ⟨T, p, y, rfl, nT, rfl, hp, hy⟩
        refine ⟨T, _, rfl, .of upd_same, rfl, _, _, rfl, _, _, rfl, rfl, ?_⟩
        have s3 : Same H (upd H2 T (.tup [p, y])) := Same.free2 s2 (s2.free nT)
        obtain ⟨st, h1, h2⟩ := one hy s3
        exact ⟨_, rfl, y, st, rfl, h1, h2, fun H4 s4 => ⟨true, rfl, iteF ⟨_, _, rfl, s3.trans s4⟩⟩⟩
      · rintro σ H2 ⟨y1, y2, rfl, s2⟩
        exact k H2 s2
    · refine ⟨_, pss_cons (ps_if (pt_not (pt_val (pe_has GM hr1 (pa_cons (pv 0) pa_nil)))) pss_never pss_nil)
        (pss_one (ps_for PassesOwn.never rfl (pi_enumT (by rfl) B.enu (pa_cons (pv 0) pa_nil)) (pg_tup (by rfl) (pgs_cons (pg_name (i := 1) scChk.nd rfl (.inl rfl)) (pgs_cons (pg_name (i := 2) scChk.nd rfl (.inl rfl)) pgs_nil)))
          (pss_one (ps_if (pt_not (pt_val (pe_has GS hr (pa_cons (pv 2) pa_nil)))) pss_never pss_nil)))), ?_⟩
      refine ⟨_, rfl, a, ys, rfl, .inr hS, hl, fun H1 s1 => ⟨true, rfl, iteF ?_⟩⟩
      refine ⟨_, rfl, a, ys, rfl, Same.tup s1 hS, for_it (walk_enumT (K := K) (a := a) (xs := ys)) (fun i σ H2 => ∃ y1 y2, σ = [some (.ref a), y1, y2] ∧ Same H H2) ⟨none, none, rfl, s1⟩ (fun i σ H2 _ q => ?_) ?_ ?_⟩
      · obtain ⟨_, _, _, s2⟩ := q
        exact Same.tup s2 hS
      · rintro i x σ H2 H3 hi ⟨y1, y2, rfl, s2⟩ ⟨T, p, y, rfl, nT, rfl, hp, hy⟩
        refine ⟨T, _, rfl, .of upd_same, rfl, _, _, rfl, _, _, rfl, rfl, ?_⟩
        have s3 : Same H (upd H2 T (.tup [p, y])) := Same.free2 s2 (s2.free nT)
        obtain ⟨st, h1, h2⟩ := one hy s3
        exact ⟨_, rfl, y, st, rfl, h1, h2, fun H4 s4 => ⟨true, rfl, iteF ⟨_, _, rfl, s3.trans s4⟩⟩⟩
      · rintro σ H2 ⟨y1, y2, rfl, s2⟩
        exact k H2 s2
/-! ### check_word, is_limit, check_limit, check_run, is_too_high -/
def spChkWord (K : PySem.W.Frag) : Sp := fun xs H Q _ => ∃ (a : Addr) (zs : List Str), xs = [.ref a] ∧ SqT K H a (zs.map V.str) ∧ zs.length ≤ 5000 ∧ (∀ z ∈ zs, Item z) ∧ ∀ H', Same H H' → Q .non H'
theorem scCw : FnScope ["word"] ["word"] (defScope sChkWord) := ⟨rfl, rfl, rfl, by decide +kernel, rfl, by decide +kernel, by decide +kernel⟩
theorem has_chkWord (D : Def K mg "check_word" sChkWord) (G : Has P w K mg base "is_word" 2 ["value"] [] (spIsWord K)) : Has P w K mg base "check_word" 3 ["word"] [] (spChkWord K) := by
  refine has_of D scCw (fun _ _ _ _ _ _ us hl => match us, hl with | [_], _ => rfl) (fun xs H Q E h => ?_) (fun f cv A out s H xs Q E hr h => ?_)
  · obtain ⟨a, zs, rfl, _⟩ := h
    rfl
  · obtain ⟨a, zs, rfl, hT, hz, hI, k⟩ := h
    refine ⟨_, pss_one (ps_if (pt_not (pt_val (pe_has G hr (pa_cons (pv 0) pa_nil)))) pss_never pss_nil), ?_⟩
    exact ⟨_, rfl, a, zs, rfl, hT, hz, hI, fun H1 s1 => ⟨true, rfl, iteF (k H1 s1)⟩⟩
end
end SE
namespace SE
open PySem PySem.Spec PyProof.Rows L2
/-- a def with keyword-only defaults alone -/
def DefK (K : PySem.W.Frag) (mg : Str → Option Value) (x : Str) (st : Stmt) (kws : List (Str × V)) : Prop := ∃ f fd, Fun K x x st f fd ∧ FunD K x x (defArgs st) (defBody st) (defScope st) [] kws f fd ∧ mg x = some (.ref f)
end SE
namespace SE
open PySem PySem.Spec PyProof.Rows L2
section
variable {P : Program} {w : World} {K : PySem.W.Frag} {mg : Str → Option Value} {base : Heap}
/-! ### is_whole, is_between, check_between -/
def spWhole : Sp := fun xs H Q _ => ∃ n : Int, xs = [.int n] ∧ Q (.bl true) H
theorem scWh : FnScope ["value"] ["value"] (defScope sIsWhole) := ⟨rfl, rfl, rfl, by decide +kernel, rfl, by decide +kernel, by decide +kernel⟩
theorem has_whole (D : Def K mg "is_whole" sIsWhole) (B : Blt mg) (mi : mg "int" = none) (mb : mg "bool" = none) : Has P w K mg base "is_whole" 1 ["value"] [] spWhole := by
  refine has_of D scWh (fun _ _ _ _ _ _ us hl => match us, hl with | [_], _ => rfl) (fun xs H Q E h => ?_) (fun f cv A out s H xs Q E hr h => ?_)
  · obtain ⟨n, rfl, _⟩ := h
    rfl
  · obtain ⟨n, rfl, k⟩ := h
    refine ⟨_, pss_one (ps_ret (pe_and (pe_callB call_isi (by rfl) B.isi (by decide +kernel) (pa_cons (pv 0) (pa_cons (pe_bltn (v := .ty "int") (by rfl) mi (by decide +kernel) rfl) pa_nil)))
      (pe_one (pe_not (pe_callB call_isi (by rfl) B.isi (by decide +kernel) (pa_cons (pv 0) (pa_cons (pe_bltn (v := .ty "bool") (by rfl) mb (by decide +kernel) rfl) pa_nil))))))), ?_⟩
    refine ⟨_, rfl, _, .ty "int", .type "int", .type "int", true, rfl, .ty _, .base (.int n), kit_ty (by decide +kernel), true, rfl, iteT ?_⟩
    exact ⟨_, rfl, _, .ty "bool", .type "int", .type "bool", false, rfl, .ty _, .base (.int n), kit_ty (by decide +kernel), false, rfl, k⟩
end
end SE
/-! (x,) * n for n up to 5000. -/
namespace SE
open PySem PySem.Spec PyProof.Rows L2
def rRepB (K : PySem.W.Frag) : R2 := fun x y H Q => ∃ (l : Addr) (k : Int) (v : V), x = .ref l ∧ y = .int k ∧ SqT K H l [v] ∧ 2 ≤ k ∧ k ≤ 5000 ∧ ∀ p, H p = none → Q (.ref p) (upd H p (.tup (List.replicate k.toNat v)))
theorem op_repB {X : Cx} : OpR X (binaryOp .Mult) (rRepB X.K) := by
  intro pins s σ H x y a u Q I rx ry h
  obtain ⟨l, k, v, rfl, rfl, hT, h1, h2, q⟩ := h
  cases rx
  obtain ⟨t, rfl⟩ := ry
  obtain ⟨its, r, ⟨⟨cls, dd, data, sl⟩, ho, hc, n, hd⟩, hs⟩ := I.tuple hT
  simp only at hc hd
  subst hc hd
  obtain ⟨w, rfl⟩ : ∃ w, its = [w] := by
    cases r with
    | cons r1 r2 =>
      cases r2
      exact ⟨_, rfl⟩
  have sz : (([w] : List Value).toArray.size : Int) * k = k := by
    show ((1 : Nat) : Int) * k = k
    omega
  have rep : ∀ {α : Type} (z : α), (List.replicate k.toNat [z]).flatten = List.replicate k.toNat z := fun z => List.flatten_replicate_singleton
  have big : k.toNat ≤ sizeLine := by
    rw [sizeLine_eq]
    omega
  refine wpAny_binaryOp_repeat_ref (T := "tuple") (U := "int") (by decide) ⟨_, ho, rfl⟩ (fun s2 => typeIs_int s2 k t) noFill_tuple_mul F.fills_int_mul F.slot_int_rmul repeat_tuple F.slot_int_index.lookup ?_
  refine call_meets F.slot_int_rmul (typeIs_int s k t) F.entry_int_rmul (F.args_int_rmul_2 _ _) (int_rmul_tuple k t l _ n dd sl) ⟨ho, rfl, ⟨_, ho, rfl⟩, ?_⟩
  refine call_meets F.slot_tuple_mul ⟨_, ho, rfl⟩ F.entry_tuple_mul (F.args_tuple_mul_2 _ _) (tuple_mulW l _ n dd sl k t ?_ ?_ ?_ ?_ ?_ ?_) ⟨ho, ?_⟩
  · rw [decide_eq_false (by omega), decide_eq_false (by omega)]
    rfl
  · show (false || k == 1) = false
    rw [Bool.false_or]
    exact beq_eq_false_iff_ne.mpr (by omega)
  · show (decide (k ≤ 0) || false) = false
    rw [Bool.or_false]
    exact decide_eq_false (by omega)
  · rw [sz]
    omega
  · rw [sz]
    unfold Builtin.Tuple.tupleTooMany
    rw [sizeLine_eq]
    exact decide_eq_false (by omega)
  · rw [size_rep, List.size_toArray, rep, List.length_replicate]
    exact big
  · rw [size_rep, rep]
    refine ⟨.ref s.heap.objs.size, _, I.laid (t' := s.toks) (o := .tup (List.replicate k.toNat v)) (fun b ob e => Heap.get?_push_of_some _ e) (Nat.le_refl _) ?_, rfl, q _ (I.hok.fresh (Nat.le_refl _))⟩
    refine ⟨by rw [List.length_replicate]; exact big, _, ?_, IsTup.new _ _⟩
    have z := r.rep k.toNat
    rw [rep, rep] at z
    exact z
end SE
/-! Tuples: t * n, t + u, t[a:b] whichever object comes out; len(set(t)) of texts. -/
namespace SE
open PySem PySem.Spec PyProof.Rows L2
section
variable {X : Cx}
theorem tmul_one (l : Addr) (w : Value) (n : Nat) (dd : Option Addr) (sl : Array (Option Value)) (u : Tok) :
    Meets (Builtin.«tuple.__mul__» ⟨[.ref l, .int 1 u], []⟩) (fun _ R s => s.heap.get? l = some { cls := .type "tuple", dict := dd, data := .seq #[w] n, slots := sl } ∧ R (.ok (.ret (Value.ref l))) s) :=
  .of_wp fun prog wd A R s h => by
    obtain ⟨hp, g, d, tk, os⟩ := s
    obtain ⟨hl, h⟩ := h
    have f1 := AutoSeq1.idx_int
    wp_walk using AutoSeq1.wpAny_loadPart' hl
    exact ⟨_, rfl, h⟩
theorem tmul_none (l : Addr) (w : Value) (n : Nat) (dd : Option Addr) (sl : Array (Option Value)) (k : Int) (u : Tok) (h0 : -1000000 ≤ k) (h1 : k ≤ 0) :
    Meets (Builtin.«tuple.__mul__» ⟨[.ref l, .int k u], []⟩) (fun _ R s => s.heap.get? l = some { cls := .type "tuple", dict := dd, data := .seq #[w] n, slots := sl } ∧
      R (.ok (.ret (Value.ref s.heap.objs.size))) { s with heap := s.heap.push { cls := .type "tuple", data := .seq #[] } }) :=
  .of_wp fun prog wd A R s h => by
    obtain ⟨hp, g, d, tk, os⟩ := s
    obtain ⟨hl, h⟩ := h
    have f1 := AutoSeq1.idx_int
    have c0 : (decide (k < -(2 ^ 63)) || decide (k ≥ 2 ^ 63)) = false := by
      rw [decide_eq_false (by omega), decide_eq_false (by omega)]
      rfl
    have c1 : ((#[w] : Array Value).isEmpty || k == 1) = false := by
      show (false || k == 1) = false
      rw [Bool.false_or]
      exact beq_eq_false_iff_ne.mpr (by omega)
    have c2 : (decide (k ≤ 0) || (#[w] : Array Value).isEmpty) = true := by
      rw [decide_eq_true h1]
      rfl
    wp_walk using AutoSeq1.wpAny_loadPart' hl
    repeat (first
      | (refine wpAny_ite_false (decide_eq_false (by rw [c0]; exact Bool.false_ne_true)) ?_; wp_walk using AutoSeq1.wpAny_loadPart' hl)
      | (refine wpAny_ite_false (decide_eq_false (by rw [c1]; exact Bool.false_ne_true)) ?_; wp_walk using AutoSeq1.wpAny_loadPart' hl)
      | (refine wpAny_ite_true (decide_eq_true (by rw [c2])) ?_; wp_walk using AutoSeq1.wpAny_loadPart' hl))
    exact ⟨_, rfl, h⟩
/-- (x,) * k, any k -/
def rRepS (K : PySem.W.Frag) : R2 := fun x y H Q => ∃ (l : Addr) (k : Int) (v : V), x = .ref l ∧ y = .int k ∧ SqT K H l [v] ∧ -1000000 ≤ k ∧ k ≤ 5000 ∧ ∀ (p : Addr) (H' : Hp), Same H H' → SqT K H' p (List.replicate k.toNat v) → Q (.ref p) H'
theorem op_repS : OpR X (binaryOp .Mult) (rRepS X.K) := by
  intro pins s σ H x y a u Q I rx ry h
  obtain ⟨l, k, v, rfl, rfl, hT, h1, h2, q⟩ := h
  by_cases c : 2 ≤ k
  · exact op_repB pins s σ H _ _ a u Q I rx ry ⟨l, k, v, rfl, rfl, hT, c, h2, fun p hp => q p _ (Same.new hp) (.of upd_same)⟩
  cases rx
  obtain ⟨t, rfl⟩ := ry
  obtain ⟨its, r, ⟨⟨cls, dd, data, sl⟩, ho, hc, n, hd⟩, hs⟩ := I.tuple hT
  simp only at hc hd
  subst hc hd
  obtain ⟨w, rfl⟩ : ∃ w, its = [w] := by
    cases r with
    | cons r1 r2 =>
      cases r2
      exact ⟨_, rfl⟩
  refine wpAny_binaryOp_repeat_ref (T := "tuple") (U := "int") (by decide) ⟨_, ho, rfl⟩ (fun s2 => typeIs_int s2 k t) noFill_tuple_mul F.fills_int_mul F.slot_int_rmul repeat_tuple F.slot_int_index.lookup ?_
  refine call_meets F.slot_int_rmul (typeIs_int s k t) F.entry_int_rmul (F.args_int_rmul_2 _ _) (int_rmul_tuple k t l _ n dd sl) ⟨ho, rfl, ⟨_, ho, rfl⟩, ?_⟩
  by_cases c1 : k = 1
  · subst c1
    refine call_meets F.slot_tuple_mul ⟨_, ho, rfl⟩ F.entry_tuple_mul (F.args_tuple_mul_2 _ _) (tmul_one l w n dd sl t) ⟨ho, ?_⟩
    exact ⟨.ref l, H, I, rfl, q l H (Same.refl H) hT⟩
  · have k0 : k ≤ 0 := by omega
    refine call_meets F.slot_tuple_mul ⟨_, ho, rfl⟩ F.entry_tuple_mul (F.args_tuple_mul_2 _ _) (tmul_none l w n dd sl k t h1 k0) ⟨ho, ?_⟩
    refine ⟨.ref s.heap.objs.size, _, I.laid (t' := s.toks) (o := .tup []) (fun b ob e => Heap.get?_push_of_some _ e) (Nat.le_refl _) ?_, rfl, q _ _ (Same.new (I.hok.fresh (Nat.le_refl _))) ?_⟩
    · exact ⟨Nat.zero_le _, [], .nil, IsTup.new _ _⟩
    · rw [show k.toNat = 0 by omega]
      exact .of upd_same
/-- t + u -/
def rCatS (K : PySem.W.Frag) : R2 := fun x y H Q => ∃ (a b : Addr) (xs ys : List V), x = .ref a ∧ y = .ref b ∧ SqT K H a xs ∧ SqT K H b ys ∧ xs.length + ys.length ≤ sizeLine ∧ ∀ (p : Addr) (H' : Hp), Same H H' → SqT K H' p (xs ++ ys) → Q (.ref p) H'
theorem op_catS : OpR X (binaryOp .Add) (rCatS X.K) := by
  intro pins s σ H x y v u Q I rx ry h
  obtain ⟨a, b, xs, ys, rfl, rfl, ha, hb, hz, q⟩ := h
  refine op_catA pins s σ H _ _ v u Q I rx ry ⟨a, b, xs, ys, rfl, rfl, ha, hb, hz, fun e => ?_, fun _ e => ?_, fun _ _ p hp => q p _ (Same.new hp) (.of upd_same)⟩
  · subst e
    exact q b H (Same.refl H) hb
  · subst e
    exact q a H (Same.refl H) (by rw [List.append_nil]; exact ha)
/-- t[lo:hi] -/
def rSlS (K : PySem.W.Frag) : V → Option Int → Option Int → Hp → VK → Prop := fun x lo hi H Q => ∃ (a : Addr) (xs : List V), x = .ref a ∧ SqT K H a xs ∧ ∀ (p : Addr) (H' : Hp), Same H H' → SqT K H' p (cutV xs lo hi) → Q (.ref p) H'
theorem sl_tupS : SlR X (rSlS X.K) := by
  intro pins s σ H x v vl vu lo hi sl Q I rx hs pl pu h
  obtain ⟨a, xs, rfl, hx, q⟩ := h
  refine sl_tupA pins s σ H _ v vl vu lo hi sl Q I rx hs pl pu ⟨a, xs, rfl, hx, fun e => q a H (Same.refl H) ?_, fun _ p hp => q p _ (Same.new hp) (.of upd_same)⟩
  have e2 : cutV xs lo hi = xs := by
    unfold cutV
    rw [e.1, e.2, List.drop_zero, Nat.sub_zero, List.take_length]
  rw [e2]
  exact hx
end
end SE
/-! A for in a generator's body; a generator def called with keywords. -/
namespace SE
open PySem PySem.Spec PyProof.Rows L2 GenW
section
variable {X : Cx}
def tGFor (wi : TI) (g : TG) (tb : TGn) : TGn := fun D ys σ H => wi σ H fun J H1 => ∃ W : Nat → Nat → List V → L2.St → Hp → Prop, (∃ m, W 0 m ys σ H1) ∧ ∀ i m ys σ H, W i m ys σ H →
  (J.stop i H ∧ D.nx ys σ H) ∨ (J.go i H ∧ ∃ N : List V → L2.St → Hp → Prop, (∀ zs σ2 H2, N zs σ2 H2 → ∃ j, j < m ∧ W (i + 1) j zs σ2 H2) ∧ ∀ x H2, J.yld i H x H2 → g x σ H2 fun σ3 H3 => tb { D with nx := N, ct := N, bk := D.nx } ys σ3 H3)
theorem gs_for {tg iter : Expr} {body : List Stmt} {pos : Pos} {wi : TI} {g : TG} {tb : TGn} (hp : PassesOwn (model X.prog X.w) X.A X.env X.xe) (hc : X.calm = true) (hi : PI X tg iter wi) (hg : PG X tg g) (hb : GSs X body tb)
    (hs : ∀ x, foldedSetIterable iter X.env x = pure x := by intro _; rfl) : GS X (.For tg iter body [] pos) (tGFor wi g tb) := by
  constructor
  intro A S ip R n ys s₀ c fs K J gd lv s σ H D gc hn k hI ht
  obtain ⟨acc, cc, r, I⟩ := hI
  rw [exec_For]
  refine seg_bind_wrap (wpAny_standAt ?_)
  refine seg_bind_wrap ?_
  rw [gc.over]
  refine wpAny_mono (hi.run _ s σ H _ I ht) (fun v s1 h1 => ?_) fun x s2 hx => k.exc n s₀ x s2 hx
  refine seg_bind_wrap (wpAny_of_eq (hs v) ?_)
  refine seg_bind_wrap (wpAny_standAt ?_)
  refine seg_bind_wrap (wpAny_holding ?_)
  rw [gc.over]
  refine wpAny_mono h1 (fun itv s2 h2 => ?_) fun x s3 hx => k.exc n s₀ x s3 hx
  obtain ⟨it, fp, tn, Jt, H2, e2, I2, T, st2, f2, W, ⟨m0, w0⟩, turn⟩ := h2
  subst e2
  refine seg_call fun p => ?_
  have gl := fun (kk : Result → Sem PySem.Fin) => gc_loop (X := X) (k := kk) (c' := .forLoop tg (.ref it) body [] X.env) (l := lv []) (kp := []) (p := p) gc rfl rfl
  have apart : ∀ b ∈ fp, b ≠ S := fun b hb z => by
    obtain ⟨_, _, _, _, _, q⟩ := f2 b hb
    exact q (S, lstObj acc cc) (List.mem_append_right _ List.mem_cons_self) z.symm
  have fpok : ∀ {acc2 : Array Value} {c2 : Nat} {H3 : Hp}, (∀ b ∈ fp, H3 b = none) → ∀ b ∈ fp, FpOk X ((S, lstObj acc2 c2) :: ip) H3 b := by
    intro acc2 c2 H3 hn3 b hb
    obtain ⟨_, a2, a3, a4, a5, a6⟩ := f2 b hb
    refine ⟨hn3 b hb, a2, a3, a4, a5, fun q hq => ?_⟩
    rcases List.mem_append.mp hq with z | z
    · exact a6 q (List.mem_append_left _ z)
    · rcases List.mem_cons.mp z with y | y
      · rw [y]
        exact Ne.symm (apart b hb)
      · exact a6 q (List.mem_append_right _ (List.mem_cons_of_mem _ y))
  have loop : ∀ (m n i : Nat) (ys : List V) (s₀ s : Shared) (σ : L2.St) (H : Hp), n + ys.length = sizeLine → W i m ys σ H → GI X S ip ys σ H s → tn i s.heap → (∀ b ∈ fp, H b = none) →
      Seg (model X.prog X.w) A R (GY X S) n s₀ (.forLoop tg (.ref it) body [] X.env) ((model X.prog X.w).den (.forLoop tg (.ref it) body [] X.env))
        (.ret (fun r => ((match r with | .ok f => (.pure f : Sem Flow) | .error e => .raise e).onRaise (cameBack X.env)).wrap K J gd lv) none (gd false) (lv []) c p [] :: fs) s := by
    intro m
    induction m using Nat.strongRecOn with
    | ind m ih =>
      intro n i ys s₀ s σ H hn w hI st fr
      have ee : ∀ (n : Nat) (s₀ : Shared) (x : Value) (s4 : Shared), X.xe x s4 → Seg (model X.prog X.w) A R (GY X S) n s₀ (.forLoop tg (.ref it) body [] X.env)
          ((do noteFrame x X.env; theTreesLotGoes x : Sem Unit).bind fun _ => .raise x)
          (.ret (fun r => ((match r with | .ok f => (.pure f : Sem Flow) | .error e => .raise e).onRaise (cameBack X.env)).wrap K J gd lv) none (gd false) (lv []) c p [] :: fs) s4 := fun n s₀ x s4 hx => by
        rw [Sem.bind_eq_wrap]
        refine seg_wrap ?_
        rw [(gl _).over]
        refine wpAny_bind (wpAny_mono (hp x s4 hx) (fun _ s5 hcb => wpAny_theTreesLotGoes ?_) fun y s5 hcb => ?_)
        · exact seg_leaf (.error x) (seg_cameBack gc k hcb)
        · exact seg_leaf (.error y) (seg_cameBack gc k hcb)
      show Seg _ A R _ n s₀ _ ((forTurn tg (.ref it) body [] X.env).onRaise (fun x => do noteFrame x X.env; theTreesLotGoes x)) _ s
      unfold forTurn
      rw [Sem.onRaise_eq_wrap]
      refine seg_bind_wrap (wpAny_standAt ?_)
      refine seg_bind_wrap ?_
      rw [(gl _).over]
      obtain ⟨acc3, c3, r3, I3⟩ := hI
      rcases turn i m ys σ H w with ⟨stop, qn⟩ | ⟨go, N, hN, step⟩
      · refine wpAny_onRaise (wpAny_mono (T.done X rfl rfl rfl hc i _ s σ H X.xe I3 (fpok fr) st stop) (fun rr s4 hh => ?_) fun x s4 hx => wpAny_standAt (ee n s₀ x s4 hx))
        obtain ⟨hr, I4⟩ := hh
        subst hr
        refine seg_again rfl ?_
        show Seg _ A R _ n s₀ _ (do return Fin.done (← (execs [] X.env).onRaise (fun x => do noteFrame x X.env; theTreesLotGoes x))) _ s4
        exact seg_leaf (.ok .next) (k.ok n ys s₀ s4 .next hn ⟨σ, H, ⟨acc3, c3, r3, I4⟩, qn⟩)
      · refine wpAny_onRaise (wpAny_mono (T.item X rfl rfl rfl hc i _ s σ H X.xe I3 (fpok fr) st go) (fun rr s4 hh => ?_) fun x s4 hx => wpAny_standAt (ee n s₀ x s4 hx))
        obtain ⟨u, hr, h4⟩ := hh
        subst hr
        refine seg_bind_wrap ?_
        rw [(gl _).over]
        refine wpAny_mono h4 (fun _ s5 hh => ?_) fun x s5 hx => ee n s₀ x s5 hx
        obtain ⟨x, H5, I5, r5, y5, st5, fr5⟩ := hh
        have I6 := I5.pinned (fpok fr5) (T.obj _ _ st5)
        refine seg_bind_wrap ?_
        rw [(gl _).over]
        refine wpAny_mono (hg.run _ s5 σ H5 x u _ I6 r5 (step x H5 y5)) (fun _ s6 hh => ?_) fun x s6 hx => ee n s₀ x s6 hx
        obtain ⟨σ6, H6, I7, q6⟩ := hh
        have gb : GC X S (ip ++ pinsAt fp s5.heap) A (.forLoop tg (.ref it) body [] X.env) (.ret (fun r => ((match r with | .ok f => (.pure f : Sem Flow) | .error e => .raise e).onRaise (cameBack X.env)).wrap K J gd lv) none (gd false) (lv []) c p [] :: fs) id := by
          have q := gl (fun r => ((match r with | .ok f => (.pure f : Sem Flow) | .error e => .raise e).onRaise (cameBack X.env)).wrap K J gd lv)
          refine ⟨q.pn, fun z hz => ?_, q.apart, q.over, q.split, q.guard, q.gd⟩
          rcases List.mem_append.mp hz with y | y
          · exact q.ip z y
          · exact apart z.1 (of_pinsAt y).1
        rw [Sem.bind_eq_wrap', Sem.wrap_wrap]
        refine hb.run A S (ip ++ pinsAt fp s5.heap) R n ys s₀ _ _ _ _ id id s6 σ6 H6 { D with nx := N, ct := N, bk := D.nx } gb hn ⟨fun n2 zs s7 s8 f hn2 hs8 => ?_, fun n2 s7 x s8 hx => ee n2 s7 x s8 hx⟩ ⟨acc3, c3, r3, I7⟩ q6
        have again : ∀ {σ8 : L2.St} {H8 : Hp}, GI X S (ip ++ pinsAt fp s5.heap) zs σ8 H8 s8 → N zs σ8 H8 → Seg (model X.prog X.w) A R (GY X S) n2 s7 (.forLoop tg (.ref it) body [] X.env) ((model X.prog X.w).den (.forLoop tg (.ref it) body [] X.env))
            (.ret (fun r => ((match r with | .ok f => (.pure f : Sem Flow) | .error e => .raise e).onRaise (cameBack X.env)).wrap K J gd lv) none (gd false) (lv []) c p [] :: fs) s8 := by
          intro σ8 H8 G8 n8
          obtain ⟨j, hj, w8⟩ := hN zs σ8 H8 n8
          obtain ⟨acc8, c8, r8, I8⟩ := G8
          have pin8 : ∀ b ∈ fp, ∀ o, s5.heap.get? b = some o → s8.heap.get? b = some o ∧ H8 b = none := fun b hb o e => by
            have q := I8.pin (b, o) (List.mem_append_right _ (List.mem_cons_of_mem _ (List.mem_append_right _ (mem_pinsAt hb e))))
            exact ⟨q.1, q.2.1⟩
          refine ih j hj n2 (i + 1) zs s7 s8 σ8 H8 hn2 w8 ⟨acc8, c8, r8, I8.pins_of fun q hq => I8.pin q (List.mem_append_right _ ?_)⟩ (T.keep _ _ _ st5 fun b hb o e => (pin8 b hb o e).1) fun b hb => ?_
          · rcases List.mem_cons.mp hq with y | y
            · rw [y]
              exact List.mem_cons_self
            · exact List.mem_cons_of_mem _ (List.mem_append_left _ y)
          · obtain ⟨o, e, _⟩ := T.obj _ _ st5 b hb
            exact (pin8 b hb o e).2
        have thin : ∀ {σ8 : L2.St} {H8 : Hp}, GI X S (ip ++ pinsAt fp s5.heap) zs σ8 H8 s8 → GI X S ip zs σ8 H8 s8 := by
          intro σ8 H8 G8
          obtain ⟨acc8, c8, r8, I8⟩ := G8
          refine ⟨acc8, c8, r8, I8.pins_of fun q hq => I8.pin q (List.mem_append_right _ ?_)⟩
          rcases List.mem_cons.mp hq with y | y
          · rw [y]
            exact List.mem_cons_self
          · exact List.mem_cons_of_mem _ (List.mem_append_left _ y)
        cases f with
        | next =>
          obtain ⟨σ8, H8, G8, n8⟩ := hs8
          exact seg_again rfl (again G8 n8)
        | cont =>
          obtain ⟨σ8, H8, G8, n8⟩ := hs8
          exact seg_again rfl (again G8 n8)
        | brk =>
          obtain ⟨σ8, H8, G8, n8⟩ := hs8
          exact seg_leaf (.ok .next) (k.ok n2 zs s7 s8 .next hn2 ⟨σ8, H8, thin G8, n8⟩)
        | ret v =>
          obtain ⟨x8, σ8, H8, G8, r8, n8⟩ := hs8
          exact seg_leaf (.ok (.ret v)) (k.ok n2 zs s7 s8 (.ret v) hn2 ⟨x8, σ8, H8, thin G8, r8, n8⟩)
  exact loop m0 n 0 ys s₀ s2 σ H2 hn w0 ⟨acc, cc, r, I2⟩ st2 fun b hb => (f2 b hb).1
end
end SE
/-! Calls by keywords. -/
namespace SE
open PySem PySem.Spec PyProof.Rows L2 GenW
section
variable {K : PySem.W.Frag} {x qual : Str} {params : Arguments} {body : List Stmt} {scope : Scope} {kws : List (Str × V)} {f : Addr} {fd : FuncData} {ps : List Str}
/-- keyword-only defaults alone; ms: those that lack -/
theorem kb_some (F : FunD K x qual params body scope [] kws f fd) (n : Nat) (ks : List Str) (ms : List (Str × V)) (g : {α : Type} → List α → List α → List α → List α) (hk : kws ≠ []) (hms : ∀ q ∈ ms, q ∈ kws)
    (hrel : ∀ {vs mz zs : List V} {us mv ws : List Value}, Vals vs us → Vals mz mv → Vals zs ws → Vals (g vs mz zs) (g us mv ws))
    (h : ∀ (D : Addr) (doc pm : Value) (an : Option Addr) (cv ct : Value) (us mv ws : List Value), us.length = n → mv.length = ms.length → ws.length = ks.length →
      KwChain D ((ms.map (·.1)).zip mv) (bindArgs (PySem.W.fnOf x qual params body scope .none (.ref D) doc pm an cv ct) ⟨us, ks.zip ws⟩) (ps.zip (g us mv ws))) :
    ∃ mv : List Value, KBn K fd ps n ks (fun us ws => g us mv ws) (fun vs zs => g vs (ms.map (·.2)) zs) := by
  obtain ⟨oc, od, dV, kV, doc, pm, an, cv, ct, osl, rfl, look, hc, hD, hK⟩ := F.ex
  rcases hD with ⟨_, rfl⟩ | ⟨e, _⟩
  · rcases hK with e | ⟨D, rfl, hq⟩
    · exact absurd e hk
    · obtain ⟨mv, hl, rk, hks⟩ := kwd_vals (ms := ms) fun q hm => hq q (hms q hm)
      exact ⟨mv, fun s us ws X l1 l2 => BindsTo.of_looks fun M => KwChain.looks X hks (h D doc pm an cv ct us mv ws l1 hl l2), fun r1 r2 => hrel r1 rk r2⟩
  · exact absurd rfl e
theorem kb_all {st : Stmt} (F : Fun K x qual st f fd) (n : Nat) (ks : List Str) (g : {α : Type} → List α → List α → List α)
    (hrel : ∀ {vs zs : List V} {us ws : List Value}, Vals vs us → Vals zs ws → Vals (g vs zs) (g us ws))
    (h : ∀ (kV doc pm : Value) (an : Option Addr) (cv ct : Value) (us ws : List Value), us.length = n → ws.length = ks.length → bindArgs (PySem.W.fnOf x qual (defArgs st) (defBody st) (defScope st) .none kV doc pm an cv ct) ⟨us, ks.zip ws⟩ = pure (ps.zip (g us ws))) :
    KBn K fd ps n ks (fun us ws => g us ws) (fun vs zs => g vs zs) := by
  obtain ⟨oc, od, kV, doc, pm, an, cv, ct, osl, rfl, look, hc⟩ := F.ex
  exact ⟨fun s us ws X l1 l2 => .of_eq (h kV doc pm an cv ct us ws l1 l2), fun r1 r2 => hrel r1 r2⟩
end
section
variable {X : Cx} {k n : Nat} {f : Addr} {fd : FuncData} {ps ks : List Str} {sp : Sp} {E : XK} {x : Str} {p pos : Pos} {e : Expr} {es : List Expr} {kws : List Keyword} {t tk : TA} {g : List Value → List Value → List Value} {gV : List V → List V → List V}
/-- f(k = v, ..) -/
theorem pe_kw0 (F : FnOk X.prog X.w X.K X.mg X.base CX0 k f fd ps sp) (hr : Room k X.A) (hg : Gl X x) (hm : X.mg x = some (.ref f)) (hk : PySem.W.keepIn X.K (.ref f) = true) (hb : KBn X.K fd ps 0 ks g gV)
    (hkw : PK X kws tk) (hall : (backToKw pos (keywordEach kws X.env)).all (·.1.isSome) = true := by rfl) (hks : (backToKw pos (keywordEach kws X.env)).filterMap (·.1) = ks := by rfl)
    (hdb : (x == ("__debug__" : Str)) = false := by decide) (hpl : ((backTo pos (starEach [] X.env)).any (·.1) || (backToKw pos (keywordEach kws X.env)).any (·.1.isNone)) = false := by rfl) :
    PE X (.Call (.Name x p) [] kws pos) (tCallN 0 ks.length sp gV E0 tNil tk) := by
  constructor
  intro pins s σ H Q I h
  apply wpAny_Call_Name_kw
  apply ld_glob I hg hm _ hdb
  refine PySem.W.callWith_KW0 (h₀ := X.base) I.ok.mod.kin hk hall (thn (hkw.run pos pins s σ H _ I h) fun ws s2 hh => ?_) hpl
  obtain ⟨zs, H2, I2, rz, l1, l2, q2⟩ := hh
  refine ⟨I2.kIn, ?_⟩
  rw [hks]
  exact run_fnN F hr hb pass0 I2 .nil rz l1 l2 q2
/-! ### generators -/
variable {sg : SpG}
theorem run_gkw {pins : List (Addr × Obj)} {σ : L2.St} {H : Hp} {s : Shared} {us ws : List Value} {vs zs : List V} {cont : List V → Hp → Prop} {E1 : Value → Shared → Prop} (F : GFn X.prog X.w X.K X.mg X.base k f fd ps sg) (hr : Room k X.A) (hb : KBn X.K fd ps n ks g gV)
    (I : Inv X pins σ H s) (r : Vals vs us) (rz : Vals zs ws) (l1 : vs.length = n) (l2 : zs.length = ks.length) (h : sg (gV vs zs) H cont E) :
    wpAny (model X.prog X.w) X.A (call (.ref f) us (ks.zip ws)) (fun u s2 => ∃ H1 sc ex, Inv X pins σ H1 sc ∧ ExOk X pins ex ∧ GMade X.prog X.w k X.stack H1 sc ex cont E u s2) E1 s := by
  have r2 := hb.rel r rz
  refine wpAny_call (codeAny_mono (F.run X.A X.stack s H ⟨us, ks.zip ws⟩ (g us ws) (gV vs zs) cont E hr I.env0 (hb.to s us ws I.kIn (r.length.symm.trans l1) (rz.length.symm.trans l2)) r2 h) fun rr s2 hq => ?_)
  cases rr with
  | error _ => exact hq.elim
  | ok fl =>
    cases fl with
    | ret u => exact ⟨H, s, [], I, .nil, hq⟩
    | next => exact hq.elim
    | brk => exact hq.elim
    | cont => exact hq.elim
def tGenN (n m : Nat) (sg : SpG) (gV : List V → List V → List V) (E : XK) (t tk : TA) : TGen := fun σ H cont => t σ H fun vs H1 => tk σ H1 fun zs H2 => vs.length = n ∧ zs.length = m ∧ sg (gV vs zs) H2 cont E
theorem pgen_kw (F : GFn X.prog X.w X.K X.mg X.base k f fd ps sg) (hr : Room k X.A) (hg : Gl X x) (hm : X.mg x = some (.ref f)) (hk : PySem.W.keepIn X.K (.ref f) = true) (hb : KBn X.K fd ps n ks g gV)
    (ha : PA X (e :: es) t) (hkw : PK X kws tk) (hall : (backToKw pos (keywordEach kws X.env)).all (·.1.isSome) = true := by rfl) (hks : (backToKw pos (keywordEach kws X.env)).filterMap (·.1) = ks := by rfl)
    (hdb : (x == ("__debug__" : Str)) = false := by decide) (he : starEach (e :: es) X.env = (false, eval e X.env) :: starEach es X.env := by rfl)
    (hpl : ((backTo pos (starEach (e :: es) X.env)).any (·.1) || (backToKw pos (keywordEach kws X.env)).any (·.1.isNone)) = false := by rfl) :
    PGen X k (.Call (.Name x p) (e :: es) kws pos) (tGenN n ks.length sg gV E t tk) E := by
  constructor
  intro pins s σ H cont I h
  apply wpAny_Call_Name_kw
  apply ld_glob I hg hm _ hdb
  refine PySem.W.callWith_KW (h₀ := X.base) I.ok.mod.kin hk hall (thn (ha.run pos pins s σ H _ I h) fun us s1 hh => ?_) hpl he
  obtain ⟨vs, H1, I1, r, q⟩ := hh
  refine thn (hkw.run pos pins s1 σ H1 _ I1 q) fun ws s2 hh => ?_
  obtain ⟨zs, H2, I2, rz, l1, l2, q2⟩ := hh
  refine ⟨I2.kIn, ?_⟩
  rw [hks]
  exact run_gkw F hr hb I2 r rz l1 l2 q2
theorem pgen_kw0 (F : GFn X.prog X.w X.K X.mg X.base k f fd ps sg) (hr : Room k X.A) (hg : Gl X x) (hm : X.mg x = some (.ref f)) (hk : PySem.W.keepIn X.K (.ref f) = true) (hb : KBn X.K fd ps 0 ks g gV)
    (hkw : PK X kws tk) (hall : (backToKw pos (keywordEach kws X.env)).all (·.1.isSome) = true := by rfl) (hks : (backToKw pos (keywordEach kws X.env)).filterMap (·.1) = ks := by rfl)
    (hdb : (x == ("__debug__" : Str)) = false := by decide) (hpl : ((backTo pos (starEach [] X.env)).any (·.1) || (backToKw pos (keywordEach kws X.env)).any (·.1.isNone)) = false := by rfl) :
    PGen X k (.Call (.Name x p) [] kws pos) (tGenN 0 ks.length sg gV E tNil tk) E := by
  constructor
  intro pins s σ H cont I h
  apply wpAny_Call_Name_kw
  apply ld_glob I hg hm _ hdb
  refine PySem.W.callWith_KW0 (h₀ := X.base) I.ok.mod.kin hk hall (thn (hkw.run pos pins s σ H _ I h) fun ws s2 hh => ?_) hpl
  obtain ⟨zs, H2, I2, rz, l1, l2, q2⟩ := hh
  refine ⟨I2.kIn, ?_⟩
  rw [hks]
  exact run_gkw F hr hb I2 .nil rz l1 l2 q2
/-- nothing is raised by a generator that raises nothing -/
theorem pass_gen : Passes (CX X.prog X.w) X E0 := by
  intro pins σ H s e s2 I h
  obtain ⟨a, B, H2, cls, d, _, _, _, _, _, _, _, q⟩ := h
  exact q.elim
theorem nostop0 {K : PySem.W.Frag} : NoStop K E0 := fun _ _ _ h => h.elim
end
end SE
namespace SE
open PySem PySem.Spec PyProof.Rows L2
/-! ### rules: a class held by a local name, called; a classmethod called with nothing -/
section
variable {X : Cx} {CX : CXT} {k i : Nat} {f C p g : Addr} {mc : Value} {fd : FuncData} {ps : List Str} {sp : Sp} {dvs : List V} {ds : List Value} {E : XK} {x m : Str} {pn pos apos : Pos} {o e : Expr} {es : List Expr} {ta : TE} {t : TA} {pl : Sem Bool}
def tMakeL (i : Nat) (C : Addr) (sp : Sp) (dvs : List V) (E : XK) (t : TA) : TE := fun σ H Q => σ[i]? = some (some (.ref C)) ∧ tMake C sp dvs E t σ H Q
theorem pe_makeL (M : Mk X.K C f) (F : FnOk X.prog X.w X.K X.mg X.base CX k f fd ps sp) (hr : Room (k + 1) X.A) (hN : X.N[i]? = some x) (hv : Vis X.env.scope x) (hb : Binds X.K fd ps ds) (hd : Vals dvs ds) (hx : Passes CX X E)
    (ha : PA X (e :: es) t) (hdb : (x == ("__debug__" : Str)) = false := by decide) (hcd : (x == ("__classdict__" : Str)) = false := by decide)
    (he : starEach (e :: es) X.env = (false, eval e X.env) :: starEach es X.env := by rfl) (hpl : (backTo pos (starEach es X.env)).any (·.1) = false := by rfl) :
    PE X (.Call (.Name x pn) (e :: es) [] pos) (tMakeL i C sp dvs E t) := by
  constructor
  intro pins s σ H Q I h
  obtain ⟨hs, ht⟩ := h
  refine wpAny_Call_Name_kw (thn ((pe_var (pos := pn) hN hv hdb hcd).run pins s σ H (fun v H1 => v = .ref C ∧ H1 = H) I ⟨.ref C, hs, rfl, rfl⟩) fun u s1 hh => ?_)
  obtain ⟨v, H1, I1, r1, rfl, rfl⟩ := hh
  cases r1
  refine PySem.W.callWith_K (h₀ := X.base) I.ok.mod.kin M.kp (thn (ha.run pos pins s1 σ _ _ I1 ht) fun us s2 hh => ?_) he hpl
  obtain ⟨vs, H2, I2, r, q⟩ := hh
  exact ⟨I2.kIn, run_make M F hr hb hd hx I2 r q⟩
/-- C.m() -/
def tCMeth0 (C : Addr) (sp : Sp) (E : XK) (ta : TE) : TE := fun σ H Q => ta σ H fun x H1 => x = .ref C ∧ sp [.ref C] H1 Q E
theorem pe_cmeth0 (he : PE X o ta) (r : ClX.CRead X.K C mc) (c : ClX.CMet X.K C mc m p g) (F : FnR X.prog X.w X.K X.mg X.base CX k g sp) (hr : Room k X.A) (hx : Passes CX X E)
    (ht : eval (.Call (.Attribute o m apos) [] [] pos) X.env = (do
      let v ← eval o X.env
      standAt apos.atName
      let (f, first) ← holding [v] (getMethod v m pl)
      callWith pos f first (backTo pos (starEach [] X.env)) (backToKw pos (keywordEach [] X.env))) := by rfl) :
    PE X (.Call (.Attribute o m apos) [] [] pos) (tCMeth0 C sp E ta) := by
  constructor
  intro pins s σ H Q I h
  refine PySem.W.methodCall_KW (pl := pl) (thn (he.run pins s σ H _ I h) fun u s1 hh => ?_) ht
  obtain ⟨v, H1, I1, rx, ex, q⟩ := hh
  subst ex
  obtain rfl : u = Value.ref C := rx
  refine ClX.getmethcm_ok I1 r c fun s2 I2 => ?_
  exact PySem.W.callWith_M0 ⟨ClX.pin_at I2, I2.kIn⟩ c.fi (ClX.run_cm (us := []) (vs := []) F hr hx I2 .nil q)
end
end SE
namespace SE
open PySem PySem.Spec PyProof.Rows L2
/-! ### the class Effect -/
abbrev sInit : Stmt := inClass sEffect 0
abbrev sNever : Stmt := inClass sEffect 2
abbrev sPops : Stmt := inClass sEffect 4
abbrev sPushes : Stmt := inClass sEffect 5
abbrev sPeak : Stmt := inClass sEffect 6
abbrev sChange : Stmt := inClass sEffect 7
abbrev sIsNever : Stmt := inClass sEffect 8
def eF (a b c : V) : List (Str × V) := [("needs", a), ("leaves", b), ("highest", c)]
theorem eF_new (a b c : V) : putF "highest" c (putF "leaves" b (putF "needs" a [])) = eF a b c := by
  have h1 : ¬ (("needs" : Str) = "leaves") := by decide +kernel
  have h2 : ¬ (("needs" : Str) = "highest") := by decide +kernel
  have h3 : ¬ (("leaves" : Str) = "highest") := by decide +kernel
  simp only [putF, h1, h2, h3, if_false]
  rfl
theorem eF_two (a b : V) : (putF "leaves" b (putF "needs" a [])).length < 1000 := by
  have h1 : ¬ (("needs" : Str) = "leaves") := by decide +kernel
  simp only [putF, h1, if_false]
  show 2 < 1000
  decide
theorem eF_n (x a b c : V) : putF "needs" x (eF a b c) = eF x b c := by
  unfold eF
  simp only [putF, if_true]
theorem eF_l (x a b c : V) : putF "leaves" x (eF a b c) = eF a x c := by
  have h1 : ¬ (("needs" : Str) = "leaves") := by decide +kernel
  unfold eF
  simp only [putF, h1, if_false, if_true]
theorem eF_h (x a b c : V) : putF "highest" x (eF a b c) = eF a b x := by
  have h2 : ¬ (("needs" : Str) = "highest") := by decide +kernel
  have h3 : ¬ (("leaves" : Str) = "highest") := by decide +kernel
  unfold eF
  simp only [putF, h2, h3, if_false, if_true]
theorem eF_needs (a b c : V) : (eF a b c).lookup ("needs" : Str) = some a := by
  rw [← eF_new, lookup_putF, if_neg (by decide +kernel), lookup_putF, if_neg (by decide +kernel), lookup_putF, if_pos rfl]
theorem eF_leaves (a b c : V) : (eF a b c).lookup ("leaves" : Str) = some b := by
  rw [← eF_new, lookup_putF, if_neg (by decide +kernel), lookup_putF, if_pos rfl]
theorem eF_high (a b c : V) : (eF a b c).lookup ("highest" : Str) = some c := by
  rw [← eF_new, lookup_putF, if_pos rfl]
/-- an effect that is not never -/
structure EffAt (K : PySem.W.Frag) (C : Addr) (H : Hp) (e : Addr) (xs ys : List Str) (p : Int) : Prop where
  ex : ∃ dx u v, H e = some (.ins C dx (eF (.ref u) (.ref v) (.int p))) ∧ SqT K H u (xs.map V.str) ∧ SqT K H v (ys.map V.str)
theorem EffAt.same {K : PySem.W.Frag} {C : Addr} {H H' : Hp} {e : Addr} {xs ys : List Str} {p : Int} (h : EffAt K C H e xs ys p) (s : Same H H') : EffAt K C H' e xs ys p := by
  obtain ⟨dx, u, v, h1, h2, h3⟩ := h.ex
  exact ⟨dx, u, v, s _ _ h1, Same.tup s h2, Same.tup s h3⟩
structure NevAt (C : Addr) (H : Hp) (e : Addr) : Prop where
  ex : ∃ dx, H e = some (.ins C dx (eF .non .non .non))
theorem NevAt.same {C : Addr} {H H' : Hp} {e : Addr} (h : NevAt C H e) (s : Same H H') : NevAt C H' e := by
  obtain ⟨dx, h1⟩ := h.ex
  exact ⟨dx, s _ _ h1⟩
/-- the least peak -/
def lp (xs ys : List Str) : Int := if (ys.length : Int) - (xs.length : Int) > 0 then (ys.length : Int) - (xs.length : Int) else 0
def pkV : Option Int → V
  | none => .non
  | some p => .int p
structure EC (K : PySem.W.Frag) (mg : Str → Option Value) (C : Addr) : Prop where
  cl : Cls K C
  nN : NoAttr K C "needs"
  nL : NoAttr K C "leaves"
  nH : NoAttr K C "highest"
  mgE : mg "Effect" = some (.ref C)
section
variable {P : Program} {w : World} {K : PySem.W.Frag} {mg : Str → Option Value} {base : Heap} {C : Addr}
def spLeast (K : PySem.W.Frag) : Sp := fun vs H Q _ => ∃ (a b : Addr) (xs ys : List Str), vs = [.ref a, .ref b] ∧ SqT K H a (xs.map V.str) ∧ SqT K H b (ys.map V.str) ∧ Q (.int (lp xs ys)) H
theorem scLe : FnScope ["pops", "pushes"] ["pops", "pushes"] (defScope sLeastPeak) := ⟨rfl, rfl, rfl, by decide +kernel, rfl, by decide +kernel, by decide +kernel⟩
theorem has_least (D : Def K mg "least_peak" sLeastPeak) (B : Blt mg) (mx : mg "max" = none) : Has P w K mg base "least_peak" 1 ["pops", "pushes"] [] (spLeast K) := by
  refine has_of D scLe (fun _ _ _ _ _ _ us hl => match us, hl with | [_, _], _ => rfl) (fun xs H Q E h => ?_) (fun f cv A out s H xs Q E hr h => ?_)
  · obtain ⟨a, b, xs, ys, rfl, _⟩ := h
    rfl
  · obtain ⟨a, b, xs, ys, rfl, ha, hb, k⟩ := h
    refine ⟨_, pss_one (ps_ret (pe_callB (call_max2 rfl) (by rfl) mx (by decide +kernel) (pa_cons pe_int (pa_cons (pe_op op_sub (pe_callB call_len_seq (by rfl) B.len PySem.boot_len (pa_cons (pv 1) pa_nil)) (pe_callB call_len_seq (by rfl) B.len PySem.boot_len (pa_cons (pv 0) pa_nil))) pa_nil)))), ?_⟩
    refine ⟨_, rfl, b, _, rfl, .inr hb, _, rfl, a, _, rfl, .inr ha, _, _, rfl, rfl, 0, _, rfl, ?_⟩
    rw [List.length_map, List.length_map]
    exact k
def spInit (K : PySem.W.Frag) (C : Addr) : Sp := fun vs H Q _ => ∃ (x dx a b : Addr) (xs ys : List Str) (pk : Option Int), vs = [.ref x, .ref a, .ref b, pkV pk] ∧ H x = some (.ins C dx []) ∧ SqT K H a (xs.map V.str) ∧ SqT K H b (ys.map V.str) ∧
  xs.length ≤ 5000 ∧ ys.length ≤ 5000 ∧ (∀ z ∈ xs, Item z) ∧ (∀ z ∈ ys, Item z) ∧ (∀ p, pk = some p → lp xs ys ≤ p) ∧
  ∀ H', (∀ b o, H b = some o → b ≠ x → H' b = some o) → H' x = some (.ins C dx (eF (.ref a) (.ref b) (.int (pk.getD (lp xs ys))))) → Q .non H'
abbrev pInit : List Str := ["self", "pops", "pushes", "peak"]
theorem scIn : FnScope ["self", "pops", "pushes", "peak", "least"] pInit (defScope sInit) := ⟨rfl, rfl, rfl, by decide +kernel, rfl, by decide +kernel, by decide +kernel⟩
theorem ok_init {f : Addr} {fd : FuncData} (F : Fun K "__init__" "Effect.__init__" sInit f fd) (T : EC K mg C) (GW : Has P w K mg base "check_word" 3 ["word"] [] (spChkWord K)) (GL : Has P w K mg base "least_peak" 1 ["pops", "pushes"] [] (spLeast K)) (GH : Has P w K mg base "is_whole" 1 ["value"] [] spWhole) :
    FnOk P w K mg base CX0 4 f fd pInit (spInit K C) := by
  refine F.ok scIn (fun vs H Q E h => ?_) (fun cdv A outer s H vs Q E hr h => ?_)
  · obtain ⟨x, dx, a, b, xs, ys, pk, rfl, _⟩ := h
    rfl
  · obtain ⟨x, dx, a, b, xs, ys, pk, rfl, hx, ha, hb, l1, l2, i1, i2, hp, k⟩ := h
    have hr1 : Room 1 _ := hr.mono (by decide)
    refine ⟨_, pss_cons (ps_expr (pe_has GW hr (pa_cons (pv 1) pa_nil))) (pss_cons (ps_expr (pe_has GW hr (pa_cons (pv 2) pa_nil)))
      (pss_cons (ps_set (i := 4) scIn.nd rfl (.inl rfl) (pe_has GL hr1 (pa_cons (pv 1) (pa_cons (pv 2) pa_nil))))
      (pss_cons (ps_if (pt_cut (PW.pt (pw_and (pt_cmpR op_notN (pv 3) pe_non (nomark _)) (pw_and1 (PW.pt (pw_or (pt_not (pt_val (pe_has GH hr1 (pa_cons (pv 3) pa_nil)))) (pw_or1 (pt_cmpR op_lt (pv 3) (pv 4) (nomark _))))))))) pss_never pss_nil)
      (pss_cons (ps_fld (pv 0) (pv 1) rfl) (pss_cons (ps_fld (pv 0) (pv 2) rfl)
      (pss_one (ps_fld (pv 0) (pe_ifExp (pt_cmpR op_isN (pv 3) pe_non (nomark _)) (pv 4) (pv 3)) rfl))))))), ?_⟩
    refine ⟨_, rfl, a, xs, rfl, ha, l1, i1, fun H1 s1 => ⟨_, rfl, b, ys, rfl, Same.tup s1 hb, l2, i2, fun H2 s2 => ?_⟩⟩
    have s12 := s1.trans s2
    refine ⟨_, rfl, _, rfl, a, b, xs, ys, rfl, Same.tup s12 ha, Same.tup s12 hb, ?_⟩
    refine ⟨fun c H3 => c = false ∧ H3 = H2, ?_, ?_⟩
    · cases pk with
      | none => exact ⟨_, rfl, rfl, false, rfl, iteF ⟨rfl, rfl⟩⟩
      | some p =>
        have hq := hp p rfl
        refine ⟨_, rfl, rfl, true, rfl, iteT ⟨_, rfl, p, rfl, true, rfl, iteF ⟨_, rfl, _, rfl, p, lp xs ys, rfl, rfl, _, rfl, ?_, rfl⟩⟩⟩
        exact decide_eq_false (by omega)
    rintro c H3 ⟨rfl, rfl⟩
    refine iteF ?_
    have hx3 := s12 _ _ hx
    have fin : ∀ z : V, z = .int (pk.getD (lp xs ys)) → Q .non (upd (upd (upd H3 x (.ins C dx (putF "needs" (.ref a) []))) x (.ins C dx (putF "leaves" (.ref b) (putF "needs" (.ref a) [])))) x (.ins C dx (putF "highest" z (putF "leaves" (.ref b) (putF "needs" (.ref a) []))))) := by
      intro z ez
      refine k _ (fun c o e ne => ?_) ?_
      · rw [upd_ne ne, upd_ne ne, upd_ne ne]
        exact s12 _ _ e
      · rw [upd_same, eF_new, ez]
    refine ⟨_, rfl, _, rfl, x, C, dx, [], rfl, hx3, T.cl, T.nN, (by show 0 < 1000; decide), _, rfl, _, rfl, x, C, dx, _, rfl, upd_same, T.cl, T.nL, (by show 1 < 1000; decide), ?_⟩
    cases pk with
    | none => exact ⟨_, rfl, rfl, true, rfl, iteT ⟨_, rfl, _, rfl, x, C, dx, _, rfl, upd_same, T.cl, T.nH, eF_two _ _, fin _ rfl⟩⟩
    | some p => exact ⟨_, rfl, rfl, false, rfl, iteF ⟨_, rfl, _, rfl, x, C, dx, _, rfl, upd_same, T.cl, T.nH, eF_two _ _, fin _ rfl⟩⟩
end
end SE
namespace SE
open PySem PySem.Spec PyProof.Rows L2
/-- a property of the class C with its promise -/
def PropHas (P : Program) (w : World) (K : PySem.W.Frag) (mg : Str → Option Value) (base : Heap) (C : Addr) (f : Str) (k : Nat) (sp : Sp) : Prop := ∃ p g fd, PropOf K C f p g ∧ FnOk P w K mg base CX0 k g fd ["self"] sp ∧ Binds K fd ["self"] []
theorem pe_propH {X : Cx} {C : Addr} {f : Str} {k : Nat} {sp : Sp} {e : Expr} {ta : TE} {pos : Pos} (h : PropHas X.prog X.w X.K X.mg X.base C f k sp) (he : PE X e ta) (c : Cls X.K C) (hr : Room (k + 1) X.A)
    (hab : attributeBase e f X.env (eval e X.env) = eval e X.env := by rfl) : PE X (.Attribute e f pos) (tProp C sp [] E0 ta) := by
  obtain ⟨p, g, fd, hp, F, hb⟩ := h
  exact pe_prop he c hp F hr hb .nil pass0 hab
section
variable {P : Program} {w : World} {K : PySem.W.Frag} {mg : Str → Option Value} {base : Heap} {C : Addr}
/-! ### properties -/
/-- of an effect that is not never: its parts -/
def spPops (K : PySem.W.Frag) (C : Addr) : Sp := fun vs H Q _ => ∃ (e : Addr) (xs ys : List Str) (p : Int), vs = [.ref e] ∧ EffAt K C H e xs ys p ∧ ∀ u, SqT K H u (xs.map V.str) → Q (.ref u) H
def spPush (K : PySem.W.Frag) (C : Addr) : Sp := fun vs H Q _ => ∃ (e : Addr) (xs ys : List Str) (p : Int), vs = [.ref e] ∧ EffAt K C H e xs ys p ∧ ∀ u, SqT K H u (ys.map V.str) → Q (.ref u) H
def spChan (K : PySem.W.Frag) (C : Addr) : Sp := fun vs H Q _ => ∃ (e : Addr) (xs ys : List Str) (p : Int), vs = [.ref e] ∧ EffAt K C H e xs ys p ∧ Q (.int ((ys.length : Int) - (xs.length : Int))) H
def spIsNev (K : PySem.W.Frag) (C : Addr) : Sp := fun vs H Q _ => ∃ (e : Addr), vs = [.ref e] ∧ ((∃ xs ys p, EffAt K C H e xs ys p ∧ Q (.bl false) H) ∨ (NevAt C H e ∧ Q (.bl true) H))
theorem scPo : FnScope ["self"] ["self"] (defScope sPops) := ⟨rfl, rfl, rfl, by decide +kernel, rfl, by decide +kernel, by decide +kernel⟩
theorem scPu : FnScope ["self"] ["self"] (defScope sPushes) := ⟨rfl, rfl, rfl, by decide +kernel, rfl, by decide +kernel, by decide +kernel⟩
theorem scCh : FnScope ["self"] ["self"] (defScope sChange) := ⟨rfl, rfl, rfl, by decide +kernel, rfl, by decide +kernel, by decide +kernel⟩
theorem scNv : FnScope ["self"] ["self"] (defScope sIsNever) := ⟨rfl, rfl, rfl, by decide +kernel, rfl, by decide +kernel, by decide +kernel⟩
theorem ok_pops {f : Addr} {fd : FuncData} (F : Fun K "pops" "Effect.pops" sPops f fd) (T : EC K mg C) : FnOk P w K mg base CX0 1 f fd ["self"] (spPops K C) := by
  refine F.ok scPo (fun vs H Q E h => ?_) (fun cdv A outer s H vs Q E hr h => ?_)
  · obtain ⟨e, xs, ys, p, rfl, _⟩ := h
    rfl
  · obtain ⟨e, xs, ys, p, rfl, h, k⟩ := h
    obtain ⟨dx, u, v, h1, h2, h3⟩ := h.ex
    exact ⟨_, pss_one (ps_ret (pe_fld (pv 0) rfl)), _, rfl, e, C, dx, _, _, rfl, h1, T.cl, T.nN, eF_needs _ _ _, k u h2⟩
theorem ok_push {f : Addr} {fd : FuncData} (F : Fun K "pushes" "Effect.pushes" sPushes f fd) (T : EC K mg C) : FnOk P w K mg base CX0 1 f fd ["self"] (spPush K C) := by
  refine F.ok scPu (fun vs H Q E h => ?_) (fun cdv A outer s H vs Q E hr h => ?_)
  · obtain ⟨e, xs, ys, p, rfl, _⟩ := h
    rfl
  · obtain ⟨e, xs, ys, p, rfl, h, k⟩ := h
    obtain ⟨dx, u, v, h1, h2, h3⟩ := h.ex
    exact ⟨_, pss_one (ps_ret (pe_fld (pv 0) rfl)), _, rfl, e, C, dx, _, _, rfl, h1, T.cl, T.nL, eF_leaves _ _ _, k v h3⟩
theorem ok_chan {f : Addr} {fd : FuncData} (F : Fun K "change" "Effect.change" sChange f fd) (T : EC K mg C) (B : Blt mg) : FnOk P w K mg base CX0 1 f fd ["self"] (spChan K C) := by
  refine F.ok scCh (fun vs H Q E h => ?_) (fun cdv A outer s H vs Q E hr h => ?_)
  · obtain ⟨e, xs, ys, p, rfl, _⟩ := h
    rfl
  · obtain ⟨e, xs, ys, p, rfl, h, k⟩ := h
    obtain ⟨dx, u, v, h1, h2, h3⟩ := h.ex
    refine ⟨_, pss_one (ps_ret (pe_ifExp (pt_cmpR op_isN (pe_fld (pv 0) rfl) pe_non (nomark _)) pe_non (pe_op op_sub (pe_callB call_len_seq (by rfl) B.len PySem.boot_len (pa_cons (pe_fld (pv 0) rfl) pa_nil)) (pe_callB call_len_seq (by rfl) B.len PySem.boot_len (pa_cons (pe_fld (pv 0) rfl) pa_nil))))), ?_⟩
    refine ⟨_, rfl, e, C, dx, _, _, rfl, h1, T.cl, T.nN, eF_needs _ _ _, rfl, false, rfl, iteF ?_⟩
    refine ⟨_, rfl, e, C, dx, _, _, rfl, h1, T.cl, T.nL, eF_leaves _ _ _, v, _, rfl, .inr h3, _, rfl, e, C, dx, _, _, rfl, h1, T.cl, T.nN, eF_needs _ _ _, u, _, rfl, .inr h2, _, _, rfl, rfl, ?_⟩
    rw [List.length_map, List.length_map]
    exact k
theorem ok_isNev {f : Addr} {fd : FuncData} (F : Fun K "is_never" "Effect.is_never" sIsNever f fd) (T : EC K mg C) : FnOk P w K mg base CX0 1 f fd ["self"] (spIsNev K C) := by
  refine F.ok scNv (fun vs H Q E h => ?_) (fun cdv A outer s H vs Q E hr h => ?_)
  · obtain ⟨e, rfl, _⟩ := h
    rfl
  · obtain ⟨e, rfl, h⟩ := h
    refine ⟨_, pss_one (ps_ret (pe_cmpR op_isN (pe_fld (pv 0) rfl) pe_non (nomark _))), ?_⟩
    rcases h with ⟨xs, ys, p, h, k⟩ | ⟨h, k⟩
    · obtain ⟨dx, u, v, h1, h2, h3⟩ := h.ex
      exact ⟨_, rfl, e, C, dx, _, _, rfl, h1, T.cl, T.nN, eF_needs _ _ _, rfl, k⟩
    · obtain ⟨dx, h1⟩ := h.ex
      exact ⟨_, rfl, e, C, dx, _, _, rfl, h1, T.cl, T.nN, eF_needs _ _ _, rfl, k⟩
/-! ### Effect(a, b), Effect.never() -/
/-- the class can be called -/
def Makes (P : Program) (w : World) (K : PySem.W.Frag) (mg : Str → Option Value) (base : Heap) (C : Addr) : Prop := ∃ f fd, Mk K C f ∧ FnOk P w K mg base CX0 4 f fd pInit (spInit K C) ∧ FunD K "__init__" "Effect.__init__" (defArgs sInit) (defBody sInit) (defScope sInit) [] [("peak", .non)] f fd
theorem Makes.two (h : Makes P w K mg base C) : ∃ f fd ds, Mk K C f ∧ FnOk P w K mg base CX0 4 f fd pInit (spInit K C) ∧ Vals [V.non] ds ∧ Binds K fd pInit ds := by
  obtain ⟨f, fd, M, F, FD⟩ := h
  obtain ⟨ds, hd, hb⟩ := FD.binds0 (ps := pInit) 3 (by simp) rfl (fun D doc pm an cv ct us ks h1 h2 => match us, ks, h1, h2 with | [_, _, _], [_], _, _ => ⟨_, _, _, _, _, _, rfl, rfl, rfl⟩)
  exact ⟨f, fd, ds, M, F, hd, hb⟩
/-- what Effect(a, b) asks -/
def tEff2 (K : PySem.W.Frag) (C : Addr) (t : TA) : TE := fun σ H Q => t σ H fun vs H1 => ∃ (a b : Addr) (xs ys : List Str), vs = [.ref a, .ref b] ∧ SqT K H1 a (xs.map V.str) ∧ SqT K H1 b (ys.map V.str) ∧ xs.length ≤ 5000 ∧ ys.length ≤ 5000 ∧ (∀ z ∈ xs, Item z) ∧ (∀ z ∈ ys, Item z) ∧
  ∀ (e : Addr) (H' : Hp), Same H1 H' → H1 e = none → EffAt K C H' e xs ys (lp xs ys) → Q (.ref e) H'
theorem make_imp {vs : List V} {H1 : Hp} {Q : VK} (h : ∃ (a b : Addr) (xs ys : List Str), vs = [.ref a, .ref b] ∧ SqT K H1 a (xs.map V.str) ∧ SqT K H1 b (ys.map V.str) ∧ xs.length ≤ 5000 ∧ ys.length ≤ 5000 ∧ (∀ z ∈ xs, Item z) ∧ (∀ z ∈ ys, Item z) ∧
    ∀ (e : Addr) (H' : Hp), Same H1 H' → H1 e = none → EffAt K C H' e xs ys (lp xs ys) → Q (.ref e) H') : ∀ x dx, H1 x = none → H1 dx = none → dx ≠ x →
    spInit K C (.ref x :: (vs ++ [V.non])) (upd (upd H1 dx (.own x)) x (.ins C dx [])) (fun v H2 => v = .non ∧ Q (.ref x) H2) E0 := by
  intro x dx nx nd ne
  obtain ⟨a, b, xs, ys, rfl, ha, hb, l1, l2, i1, i2, k⟩ := h
  have s0 : Same H1 (upd (upd H1 dx (.own x)) x (.ins C dx [])) := Same.made nx nd fun b o e _ => e
  refine ⟨x, dx, a, b, xs, ys, none, rfl, upd_same, Same.tup s0 ha, Same.tup s0 hb, l1, l2, i1, i2, fun p z => (by cases z), fun H' kp hx => ⟨rfl, ?_⟩⟩
  have s1 : Same H1 H' := fun c o e => kp c o (s0 c o e) (ne_of_none e nx)
  exact k x H' s1 nx ⟨dx, a, b, hx, Same.tup s1 ha, Same.tup s1 hb⟩
theorem pe_eff2 {X : Cx} {p pos : Pos} {e1 e2 : Expr} {t : TA} (M : Makes X.prog X.w X.K X.mg X.base C) (mgE : X.mg "Effect" = some (.ref C)) (hr : Room 5 X.A) (ha : PA X [e1, e2] t) (hg : Gl X "Effect" := by rfl)
    (he : starEach [e1, e2] X.env = (false, eval e1 X.env) :: starEach [e2] X.env := by rfl) (hpl : (backTo pos (starEach [e2] X.env)).any (·.1) = false := by rfl) :
    PE X (.Call (.Name "Effect" p) [e1, e2] [] pos) (tEff2 X.K C t) := by
  obtain ⟨f, fd, ds, Mk1, F, hd, hb⟩ := M.two
  constructor
  intro pins s σ H Q I h
  refine wpAny_Call_Name_kw (ld_glob I hg mgE ?_ (by decide))
  refine PySem.W.callWith_K (h₀ := X.base) I.ok.mod.kin Mk1.kp (thn (ha.run pos pins s σ H _ I h) fun us s1 hh => ?_) he hpl
  obtain ⟨vs, H1, I1, r, q⟩ := hh
  exact ⟨I1.kIn, run_make Mk1 F hr hb hd pass0 I1 r (make_imp q)⟩
/-! ### Effect.never() -/
def spNever (C : Addr) : Sp := fun vs H Q _ => vs = [.ref C] ∧ ∀ (e : Addr) (H' : Hp), Same H H' → NevAt C H' e → Q (.ref e) H'
theorem scNe : FnScope ["cls", "effect"] ["cls"] (defScope sNever) := ⟨rfl, rfl, rfl, by decide +kernel, rfl, by decide +kernel, by decide +kernel⟩
theorem ok_never {g : Addr} {gd : FuncData} (F : Fun K "never" "Effect.never" sNever g gd) (T : EC K mg C) (M : Makes P w K mg base C) : FnOk P w K mg base CX0 6 g gd ["cls"] (spNever C) := by
  obtain ⟨f, fd, ds, Mk1, FI, hd, hb⟩ := M.two
  refine F.ok scNe (fun vs H Q E h => ?_) (fun cdv A outer s H vs Q E hr h => ?_)
  · obtain ⟨rfl, _⟩ := h
    rfl
  · obtain ⟨rfl, k⟩ := h
    refine ⟨_, pss_cons (ps_set (i := 1) scNe.nd rfl (.inl rfl) (pe_makeL (i := 0) Mk1 FI hr rfl (.inl rfl) hb hd pass0 (pa_cons (pe_tup pa_nil) (pa_cons (pe_tup pa_nil) pa_nil))))
      (pss_cons (ps_fld (pv 1) pe_non rfl) (pss_cons (ps_fld (pv 1) pe_non rfl) (pss_cons (ps_fld (pv 1) pe_non rfl) (pss_one (ps_ret (pv 1)))))), ?_⟩
    refine ⟨rfl, Nat.zero_le _, fun t1 h1 => ⟨Nat.zero_le _, fun t2 h2 => ?_⟩⟩
    have n2 : t1 ≠ t2 := ne_of_none upd_same h2
    have s2 : Same H (upd (upd H t1 (.tup [])) t2 (.tup [])) := Same.free2 (Same.new h1) ((Same.new h1).free h2)
    intro y dy ny nd nyd
    have s3 : Same (upd (upd H t1 (.tup [])) t2 (.tup [])) (upd (upd (upd (upd H t1 (.tup [])) t2 (.tup [])) dy (.own y)) y (.ins C dy [])) := Same.made ny nd fun b o z _ => z
    refine ⟨y, dy, t1, t2, [], [], none, rfl, upd_same, Same.tup s3 (.of (by rw [upd_ne n2]; exact upd_same)), Same.tup s3 (.of upd_same), Nat.zero_le _, Nat.zero_le _, fun z m => (by cases m), fun z m => (by cases m), fun p z => (by cases z), fun H' kp e1 => ⟨rfl, ?_⟩⟩
    have s4 : Same H H' := fun c o z => kp c o (s3 _ _ (s2 c o z)) (ne_of_none z (s2.free ny))
    have hne : H y = none := s2.free ny
    refine ⟨_, rfl, y, C, dy, _, rfl, e1, T.cl, T.nN, (by show 3 < 1000; decide), _, rfl, y, C, dy, _, rfl, upd_same, T.cl, T.nL, (by rw [eF_n]; show 3 < 1000; decide), _, rfl, y, C, dy, _, rfl, upd_same, T.cl, T.nH, (by rw [eF_n, eF_l]; show 3 < 1000; decide), _, rfl, ?_⟩
    refine k y _ ?_ ⟨dy, ?_⟩
    · exact Same.free2 (Same.free2 (Same.free2 s4 hne) hne) hne
    · rw [upd_same, eF_n, eF_l, eF_h]
/-- the classmethod -/
def NeverHas (P : Program) (w : World) (K : PySem.W.Frag) (mg : Str → Option Value) (base : Heap) (C : Addr) : Prop := ∃ mc p g, ClX.CRead K C mc ∧ ClX.CMet K C mc "never" p g ∧ FnR P w K mg base CX0 6 g (spNever C)
theorem pe_never0 {X : Cx} {p apos pos : Pos} {pl : Sem Bool} (h : NeverHas X.prog X.w X.K X.mg X.base C) (mgE : X.mg "Effect" = some (.ref C)) (hr : Room 6 X.A) (hg : Gl X "Effect" := by rfl)
    (ht : eval (.Call (.Attribute (.Name "Effect" p) "never" apos) [] [] pos) X.env = (do
      let v ← eval (.Name "Effect" p) X.env
      standAt apos.atName
      let (f, first) ← holding [v] (getMethod v "never" pl)
      callWith pos f first (backTo pos (starEach [] X.env)) (backToKw pos (keywordEach [] X.env))) := by rfl) :
    PE X (.Call (.Attribute (.Name "Effect" p) "never" apos) [] [] pos) (tCMeth0 C (spNever C) E0 (tC (.ref C))) := by
  obtain ⟨mc, q, g, r, c, F⟩ := h
  exact pe_cmeth0 (pl := pl) (pe_glob hg mgE rfl) r c F hr pass0 ht
end
end SE
namespace SE
open PySem PySem.Spec PyProof.Rows L2
section
variable {P : Program} {w : World} {K : PySem.W.Frag} {mg : Str → Option Value} {base : Heap} {C : Addr}
/-! ### Effect(a, b, peak = c) -/
def tEffK (K : PySem.W.Frag) (C : Addr) (t : TA) (tk : TE) : TE := fun σ H Q => t σ H fun vs H1 => tCons tk tNil σ H1 fun zs H2 => ∃ (a b : Addr) (xs ys : List Str) (pk : Option Int), vs = [.ref a, .ref b] ∧ zs = [pkV pk] ∧ SqT K H2 a (xs.map V.str) ∧ SqT K H2 b (ys.map V.str) ∧ xs.length ≤ 5000 ∧ ys.length ≤ 5000 ∧
  (∀ z ∈ xs, Item z) ∧ (∀ z ∈ ys, Item z) ∧ (∀ p, pk = some p → lp xs ys ≤ p) ∧ ∀ (e : Addr) (H' : Hp), Same H2 H' → H2 e = none → EffAt K C H' e xs ys (pk.getD (lp xs ys)) → Q (.ref e) H'
theorem pe_effK {X : Cx} {p pos q1 : Pos} {e1 e2 c : Expr} {t : TA} {tk : TE} (M : Makes X.prog X.w X.K X.mg X.base C) (mgE : X.mg "Effect" = some (.ref C)) (hr : Room 5 X.A) (ha : PA X [e1, e2] t) (hc : PE X c tk) (hg : Gl X "Effect" := by rfl)
    (he : starEach [e1, e2] X.env = (false, eval e1 X.env) :: starEach [e2] X.env := by rfl) (hpl : ((backTo pos (starEach [e1, e2] X.env)).any (·.1) || (backToKw pos (keywordEach [⟨some "peak", c, q1⟩] X.env)).any (·.1.isNone)) = false := by rfl) :
    PE X (.Call (.Name "Effect" p) [e1, e2] [⟨some "peak", c, q1⟩] pos) (tEffK X.K C t tk) := by
  obtain ⟨f, fd, Mk1, F, FD⟩ := M
  obtain ⟨mv, kb⟩ := kb_some (ps := pInit) FD 3 ["peak"] [] (fun us _ ws => us ++ ws) (by simp) (fun q h => (by cases h)) (fun r1 _ r3 => r1.append r3) (fun D doc pm an cv ct us mv ws h1 h2 h3 => match us, mv, ws, h1, h2, h3 with | [_, _, _], [], [_], _, _, _ => rfl)
  constructor
  intro pins s σ H Q I h
  refine wpAny_Call_Name_kw (ld_glob I hg mgE ?_ (by decide))
  refine PySem.W.callWith_KW (h₀ := X.base) I.ok.mod.kin Mk1.kp rfl (thn (ha.run pos pins s σ H _ I h) fun us s1 hh => ?_) hpl he
  obtain ⟨vs, H1, I1, r, q⟩ := hh
  refine thn ((pk_cons (nm := some "peak") (kpos := q1) hc pk_nil).run pos pins s1 σ H1 _ I1 q) fun ws s2 hh => ?_
  obtain ⟨zs, H2, I2, rz, a, b, xs, ys, pk, rfl, rfl, ha2, hb2, l1, l2, i1, i2, hp, k⟩ := hh
  refine ⟨I2.kIn, ?_⟩
  refine run_makeK (ks := ["peak"]) (n := 2) Mk1 F hr kb pass0 I2 r rz rfl rfl ?_
  intro x dx nx nd ne
  have s0 : Same H2 (upd (upd H2 dx (.own x)) x (.ins C dx [])) := Same.made nx nd fun b o e _ => e
  refine ⟨x, dx, a, b, xs, ys, pk, rfl, upd_same, Same.tup s0 ha2, Same.tup s0 hb2, l1, l2, i1, i2, hp, fun H' kp hx => ⟨rfl, ?_⟩⟩
  have s3 : Same H2 H' := fun c o e => kp c o (s0 c o e) (ne_of_none e nx)
  exact k x H' s3 nx ⟨dx, a, b, hx, Same.tup s3 ha2, Same.tup s3 hb2⟩
/-! ### effects as values -/
abbrev Eff := Option (List Str × List Str × Int)
def EffV (K : PySem.W.Frag) (C : Addr) (H : Hp) (e : Addr) : Eff → Prop
  | none => NevAt C H e
  | some (xs, ys, p) => EffAt K C H e xs ys p
theorem EffV.same {H H' : Hp} {e : Addr} : ∀ {o : Eff}, EffV K C H e o → Same H H' → EffV K C H' e o
  | none, h, s => NevAt.same h s
  | some (_, _, _), h, s => EffAt.same h s
theorem EffV.ins {H : Hp} {e : Addr} : ∀ {o : Eff}, EffV K C H e o → ∃ dx fs, H e = some (.ins C dx fs)
  | none, h => by
    obtain ⟨dx, h1⟩ := NevAt.ex h
    exact ⟨dx, _, h1⟩
  | some (_, _, _), h => by
    obtain ⟨dx, u, v, h1, _⟩ := EffAt.ex h
    exact ⟨dx, _, h1⟩
/-! ### peak, nothing -/
def spPeak (K : PySem.W.Frag) (C : Addr) : Sp := fun vs H Q _ => ∃ (e : Addr) (xs ys : List Str) (p : Int), vs = [.ref e] ∧ EffAt K C H e xs ys p ∧ Q (.int p) H
theorem scPk : FnScope ["self"] ["self"] (defScope sPeak) := ⟨rfl, rfl, rfl, by decide +kernel, rfl, by decide +kernel, by decide +kernel⟩
theorem ok_peak {f : Addr} {fd : FuncData} (F : Fun K "peak" "Effect.peak" sPeak f fd) (T : EC K mg C) : FnOk P w K mg base CX0 1 f fd ["self"] (spPeak K C) := by
  refine F.ok scPk (fun vs H Q E h => ?_) (fun cdv A outer s H vs Q E hr h => ?_)
  · obtain ⟨e, xs, ys, p, rfl, _⟩ := h
    rfl
  · obtain ⟨e, xs, ys, p, rfl, h, k⟩ := h
    obtain ⟨dx, u, v, h1, h2, h3⟩ := h.ex
    exact ⟨_, pss_one (ps_ret (pe_fld (pv 0) rfl)), _, rfl, e, C, dx, _, _, rfl, h1, T.cl, T.nH, eF_high _ _ _, k⟩
end
end SE
namespace SE
open PySem PySem.Spec PyProof.Rows L2
/-! ### effects one after the other: the mathematics' side -/
abbrev Prt := List Str × List Str × Int
def comp (A B : Prt) : Option Prt :=
  if A.2.1.take (min A.2.1.length B.1.length) = B.1.take (min A.2.1.length B.1.length) then
    some (A.1 ++ B.1.drop (min A.2.1.length B.1.length), B.2.1 ++ A.2.1.drop (min A.2.1.length B.1.length), if (A.2.1.length : Int) - (A.1.length : Int) + B.2.2 > A.2.2 then (A.2.1.length : Int) - (A.1.length : Int) + B.2.2 else A.2.2)
  else none
def joinF : Prt → List Prt → Eff
  | A, [] => some A
  | A, B :: r => match comp A B with
    | none => none
    | some D => joinF D r
def joinM (ps : List Prt) : Eff := joinF ([], [], 0) ps
def szP (ps : List Prt) : Nat := (ps.map fun B => B.1.length + B.2.1.length).sum
/-- a part that may be joined -/
structure PrtOk (B : Prt) : Prop where
  i1 : ∀ z ∈ B.1, Item z
  i2 : ∀ z ∈ B.2.1, Item z
  h0 : 0 ≤ B.2.2
  h1 : (B.2.1.length : Int) - (B.1.length : Int) ≤ B.2.2
theorem comp_ok {A B D : Prt} (hA : PrtOk A) (hB : PrtOk B) (h : comp A B = some D) : PrtOk D ∧ D.1.length + D.2.1.length ≤ A.1.length + A.2.1.length + (B.1.length + B.2.1.length) := by
  unfold comp at h
  split at h
  · cases h
    have q1 := hA.h0
    have q2 := hA.h1
    have q3 := hB.h1
    refine ⟨⟨fun z m => ?_, fun z m => ?_, ?_, ?_⟩, ?_⟩
    · rcases List.mem_append.mp m with q | q
      · exact hA.i1 z q
      · exact hB.i1 z (List.mem_of_mem_drop q)
    · rcases List.mem_append.mp m with q | q
      · exact hB.i2 z q
      · exact hA.i2 z (List.mem_of_mem_drop q)
    · dsimp only
      split <;> omega
    · dsimp only
      rw [List.length_append, List.length_append, List.length_drop, List.length_drop]
      have m1 := Nat.min_le_left A.2.1.length B.1.length
      have m2 := Nat.min_le_right A.2.1.length B.1.length
      generalize min A.2.1.length B.1.length = m at m1 m2 ⊢
      split <;> omega
    · show (A.1 ++ B.1.drop (min A.2.1.length B.1.length)).length + (B.2.1 ++ A.2.1.drop (min A.2.1.length B.1.length)).length ≤ _
      rw [List.length_append, List.length_append, List.length_drop, List.length_drop]
      omega
  · cases h
theorem PrtOk.lp {D : Prt} (h : PrtOk D) : lp D.1 D.2.1 ≤ D.2.2 := by
  have q1 := h.h0
  have q2 := h.h1
  unfold SE.lp
  split <;> omega
theorem cutF_to {α : Type} (f : α → V) (xs : List α) (j : Nat) : cutV (xs.map f) none (some (j : Int)) = (xs.take j).map f := by
  unfold cutV
  rw [List.length_map]
  have e1 : HT.sIx xs.length 0 none = 0 := rfl
  rw [e1, HT.sIx_nat, List.drop_zero, Nat.sub_zero, ← List.map_take]
  congr 1
  by_cases c : j ≤ xs.length
  · rw [Nat.min_eq_left c]
  · rw [Nat.min_eq_right (by omega), List.take_length, List.take_of_length_le (by omega)]
theorem cutF_from {α : Type} (f : α → V) (xs : List α) (j : Nat) : cutV (xs.map f) (some (j : Int)) none = (xs.drop j).map f := by
  unfold cutV
  rw [List.length_map]
  have e1 : HT.sIx xs.length xs.length none = xs.length := rfl
  rw [e1, HT.sIx_nat, ← List.map_drop, ← List.map_take]
  congr 1
  by_cases c : j ≤ xs.length
  · rw [Nat.min_eq_left c, List.take_of_length_le (by rw [List.length_drop]; exact Nat.le_refl _)]
  · rw [Nat.min_eq_right (by omega), List.drop_of_length_le (Nat.le_refl _), List.drop_of_length_le (by omega), List.take_nil]
theorem min_int (a b : Nat) : (if (b : Int) < (a : Int) then (b : Int) else (a : Int)) = ((min a b : Nat) : Int) := by
  split <;> omega
/-- a part as a tuple -/
def PrtV (K : PySem.W.Frag) (H : Hp) (v : V) (B : Prt) : Prop := ∃ t a b, v = .ref t ∧ SqT K H t [.ref a, .ref b, .int B.2.2] ∧ SqT K H a (B.1.map V.str) ∧ SqT K H b (B.2.1.map V.str)
theorem PrtV.same {K : PySem.W.Frag} {H H' : Hp} {v : V} {B : Prt} (h : PrtV K H v B) (s : Same H H') : PrtV K H' v B := by
  obtain ⟨t, a, b, e, h1, h2, h3⟩ := h
  exact ⟨t, a, b, e, Same.tup s h1, Same.tup s h2, Same.tup s h3⟩
section
variable {P : Program} {w : World} {K : PySem.W.Frag} {mg : Str → Option Value} {base : Heap} {C : Addr}
/-! ### joined -/
def spJoin (K : PySem.W.Frag) (C : Addr) : Sp := fun vs H Q _ => ∃ (a : Addr) (us : List V) (ps : List Prt), vs = [.ref a] ∧ SqL K H a us ∧ Paired (PrtV K H) us ps ∧ (∀ B ∈ ps, PrtOk B) ∧ szP ps ≤ 5000 ∧ ∀ (e : Addr) (H' : Hp), Same H H' → EffV K C H' e (joinM ps) → Q (.ref e) H'
theorem scJo : FnScope ["parts", "pops", "pushes", "peak", "needed", "left", "highest", "shared"] ["parts"] (defScope sJoined) := ⟨rfl, rfl, rfl, by decide +kernel, rfl, by decide +kernel, by decide +kernel⟩
theorem paired_at {α β : Type} {F : α → β → Prop} : ∀ {l₁ : List α} {l₂ : List β} {i : Nat} {x : α}, Paired F l₁ l₂ → l₁[i]? = some x → ∃ y, l₂[i]? = some y ∧ F x y
  | _, _, _, _, .nil, h => by simp at h
  | _, _, 0, _, .cons r _, h => ⟨_, rfl, by cases h; exact r⟩
  | _, _, i + 1, _, .cons _ t, h => by
    obtain ⟨y, h1, h2⟩ := paired_at t (i := i) h
    exact ⟨y, h1, h2⟩
theorem paired_len {α β : Type} {F : α → β → Prop} : ∀ {l₁ : List α} {l₂ : List β}, Paired F l₁ l₂ → l₁.length = l₂.length
  | _, _, .nil => rfl
  | _, _, .cons _ t => congrArg Nat.succ (paired_len t)
theorem has_join (D : Def K mg "joined" sJoined) (T : EC K mg C) (M : Makes P w K mg base C) (GN : NeverHas P w K mg base C) (B : Blt mg) (mx : mg "max" = none) (mn : mg "min" = none) : Has P w K mg base "joined" 7 ["parts"] [] (spJoin K C) := by
  refine has_of D scJo (fun _ _ _ _ _ _ us hl => match us, hl with | [_], _ => rfl) (fun xs H Q E h => ?_) (fun f cv A out s H xs Q E hr h => ?_)
  · obtain ⟨a, us, ps, rfl, _⟩ := h
    rfl
  · obtain ⟨a, us, ps, rfl, hS, hV, hO, hz, k⟩ := h
    have hr5 : Room 5 _ := hr.mono (by decide)
    refine ⟨_, pss_cons (ps_asg (pe_tup (pa_cons (pe_tup pa_nil) (pa_cons (pe_tup pa_nil) (pa_cons pe_int pa_nil)))) (pg_tup (by rfl) (pgs_cons (pg_name (i := 1) scJo.nd rfl (.inl rfl)) (pgs_cons (pg_name (i := 2) scJo.nd rfl (.inl rfl)) (pgs_cons (pg_name (i := 3) scJo.nd rfl (.inl rfl)) pgs_nil)))))
      (pss_cons (ps_for PassesOwn.never rfl (pi_list (pv 0)) (pg_tup (by rfl) (pgs_cons (pg_name (i := 4) scJo.nd rfl (.inl rfl)) (pgs_cons (pg_name (i := 5) scJo.nd rfl (.inl rfl)) (pgs_cons (pg_name (i := 6) scJo.nd rfl (.inl rfl)) pgs_nil))))
        (pss_cons (ps_set (i := 7) scJo.nd rfl (.inl rfl) (pe_callB (call_min2 rfl) (by rfl) mn (by decide +kernel) (pa_cons (pe_callB call_len_seq (by rfl) B.len PySem.boot_len (pa_cons (pv 2) pa_nil)) (pa_cons (pe_callB call_len_seq (by rfl) B.len PySem.boot_len (pa_cons (pv 4) pa_nil)) pa_nil))))
        (pss_cons (ps_if (pt_cut (pt_cmpR (op_neD hr.units) (pe_slice sl_tupS (pv 2) po_none (po_some (pv 7))) (pe_slice sl_tupS (pv 4) po_none (po_some (pv 7))) (nomark _))) (pss_one (ps_ret (pe_never0 GN T.mgE hr))) pss_nil)
        (pss_cons (ps_set (i := 3) scJo.nd rfl (.inl rfl) (pe_callB (call_max2 rfl) (by rfl) mx (by decide +kernel) (pa_cons (pv 3) (pa_cons (pe_op op_add (pe_op op_sub (pe_callB call_len_seq (by rfl) B.len PySem.boot_len (pa_cons (pv 2) pa_nil)) (pe_callB call_len_seq (by rfl) B.len PySem.boot_len (pa_cons (pv 1) pa_nil))) (pv 6)) pa_nil))))
        (pss_cons (ps_set (i := 1) scJo.nd rfl (.inl rfl) (pe_op op_catS (pv 1) (pe_slice sl_tupS (pv 4) (po_some (pv 7)) po_none)))
        (pss_one (ps_set (i := 2) scJo.nd rfl (.inl rfl) (pe_op op_catS (pv 5) (pe_slice sl_tupS (pv 2) (po_some (pv 7)) po_none)))))))))
      (pss_one (ps_ret (pe_effK M T.mgE hr5 (pa_cons (pv 1) (pa_cons (pv 2) pa_nil)) (pv 3))))), ?_⟩
    refine ⟨Nat.zero_le _, fun t1 ht1 => ⟨Nat.zero_le _, fun t2 ht2 => ?_⟩⟩
    have n12 : t1 ≠ t2 := ne_of_none upd_same ht2
    have s0 : Same H (upd (upd H t1 (.tup [])) t2 (.tup [])) := Same.free2 (Same.new ht1) ((Same.new ht1).free ht2)
    have shp : ∀ {zs : List Str}, (∀ z ∈ zs, Item z) → SeqAt.shaped (.tuple (zs.map PyData.str)) = true := fun {zs} q => (nice_tuple (nice_strs q)).shaped (by decide)
    refine ⟨(by show 3 ≤ sizeLine; decide), fun t3 ht3 => ⟨t3, _, rfl, .of upd_same, rfl, _, _, rfl, _, _, rfl, _, _, rfl, rfl, ?_⟩⟩
    have s00 := Same.new (o := .tup [.ref t1, .ref t2, .int 0]) ht3
    generalize upd (upd (upd H t1 (.tup [])) t2 (.tup [])) t3 (.tup [.ref t1, .ref t2, .int 0]) = H1 at s00 ⊢
    have w1 : SqT K H1 t1 (([] : List Str).map V.str) := Same.tup s00 (.of (by rw [upd_ne n12]; exact upd_same))
    have w2 : SqT K H1 t2 (([] : List Str).map V.str) := Same.tup s00 (.of upd_same)
    replace s0 := s0.trans s00
    refine ⟨_, rfl, a, rfl, ⟨_, Same.seq s0 hS⟩, for_list (K := K) (a := a) (xs := us) (fun i σ H2 => ∃ (u v : Addr) (A : Prt) (y4 y5 y6 y7 : Option V), σ = [some (.ref a), some (.ref u), some (.ref v), some (.int A.2.2), y4, y5, y6, y7] ∧ Same H H2 ∧ SqT K H2 u (A.1.map V.str) ∧ SqT K H2 v (A.2.1.map V.str) ∧ PrtOk A ∧ joinM ps = joinF A (ps.drop i) ∧ A.1.length + A.2.1.length + szP (ps.drop i) ≤ 5000)
      ⟨t1, t2, ([], [], 0), none, none, none, none, rfl, s0, w1, w2, ⟨fun z m => (by cases m), fun z m => (by cases m), Int.le_refl _, Int.le_refl _⟩, rfl, by rw [List.drop_zero]; show 0 + 0 + szP ps ≤ 5000; omega⟩ (fun i σ H2 _ q => ?_) ?_ ?_⟩
    · obtain ⟨_, _, _, _, _, _, _, _, s2, _⟩ := q
      exact Same.seq s2 hS
    · rintro i x σ H2 hx ⟨u, v, A, y4, y5, y6, y7, rfl, s2, hu, hv, oA, hj, hsz⟩
      obtain ⟨Bp, hB, hP⟩ := paired_at hV hx
      obtain ⟨t, p1, p2, rfl, q1, q2, q3⟩ := hP.same s2
      have oB := hO Bp (List.mem_of_getElem? hB)
      have hd : ps.drop i = Bp :: ps.drop (i + 1) := by
        obtain ⟨hl, he⟩ := List.getElem?_eq_some_iff.mp hB
        rw [List.drop_eq_getElem_cons hl, he]
      have hsz2 : A.1.length + A.2.1.length + (Bp.1.length + Bp.2.1.length) + szP (ps.drop (i + 1)) ≤ 5000 := by
        rw [hd] at hsz
        have e : szP (Bp :: ps.drop (i + 1)) = Bp.1.length + Bp.2.1.length + szP (ps.drop (i + 1)) := by
          unfold szP
          rw [List.map_cons, List.sum_cons]
        omega
      refine ⟨t, _, rfl, q1, rfl, _, _, rfl, _, _, rfl, _, _, rfl, rfl, ?_⟩
      refine ⟨_, rfl, v, _, rfl, .inr hv, _, rfl, p1, _, rfl, .inr q2, _, _, rfl, ?_⟩
      rw [List.length_map, List.length_map, min_int]
      -- do they fit
      refine ⟨fun b H3 => b = !decide (A.2.1.take (min A.2.1.length Bp.1.length) = Bp.1.take (min A.2.1.length Bp.1.length)) ∧ Same H2 H3, ?_, ?_⟩
      · refine ⟨_, rfl, _, rfl, _, rfl, v, _, rfl, hv, fun c1 H3 s3 hc1 => ⟨_, rfl, _, rfl, _, rfl, p1, _, rfl, Same.tup s3 q2, fun c2 H4 s4 hc2 => ?_⟩⟩
        rw [cutF_to] at hc1 hc2
        refine ⟨.tuple ((A.2.1.take (min A.2.1.length Bp.1.length)).map .str), .tuple ((Bp.1.take (min A.2.1.length Bp.1.length)).map .str), .tup (Same.tup s4 hc1) (dp_strs _), .tup hc2 (dp_strs _), shp (fun z m => oA.i2 z (List.mem_of_mem_take m)), shp (fun z m => oB.i1 z (List.mem_of_mem_take m)), _, rfl, ?_, s3.trans s4⟩
        rw [eqv_tupS]
      rintro b H3 ⟨rfl, s3⟩
      have s23 := s2.trans s3
      by_cases c : A.2.1.take (min A.2.1.length Bp.1.length) = Bp.1.take (min A.2.1.length Bp.1.length)
      rotate_left
      · rw [decide_eq_false c]
        refine iteT ⟨rfl, rfl, fun e H4 s4 he => k e H4 (s23.trans s4) ?_⟩
        have ej : joinM ps = none := by
          rw [hj, hd]
          unfold joinF comp
          rw [if_neg c]
        rw [ej]
        exact he
      rw [decide_eq_true c]
      refine iteF ?_
      refine ⟨_, rfl, _, rfl, v, _, rfl, .inr (Same.tup s3 hv), _, rfl, u, _, rfl, .inr (Same.tup s3 hu), _, _, rfl, rfl, _, rfl, _, _, rfl, rfl, _, _, rfl, ?_⟩
      rw [List.length_map, List.length_map]
      refine ⟨_, rfl, _, rfl, _, rfl, _, rfl, p1, _, rfl, Same.tup s3 q2, fun c1 H4 s4 hc1 => ?_⟩
      rw [cutF_from] at hc1
      refine ⟨u, c1, _, _, rfl, rfl, Same.tup (s3.trans s4) hu, hc1, ?_, fun u2 H5 s5 hu2 => ?_⟩
      · rw [List.length_map, List.length_map, List.length_drop, sizeLine_eq]
        omega
      have s35 := (s3.trans s4).trans s5
      refine ⟨_, rfl, _, rfl, _, rfl, _, rfl, v, _, rfl, Same.tup s35 hv, fun c2 H6 s6 hc2 => ?_⟩
      rw [cutF_from] at hc2
      refine ⟨p2, c2, _, _, rfl, rfl, Same.tup (s35.trans s6) q3, hc2, ?_, fun v2 H7 s7 hv2 => ?_⟩
      · rw [List.length_map, List.length_map, List.length_drop, sizeLine_eq]
        omega
      obtain ⟨Dp, hD⟩ : ∃ Dp, comp A Bp = some Dp := by
        unfold comp
        rw [if_pos c]
        exact ⟨_, rfl⟩
      have oD := comp_ok oA oB hD
      have e1 : Dp.1 = A.1 ++ Bp.1.drop (min A.2.1.length Bp.1.length) ∧ Dp.2.1 = Bp.2.1 ++ A.2.1.drop (min A.2.1.length Bp.1.length) ∧ Dp.2.2 = if (A.2.1.length : Int) - (A.1.length : Int) + Bp.2.2 > A.2.2 then (A.2.1.length : Int) - (A.1.length : Int) + Bp.2.2 else A.2.2 := by
        unfold comp at hD
        rw [if_pos c] at hD
        cases hD
        exact ⟨rfl, rfl, rfl⟩
      rw [← List.map_append, ← e1.1] at hu2
      rw [← List.map_append, ← e1.2.1] at hv2
      refine ⟨u2, v2, Dp, some (.ref p1), some (.ref p2), some (.int Bp.2.2), some (.int ((min A.2.1.length Bp.1.length : Nat) : Int)), ?_, s2.trans ((s35.trans s6).trans s7), Same.tup (s6.trans s7) hu2, hv2, oD.1, ?_, ?_⟩
      · rw [e1.2.2]
        rfl
      · rw [hj, hd]
        conv => lhs; unfold joinF
        rw [hD]
      · have := oD.2
        omega
    · rintro σ H2 ⟨u, v, A, y4, y5, y6, y7, rfl, s2, hu, hv, oA, hj, hsz⟩
      rw [paired_len hV, List.drop_length] at hj
      refine ⟨_, rfl, _, rfl, _, rfl, u, v, A.1, A.2.1, some A.2.2, rfl, rfl, hu, hv, by omega, by omega, oA.i1, oA.i2, fun p z => ?_, fun e H3 s3 _ he => ?_⟩
      · cases z
        exact oA.lp
      · refine k e H3 (s2.trans s3) ?_
        rw [hj]
        exact he
end
end SE
namespace SE
open PySem PySem.Spec PyProof.Rows L2
/-! ### effect_of -/
def partM (s : Stp) : Prt := if s.1 = true then ([], [s.2], 1) else ([s.2], [], 0)
def effM (ss : List Stp) : Eff := joinM (ss.map partM)
theorem partM_ok {s : Stp} (h : Item s.2) : PrtOk (partM s) := by
  unfold partM
  split
  · exact ⟨fun z m => (by cases m), fun z m => (by rw [List.mem_singleton.mp m]; exact h), (by show (0 : Int) ≤ 1; decide), (by show ((1 : Nat) : Int) - ((0 : Nat) : Int) ≤ 1; decide)⟩
  · exact ⟨fun z m => (by rw [List.mem_singleton.mp m]; exact h), fun z m => (by cases m), (by show (0 : Int) ≤ 0; decide), (by show ((0 : Nat) : Int) - ((1 : Nat) : Int) ≤ 0; decide)⟩
theorem szP_steps : ∀ ss : List Stp, szP (ss.map partM) = ss.length
  | [] => rfl
  | s :: ss => by
    have ih := szP_steps ss
    unfold szP at ih ⊢
    rw [List.map_cons, List.map_cons, List.sum_cons, ih, List.length_cons]
    unfold partM
    split
    · show 0 + 1 + ss.length = _
      omega
    · show 1 + 0 + ss.length = _
      omega
theorem tup_updL {K : PySem.W.Frag} {H : Hp} {D t : Addr} {xs us : List V} {o : HO} (hD : H D = some (.lst us)) (h : SqT K H t xs) : SqT K (upd H D o) t xs := by
  rcases h with (h | ⟨p, h⟩) | h
  · exact .inl (.inl (by rw [upd_ne (ne_of h hD (by intro z; cases z))]; exact h))
  · exact .inl (.inr ⟨p, by rw [upd_ne (ne_of h hD (by intro z; cases z))]; exact h⟩)
  · exact .inr h
theorem PrtV.updL {K : PySem.W.Frag} {H : Hp} {D : Addr} {us : List V} {v : V} {B : Prt} {o : HO} (hD : H D = some (.lst us)) (h : PrtV K H v B) : PrtV K (upd H D o) v B := by
  obtain ⟨t, a, b, e, h1, h2, h3⟩ := h
  exact ⟨t, a, b, e, tup_updL hD h1, tup_updL hD h2, tup_updL hD h3⟩
theorem Paired.snoc2 {α β : Type} {F : α → β → Prop} : ∀ {l₁ : List α} {l₂ : List β} {x : α} {y : β}, Paired F l₁ l₂ → F x y → Paired F (l₁ ++ [x]) (l₂ ++ [y])
  | _, _, _, _, .nil, h => .cons h .nil
  | _, _, _, _, .cons r t, h => .cons r (Paired.snoc2 t h)
section
variable {P : Program} {w : World} {K : PySem.W.Frag} {mg : Str → Option Value} {base : Heap} {C : Addr}
def spPart (K : PySem.W.Frag) : Sp := fun vs H Q _ => ∃ (v : V) (s : Stp), vs = [v] ∧ StepV K H v s ∧ ∀ (u : V) (H' : Hp), Same H H' → PrtV K H' u (partM s) → Q u H'
theorem scPt : FnScope ["step", "action", "item"] ["step"] (defScope sPartsOfStep) := ⟨rfl, rfl, rfl, by decide +kernel, rfl, by decide +kernel, by decide +kernel⟩
theorem has_part (D : Def K mg "parts_of_step" sPartsOfStep) : Has P w K mg base "parts_of_step" 1 ["step"] [] (spPart K) := by
  refine has_of D scPt (fun _ _ _ _ _ _ us hl => match us, hl with | [_], _ => rfl) (fun xs H Q E h => ?_) (fun f cv A out s H xs Q E hr h => ?_)
  · obtain ⟨v, st, rfl, _⟩ := h
    rfl
  · obtain ⟨v, st, rfl, ⟨t, rfl, hT⟩, k⟩ := h
    refine ⟨_, pss_cons (ps_asg (pv 0) (pg_tup (by rfl) (pgs_cons (pg_name (i := 1) scPt.nd rfl (.inl rfl)) (pgs_cons (pg_name (i := 2) scPt.nd rfl (.inl rfl)) pgs_nil))))
      (pss_one (ps_ret (pe_ifExp (pt_cmpR op_eq (pv 1) pe_str (nomark _)) (pe_tup (pa_cons (pe_tup pa_nil) (pa_cons (pe_tup (pa_cons (pv 2) pa_nil)) (pa_cons pe_int pa_nil)))) (pe_tup (pa_cons (pe_tup (pa_cons (pv 2) pa_nil)) (pa_cons (pe_tup pa_nil) (pa_cons pe_int pa_nil))))))), ?_⟩
    refine ⟨_, rfl, t, _, rfl, hT, rfl, _, _, rfl, _, _, rfl, rfl, ?_⟩
    obtain ⟨b, z⟩ := st
    cases b with
    | true =>
      refine ⟨_, rfl, rfl, true, congrArg V.bl (decide_eq_true (show V.str (act true) = V.str "push" from rfl)), iteT ?_⟩
      refine ⟨Nat.zero_le _, fun a ha => ⟨_, rfl, (by show 1 ≤ sizeLine; decide), fun c hc => ⟨(by show 3 ≤ sizeLine; decide), fun q hq => ?_⟩⟩⟩
      have nac : a ≠ c := ne_of_none upd_same hc
      have naq : a ≠ q := ne_of_none (by rw [upd_ne nac]; exact upd_same) hq
      have ncq : c ≠ q := ne_of_none upd_same hq
      refine k (.ref q) _ ?_ ⟨q, a, c, rfl, .of upd_same, .of ?_, .of ?_⟩
      · exact Same.free2 (Same.free2 (Same.new ha) ((Same.new ha).free hc)) ((Same.free2 (Same.new ha) ((Same.new ha).free hc)).free hq)
      · rw [upd_ne naq, upd_ne nac]
        exact upd_same
      · rw [upd_ne ncq]
        exact upd_same
    | false =>
      refine ⟨_, rfl, rfl, false, congrArg V.bl (decide_eq_false (fun y => absurd (V.str.inj (show V.str (act false) = V.str "push" from y)) (by decide +kernel))), iteF ?_⟩
      refine ⟨_, rfl, (by show 1 ≤ sizeLine; decide), fun a ha => ⟨Nat.zero_le _, fun c hc => ⟨(by show 3 ≤ sizeLine; decide), fun q hq => ?_⟩⟩⟩
      have nac : a ≠ c := ne_of_none upd_same hc
      have naq : a ≠ q := ne_of_none (by rw [upd_ne nac]; exact upd_same) hq
      have ncq : c ≠ q := ne_of_none upd_same hq
      refine k (.ref q) _ ?_ ⟨q, a, c, rfl, .of upd_same, .of ?_, .of ?_⟩
      · exact Same.free2 (Same.free2 (Same.new ha) ((Same.new ha).free hc)) ((Same.free2 (Same.new ha) ((Same.new ha).free hc)).free hq)
      · rw [upd_ne naq, upd_ne nac]
        exact upd_same
      · rw [upd_ne ncq]
        exact upd_same
def spEffOf (K : PySem.W.Frag) (C : Addr) : Sp := fun vs H Q _ => ∃ (a : Addr) (ys : List V) (ss : List Stp), vs = [.ref a] ∧ SqL K H a ys ∧ ys.length ≤ 1000 ∧ StepsV K H ys ss ∧ (∀ s ∈ ss, Item s.2) ∧ ∀ (e : Addr) (H' : Hp), Same H H' → EffV K C H' e (effM ss) → Q (.ref e) H'
theorem scEo : FnScope ["steps", "step"] ["steps"] (defScope sEffectOf) := ⟨rfl, rfl, rfl, by decide +kernel, rfl, by decide +kernel, by decide +kernel⟩
theorem has_effOf (D : Def K mg "effect_of" sEffectOf) (GC : Has P w K mg base "check_steps" 3 ["steps"] [] (spChkSteps K)) (GP : Has P w K mg base "parts_of_step" 1 ["step"] [] (spPart K)) (GJ : Has P w K mg base "joined" 7 ["parts"] [] (spJoin K C)) :
    Has P w K mg base "effect_of" 8 ["steps"] [] (spEffOf K C) := by
  refine has_of D scEo (fun _ _ _ _ _ _ us hl => match us, hl with | [_], _ => rfl) (fun xs H Q E h => ?_) (fun f cv A out s H xs Q E hr h => ?_)
  · obtain ⟨a, ys, ss, rfl, _⟩ := h
    rfl
  · obtain ⟨a, ys, ss, rfl, hS, hl, hV, hI, k⟩ := h
    have hr1 : Room 1 _ := hr.mono (by decide)
    have hr3 : Room 3 _ := hr.mono (by decide)
    have hln : ys.length = ss.length := hV.length
    refine ⟨_, pss_cons (ps_expr (pe_has GC hr3 (pa_cons (pv 0) pa_nil))) (pss_one (ps_ret (pe_has GJ hr (pa_cons
      (pe_lc (own := [("step", 1)]) (g := gName 1) (tt := tYes) (te := tCall (spPart K) [] E0 (tCons (tVar 1) tNil)) rfl scEo.nd (pi_list (pv 0)) (blkOk_by (own := [("step", 1)]) (N := ["steps", "step"]) (sc := defScope sEffectOf) (by decide +kernel))
        (fun _ _ _ _ _ => pg_name (i := 1) scEo.nd rfl (.inl rfl)) (fun _ _ _ _ _ => pts_nil) (fun _ _ _ _ _ => pe_has GP hr1 (pa_cons (pv 1) pa_nil))) pa_nil)))), ?_⟩
    refine ⟨_, rfl, a, ys, ss, rfl, .inl hS, hl, hV, hI, fun H1 s1 => ?_⟩
    refine ⟨_, rfl, a, rfl, ⟨_, Same.seq s1 hS⟩, fun D hD => lc_list (K := K) (a := a) (xs := ys) (fun j H2 => ∃ us, H2 D = some (.lst us) ∧ Paired (PrtV K H2) us ((ss.take j).map partM) ∧ Same H1 H2) ⟨[], upd_same, .nil, Same.new hD⟩ (fun j H2 _ q => ?_) ?_ ?_⟩
    · obtain ⟨_, _, _, s2⟩ := q
      exact Same.seq (s1.trans s2) hS
    · rintro j x H2 hx ⟨us, hu, hP, s2⟩
      obtain ⟨st, h1, h2⟩ := StepsV.at hV hx
      refine ⟨rfl, yes_in ⟨_, rfl, x, st, rfl, h2.same (s1.trans s2), fun u H3 s3 hp => ⟨us, s3 _ _ hu, ?_, us ++ [u], upd_same, ?_, ?_⟩⟩⟩
      · have l2 := paired_len hP
        rw [List.length_map, List.length_take] at l2
        rw [sizeLine_eq]
        omega
      · have e1 : (ss.take (j + 1)).map partM = (ss.take j).map partM ++ [partM st] := by
          rw [List.take_add_one, h1, List.map_append]
          rfl
        rw [e1]
        have hu3 := s3 _ _ hu
        exact Paired.snoc2 (Paired.mapP hP fun v B q => (q.same s3).updL hu3) (hp.updL hu3)
      · exact Same.free2 (s2.trans s3) hD
    · rintro H2 ⟨us, hu, hP, s2⟩
      rw [hln, List.take_length] at hP
      refine ⟨D, us, ss.map partM, rfl, .of hu, hP, fun Bp m => ?_, ?_, fun e H3 s3 he => k e H3 ((s1.trans s2).trans s3) he⟩
      · obtain ⟨st, ms, rfl⟩ := List.mem_map.mp m
        exact partM_ok (hI st ms)
      · rw [szP_steps]
        omega
end
end SE
/-! == and != by an own __eq__, whatever it answers; repr by an own __repr__. -/
namespace SE
open PySem PySem.Spec PyProof.Rows L2
section
variable {prog : Program} {w : World} {A : Around} {E : Value → Shared → Prop} {s : Shared} {K : PySem.W.Frag} {x y C f : Addr} {ox oy : Obj} {od oe : Option Obj} {Q : Value → Shared → Prop}
/-- a special method that is a built-in's slot -/
theorem bound_slot {M : Model} {name : Str} {id : String} {args : List Value} {R : Option Value → Shared → Prop} (X : K.In s.heap) (I : PySem.W.InstAt s.heap x ox C od) (hs : PySem.W.findIn K (.ref C) name = some (some (.builtin id)))
    (hb : ∀ v, bindSpecial (.builtin id) v = pure (.builtin id, [v])) (h : wpAny M A (call (.builtin id) (.ref x :: args)) (fun v => R (some v)) E s) : wpAny M A (callSpecialIfBound? (.ref x) name args) R E s := by
  simp only [callSpecialIfBound?, bindSpecialIfBound?]
  refine wpAny_holding (wpAny_bind (wpAny_bind (wpAny_bind (I.type.here ((PySem.W.looks_findIn X hs).here (wpAny_bind (wpAny_askSetting (wpAny_ite ?_))))))))
  have last : wpAny M A (call (.builtin id) ([.ref x] ++ args) >>= fun v => pure (some v)) R E s := wpAny_bind (wpAny_mono h (fun v s2 z => wpAny_pure z) fun _ _ z => z)
  split
  · exact wpAny_bind ((PySem.W.Looks.of_pure (hb _)).here (wpAny_pure (by exact last)))
  · exact wpAny_tryCatch (wpAny_bind ((PySem.W.Looks.of_pure (hb _)).here (wpAny_pure (by exact last))))
open Builtin in
theorem ne_call {v : Value} (hu : A.in1.units < cLine) (X : K.In s.heap) (I : PySem.W.InstAt s.heap x ox C od) (hm : PySem.W.mroIn K C (.type "object") = some true) (hs : PySem.W.findIn K (.ref C) "__eq__" = some (some (.ref f))) (hf : PySem.W.isFn K (.ref f) = true)
    (h : wpAny (model prog w) A.in1 (call (.ref f) [.ref x, v]) (fun r s2 => ∃ b, r = .bool b ∧ Q (.bool (!b)) s2) E s) : wpAny (model prog w) A (call (.builtin "object.__ne__") [.ref x, v]) Q E s := by
  refine wpAny_call (codeAny_call_builtin PySem.F.cmp_object.ne.plain PySem.F.cmpEntry_ne (PySem.W.check_slot PySem.F.cmpKind_ne PySem.F.cmpSplit_ne (I.type.andThen (PySem.W.looks_mroIn X hm)) (PySem.F.cmpArgs_ne _ _) ?_))
  unfold Builtin.«object.__ne__»
  refine wpAny_bind (m := slotArgs "__ne__" 1 _) (wpAny_pure ?_)
  refine wpAny_bind (m := cRoomFor _ _) (wpAny_cRoomFor hu ?_)
  refine wpAny_bind (m := callSpecialIfBound? (.ref x) (Str.ofString "__eq__") _) (PySem.W.ifBound_K X I hs hf (wpAny_mono h (fun r s2 z => ?_) fun _ _ z => z))
  obtain ⟨b, rfl, q⟩ := z
  exact wpAny_bind (wpAny_truthy_bool (wpAny_pure q))
theorem ne_inst (hu : A.units + 1 < cLine) (X : K.In s.heap) (I : PySem.W.InstAt s.heap x ox C od) (J : PySem.W.InstAt s.heap y oy C oe) (hm : PySem.W.mroIn K C (.type "object") = some true)
    (hn : PySem.W.findIn K (.ref C) "__ne__" = some (some (.builtin "object.__ne__"))) (hs : PySem.W.findIn K (.ref C) "__eq__" = some (some (.ref f))) (hf : PySem.W.isFn K (.ref f) = true)
    (h : wpAny (model prog w) A.in1 (call (.ref f) [.ref x, .ref y]) (fun r s2 => ∃ b, r = .bool b ∧ Q (.bool (!b)) s2) E s) : wpAny (model prog w) A (richCompare .NotEq (.ref x) (.ref y)) Q E s := by
  have one : wpAny (model prog w) A (tryCompare (.ref x) (cmpInfo .NotEq).2.1 (.ref y)) (fun r s2 => ∃ v, r = some v ∧ Q v s2) E s := by
    unfold tryCompare
    refine wpAny_bind (bound_slot X I hn PySem.F.cmp_object.ne.bind (ne_call hu X I hm hs hf (wpAny_mono h (fun v s2 z => ?_) fun _ _ z => z)))
    obtain ⟨b, rfl, q⟩ := z
    exact ⟨b, rfl, wpAny_pure ⟨_, rfl, q⟩⟩
  unfold richCompare
  simp only [oneThing_ref]
  refine wpAny_holding (wpAny_bind (wpAny_cRoomFor (Nat.lt_of_succ_lt hu) (wpAny_bind (I.type.here (wpAny_bind (J.type.here ?_))))))
  rw [show (Value.ref C != Value.ref C) = false by simp]
  simp only [Bool.false_eq_true, if_false]
  refine wpAny_bind (wpAny_pure ?_)
  simp only [Bool.false_eq_true, if_false]
  refine wpAny_bind (wpAny_mono one (fun r s2 z => ?_) fun _ _ z => z)
  obtain ⟨v, rfl, q⟩ := z
  exact wpAny_pure q
end
/-! ### the rules -/
/-- what an own == promises -/
def spEqB (R : Addr → Addr → Bool → Hp → Prop) : Sp := fun vs H Q _ => ∃ (a b : Addr) (c : Bool), vs = [.ref a, .ref b] ∧ R a b c H ∧ ∀ H', Same H H' → Q (.bl c) H'
def rCmp (C : Addr) (R : Addr → Addr → Bool → Hp → Prop) (neg : Bool) : R2 := fun x y H Q => ∃ (a b : Addr) (c : Bool) (dx dy : Addr) (fs gs : List (Str × V)), x = .ref a ∧ y = .ref b ∧ H a = some (.ins C dx fs) ∧ H b = some (.ins C dy gs) ∧ R a b c H ∧ ∀ H', Same H H' → Q (.bl (c != neg)) H'
section
variable {X : Cx} {n : Nat} {C f : Addr} {fd : FuncData} {ps : List Str} {R : Addr → Addr → Bool → Hp → Prop}
theorem op_eqE (F : FnOk X.prog X.w X.K X.mg X.base CX0 n f fd ps (spEqB R)) (hs : PySem.W.findIn X.K (.ref C) "__eq__" = some (some (.ref f))) (hf : PySem.W.isFn X.K (.ref f) = true) (hb : Binds X.K fd ps []) (hr : Room n X.A) : OpR X (compareOp .Eq) (rCmp C R false) := by
  intro pins s σ H x y u v Q I rx ry hq
  obtain ⟨a, b, c, dx, dy, fs, gs, rfl, rfl, ha, hb2, hR, k⟩ := hq
  cases rx
  cases ry
  obtain ⟨mA, J, _⟩ := ins_get I.hok ha
  obtain ⟨mB, J2, _⟩ := ins_get I.hok hb2
  obtain ⟨od, J, _⟩ := J.look
  obtain ⟨oe, J2, _⟩ := J2.look
  obtain ⟨m, hF⟩ := I.fr
  show wpAny (model X.prog X.w) X.A (richCompare .Eq (.ref a) (.ref b)) (EP X pins σ Q) X.xe s
  refine PySem.W.cmp_K (op := .Eq) (tb := .ref C) hr.units0 hF I.ok.mod.kin J J2.type (by simp [PySem.W.notFirst]) hs hf ?_
  have hsp : spEqB R [.ref a, .ref b] H (fun z H' => z = .bl c ∧ Same H H') (fun _ _ _ => False) := ⟨a, b, c, rfl, hR, fun H' e => ⟨rfl, e⟩⟩
  have hl := F.len _ _ _ _ hsp
  refine wpAny_call (codeAny_mono (F.run X.A X.stack s H ⟨[.ref a, .ref b], []⟩ [.ref a, .ref b] [.ref a, .ref b] _ _ hr I.env0 (by simpa using hb s [.ref a, .ref b] I.kIn (by simpa using hl)) (.cons rfl (.cons rfl .nil)) hsp) fun r s2 hq => ?_)
  cases r with
  | error e => exact hq.elim
  | ok fl =>
    cases fl with
    | ret z =>
      obtain ⟨y, H2, I2, rz, ez, ex⟩ := I.after hq
      subst ez
      cases rz
      refine ⟨.bl c, H2, I2, rfl, ?_⟩
      have q := k H2 ex
      rw [show (c != false) = c by cases c <;> rfl] at q
      exact q
    | next => exact hq.elim
    | brk => exact hq.elim
    | cont => exact hq.elim
theorem op_neE (F : FnOk X.prog X.w X.K X.mg X.base CX0 n f fd ps (spEqB R)) (hs : PySem.W.findIn X.K (.ref C) "__eq__" = some (some (.ref f))) (hf : PySem.W.isFn X.K (.ref f) = true) (hb : Binds X.K fd ps []) (hm : PySem.W.mroIn X.K C (.type "object") = some true)
    (hn : PySem.W.findIn X.K (.ref C) "__ne__" = some (some (.builtin "object.__ne__"))) (hr : Room (n + 1) X.A) : OpR X (compareOp .NotEq) (rCmp C R true) := by
  intro pins s σ H x y u v Q I rx ry hq
  obtain ⟨a, b, c, dx, dy, fs, gs, rfl, rfl, ha, hb2, hR, k⟩ := hq
  cases rx
  cases ry
  obtain ⟨mA, J, _⟩ := ins_get I.hok ha
  obtain ⟨mB, J2, _⟩ := ins_get I.hok hb2
  obtain ⟨od, J, _⟩ := J.look
  obtain ⟨oe, J2, _⟩ := J2.look
  show wpAny (model X.prog X.w) X.A (richCompare .NotEq (.ref a) (.ref b)) (EP X pins σ Q) X.xe s
  refine ne_inst (by have := hr.in1.units0; exact this) I.kIn J J2 hm hn hs hf ?_
  have hsp : spEqB R [.ref a, .ref b] H (fun z H' => z = .bl c ∧ Same H H') (fun _ _ _ => False) := ⟨a, b, c, rfl, hR, fun H' e => ⟨rfl, e⟩⟩
  have hl := F.len _ _ _ _ hsp
  refine wpAny_call (codeAny_mono (F.run X.A.in1 X.stack s H ⟨[.ref a, .ref b], []⟩ [.ref a, .ref b] [.ref a, .ref b] _ _ hr.in1 I.env0.in1 (by simpa using hb s [.ref a, .ref b] I.kIn (by simpa using hl)) (.cons rfl (.cons rfl .nil)) hsp) fun r s2 hq => ?_)
  cases r with
  | error e => exact hq.elim
  | ok fl =>
    cases fl with
    | ret z =>
      obtain ⟨y, H2, I2, rz, ez, ex⟩ := I.after hq
      subst ez
      cases rz
      refine ⟨c, rfl, .bl (!c), H2, I2, rfl, ?_⟩
      have q := k H2 ex
      rw [show (c != true) = !c by cases c <;> rfl] at q
      exact q
    | next => exact hq.elim
    | brk => exact hq.elim
    | cont => exact hq.elim
/-- repr(o), an own __repr__ -/
theorem call_reprE {sp : Sp} (F : GOk X.prog X.w X.K X.mg X.base n f fd ["self"] sp) (hs : PySem.W.findIn X.K (.ref C) "__repr__" = some (some (.ref f))) (hf : PySem.W.isFn X.K (.ref f) = true) (hb : Binds X.K fd ["self"] []) (hgu : X.A.guards = some []) (hr : Room (n + 1) X.A) :
    CallR X (.builtin "repr") (fun xs H Q => ∃ (a dx : Addr) (fs : List (Str × V)), xs = [.ref a] ∧ H a = some (.ins C dx fs) ∧ sp [.ref a] H (fun v H' => ∃ z, v = .str z ∧ Q (.str z) H') (fun _ _ _ => False)) := by
  intro pins s σ H xs us Q I r h
  obtain ⟨a, dx, fs, rfl, ha, hsp⟩ := h
  cases r with
  | cons r1 r2 =>
    cases r2
    cases r1
    obtain ⟨mA, J, _⟩ := ins_get I.hok ha
    obtain ⟨od, J, _⟩ := J.look
    obtain ⟨m, hF⟩ := I.fr
    refine PySem.W.repr_K hr.in1.units0 hF I.ok.mod.kin J hs hf ?_
    refine wpAny_call (codeAny_mono (F.run X.A.in1 X.stack s H ⟨[.ref a], []⟩ [.ref a] [.ref a] _ _ hgu hr.in1 I.env0.in1 (by simpa using hb s [.ref a] I.kIn rfl) (.cons rfl .nil) hsp) fun r s2 hq => ?_)
    cases r with
    | error e => exact hq.elim
    | ok fl =>
      cases fl with
      | ret z =>
        obtain ⟨y, H2, I2, rz, t, ez, q⟩ := I.after hq
        subst ez
        obtain ⟨tk, rfl⟩ := rz
        exact ⟨.str t, H2, I2, ⟨_, rfl⟩, q⟩
      | next => exact hq.elim
      | brk => exact hq.elim
      | cont => exact hq.elim
/-- {x!r}, x plain data -/
def tFmtT (K : PySem.W.Frag) (te : TE) : TE := fun σ H Q => te σ H fun x H1 => ∃ (a : Addr) (d : PyData), x = .ref a ∧ Dp K H1 x d ∧ d.showable = true ∧ d.hasDict = false ∧ d.depth ≤ 20 ∧ d.shown.length ≤ sizeLine ∧ Q (.str d.shown) H1
theorem pe_fmtT {e : Expr} {te : TE} {pos : Pos} (hgu : X.A.guards = some []) (hu : X.A.units + 64 < cLine) (he : PE X e te) : PE X (.FormattedValue e 114 none pos) (tFmtT X.K te) := by
  constructor
  intro pins s σ H Q I h
  refine wpAny_FormattedValue_repr (thn (he.run pins s σ H _ I h) fun v s1 hv => ?_)
  obtain ⟨x, H1, I1, r1, a, d, rfl, hd, hs, hn, hdep, hz, q⟩ := hv
  cases r1
  obtain ⟨as, rd⟩ := Dp.reads I1 d (.ref a) (.ref a) hd rfl
  refine pyReprObj_of_reads rd hs (PyData.noDict_hsm hn) hgu (by omega) (fun _ _ z => z) (fun h2 u tk keep => ?_) hz
  have I2 := I1.kept (t' := tk) keep
  exact wpAny_formatField_str ⟨.str d.shown, H1, I2, ⟨u, rfl⟩, q⟩ ⟨.str d.shown, H1, I2.tok _, ⟨_, rfl⟩, q⟩ hz
end
theorem Nice.shownLe {k B : Nat} {d : PyData} (h : Nice k B d) : d.shown.length ≤ 15 * B + 13 := by
  have q := PyData.shown_le 13 (by decide) d (PyData.leavesShort_of_canLay0 13 d h.lay h.ish)
  have := h.wt
  omega
end SE
namespace SE
open PySem PySem.Spec PyProof.Rows L2
abbrev sEq : Stmt := inClass sEffect 13
abbrev sRepr : Stmt := inClass sEffect 14
/-- what isinstance asks of the class -/
structure EI (K : PySem.W.Frag) (C : Addr) : Prop where
  ha : PySem.W.findIn K (.ref C) "__class__" = some (some (.builtin "object.__class__"))
  hn : PySem.W.specialIn K (.builtin "object.__class__") "__get__" = some (some (.builtin "getset_descriptor.__get__"))
  ht : PySem.W.takesIn K (.builtin "object.__class__") = some true
  hm : PySem.W.mroIn K C (.type "object") = some true
  ki : PySem.W.kitOne K (.ref C) (.ref C) = some true
/-- the parts of an effect as data -/
def dN : Eff → PyData
  | none => .none
  | some (xs, _, _) => .tuple (xs.map .str)
def dL : Eff → PyData
  | none => .none
  | some (_, ys, _) => .tuple (ys.map .str)
def dH : Eff → PyData
  | none => .none
  | some (_, _, p) => .int p
/-- an effect whose words are of items -/
def EffOk : Eff → Prop
  | none => True
  | some (xs, ys, p) => (∀ z ∈ xs, Item z) ∧ (∀ z ∈ ys, Item z) ∧ xs.length ≤ 1000 ∧ ys.length ≤ 1000 ∧ 0 ≤ p ∧ p ≤ 100000
theorem eff_eqv (a b : Eff) : (PyData.eqv (dN a) (dN b) && (PyData.eqv (dL a) (dL b) && PyData.eqv (dH a) (dH b))) = decide (a = b) := by
  cases a with
  | none =>
    cases b with
    | none => simp [dN, dL, dH, PyData.eqv]
    | some b =>
      obtain ⟨x, y, p⟩ := b
      simp [dN, dL, dH, PyData.eqv]
  | some a =>
    obtain ⟨x, y, p⟩ := a
    cases b with
    | none => simp [dN, dL, dH, PyData.eqv]
    | some b =>
      obtain ⟨x2, y2, p2⟩ := b
      show (PyData.eqv (.tuple (x.map .str)) (.tuple (x2.map .str)) && (PyData.eqv (.tuple (y.map .str)) (.tuple (y2.map .str)) && PyData.eqv (.int p) (.int p2))) = _
      rw [eqv_tupS, eqv_tupS]
      have e : PyData.eqv (.int p) (.int p2) = decide (p = p2) := by
        unfold PyData.eqv
        by_cases c : p = p2
        · subst c
          simp
        · simp [c]
      rw [e]
      by_cases c1 : x = x2 <;> by_cases c2 : y = y2 <;> by_cases c3 : p = p2 <;> simp [c1, c2, c3]
def shownE : Eff → Str
  | none => "Effect.never()"
  | some (xs, ys, p) => Str.empty ++ "Effect(" ++ (PyData.tuple (xs.map .str)).shown ++ ", " ++ (PyData.tuple (ys.map .str)).shown ++ ", peak=" ++ toString p ++ ")"
section
variable {P : Program} {w : World} {K : PySem.W.Frag} {mg : Str → Option Value} {base : Heap} {C : Addr}
theorem EffV.dp {H : Hp} {e : Addr} : ∀ {o : Eff}, EffV K C H e o → ∃ dx u v p, H e = some (.ins C dx (eF u v p)) ∧ Dp K H u (dN o) ∧ Dp K H v (dL o) ∧ Dp K H p (dH o)
  | none, h => by
    obtain ⟨dx, h1⟩ := NevAt.ex h
    exact ⟨dx, _, _, _, h1, .non, .non, .non⟩
  | some (_, _, _), h => by
    obtain ⟨dx, u, v, h1, h2, h3⟩ := EffAt.ex h
    exact ⟨dx, _, _, _, h1, .tup h2 (dp_strs _), .tup h3 (dp_strs _), .int _⟩
theorem EffOk.shaped : ∀ {o : Eff}, EffOk o → SeqAt.shaped (dN o) = true ∧ SeqAt.shaped (dL o) = true ∧ SeqAt.shaped (dH o) = true
  | none, _ => ⟨rfl, rfl, rfl⟩
  | some (_, _, _), h => ⟨(nice_tuple (nice_strs h.1)).shaped (by decide), (nice_tuple (nice_strs h.2.1)).shaped (by decide), rfl⟩
/-! ### __eq__ -/
def rEff (K : PySem.W.Frag) (C : Addr) (a b : Addr) (c : Bool) (H : Hp) : Prop := ∃ o1 o2, EffV K C H a o1 ∧ EffV K C H b o2 ∧ EffOk o1 ∧ EffOk o2 ∧ c = decide (o1 = o2)
theorem scEq : FnScope ["self", "other"] ["self", "other"] (defScope sEq) := ⟨rfl, rfl, rfl, by decide +kernel, rfl, by decide +kernel, by decide +kernel⟩
theorem ok_eq {f : Addr} {fd : FuncData} (F : Fun K "__eq__" "Effect.__eq__" sEq f fd) (T : EC K mg C) (TI : EI K C) (B : Blt mg) : FnOk P w K mg base CX0 1 f fd ["self", "other"] (spEqB (rEff K C)) := by
  refine F.ok scEq (fun vs H Q E h => ?_) (fun cdv A outer s H vs Q E hr h => ?_)
  · obtain ⟨a, b, c, rfl, _⟩ := h
    rfl
  · obtain ⟨a, b, c, rfl, ⟨o1, o2, h1, h2, k1, k2, rfl⟩, k⟩ := h
    obtain ⟨dx, u, v, p, i1, d1, d2, d3⟩ := h1.dp
    obtain ⟨dy, u2, v2, p2, i2, g1, g2, g3⟩ := h2.dp
    obtain ⟨s1, s2, s3⟩ := k1.shaped
    obtain ⟨t1, t2, t3⟩ := k2.shaped
    refine ⟨_, pss_one (ps_ret (pe_and (pe_callB call_isi (by rfl) B.isi (by decide +kernel) (pa_cons (pv 1) (pa_cons (pe_glob (v := .ref C) rfl T.mgE rfl) pa_nil)))
      (pe_and (pe_cmpR (op_eqD hr.units) (pe_fld (pv 0) rfl) (pe_fld (pv 1) rfl) (nomark _)) (pe_and (pe_cmpR (op_eqD hr.units) (pe_fld (pv 0) rfl) (pe_fld (pv 1) rfl) (nomark _)) (pe_one (pe_cmpR (op_eqD hr.units) (pe_fld (pv 0) rfl) (pe_fld (pv 1) rfl) (nomark _))))))), ?_⟩
    have fin := k H (Same.refl H)
    rw [← eff_eqv] at fin
    refine ⟨_, rfl, _, .ref C, .ref C, .ref C, true, rfl, .own C, .base (.ins i2 T.cl TI.ha TI.hn TI.ht TI.hm), TI.ki, true, rfl, iteT ?_⟩
    refine ⟨_, rfl, a, C, dx, _, _, rfl, i1, T.cl, T.nN, eF_needs _ _ _, _, rfl, b, C, dy, _, _, rfl, i2, T.cl, T.nN, eF_needs _ _ _, dN o1, dN o2, d1, g1, s1, t1, _, rfl, ?_⟩
    cases e1 : PyData.eqv (dN o1) (dN o2) with
    | false =>
      rw [e1, Bool.false_and] at fin
      exact iteF fin
    | true =>
      rw [e1, Bool.true_and] at fin
      refine iteT ⟨_, rfl, a, C, dx, _, _, rfl, i1, T.cl, T.nL, eF_leaves _ _ _, _, rfl, b, C, dy, _, _, rfl, i2, T.cl, T.nL, eF_leaves _ _ _, dL o1, dL o2, d2, g2, s2, t2, _, rfl, ?_⟩
      cases e2 : PyData.eqv (dL o1) (dL o2) with
      | false =>
        rw [e2, Bool.false_and] at fin
        exact iteF fin
      | true =>
        rw [e2, Bool.true_and] at fin
        exact iteT ⟨_, rfl, a, C, dx, _, _, rfl, i1, T.cl, T.nH, eF_high _ _ _, _, rfl, b, C, dy, _, _, rfl, i2, T.cl, T.nH, eF_high _ _ _, dH o1, dH o2, d3, g3, s3, t3, fin⟩
/-! ### __repr__ -/
def spRepr (K : PySem.W.Frag) (C : Addr) : Sp := fun vs H Q _ => ∃ (e : Addr) (o : Eff), vs = [.ref e] ∧ EffV K C H e o ∧ EffOk o ∧ Q (.str (shownE o)) H
theorem scRp : FnScope ["self"] ["self"] (defScope sRepr) := ⟨rfl, rfl, rfl, by decide +kernel, rfl, by decide +kernel, by decide +kernel⟩
theorem ok_repr {f : Addr} {fd : FuncData} (F : Fun K "__repr__" "Effect.__repr__" sRepr f fd) (T : EC K mg C) : GOk P w K mg base 1 f fd ["self"] (spRepr K C) := by
  obtain ⟨oc, od, kV, doc, pm, an, cv, ct, osl, rfl, look, hcode⟩ := F.ex
  refine gok_of look hcode scRp (fun vs H Q E h => ?_) (fun A out s H vs Q E hgu hr h => ?_)
  · obtain ⟨e, o, rfl, _⟩ := h
    rfl
  · obtain ⟨e, o, rfl, h, ok, k⟩ := h
    have body : ∃ t, PSs (cxOf CX0 P w K mg base ["self"] "Effect.__repr__" (defScope sRepr) f cv A out s H E).nox (defBody sRepr) t ∧ t { nx := fun _ H2 => Q .non H2, rt := Q } (start ["self"] [.ref e]) H := by
      refine ⟨_, pss_cons (ps_if (pt_cmpR op_isN (pe_fld (pv 0) rfl) pe_non (nomark _)) (pss_one (ps_ret pe_str)) pss_nil)
        (pss_one (ps_ret (pe_joined (.cons pe_str (.cons (pe_fmtT hgu hr.units (pe_fld (pv 0) rfl)) (.cons pe_str (.cons (pe_fmtT hgu hr.units (pe_fld (pv 0) rfl)) (.cons pe_str (.cons (pe_fmtR (pe_fld (pv 0) rfl)) (.cons pe_str .nil)))))))))), ?_⟩
      cases o with
      | none =>
        obtain ⟨dx, h1⟩ := NevAt.ex h
        exact ⟨_, rfl, e, C, dx, _, _, rfl, h1, T.cl, T.nN, eF_needs _ _ _, rfl, true, rfl, iteT k⟩
      | some o =>
        obtain ⟨xs, ys, p⟩ := o
        obtain ⟨dx, u, v, h1, h2, h3⟩ := EffAt.ex h
        obtain ⟨i1, i2, l1, l2, p0, p1⟩ := ok
        have n1 := nice_tuple (nice_strs i1)
        have n2 := nice_tuple (nice_strs i2)
        have z1 := n1.shownLe
        have z2 := n2.shownLe
        rw [List.length_map] at z1 z2
        have tl : (toString p : Str).length ≤ 13 := by
          have := PyData.shown_int_le (i := p) (by omega)
          exact this
        have big : ∀ m : Nat, m ≤ 400000 → m ≤ sizeLine := fun m hm => by
          rw [sizeLine_eq]
          omega
        have w0 : (Str.empty : Str).length = 0 := by decide +kernel
        have w1 : ("Effect(" : Str).length = 7 := by decide +kernel
        have w2 : (", " : Str).length = 2 := by decide +kernel
        have w3 : (", peak=" : Str).length = 7 := by decide +kernel
        have w4 : (")" : Str).length = 1 := by decide +kernel
        have lg : p.natAbs.log2 < 1920 := PySem.Flt.log2_lt_of (by decide) (Nat.lt_of_lt_of_le (show p.natAbs < 2 ^ 17 by show _ < 131072; omega) (Nat.pow_le_pow_right (by decide) (by decide)))
        refine ⟨_, rfl, e, C, dx, _, _, rfl, h1, T.cl, T.nN, eF_needs _ _ _, rfl, false, rfl, iteF ?_⟩
        refine ⟨_, rfl, big _ ?_, _, rfl, e, C, dx, _, _, rfl, h1, T.cl, T.nN, eF_needs _ _ _, u, _, rfl, .tup h2 (dp_strs xs), n1.sh, n1.nd, Nat.le_trans n1.dep (by decide), big _ (by omega), _, rfl, big _ ?_, _, rfl, big _ ?_, _, rfl, e, C, dx, _, _, rfl, h1, T.cl, T.nL, eF_leaves _ _ _, v, _, rfl, .tup h3 (dp_strs ys), n2.sh, n2.nd, Nat.le_trans n2.dep (by decide), big _ (by omega), _, rfl, big _ ?_, _, rfl, big _ ?_, _, rfl, e, C, dx, _, _, rfl, h1, T.cl, T.nH, eF_high _ _ _, .inr ⟨p, rfl, lg, _, rfl, big _ ?_, _, rfl, big _ ?_, k⟩⟩
        all_goals (simp only [len_add, w0, w1, w2, w3, w4]; omega)
    obtain ⟨t, a, b⟩ := body
    exact ⟨t, a.nox, b⟩
end
end SE
namespace SE
open PySem PySem.Spec PyProof.Rows L2
/-! ### the effect of a repeated sequence -/
def cw : List Str → List Str → Option (List Str × List Str)
  | [], R => some (R, [])
  | a :: P, [] => some ([], a :: P)
  | a :: P, b :: R => if a = b then cw P R else none
def mx (a b : Int) : Int := if b > a then b else a
def hg (A : Prt) : Int := (A.2.1.length : Int) - (A.1.length : Int)
theorem cw_nil (P : List Str) : cw P [] = some ([], P) := by
  cases P <;> rfl
theorem cw_eq : ∀ P R : List Str, cw P R = if P.take (min P.length R.length) = R.take (min P.length R.length) then some (R.drop (min P.length R.length), P.drop (min P.length R.length)) else none
  | [], R => by simp [cw]
  | a :: P, [] => by simp [cw]
  | a :: P, b :: R => by
    have ih := cw_eq P R
    unfold cw
    have e : min (a :: P).length (b :: R).length = min P.length R.length + 1 := by
      rw [List.length_cons, List.length_cons]
      omega
    rw [e, List.take_succ_cons, List.take_succ_cons, List.drop_succ_cons, List.drop_succ_cons]
    by_cases c : a = b
    · subst c
      rw [if_pos rfl, ih]
      simp
    · rw [if_neg c, if_neg (fun z => c (List.cons.inj z).1)]
theorem comp_cw (A B : Prt) : comp A B = (cw A.2.1 B.1).map fun z => (A.1 ++ z.1, B.2.1 ++ z.2, mx A.2.2 (hg A + B.2.2)) := by
  unfold comp
  rw [cw_eq]
  split
  · rfl
  · rfl
theorem assoc1 (A E : Prt) (s : Stp) : ((comp A (partM s)).bind fun D => comp D E) = (comp (partM s) E).bind (comp A) := by
  obtain ⟨x, y, p⟩ := A
  obtain ⟨u, v, q⟩ := E
  obtain ⟨b, z⟩ := s
  cases b with
  | true =>
    have e1 : partM (true, z) = ([], [z], 1) := rfl
    rw [e1]
    simp only [comp_cw, cw_nil, Option.map_some, Option.bind_some]
    cases u with
    | nil =>
      simp only [comp_cw, cw_nil, Option.map_some, Option.bind_some, hg, List.append_nil, List.nil_append]
      refine congrArg some (Prod.ext rfl (Prod.ext (by simp) ?_))
      simp only [List.length_append, List.length_cons, List.length_nil, mx]
      grind
    | cons t r =>
      simp only [cw]
      by_cases c : z = t
      · subst c
        simp only [List.cons_append, List.nil_append, cw, if_true, Option.map_some, Option.bind_some, List.append_nil, comp_cw]
        cases cw y r with
        | none => rfl
        | some g =>
          simp only [Option.map_some, hg]
          refine congrArg some (Prod.ext rfl (Prod.ext rfl ?_))
          simp only [List.length_append, List.length_cons, List.length_nil, mx]
          grind
      · simp [cw, c]
  | false =>
    have e1 : partM (false, z) = ([z], [], 0) := rfl
    rw [e1]
    simp only [comp_cw, cw, Option.map_some, Option.bind_some, List.append_nil]
    cases y with
    | nil =>
      simp only [cw, Option.map_some, Option.bind_some, hg, List.append_nil]
      refine congrArg some (Prod.ext (by simp) (Prod.ext (by simp) ?_))
      simp only [List.length_append, List.length_cons, List.length_nil, mx]
      grind
    | cons t r =>
      simp only [List.cons_append, List.nil_append, cw, cw_nil]
      by_cases c : t = z
      · subst c
        simp only [if_true, Option.map_some, Option.bind_some, List.append_nil, List.nil_append]
        cases cw r u with
        | none => rfl
        | some g =>
          simp only [Option.map_some, hg]
          refine congrArg some (Prod.ext rfl (Prod.ext rfl ?_))
          simp only [List.length_append, List.length_cons, List.length_nil, mx]
          grind
      · simp [c]
theorem joinF_cons (A B : Prt) (r : List Prt) : joinF A (B :: r) = (comp A B).bind fun D => joinF D r := by
  rw [joinF]
  cases comp A B <;> rfl
theorem comp_one (s : Stp) : comp ([], [], 0) (partM s) = some (partM s) := by
  obtain ⟨b, z⟩ := s
  cases b <;> simp [comp_cw, partM, cw, hg, mx]
theorem cw_len : ∀ (P R : List Str) (z : List Str × List Str), cw P R = some z → (z.2.length : Int) - z.1.length = P.length - R.length
  | [], R, z, h => by
    cases h
    show ((0 : Nat) : Int) - R.length = ((0 : Nat) : Int) - R.length
    rfl
  | a :: P, [], z, h => by
    cases h
    rfl
  | a :: P, b :: R, z, h => by
    unfold cw at h
    split at h
    · have ih := cw_len P R z h
      rw [List.length_cons, List.length_cons]
      omega
    · cases h
theorem hg_comp {A B D : Prt} (h : comp A B = some D) : hg D = hg A + hg B := by
  rw [comp_cw] at h
  cases e : cw A.2.1 B.1 with
  | none =>
    rw [e] at h
    cases h
  | some z =>
    rw [e] at h
    cases h
    have := cw_len _ _ _ e
    unfold hg
    simp only [List.length_append]
    omega
theorem pk_comp {A B D : Prt} (h : comp A B = some D) : D.2.2 = mx A.2.2 (hg A + B.2.2) := by
  rw [comp_cw] at h
  cases e : cw A.2.1 B.1 with
  | none =>
    rw [e] at h
    cases h
  | some z =>
    rw [e] at h
    cases h
    rfl
theorem hgp (s : Stp) : hg (partM s) ≤ (partM s).2.2 ∧ 0 ≤ (partM s).2.2 ∧ (partM s).2.2 ≤ 1 := by
  obtain ⟨b, z⟩ := s
  cases b
  · exact ⟨(by show ((0 : Nat) : Int) - ((1 : Nat) : Int) ≤ 0; decide), (by show (0 : Int) ≤ 0; decide), (by show (0 : Int) ≤ 1; decide)⟩
  · exact ⟨(by show ((1 : Nat) : Int) - ((0 : Nat) : Int) ≤ 1; decide), (by show (0 : Int) ≤ 1; decide), (by show (1 : Int) ≤ 1; decide)⟩
theorem joinF_eff : ∀ (ss : List Stp) (A : Prt), hg A ≤ A.2.2 → joinF A (ss.map partM) = (effM ss).bind (comp A)
  | [], A, h => by
    obtain ⟨x, y, p⟩ := A
    show some (x, y, p) = comp (x, y, p) ([], [], 0)
    rw [comp_cw, cw_nil]
    simp only [Option.map_some, List.append_nil, List.nil_append]
    refine congrArg some (Prod.ext rfl (Prod.ext rfl ?_))
    have h' : hg (x, y, p) ≤ p := h
    simp only [mx]
    split <;> omega
  | s :: ss, A, h => by
    have ih := joinF_eff ss
    rw [List.map_cons, joinF_cons]
    have hs := hgp s
    have e : effM (s :: ss) = (effM ss).bind (comp (partM s)) := by
      rw [← ih _ hs.1]
      unfold effM joinM
      rw [List.map_cons, joinF_cons, comp_one, Option.bind_some]
    rw [e]
    have e2 : ((comp A (partM s)).bind fun D => joinF D (ss.map partM)) = (comp A (partM s)).bind fun D => (effM ss).bind (comp D) := by
      cases q : comp A (partM s) with
      | none => rfl
      | some D =>
        rw [Option.bind_some, Option.bind_some]
        refine ih D ?_
        rw [hg_comp q, pk_comp q]
        unfold mx
        split <;> omega
    rw [e2]
    cases effM ss with
    | none =>
      simp only [Option.bind_none]
      cases comp A (partM s) <;> rfl
    | some E => exact assoc1 A E s
theorem joinF_app : ∀ (ps qs : List Prt) (A : Prt), joinF A (ps ++ qs) = (joinF A ps).bind fun D => joinF D qs
  | [], qs, A => rfl
  | B :: ps, qs, A => by
    rw [List.cons_append, joinF_cons, joinF_cons]
    cases comp A B with
    | none => rfl
    | some D =>
      rw [Option.bind_some, Option.bind_some]
      exact joinF_app ps qs D
/-- what the effect of a sequence keeps to -/
theorem joinF_ok : ∀ (ss : List Stp) (A D : Prt), PrtOk A → (∀ s ∈ ss, Item s.2) → joinF A (ss.map partM) = some D → PrtOk D ∧ D.1.length + D.2.1.length ≤ A.1.length + A.2.1.length + ss.length ∧ D.2.2 ≤ A.2.2 + ss.length
  | [], A, D, h, _, e => by
    cases e
    refine ⟨h, by simp, by simp⟩
  | s :: ss, A, D, h, hI, e => by
    rw [List.map_cons, joinF_cons] at e
    cases q : comp A (partM s) with
    | none =>
      rw [q] at e
      cases e
    | some B =>
      rw [q, Option.bind_some] at e
      have ok := comp_ok h (partM_ok (hI s List.mem_cons_self)) q
      have ih := joinF_ok ss B D ok.1 (fun z m => hI z (List.mem_cons_of_mem _ m)) e
      have pk := pk_comp q
      have hs := hgp s
      have l1 : (partM s).1.length + (partM s).2.1.length = 1 := by
        unfold partM
        split <;> rfl
      have hh : hg A ≤ A.2.2 := h.h1
      refine ⟨ih.1, ?_, ?_⟩
      · rw [List.length_cons]
        omega
      · have i3 := ih.2.2
        rw [pk] at i3
        have : mx A.2.2 (hg A + (partM s).2.2) ≤ A.2.2 + 1 := by
          unfold mx
          split <;> omega
        rw [List.length_cons]
        omega
theorem effM_ok {ss : List Stp} {D : Prt} (hI : ∀ s ∈ ss, Item s.2) (h : effM ss = some D) : PrtOk D ∧ D.1.length + D.2.1.length ≤ ss.length ∧ D.2.2 ≤ ss.length := by
  have q := joinF_ok ss ([], [], 0) D ⟨fun z m => (by cases m), fun z m => (by cases m), Int.le_refl _, Int.le_refl _⟩ hI h
  refine ⟨q.1, ?_, ?_⟩
  · have := q.2.1
    simpa using this
  · have := q.2.2
    simpa using this
theorem effM_app {ss tt : List Stp} (hI : ∀ s ∈ ss, Item s.2) : effM (ss ++ tt) = (effM ss).bind fun A => (effM tt).bind (comp A) := by
  unfold effM joinM
  rw [List.map_append, joinF_app]
  cases q : joinF ([], [], 0) (ss.map partM) with
  | none => rfl
  | some A =>
    rw [Option.bind_some, Option.bind_some]
    exact joinF_eff tt A (effM_ok hI q).1.h1
theorem cw_self_left : ∀ (w r : List Str), cw w (w ++ r) = some (r, [])
  | [], r => rfl
  | a :: w, r => by
    rw [List.cons_append, cw, if_pos rfl]
    exact cw_self_left w r
theorem cw_self_right : ∀ (w r : List Str), cw (w ++ r) w = some ([], r)
  | [], r => cw_nil r
  | a :: w, r => by
    rw [List.cons_append, cw, if_pos rfl]
    exact cw_self_right w r
theorem effM_EffOk {ss : List Stp} (hI : ∀ s ∈ ss, Item s.2) (hl : ss.length ≤ 1000) : EffOk (effM ss) := by
  cases h : effM ss with
  | none => exact trivial
  | some o =>
    obtain ⟨x, y, p⟩ := o
    obtain ⟨a, b, c⟩ := effM_ok hI h
    have b' : x.length + y.length ≤ ss.length := b
    have c' : p ≤ ss.length := c
    exact ⟨a.i1, a.i2, by omega, by omega, a.h0, by omega⟩
end SE
namespace SE
open PySem PySem.Spec PyProof.Rows L2
section
variable {P : Program} {w : World} {K : PySem.W.Frag} {mg : Str → Option Value} {base : Heap} {C : Addr}
/-! ### _law_items -/
def nm10 : List Str := ["a", "b", "ab", "ba", "aa", "z", "top", "item", "x", "zzzzzzzz"]
theorem nm10_ok {z : Str} (h : z ∈ nm10) : Item z := by
  have q : ∀ y ∈ nm10, (decide (1 ≤ y.length) && decide (y.length ≤ 8) && y.cps.toList.all fun c => decide (97 ≤ c) && decide (c ≤ 122)) = true := by decide +kernel
  have e := q z h
  simp only [Bool.and_eq_true, decide_eq_true_eq, List.all_eq_true] at e
  exact ⟨e.1.1, e.1.2, e.2⟩
def spItems2 : Sp := fun xs H Q _ => ∃ (p : Addr) (n : Int), xs = [.ref p, .int n] ∧ Pool H p ∧ 0 ≤ n ∧ n ≤ 10 ∧
  ∀ (l : Addr) (zs : List Str) (H' : Hp), But p H H' → Pool H' p → H l = none → l ≠ p → H' l = some (.lst (zs.map V.str)) → zs.length = n.toNat → (∀ z ∈ zs, z ∈ nm10) → zs.Nodup → Q (.ref l) H'
theorem scIt2 : FnScope ["_law_pool_here", "_law_many", "_law_names", "_law_at"] ["_law_pool_here", "_law_many"] (defScope sItems) := ⟨rfl, rfl, rfl, by decide +kernel, rfl, by decide +kernel, by decide +kernel⟩
theorem has_items2 (D : Def K mg "_law_items" sItems) (GT : Has P w K mg base "_law_take" 1 ["_law_pool_here", "_law_many"] [] spTake) : Has P w K mg base "_law_items" 2 ["_law_pool_here", "_law_many"] [] spItems2 := by
  refine has_of D scIt2 (fun _ _ _ _ _ _ us hl => match us, hl with | [_, _], _ => rfl) (fun xs H Q E h => ?_) (fun f cv A out s H xs Q E hr h => ?_)
  · obtain ⟨p, n, rfl, _⟩ := h
    rfl
  · obtain ⟨p, n, rfl, hp, h0, h1, k⟩ := h
    refine ⟨_, pss_cons (ps_set (i := 2) scIt2.nd rfl (.inl rfl) (pe_lst (pa_cons pe_str (pa_cons pe_str (pa_cons pe_str (pa_cons pe_str (pa_cons pe_str (pa_cons pe_str (pa_cons pe_str (pa_cons pe_str (pa_cons pe_str (pa_cons pe_str pa_nil))))))))))))
      (pss_cons (ps_set (i := 3) scIt2.nd rfl (.inl rfl) (pe_has GT hr (pa_cons (pv 0) (pa_cons pe_int pa_nil))))
      (pss_one (ps_ret (pe_slice sl_list (pe_op op_cat (pe_slice sl_list (pv 2) (po_some (pv 3)) po_none) (pe_slice sl_list (pv 2) po_none (po_some (pv 3)))) po_none (po_some (pv 1)))))), ?_⟩
    refine ⟨(by show 10 ≤ sizeLine; decide), fun a ha => ?_⟩
    have ap : a ≠ p := hp.free ha
    have e10 : (upd H a (.lst [V.str "a", .str "b", .str "ab", .str "ba", .str "aa", .str "z", .str "top", .str "item", .str "x", .str "zzzzzzzz"])) a = some (.lst (nm10.map V.str)) := upd_same
    have b0 : But p H (upd H a (.lst [V.str "a", .str "b", .str "ab", .str "ba", .str "aa", .str "z", .str "top", .str "item", .str "x", .str "zzzzzzzz"])) := .of (Same.new ha)
    have p0 : Pool (upd H a (.lst [V.str "a", .str "b", .str "ab", .str "ba", .str "aa", .str "z", .str "top", .str "item", .str "x", .str "zzzzzzzz"])) p := hp.upd ap
    generalize upd H a (.lst [V.str "a", .str "b", .str "ab", .str "ba", .str "aa", .str "z", .str "top", .str "item", .str "x", .str "zzzzzzzz"]) = H1 at e10 b0 p0 ⊢
    refine ⟨_, rfl, p, 10, rfl, p0, by decide, by decide, fun r H2 b2 p2 r0 r1 => ?_⟩
    have e2 := b2 _ _ ap e10
    refine ⟨_, rfl, _, rfl, r, rfl, a, _, rfl, .of e2, fun c hc => ?_⟩
    have s3 := Same.new (o := .lst (cutV (nm10.map V.str) (some r) none)) hc
    refine ⟨_, rfl, _, rfl, r, rfl, a, _, rfl, .of (s3 _ _ e2), fun d hd => ?_⟩
    have bb : But p H H2 := b0.trans b2
    have cp : c ≠ p := p2.free hc
    have nc : H c = none := bb.none cp hc
    have dp : d ≠ p := (p2.upd cp).free hd
    have nd : H d = none := (bb.free nc).none dp hd
    rw [cut_map, cut_map]
    have i1 : HT.sIx nm10.length 0 (some r) = r.toNat := by
      unfold HT.sIx
      dsimp only
      rw [if_neg (by omega)]
      exact Nat.min_eq_left (by show r.toNat ≤ 10; omega)
    have i2 : HT.sIx nm10.length nm10.length (some r) = r.toNat := by
      unfold HT.sIx
      dsimp only
      rw [if_neg (by omega)]
      exact Nat.min_eq_left (by show r.toNat ≤ 10; omega)
    have i3 : HT.sIx nm10.length 0 none = 0 := rfl
    have i4 : HT.sIx nm10.length nm10.length none = nm10.length := rfl
    rw [i1, i2, i3, i4]
    generalize hA : (nm10.drop r.toNat).take (nm10.length - r.toNat) = As
    generalize hB : (nm10.drop 0).take (r.toNat - 0) = Bs
    have lA : As.length = 10 - r.toNat := by
      rw [← hA, List.length_take, List.length_drop]
      show min (10 - r.toNat) (10 - r.toNat) = _
      omega
    have lB : Bs.length = r.toNat := by
      rw [← hB, List.length_take, List.length_drop]
      show min (r.toNat - 0) (10 - 0) = _
      omega
    refine ⟨c, d, As.map V.str, Bs.map V.str, rfl, rfl, ?_, upd_same, ?_, fun g hg => ?_⟩
    · rw [upd_ne (ne_of_none upd_same hd)]
      exact upd_same
    · rw [List.length_map, List.length_map, sizeLine_eq]
      omega
    refine ⟨_, rfl, n, rfl, g, _, rfl, .of upd_same, fun l hl => ?_⟩
    rw [← List.map_append, cut_map]
    have j1 : HT.sIx (As ++ Bs).length 0 none = 0 := rfl
    have j2 : HT.sIx (As ++ Bs).length (As ++ Bs).length (some n) = n.toNat := by
      unfold HT.sIx
      dsimp only
      rw [if_neg (by omega)]
      exact Nat.min_eq_left (by rw [List.length_append]; omega)
    rw [j1, j2, List.drop_zero, Nat.sub_zero]
    have f1 := bb.free (o := .lst (As.map V.str)) nc
    have f2 := f1.free (o := .lst (Bs.map V.str)) nd
    have gp : g ≠ p := ((p2.upd cp).upd dp).free hg
    have ng : H g = none := f2.none gp hg
    have f3 := f2.free (o := .lst ((As ++ Bs).map V.str)) ng
    have lp' : l ≠ p := (((p2.upd cp).upd dp).upd gp).free hl
    have nl : H l = none := (f2.free ng).none lp' hl
    have nd10 : ∀ r : _root_.Fin 10, (((nm10.drop r.1).take (nm10.length - r.1)) ++ ((nm10.drop 0).take (r.1 - 0))).Nodup := by decide +kernel
    have ndAB : (As ++ Bs).Nodup := by
      rw [← hA, ← hB]
      exact nd10 ⟨r.toNat, by omega⟩
    refine k l ((As ++ Bs).take n.toNat) _ (f3.free nl) ((((p2.upd cp).upd dp).upd gp).upd lp') nl lp' upd_same ?_ (fun z hz => ?_) (List.Nodup.sublist (List.take_sublist _ _) ndAB)
    · rw [List.length_take, List.length_append]
      omega
    · rcases List.mem_append.mp (List.mem_of_mem_take hz) with q | q
      · rw [← hA] at q
        exact cut_mem q
      · rw [← hB] at q
        exact cut_mem q
end
end SE
namespace SE
open PySem PySem.Spec PyProof.Rows L2
/-! ### products of great numbers -/
def CBig (i j : Int) : Prop := i.natAbs < 2 ^ 100000 ∧ j.natAbs < 2 ^ 100000
theorem CBig.ok {i j : Int} (h : CBig i j) : IntMulOk i j := by
  have h1 := intBits_le_iff.mpr h.1
  have h2 := intBits_le_iff.mpr h.2
  have e : Builtin.Int.intTooBig (Builtin.Int.intBits i + Builtin.Int.intBits j) = false := by
    unfold Builtin.Int.intTooBig
    refine decide_eq_false ?_
    have b : bitsLine = 134217728 := by decide
    omega
  unfold IntMulOk
  rw [e, Bool.and_false]
  exact Bool.false_ne_true
theorem op_mulG {X : Cx} : OpR X (binaryOp .Mult) (rI CBig fun i j => .int (i * j)) := opI fun _ _ _ _ _ _ _ hc q => mul_int q hc.ok
theorem iop_mulG {X : Cx} : OpR X (inplaceOp .Mult) (rI CBig fun i j => .int (i * j)) := opI fun _ _ _ _ _ _ _ hc q => imul_int q hc.ok
theorem pow_big {b e : Nat} (hb : b ≤ 64) (he : e ≤ 1000) : b ^ e < 2 ^ 100000 := by
  have a : b ^ e ≤ 64 ^ e := Nat.pow_le_pow_left hb e
  have c : (64 : Nat) ^ e = 2 ^ (6 * e) := by rw [show (64 : Nat) = 2 ^ 6 from rfl, ← Nat.pow_mul]
  rw [c] at a
  exact Nat.lt_of_le_of_lt a (Nat.pow_lt_pow_right (by decide) (by omega))
theorem small_big {i : Int} (h : i.natAbs < 2 ^ 63) : i.natAbs < 2 ^ 100000 := Nat.lt_of_lt_of_le h (Nat.pow_le_pow_right (by decide) (by decide))
/-! ### the shortest sequences -/
abbrev aS : Str := "a"
def riseM (m : Nat) : List Stp := List.replicate m ((true, aS) : Stp) ++ List.replicate m ((false, aS) : Stp)
def exchM (xs ys : List Str) : List Stp := xs.map (fun z => (false, z)) ++ ys.reverse.map (fun z => (true, z))
def moreM (xs ys : List Str) (p : Int) : Nat := (p - lp xs ys).toNat
def shortM (xs ys : List Str) (p : Int) : List Stp := if (ys.length : Int) - (xs.length : Int) > 0 then exchM xs ys ++ riseM (moreM xs ys p) else riseM (moreM xs ys p) ++ exchM xs ys
theorem rise_len (m : Nat) : (riseM m).length = 2 * m := by
  unfold riseM
  rw [List.length_append, List.length_replicate, List.length_replicate]
  omega
theorem exch_len (xs ys : List Str) : (exchM xs ys).length = xs.length + ys.length := by
  unfold exchM
  rw [List.length_append, List.length_map, List.length_map, List.length_reverse]
theorem short_len (xs ys : List Str) (p : Int) : (shortM xs ys p).length = xs.length + ys.length + 2 * moreM xs ys p := by
  unfold shortM
  split
  · rw [List.length_append, rise_len, exch_len]
  · rw [List.length_append, rise_len, exch_len]
    omega
theorem item_a : Item aS := by
  exact ⟨by decide +kernel, by decide +kernel, by decide +kernel⟩
theorem rise_item {m : Nat} : ∀ s ∈ riseM m, Item s.2 := fun s h => by
  unfold riseM at h
  rcases List.mem_append.mp h with q | q
  · rw [List.eq_of_mem_replicate q]
    exact item_a
  · rw [List.eq_of_mem_replicate q]
    exact item_a
theorem exch_item {xs ys : List Str} (h1 : ∀ z ∈ xs, Item z) (h2 : ∀ z ∈ ys, Item z) : ∀ s ∈ exchM xs ys, Item s.2 := fun s h => by
  unfold exchM at h
  rcases List.mem_append.mp h with q | q
  · obtain ⟨z, m, rfl⟩ := List.mem_map.mp q
    exact h1 z m
  · obtain ⟨z, m, rfl⟩ := List.mem_map.mp q
    exact h2 z (List.mem_reverse.mp m)
theorem short_item {xs ys : List Str} {p : Int} (h1 : ∀ z ∈ xs, Item z) (h2 : ∀ z ∈ ys, Item z) : ∀ s ∈ shortM xs ys p, Item s.2 := fun s h => by
  unfold shortM at h
  split at h
  · rcases List.mem_append.mp h with q | q
    · exact exch_item h1 h2 s q
    · exact rise_item s q
  · rcases List.mem_append.mp h with q | q
    · exact rise_item s q
    · exact exch_item h1 h2 s q
theorem eff_cons (s : Stp) (ss : List Stp) : effM (s :: ss) = (effM ss).bind (comp (partM s)) := by
  rw [← joinF_eff ss _ (hgp s).1]
  unfold effM joinM
  rw [List.map_cons, joinF_cons, comp_one, Option.bind_some]
theorem eff_pops : ∀ xs : List Str, effM (xs.map fun z => (false, z)) = some (xs, [], 0)
  | [] => rfl
  | x :: xs => by
    rw [List.map_cons, eff_cons, eff_pops xs, Option.bind_some]
    show comp ([x], [], 0) (xs, [], 0) = _
    rw [comp_cw]
    simp [cw, hg, mx]
theorem eff_push : ∀ zs : List Str, effM (zs.map fun z => (true, z)) = some ([], zs.reverse, (zs.length : Int))
  | [] => rfl
  | z :: zs => by
    rw [List.map_cons, eff_cons, eff_push zs, Option.bind_some]
    show comp ([], [z], 1) ([], zs.reverse, (zs.length : Int)) = _
    rw [comp_cw, cw_nil]
    simp [hg, mx]
    omega
theorem rep_map (m : Nat) (b : Bool) : List.replicate m ((b, aS) : Stp) = (List.replicate m aS).map fun z => (b, z) := by rw [List.map_replicate]
theorem cw_same : ∀ w : List Str, cw w w = some ([], [])
  | [] => rfl
  | a :: w => by
    rw [cw, if_pos rfl]
    exact cw_same w
theorem eff_rise (m : Nat) : effM (riseM m) = some ([], [], (m : Int)) := by
  unfold riseM
  rw [effM_app (fun s h => by rw [List.eq_of_mem_replicate h]; exact item_a), rep_map, rep_map, eff_push, eff_pops, Option.bind_some, Option.bind_some, comp_cw, List.reverse_replicate, cw_same]
  simp [hg, mx]
theorem eff_exch {xs ys : List Str} (h1 : ∀ z ∈ xs, Item z) : effM (exchM xs ys) = some (xs, ys, lp xs ys) := by
  unfold exchM
  rw [effM_app (fun s h => by obtain ⟨z, m, rfl⟩ := List.mem_map.mp h; exact h1 z m), eff_pops, eff_push, Option.bind_some, Option.bind_some, comp_cw, cw_nil]
  simp only [Option.map_some, List.append_nil, List.reverse_reverse]
  refine congrArg some (Prod.ext rfl (Prod.ext rfl ?_))
  show mx 0 ((([] : List Str).length : Int) - (xs.length : Int) + ((ys.reverse.length : Nat) : Int)) = lp xs ys
  rw [List.length_reverse, List.length_nil]
  have e : lp xs ys = if (ys.length : Int) - xs.length > 0 then (ys.length : Int) - xs.length else 0 := rfl
  unfold mx
  split at e <;> split <;> omega
theorem eff_short {xs ys : List Str} {p : Int} (h1 : ∀ z ∈ xs, Item z) (h2 : ∀ z ∈ ys, Item z) (hp : lp xs ys ≤ p) : effM (shortM xs ys p) = some (xs, ys, p) := by
  have em : ((moreM xs ys p : Nat) : Int) = p - lp xs ys := by unfold moreM; omega
  unfold shortM
  split
  · rename_i c
    rw [effM_app (exch_item h1 h2), eff_exch h1, eff_rise, Option.bind_some, Option.bind_some, comp_cw, cw_nil]
    simp only [Option.map_some, List.append_nil, List.nil_append]
    refine congrArg some (Prod.ext rfl (Prod.ext rfl ?_))
    show mx (lp xs ys) ((ys.length : Int) - (xs.length : Int) + (moreM xs ys p : Int)) = p
    have e : lp xs ys = (ys.length : Int) - xs.length := by unfold lp; rw [if_pos c]
    unfold mx
    split <;> omega
  · rename_i c
    rw [effM_app rise_item, eff_exch h1, eff_rise, Option.bind_some, Option.bind_some, comp_cw]
    simp only [cw, Option.map_some, List.append_nil, List.nil_append]
    refine congrArg some (Prod.ext rfl (Prod.ext rfl ?_))
    show mx (moreM xs ys p : Int) (((([] : List Str).length : Nat) : Int) - ((([] : List Str).length : Nat) : Int) + lp xs ys) = p
    have e : lp xs ys = 0 := by unfold lp; rw [if_neg c]
    rw [List.length_nil]
    unfold mx
    split <;> omega
/-! ### what a sequence makes of a stack, with a limit or none -/
def Full (lim : Option Int) (n : Nat) : Prop := ∃ L, lim = some L ∧ L ≤ (n : Int)
def fullB (lim : Option Int) (n : Nat) : Bool := match lim with | none => false | some L => decide (L ≤ (n : Int))
def runL (lim : Option Int) : List Stp → List Str → Option (List Str)
  | [], st => some st
  | (true, z) :: r, st => if fullB lim st.length = true then none else runL lim r (z :: st)
  | (false, _) :: _, [] => none
  | (false, z) :: r, y :: st => if y = z then runL lim r st else none
def overB (lim : Option Int) (n : Nat) : Bool := match lim with | none => false | some L => decide (L < (n : Int))
def runS (lim : Option Int) (ss : List Stp) (st : List Str) : Option (List Str) := if overB lim st.length = true then none else runL lim ss st
theorem run_pops (lim : Option Int) (tt : List Stp) : ∀ (xs st : List Str), runL lim (xs.map (fun z => (false, z)) ++ tt) (xs ++ st) = runL lim tt st
  | [], st => rfl
  | x :: xs, st => by
    show (if x = x then runL lim (xs.map (fun z => (false, z)) ++ tt) (xs ++ st) else none) = _
    rw [if_pos rfl]
    exact run_pops lim tt xs st
theorem run_push (lim : Option Int) (tt : List Stp) : ∀ (zs st : List Str), (∀ L, lim = some L → (st.length : Int) + zs.length ≤ L) → runL lim (zs.map (fun z => (true, z)) ++ tt) st = runL lim tt (zs.reverse ++ st)
  | [], st, _ => rfl
  | z :: zs, st, h => by
    show (if fullB lim st.length = true then none else runL lim (zs.map (fun z => (true, z)) ++ tt) (z :: st)) = _
    have e : fullB lim st.length = false := by
      cases lim with
      | none => rfl
      | some L =>
        have := h L rfl
        rw [List.length_cons] at this
        exact decide_eq_false (by omega)
    rw [e, if_neg Bool.false_ne_true, run_push lim tt zs (z :: st) (fun L q => by have := h L q; simp only [List.length_cons] at this ⊢; omega)]
    simp
theorem run_over (L : Int) (tt : List Stp) : ∀ (zs st : List Str), (st.length : Int) ≤ L → L < (st.length : Int) + zs.length → runL (some L) (zs.map (fun z => (true, z)) ++ tt) st = none
  | [], st, h1, h2 => by simp at h2; omega
  | z :: zs, st, h1, h2 => by
    show (if fullB (some L) st.length = true then none else runL (some L) (zs.map (fun z => (true, z)) ++ tt) (z :: st)) = _
    by_cases c : L ≤ (st.length : Int)
    · rw [if_pos (show fullB (some L) st.length = true from decide_eq_true c)]
    · rw [if_neg (show ¬ fullB (some L) st.length = true from fun q => c (of_decide_eq_true q))]
      refine run_over L tt zs (z :: st) ?_ ?_
      · rw [List.length_cons]; omega
      · simp only [List.length_cons] at h2 ⊢; omega
theorem short_as (xs ys : List Str) (p : Int) : shortM xs ys p = if (ys.length : Int) - (xs.length : Int) > 0 then
      xs.map (fun z => (false, z)) ++ (ys.reverse.map (fun z => (true, z)) ++ ((List.replicate (moreM xs ys p) aS).map (fun z => (true, z)) ++ ((List.replicate (moreM xs ys p) aS).map (fun z => (false, z)) ++ [])))
    else (List.replicate (moreM xs ys p) aS).map (fun z => (true, z)) ++ ((List.replicate (moreM xs ys p) aS).map (fun z => (false, z)) ++ (xs.map (fun z => (false, z)) ++ (ys.reverse.map (fun z => (true, z)) ++ []))) := by
  unfold shortM riseM exchM
  rw [rep_map, rep_map]
  simp
theorem run_short {xs ys : List Str} {p : Int} {lim : Option Int} (hp : lp xs ys ≤ p) (hl : ∀ L, lim = some L → (xs.length : Int) + p ≤ L) : runS lim (shortM xs ys p) xs = some ys := by
  have em : ((moreM xs ys p : Nat) : Int) = p - lp xs ys := by unfold moreM; omega
  have l0 : 0 ≤ lp xs ys := by unfold lp; split <;> omega
  have l1 : (ys.length : Int) - xs.length ≤ lp xs ys := by unfold lp; split <;> omega
  have o : overB lim xs.length = false := by
    cases lim with
    | none => rfl
    | some L => exact decide_eq_false (by have := hl L rfl; omega)
  unfold runS
  rw [o, if_neg Bool.false_ne_true, short_as]
  split
  · rename_i c
    have el : lp xs ys = (ys.length : Int) - xs.length := by unfold lp; rw [if_pos c]
    have e := run_pops lim (ys.reverse.map (fun z => (true, z)) ++ ((List.replicate (moreM xs ys p) aS).map (fun z => (true, z)) ++ ((List.replicate (moreM xs ys p) aS).map (fun z => (false, z)) ++ []))) xs []
    rw [List.append_nil xs] at e
    rw [e, run_push lim _ ys.reverse [] (fun L q => by have := hl L q; rw [List.length_reverse]; simp only [List.length_nil]; omega), List.reverse_reverse, List.append_nil ys]
    rw [run_push lim _ _ ys (fun L q => by have := hl L q; rw [List.length_replicate]; omega), List.reverse_replicate, run_pops lim [] _ ys]
    rfl
  · rename_i c
    have el : lp xs ys = 0 := by unfold lp; rw [if_neg c]
    rw [run_push lim _ _ xs (fun L q => by have := hl L q; rw [List.length_replicate]; omega), List.reverse_replicate, run_pops lim _ _ xs]
    have e := run_pops lim (ys.reverse.map (fun z => (true, z)) ++ []) xs []
    rw [List.append_nil xs] at e
    rw [e, run_push lim _ ys.reverse [] (fun L q => by have := hl L q; rw [List.length_reverse]; simp only [List.length_nil]; omega), List.reverse_reverse, List.append_nil ys]
    rfl
theorem run_short_low {xs ys : List Str} {p : Int} (hp : lp xs ys ≤ p) (h0 : 0 < p) : runS (some ((xs.length : Int) + p - 1)) (shortM xs ys p) xs = none := by
  have em : ((moreM xs ys p : Nat) : Int) = p - lp xs ys := by unfold moreM; omega
  have o : overB (some ((xs.length : Int) + p - 1)) xs.length = false := decide_eq_false (by omega)
  unfold runS
  rw [o, if_neg Bool.false_ne_true, short_as]
  split
  · rename_i c
    have el : lp xs ys = (ys.length : Int) - xs.length := by unfold lp; rw [if_pos c]
    have e := run_pops (some ((xs.length : Int) + p - 1)) (ys.reverse.map (fun z => (true, z)) ++ ((List.replicate (moreM xs ys p) aS).map (fun z => (true, z)) ++ ((List.replicate (moreM xs ys p) aS).map (fun z => (false, z)) ++ []))) xs []
    rw [List.append_nil xs] at e
    rw [e]
    by_cases z : moreM xs ys p = 0
    · refine run_over _ _ _ [] (by simp only [List.length_nil]; omega) ?_
      rw [List.length_reverse]
      simp only [List.length_nil]
      omega
    · rw [run_push _ _ ys.reverse [] (fun L q => by cases q; rw [List.length_reverse]; simp only [List.length_nil]; omega), List.reverse_reverse, List.append_nil ys]
      refine run_over _ _ _ ys (by omega) ?_
      rw [List.length_replicate]
      omega
  · rename_i c
    have el : lp xs ys = 0 := by unfold lp; rw [if_neg c]
    refine run_over _ _ _ xs (by omega) ?_
    rw [List.length_replicate]
    omega
/-- the length by the two plans -/
theorem plans {xs ys : List Str} {m : Int} (hm : 0 ≤ m) : ∀ q : Int, (q = 2 * (lp xs ys + m) + xs.length + ys.length ∨ q = 2 * (lp xs ys + m) + 3 * xs.length - ys.length) → (xs.length : Int) + ys.length + 2 * m ≤ q := by
  intro q h
  have e : lp xs ys = if (ys.length : Int) - xs.length > 0 then (ys.length : Int) - xs.length else 0 := rfl
  split at e <;> rcases h with h | h <;> omega
end SE
namespace SE
open PySem PySem.Spec PyProof.Rows L2
theorem iteB' {c : Bool} {A B : Prop} (ht : c = true → A) (hf : c = false → B) : if c = true then A else B := by
  cases c with
  | true => exact iteT (ht rfl)
  | false => exact iteF (hf rfl)
section
variable {P : Program} {w : World} {K : PySem.W.Frag} {mg : Str → Option Value} {base : Heap} {C : Addr}
/-! ### power -/
def spPow : Sp := fun xs H Q _ => ∃ (b e : Nat), xs = [.int (b : Int), .int (e : Int)] ∧ b ≤ 64 ∧ e ≤ 1000 ∧ ∀ H', Same H H' → Q (.int ((b ^ e : Nat) : Int)) H'
abbrev nPw : List Str := ["base", "exponent", "product", "step"]
theorem scPw : FnScope nPw ["base", "exponent"] (defScope sPower) := ⟨rfl, rfl, rfl, by decide +kernel, rfl, by decide +kernel, by decide +kernel⟩
theorem has_pow (D : Def K mg "power" sPower) (mr : mg "range" = none) : Has P w K mg base "power" 1 ["base", "exponent"] [] spPow := by
  refine has_of D scPw (fun _ _ _ _ _ _ us hl => match us, hl with | [_, _], _ => rfl) (fun xs H Q E h => ?_) (fun f cv A out s H xs Q E hr h => ?_)
  · obtain ⟨b, e, rfl, _⟩ := h
    rfl
  · obtain ⟨b, e, rfl, hb, he, k⟩ := h
    refine ⟨_, pss_cons (ps_set (i := 2) scPw.nd rfl (.inl rfl) pe_int)
      (pss_cons (ps_for PassesOwn.never rfl (pi_range1 (by rfl) mr (pa_cons (pv 1) pa_nil)) (pg_name (i := 3) scPw.nd rfl (.inl rfl))
        (pss_one (ps_aug (i := 2) scPw.nd rfl (.inl rfl) (pv 0) iop_mulG)))
      (pss_one (ps_ret (pv 2)))), ?_⟩
    refine ⟨_, rfl, (e : Int), rfl, by omega, by omega, for_range (lo := 0) (n := e) (fun j σ H2 => ∃ (y3 : Option V), σ = [some (.int (b : Int)), some (.int (e : Int)), some (.int ((b ^ j : Nat) : Int)), y3] ∧ H2 = H) ⟨_, rfl, rfl⟩ ?_ ?_⟩
    · rintro j σ H2 hj ⟨y3, rfl, rfl⟩
      refine ⟨_, rfl, _, rfl, _, _, rfl, rfl, ⟨?_, ?_⟩, some (.int (0 + (j : Nat))), ?_, rfl⟩
      · rw [Int.natAbs_natCast]
        exact pow_big hb (by omega)
      · exact small_big (by rw [Int.natAbs_natCast]; omega)
      · rw [Nat.pow_succ, Int.natCast_mul]
        rfl
    · rintro σ H2 ⟨y3, rfl, rfl⟩
      exact ⟨_, rfl, k _ (Same.refl _)⟩
/-! ### surplus -/
def spSur (K : PySem.W.Frag) (C : Addr) : Sp := fun vs H Q _ => ∃ (e : Addr) (xs ys : List Str) (p : Int), vs = [.ref e] ∧ EffAt K C H e xs ys p ∧ Q (.int (p - lp xs ys)) H
theorem scSurr : FnScope ["effect"] ["effect"] (defScope sSurplus) := ⟨rfl, rfl, rfl, by decide +kernel, rfl, by decide +kernel, by decide +kernel⟩
theorem has_sur (D : Def K mg "surplus" sSurplus) (T : EC K mg C) (GP : PropHas P w K mg base C "pops" 1 (spPops K C)) (GU : PropHas P w K mg base C "pushes" 1 (spPush K C)) (GK : PropHas P w K mg base C "peak" 1 (spPeak K C)) (GL : Has P w K mg base "least_peak" 1 ["pops", "pushes"] [] (spLeast K)) :
    Has P w K mg base "surplus" 3 ["effect"] [] (spSur K C) := by
  refine has_of D scSurr (fun _ _ _ _ _ _ us hl => match us, hl with | [_], _ => rfl) (fun xs H Q E h => ?_) (fun f cv A out s H xs Q E hr h => ?_)
  · obtain ⟨e, xs, ys, p, rfl, _⟩ := h
    rfl
  · obtain ⟨e, xs, ys, p, rfl, he, k⟩ := h
    have hr1 : Room 1 _ := hr.mono (by decide)
    refine ⟨_, pss_one (ps_ret (pe_op op_sub (pe_propH GK (pv 0) T.cl hr) (pe_has GL hr1 (pa_cons (pe_propH GP (pv 0) T.cl hr) (pa_cons (pe_propH GU (pv 0) T.cl hr) pa_nil))))), ?_⟩
    obtain ⟨dx, u, v, h1, _, _⟩ := he.ex
    refine ⟨_, rfl, e, dx, _, rfl, h1, e, xs, ys, p, rfl, he, ?_⟩
    refine ⟨_, rfl, e, dx, _, rfl, h1, e, xs, ys, p, rfl, he, fun u' hu => ?_⟩
    refine ⟨_, rfl, e, dx, _, rfl, h1, e, xs, ys, p, rfl, he, fun v' hv => ?_⟩
    exact ⟨u', v', xs, ys, rfl, hu, hv, _, _, rfl, rfl, k⟩
/-! ### shortest_length -/
def spSl (K : PySem.W.Frag) (C : Addr) : Sp := fun vs H Q _ => ∃ (e : Addr), vs = [.ref e] ∧ ((∃ xs ys p, EffAt K C H e xs ys p ∧ xs.length ≤ 5000 ∧ ys.length ≤ 5000 ∧ Q (.int ((xs.length : Int) + ys.length + 2 * (p - lp xs ys))) H) ∨ (NevAt C H e ∧ Q (.int 2) H))
theorem scSl : FnScope ["effect"] ["effect"] (defScope sShortestLength) := ⟨rfl, rfl, rfl, by decide +kernel, rfl, by decide +kernel, by decide +kernel⟩
theorem has_sl (D : Def K mg "shortest_length" sShortestLength) (T : EC K mg C) (GP : PropHas P w K mg base C "pops" 1 (spPops K C)) (GU : PropHas P w K mg base C "pushes" 1 (spPush K C)) (GN : PropHas P w K mg base C "is_never" 1 (spIsNev K C)) (GS : Has P w K mg base "surplus" 3 ["effect"] [] (spSur K C)) (B : Blt mg) :
    Has P w K mg base "shortest_length" 4 ["effect"] [] (spSl K C) := by
  refine has_of D scSl (fun _ _ _ _ _ _ us hl => match us, hl with | [_], _ => rfl) (fun xs H Q E h => ?_) (fun f cv A out s H xs Q E hr h => ?_)
  · obtain ⟨e, rfl, _⟩ := h
    rfl
  · obtain ⟨e, rfl, h⟩ := h
    have hr2 : Room 2 _ := hr.mono (by decide)
    refine ⟨_, pss_cons (ps_if (pt_val (pe_propH GN (pv 0) T.cl hr2)) (pss_one (ps_ret pe_int)) pss_nil)
      (pss_one (ps_ret (pe_op op_add (pe_op op_add (pe_callB call_len_seq (by rfl) B.len PySem.boot_len (pa_cons (pe_propH GP (pv 0) T.cl hr2) pa_nil)) (pe_callB call_len_seq (by rfl) B.len PySem.boot_len (pa_cons (pe_propH GU (pv 0) T.cl hr2) pa_nil))) (pe_op op_mul pe_int (pe_has GS hr (pa_cons (pv 0) pa_nil)))))), ?_⟩
    rcases h with ⟨xs, ys, p, he, l1, l2, k⟩ | ⟨hn, k⟩
    · obtain ⟨dx, u, v, h1, _, _⟩ := he.ex
      refine ⟨_, rfl, e, dx, _, rfl, h1, e, rfl, .inl ⟨xs, ys, p, he, false, rfl, iteF ?_⟩⟩
      refine ⟨_, rfl, e, dx, _, rfl, h1, e, xs, ys, p, rfl, he, fun u' hu => ⟨u', _, rfl, .inr hu, _, rfl, e, dx, _, rfl, h1, e, xs, ys, p, rfl, he, fun v' hv => ⟨v', _, rfl, .inr hv, _, _, rfl, rfl, ?_⟩⟩⟩
      refine ⟨_, rfl, e, xs, ys, p, rfl, he, _, _, rfl, rfl, .inl ⟨by decide, by decide⟩, _, _, rfl, rfl, ?_⟩
      rw [List.length_map, List.length_map]
      exact k
    · obtain ⟨dx, h1⟩ := hn.ex
      exact ⟨_, rfl, e, dx, _, rfl, h1, e, rfl, .inr ⟨hn, true, rfl, iteT k⟩⟩
/-! ### ways_many -/
def waysM (xs ys : List Str) (p : Int) : Int := if ((ys.length : Int) - xs.length = 0 ∧ p > 0) ∧ xs.length > 0 then 2 else 1
def spWy (K : PySem.W.Frag) (C : Addr) : Sp := fun vs H Q _ => ∃ (e : Addr) (xs ys : List Str) (p : Int), vs = [.ref e] ∧ EffAt K C H e xs ys p ∧ Q (.int (waysM xs ys p)) H
theorem scWy : FnScope ["effect"] ["effect"] (defScope sWaysMany) := ⟨rfl, rfl, rfl, by decide +kernel, rfl, by decide +kernel, by decide +kernel⟩
theorem has_wy (D : Def K mg "ways_many" sWaysMany) (T : EC K mg C) (GP : PropHas P w K mg base C "pops" 1 (spPops K C)) (GC : PropHas P w K mg base C "change" 1 (spChan K C)) (GK : PropHas P w K mg base C "peak" 1 (spPeak K C)) (B : Blt mg) :
    Has P w K mg base "ways_many" 3 ["effect"] [] (spWy K C) := by
  refine has_of D scWy (fun _ _ _ _ _ _ us hl => match us, hl with | [_], _ => rfl) (fun xs H Q E h => ?_) (fun f cv A out s H xs Q E hr h => ?_)
  · obtain ⟨e, xs, ys, p, rfl, _⟩ := h
    rfl
  · obtain ⟨e, xs, ys, p, rfl, he, k⟩ := h
    refine ⟨_, pss_one (ps_ret (pe_ifExp (PW.pt (pw_and (pt_cmpR op_eq (pe_propH GC (pv 0) T.cl hr) pe_int (nomark _)) (pw_and (pt_cmpR op_gt (pe_propH GK (pv 0) T.cl hr) pe_int (nomark _)) (pw_and1 (pt_cmpR op_gt (pe_callB call_len_seq (by rfl) B.len PySem.boot_len (pa_cons (pe_propH GP (pv 0) T.cl hr) pa_nil)) pe_int (nomark _)))))) pe_int pe_int)), ?_⟩
    obtain ⟨dx, u, v, h1, _, _⟩ := he.ex
    have fin : ∀ z : Int, z = waysM xs ys p → Q (.int z) H := fun z e => by rw [e]; exact k
    refine ⟨_, rfl, e, dx, _, rfl, h1, e, xs, ys, p, rfl, he, rfl, _, rfl, ?_⟩
    refine iteB' (fun c1 => ?_) (fun c1 => ?_)
    rotate_left
    · have c1 := of_decide_eq_false c1
      refine iteF (fin 1 ?_)
      unfold waysM
      rw [if_neg fun z => c1 (by rw [z.1.1])]
    have c1 := V.int.inj (of_decide_eq_true c1)
    refine ⟨_, rfl, e, dx, _, rfl, h1, e, xs, ys, p, rfl, he, p, 0, rfl, rfl, _, rfl, ?_⟩
    refine iteB' (fun c2 => ?_) (fun c2 => ?_)
    rotate_left
    · have c2 := of_decide_eq_false c2
      refine iteF (fin 1 ?_)
      unfold waysM
      rw [if_neg fun z => c2 z.1.2]
    have c2 := of_decide_eq_true c2
    refine ⟨_, rfl, e, dx, _, rfl, h1, e, xs, ys, p, rfl, he, fun u' hu => ⟨u', _, rfl, .inr hu, _, 0, rfl, rfl, _, rfl, ?_⟩⟩
    rw [List.length_map]
    refine iteB' (fun c3 => ?_) (fun c3 => ?_)
    · have c3 := of_decide_eq_true c3
      refine fin 2 ?_
      unfold waysM
      rw [if_pos ⟨⟨c1, c2⟩, by omega⟩]
    · have c3 := of_decide_eq_false c3
      refine fin 1 ?_
      unfold waysM
      rw [if_neg fun z => c3 (by have := z.2; omega)]
end
end SE
namespace SE
open PySem PySem.Spec PyProof.Rows L2
theorem stepsH_sm {H H' : Hp} {xs : List V} {ss : List Stp} (h : StepsH H xs ss) (s : Same H H') : StepsH H' xs ss := Paired.mapP h fun _ _ q => by
  obtain ⟨t, e, z⟩ := q
  exact ⟨t, e, s _ _ z⟩
theorem stepsH_app {H : Hp} : ∀ {xs us : List V} {ss tt : List Stp}, StepsH H xs ss → StepsH H us tt → StepsH H (xs ++ us) (ss ++ tt)
  | _, _, _, _, .nil, h => h
  | _, _, _, _, .cons a r, h => .cons a (stepsH_app r h)
theorem stepsH_rep {H : Hp} {t : Addr} {s : Stp} (h : H t = some (.tup [.str (act s.1), .str s.2])) : ∀ n, StepsH H (List.replicate n (.ref t)) (List.replicate n s)
  | 0 => .nil
  | n + 1 => .cons ⟨t, rfl, h⟩ (stepsH_rep h n)
theorem flat_one (n : Nat) (v : V) : (List.replicate n [v]).flatten = List.replicate n v := List.flatten_replicate_singleton
/-- the constants of shortest -/
structure SC (mg : Str → Option Value) : Prop where
  fi : ∃ t, mg "FIRST_ITEM" = some (.str "a" t)
  oi : ∃ t, mg "OTHER_ITEM" = some (.str "b" t)
  mi : ∃ t, mg "MOST_ITEMS" = some (.int 50 t)
section
variable {P : Program} {w : World} {K : PySem.W.Frag} {mg : Str → Option Value} {base : Heap} {C : Addr}
/-! ### shortest, of never too -/
def bS : Str := "b"
def spSh (K : PySem.W.Frag) (C : Addr) : Sp := fun vs H Q _ => ∃ (e : Addr), vs = [.ref e] ∧ ((∃ (xs ys : List Str) (p : Int), EffAt K C H e xs ys p ∧ xs.length ≤ 1000 ∧ ys.length ≤ 1000 ∧ lp xs ys ≤ p ∧ p - lp xs ys ≤ 1000 ∧
  ∀ (l : Addr) (us : List V) (H' : Hp), Same H H' → H l = none → H' l = some (.lst us) → StepsH H' us (shortM xs ys p) → Q (.ref l) H') ∨ (NevAt C H e ∧ ∀ (l : Addr) (us : List V) (H' : Hp), Same H H' → H l = none → H' l = some (.lst us) → StepsH H' us [(true, aS), (false, bS)] → Q (.ref l) H'))
abbrev nSh : List Str := ["effect", "many", "rise", "exchange", "item"]
theorem scSh : FnScope nSh ["effect"] (defScope sShortest) := ⟨rfl, rfl, rfl, by decide +kernel, rfl, by decide +kernel, by decide +kernel⟩
theorem has_sh (D : Def K mg "shortest" sShortest) (T : EC K mg C) (GP : PropHas P w K mg base C "pops" 1 (spPops K C)) (GU : PropHas P w K mg base C "pushes" 1 (spPush K C)) (GC : PropHas P w K mg base C "change" 1 (spChan K C)) (GN : PropHas P w K mg base C "is_never" 1 (spIsNev K C))
    (GS : Has P w K mg base "surplus" 3 ["effect"] [] (spSur K C)) (c : SC mg) : Has P w K mg base "shortest" 4 ["effect"] [] (spSh K C) := by
  obtain ⟨ta, ma⟩ := c.fi
  obtain ⟨tb, mb⟩ := c.oi
  refine has_of D scSh (fun _ _ _ _ _ _ us hl => match us, hl with | [_], _ => rfl) (fun xs H Q E h => ?_) (fun f cv A out s H xs Q E hr h => ?_)
  · obtain ⟨e, rfl, _⟩ := h
    rfl
  · obtain ⟨e, rfl, h⟩ := h
    have hr2 : Room 2 _ := hr.mono (by decide)
    refine ⟨_, pss_cons (ps_if (pt_val (pe_propH GN (pv 0) T.cl hr2)) (pss_one (ps_ret (pe_lst (pa_cons (pe_tup (pa_cons pe_str (pa_cons (pe_glob (v := .str "a") rfl ma ⟨_, rfl⟩) pa_nil))) (pa_cons (pe_tup (pa_cons pe_str (pa_cons (pe_glob (v := .str "b") rfl mb ⟨_, rfl⟩) pa_nil))) pa_nil))))) pss_nil)
      (pss_cons (ps_set (i := 1) scSh.nd rfl (.inl rfl) (pe_has GS hr (pa_cons (pv 0) pa_nil)))
      (pss_cons (ps_set (i := 2) scSh.nd rfl (.inl rfl) (pe_op op_cat (pe_op op_rep (pe_lst (pa_cons (pe_tup (pa_cons pe_str (pa_cons (pe_glob (v := .str "a") rfl ma ⟨_, rfl⟩) pa_nil))) pa_nil)) (pv 1)) (pe_op op_rep (pe_lst (pa_cons (pe_tup (pa_cons pe_str (pa_cons (pe_glob (v := .str "a") rfl ma ⟨_, rfl⟩) pa_nil))) pa_nil)) (pv 1))))
      (pss_cons (ps_set (i := 3) scSh.nd rfl (.inl rfl) (pe_op op_cat
        (pe_lc (own := [("item", 4)]) (g := gName 4) (tt := tYes) (te := tTup (tCons (tC (.str "pop")) (tCons (tVar 4) tNil))) rfl scSh.nd (pi_tup (pe_propH GP (pv 0) T.cl hr2)) (blkOk_by (own := [("item", 4)]) (N := nSh) (sc := defScope sShortest) (by decide +kernel))
          (fun _ _ _ _ _ => pg_name (i := 4) scSh.nd rfl (.inl rfl)) (fun _ _ _ _ _ => pts_nil) (fun _ _ _ _ _ => pe_tup (pa_cons pe_str (pa_cons (pv 4) pa_nil))))
        (pe_lc (own := [("item", 4)]) (g := gName 4) (tt := tYes) (te := tTup (tCons (tC (.str "push")) (tCons (tVar 4) tNil))) rfl scSh.nd (pi_tup (pe_revT (pe_propH GU (pv 0) T.cl hr2))) (blkOk_by (own := [("item", 4)]) (N := nSh) (sc := defScope sShortest) (by decide +kernel))
          (fun _ _ _ _ _ => pg_name (i := 4) scSh.nd rfl (.inl rfl)) (fun _ _ _ _ _ => pts_nil) (fun _ _ _ _ _ => pe_tup (pa_cons pe_str (pa_cons (pv 4) pa_nil))))))
      (pss_one (ps_ret (pe_ifExp (pt_cmpR op_gt (pe_propH GC (pv 0) T.cl hr2) pe_int (nomark _)) (pe_op op_cat (pv 3) (pv 2)) (pe_op op_cat (pv 2) (pv 3)))))))), ?_⟩
    rcases h with ⟨xs, ys, p, he, l1, l2, h0, h9, k⟩ | ⟨hn, k⟩
    rotate_left
    · obtain ⟨dx, h1⟩ := hn.ex
      refine ⟨_, rfl, e, dx, _, rfl, h1, e, rfl, .inr ⟨hn, true, rfl, iteT ?_⟩⟩
      refine ⟨(by show 2 ≤ sizeLine; decide), fun t1 ht1 => ⟨(by show 2 ≤ sizeLine; decide), fun t2 ht2 => ⟨(by show 2 ≤ sizeLine; decide), fun l hl => ?_⟩⟩⟩
      have s1 := Same.new (o := .tup [.str "push", .str "a"]) ht1
      have s2 := Same.new (o := .tup [.str "pop", .str "b"]) ht2
      have s3 := Same.new (o := .lst [V.ref t1, .ref t2]) hl
      refine k l [.ref t1, .ref t2] _ ((s1.trans s2).trans s3) ((s1.trans s2).free hl) upd_same (.cons ⟨t1, rfl, ?_⟩ (.cons ⟨t2, rfl, ?_⟩ .nil))
      · exact s3 _ _ (s2 _ _ upd_same)
      · exact s3 _ _ upd_same
    have ins : ∀ {H2 : Hp}, Same H H2 → ∃ dx fs, H2 e = some (.ins C dx fs) := fun s2 => by
      obtain ⟨dx, u, v, h1, _, _⟩ := (he.same s2).ex
      exact ⟨dx, _, h1⟩
    obtain ⟨dx, fs, i1⟩ := ins (Same.refl H)
    have em : ((moreM xs ys p : Nat) : Int) = p - lp xs ys := by unfold moreM; omega
    have big : ∀ m : Nat, m ≤ 400000 → m ≤ sizeLine := fun m hm => by
      rw [sizeLine_eq]
      omega
    refine ⟨_, rfl, e, dx, fs, rfl, i1, e, rfl, .inl ⟨xs, ys, p, he, false, rfl, iteF ?_⟩⟩
    refine ⟨_, rfl, e, xs, ys, p, rfl, he, ?_⟩
    rw [← em]
    -- rise
    refine ⟨(by show 2 ≤ sizeLine; decide), fun t1 ht1 => ⟨(by show 1 ≤ sizeLine; decide), fun a1 ha1 => ?_⟩⟩
    have s1 : Same H (upd (upd H t1 (.tup [.str "push", .str "a"])) a1 (.lst [.ref t1])) := (Same.new ht1).trans (Same.new ha1)
    have e1 : (upd (upd H t1 (.tup [.str "push", .str "a"])) a1 (.lst [.ref t1])) t1 = some (.tup [.str (act (true, aS).1), .str (true, aS).2]) := (Same.new ha1) _ _ upd_same
    have f1 : (upd (upd H t1 (.tup [.str "push", .str "a"])) a1 (.lst [.ref t1])) a1 = some (.lst [.ref t1]) := upd_same
    generalize upd (upd H t1 (.tup [.str "push", .str "a"])) a1 (.lst [.ref t1]) = H1 at s1 e1 f1
    refine ⟨_, rfl, a1, _, _, rfl, rfl, f1, by omega, by omega, big _ (by simp only [List.length_singleton]; omega), fun b1 hb1 => ?_⟩
    rw [Int.toNat_natCast, flat_one]
    have s2 := Same.new (o := .lst (List.replicate (moreM xs ys p) (V.ref t1))) hb1
    have g1 : (upd H1 b1 (.lst (List.replicate (moreM xs ys p) (V.ref t1)))) b1 = some (.lst (List.replicate (moreM xs ys p) (V.ref t1))) := upd_same
    generalize upd H1 b1 (.lst (List.replicate (moreM xs ys p) (V.ref t1))) = H2 at s2 g1
    refine ⟨(by show 2 ≤ sizeLine; decide), fun t2 ht2 => ⟨(by show 1 ≤ sizeLine; decide), fun a2 ha2 => ?_⟩⟩
    have s3 : Same H2 (upd (upd H2 t2 (.tup [.str "pop", .str "a"])) a2 (.lst [.ref t2])) := (Same.new ht2).trans (Same.new ha2)
    have e2 : (upd (upd H2 t2 (.tup [.str "pop", .str "a"])) a2 (.lst [.ref t2])) t2 = some (.tup [.str (act (false, aS).1), .str (false, aS).2]) := (Same.new ha2) _ _ upd_same
    have f2 : (upd (upd H2 t2 (.tup [.str "pop", .str "a"])) a2 (.lst [.ref t2])) a2 = some (.lst [.ref t2]) := upd_same
    generalize upd (upd H2 t2 (.tup [.str "pop", .str "a"])) a2 (.lst [.ref t2]) = H3 at s3 e2 f2
    refine ⟨_, rfl, a2, _, _, rfl, rfl, f2, by omega, by omega, big _ (by simp only [List.length_singleton]; omega), fun b2 hb2 => ?_⟩
    rw [Int.toNat_natCast, flat_one]
    have s4 := Same.new (o := .lst (List.replicate (moreM xs ys p) (V.ref t2))) hb2
    have g2 : (upd H3 b2 (.lst (List.replicate (moreM xs ys p) (V.ref t2)))) b2 = some (.lst (List.replicate (moreM xs ys p) (V.ref t2))) := upd_same
    generalize upd H3 b2 (.lst (List.replicate (moreM xs ys p) (V.ref t2))) = H4 at s4 g2
    have r1 : StepsH H4 (List.replicate (moreM xs ys p) (.ref t1)) (List.replicate (moreM xs ys p) ((true, aS) : Stp)) := stepsH_rep (s4 _ _ (s3 _ _ (s2 _ _ e1))) _
    have r2 : StepsH H4 (List.replicate (moreM xs ys p) (.ref t2)) (List.replicate (moreM xs ys p) ((false, aS) : Stp)) := stepsH_rep (s4 _ _ e2) _
    refine ⟨b1, b2, _, _, rfl, rfl, s4 _ _ (s3 _ _ g1), g2, big _ (by rw [List.length_replicate, List.length_replicate]; omega), fun R hR => ?_⟩
    have s5 := Same.new (o := .lst (List.replicate (moreM xs ys p) (V.ref t1) ++ List.replicate (moreM xs ys p) (V.ref t2))) hR
    have r3 := stepsH_sm (stepsH_app r1 r2) s5
    have g3 : (upd H4 R (.lst (List.replicate (moreM xs ys p) (V.ref t1) ++ List.replicate (moreM xs ys p) (V.ref t2)))) R = some (.lst (List.replicate (moreM xs ys p) (V.ref t1) ++ List.replicate (moreM xs ys p) (V.ref t2))) := upd_same
    have s05 := (((s1.trans s2).trans s3).trans s4).trans s5
    have lR : (List.replicate (moreM xs ys p) (V.ref t1) ++ List.replicate (moreM xs ys p) (V.ref t2)).length ≤ 3000 := by rw [List.length_append, List.length_replicate, List.length_replicate]; omega
    generalize upd H4 R (.lst (List.replicate (moreM xs ys p) (V.ref t1) ++ List.replicate (moreM xs ys p) (V.ref t2))) = H5 at r3 g3 s05
    generalize List.replicate (moreM xs ys p) (V.ref t1) ++ List.replicate (moreM xs ys p) (V.ref t2) = rs at r3 g3 lR
    have r3 : StepsH H5 rs (riseM (moreM xs ys p)) := r3
    -- exchange
    obtain ⟨dx5, fs5, i5⟩ := ins s05
    refine ⟨_, rfl, e, dx5, fs5, rfl, i5, e, xs, ys, p, rfl, he.same s05, fun u hu => ⟨u, rfl, ⟨_, hu⟩, fun D1 hD1 => lc_tup (K := K) (a := u) (xs := xs.map V.str) (fun j H6 => ∃ us, H6 D1 = some (.lst us) ∧ StepsH H6 us ((xs.take j).map fun z => (false, z)) ∧ Same H5 H6) ⟨[], upd_same, .nil, Same.new hD1⟩ (fun j H6 _ q => ?_) ?_ ?_⟩⟩
    · obtain ⟨_, _, _, s6⟩ := q
      exact Same.tup s6 hu
    · rintro j x H6 hx ⟨us, hus, hP, s6⟩
      rw [List.getElem?_map] at hx
      cases hz : xs[j]? with
      | none =>
        rw [hz] at hx
        cases hx
      | some z =>
        rw [hz] at hx
        cases hx
        refine ⟨rfl, yes_in ⟨_, rfl, (by show 2 ≤ sizeLine; decide), fun t ht => ?_⟩⟩
        have sT : Same H6 (upd H6 t (.tup [.str "pop", .str z])) := Same.new ht
        have hT : (upd H6 t (.tup [.str "pop", .str z])) t = some (.tup [.str (act (false, z).1), .str (false, z).2]) := upd_same
        have lu := Paired.length hP
        rw [List.length_map, List.length_take] at lu
        refine ⟨us, sT _ _ hus, (by have := big (us.length + 1) (by omega); omega), us ++ [.ref t], upd_same, ?_, Same.free2 (s6.trans sT) hD1⟩
        rw [List.take_add_one, hz, List.map_append]
        refine StepsH.upd (Paired.snoc2 (stepsH_sm hP sT) ⟨t, rfl, hT⟩) fun ys q => ?_
        rw [sT _ _ hus] at q
        cases q
    rintro H6 ⟨us, hus, hP, s6⟩
    rw [List.length_map, List.take_length] at hP
    have s06 := s05.trans s6
    obtain ⟨dx6, fs6, i6⟩ := ins s06
    refine ⟨_, rfl, e, dx6, fs6, rfl, i6, e, xs, ys, p, rfl, he.same s06, fun v hv => ⟨v, _, rfl, hv, fun rv hrv => ?_⟩⟩
    rw [← List.map_reverse]
    have s7 : Same H6 (upd H6 rv (.tup (ys.reverse.map V.str))) := Same.new hrv
    have h7 : (upd H6 rv (.tup (ys.reverse.map V.str))) rv = some (.tup (ys.reverse.map V.str)) := upd_same
    generalize upd H6 rv (.tup (ys.reverse.map V.str)) = H7 at s7 h7
    refine ⟨rv, rfl, ⟨_, .of h7⟩, fun D2 hD2 => lc_tup (K := K) (a := rv) (xs := ys.reverse.map V.str) (fun j H8 => ∃ ws, H8 D2 = some (.lst ws) ∧ StepsH H8 ws ((ys.reverse.take j).map fun z => (true, z)) ∧ Same H7 H8) ⟨[], upd_same, .nil, Same.new hD2⟩ (fun j H8 _ q => ?_) ?_ ?_⟩
    · obtain ⟨_, _, _, s8⟩ := q
      exact Same.tup s8 (.of h7)
    · rintro j x H8 hx ⟨ws, hws, hQ, s8⟩
      rw [List.getElem?_map] at hx
      cases hz : ys.reverse[j]? with
      | none =>
        rw [hz] at hx
        cases hx
      | some z =>
        rw [hz] at hx
        cases hx
        refine ⟨rfl, yes_in ⟨_, rfl, (by show 2 ≤ sizeLine; decide), fun t ht => ?_⟩⟩
        have sT : Same H8 (upd H8 t (.tup [.str "push", .str z])) := Same.new ht
        have hT : (upd H8 t (.tup [.str "push", .str z])) t = some (.tup [.str (act (true, z).1), .str (true, z).2]) := upd_same
        have lu := Paired.length hQ
        rw [List.length_map, List.length_take, List.length_reverse] at lu
        refine ⟨ws, sT _ _ hws, (by have := big (ws.length + 1) (by omega); omega), ws ++ [.ref t], upd_same, ?_, Same.free2 (s8.trans sT) hD2⟩
        rw [List.take_add_one, hz, List.map_append]
        refine StepsH.upd (Paired.snoc2 (stepsH_sm hQ sT) ⟨t, rfl, hT⟩) fun ys q => ?_
        rw [sT _ _ hws] at q
        cases q
    rintro H8 ⟨ws, hws, hQ, s8⟩
    rw [List.length_map, List.take_length] at hQ
    have s78 := s7.trans s8
    have hP8 := stepsH_sm hP s78
    have lu := Paired.length hP8
    have lw := Paired.length hQ
    rw [List.length_map] at lu
    rw [List.length_map, List.length_reverse] at lw
    refine ⟨D1, D2, us, ws, rfl, rfl, s78 _ _ hus, hws, big _ (by omega), fun X hX => ?_⟩
    have s9 := Same.new (o := .lst (us ++ ws)) hX
    have x9 : (upd H8 X (.lst (us ++ ws))) X = some (.lst (us ++ ws)) := upd_same
    have xx : StepsH (upd H8 X (.lst (us ++ ws))) (us ++ ws) (exchM xs ys) := stepsH_sm (stepsH_app hP8 hQ) s9
    have s09 := (s06.trans s78).trans s9
    have s59 := (s6.trans s78).trans s9
    generalize upd H8 X (.lst (us ++ ws)) = H9 at x9 xx s09 s59
    have g9 := s59 _ _ g3
    have r9 := stepsH_sm r3 s59
    obtain ⟨dx9, fs9, i9⟩ := ins s09
    have lX : (us ++ ws).length ≤ 2000 := by rw [List.length_append]; omega
    generalize us ++ ws = es at x9 xx lX
    refine ⟨_, rfl, e, dx9, fs9, rfl, i9, e, xs, ys, p, rfl, he.same s09, _, _, rfl, rfl, _, rfl, ?_⟩
    refine iteB' (fun cc => ?_) (fun cc => ?_)
    · have cc := of_decide_eq_true cc
      refine ⟨_, rfl, _, rfl, X, R, _, _, rfl, rfl, x9, g9, big _ (by omega), fun L hL => k L (es ++ rs) _ (s09.trans (Same.new hL)) (s09.free hL) upd_same ?_⟩
      unfold shortM
      rw [if_pos cc]
      exact stepsH_sm (stepsH_app xx r9) (Same.new hL)
    · have cc := of_decide_eq_false cc
      refine ⟨_, rfl, _, rfl, R, X, _, _, rfl, rfl, g9, x9, big _ (by omega), fun L hL => k L (rs ++ es) _ (s09.trans (Same.new hL)) (s09.free hL) upd_same ?_⟩
      unfold shortM
      rw [if_neg cc]
      exact stepsH_sm (stepsH_app r9 xx) (Same.new hL)
end
end SE
/-! Plain data in which empty dicts may stand: its kinds, ==, in, and repr of every kind. -/
namespace SE
open PySem PySem.Spec PyProof.Rows L2
mutual
inductive DpX (K : PySem.W.Frag) (H : Hp) : V → PyData → Prop
  | non : DpX K H .non .none
  | bl (b : Bool) : DpX K H (.bl b) (.bool b)
  | int (i : Int) : DpX K H (.int i) (.int i)
  | str (x : Str) : DpX K H (.str x) (.str x)
  | lst {a : Addr} {xs : List V} {ds : List PyData} : SqL K H a xs → DpXs K H xs ds → DpX K H (.ref a) (.list ds)
  | tup {a : Addr} {xs : List V} {ds : List PyData} : SqT K H a xs → DpXs K H xs ds → DpX K H (.ref a) (.tuple ds)
  | emp {a : Addr} : H a = some (.dK []) → DpX K H (.ref a) (.dict [])
inductive DpXs (K : PySem.W.Frag) (H : Hp) : List V → List PyData → Prop
  | nil : DpXs K H [] []
  | cons {v : V} {vs : List V} {d : PyData} {ds : List PyData} : DpX K H v d → DpXs K H vs ds → DpXs K H (v :: vs) (d :: ds)
end
section
variable {K : PySem.W.Frag} {H H' : Hp}
mutual
theorem DpX.same (s : Same H H') : ∀ (d : PyData) (v : V), DpX K H v d → DpX K H' v d
  | .none, _, h => by cases h; exact .non
  | .bool b, _, h => by cases h; exact .bl b
  | .int i, _, h => by cases h; exact .int i
  | .str x, _, h => by cases h; exact .str x
  | .list ds, _, h => by
    cases h with
    | lst a b => exact .lst (Same.seq s a) (DpXs.same s ds _ b)
  | .tuple ds, _, h => by
    cases h with
    | tup a b => exact .tup (Same.tup s a) (DpXs.same s ds _ b)
  | .dict kvs, _, h => by
    cases h with
    | emp a => exact .emp (s _ _ a)
theorem DpXs.same (s : Same H H') : ∀ (ds : List PyData) (vs : List V), DpXs K H vs ds → DpXs K H' vs ds
  | [], _, h => by cases h; exact .nil
  | d :: ds, _, h => by
    cases h with
    | cons a b => exact .cons (DpX.same s d _ a) (DpXs.same s ds _ b)
end
theorem DpXs.at : ∀ {vs : List V} {ds : List PyData} {i : Nat} {v : V}, DpXs K H vs ds → vs[i]? = some v → ∃ d, ds[i]? = some d ∧ DpX K H v d
  | _, _, 0, v, .cons a b, h => by cases h; exact ⟨_, rfl, a⟩
  | _, _, i + 1, v, .cons a b, h => by
    obtain ⟨d, h1, h2⟩ := DpXs.at b h
    exact ⟨d, h1, h2⟩
theorem DpXs.len : ∀ {vs : List V} {ds : List PyData}, DpXs K H vs ds → vs.length = ds.length
  | _, _, .nil => rfl
  | _, _, .cons a b => by rw [List.length_cons, List.length_cons, DpXs.len b]
end
section
variable {X : Cx} {pins : List (Addr × Obj)} {σ : L2.St} {H : Hp} {s : Shared}
theorem emp_obj (I : Inv X pins σ H s) {a : Addr} (e : H a = some (.dK [])) : (a == sysModules) = false ∧ ∃ o n, s.heap.get? a = some o ∧ o.cls = .type "dict" ∧ o.data = .dict #[] n := by
  obtain ⟨_, hd, vs, rel, o, es, ep, h1, h2, h3, h4, h5, h6⟩ := dk_of I.hok e
  cases rel
  have : es = #[] := by
    have q : es.toList = [] := by
      cases hq : es.toList with
      | nil => rfl
      | cons x r => rw [hq] at h5; cases h5
    exact Array.toList_eq_nil_iff.mp q
  subst this
  exact ⟨hd, o, ep, h1, h2.1, h3⟩
mutual
theorem DpX.reads (I : Inv X pins σ H s) : ∀ (d : PyData) (v : V) (u : Value), DpX X.K H v d → RelV v u → ∃ as, Reads s.heap u d as
  | .none, _, _, h, r => by
    cases h
    cases r
    exact ⟨_, Reads.none⟩
  | .bool b, _, _, h, r => by
    cases h
    cases r
    exact ⟨_, Reads.bool b⟩
  | .int i, _, _, h, r => by
    cases h
    obtain ⟨t, rfl⟩ := r
    exact ⟨_, Reads.int i t⟩
  | .str x, _, _, h, r => by
    cases h
    obtain ⟨t, rfl⟩ := r
    exact ⟨_, Reads.str x t⟩
  | .list ds, _, _, h, r => by
    cases h with
    | lst hs ha =>
      cases r
      obtain ⟨its, rv, ⟨o, n, ho, hc, _, hd⟩, _⟩ := I.list hs
      obtain ⟨as, hr⟩ := DpXs.reads I ds _ its ha rv
      exact ⟨_, Reads.list ho hc hd hr⟩
  | .tuple ds, _, _, h, r => by
    cases h with
    | tup hs ha =>
      cases r
      obtain ⟨its, rv, ⟨o, ho, hc, n, hd⟩, _⟩ := I.tuple hs
      obtain ⟨as, hr⟩ := DpXs.reads I ds _ its ha rv
      exact ⟨_, Reads.tuple ho hc hd hr⟩
  | .dict _, _, _, h, r => by
    cases h with
    | emp e =>
      cases r
      obtain ⟨_, o, n, h1, h2, h3⟩ := emp_obj I e
      exact ⟨_, Reads.dict (kvs := []) h1 h2 h3 .nil .nil⟩
theorem DpXs.reads (I : Inv X pins σ H s) : ∀ (ds : List PyData) (vs : List V) (us : List Value), DpXs X.K H vs ds → Vals vs us → ∃ as, ReadsAll s.heap us ds as
  | [], _, _, h, r => by
    cases h
    cases r
    exact ⟨_, ReadsAll.nil⟩
  | d :: ds, _, _, h, r => by
    cases h with
    | cons h1 h2 =>
      cases r with
      | cons r1 r2 =>
        obtain ⟨as, q1⟩ := DpX.reads I d _ _ h1 r1
        obtain ⟨bs, q2⟩ := DpXs.reads I ds _ _ h2 r2
        exact ⟨_, ReadsAll.cons q1 q2⟩
end
mutual
theorem DpX.reprK (I : Inv X pins σ H s) : ∀ (d : PyData) (v : V) (u : Value), DpX X.K H v d → RelV v u → d.showable = true → d.shown.length ≤ sizeLine → ∃ bs, ReadAtMost s.heap d.depth bs ∧ ReprK X.prog X.w bs s.heap d.depth u d.shown
  | .none, _, _, h, r, _, _ => by
    cases h
    cases r
    exact ⟨[], (fun _ h => nomatch h), by simp only [PyData.shown]; exact .of_is ReprIs.none _ _ _⟩
  | .bool b, _, _, h, r, _, _ => by
    cases h
    cases r
    exact ⟨[], (fun _ h => nomatch h), by simp only [PyData.shown]; exact .of_is (ReprIs.bool b) _ _ _⟩
  | .int i, _, _, h, r, hs, _ => by
    cases h
    obtain ⟨t, rfl⟩ := r
    exact ⟨[], (fun _ h => nomatch h), by simp only [PyData.shown]; exact .of_is (ReprIs.int t (by simpa [PyData.showable] using hs)) _ _ _⟩
  | .str x, _, _, h, r, _, hz => by
    cases h
    obtain ⟨t, rfl⟩ := r
    exact ⟨[], (fun _ h => nomatch h), by simp only [PyData.shown]; exact .of_is (ReprIs.str x t (by simpa only [PyData.shown] using hz)) _ _ _⟩
  | .list ds, _, _, h, r, hs, hz => by
    cases h with
    | @lst a xs _ hs' ha =>
      cases r
      obtain ⟨its, rv, ⟨o, n, ho, hc, _, hd⟩, _⟩ := I.list hs'
      obtain ⟨as, hr⟩ := DpXs.reads I ds _ its ha rv
      have hz' : (listText (PyData.shownAll ds)).length ≤ sizeLine := by simpa only [PyData.shown] using hz
      obtain ⟨bs, hb, hk⟩ := DpXs.reprK I ds _ its ha rv (by simpa [PyData.showable] using hs) (fun t ht => Nat.le_trans (listText_mem_le ht) hz')
      have rr : Reads s.heap (.ref a) (.list ds) _ := .list ho hc hd hr
      have hna : a ∉ bs := not_mem_of_deeper rr (by simp only [PyData.depth]; omega) hb
      refine ⟨a :: bs, ReadAtMost.cons rr (by simp only [PyData.depth]; omega) hb, ?_⟩
      simp only [PyData.depth, PyData.shown]
      cases its with
      | nil =>
        cases hr
        simp only [PyData.shownAll, listText_nil]
        exact ReprK.listEmpty ho hc hd
      | cons x l => exact ReprK.list ho hc hd hna (by simpa using hk.length_eq) (fun i y e => hk.item i y (by simpa using e))
  | .tuple ds, _, _, h, r, hs, hz => by
    cases h with
    | @tup a xs _ hs' ha =>
      cases r
      obtain ⟨its, rv, ⟨o, ho, hc, n, hd⟩, _⟩ := I.tuple hs'
      obtain ⟨as, hr⟩ := DpXs.reads I ds _ its ha rv
      have hz' : (tupleText (PyData.shownAll ds)).length ≤ sizeLine := by simpa only [PyData.shown] using hz
      obtain ⟨bs, hb, hk⟩ := DpXs.reprK I ds _ its ha rv (by simpa [PyData.showable] using hs) (fun t ht => Nat.le_trans (tupleText_mem_le ht) hz')
      have rr : Reads s.heap (.ref a) (.tuple ds) _ := .tuple ho hc hd hr
      have hna : a ∉ bs := not_mem_of_deeper rr (by simp only [PyData.depth]; omega) hb
      refine ⟨a :: bs, ReadAtMost.cons rr (by simp only [PyData.depth]; omega) hb, ?_⟩
      simp only [PyData.depth, PyData.shown]
      exact ReprK.tuple ho hc hd hna hk
  | .dict _, _, _, h, r, _, hz => by
    cases h with
    | @emp a e =>
      cases r
      obtain ⟨hsys, o, n, h1, h2, h3⟩ := emp_obj I e
      have rr : Reads s.heap (.ref a) (.dict []) _ := .dict (kvs := []) h1 h2 h3 .nil .nil
      have h0 : ReadAtMost s.heap 0 [] := fun _ h => nomatch h
      refine ⟨[a], ReadAtMost.cons rr (by simp only [PyData.depth]; omega) h0, ?_⟩
      simp only [PyData.depth, PyData.shown, PyData.depthKv, PyData.shownKv]
      exact ReprK.dict h1 h2 h3 hsys (by simp) .nil
theorem DpXs.reprK (I : Inv X pins σ H s) : ∀ (ds : List PyData) (vs : List V) (us : List Value), DpXs X.K H vs ds → Vals vs us → PyData.showableAll ds = true → (∀ t ∈ PyData.shownAll ds, t.length ≤ sizeLine) →
    ∃ bs, ReadAtMost s.heap (PyData.depthAll ds) bs ∧ ReprAllK X.prog X.w bs s.heap (PyData.depthAll ds) us (PyData.shownAll ds)
  | [], _, _, h, r, _, _ => by
    cases h
    cases r
    exact ⟨[], (fun _ h => nomatch h), by simp only [PyData.shownAll]; exact .nil⟩
  | d :: ds, _, _, h, r, hs, hz => by
    cases h with
    | cons h1 h2 =>
      cases r with
      | cons r1 r2 =>
        have hs' : d.showable = true ∧ PyData.showableAll ds = true := by simpa [PyData.showableAll] using hs
        obtain ⟨b1, hb1, k1⟩ := DpX.reprK I d _ _ h1 r1 hs'.1 (hz _ (by simp only [PyData.shownAll]; exact List.mem_cons_self ..))
        obtain ⟨b2, hb2, k2⟩ := DpXs.reprK I ds _ _ h2 r2 hs'.2 (fun t ht => hz t (by simp only [PyData.shownAll]; exact List.mem_cons_of_mem _ ht))
        refine ⟨b1 ++ b2, ?_, ?_⟩
        · intro b hm
          simp only [PyData.depthAll]
          rcases List.mem_append.mp hm with hm | hm
          · obtain ⟨d', as', r', hd'⟩ := hb1 b hm
            exact ⟨d', as', r', Nat.le_trans hd' (Nat.le_max_left _ _)⟩
          · obtain ⟨d', as', r', hd'⟩ := hb2 b hm
            exact ⟨d', as', r', Nat.le_trans hd' (Nat.le_max_right _ _)⟩
        · simp only [PyData.depthAll, PyData.shownAll]
          exact .cons ((k1.more fun b hb => List.mem_append_left _ hb).level_le (Nat.le_max_left _ _)) (k2.more_le (fun b hb => List.mem_append_right _ hb) (Nat.le_max_right _ _))
end
end
section
variable {X : Cx}
def rEqX (K : PySem.W.Frag) : R2 := fun x y H Q => ∃ d e, DpX K H x d ∧ DpX K H y e ∧ SeqAt.shaped d = true ∧ SeqAt.shaped e = true ∧ Q (.bl (PyData.eqv d e)) H
def rNeX (K : PySem.W.Frag) : R2 := fun x y H Q => ∃ d e, DpX K H x d ∧ DpX K H y e ∧ SeqAt.shaped d = true ∧ SeqAt.shaped e = true ∧ Q (.bl (!PyData.eqv d e)) H
def rInX (K : PySem.W.Frag) : R2 := fun x y H Q => ∃ d ds, DpX K H x d ∧ DpX K H y (.list ds) ∧ SeqAt.shaped d = true ∧ SeqAt.shaped (.list ds) = true ∧ Q (.bl (ds.any fun z => PyData.eqv z d)) H
theorem op_eqX (hu : X.A.units + 64 < cLine) : OpR X (compareOp .Eq) (rEqX X.K) := by
  intro pins s σ H x y v u Q I rx ry h
  obtain ⟨d, e, hd, he, sd, se, q⟩ := h
  obtain ⟨as, r1⟩ := DpX.reads I d x v hd rx
  obtain ⟨bs, r2⟩ := DpX.reads I e y u he ry
  exact SeqAt.compareEq_shaped r1 r2 sd se hu ⟨.bl _, H, I, rfl, q⟩
theorem op_neX (hu : X.A.units + 64 < cLine) : OpR X (compareOp .NotEq) (rNeX X.K) := by
  intro pins s σ H x y v u Q I rx ry h
  obtain ⟨d, e, hd, he, sd, se, q⟩ := h
  obtain ⟨as, r1⟩ := DpX.reads I d x v hd rx
  obtain ⟨bs, r2⟩ := DpX.reads I e y u he ry
  exact SeqAt.compareNe_shaped r1 r2 sd se hu ⟨.bl _, H, I, rfl, q⟩
theorem op_inX (hu : X.A.units + 65 < cLine) : OpR X (compareOp .In) (rInX X.K) := by
  intro pins s σ H x y v u Q I rx ry h
  obtain ⟨d, ds, hd, he, sd, se, q⟩ := h
  obtain ⟨as, r1⟩ := DpX.reads I d x v hd rx
  obtain ⟨bs, r2⟩ := DpX.reads I (.list ds) y u he ry
  exact SeqAt.in_list_reads r2 r1 (SeqAt.canLay_of_shaped se) (SeqAt.canLay_of_shaped sd) (room_in_shaped sd hu) ⟨.bl _, H, I, rfl, q⟩
/-- the kind of such data -/
def tyD : PyData → String
  | .none => "NoneType"
  | .bool _ => "bool"
  | .int _ => "int"
  | .str _ => "str"
  | .list _ => "list"
  | .tuple _ => "tuple"
  | .dict _ => "dict"
theorem DpX.ty {K : PySem.W.Frag} {H : Hp} {v : V} {d : PyData} (h : DpX K H v d) : TyX K H v (.type (tyD d)) := by
  cases h with
  | non => exact .base .non
  | bl b => exact .base (.bl b)
  | int i => exact .base (.int i)
  | str x => exact .base (.str x)
  | lst h _ =>
    rcases h with (h | ⟨o, h⟩) | ⟨o, its, n, h1, h2, _⟩
    · exact .base (.lst h)
    · exact .base (.frz h)
    · exact .kList h1 h2
  | tup h _ =>
    rcases h with (h | ⟨o, h⟩) | ⟨o, its, n, h1, h2, _⟩
    · exact .base (.tup h)
    · exact .fTuple h
    · exact .kTuple h1 h2
  | emp h => exact .base (.dK h)
def isStr : PyData → Bool
  | .str _ => true
  | _ => false
def isTup : PyData → Bool
  | .tuple _ => true
  | _ => false
def isLst : PyData → Bool
  | .list _ => true
  | _ => false
theorem kit_str {K : PySem.W.Frag} : ∀ d : PyData, PySem.W.kitOne K (.type (tyD d)) (.type "str") = some (isStr d)
  | .none => kit_ty (show kitB "NoneType" "str" = some false by decide +kernel)
  | .bool _ => kit_ty (show kitB "bool" "str" = some false by decide +kernel)
  | .int _ => kit_ty (show kitB "int" "str" = some false by decide +kernel)
  | .str _ => kit_ty (show kitB "str" "str" = some true by decide +kernel)
  | .list _ => kit_ty (show kitB "list" "str" = some false by decide +kernel)
  | .tuple _ => kit_ty (show kitB "tuple" "str" = some false by decide +kernel)
  | .dict _ => kit_ty (show kitB "dict" "str" = some false by decide +kernel)
theorem kit_tup {K : PySem.W.Frag} : ∀ d : PyData, PySem.W.kitOne K (.type (tyD d)) (.type "tuple") = some (isTup d)
  | .none => kit_ty (show kitB "NoneType" "tuple" = some false by decide +kernel)
  | .bool _ => kit_ty (show kitB "bool" "tuple" = some false by decide +kernel)
  | .int _ => kit_ty (show kitB "int" "tuple" = some false by decide +kernel)
  | .str _ => kit_ty (show kitB "str" "tuple" = some false by decide +kernel)
  | .list _ => kit_ty (show kitB "list" "tuple" = some false by decide +kernel)
  | .tuple _ => kit_ty (show kitB "tuple" "tuple" = some true by decide +kernel)
  | .dict _ => kit_ty (show kitB "dict" "tuple" = some false by decide +kernel)
theorem kit_lst {K : PySem.W.Frag} : ∀ d : PyData, PySem.W.kitOne K (.type (tyD d)) (.type "list") = some (isLst d)
  | .none => kit_ty (show kitB "NoneType" "list" = some false by decide +kernel)
  | .bool _ => kit_ty (show kitB "bool" "list" = some false by decide +kernel)
  | .int _ => kit_ty (show kitB "int" "list" = some false by decide +kernel)
  | .str _ => kit_ty (show kitB "str" "list" = some false by decide +kernel)
  | .list _ => kit_ty (show kitB "list" "list" = some true by decide +kernel)
  | .tuple _ => kit_ty (show kitB "tuple" "list" = some false by decide +kernel)
  | .dict _ => kit_ty (show kitB "dict" "list" = some false by decide +kernel)
/-- repr(x), x such data of any kind -/
def rRepX (K : PySem.W.Frag) : List V → Hp → VK → Prop := fun xs H Q => ∃ (x : V) (d : PyData), xs = [x] ∧ DpX K H x d ∧ d.showable = true ∧ d.depth ≤ 20 ∧ d.shown.length ≤ sizeLine ∧ Q (.str d.shown) H
theorem call_repX (hgu : X.A.guards = some []) (hu : X.A.units + 64 < cLine) : CallR X (.builtin "repr") (rRepX X.K) := by
  intro pins s σ H xs us Q I r h
  obtain ⟨x, d, rfl, hd, hs, hdep, hz, q⟩ := h
  cases r with
  | cons r1 r2 =>
    cases r2
    rename_i u
    cases hd with
    | non =>
      cases r1
      simp only [PyData.shown] at q
      exact PySem.P.repr_of_none ⟨.str _, H, I.tok _, ⟨_, rfl⟩, q⟩
    | bl b =>
      cases r1
      simp only [PyData.shown] at q
      exact PySem.P.repr_of_bool ⟨.str _, H, I.tok _, ⟨_, rfl⟩, q⟩
    | int i =>
      obtain ⟨t, rfl⟩ := r1
      simp only [PyData.shown] at q
      exact PySem.P.repr_of_int (by simpa [PyData.showable] using hs) ⟨.str _, H, I.tok _, ⟨_, rfl⟩, q⟩
    | str z =>
      obtain ⟨t, rfl⟩ := r1
      simp only [PyData.shown] at q hz
      exact PySem.P.repr_of_str ⟨.str _, H, I.tok _, ⟨_, rfl⟩, q⟩ hz
    | @lst a xs ds hs' ha =>
      cases r1
      obtain ⟨its, rv, ⟨o, n, ho, hc, _, hdd⟩, _⟩ := I.list hs'
      obtain ⟨as, hr⟩ := DpXs.reads I ds _ its ha rv
      have hz' : (listText (PyData.shownAll ds)).length ≤ sizeLine := by simpa only [PyData.shown] using hz
      obtain ⟨bs, hb, hk⟩ := DpXs.reprK I ds _ its ha rv (by simpa [PyData.showable] using hs) (fun t ht => Nat.le_trans (listText_mem_le ht) hz')
      have rr : Reads s.heap (.ref a) (.list ds) _ := .list ho hc hdd hr
      have hna : a ∉ bs := not_mem_of_deeper rr (by simp only [PyData.depth]; omega) hb
      simp only [PyData.depth] at hdep
      simp only [PyData.shown] at q
      refine call_repr_slot (T := "list") (by omega) ⟨o, ho, hc⟩ PySem.F.slot_list_repr.toG ?_
      cases its with
      | nil =>
        cases hr
        simp only [PyData.shownAll, listText_nil] at q
        exact call_list_repr_empty ⟨o, ho, hc⟩ ho hdd ⟨_, _, rfl, .str _, H, I.tok _, ⟨_, rfl⟩, q⟩
      | cons y l =>
        exact call_list_reprK ho hc hdd hna (by simpa using hk.length_eq) (fun i y e => hk.item i y (by simpa using e)) (A := X.A.in1) hgu (fun b _ => Clear.nil b) (by show X.A.units + 1 + _ < cLine; omega) (fun _ _ z => z) (fun h' u tk keep => ⟨_, _, rfl, .str _, H, I.kept (t' := tk) keep, ⟨_, rfl⟩, q⟩) hz'
    | @tup a xs ds hs' ha =>
      cases r1
      obtain ⟨its, rv, ⟨o, ho, hc, n, hdd⟩, _⟩ := I.tuple hs'
      obtain ⟨as, hr⟩ := DpXs.reads I ds _ its ha rv
      have hz' : (tupleText (PyData.shownAll ds)).length ≤ sizeLine := by simpa only [PyData.shown] using hz
      obtain ⟨bs, hb, hk⟩ := DpXs.reprK I ds _ its ha rv (by simpa [PyData.showable] using hs) (fun t ht => Nat.le_trans (tupleText_mem_le ht) hz')
      have rr : Reads s.heap (.ref a) (.tuple ds) _ := .tuple ho hc hdd hr
      have hna : a ∉ bs := not_mem_of_deeper rr (by simp only [PyData.depth]; omega) hb
      simp only [PyData.depth] at hdep
      simp only [PyData.shown] at q
      refine call_repr_slot (T := "tuple") (by omega) ⟨o, ho, hc⟩ PySem.F.slot_tuple_repr ?_
      exact call_tuple_reprK ho hc hdd hna hk (A := X.A.in1) hgu (fun b _ => Clear.nil b) (by show X.A.units + 1 + _ < cLine; omega) (fun _ _ z => z) (fun h' u tk keep => ⟨_, _, rfl, .str _, H, I.kept (t' := tk) keep, ⟨_, rfl⟩, q⟩) hz'
    | @emp a e =>
      cases r1
      obtain ⟨hsys, o, n, h1, h2, h3⟩ := emp_obj I e
      have hz' : (dictText []).length ≤ sizeLine := by simpa only [PyData.shown, PyData.shownKv] using hz
      simp only [PyData.shown, PyData.shownKv] at q
      refine call_repr_slot (T := "dict") (by omega) ⟨o, h1, h2⟩ PySem.F.slot_dict_repr ?_
      exact call_dict_reprK (as := []) (d := 0) h1 h2 h3 hsys (by simp) .nil (A := X.A.in1) hgu (fun b _ => Clear.nil b) (by show X.A.units + 1 + _ < cLine; omega) (fun _ _ z => z) (fun h' u tk keep => ⟨_, _, rfl, .str _, H, I.kept (t' := tk) keep, ⟨_, rfl⟩, q⟩) hz'
end
end SE
namespace SE
open PySem PySem.Spec PyProof.Rows L2
/-! ### data whose dicts are empty -/
mutual
def layE : PyData → Bool
  | .none | .bool _ | .int _ => true
  | .str x => PyData.strOk x
  | .list xs | .tuple xs => layEAll xs
  | .dict kvs => kvs.isEmpty
def layEAll : List PyData → Bool
  | [] => true
  | x :: xs => layE x && layEAll xs
end
mutual
theorem layE_of : ∀ d : PyData, d.canLay0 = true → layE d = true
  | .none, _ => by simp only [layE]
  | .bool _, _ => by simp only [layE]
  | .int _, _ => by simp only [layE]
  | .str x, h => by simpa only [layE, PyData.canLay0] using h
  | .list xs, h => by
    simp only [layE]
    exact layEAll_of xs (by simpa only [PyData.canLay0] using h)
  | .tuple xs, h => by
    simp only [layE]
    exact layEAll_of xs (by simpa only [PyData.canLay0] using h)
  | .dict _, h => by simp only [PyData.canLay0] at h; exact nomatch h
theorem layEAll_of : ∀ xs : List PyData, PyData.canLayAll0 xs = true → layEAll xs = true
  | [], _ => by simp only [layEAll]
  | x :: xs, h => by
    have h' : x.canLay0 = true ∧ PyData.canLayAll0 xs = true := by simpa only [PyData.canLayAll0, Bool.and_eq_true] using h
    simp only [layEAll, Bool.and_eq_true]
    exact ⟨layE_of x h'.1, layEAll_of xs h'.2⟩
end
mutual
theorem leavesShort_of_layE : ∀ d : PyData, layE d = true → d.intsShort 13 = true → d.leavesShort 13 = true
  | .none, _, _ => rfl
  | .bool _, _, _ => rfl
  | .int i, _, h => by simpa only [PyData.leavesShort, PyData.intsShort] using h
  | .str x, hc, _ => PyData.leavesShort_of_canLay0 13 (.str x) (by simpa only [layE, PyData.canLay0] using hc) rfl
  | .list xs, hc, h => by
    simp only [PyData.leavesShort]
    exact leavesShortAll_of_layE xs (by simpa only [layE] using hc) (by simpa only [PyData.intsShort] using h)
  | .tuple xs, hc, h => by
    simp only [PyData.leavesShort]
    exact leavesShortAll_of_layE xs (by simpa only [layE] using hc) (by simpa only [PyData.intsShort] using h)
  | .dict kvs, hc, _ => by
    simp only [layE, List.isEmpty_iff] at hc
    rw [hc]
    rfl
theorem leavesShortAll_of_layE : ∀ xs : List PyData, layEAll xs = true → PyData.intsShortAll 13 xs = true → PyData.leavesShortAll 13 xs = true
  | [], _, _ => rfl
  | x :: xs, hc, h => by
    have hc' : layE x = true ∧ layEAll xs = true := by simpa only [layEAll, Bool.and_eq_true] using hc
    have h' : x.intsShort 13 = true ∧ PyData.intsShortAll 13 xs = true := by simpa only [PyData.intsShortAll, Bool.and_eq_true] using h
    simp only [PyData.leavesShortAll, Bool.and_eq_true]
    exact ⟨leavesShort_of_layE x hc'.1 h'.1, leavesShortAll_of_layE xs hc'.2 h'.2⟩
end
/-! ### small data -/
structure NX (k B : Nat) (d : PyData) : Prop where
  lay : layE d = true
  dep : d.depth ≤ k
  sh : d.showable = true
  ish : d.intsShort 13 = true
  wt : d.weight ≤ B
theorem NX.mono {k j B C : Nat} {d : PyData} (h : NX k B d) (hk : k ≤ j) (hB : B ≤ C) : NX j C d := ⟨h.lay, Nat.le_trans h.dep hk, h.sh, h.ish, Nat.le_trans h.wt hB⟩
theorem Nice.nx {k B : Nat} {d : PyData} (h : Nice k B d) : NX k B d := ⟨layE_of _ h.lay, h.dep, h.sh, h.ish, h.wt⟩
theorem nx_all {k B : Nat} : ∀ {ds : List PyData}, (∀ d ∈ ds, NX k B d) → layEAll ds = true ∧ PyData.depthAll ds ≤ k ∧ PyData.showableAll ds = true ∧ PyData.intsShortAll 13 ds = true ∧ PyData.weightAll ds ≤ ds.length * (B + 1)
  | [], _ => by
    refine ⟨?_, ?_, ?_, ?_, ?_⟩
    · simp only [layEAll]
    · simp only [PyData.depthAll]
      exact Nat.zero_le _
    · simp only [PyData.showableAll]
    · simp only [PyData.intsShortAll]
    · simp only [PyData.weightAll]
      exact Nat.zero_le _
  | d :: ds, h => by
    obtain ⟨a1, a2, a3, a5, a6⟩ := nx_all (ds := ds) fun x hx => h x (List.mem_cons_of_mem _ hx)
    have q := h d List.mem_cons_self
    refine ⟨?_, ?_, ?_, ?_, ?_⟩
    · simp only [layEAll, q.lay, a1, Bool.and_self]
    · simp only [PyData.depthAll]
      exact Nat.max_le.mpr ⟨q.dep, a2⟩
    · simp only [PyData.showableAll, q.sh, a3, Bool.and_self]
    · simp only [PyData.intsShortAll, q.ish, a5, Bool.and_self]
    · simp only [PyData.weightAll, List.length_cons]
      have := q.wt
      rw [Nat.add_mul]
      omega
theorem nx_list {k B : Nat} {ds : List PyData} (h : ∀ d ∈ ds, NX k B d) : NX (k + 1) (ds.length * (B + 1)) (.list ds) := by
  obtain ⟨a1, a2, a3, a5, a6⟩ := nx_all h
  exact ⟨by simp only [layE]; exact a1, by simp only [PyData.depth]; omega, by simp only [PyData.showable]; exact a3, by simp only [PyData.intsShort]; exact a5, by simp only [PyData.weight]; exact a6⟩
theorem nx_tuple {k B : Nat} {ds : List PyData} (h : ∀ d ∈ ds, NX k B d) : NX (k + 1) (ds.length * (B + 1)) (.tuple ds) := by
  obtain ⟨a1, a2, a3, a5, a6⟩ := nx_all h
  exact ⟨by simp only [layE]; exact a1, by simp only [PyData.depth]; omega, by simp only [PyData.showable]; exact a3, by simp only [PyData.intsShort]; exact a5, by simp only [PyData.weight]; exact a6⟩
theorem all_elem {k B : Nat} : ∀ {ds : List PyData}, layEAll ds = true → PyData.depthAll ds ≤ k → PyData.showableAll ds = true → PyData.intsShortAll 13 ds = true → PyData.weightAll ds ≤ B → (∀ d ∈ ds, NX k B d) ∧ ds.length ≤ B
  | [], _, _, _, _, _ => ⟨fun d m => (by cases m), Nat.zero_le _⟩
  | d :: ds, h1, h2, h3, h4, h5 => by
    simp only [layEAll, Bool.and_eq_true] at h1
    simp only [PyData.depthAll] at h2
    simp only [PyData.showableAll, Bool.and_eq_true] at h3
    simp only [PyData.intsShortAll, Bool.and_eq_true] at h4
    simp only [PyData.weightAll] at h5
    have m2 := Nat.max_le.mp h2
    obtain ⟨q1, q2⟩ := all_elem (k := k) (B := B - 1) h1.2 m2.2 h3.2 h4.2 (by omega)
    refine ⟨fun x m => ?_, by rw [List.length_cons]; omega⟩
    rcases List.mem_cons.mp m with e | e
    · rw [e]
      exact ⟨h1.1, m2.1, h3.1, h4.1, by omega⟩
    · exact (q1 x e).mono (Nat.le_refl _) (by omega)
theorem NX.list {k B : Nat} {ds : List PyData} (h : NX k B (.list ds)) : (∀ d ∈ ds, NX k B d) ∧ ds.length ≤ B := by
  obtain ⟨a, b, c, d, e⟩ := h
  simp only [layE] at a
  simp only [PyData.depth] at b
  simp only [PyData.showable] at c
  simp only [PyData.intsShort] at d
  simp only [PyData.weight] at e
  exact all_elem a (by omega) c d e
theorem NX.tuple {k B : Nat} {ds : List PyData} (h : NX k B (.tuple ds)) : (∀ d ∈ ds, NX k B d) ∧ ds.length ≤ B := by
  obtain ⟨a, b, c, d, e⟩ := h
  simp only [layE] at a
  simp only [PyData.depth] at b
  simp only [PyData.showable] at c
  simp only [PyData.intsShort] at d
  simp only [PyData.weight] at e
  exact all_elem a (by omega) c d e
theorem NX.str {k B : Nat} {z : Str} (h : NX k B (.str z)) : z.length ≤ B := by
  have := h.wt
  simp only [PyData.weight] at this
  exact this
theorem NX.shown {k B : Nat} {d : PyData} (h : NX k B d) (hk : k ≤ 64) (hB : B ≤ 2 ^ 20) : d.shown.length ≤ sizeLine :=
  PyData.shown_fits (B := 13) (by decide) (by decide) (leavesShort_of_layE d h.lay h.ish) (Nat.le_trans h.wt hB)
/-- the data that the functions are asked about -/
abbrev OkD (d : PyData) : Prop := NX 20 100000 d
theorem big100 {n : Nat} (h : n ≤ 100001) : n ≤ sizeLine := by
  rw [sizeLine_eq]
  omega
/-! ### what the functions answer -/
def itemD : PyData → Bool
  | .str z => decide (1 ≤ z.length ∧ z.length ≤ 8) && (z.cps.toList.map fun c => decide (c ∈ abc.cps.toList)).all id
  | _ => false
def wordD : PyData → Bool
  | .tuple ds => (ds.map itemD).all id
  | _ => false
def actD : PyData → Bool
  | .str z => decide (z = "push" ∨ z = "pop")
  | _ => false
def stpD : PyData → Bool
  | .tuple [a, b] => actD a && itemD b
  | _ => false
def seqD : PyData → Bool
  | .list ds => decide (ds.length ≤ 1000) && (ds.map stpD).all id
  | .tuple ds => decide (ds.length ≤ 1000) && (ds.map stpD).all id
  | _ => false
end SE
namespace SE
open PySem PySem.Spec PyProof.Rows L2
theorem bl_take {α : Type} {f : α → Bool} {l : List α} {j : Nat} {x : α} (h : l[j]? = some x) : ((l.take j).map f).map V.bl ++ [V.bl (f x)] = ((l.take (j + 1)).map f).map V.bl := by
  rw [List.take_add_one, h, List.map_append, List.map_append]
  rfl
theorem itemD_str (z : Str) : itemD (.str z) = (decide (1 ≤ z.length ∧ z.length ≤ 8) && (z.cps.toList.map fun c => decide (c ∈ abc.cps.toList)).all id) := rfl
section
variable {P : Program} {w : World} {K : PySem.W.Frag} {mg : Str → Option Value} {base : Heap}
/-! ### is_item, is_word -/
def spX (K : PySem.W.Frag) (f : PyData → Bool) : Sp := fun xs H Q _ => ∃ (v : V) (d : PyData), xs = [v] ∧ DpX K H v d ∧ OkD d ∧ ∀ H', Same H H' → Q (.bl (f d)) H'
theorem has_itemX (D : Def K mg "is_item" sIsItem) (B : Blt mg) (C : Cons K w mg) : Has P w K mg base "is_item" 1 ["value"] [] (spX K itemD) := by
  obtain ⟨tl, hL⟩ := C.let_
  obtain ⟨tm, hM⟩ := C.ml
  refine has_of D scIsItem (fun _ _ _ _ _ _ us hl => match us, hl with | [_], _ => rfl) (fun xs H Q E h => ?_) (fun f cv A out s H xs Q E hr h => ?_)
  · obtain ⟨v, d, rfl, _⟩ := h
    rfl
  · obtain ⟨v, d, rfl, hd, ok, k⟩ := h
    refine ⟨_, pss_cons (ps_if (PW.pt (pw_or (pt_not (pt_val (pe_callB call_isi (by rfl) B.isi (by decide +kernel) (pa_cons (pv 0) (pa_cons (pe_bltn (v := .ty "str") (by rfl) B.str (by decide +kernel) rfl) pa_nil)))))
        (pw_or1 (pt_not (pt_chain op_le op_le pe_int (pe_callB call_len_str (by rfl) B.len PySem.boot_len (pa_cons (pv 0) pa_nil)) (pe_glob (v := .int 8) rfl hM ⟨_, rfl⟩)))))) (pss_one (ps_ret pe_bl)) pss_nil)
      (pss_one (ps_ret (pe_callB (cr_all rfl) (by rfl) B.all (by decide +kernel) (pa_cons
        (pe_lc (own := [("letter", 1)]) (g := gName 1) (tt := tYes) rfl scIsItem.nd (pi_str (pv 0)) (blkOk_by (own := [("letter", 1)]) (N := ["value", "letter"]) (sc := defScope sIsItem) (by decide +kernel))
          (fun _ _ _ _ _ => pg_name (i := 1) scIsItem.nd rfl (.inl rfl)) (fun _ _ _ _ _ => pts_nil) (fun _ _ _ _ _ => pe_cmpR op_in_sign (pv 1) (pe_glob (v := .str abc) rfl hL ⟨_, rfl⟩) (by rfl))) pa_nil)))), ?_⟩
    refine ⟨_, rfl, _, .ty "str", .type (tyD d), .type "str", isStr d, rfl, .ty _, hd.ty, kit_str d, _, rfl, ?_⟩
    cases hd with
    | non => exact iteT (iteT (k H (Same.refl H)))
    | bl b => exact iteT (iteT (k H (Same.refl H)))
    | int i => exact iteT (iteT (k H (Same.refl H)))
    | lst _ _ => exact iteT (iteT (k H (Same.refl H)))
    | tup _ _ => exact iteT (iteT (k H (Same.refl H)))
    | emp _ => exact iteT (iteT (k H (Same.refl H)))
    | str z =>
      refine iteF ?_
      have zl : z.length ≤ 100000 := ok.str
      refine ⟨_, rfl, z, rfl, big100 (by omega), 1, _, rfl, rfl, _, rfl, ?_⟩
      by_cases p1 : 1 ≤ z.length
      · have e1 : decide ((1 : Int) ≤ (z.length : Int)) = true := decide_eq_true (by omega)
        rw [e1]
        refine iteT ⟨_, 8, rfl, rfl, _, rfl, ?_⟩
        by_cases p2 : z.length ≤ 8
        · have e2 : decide ((z.length : Int) ≤ 8) = true := decide_eq_true (by omega)
          rw [e2]
          refine iteF ?_
          have e3 : itemD (.str z) = (z.cps.toList.map fun c => decide (c ∈ abc.cps.toList)).all id := by
            rw [itemD_str, decide_eq_true ⟨p1, p2⟩, Bool.true_and]
          rw [e3] at k
          refine ⟨_, rfl, z, rfl, fun D hD => lc_it walk_str (fun j H2 => H2 D = some (.lst (((z.cps.toList.take j).map fun c => decide (c ∈ abc.cps.toList)).map V.bl)) ∧ Same H H2) ⟨upd_same, Same.new hD⟩ (fun _ _ _ _ => trivial) ?_ ?_⟩
          · rintro j x H2 H3 hj ⟨h2, s2⟩ ⟨rfl, c, hc, rfl⟩
            have q : z.cps.toList[j]? = some c := by rw [Array.getElem?_toList]; exact hc
            refine ⟨rfl, yes_in ⟨_, rfl, c, abc, rfl, rfl, _, h2, ?_, ?_, Same.free2 s2 hD⟩⟩
            · rw [List.length_map, List.length_map, List.length_take]
              exact small1000 (by have : j < z.length := hj; omega)
            · rw [upd_same, bl_take (f := fun c => decide (c ∈ abc.cps.toList)) q]
          · rintro H2 ⟨h2, s2⟩
            rw [List.take_of_length_le (by rw [Array.length_toList]; exact Nat.le_refl _)] at h2
            exact ⟨D, _, rfl, .of h2, k H2 s2⟩
        · have e2 : decide ((z.length : Int) ≤ 8) = false := decide_eq_false (by omega)
          rw [e2]
          have e3 : itemD (.str z) = false := by
            rw [itemD_str, decide_eq_false (fun q => p2 q.2), Bool.false_and]
          rw [e3] at k
          exact iteT (k H (Same.refl H))
      · have e1 : decide ((1 : Int) ≤ (z.length : Int)) = false := decide_eq_false (by omega)
        rw [e1]
        have e3 : itemD (.str z) = false := by
          rw [itemD_str, decide_eq_false (fun q => p1 q.1), Bool.false_and]
        rw [e3] at k
        exact iteF ⟨false, rfl, iteT (k H (Same.refl H))⟩
theorem has_wordX (D : Def K mg "is_word" sIsWord) (G : Has P w K mg base "is_item" 1 ["value"] [] (spX K itemD)) (B : Blt mg) : Has P w K mg base "is_word" 2 ["value"] [] (spX K wordD) := by
  refine has_of D scIsWord (fun _ _ _ _ _ _ us hl => match us, hl with | [_], _ => rfl) (fun xs H Q E h => ?_) (fun f cv A out s H xs Q E hr h => ?_)
  · obtain ⟨v, d, rfl, _⟩ := h
    rfl
  · obtain ⟨v, d, rfl, hd, ok, k⟩ := h
    refine ⟨_, pss_one (ps_ret (pe_and (pe_callB call_isi (by rfl) B.isi (by decide +kernel) (pa_cons (pv 0) (pa_cons (pe_bltn (v := .ty "tuple") (by rfl) B.tup (by decide +kernel) rfl) pa_nil)))
      (pe_one (pe_callB (cr_all rfl) (by rfl) B.all (by decide +kernel) (pa_cons
        (pe_lc (own := [("item", 1)]) (g := gName 1) (tt := tYes) (te := tCall (spX K itemD) [] E0 (tCons (tVar 1) tNil)) rfl scIsWord.nd (pi_tup (pv 0)) (blkOk_by (own := [("item", 1)]) (N := ["value", "item"]) (sc := defScope sIsWord) (by decide +kernel))
          (fun _ _ _ _ _ => pg_name (i := 1) scIsWord.nd rfl (.inl rfl)) (fun _ _ _ _ _ => pts_nil) (fun _ _ _ _ _ => pe_has G hr (pa_cons (pv 1) pa_nil))) pa_nil))))), ?_⟩
    refine ⟨_, rfl, _, .ty "tuple", .type (tyD d), .type "tuple", isTup d, rfl, .ty _, hd.ty, kit_tup d, _, rfl, ?_⟩
    cases hd with
    | non => exact iteF (k H (Same.refl H))
    | bl b => exact iteF (k H (Same.refl H))
    | int i => exact iteF (k H (Same.refl H))
    | str z => exact iteF (k H (Same.refl H))
    | lst _ _ => exact iteF (k H (Same.refl H))
    | emp _ => exact iteF (k H (Same.refl H))
    | @tup a xs ds hT ha =>
      refine iteT ?_
      obtain ⟨oks, ln⟩ := ok.tuple
      have le := ha.len
      refine ⟨_, rfl, a, rfl, ⟨_, hT⟩, fun D hD => lc_tup (K := K) (a := a) (xs := xs) (fun j H2 => H2 D = some (.lst (((ds.take j).map itemD).map V.bl)) ∧ Same H H2) ⟨upd_same, Same.new hD⟩ (fun _ _ _ q => Same.tup q.2 hT) ?_ ?_⟩
      · rintro j x H2 hj ⟨h2, s2⟩
        obtain ⟨e, he, hx⟩ := ha.at hj
        refine ⟨rfl, yes_in ⟨_, rfl, x, e, rfl, DpX.same s2 e x hx, oks e (List.mem_of_getElem? he), fun H3 s3 => ⟨_, s3 _ _ h2, ?_, ?_, Same.free2 (s2.trans s3) hD⟩⟩⟩
        · rw [List.length_map, List.length_map, List.length_take, sizeLine_eq]
          omega
        · rw [upd_same, bl_take he]
      · rintro H2 ⟨h2, s2⟩
        rw [le, List.take_length] at h2
        exact ⟨D, _, rfl, .of h2, k H2 s2⟩
end
end SE
/-! Exceptions of own classes below ValueError, each with one field. -/
namespace SE
open PySem PySem.Spec PyProof.Rows L2
section
variable {P : Program} {w : World} {K : PySem.W.Frag} {mg : Str → Option Value} {base : Heap}
/-- a def that may raise keeps the promise sp -/
def HasX (P : Program) (w : World) (K : PySem.W.Frag) (mg : Str → Option Value) (base : Heap) (x : Str) (k : Nat) (ps : List Str) (dvs : List V) (sp : Sp) : Prop :=
  ∃ f fd ds, FnOk P w K mg base (L2.CX P w) k f fd ps sp ∧ mg x = some (.ref f) ∧ PySem.W.keepIn K (.ref f) = true ∧ Binds K fd ps ds ∧ Vals dvs ds ∧ ∃ st, Fun K x x st f fd
abbrev BxX (P : Program) (w : World) (K : PySem.W.Frag) (mg : Str → Option Value) (base : Heap) (N : List Str) (x : Str) (st : Stmt) (f : Addr) (cv : Value) (A : Around) (out : List Env) (s : Shared) (H : Hp) (E : XK) : Cx :=
  cxOf (L2.CX P w) P w K mg base N x (defScope st) f cv A out s H E
theorem hasX_of {x : Str} {st : Stmt} {N ps : List Str} {k : Nat} {sp : Sp} (D : Def K mg x st) (S : FnScope N ps (defScope st))
    (hb : ∀ (kV doc pm : Value) (an : Option Addr) (cv ct : Value) (us : List Value), us.length = ps.length → bindArgs (PySem.W.fnOf x x (defArgs st) (defBody st) (defScope st) .none kV doc pm an cv ct) ⟨us, []⟩ = pure (ps.zip us))
    (len : ∀ xs H Q E, sp xs H Q E → xs.length = ps.length)
    (hbd : ∀ (f : Addr) (cv : Value) (A : Around) (out : List Env) (s : Shared) (H : Hp) (xs : List V) (Q : VK) (E : XK), Room k (A.deeper (envOfC x (defScope st) s.heap.objs.size f cv)) → sp xs H Q E →
      ∃ t, PSs (BxX P w K mg base N x st f cv A out s H E) (defBody st) t ∧ t { nx := fun _ H2 => Q .non H2, rt := Q } (start N xs) H) : HasX P w K mg base x (k + 1) ps [] sp := by
  obtain ⟨f, fd, F, hm⟩ := D
  exact ⟨f, fd, [], F.okX S len fun cv A out s H xs Q E hr h => hbd f cv A out s H xs Q E hr h, hm, F.kp, F.binds hb, .nil, st, F⟩
/-- what stands in a def that may raise: its own way out -/
theorem tkX {N : List Str} {x : Str} {st : Stmt} {f : Addr} {cv : Value} {A : Around} {out : List Env} {s : Shared} {H : Hp} {E : XK} : Takes (BxX P w K mg base N x st f cv A out s H E) (fun cls d _ H => E cls d H) := takes_of rfl rfl rfl rfl
end
section
variable {X : Cx} {k : Nat} {ps : List Str} {sp : Sp} {x : Str} {p pos : Pos} {e : Expr} {es : List Expr} {t : TA} {dvs : List V} {E : XK} {W : WX}
/-- a call whose exceptions leave the def that calls -/
theorem pe_hasX (h : HasX X.prog X.w X.K X.mg X.base x k ps dvs sp) (hr : Room k X.A) (tk : Takes X (fun cls d _ H => E cls d H)) (ha : PA X (e :: es) t) (hg : Gl X x := by rfl) (hdb : (x == ("__debug__" : Str)) = false := by decide)
    (he : starEach (e :: es) X.env = (false, eval e X.env) :: starEach es X.env := by rfl) (hpl : (backTo pos (starEach es X.env)).any (·.1) = false := by rfl) : PE X (.Call (.Name x p) (e :: es) [] pos) (tCall sp dvs E t) := by
  obtain ⟨f, fd, ds, F, hm, hk, hb, hd, _⟩ := h
  exact pe_call F hr hg hm hk hb hd (passes_call tk fun _ _ _ _ z => z) ha hdb he hpl
/-- a call within a try -/
theorem pe_hasS (h : HasX X.prog X.w X.K X.mg X.base x k ps [] sp) (hr : Room k X.A) (tk : Takes X W) (ha : PA X (e :: es) t) (hg : Gl X x := by rfl) (hdb : (x == ("__debug__" : Str)) = false := by decide)
    (he : starEach (e :: es) X.env = (false, eval e X.env) :: starEach es X.env := by rfl) (hpl : (backTo pos (starEach es X.env)).any (·.1) = false := by rfl) : PE X (.Call (.Name x p) (e :: es) [] pos) (tCallS sp (WE W) t) := by
  obtain ⟨f, fd, ds, F, hm, hk, hb, hd, _⟩ := h
  cases hd
  exact pe_callS F hr hg hm hk hb (fun σ => passAt tk σ) ha hdb he hpl
end
/-! ### a class of exceptions -/
def spXI (K : PySem.W.Frag) (C : Addr) (f : Str) : Sp := fun xs H Q _ => ∃ (a : Addr) (v : V), xs = [.ref a, v] ∧ H a = some (exo a C none) ∧ ∀ dx, H dx = none → dx ≠ a → Q .non (upd (upd H dx (exd dx [(f, v)])) a (exo a C (some dx)))
/-- what the written part says of the class at C, whose __init__ sets the field f -/
structure XcC (P : Program) (w : World) (K : PySem.W.Frag) (mg : Str → Option Value) (base : Heap) (x f : Str) (C : Addr) : Prop where
  oex : OexC K C
  gC : mg x = some (.ref C)
  init : ∃ fI fd, PySem.W.findIn K (.ref C) "__init__" = some (some (.ref fI)) ∧ PySem.W.typeIn K (.ref fI) = some (.type "function") ∧ FnOk P w K mg base CX0 1 fI fd ["self", f] (spXI K C f) ∧ Binds K fd ["self", f] []
  xf : XfC K C
  noF : PySem.W.findIn K (.ref C) f = some none
  ha : PySem.W.findIn K (.ref C) "__class__" = some (some (.builtin "object.__class__"))
  hn : PySem.W.specialIn K (.builtin "object.__class__") "__get__" = some (some (.builtin "getset_descriptor.__get__"))
  ht : PySem.W.takesIn K (.builtin "object.__class__") = some true
  hm : PySem.W.mroIn K C (.type "object") = some true
  te : PySem.W.exmOne K (.ref C) (.ref C) = some true
/-- __init__ -/
theorem init_ok {P : Program} {w : World} {K : PySem.W.Frag} {mg : Str → Option Value} {base : Heap} {q f : Str} {C : Addr} {st : Stmt} {fI : Addr} {fd : FuncData} {p1 p2 p3 p4 : Pos} (F : Fun K "__init__" q st fI fd) (S : FnScope ["self", f] ["self", f] (defScope st)) (T : OexC K C) (noF : PySem.W.findIn K (.ref C) f = some none)
    (hb : defBody st = [.Assign [.Attribute (.Name "self" p1) f p2] (.Name f p3) p4])
    (v0 : Vis (defScope st) "self") (v1 : Vis (defScope st) f) (hdb : (f == ("__debug__" : Str)) = false) (hcd : (f == ("__classdict__" : Str)) = false) : FnOk P w K mg base CX0 1 fI fd ["self", f] (spXI K C f) := by
  refine F.ok S (fun xs H Q E h => ?_) (fun cv A out s H xs Q E hr h => ?_)
  · obtain ⟨a, v, rfl, _⟩ := h
    rfl
  · obtain ⟨a, v, rfl, ha, k⟩ := h
    rw [hb]
    refine ⟨_, pss_one (ps_ost (pe_var (i := 0) rfl v0) (pe_var (i := 1) rfl v1 (hd := hdb) (hcd := hcd))), ?_⟩
    exact ⟨_, rfl, _, rfl, a, C, rfl, T, noF, .inl ⟨ha, fun dx nd ne => k dx nd ne⟩⟩
section
variable {X : Cx} {C : Addr} {x f : Str}
theorem mk_heap {H1 : Hp} {a d C : Addr} {f : Str} {v : V} (na : H1 a = none) (nd : d ≠ a) : upd (del (upd (upd (upd H1 a (exo a C none)) d (exd d [(f, v)])) a (exo a C (some d))) a) d (.xd [(f, v)]) = upd H1 d (.xd [(f, v)]) := by
  funext b
  by_cases e : b = d
  · subst e
    rw [upd_same, upd_same]
  · rw [upd_ne e, upd_ne e]
    by_cases e2 : b = a
    · subst e2
      rw [del_same, na]
    · rw [del_ne e2, upd_ne e2, upd_ne e, upd_ne e2]
theorem mk_red {K : PySem.W.Frag} {H1 : Hp} {v : V} {Q : XK} (h : ∀ d, H1 d = none → Q (.ref C) (some d) (upd H1 d (.xd [(f, v)]))) :
    ([v] : List V).length ≤ 1000 ∧ ∀ a, H1 a = none → spXI K C f (.ref a :: ([v] ++ [])) (upd H1 a (exo a C none))
      (fun u H2 => u = .non ∧ ∃ (d : Addr) (fs : List (Str × V)), H2 a = some (exo a C (some d)) ∧ H2 d = some (exd d fs) ∧ H1 d = none ∧ Q (.ref C) (some d) (upd (del H2 a) d (.xd fs))) (fun _ _ _ => False) := by
  refine ⟨(by decide : 1 ≤ 1000), fun a na => ⟨a, v, rfl, upd_same, fun d nd ne => ⟨rfl, d, [(f, v)], upd_same, ?_, ?_, ?_⟩⟩⟩
  · rw [upd_ne ne]
    exact upd_same
  · rw [upd_ne ne] at nd
    exact nd
  · rw [mk_heap na ne]
    rw [upd_ne ne] at nd
    exact h d nd
/-- C(e): behind the argument mk_red -/
theorem pmk_x {e : Expr} {ta : TA} {p pos : Pos} (T : XcC X.prog X.w X.K X.mg X.base x f C) (hr : Room 2 X.A) (ha : PA X [e] ta) (hg : Gl X x := by rfl)
    (hdb : (x == ("__debug__" : Str)) = false := by decide) (he : starEach (e :: []) X.env = (false, eval e X.env) :: starEach [] X.env := by rfl) (hpl : (backTo pos (starEach [] X.env)).any (·.1) = false := by rfl) :
    PMk X (.Call (.Name x p) [e] [] pos) (tMkO C (spXI X.K C f) [] ta) := by
  obtain ⟨fI, fd, i1, i2, i3, i4⟩ := T.init
  exact pmk_oex (CX := CX0) T.oex i1 i2 i3 hr i4 .nil pass0 hg T.gC ha hdb he hpl
theorem ps_raiseX {W : WX} {e : Expr} {ta : TA} {p pos pos2 : Pos} (hc : X.calm = true) (T : XcC X.prog X.w X.K X.mg X.base x f C) (hr : Room 2 X.A) (tk : Takes X W) (ha : PA X [e] ta) (hg : Gl X x := by rfl)
    (hdb : (x == ("__debug__" : Str)) = false := by decide) (he : starEach (e :: []) X.env = (false, eval e X.env) :: starEach [] X.env := by rfl) (hpl : (backTo pos (starEach [] X.env)).any (·.1) = false := by rfl) :
    PS X (.Raise (some (.Call (.Name x p) [e] [] pos)) none pos2) (fun _ σ H => tMkO C (spXI X.K C f) [] ta σ H fun cls d H' => W cls d σ H') := ps_raise hc tk (pmk_x T hr ha hg hdb he hpl)
/-- isinstance(e, c), e the exception that the suite holds -/
def rIsX (K : PySem.W.Frag) (C a : Addr) (cls : Value) (d : Option Addr) : List V → Hp → VK → Prop := fun xs H Q => ∃ (c : V) (cv : Value) (b : Bool) (dd : Addr) (fs : List (Str × V)), xs = [.ref a, c] ∧ cls = .ref C ∧ (∀ u, RelV c u → u = cv) ∧ PySem.W.kitOne K (.ref C) cv = some b ∧ d = some dd ∧ H dd = some (.xd fs) ∧ Q (.bl b) H
theorem call_isX {a : Addr} {oe : Obj} {cls : Value} {d : Option Addr} {pn : List (Addr × Obj)} (T : XcC X.prog X.w X.K X.mg X.base x f C) (hz : Zc cls d oe) (hf : ∃ vs, oe.data = .fields vs) : CallR (X.suite a ((a, oe) :: pn)) (.builtin "isinstance") (rIsX X.K C a cls d) := by
  intro pins s σ H xs us Q I r h
  obtain ⟨c, cv, b, dd, fs, rfl, rfl, hcv, e, rfl, hH, q⟩ := h
  cases r with
  | cons rx rr =>
    cases rr with
    | cons rt rr =>
      cases rr
      cases rx
      have ec := hcv _ rt
      subst ec
      obtain ⟨hget, _⟩ := I.pin (a, oe) (List.mem_append.mpr (.inl List.mem_cons_self))
      obtain ⟨vs, hv⟩ := hf
      have hx : ObjOk X.prog X.w H s.heap dd (.xd fs) := I.hok dd _ hH
      obtain ⟨mA, hns, hr⟩ := hx
      obtain ⟨od, ho, hl⟩ := lookIn_ns hns
      have J : PySem.W.InstAt s.heap a oe C (some od) := ⟨hget, hz.1, by unfold PySem.W.notCls; rw [hv] <;> rfl, by rw [hz.2]; exact ho⟩
      have hcl : (PySem.W.clsIn X.K C).isSome = true := by
        obtain ⟨cd, hc, _⟩ := PySem.W.any_some T.xf.hdC
        rw [hc]
        rfl
      exact PySem.W.kia_one (PySem.W.kitx_exc hcl T.xf.ga T.xf.gg T.xf.exC T.ha T.hn T.ht T.hm) I.kIn J e (fun z => nomatch z) fun tk => ⟨.bl b, H, I.kept (t' := tk) fun _ _ z => z, rfl, q⟩
end
end SE
/-! len(set(t)), t a list or tuple of any texts. -/
namespace SE
open PySem PySem.Spec PyProof.Rows L2
/-- the different ones -/
def ded : List Str → List Str
  | [] => []
  | x :: xs => if x ∈ xs then ded xs else x :: ded xs
theorem mem_ded (y : Str) : ∀ xs : List Str, y ∈ ded xs ↔ y ∈ xs
  | [] => Iff.rfl
  | x :: xs => by
    unfold ded
    by_cases m : x ∈ xs
    · rw [if_pos m, mem_ded y xs, List.mem_cons]
      refine ⟨.inr, fun h => h.elim (fun e => by rw [e]; exact m) id⟩
    · rw [if_neg m, List.mem_cons, List.mem_cons, mem_ded y xs]
theorem nd_ded : ∀ xs : List Str, (ded xs).Nodup
  | [] => List.nodup_nil
  | x :: xs => by
    unfold ded
    by_cases m : x ∈ xs
    · rw [if_pos m]
      exact nd_ded xs
    · rw [if_neg m]
      exact List.nodup_cons.mpr ⟨fun z => m ((mem_ded x xs).mp z), nd_ded xs⟩
/-- how many different ones -/
def dn (xs : List Str) : Nat := (ded xs).length
theorem sub_le : ∀ {ys zs : List Str}, ys.Nodup → (∀ y ∈ ys, y ∈ zs) → ys.length ≤ zs.length
  | [], _, _, _ => Nat.zero_le _
  | y :: ys, zs, nd, h => by
    obtain ⟨n1, n2⟩ := List.nodup_cons.mp nd
    have hy : y ∈ zs := h y List.mem_cons_self
    have ih := sub_le (zs := zs.erase y) n2 fun x hx => (List.mem_erase_of_ne (fun e => n1 (by rw [← e]; exact hx))).mpr (h x (List.mem_cons_of_mem _ hx))
    rw [List.length_erase_of_mem hy] at ih
    have : 0 < zs.length := List.length_pos_of_mem hy
    rw [List.length_cons]
    omega
theorem dn_sub {xs ys : List Str} (h : ∀ x ∈ xs, x ∈ ys) : dn xs ≤ dn ys := sub_le (nd_ded xs) fun y hy => (mem_ded y ys).mpr (h y ((mem_ded y xs).mp hy))
theorem dn_most (xs : List Str) : dn xs ≤ xs.length := sub_le (nd_ded xs) fun y hy => (mem_ded y xs).mp hy
theorem dn_snoc (xs : List Str) (x : Str) : dn (xs ++ [x]) = if x ∈ xs then dn xs else dn xs + 1 := by
  by_cases m : x ∈ xs
  · rw [if_pos m]
    refine Nat.le_antisymm (dn_sub fun y hy => ?_) (dn_sub fun y hy => List.mem_append_left _ hy)
    rcases List.mem_append.mp hy with q | q
    · exact q
    · rw [List.mem_singleton.mp q]
      exact m
  · rw [if_neg m]
    have nd : (x :: ded xs).Nodup := List.nodup_cons.mpr ⟨fun z => m ((mem_ded x xs).mp z), nd_ded xs⟩
    refine Nat.le_antisymm (sub_le (zs := x :: ded xs) (nd_ded _) fun y hy => ?_) (sub_le (ys := x :: ded xs) nd fun y hy => ?_)
    · rcases List.mem_append.mp ((mem_ded y _).mp hy) with q | q
      · exact List.mem_cons_of_mem _ ((mem_ded y xs).mpr q)
      · rw [List.mem_singleton.mp q]
        exact List.mem_cons_self
    · refine (mem_ded y _).mpr (List.mem_append.mpr ?_)
      rcases List.mem_cons.mp hy with q | q
      · exact .inr (List.mem_singleton.mpr q)
      · exact .inl ((mem_ded y xs).mp q)
section
variable {prog : Program} {w : World} {A : Around} {R : Result → Shared → Prop} {J : Addr} {fp wr : List Addr} {G : Array GenState → Array GenState → Prop} {n : Nat} {P : Nat → Value → Prop} {T : Nat → Shared → Prop}
/-- the texts so far -/
abbrev Upto (prog : Program) (w : World) (h : Heap) (S : Addr) (xs : List Str) (i : Nat) : Prop := h.SetOf (PySem.strKind prog w) S (fun k => (xs.take i).any (· == k)) (dn (xs.take i))
theorem fill_loop (W : WalksS prog w A.in1 J fp wr G n P T) (S : Addr) (nf : S ∉ fp) (xs : List Str) (hx : xs.length = n) (hm : n ≤ 4000)
    (hv : ∀ i v, P i v → ∃ t, v = .str (xs.getD i Str.empty) t) :
    ∀ (m i : Nat) (s : Shared), n - i = m → i ≤ n → T i s → Upto prog w s.heap S xs i →
      (∀ s2, Moved (S :: wr) G s s2 → Upto prog w s2.heap S xs n → R (.ok (.ret .none)) s2) →
      codeAny (model prog w) A (.builtin "set.update.loop" ⟨[.ref S, .ref J], []⟩) R s := by
  have nw : S ∉ wr := fun z => nf (W.sub _ z)
  have sw : ∀ b ∈ wr, b ∈ S :: wr := fun b z => List.mem_cons_of_mem _ z
  intro m
  induction m with
  | zero =>
    intro i s e1 e2 st hS k
    have e3 : i = n := by omega
    subst e3
    refine codeAny_builtin PyProof.Rows.F.entry_set_update_loop ?_
    rw [Around.under_plainId PyProof.Rows.F.plain_set_update_loop _]
    show wpAny _ A.in1 (pyNext (.ref J) >>= _) _ _ s
    refine wpAny_bind (W.done s _ _ st fun s2 mv => ?_)
    show wpAny _ A.in1 (ret Value.none) _ _ s2
    obtain ⟨o, es, ep, tb, ho, more⟩ := hS
    exact wpAny_pure (k s2 (mv.mono sw) ⟨o, es, ep, tb, mv.heap S _ nw ho, more⟩)
  | succ m ih =>
    intro i s e1 e2 st hS k
    have lt : i < n := by omega
    refine codeAny_builtin PyProof.Rows.F.entry_set_update_loop ?_
    rw [Around.under_plainId PyProof.Rows.F.plain_set_update_loop _]
    show wpAny _ A.in1 (pyNext (.ref J) >>= _) _ _ s
    refine wpAny_bind (W.item i s _ _ lt st fun v s2 pv st2 mv => ?_)
    obtain ⟨t, rfl⟩ := hv i v pv
    have hS2 : Upto prog w s2.heap S xs i := by
      obtain ⟨o, es, ep, tb, ho, more⟩ := hS
      exact ⟨o, es, ep, tb, mv.heap S _ nw ho, more⟩
    show wpAny _ A.in1 (holding [Value.str (xs.getD i Str.empty) t] (setAdd S (.str (xs.getD i Str.empty) t)) >>= _) _ _ s2
    refine wpAny_bind (wpAny_holding ?_)
    unfold setAdd
    refine wpAny_holding (wpAny_bind ((PySem.strKind prog w).pyHash (k := xs.getD i Str.empty) (strKind_is _ _ _ _) ?_))
    have few : dn (xs.take i) ≤ i := Nat.le_trans (dn_most _) (by rw [List.length_take]; omega)
    refine wpAny_setAddHashed_of (knd := PySem.strKind prog w) (s := { s2 with toks := s2.toks + 1 }) (strKind_is _ _ _ _) rfl hS2 (by unfold scanBound; omega) fun h3 but hS3 => ?_
    have at_ : xs[i]? = some (xs.getD i Str.empty) := by
      rw [List.getD_eq_getElem?_getD, List.getElem?_eq_getElem (by omega)]
      rfl
    have tk : xs.take (i + 1) = xs.take i ++ [xs.getD i Str.empty] := by
      rw [List.take_add_one, at_]
      rfl
    have inn : ((xs.take i).any (· == xs.getD i Str.empty)) = decide (xs.getD i Str.empty ∈ xs.take i) := by
      rw [Bool.eq_iff_iff, decide_eq_true_iff, List.any_eq_true]
      refine ⟨fun ⟨y, my, ey⟩ => ?_, fun z => ⟨_, z, beq_self_eq_true _⟩⟩
      rw [← eq_of_beq ey]
      exact my
    have next : Upto prog w h3 S xs (i + 1) := by
      refine SetOf_congr hS3 (fun y => ?_) ?_
      · rw [tk, List.any_append, List.any_cons, List.any_nil, Bool.or_false]
        congr 1
        by_cases e : y = xs.getD i Str.empty
        · subst e
          simp
        · rw [decide_eq_false e, beq_eq_false_iff_ne.mpr fun z => e z.symm]
      · rw [tk, dn_snoc]
        simp only [inn]
        by_cases q : xs.getD i Str.empty ∈ xs.take i
        · rw [decide_eq_true q, if_pos rfl, if_pos q]
        · rw [decide_eq_false q, if_neg Bool.false_ne_true, if_neg q]
    refine wpAny_pure ⟨plainId_quiet PyProof.Rows.F.plain_set_update_loop _, ih (i + 1) _ (by omega) lt (W.frame _ s2 _ _ st2 (Nat.le_succ _) fun b hb o e => ?_) next fun s4 mv4 hS4 => ?_⟩
    · rw [but.2 b (fun z : b = S => nf (by rw [← z]; exact hb))]
      exact e
    · refine k s4 (Moved.trans W.gtrans ((mv.mono sw).then_heap (Nat.le_succ _) fun b o hb e => ?_) mv4) hS4
      rw [but.2 b (fun z : b = S => hb (by rw [z]; exact List.mem_cons_self))]
      exact e
end
section
variable {prog : Program} {w : World} {A : Around} {E : Value → Shared → Prop} {s : Shared}
/-- a set that is just made -/
abbrev set0 (led : Bool) : Obj := { cls := .type "set", dict := none, data := .set #[] 0 (.fresh 0 0 led) }
theorem set_of_tuple {l : Addr} {items : Array Value} {xs : List Str} {Q : Value → Shared → Prop} (hh : A.handled = none) (hl : s.heap.IsTuple l items) (hi : StrsAre items.toList xs) (hm : xs.length ≤ 4000)
    (k : ∀ (h2 : Heap) (tk : Nat), Upto prog w h2 s.heap.objs.size xs items.size → (∀ b o, b < s.heap.objs.size → s.heap.get? b = some o → h2.get? b = some o) → Q (.ref s.heap.objs.size) { s with heap := h2, toks := tk }) :
    wpAny (model prog w) A (call (.type "set") [.ref l]) Q E s := by
  obtain ⟨c, tl, mro⟩ := PySem.F.called_set.mro
  have made := PySem.F.called_set.made
  have subs := PySem.F.called_set.sub
  refine wpAny_call (codeAny_of_tree ?_)
  show wpAny _ _ (callAny (.type "set") _) _ _ _
  refine wpAny_pure ⟨Code.quiet_builtin _ (by decide +kernel), codeAny_builtin PySem.F.entry_type_call ?_⟩
  rw [Around.under_plain (weight_type_call_type "set" [.ref l] []) rfl]
  have n1 := PySem.F.called_set.notType
  have n2 := PySem.F.called_set.canCreate
  have n3 := PySem.F.typeCall_set_1 (.ref l)
  repeat (any_goals (first | assumption | wp_step))
  refine codeAny_mono (code_set_new_1 (.ref l) (E := E) (Q₁ := fun v s1 => ∃ led : Bool, v = .ref s.heap.objs.size ∧ s1 = { s with heap := s.heap.push (set0 led) }) fun led => ⟨led, rfl, rfl⟩) fun r s1 hr => ?_
  cases r with
  | error e => exact hr
  | ok fl =>
    cases fl with
    | ret v =>
      obtain ⟨led, rfl, rfl⟩ := hr
      have hS : (s.heap.push (set0 led)).get? s.heap.objs.size = some (set0 led) := Heap.get?_push_size _ rfl
      have hT : Shared.TypeIs { s with heap := s.heap.push (set0 led) } (.ref s.heap.objs.size) "set" := ⟨_, hS, rfl⟩
      have n4 := PySem.F.called_set.init.lookup
      have n5 := PySem.F.called_set.init.bind (.ref s.heap.objs.size)
      repeat (any_goals (first | assumption | wp_step))
      refine codeAny_mono (codeAny_call_builtin (R := wants (fun r s2 => r = .none ∧ ∃ h2 tk, s2 = { s with heap := h2, toks := tk } ∧ Upto prog w h2 s.heap.objs.size xs items.size ∧
          (∀ b o, b < s.heap.objs.size → s.heap.get? b = some o → h2.get? b = some o)) E) PySem.F.called_set.init.plain PySem.F.entry_set_init (check_set_init_1 hT ?_)) fun r2 s2 hr2 => ?_
      · obtain ⟨ol, ho, hc, nl, hd⟩ := hl
        obtain ⟨oc, od, da, os⟩ := ol
        simp only at hc hd
        subst hc; subst hd
        have ho2 : (s.heap.push (set0 led)).get? l = some { cls := .type "tuple", dict := od, data := .seq items nl, slots := os } := Heap.get?_push_of_some _ ho
        have s1 := PySem.F.sub_tuple_set
        have s2 := PySem.F.sub_tuple_frozenset
        have s3 : (Value.type "tuple" == Value.type "dict") = false := by decide
        have hl1 : (s.heap.push (set0 led)).IsTuple l items := ⟨_, ho2, rfl, nl, rfl⟩
        unfold Builtin.«set.__init__» noKeywords Builtin.Frozenset.updateFrom
        generalize hPI : pyIter = PI
        wp_walk
        subst hPI
        refine wpAny_pyIter_tuple hl1 (wpAny_bind (wpAny_runValue ?_))
        have low : l < s.heap.objs.size := Heap.lt_size ho
        have hd3 : A.in1.in1.in1.handled = none := by simp [hh]
        have ne1 : l ≠ (s.heap.push (set0 led)).objs.size := by
          rw [Heap.size_push]
          exact Nat.ne_of_lt (Nat.lt_succ_of_lt low)
        have nf : s.heap.objs.size ∉ [(s.heap.push (set0 led)).objs.size, l] := by
          rw [Heap.size_push]
          simp only [List.mem_cons, List.mem_singleton, List.not_mem_nil, or_false, not_or]
          exact ⟨Nat.ne_of_lt (Nat.lt_succ_self _), Nat.ne_of_gt low⟩
        have hx : xs.length = items.size := by rw [← StrsAre.len_eq hi, Array.length_toList]
        have hv : ∀ (i : Nat) (v : Value), items[i]? = some v → ∃ t, v = .str (xs.getD i Str.empty) t := fun i v q => SS.strs_at hi i v (by rw [Array.getElem?_toList]; exact q)
        refine fill_loop ((Walks.tuple hd3 _ l ne1 items).toS) s.heap.objs.size nf xs hx (by omega) hv (items.size - 0) 0 _ (by omega) (Nat.zero_le _) ⟨⟨_, Heap.get?_push_size _ rfl, rfl, rfl⟩, (hl1.push _)⟩ ?fresh0 ?filled
        case fresh0 =>
          refine SetOf_congr ((PyProof.Rows.setObjOf_fresh (knd := PySem.strKind prog w) led).setOf (Heap.get?_push_of_some _ hS) (by unfold scanBound; omega)) (fun _ => rfl) rfl
        case filled =>
          intro s4 mv hS4
          obtain ⟨h4, g4, d4, t4, o4⟩ := s4
          cases (show g4 = s.gens from mv.gens)
          cases (show d4 = s.drawn from mv.drawn)
          cases (show o4 = s.os from mv.os)
          show wpAny _ _ _ _ _ _
          refine wpAny_pure ?_
          show wpAny _ _ (ret Value.none) _ _ _
          refine wpAny_pure ⟨rfl, h4, t4, rfl, hS4, fun b o hb e => ?_⟩
          refine mv.heap b o ?_ (Heap.get?_push_of_some _ (Heap.get?_push_of_some _ e))
          rw [Heap.size_push]
          simp only [List.mem_cons, List.mem_singleton, List.not_mem_nil, or_false, not_or]
          exact ⟨Nat.ne_of_lt hb, Nat.ne_of_lt (Nat.lt_succ_of_lt hb)⟩
      · cases r2 with
        | error e => exact hr2
        | ok fl2 =>
          cases fl2 with
          | ret r =>
            obtain ⟨rfl, h2, tk, rfl, hS2, keep⟩ := hr2
            repeat (any_goals (first | assumption | wp_step))
            exact k _ _ hS2 keep
          | _ => exact hr2.elim
    | _ => exact hr.elim
theorem set_of_list {l : Addr} {items : Array Value} {xs : List Str} {Q : Value → Shared → Prop} (hh : A.handled = none) (hl : s.heap.IsList l items) (hi : StrsAre items.toList xs) (hm : xs.length ≤ 4000)
    (k : ∀ (h2 : Heap) (tk : Nat), Upto prog w h2 s.heap.objs.size xs items.size → (∀ b o, b < s.heap.objs.size → s.heap.get? b = some o → h2.get? b = some o) → Q (.ref s.heap.objs.size) { s with heap := h2, toks := tk }) :
    wpAny (model prog w) A (call (.type "set") [.ref l]) Q E s := by
  obtain ⟨c, tl, mro⟩ := PySem.F.called_set.mro
  have made := PySem.F.called_set.made
  have subs := PySem.F.called_set.sub
  refine wpAny_call (codeAny_of_tree ?_)
  show wpAny _ _ (callAny (.type "set") _) _ _ _
  refine wpAny_pure ⟨Code.quiet_builtin _ (by decide +kernel), codeAny_builtin PySem.F.entry_type_call ?_⟩
  rw [Around.under_plain (weight_type_call_type "set" [.ref l] []) rfl]
  have n1 := PySem.F.called_set.notType
  have n2 := PySem.F.called_set.canCreate
  have n3 := PySem.F.typeCall_set_1 (.ref l)
  repeat (any_goals (first | assumption | wp_step))
  refine codeAny_mono (code_set_new_1 (.ref l) (E := E) (Q₁ := fun v s1 => ∃ led : Bool, v = .ref s.heap.objs.size ∧ s1 = { s with heap := s.heap.push (set0 led) }) fun led => ⟨led, rfl, rfl⟩) fun r s1 hr => ?_
  cases r with
  | error e => exact hr
  | ok fl =>
    cases fl with
    | ret v =>
      obtain ⟨led, rfl, rfl⟩ := hr
      have hS : (s.heap.push (set0 led)).get? s.heap.objs.size = some (set0 led) := Heap.get?_push_size _ rfl
      have hT : Shared.TypeIs { s with heap := s.heap.push (set0 led) } (.ref s.heap.objs.size) "set" := ⟨_, hS, rfl⟩
      have n4 := PySem.F.called_set.init.lookup
      have n5 := PySem.F.called_set.init.bind (.ref s.heap.objs.size)
      repeat (any_goals (first | assumption | wp_step))
      refine codeAny_mono (codeAny_call_builtin (R := wants (fun r s2 => r = .none ∧ ∃ h2 tk, s2 = { s with heap := h2, toks := tk } ∧ Upto prog w h2 s.heap.objs.size xs items.size ∧
          (∀ b o, b < s.heap.objs.size → s.heap.get? b = some o → h2.get? b = some o)) E) PySem.F.called_set.init.plain PySem.F.entry_set_init (check_set_init_1 hT ?_)) fun r2 s2 hr2 => ?_
      · obtain ⟨ol, ho, hc, nl, hd⟩ := hl
        obtain ⟨oc, od, da, os⟩ := ol
        simp only at hc hd
        subst hc; subst hd
        have ho2 : (s.heap.push (set0 led)).get? l = some { cls := .type "list", dict := od, data := .seq items nl, slots := os } := Heap.get?_push_of_some _ ho
        have s1 := PySem.F.sub_list_set
        have s2 := PySem.F.sub_list_frozenset
        have s3 : (Value.type "list" == Value.type "dict") = false := by decide
        have hl1 : (s.heap.push (set0 led)).IsList l items := ⟨_, ho2, rfl, nl, rfl⟩
        unfold Builtin.«set.__init__» noKeywords Builtin.Frozenset.updateFrom
        generalize hPI : pyIter = PI
        wp_walk
        subst hPI
        refine wpAny_pyIter_list hl1 (wpAny_bind (wpAny_runValue ?_))
        have low : l < s.heap.objs.size := Heap.lt_size ho
        have hd3 : A.in1.in1.in1.handled = none := by simp [hh]
        have ne1 : l ≠ (s.heap.push (set0 led)).objs.size := by
          rw [Heap.size_push]
          exact Nat.ne_of_lt (Nat.lt_succ_of_lt low)
        have nf : s.heap.objs.size ∉ [(s.heap.push (set0 led)).objs.size, l] := by
          rw [Heap.size_push]
          simp only [List.mem_cons, List.mem_singleton, List.not_mem_nil, or_false, not_or]
          exact ⟨Nat.ne_of_lt (Nat.lt_succ_self _), Nat.ne_of_gt low⟩
        have hx : xs.length = items.size := by rw [← StrsAre.len_eq hi, Array.length_toList]
        have hv : ∀ (i : Nat) (v : Value), items[i]? = some v → ∃ t, v = .str (xs.getD i Str.empty) t := fun i v q => SS.strs_at hi i v (by rw [Array.getElem?_toList]; exact q)
        refine fill_loop ((Walks.list hd3 _ l ne1 items).toS) s.heap.objs.size nf xs hx (by omega) hv (items.size - 0) 0 _ (by omega) (Nat.zero_le _) ⟨⟨_, Heap.get?_push_size _ rfl, rfl, rfl⟩, (hl1.push _)⟩ ?fresh0 ?filled
        case fresh0 =>
          refine SetOf_congr ((PyProof.Rows.setObjOf_fresh (knd := PySem.strKind prog w) led).setOf (Heap.get?_push_of_some _ hS) (by unfold scanBound; omega)) (fun _ => rfl) rfl
        case filled =>
          intro s4 mv hS4
          obtain ⟨h4, g4, d4, t4, o4⟩ := s4
          cases (show g4 = s.gens from mv.gens)
          cases (show d4 = s.drawn from mv.drawn)
          cases (show o4 = s.os from mv.os)
          show wpAny _ _ _ _ _ _
          refine wpAny_pure ?_
          show wpAny _ _ (ret Value.none) _ _ _
          refine wpAny_pure ⟨rfl, h4, t4, rfl, hS4, fun b o hb e => ?_⟩
          refine mv.heap b o ?_ (Heap.get?_push_of_some _ (Heap.get?_push_of_some _ e))
          rw [Heap.size_push]
          simp only [List.mem_cons, List.mem_singleton, List.not_mem_nil, or_false, not_or]
          exact ⟨Nat.ne_of_lt hb, Nat.ne_of_lt (Nat.lt_succ_of_lt hb)⟩
      · cases r2 with
        | error e => exact hr2
        | ok fl2 =>
          cases fl2 with
          | ret r =>
            obtain ⟨rfl, h2, tk, rfl, hS2, keep⟩ := hr2
            repeat (any_goals (first | assumption | wp_step))
            exact k _ _ hS2 keep
          | _ => exact hr2.elim
    | _ => exact hr.elim
end
section
variable {X : Cx}
/-- len(set(t)) -/
def tLenS (K : PySem.W.Frag) (ta : TE) : TE := fun σ H Q => ta σ H fun x H1 => ∃ (l : Addr) (xs : List Str), x = .ref l ∧ (SqL K H1 l (xs.map V.str) ∨ SqT K H1 l (xs.map V.str)) ∧ xs.length ≤ 4000 ∧ Q (.int (dn xs)) H1
theorem pe_lenS {a : Expr} {ta : TE} {p p2 q pos : Pos} (calm : X.calm = true) (hg : Gl X "len") (hm : X.mg "len" = none) (hg2 : Gl X "set") (hm2 : X.mg "set" = none) (ha : PE X a ta)
    (na : starEach [a] X.env = (false, eval a X.env) :: starEach [] X.env := by rfl) : PE X (.Call (.Name "len" p) [.Call (.Name "set" p2) [a] [] q] [] pos) (tLenS X.K ta) := by
  constructor
  intro pins s σ H Q I h
  refine Call_ (ld_blt I hg hm boot_len (PyProof.Rows.callWith_builtin1 (PyProof.Rows.args_cons (Call_ (ld_blt I hg2 hm2 boot_set ?_)) rfl) rfl rfl))
  refine PyProof.Rows.callWith_type1 (PyProof.Rows.args_cons (thn (ha.run pins s σ H _ I h) fun v s1 hh => PyProof.Rows.args_nil ?_) na) na rfl
  obtain ⟨x, H1, I1, r1, l, xs, rfl, hq, h1, q1⟩ := hh
  cases r1
  have fin : ∀ (its : List Value), Vals (xs.map V.str) its → ∀ (h2 : Heap) (tk : Nat), Upto X.prog X.w h2 s1.heap.objs.size xs its.toArray.size → (∀ b o, b < s1.heap.objs.size → s1.heap.get? b = some o → h2.get? b = some o) →
      wpAny (model X.prog X.w) X.A (spliced (backTo pos (starEach [] X.env))) (fun us s2 => wpAny (model X.prog X.w) X.A (call (.builtin "len") (Value.ref s1.heap.objs.size :: us)) (EP X pins σ Q) X.xe s2) X.xe { s1 with heap := h2, toks := tk } := by
    intro its r h2 tk hS keep
    refine PyProof.Rows.args_nil ?_
    have hl : its.toArray.size = xs.length := by rw [List.size_toArray, ← r.length, List.length_map]
    have hS2 : h2.SetOf (PySem.strKind X.prog X.w) s1.heap.objs.size (fun k => (xs.take its.toArray.size).any (· == k)) (dn (xs.take its.toArray.size)) := hS
    rw [hl, List.take_length] at hS2
    obtain ⟨o, es, ep, t, ho, hex, hd, _, _, _, hf, hn⟩ := hS2
    have I2 : Inv X pins σ H1 { s1 with heap := h2, toks := tk } := I1.kept fun b o e => keep b o (Heap.lt_size e) e
    have most := dn_most xs
    exact call_len_set ho hex hd hf (by rw [hn]; omega) ⟨.int (dn xs), H1, I2.tok _, ⟨_, by rw [hn]⟩, q1⟩
  rcases hq with hq | hq
  · obtain ⟨its, r, pl, hz⟩ := I1.list hq
    exact set_of_list (I1.ok.hd calm) pl.isList (by simpa using strsAre_of r) h1 fun h2 tk hS keep => fin its r h2 tk hS keep
  · obtain ⟨its, r, pl, hz⟩ := I1.tuple hq
    exact set_of_tuple (I1.ok.hd calm) pl (by simpa using strsAre_of r) h1 fun h2 tk hS keep => fin its r h2 tk hS keep
end
end SE
namespace SE
open PySem PySem.Spec PyProof.Rows L2
theorem dn_nd {xs : List Str} (nd : xs.Nodup) : dn xs = xs.length := Nat.le_antisymm (dn_most xs) (sub_le nd fun y hy => (mem_ded y xs).mpr hy)
theorem nd_dn : ∀ {xs : List Str}, dn xs = xs.length → xs.Nodup
  | [], _ => List.nodup_nil
  | x :: xs, h => by
    have m := dn_most xs
    unfold dn ded at h
    by_cases c : x ∈ xs
    · rw [if_pos c] at h
      have : dn xs = (ded xs).length := rfl
      rw [List.length_cons] at h
      omega
    · rw [if_neg c, List.length_cons, List.length_cons] at h
      exact List.nodup_cons.mpr ⟨c, nd_dn (by unfold dn; omega)⟩
theorem all_strs : ∀ {ds : List PyData}, (ds.map itemD).all id = true → ∃ zs : List Str, ds = zs.map .str ∧ ∀ z ∈ zs, itemD (.str z) = true
  | [], _ => ⟨[], rfl, fun z m => by cases m⟩
  | d :: ds, h => by
    rw [List.map_cons, List.all_cons, Bool.and_eq_true] at h
    obtain ⟨zs, e, q⟩ := all_strs h.2
    cases d with
    | str z =>
      refine ⟨z :: zs, by rw [e]; rfl, fun y m => ?_⟩
      rcases List.mem_cons.mp m with r | r
      · rw [r]; exact h.1
      · exact q y r
    | none => exact absurd h.1 (by simp [itemD])
    | bool _ => exact absurd h.1 (by simp [itemD])
    | int _ => exact absurd h.1 (by simp [itemD])
    | list _ => exact absurd h.1 (by simp [itemD])
    | tuple _ => exact absurd h.1 (by simp [itemD])
    | dict _ => exact absurd h.1 (by simp [itemD])
theorem strs_all {zs : List Str} (h : ∀ z ∈ zs, itemD (.str z) = true) : ((zs.map PyData.str).map itemD).all id = true := by
  rw [List.all_eq_true]
  intro b mb
  obtain ⟨d, md, rfl⟩ := List.mem_map.mp mb
  obtain ⟨z, mz, rfl⟩ := List.mem_map.mp md
  exact h z mz
theorem dpx_strs {K : PySem.W.Frag} {H : Hp} : ∀ {zs : List Str} {vs : List V}, DpXs K H vs (zs.map .str) → vs = zs.map V.str
  | [], _, h => by cases h; rfl
  | n :: ns, _, h => by
    cases h with
    | cons a b =>
      cases a
      rw [dpx_strs b]
      rfl
theorem str_map_inj : ∀ {a b : List Str}, a.map PyData.str = b.map PyData.str → a = b
  | [], [], _ => rfl
  | [], _ :: _, h => by cases h
  | _ :: _, [], h => by cases h
  | x :: a, y :: b, h => by
    rw [List.map_cons, List.map_cons] at h
    obtain ⟨h1, h2⟩ := List.cons.inj h
    rw [PyData.str.inj h1, str_map_inj h2]
/-- a list or tuple of distinct items -/
def IsIL (d : PyData) : Prop := ∃ zs : List Str, (d = .list (zs.map .str) ∨ d = .tuple (zs.map .str)) ∧ zs.length ≤ 50 ∧ zs.Nodup ∧ ∀ z ∈ zs, itemD (.str z) = true
theorem kit_lt {K : PySem.W.Frag} (d : PyData) : PySem.W.kitAny K (.type (tyD d)) [.type "list", .type "tuple"] = some (isLst d || isTup d) := by
  cases d <;> rfl
theorem tup_or {K : PySem.W.Frag} {H : Hp} {v : V} {d : PyData} (h : DpX K H v d) : (∃ a xs ds, v = .ref a ∧ d = .tuple ds ∧ SqT K H a xs ∧ DpXs K H xs ds) ∨ isTup d = false := by
  cases h with
  | tup h1 h2 => exact .inl ⟨_, _, _, rfl, rfl, h1, h2⟩
  | non => exact .inr rfl
  | bl b => exact .inr rfl
  | int i => exact .inr rfl
  | str z => exact .inr rfl
  | lst _ _ => exact .inr rfl
  | emp _ => exact .inr rfl
section
variable {P : Program} {w : World} {K : PySem.W.Frag} {mg : Str → Option Value} {base : Heap}
/-! ### is_item_list, check_items -/
def spIL (K : PySem.W.Frag) : Sp := fun xs H Q _ => ∃ (v : V) (d : PyData), xs = [v] ∧ DpX K H v d ∧ OkD d ∧ (∀ ds, d = .list ds ∨ d = .tuple ds → ds.length ≤ 100) ∧ ∀ (b : Bool) H', (b = true ↔ IsIL d) → Same H H' → Q (.bl b) H'
theorem scIl : FnScope ["value", "item"] ["value"] (defScope sIsItemList) := ⟨rfl, rfl, rfl, by decide +kernel, rfl, by decide +kernel, by decide +kernel⟩
theorem has_il (D : Def K mg "is_item_list" sIsItemList) (G : Has P w K mg base "is_item" 1 ["value"] [] (spX K itemD)) (B : Blt mg) (ms : mg "set" = none) (c : SC mg) : Has P w K mg base "is_item_list" 2 ["value"] [] (spIL K) := by
  obtain ⟨tm, hM⟩ := c.mi
  refine has_of D scIl (fun _ _ _ _ _ _ us hl => match us, hl with | [_], _ => rfl) (fun xs H Q E h => ?_) (fun f cv A out s H xs Q E hr h => ?_)
  · obtain ⟨v, d, rfl, _⟩ := h
    rfl
  · obtain ⟨v, d, rfl, hd, ok, l100, k⟩ := h
    -- behind the list of answers
    have fin : ∀ {a : Addr} {vs : List V} {ds : List PyData} {H2 : Hp}, v = .ref a → (d = .list ds ∨ d = .tuple ds) → ((SqL K H a vs) ∨ (SqT K H a vs)) → DpXs K H vs ds → ds.length ≤ 50 → Same H H2 →
        (∃ b : Bool, (ds.map itemD).all id = b ∧ (b = false → Q (.bl false) H2) ∧ (b = true → ∃ xs : List Str, vs = xs.map V.str ∧ xs.length ≤ 4000 ∧ ∀ e : Bool, e = decide (dn xs = vs.length) → Q (.bl e) H2)) := by
      intro a vs ds H2 ev ed hs hV l50 s2
      refine ⟨_, rfl, fun e => ?_, fun e => ?_⟩
      · refine k false H2 ⟨fun q => absurd q Bool.false_ne_true, fun z => ?_⟩ s2
        obtain ⟨zs, e1, _, _, e4⟩ := z
        have : ds = zs.map .str := by
          rcases ed with q | q <;> rcases e1 with r | r <;> rw [q] at r <;> cases r <;> rfl
        rw [this, strs_all e4] at e
        exact absurd e (by decide)
      · obtain ⟨zs, e1, e2⟩ := all_strs e
        have ev2 : vs = zs.map V.str := dpx_strs (by rw [← e1]; exact hV)
        have ln : ds.length = zs.length := by rw [e1, List.length_map]
        refine ⟨zs, ev2, by omega, fun e' he' => k e' H2 ?_ s2⟩
        rw [he', decide_eq_true_iff, ev2, List.length_map]
        constructor
        · intro z
          exact ⟨zs, by rw [← e1]; exact ed, by omega, nd_dn z, e2⟩
        · rintro ⟨ys, f1, _, f3, _⟩
          have : zs.map PyData.str = ys.map PyData.str := by
            rw [← e1]
            rcases ed with q | q <;> rcases f1 with r | r <;> rw [q] at r <;> cases r <;> rfl
          rw [str_map_inj this]
          exact dn_nd f3
    have no : (¬ IsIL d) → ∀ H2, Same H H2 → Q (.bl false) H2 := fun z H2 s2 => k false H2 ⟨fun q => absurd q Bool.false_ne_true, fun q => absurd q z⟩ s2
    rcases tup_or hd with ⟨a, vs, ds, rfl, rfl, hT, hV⟩ | nt
    · refine ⟨_, pss_cons (ps_if (PW.pt (pw_or (pt_not (pt_val (pe_callB call_isiT (by rfl) B.isi (by decide +kernel) (pa_cons (pv 0) (pa_cons (pe_tup (pa_cons (pe_bltn (v := .ty "list") (by rfl) B.lst (by decide +kernel) rfl) (pa_cons (pe_bltn (v := .ty "tuple") (by rfl) B.tup (by decide +kernel) rfl) pa_nil))) pa_nil)))))
          (pw_or1 (pt_cmpR op_gt (pe_callB call_len_seq (by rfl) B.len PySem.boot_len (pa_cons (pv 0) pa_nil)) (pe_glob (v := .int 50) rfl hM ⟨_, rfl⟩) (nomark _))))) (pss_one (ps_ret pe_bl)) pss_nil)
        (pss_one (ps_ret (pe_and (pe_callB (cr_all rfl) (by rfl) B.all (by decide +kernel) (pa_cons
          (pe_lc (own := [("item", 1)]) (g := gName 1) (tt := tYes) (te := tCall (spX K itemD) [] E0 (tCons (tVar 1) tNil)) rfl scIl.nd (pi_tup (pv 0)) (blkOk_by (own := [("item", 1)]) (N := ["value", "item"]) (sc := defScope sIsItemList) (by decide +kernel))
            (fun _ _ _ _ _ => pg_name (i := 1) scIl.nd rfl (.inl rfl)) (fun _ _ _ _ _ => pts_nil) (fun _ _ _ _ _ => pe_has G hr (pa_cons (pv 1) pa_nil))) pa_nil))
          (pe_one (pe_cmpR op_eq (pe_lenS rfl (by rfl) B.len (by rfl) ms (pv 0)) (pe_callB call_len_seq (by rfl) B.len PySem.boot_len (pa_cons (pv 0) pa_nil)) (nomark _)))))), ?_⟩
      have lv : vs.length = ds.length := hV.len
      have ll := l100 ds (.inr rfl)
      obtain ⟨oks, _⟩ := ok.tuple
      refine ⟨_, rfl, (by show 2 ≤ sizeLine; decide), fun t ht => ?_⟩
      have s1 : Same H (upd H t (.tup [.ty "list", .ty "tuple"])) := Same.new ht
      have hd1 := DpX.same s1 _ _ hd
      refine ⟨_, t, _, .type (tyD (.tuple ds)), _, isLst (.tuple ds) || isTup (.tuple ds), rfl, upd_same, .cons (.ty _) (.cons (.ty _) .nil), hd1.ty, kit_lt _, _, rfl, ?_⟩
      generalize upd H t (.tup [.ty "list", .ty "tuple"]) = H1 at s1 hd1
      refine iteF ⟨_, rfl, a, _, rfl, .inr (Same.tup s1 hT), _, 50, rfl, rfl, _, rfl, ?_⟩
      refine iteB' (fun e => ?_) (fun e => ?_)
      · have := of_decide_eq_true e
        refine no (fun z => ?_) H1 s1
        obtain ⟨zs, e1, e2, _⟩ := z
        rcases e1 with r | r
        · cases r
        · have q := congrArg (fun d => match d with | PyData.tuple l => l.length | _ => 0) r
          simp only [List.length_map] at q
          omega
      have l9 : ds.length ≤ 50 := by have := of_decide_eq_false e; omega
      refine ⟨_, rfl, a, rfl, ⟨_, Same.tup s1 hT⟩, fun D hD => lc_tup (K := K) (a := a) (xs := vs) (fun j H2 => H2 D = some (.lst (((ds.take j).map itemD).map V.bl)) ∧ Same H1 H2) ⟨upd_same, Same.new hD⟩ (fun _ _ _ q => Same.tup (s1.trans q.2) hT) ?_ ?_⟩
      · rintro j x H2 hj ⟨h2, s2⟩
        obtain ⟨dj, hdj, hx⟩ := hV.at hj
        refine ⟨rfl, yes_in ⟨_, rfl, x, dj, rfl, DpX.same (s1.trans s2) _ _ hx, oks dj (List.mem_of_getElem? hdj), fun H3 s3 => ⟨_, s3 _ _ h2, ?_, ?_, Same.free2 (s2.trans s3) hD⟩⟩⟩
        · rw [List.length_map, List.length_map, List.length_take]
          exact small1000 (by omega)
        · rw [upd_same, List.take_add_one, hdj, List.map_append, List.map_append]
          rfl
      rintro H2 ⟨h2, s2⟩
      rw [lv, List.take_length] at h2
      obtain ⟨b, eb, kF, kT⟩ := fin rfl (.inr rfl) (.inr hT) hV l9 (s1.trans s2)
      refine ⟨D, _, rfl, .of h2, _, rfl, ?_⟩
      refine iteB' (fun e => ?_) (fun e => ?_)
      · obtain ⟨zs, ev2, lz, kk⟩ := kT (eb.symm.trans e)
        refine ⟨_, rfl, a, zs, rfl, .inr (by rw [← ev2]; exact Same.tup (s1.trans s2) hT), lz, _, rfl, a, _, rfl, .inr (Same.tup (s1.trans s2) hT), rfl, ?_⟩
        refine kk _ ?_
        by_cases z : dn zs = vs.length
        · rw [decide_eq_true z, decide_eq_true (by rw [z])]
        · rw [decide_eq_false z]
          exact decide_eq_false (fun q => z (Int.ofNat.inj (V.int.inj q)))
      · exact kF (eb.symm.trans e)
    · refine ⟨_, pss_cons (ps_if (PW.pt (pw_or (pt_not (pt_val (pe_callB call_isiT (by rfl) B.isi (by decide +kernel) (pa_cons (pv 0) (pa_cons (pe_tup (pa_cons (pe_bltn (v := .ty "list") (by rfl) B.lst (by decide +kernel) rfl) (pa_cons (pe_bltn (v := .ty "tuple") (by rfl) B.tup (by decide +kernel) rfl) pa_nil))) pa_nil)))))
          (pw_or1 (pt_cmpR op_gt (pe_callB call_len_seq (by rfl) B.len PySem.boot_len (pa_cons (pv 0) pa_nil)) (pe_glob (v := .int 50) rfl hM ⟨_, rfl⟩) (nomark _))))) (pss_one (ps_ret pe_bl)) pss_nil)
        (pss_one (ps_ret (pe_and (pe_callB (cr_all rfl) (by rfl) B.all (by decide +kernel) (pa_cons
          (pe_lc (own := [("item", 1)]) (g := gName 1) (tt := tYes) (te := tCall (spX K itemD) [] E0 (tCons (tVar 1) tNil)) rfl scIl.nd (pi_list (pv 0)) (blkOk_by (own := [("item", 1)]) (N := ["value", "item"]) (sc := defScope sIsItemList) (by decide +kernel))
            (fun _ _ _ _ _ => pg_name (i := 1) scIl.nd rfl (.inl rfl)) (fun _ _ _ _ _ => pts_nil) (fun _ _ _ _ _ => pe_has G hr (pa_cons (pv 1) pa_nil))) pa_nil))
          (pe_one (pe_cmpR op_eq (pe_lenS rfl (by rfl) B.len (by rfl) ms (pv 0)) (pe_callB call_len_seq (by rfl) B.len PySem.boot_len (pa_cons (pv 0) pa_nil)) (nomark _)))))), ?_⟩
      refine ⟨_, rfl, (by show 2 ≤ sizeLine; decide), fun t ht => ?_⟩
      have s1 : Same H (upd H t (.tup [.ty "list", .ty "tuple"])) := Same.new ht
      have hd1 := DpX.same s1 _ _ hd
      refine ⟨_, t, _, .type (tyD d), _, isLst d || isTup d, rfl, upd_same, .cons (.ty _) (.cons (.ty _) .nil), hd1.ty, kit_lt _, _, rfl, ?_⟩
      generalize upd H t (.tup [.ty "list", .ty "tuple"]) = H1 at s1 hd1
      have nl : ∀ {e : PyData}, (∀ ds, e ≠ .list ds ∧ e ≠ .tuple ds) → ¬ IsIL e := fun q z => by
        obtain ⟨zs, e1, _⟩ := z
        rcases e1 with r | r
        · exact (q _).1 r
        · exact (q _).2 r
      cases hd with
      | non => exact iteT (iteT (no (nl fun ds => ⟨fun z => (by cases z), fun z => (by cases z)⟩) H1 s1))
      | bl b => exact iteT (iteT (no (nl fun ds => ⟨fun z => (by cases z), fun z => (by cases z)⟩) H1 s1))
      | int i => exact iteT (iteT (no (nl fun ds => ⟨fun z => (by cases z), fun z => (by cases z)⟩) H1 s1))
      | str z => exact iteT (iteT (no (nl fun ds => ⟨fun z => (by cases z), fun z => (by cases z)⟩) H1 s1))
      | emp _ => exact iteT (iteT (no (nl fun ds => ⟨fun z => (by cases z), fun z => (by cases z)⟩) H1 s1))
      | tup _ _ => cases nt
      | @lst a vs ds hS hV =>
        have lv : vs.length = ds.length := hV.len
        have ll := l100 ds (.inl rfl)
        obtain ⟨oks, _⟩ := ok.list
        refine iteF ⟨_, rfl, a, _, rfl, .inl (Same.seq s1 hS), _, 50, rfl, rfl, _, rfl, ?_⟩
        refine iteB' (fun e => ?_) (fun e => ?_)
        · have := of_decide_eq_true e
          refine no (fun z => ?_) H1 s1
          obtain ⟨zs, e1, e2, _⟩ := z
          rcases e1 with r | r
          · have q := congrArg (fun d => match d with | PyData.list l => l.length | _ => 0) r
            simp only [List.length_map] at q
            omega
          · cases r
        have l9 : ds.length ≤ 50 := by have := of_decide_eq_false e; omega
        refine ⟨_, rfl, a, rfl, ⟨_, Same.seq s1 hS⟩, fun D hD => lc_list (K := K) (a := a) (xs := vs) (fun j H2 => H2 D = some (.lst (((ds.take j).map itemD).map V.bl)) ∧ Same H1 H2) ⟨upd_same, Same.new hD⟩ (fun _ _ _ q => Same.seq (s1.trans q.2) hS) ?_ ?_⟩
        · rintro j x H2 hj ⟨h2, s2⟩
          obtain ⟨dj, hdj, hx⟩ := hV.at hj
          refine ⟨rfl, yes_in ⟨_, rfl, x, dj, rfl, DpX.same (s1.trans s2) _ _ hx, oks dj (List.mem_of_getElem? hdj), fun H3 s3 => ⟨_, s3 _ _ h2, ?_, ?_, Same.free2 (s2.trans s3) hD⟩⟩⟩
          · rw [List.length_map, List.length_map, List.length_take]
            exact small1000 (by omega)
          · rw [upd_same, List.take_add_one, hdj, List.map_append, List.map_append]
            rfl
        rintro H2 ⟨h2, s2⟩
        rw [lv, List.take_length] at h2
        obtain ⟨b, eb, kF, kT⟩ := fin rfl (.inl rfl) (.inl hS) hV l9 (s1.trans s2)
        refine ⟨D, _, rfl, .of h2, _, rfl, ?_⟩
        refine iteB' (fun e => ?_) (fun e => ?_)
        · obtain ⟨zs, ev2, lz, kk⟩ := kT (eb.symm.trans e)
          refine ⟨_, rfl, a, zs, rfl, .inl (by rw [← ev2]; exact Same.seq (s1.trans s2) hS), lz, _, rfl, a, _, rfl, .inl (Same.seq (s1.trans s2) hS), rfl, ?_⟩
          refine kk _ ?_
          by_cases z : dn zs = vs.length
          · rw [decide_eq_true z, decide_eq_true (by rw [z])]
          · rw [decide_eq_false z]
            exact decide_eq_false (fun q => z (Int.ofNat.inj (V.int.inj q)))
        · exact kF (eb.symm.trans e)
/-- the way out of the checks -/
def bad (C : Addr) (H : Hp) (v : V) (E : XK) : Prop := ∀ (dd : Addr) (H' : Hp), Same H H' → H dd = none → H' dd = some (.xd [("value", v)]) → E (.ref C) (some dd) H'
theorem bad.go {C : Addr} {H H1 : Hp} {v : V} {E : XK} (h : bad C H v E) (s : Same H H1) : bad C H1 v E := fun dd H' s' n e => h dd H' (s.trans s') (s.free n) e
theorem scCi : FnScope ["items"] ["items"] (defScope sCheckItems) := ⟨rfl, rfl, rfl, by decide +kernel, rfl, by decide +kernel, by decide +kernel⟩
def spCi (K : PySem.W.Frag) : Sp := fun xs H Q _ => ∃ (v : V) (d : PyData), xs = [v] ∧ DpX K H v d ∧ OkD d ∧ (∀ ds, d = .list ds ∨ d = .tuple ds → ds.length ≤ 100) ∧ IsIL d ∧ ∀ H', Same H H' → Q .non H'
theorem has_ci (D : Def K mg "check_items" sCheckItems) (G : Has P w K mg base "is_item_list" 2 ["value"] [] (spIL K)) : Has P w K mg base "check_items" 3 ["items"] [] (spCi K) := by
  refine has_of D scCi (fun _ _ _ _ _ _ us hl => match us, hl with | [_], _ => rfl) (fun xs H Q E h => ?_) (fun f cv A out s H xs Q E hr h => ?_)
  · obtain ⟨v, d, rfl, _⟩ := h
    rfl
  · obtain ⟨v, d, rfl, hd, ok, l100, yes, k⟩ := h
    refine ⟨_, pss_one (ps_if (pt_not (pt_val (pe_has G hr (pa_cons (pv 0) pa_nil)))) pss_never pss_nil), ?_⟩
    refine ⟨_, rfl, v, d, rfl, hd, ok, l100, fun b H1 hb s1 => ⟨b, rfl, ?_⟩⟩
    rw [hb.mpr yes]
    exact iteF (k H1 s1)
def spCiX (K : PySem.W.Frag) (C : Addr) : Sp := fun xs H Q E => ∃ (v : V) (d : PyData), xs = [v] ∧ DpX K H v d ∧ OkD d ∧ (∀ ds, d = .list ds ∨ d = .tuple ds → ds.length ≤ 100) ∧ ¬ IsIL d ∧ bad C H v E
theorem hasX_ci {C : Addr} (D : Def K mg "check_items" sCheckItems) (G : Has P w K mg base "is_item_list" 2 ["value"] [] (spIL K)) (T : XcC P w K mg base "InvalidItems" "value" C) : HasX P w K mg base "check_items" 3 ["items"] [] (spCiX K C) := by
  refine hasX_of D scCi (fun _ _ _ _ _ _ us hl => match us, hl with | [_], _ => rfl) (fun xs H Q E h => ?_) (fun f cv A out s H xs Q E hr h => ?_)
  · obtain ⟨v, d, rfl, _⟩ := h
    rfl
  · obtain ⟨v, d, rfl, hd, ok, l100, nope, kN⟩ := h
    refine ⟨_, pss_one (ps_if (pt_not (pt_val (pe_has G hr (pa_cons (pv 0) pa_nil)))) (pss_one (ps_raiseX rfl T hr tkX (pa_cons (pv 0) pa_nil))) pss_nil), ?_⟩
    refine ⟨_, rfl, v, d, rfl, hd, ok, l100, fun b H1 hb s1 => ⟨b, rfl, ?_⟩⟩
    cases b with
    | true => exact absurd (hb.mp rfl) nope
    | false =>
      refine iteT ⟨_, rfl, mk_red fun dd hdd => ?_⟩
      exact kN dd _ (s1.trans (Same.new hdd)) (s1.free hdd) upd_same
end
end SE
namespace SE
open PySem PySem.Spec PyProof.Rows L2
/-- how many shortest sequences -/
def manyM (xs ys : List Str) (p : Int) (zs : List Str) : Int := if (∀ z ∈ xs ++ ys, z ∈ zs) then waysM xs ys p * ((zs.length ^ moreM xs ys p : Nat) : Int) else 0
theorem item_D {z : Str} (h : Item z) : itemD (.str z) = true := by
  have l1 := h.pos
  have l2 := h.most
  rw [itemD_str, decide_eq_true ⟨l1, l2⟩, Bool.true_and, List.all_eq_true]
  intro b mb
  obtain ⟨c, mc, rfl⟩ := List.mem_map.mp mb
  exact decide_eq_true (abc_has (h.low c mc))
theorem ways_small (xs ys : List Str) (p : Int) : 0 ≤ waysM xs ys p ∧ waysM xs ys p ≤ 2 := by
  unfold waysM
  split <;> decide
theorem dpx_str {K : PySem.W.Frag} {H : Hp} : ∀ zs : List Str, DpXs K H (zs.map V.str) (zs.map PyData.str)
  | [] => .nil
  | z :: zs => .cons (.str z) (dpx_str zs)
section
variable {P : Program} {w : World} {K : PySem.W.Frag} {mg : Str → Option Value} {base : Heap} {C : Addr}
/-- distinct items in a list or tuple -/
structure ILs (K : PySem.W.Frag) (H : Hp) (a : Addr) (zs : List Str) : Prop where
  at_ : SqL K H a (zs.map V.str) ∨ SqT K H a (zs.map V.str)
  len : zs.length ≤ 50
  nd : zs.Nodup
  it : ∀ z ∈ zs, Item z
theorem ILs.same {H H' : Hp} {a : Addr} {zs : List Str} (h : ILs K H a zs) (s : Same H H') : ILs K H' a zs := ⟨h.at_.imp (Same.seq s) (Same.tup s), h.len, h.nd, h.it⟩
theorem ILs.data {H : Hp} {a : Addr} {zs : List Str} (h : ILs K H a zs) : ∃ d, DpX K H (.ref a) d ∧ OkD d ∧ (∀ ds, d = .list ds ∨ d = .tuple ds → ds.length ≤ 100) ∧ IsIL d := by
  have l := h.len
  have nx : ∀ e ∈ zs.map PyData.str, NX 10 100 e := fun e me => by
    obtain ⟨z, mz, rfl⟩ := List.mem_map.mp me
    exact ((h.it z mz).nice.mono (by decide) (by decide)).nx
  have il : ∀ z ∈ zs, itemD (.str z) = true := fun z m => item_D (h.it z m)
  rcases h.at_ with q | q
  · refine ⟨.list (zs.map .str), .lst q (dpx_str zs), (nx_list nx).mono (by decide) (by rw [List.length_map]; omega), fun ds e => ?_, zs, .inl rfl, l, h.nd, il⟩
    rcases e with e | e
    · cases e
      rw [List.length_map]
      omega
    · cases e
  · refine ⟨.tuple (zs.map .str), .tup q (dpx_str zs), (nx_tuple nx).mono (by decide) (by rw [List.length_map]; omega), fun ds e => ?_, zs, .inr rfl, l, h.nd, il⟩
    rcases e with e | e
    · cases e
    · cases e
      rw [List.length_map]
      omega
def spSm (K : PySem.W.Frag) (C : Addr) : Sp := fun vs H Q _ => ∃ (e a : Addr) (zs : List Str), vs = [.ref e, .ref a] ∧ ILs K H a zs ∧
  ((∃ xs ys p, EffAt K C H e xs ys p ∧ xs.length ≤ 1000 ∧ ys.length ≤ 1000 ∧ lp xs ys ≤ p ∧ p - lp xs ys ≤ 1000 ∧ ∀ H', Same H H' → Q (.int (manyM xs ys p zs)) H') ∨ (NevAt C H e ∧ ∀ H', Same H H' → Q (.int ((zs.length : Int) * ((zs.length : Int) - 1))) H'))
abbrev nSm : List Str := ["effect", "items", "item"]
theorem scSm : FnScope nSm ["effect", "items"] (defScope sShortestMany) := ⟨rfl, rfl, rfl, by decide +kernel, rfl, by decide +kernel, by decide +kernel⟩
theorem has_sm (D : Def K mg "shortest_many" sShortestMany) (T : EC K mg C) (GP : PropHas P w K mg base C "pops" 1 (spPops K C)) (GU : PropHas P w K mg base C "pushes" 1 (spPush K C)) (GN : PropHas P w K mg base C "is_never" 1 (spIsNev K C))
    (GC : Has P w K mg base "check_items" 3 ["items"] [] (spCi K)) (GW : Has P w K mg base "ways_many" 3 ["effect"] [] (spWy K C)) (GPw : Has P w K mg base "power" 1 ["base", "exponent"] [] spPow) (GS : Has P w K mg base "surplus" 3 ["effect"] [] (spSur K C)) (B : Blt mg) :
    Has P w K mg base "shortest_many" 4 ["effect", "items"] [] (spSm K C) := by
  refine has_of D scSm (fun _ _ _ _ _ _ us hl => match us, hl with | [_, _], _ => rfl) (fun xs H Q E h => ?_) (fun f cv A out s H xs Q E hr h => ?_)
  · obtain ⟨e, a, zs, rfl, _⟩ := h
    rfl
  · obtain ⟨e, a, zs, rfl, hz, h⟩ := h
    have hr1 : Room 1 _ := hr.mono (by decide)
    have hr2 : Room 2 _ := hr.mono (by decide)
    refine ⟨_, pss_cons (ps_expr (pe_has GC hr (pa_cons (pv 1) pa_nil)))
      (pss_cons (ps_if (pt_val (pe_propH GN (pv 0) T.cl hr2)) (pss_one (ps_ret (pe_op op_mul (pe_callB call_len_seq (by rfl) B.len PySem.boot_len (pa_cons (pv 1) pa_nil)) (pe_op op_sub (pe_callB call_len_seq (by rfl) B.len PySem.boot_len (pa_cons (pv 1) pa_nil)) pe_int)))) pss_nil)
      (pss_cons (ps_if (pt_not (pt_val (pe_callB (cr_all rfl) (by rfl) B.all (by decide +kernel) (pa_cons
          (pe_lc (own := [("item", 2)]) (g := gName 2) (tt := tYes) (te := tOp (rIn K false) (tVar 2) (tVar 1)) rfl scSm.nd (pi_tup (pe_op op_catS (pe_propH GP (pv 0) T.cl hr2) (pe_propH GU (pv 0) T.cl hr2))) (blkOk_by (own := [("item", 2)]) (N := nSm) (sc := defScope sShortestMany) (by decide +kernel))
            (fun _ _ _ _ _ => pg_name (i := 2) scSm.nd rfl (.inl rfl)) (fun _ _ _ _ _ => pts_nil) (fun _ _ _ _ _ => pe_cmpR op_in_seq (pv 2) (pv 1) (by rfl))) pa_nil)))) (pss_one (ps_ret pe_int)) pss_nil)
      (pss_one (ps_ret (pe_op op_mulG (pe_has GW hr (pa_cons (pv 0) pa_nil)) (pe_has GPw hr1 (pa_cons (pe_callB call_len_seq (by rfl) B.len PySem.boot_len (pa_cons (pv 1) pa_nil)) (pa_cons (pe_has GS hr (pa_cons (pv 0) pa_nil)) pa_nil)))))))), ?_⟩
    obtain ⟨d, hd, ok, l100, yes⟩ := hz.data
    refine ⟨_, rfl, .ref a, d, rfl, hd, ok, l100, yes, fun H1 s1 => ?_⟩
    have hz1 := hz.same s1
    have hat := hz1.at_
    have l50 := hz.len
    rcases h with ⟨xs, ys, p, he, l1, l2, h0, h9, k⟩ | ⟨hn, k⟩
    rotate_left
    · have hn1 := hn.same s1
      obtain ⟨dx, h1⟩ := hn1.ex
      refine ⟨_, rfl, e, dx, _, rfl, h1, e, rfl, .inr ⟨hn1, true, rfl, iteT ?_⟩⟩
      rw [← List.length_map (f := V.str) (as := zs)] at k
      refine ⟨_, rfl, a, _, rfl, hat.symm.symm, _, rfl, a, _, rfl, hat, _, 1, rfl, rfl, _, _, rfl, rfl, .inl ?_, k H1 s1⟩
      rw [List.length_map]
      omega
    have he1 := he.same s1
    obtain ⟨dx, u0, v0, h1, _, _⟩ := he1.ex
    refine ⟨_, rfl, e, dx, _, rfl, h1, e, rfl, .inl ⟨xs, ys, p, he1, false, rfl, iteF ?_⟩⟩
    refine ⟨_, rfl, e, dx, _, rfl, h1, e, xs, ys, p, rfl, he1, fun u hu => ⟨_, rfl, e, dx, _, rfl, h1, e, xs, ys, p, rfl, he1, fun v hv => ⟨u, v, _, _, rfl, rfl, hu, hv, ?_, fun c H2 s2 hc => ?_⟩⟩⟩
    · rw [List.length_map, List.length_map, sizeLine_eq]
      omega
    rw [← List.map_append] at hc
    have lxy : (xs ++ ys).length ≤ 2000 := by rw [List.length_append]; omega
    refine ⟨c, rfl, ⟨_, hc⟩, fun D hD => lc_tup (K := K) (a := c) (xs := (xs ++ ys).map V.str) (fun j H3 => H3 D = some (.lst ((((xs ++ ys).take j).map fun z => decide (z ∈ zs)).map V.bl)) ∧ Same H2 H3) ⟨upd_same, Same.new hD⟩ (fun _ _ _ q => Same.tup q.2 hc) ?_ ?_⟩
    · rintro j x H3 hx ⟨h3, s3⟩
      rw [List.getElem?_map] at hx
      cases hq : (xs ++ ys)[j]? with
      | none =>
        rw [hq] at hx
        cases hx
      | some z =>
        rw [hq] at hx
        cases hx
        refine ⟨rfl, yes_in ⟨_, rfl, _, rfl, a, _, rfl, (hz1.same (s2.trans s3)).at_, rfl, flat_strs zs, _, h3, ?_, ?_, Same.free2 s3 hD⟩⟩
        · rw [List.length_map, List.length_map, List.length_take, sizeLine_eq]
          omega
        · rw [upd_same, List.take_add_one, hq, List.map_append, List.map_append, if_neg Bool.false_ne_true, inV_str]
          rfl
    rintro H3 ⟨h3, s3⟩
    rw [List.length_map, List.take_length] at h3
    have s13 := (s1.trans s2).trans s3
    have he3 := he.same s13
    have hat3 := (hz.same s13).at_
    refine ⟨D, _, rfl, .of h3, _, rfl, ?_⟩
    have em : ((moreM xs ys p : Nat) : Int) = p - lp xs ys := by unfold moreM; omega
    by_cases c : ∀ z ∈ xs ++ ys, z ∈ zs
    rotate_left
    · have e0 : (((xs ++ ys).map fun z => decide (z ∈ zs)).all id) = false := by
        rw [Bool.eq_false_iff]
        intro q
        rw [List.all_eq_true] at q
        exact c fun z m => of_decide_eq_true (q _ (List.mem_map.mpr ⟨z, m, rfl⟩))
      rw [e0]
      refine iteT ?_
      have e1 : manyM xs ys p zs = 0 := by unfold manyM; rw [if_neg c]
      rw [e1] at k
      exact k H3 s13
    have e0 : (((xs ++ ys).map fun z => decide (z ∈ zs)).all id) = true := by
      rw [List.all_eq_true]
      intro b mb
      obtain ⟨z, mz, rfl⟩ := List.mem_map.mp mb
      exact decide_eq_true (c z mz)
    rw [e0]
    refine iteF ?_
    have e1 : manyM xs ys p zs = waysM xs ys p * ((zs.length ^ moreM xs ys p : Nat) : Int) := by unfold manyM; rw [if_pos c]
    rw [e1] at k
    refine ⟨_, rfl, e, xs, ys, p, rfl, he3, ?_⟩
    refine ⟨_, rfl, a, _, rfl, hat3, _, rfl, e, xs, ys, p, rfl, he3, zs.length, moreM xs ys p, (by rw [em, List.length_map]; rfl), by omega, by omega, fun H4 s4 => ?_⟩
    have w := ways_small xs ys p
    refine ⟨_, _, rfl, rfl, ⟨small_big (by omega), ?_⟩, k H4 (s13.trans s4)⟩
    rw [Int.natAbs_natCast]
    exact pow_big (by omega) (by omega)
def spSmX (K : PySem.W.Frag) (C : Addr) : Sp := fun xs H Q E => ∃ (u v : V) (d : PyData), xs = [u, v] ∧ DpX K H v d ∧ OkD d ∧ (∀ ds, d = .list ds ∨ d = .tuple ds → ds.length ≤ 100) ∧ ¬ IsIL d ∧ bad C H v E
theorem hasX_sm {X : Addr} (D : Def K mg "shortest_many" sShortestMany) (GC : HasX P w K mg base "check_items" 3 ["items"] [] (spCiX K X)) : HasX P w K mg base "shortest_many" 4 ["effect", "items"] [] (spSmX K X) := by
  refine hasX_of D scSm (fun _ _ _ _ _ _ us hl => match us, hl with | [_, _], _ => rfl) (fun xs H Q E h => ?_) (fun f cv A out s H xs Q E hr h => ?_)
  · obtain ⟨u, v, d, rfl, _⟩ := h
    rfl
  · obtain ⟨u, v, d, rfl, hd, ok, l100, nope, kN⟩ := h
    refine ⟨_, pss_cons (ps_expr (pe_hasX GC hr tkX (pa_cons (pv 1) pa_nil))) pss_never, ?_⟩
    exact ⟨_, rfl, v, d, rfl, hd, ok, l100, nope, kN⟩
end
end SE
namespace SE
open PySem PySem.Spec PyProof.Rows L2
/-! ### heaps without some objects -/
def hid (S : List Addr) (H : Hp) : Hp := fun b => if b ∈ S then none else H b
theorem hid_ne {S : List Addr} {b : Addr} {H : Hp} (h : b ∉ S) : hid S H b = H b := if_neg h
theorem hid_out (S : List Addr) (H : Hp) : Same (hid S H) H := fun b o h => by
  unfold hid at h
  by_cases c : b ∈ S
  · rw [if_pos c] at h
    cases h
  · rw [if_neg c] at h
    exact h
theorem hid_map {S T : List Addr} {H H' : Hp} (h : ∀ b o, b ∉ S → H b = some o → b ∉ T ∧ H' b = some o) : Same (hid S H) (hid T H') := fun b o q => by
  unfold hid at q
  by_cases c : b ∈ S
  · rw [if_pos c] at q
    cases q
  · rw [if_neg c] at q
    obtain ⟨h1, h2⟩ := h b o c q
    rw [hid_ne h1]
    exact h2
theorem hid_of {S : List Addr} {H H' : Hp} (h : Same H H') : Same (hid S H) (hid S H') := hid_map fun b o c q => ⟨c, h b o q⟩
theorem hid_but {S : List Addr} {p : Addr} {H H' : Hp} (h : But p H H') (hp : p ∈ S) : Same (hid S H) (hid S H') := hid_map fun b o c q => ⟨c, h b o (fun e => c (e ▸ hp)) q⟩
theorem hid_upd {S : List Addr} {D : Addr} {H : Hp} {o : HO} (hD : D ∈ S) : Same (hid S H) (hid S (upd H D o)) := hid_map fun b u c q => ⟨c, by
  have e : b ≠ D := fun e => c (by rw [e]; exact hD)
  rw [upd_ne e]
  exact q⟩
/-- what H does not know may be hidden too -/
theorem hid_free {S : List Addr} {D : Addr} {H : Hp} (hD : H D = none) : Same (hid S H) (hid (D :: S) H) := hid_map fun b o c q => ⟨fun m => by
  rcases List.mem_cons.mp m with e | m
  · rw [e, hD] at q
    cases q
  · exact c m, q⟩
theorem hid_less {S : List Addr} {D : Addr} {H : Hp} : Same (hid (D :: S) H) (hid S H) := hid_map fun b o c q => ⟨fun m => c (List.mem_cons_of_mem _ m), q⟩
theorem Same.but3 {H H3 H4 : Hp} {p : Addr} (s : Same H H3) (hp : H p = none) (b : But p H3 H4) : Same H H4 := fun c o e => b c o (ne_of_none e hp) (s c o e)
theorem SqT.same3 {K : PySem.W.Frag} {H H' : Hp} {u p : Addr} {xs : List V} (h : SqT K H u xs) (hp : Pool H p) (b : But p H H') : SqT K H' u xs := by
  rcases h with (h | ⟨o, h⟩) | h
  · exact .inl (.inl (b _ _ (fun e => by obtain ⟨m, s, q, _⟩ := hp.ex; rw [e, q] at h; cases h) h))
  · exact .inl (.inr ⟨o, b _ _ (fun e => by obtain ⟨m, s, q, _⟩ := hp.ex; rw [e, q] at h; cases h) h⟩)
  · exact .inr h
theorem ixN_nat {n j : Nat} (h : j < n) : ixN n (j : Int) = some j := by
  unfold ixN
  rw [if_pos (by omega), if_pos (by omega), Int.toNat_natCast]
def LstAll (S : List Addr) (H : Hp) : Prop := ∀ b ∈ S, ∃ us, H b = some (.lst us)
theorem LstAll.nil {H : Hp} : LstAll [] H := fun _ m => by cases m
theorem LstAll.cons {S : List Addr} {D : Addr} {us : List V} {H : Hp} (h : LstAll S H) (hD : H D = some (.lst us)) : LstAll (D :: S) H := fun b m => by
  rcases List.mem_cons.mp m with e | m
  · exact ⟨us, e ▸ hD⟩
  · exact h b m
theorem LstAll.pool {H : Hp} {p : Addr} (h : Pool H p) : LstAll [p] H := by
  obtain ⟨m, s, e, _⟩ := h.ex
  exact LstAll.nil.cons e
theorem hid_at {S : List Addr} {H : Hp} {b : Addr} {o : HO} (h : LstAll S H) (hb : H b = some o) (n : ∀ us, o ≠ .lst us) : hid S H b = some o := by
  rw [hid_ne fun m => ?_]
  · exact hb
  · obtain ⟨us, e⟩ := h b m
    rw [e] at hb
    cases hb
    exact n us rfl
theorem hid_tup {K : PySem.W.Frag} {S : List Addr} {H : Hp} {a : Addr} {xs : List V} (h : LstAll S H) (ha : SqT K H a xs) : SqT K (hid S H) a xs := by
  rcases ha with (h1 | ⟨o, h1⟩) | h1
  · exact .inl (.inl (hid_at h h1 fun us e => by cases e))
  · exact .inl (.inr ⟨o, hid_at h h1 fun us e => by cases e⟩)
  · exact .inr h1
theorem hid_steps {S : List Addr} {H : Hp} {us : List V} {ss : List Stp} (h : LstAll S H) (hs : StepsH H us ss) : StepsH (hid S H) us ss := Paired.mapP hs fun _ _ q => by
  obtain ⟨t, e, z⟩ := q
  exact ⟨t, e, hid_at h z fun us e => by cases e⟩
section
variable {K : PySem.W.Frag} {C : Addr} {S : List Addr} {H : Hp}
theorem hid_eff {e : Addr} (h : LstAll S H) : ∀ {o : Eff}, EffV K C H e o → EffV K C (hid S H) e o
  | none, q => by
    obtain ⟨dx, h1⟩ := NevAt.ex q
    exact ⟨dx, hid_at h h1 fun us e => by cases e⟩
  | some (_, _, _), q => by
    obtain ⟨dx, u, v, h1, h2, h3⟩ := EffAt.ex q
    exact ⟨dx, u, v, hid_at h h1 fun us e => (by cases e), hid_tup h h2, hid_tup h h3⟩
end
end SE
/-! All short sequences over one item or two, by their effects: counted once and for all. -/
namespace SE
section
variable {α : Type} [DecidableEq α]
abbrev PrG (α : Type) := List α × List α × Int
def compG (A B : PrG α) : Option (PrG α) :=
  if A.2.1.take (min A.2.1.length B.1.length) = B.1.take (min A.2.1.length B.1.length) then
    some (A.1 ++ B.1.drop (min A.2.1.length B.1.length), B.2.1 ++ A.2.1.drop (min A.2.1.length B.1.length), if (A.2.1.length : Int) - (A.1.length : Int) + B.2.2 > A.2.2 then (A.2.1.length : Int) - (A.1.length : Int) + B.2.2 else A.2.2)
  else none
def joinG : PrG α → List (PrG α) → Option (PrG α)
  | A, [] => some A
  | A, B :: r => match compG A B with
    | none => none
    | some D => joinG D r
def partG (s : Bool × α) : PrG α := if s.1 = true then ([], [s.2], 1) else ([s.2], [], 0)
def effG (ss : List (Bool × α)) : Option (PrG α) := joinG ([], [], 0) (ss.map partG)
end
def laterG {α : Type} (zs : List α) (last : List (List (Bool × α))) : List (List (Bool × α)) := zs.flatMap fun z => last.map (· ++ [(true, z)]) ++ last.map (· ++ [(false, z)])
def seqG {α : Type} (zs : List α) : Nat → List (List (Bool × α))
  | 0 => [[]]
  | L + 1 => laterG zs (seqG zs L)
def enc : List Bool → Nat
  | [] => 1
  | b :: r => 2 * enc r + b.toNat
def lpG {α : Type} (xs ys : List α) : Int := if (ys.length : Int) - (xs.length : Int) > 0 then (ys.length : Int) - (xs.length : Int) else 0
/-- the least length, the number of sequences of this length, a code -/
def flG {α : Type} : Option (PrG α) → Nat
  | none => 2
  | some (xs, ys, p) => xs.length + ys.length + 2 * (p - lpG xs ys).toNat
def mnG {α : Type} (k : Nat) : Option (PrG α) → Nat
  | none => k * (k - 1)
  | some (xs, ys, p) => (if ((ys.length : Int) - (xs.length : Int) = 0 ∧ p > 0) ∧ xs.length > 0 then 2 else 1) * k ^ (p - lpG xs ys).toNat
def cdN : Option (PrG Bool) → Nat
  | none => 0
  | some (xs, ys, p) => 1 + enc xs + 256 * enc ys + 65536 * p.toNat
def pkN (k : Nat) (e : Option (PrG Bool)) : Nat := (cdN e * 16 + flG e) * 16 + mnG k e
def bdN : Option (PrG Bool) → Bool
  | none => true
  | some (xs, ys, p) => Nat.ble xs.length 7 && (Nat.ble ys.length 7 && (decide (0 ≤ p) && (decide (p ≤ 7) && decide (lpG xs ys ≤ p))))
def onN : Option (PrG Bool) → Bool
  | none => false
  | some (xs, ys, _) => (xs ++ ys).all fun b => !b
def okN (k L : Nat) (e : Option (PrG Bool)) : Bool := bdN e && (pkN k e / 256 == cdN e && (pkN k e / 16 % 16 == flG e && (pkN k e % 16 == mnG k e && Nat.ble (flG e) L && (!(k == 1) || onN e))))

def tb10 : List Nat := [66049]
def dm10 : List Nat := [66049]
def tb11 : List Nat := [16908817, 66321]
def dm11 : List Nat := [16908817, 66321]
def tb12 : List Nat := [33817121, 131873, 16843297, 66849]
def dm12 : List Nat := [33817121, 131873, 16843297, 66849]
def tb13 : List Nat := [50856497, 17040177, 16908817, 132401, 33686065, 66321, 16843569, 67889]
def dm13 : List Nat := [50856497, 17040177, 132401, 33686065, 16843569, 67889]
def tb14 : List Nat := [68158017, 34079553, 33817121, 263489, 33817121, 131873, 16909122, 133441, 50594369, 16909122, 16843297, 66849, 33620545, 66849, 16844097, 69953]
def dm14 : List Nat := [68158017, 34079553, 263489, 16909122, 133441, 50594369, 33620545, 16844097, 69953]
def tb15 : List Nat := [85983825, 51381073, 50856497, 17302865, 50856497, 17040177, 17040177, 264529, 50856497, 17040177, 16908817, 132401, 33686065, 132401, 16909649, 135505, 67633745, 33817425, 33686065, 132401, 33686065, 66321, 16843569, 67889, 50463313, 16843569, 16843569, 67889, 33620817, 67889, 16845137, 74065]
def dm15 : List Nat := [85983825, 51381073, 17302865, 264529, 16909649, 135505, 67633745, 33817425, 50463313, 33620817, 16845137, 74065]
def tb16 : List Nat := [104858209, 69206881, 68158017, 34604385, 68158017, 34079553, 34079553, 526689, 68158017, 34079553, 33817121, 263489, 33817121, 263489, 17040738, 266593, 68158017, 34079553, 33817121, 263489, 33817121, 131873, 16909122, 133441, 50594369, 16909122, 16909122, 133441, 33686370, 133441, 16910689, 139617, 84935265, 50856801, 50594369, 17040738, 50594369, 16909122, 16909122, 133441, 50594369, 16909122, 16843297, 66849, 33620545, 66849, 16844097, 69953, 67371617, 33686370, 33620545, 66849, 33620545, 66849, 16844097, 69953, 50397793, 16844097, 16844097, 69953, 33621345, 69953, 16847201, 82273]
def dm16 : List Nat := [104858209, 69206881, 34604385, 526689, 17040738, 266593, 33686370, 16910689, 139617, 84935265, 50856801, 67371617, 50397793, 33621345, 16847201, 82273]
def tb17 : List Nat := [125829745, 88081265, 85983825, 52430193, 85983825, 51381073, 51381073, 17828209, 85983825, 51381073, 50856497, 17302865, 50856497, 17302865, 17302865, 528753, 85983825, 51381073, 50856497, 17302865, 50856497, 17040177, 17040177, 264529, 50856497, 17040177, 17040177, 264529, 33817425, 264529, 17041777, 270705, 85983825, 51381073, 50856497, 17302865, 50856497, 17040177, 17040177, 264529, 50856497, 17040177, 16908817, 132401, 33686065, 132401, 16909649, 135505, 67633745, 33817425, 33686065, 132401, 33686065, 132401, 16909649, 135505, 50463313, 16909649, 16909649, 135505, 33686897, 135505, 16912753, 147825, 102761073, 68158321, 67633745, 34080113, 67633745, 33817425, 33817425, 264529, 67633745, 33817425, 33686065, 132401, 33686065, 132401, 16909649, 135505, 67633745, 33817425, 33686065, 132401, 33686065, 66321, 16843569, 67889, 50463313, 16843569, 16843569, 67889, 33620817, 67889, 16845137, 74065, 84410993, 50594673, 50463313, 16909649, 50463313, 16843569, 16843569, 67889, 50463313, 16843569, 16843569, 67889, 33620817, 67889, 16845137, 74065, 67240561, 33620817, 33620817, 67889, 33620817, 67889, 16845137, 74065, 50398065, 16845137, 16845137, 74065, 33622385, 74065, 16851313, 98673]
def dm17 : List Nat := [125829745, 88081265, 52430193, 17828209, 528753, 17041777, 270705, 33686897, 16912753, 147825, 102761073, 68158321, 34080113, 84410993, 50594673, 67240561, 50398065, 33622385, 16851313, 98673]
def tb1 : Nat → List Nat
  | 0 => tb10
  | 1 => tb11
  | 2 => tb12
  | 3 => tb13
  | 4 => tb14
  | 5 => tb15
  | 6 => tb16
  | _ => tb17
def dm1 : Nat → List Nat
  | 0 => dm10
  | 1 => dm11
  | 2 => dm12
  | 3 => dm13
  | 4 => dm14
  | 5 => dm15
  | 6 => dm16
  | _ => dm17
theorem ta10 : (seqG [false] 0).map (fun s => pkN 1 (effG s)) = tb10 := by decide +kernel
theorem to10 : ((seqG [false] 0).all fun s => okN 1 0 (effG s)) = true := by decide +kernel
theorem tc10 : ((dm10).all fun c => Nat.beq ((tb10).countP (Nat.beq c)) (c % 16) && Nat.blt 0 (c % 16)) = true := by decide +kernel
theorem td10 : ((tb10).all fun c => (dm1 (c / 16 % 16)).any (Nat.beq c)) = true := by decide +kernel
theorem ta11 : (seqG [false] 1).map (fun s => pkN 1 (effG s)) = tb11 := by decide +kernel
theorem to11 : ((seqG [false] 1).all fun s => okN 1 1 (effG s)) = true := by decide +kernel
theorem tc11 : ((dm11).all fun c => Nat.beq ((tb11).countP (Nat.beq c)) (c % 16) && Nat.blt 0 (c % 16)) = true := by decide +kernel
theorem td11 : ((tb11).all fun c => (dm1 (c / 16 % 16)).any (Nat.beq c)) = true := by decide +kernel
theorem ta12 : (seqG [false] 2).map (fun s => pkN 1 (effG s)) = tb12 := by decide +kernel
theorem to12 : ((seqG [false] 2).all fun s => okN 1 2 (effG s)) = true := by decide +kernel
theorem tc12 : ((dm12).all fun c => Nat.beq ((tb12).countP (Nat.beq c)) (c % 16) && Nat.blt 0 (c % 16)) = true := by decide +kernel
theorem td12 : ((tb12).all fun c => (dm1 (c / 16 % 16)).any (Nat.beq c)) = true := by decide +kernel
theorem ta13 : (seqG [false] 3).map (fun s => pkN 1 (effG s)) = tb13 := by decide +kernel
theorem to13 : ((seqG [false] 3).all fun s => okN 1 3 (effG s)) = true := by decide +kernel
theorem tc13 : ((dm13).all fun c => Nat.beq ((tb13).countP (Nat.beq c)) (c % 16) && Nat.blt 0 (c % 16)) = true := by decide +kernel
theorem td13 : ((tb13).all fun c => (dm1 (c / 16 % 16)).any (Nat.beq c)) = true := by decide +kernel
theorem ta14 : (seqG [false] 4).map (fun s => pkN 1 (effG s)) = tb14 := by decide +kernel
theorem to14 : ((seqG [false] 4).all fun s => okN 1 4 (effG s)) = true := by decide +kernel
theorem tc14 : ((dm14).all fun c => Nat.beq ((tb14).countP (Nat.beq c)) (c % 16) && Nat.blt 0 (c % 16)) = true := by decide +kernel
theorem td14 : ((tb14).all fun c => (dm1 (c / 16 % 16)).any (Nat.beq c)) = true := by decide +kernel
theorem ta15 : (seqG [false] 5).map (fun s => pkN 1 (effG s)) = tb15 := by decide +kernel
theorem to15 : ((seqG [false] 5).all fun s => okN 1 5 (effG s)) = true := by decide +kernel
theorem tc15 : ((dm15).all fun c => Nat.beq ((tb15).countP (Nat.beq c)) (c % 16) && Nat.blt 0 (c % 16)) = true := by decide +kernel
theorem td15 : ((tb15).all fun c => (dm1 (c / 16 % 16)).any (Nat.beq c)) = true := by decide +kernel
theorem ta16 : (seqG [false] 6).map (fun s => pkN 1 (effG s)) = tb16 := by decide +kernel
theorem to16 : ((seqG [false] 6).all fun s => okN 1 6 (effG s)) = true := by decide +kernel
theorem tc16 : ((dm16).all fun c => Nat.beq ((tb16).countP (Nat.beq c)) (c % 16) && Nat.blt 0 (c % 16)) = true := by decide +kernel
theorem td16 : ((tb16).all fun c => (dm1 (c / 16 % 16)).any (Nat.beq c)) = true := by decide +kernel
theorem ta17 : (seqG [false] 7).map (fun s => pkN 1 (effG s)) = tb17 := by decide +kernel
theorem to17 : ((seqG [false] 7).all fun s => okN 1 7 (effG s)) = true := by decide +kernel
theorem tc17 : ((dm17).all fun c => Nat.beq ((tb17).countP (Nat.beq c)) (c % 16) && Nat.blt 0 (c % 16)) = true := by decide +kernel
theorem td17 : ((tb17).all fun c => (dm1 (c / 16 % 16)).any (Nat.beq c)) = true := by decide +kernel
/-- what is computed, of one length -/
structure Cm1 (L : Nat) : Prop where
  a : (seqG [false] L).map (fun s => pkN 1 (effG s)) = tb1 L
  o : ((seqG [false] L).all fun s => okN 1 L (effG s)) = true
  c : ((dm1 L).all fun c => Nat.beq ((tb1 L).countP (Nat.beq c)) (c % 16) && Nat.blt 0 (c % 16)) = true
  d : ((tb1 L).all fun c => (dm1 (c / 16 % 16)).any (Nat.beq c)) = true
theorem cm1 : ∀ L, L ≤ 7 → Cm1 L
  | 0, _ => ⟨ta10, to10, tc10, td10⟩
  | 1, _ => ⟨ta11, to11, tc11, td11⟩
  | 2, _ => ⟨ta12, to12, tc12, td12⟩
  | 3, _ => ⟨ta13, to13, tc13, td13⟩
  | 4, _ => ⟨ta14, to14, tc14, td14⟩
  | 5, _ => ⟨ta15, to15, tc15, td15⟩
  | 6, _ => ⟨ta16, to16, tc16, td16⟩
  | 7, _ => ⟨ta17, to17, tc17, td17⟩
  | L + 8, h => absurd h (by omega)
def tb20 : List Nat := [66049]
def dm20 : List Nat := [66049]
def tb21 : List Nat := [16908817, 66321, 16974353, 66577]
def dm21 : List Nat := [16908817, 66321, 16974353, 66577]
def tb22 : List Nat := [33817121, 131873, 33948193, 132129, 16843298, 66849, 34, 67105, 33882657, 197409, 34013729, 197665, 34, 67361, 16843298, 67617]
def dm22 : List Nat := [33817121, 131873, 33948193, 132129, 16843298, 66849, 34, 67105, 33882657, 197409, 34013729, 197665, 67361, 67617]
def tb23 : List Nat := [50856497, 17040177, 51118641, 17040433, 16908817, 132401, 34, 132657, 50987569, 17171249, 51249713, 17171505, 34, 132913, 16908817, 133169, 33686066, 66321, 33751602, 66577, 16843570, 67889, 34, 68145, 34, 34, 34, 34, 34, 68401, 16843570, 68657, 50922033, 17105713, 51184177, 17105969, 16974353, 197937, 34, 198193, 51053105, 17236785, 51315249, 17237041, 34, 198449, 16974353, 198705, 34, 34, 34, 34, 16843826, 68913, 34, 69169, 33686066, 66321, 33751602, 66577, 34, 69425, 16843826, 69681]
def dm23 : List Nat := [50856497, 17040177, 51118641, 17040433, 132401, 132657, 50987569, 17171249, 51249713, 17171505, 132913, 133169, 33686066, 33751602, 16843570, 67889, 68145, 68401, 68657, 50922033, 17105713, 51184177, 17105969, 197937, 198193, 51053105, 17236785, 51315249, 17237041, 198449, 198705, 16843826, 68913, 69169, 69425, 69681]
def tb24 : List Nat := [68158017, 34079553, 68682305, 34079809, 33817121, 263489, 34, 263745, 68420161, 34341697, 68944449, 34341953, 34, 264001, 33817121, 264257, 33817121, 131873, 33948193, 132129, 16909124, 133441, 34, 133697, 34, 34, 34, 34, 34, 133953, 16909124, 134209, 68289089, 34210625, 68813377, 34210881, 33948193, 394561, 34, 394817, 68551233, 34472769, 69075521, 34473025, 34, 395073, 33948193, 395329, 34, 34, 34, 34, 16909380, 134465, 34, 134721, 33817121, 131873, 33948193, 132129, 34, 134977, 16909380, 135233, 50594370, 16909124, 50725442, 16909380, 16843298, 66849, 34, 67105, 50659906, 16974660, 50790978, 16974916, 34, 67361, 16843298, 67617, 33620548, 66849, 34, 67105, 16844098, 69953, 34, 70209, 34, 34, 34, 34, 34, 70465, 16844098, 70721, 34, 34, 34, 34, 34, 34, 34, 34, 34, 34, 34, 34, 34, 34, 34, 34, 34, 34, 34, 34, 16844354, 70977, 34, 71233, 33620548, 66849, 34, 67105, 34, 71489, 16844354, 71745, 68223553, 34145089, 68747841, 34145345, 33882657, 329025, 34, 329281, 68485697, 34407233, 69009985, 34407489, 34, 329537, 33882657, 329793, 33882657, 197409, 34013729, 197665, 16974660, 198977, 34, 199233, 34, 34, 34, 34, 34, 199489, 16974660, 199745, 68354625, 34276161, 68878913, 34276417, 34013729, 460097, 34, 460353, 68616769, 34538305, 69141057, 34538561, 34, 460609, 34013729, 460865, 34, 34, 34, 34, 16974916, 200001, 34, 200257, 33882657, 197409, 34013729, 197665, 34, 200513, 16974916, 200769, 34, 34, 34, 34, 34, 34, 34, 34, 34, 34, 34, 34, 34, 34, 34, 34, 34, 67361, 33620548, 67617, 16844610, 72001, 34, 72257, 34, 34, 34, 34, 34, 72513, 16844610, 72769, 50594370, 16909124, 50725442, 16909380, 16843298, 66849, 34, 67105, 50659906, 16974660, 50790978, 16974916, 34, 67361, 16843298, 67617, 34, 34, 34, 34, 16844866, 73025, 34, 73281, 34, 67361, 33620548, 67617, 34, 73537, 16844866, 73793]
def dm24 : List Nat := [68158017, 34079553, 68682305, 34079809, 263489, 263745, 68420161, 34341697, 68944449, 34341953, 264001, 264257, 16909124, 133441, 133697, 133953, 134209, 68289089, 34210625, 68813377, 34210881, 394561, 394817, 68551233, 34472769, 69075521, 34473025, 395073, 395329, 16909380, 134465, 134721, 134977, 135233, 50594370, 50725442, 50659906, 16974660, 50790978, 16974916, 33620548, 16844098, 69953, 70209, 70465, 70721, 16844354, 70977, 71233, 71489, 71745, 68223553, 34145089, 68747841, 34145345, 329025, 329281, 68485697, 34407233, 69009985, 34407489, 329537, 329793, 198977, 199233, 199489, 199745, 68354625, 34276161, 68878913, 34276417, 460097, 460353, 68616769, 34538305, 69141057, 34538561, 460609, 460865, 200001, 200257, 200513, 200769, 16844610, 72001, 72257, 72513, 72769, 16844866, 73025, 73281, 73537, 73793]
def tb25 : List Nat := [85983825, 51381073, 87032401, 51381329, 50856497, 17302865, 34, 17303121, 86508113, 51905361, 87556689, 51905617, 34, 17303377, 50856497, 17303633, 50856497, 17040177, 51118641, 17040433, 17040177, 264529, 34, 264785, 34, 34, 34, 34, 34, 265041, 17040177, 265297, 86245969, 51643217, 87294545, 51643473, 51118641, 17565009, 34, 17565265, 86770257, 52167505, 87818833, 52167761, 34, 17565521, 51118641, 17565777, 34, 34, 34, 34, 17040433, 265553, 34, 265809, 50856497, 17040177, 51118641, 17040433, 34, 266065, 17040433, 266321, 50856497, 17040177, 51118641, 17040433, 16908817, 132401, 34, 132657, 50987569, 17171249, 51249713, 17171505, 34, 132913, 16908817, 133169, 33686066, 132401, 34, 132657, 16909650, 135505, 34, 135761, 34, 34, 34, 34, 34, 136017, 16909650, 136273, 34, 34, 34, 34, 34, 34, 34, 34, 34, 34, 34, 34, 34, 34, 34, 34, 34, 34, 34, 34, 16909906, 136529, 34, 136785, 33686066, 132401, 34, 132657, 34, 137041, 16909906, 137297, 86114897, 51512145, 87163473, 51512401, 50987569, 17433937, 34, 17434193, 86639185, 52036433, 87687761, 52036689, 34, 17434449, 50987569, 17434705, 50987569, 17171249, 51249713, 17171505, 17171249, 395601, 34, 395857, 34, 34, 34, 34, 34, 396113, 17171249, 396369, 86377041, 51774289, 87425617, 51774545, 51249713, 17696081, 34, 17696337, 86901329, 52298577, 87949905, 52298833, 34, 17696593, 51249713, 17696849, 34, 34, 34, 34, 17171505, 396625, 34, 396881, 50987569, 17171249, 51249713, 17171505, 34, 397137, 17171505, 397393, 34, 34, 34, 34, 34, 34, 34, 34, 34, 34, 34, 34, 34, 34, 34, 34, 34, 132913, 33686066, 133169, 16910162, 137553, 34, 137809, 34, 34, 34, 34, 34, 138065, 16910162, 138321, 50856497, 17040177, 51118641, 17040433, 16908817, 132401, 34, 132657, 50987569, 17171249, 51249713, 17171505, 34, 132913, 16908817, 133169, 34, 34, 34, 34, 16910418, 138577, 34, 138833, 34, 132913, 33686066, 133169, 34, 139089, 16910418, 139345, 67633746, 33817426, 67895890, 33817682, 33686066, 132401, 34, 132657, 67764818, 33948498, 68026962, 33948754, 34, 132913, 33686066, 133169, 33686066, 66321, 33751602, 66577, 16843570, 67889, 34, 68145, 34, 34, 34, 34, 34, 68401, 16843570, 68657, 67699282, 33882962, 67961426, 33883218, 33751602, 197937, 34, 198193, 67830354, 34014034, 68092498, 34014290, 34, 198449, 33751602, 198705, 34, 34, 34, 34, 16843826, 68913, 34, 69169, 33686066, 66321, 33751602, 66577, 34, 69425, 16843826, 69681, 50463316, 16843570, 50528852, 16843826, 16843570, 67889, 34, 68145, 34, 34, 34, 34, 34, 68401, 16843570, 68657, 33620820, 67889, 34, 68145, 16845138, 74065, 34, 74321, 34, 34, 34, 34, 34, 74577, 16845138, 74833, 34, 34, 34, 34, 34, 34, 34, 34, 34, 34, 34, 34, 34, 34, 34, 34, 34, 34, 34, 34, 16845394, 75089, 34, 75345, 33620820, 67889, 34, 68145, 34, 75601, 16845394, 75857, 34, 34, 34, 34, 34, 34, 34, 34, 34, 34, 34, 34, 34, 34, 34, 34, 34, 34, 34, 34, 34, 34, 34, 34, 34, 34, 34, 34, 34, 34, 34, 34, 34, 34, 34, 34, 34, 34, 34, 34, 34, 34, 34, 34, 34, 34, 34, 34, 34, 34, 34, 34, 34, 34, 34, 34, 34, 34, 34, 34, 34, 34, 34, 34, 34, 34, 34, 34, 34, 34, 34, 34, 34, 34, 34, 34, 34, 34, 34, 34, 34, 68401, 33620820, 68657, 16845650, 76113, 34, 76369, 34, 34, 34, 34, 34, 76625, 16845650, 76881, 50463316, 16843570, 50528852, 16843826, 16843570, 67889, 34, 68145, 34, 34, 34, 34, 34, 68401, 16843570, 68657, 34, 34, 34, 34, 16845906, 77137, 34, 77393, 34, 68401, 33620820, 68657, 34, 77649, 16845906, 77905, 86049361, 51446609, 87097937, 51446865, 50922033, 17368401, 34, 17368657, 86573649, 51970897, 87622225, 51971153, 34, 17368913, 50922033, 17369169, 50922033, 17105713, 51184177, 17105969, 17105713, 330065, 34, 330321, 34, 34, 34, 34, 34, 330577, 17105713, 330833, 86311505, 51708753, 87360081, 51709009, 51184177, 17630545, 34, 17630801, 86835793, 52233041, 87884369, 52233297, 34, 17631057, 51184177, 17631313, 34, 34, 34, 34, 17105969, 331089, 34, 331345, 50922033, 17105713, 51184177, 17105969, 34, 331601, 17105969, 331857, 50922033, 17105713, 51184177, 17105969, 16974353, 197937, 34, 198193, 51053105, 17236785, 51315249, 17237041, 34, 198449, 16974353, 198705, 33751602, 197937, 34, 198193, 16975186, 201041, 34, 201297, 34, 34, 34, 34, 34, 201553, 16975186, 201809, 34, 34, 34, 34, 34, 34, 34, 34, 34, 34, 34, 34, 34, 34, 34, 34, 34, 34, 34, 34, 16975442, 202065, 34, 202321, 33751602, 197937, 34, 198193, 34, 202577, 16975442, 202833, 86180433, 51577681, 87229009, 51577937, 51053105, 17499473, 34, 17499729, 86704721, 52101969, 87753297, 52102225, 34, 17499985, 51053105, 17500241, 51053105, 17236785, 51315249, 17237041, 17236785, 461137, 34, 461393, 34, 34, 34, 34, 34, 461649, 17236785, 461905, 86442577, 51839825, 87491153, 51840081, 51315249, 17761617, 34, 17761873, 86966865, 52364113, 88015441, 52364369, 34, 17762129, 51315249, 17762385, 34, 34, 34, 34, 17237041, 462161, 34, 462417, 51053105, 17236785, 51315249, 17237041, 34, 462673, 17237041, 462929, 34, 34, 34, 34, 34, 34, 34, 34, 34, 34, 34, 34, 34, 34, 34, 34, 34, 198449, 33751602, 198705, 16975698, 203089, 34, 203345, 34, 34, 34, 34, 34, 203601, 16975698, 203857, 50922033, 17105713, 51184177, 17105969, 16974353, 197937, 34, 198193, 51053105, 17236785, 51315249, 17237041, 34, 198449, 16974353, 198705, 34, 34, 34, 34, 16975954, 204113, 34, 204369, 34, 198449, 33751602, 198705, 34, 204625, 16975954, 204881, 34, 34, 34, 34, 34, 34, 34, 34, 34, 34, 34, 34, 34, 34, 34, 34, 34, 34, 34, 34, 34, 34, 34, 34, 34, 34, 34, 34, 34, 34, 34, 34, 34, 34, 34, 34, 34, 34, 34, 34, 34, 34, 34, 34, 34, 34, 34, 34, 34, 34, 34, 34, 34, 34, 34, 34, 34, 34, 34, 34, 34, 34, 34, 34, 34, 34, 34, 34, 16843826, 68913, 34, 69169, 50463316, 16843570, 50528852, 16843826, 34, 69425, 16843826, 69681, 33621076, 68913, 34, 69169, 16846162, 78161, 34, 78417, 34, 34, 34, 34, 34, 78673, 16846162, 78929, 34, 34, 34, 34, 34, 34, 34, 34, 34, 34, 34, 34, 34, 34, 34, 34, 34, 34, 34, 34, 16846418, 79185, 34, 79441, 33621076, 68913, 34, 69169, 34, 79697, 16846418, 79953, 67633746, 33817426, 67895890, 33817682, 33686066, 132401, 34, 132657, 67764818, 33948498, 68026962, 33948754, 34, 132913, 33686066, 133169, 33686066, 66321, 33751602, 66577, 16843570, 67889, 34, 68145, 34, 34, 34, 34, 34, 68401, 16843570, 68657, 67699282, 33882962, 67961426, 33883218, 33751602, 197937, 34, 198193, 67830354, 34014034, 68092498, 34014290, 34, 198449, 33751602, 198705, 34, 34, 34, 34, 16843826, 68913, 34, 69169, 33686066, 66321, 33751602, 66577, 34, 69425, 16843826, 69681, 34, 34, 34, 34, 34, 34, 34, 34, 34, 34, 34, 34, 34, 34, 34, 34, 34, 69425, 33621076, 69681, 16846674, 80209, 34, 80465, 34, 34, 34, 34, 34, 80721, 16846674, 80977, 34, 34, 34, 34, 16843826, 68913, 34, 69169, 50463316, 16843570, 50528852, 16843826, 34, 69425, 16843826, 69681, 34, 34, 34, 34, 16846930, 81233, 34, 81489, 34, 69425, 33621076, 69681, 34, 81745, 16846930, 82001]
def dm25 : List Nat := [85983825, 51381073, 87032401, 51381329, 17302865, 17303121, 86508113, 51905361, 87556689, 51905617, 17303377, 17303633, 264529, 264785, 265041, 265297, 86245969, 51643217, 87294545, 51643473, 17565009, 17565265, 86770257, 52167505, 87818833, 52167761, 17565521, 17565777, 265553, 265809, 266065, 266321, 16909650, 135505, 135761, 136017, 136273, 16909906, 136529, 136785, 137041, 137297, 86114897, 51512145, 87163473, 51512401, 17433937, 17434193, 86639185, 52036433, 87687761, 52036689, 17434449, 17434705, 395601, 395857, 396113, 396369, 86377041, 51774289, 87425617, 51774545, 17696081, 17696337, 86901329, 52298577, 87949905, 52298833, 17696593, 17696849, 396625, 396881, 397137, 397393, 16910162, 137553, 137809, 138065, 138321, 16910418, 138577, 138833, 139089, 139345, 67633746, 33817426, 67895890, 33817682, 67764818, 33948498, 68026962, 33948754, 67699282, 33882962, 67961426, 33883218, 67830354, 34014034, 68092498, 34014290, 50463316, 50528852, 33620820, 16845138, 74065, 74321, 74577, 74833, 16845394, 75089, 75345, 75601, 75857, 16845650, 76113, 76369, 76625, 76881, 16845906, 77137, 77393, 77649, 77905, 86049361, 51446609, 87097937, 51446865, 17368401, 17368657, 86573649, 51970897, 87622225, 51971153, 17368913, 17369169, 330065, 330321, 330577, 330833, 86311505, 51708753, 87360081, 51709009, 17630545, 17630801, 86835793, 52233041, 87884369, 52233297, 17631057, 17631313, 331089, 331345, 331601, 331857, 16975186, 201041, 201297, 201553, 201809, 16975442, 202065, 202321, 202577, 202833, 86180433, 51577681, 87229009, 51577937, 17499473, 17499729, 86704721, 52101969, 87753297, 52102225, 17499985, 17500241, 461137, 461393, 461649, 461905, 86442577, 51839825, 87491153, 51840081, 17761617, 17761873, 86966865, 52364113, 88015441, 52364369, 17762129, 17762385, 462161, 462417, 462673, 462929, 16975698, 203089, 203345, 203601, 203857, 16975954, 204113, 204369, 204625, 204881, 33621076, 16846162, 78161, 78417, 78673, 78929, 16846418, 79185, 79441, 79697, 79953, 16846674, 80209, 80465, 80721, 80977, 16846930, 81233, 81489, 81745, 82001]
def tb2 : Nat → List Nat
  | 0 => tb20
  | 1 => tb21
  | 2 => tb22
  | 3 => tb23
  | 4 => tb24
  | _ => tb25
def dm2 : Nat → List Nat
  | 0 => dm20
  | 1 => dm21
  | 2 => dm22
  | 3 => dm23
  | 4 => dm24
  | _ => dm25
theorem ta20 : (seqG [false, true] 0).map (fun s => pkN 2 (effG s)) = tb20 := by decide +kernel
theorem to20 : ((seqG [false, true] 0).all fun s => okN 2 0 (effG s)) = true := by decide +kernel
theorem tc20 : ((dm20).all fun c => Nat.beq ((tb20).countP (Nat.beq c)) (c % 16) && Nat.blt 0 (c % 16)) = true := by decide +kernel
theorem td20 : ((tb20).all fun c => (dm2 (c / 16 % 16)).any (Nat.beq c)) = true := by decide +kernel
theorem ta21 : (seqG [false, true] 1).map (fun s => pkN 2 (effG s)) = tb21 := by decide +kernel
theorem to21 : ((seqG [false, true] 1).all fun s => okN 2 1 (effG s)) = true := by decide +kernel
theorem tc21 : ((dm21).all fun c => Nat.beq ((tb21).countP (Nat.beq c)) (c % 16) && Nat.blt 0 (c % 16)) = true := by decide +kernel
theorem td21 : ((tb21).all fun c => (dm2 (c / 16 % 16)).any (Nat.beq c)) = true := by decide +kernel
theorem ta22 : (seqG [false, true] 2).map (fun s => pkN 2 (effG s)) = tb22 := by decide +kernel
theorem to22 : ((seqG [false, true] 2).all fun s => okN 2 2 (effG s)) = true := by decide +kernel
theorem tc22 : ((dm22).all fun c => Nat.beq ((tb22).countP (Nat.beq c)) (c % 16) && Nat.blt 0 (c % 16)) = true := by decide +kernel
theorem td22 : ((tb22).all fun c => (dm2 (c / 16 % 16)).any (Nat.beq c)) = true := by decide +kernel
theorem ta23 : (seqG [false, true] 3).map (fun s => pkN 2 (effG s)) = tb23 := by decide +kernel
theorem to23 : ((seqG [false, true] 3).all fun s => okN 2 3 (effG s)) = true := by decide +kernel
theorem tc23 : ((dm23).all fun c => Nat.beq ((tb23).countP (Nat.beq c)) (c % 16) && Nat.blt 0 (c % 16)) = true := by decide +kernel
theorem td23 : ((tb23).all fun c => (dm2 (c / 16 % 16)).any (Nat.beq c)) = true := by decide +kernel
theorem ta24 : (seqG [false, true] 4).map (fun s => pkN 2 (effG s)) = tb24 := by decide +kernel
theorem to24 : ((seqG [false, true] 4).all fun s => okN 2 4 (effG s)) = true := by decide +kernel
theorem tc24 : ((dm24).all fun c => Nat.beq ((tb24).countP (Nat.beq c)) (c % 16) && Nat.blt 0 (c % 16)) = true := by decide +kernel
theorem td24 : ((tb24).all fun c => (dm2 (c / 16 % 16)).any (Nat.beq c)) = true := by decide +kernel
theorem ta25 : (seqG [false, true] 5).map (fun s => pkN 2 (effG s)) = tb25 := by decide +kernel
theorem to25 : ((seqG [false, true] 5).all fun s => okN 2 5 (effG s)) = true := by decide +kernel
theorem tc25 : ((dm25).all fun c => Nat.beq ((tb25).countP (Nat.beq c)) (c % 16) && Nat.blt 0 (c % 16)) = true := by decide +kernel
theorem td25 : ((tb25).all fun c => (dm2 (c / 16 % 16)).any (Nat.beq c)) = true := by decide +kernel
/-- what is computed, of one length -/
structure Cm2 (L : Nat) : Prop where
  a : (seqG [false, true] L).map (fun s => pkN 2 (effG s)) = tb2 L
  o : ((seqG [false, true] L).all fun s => okN 2 L (effG s)) = true
  c : ((dm2 L).all fun c => Nat.beq ((tb2 L).countP (Nat.beq c)) (c % 16) && Nat.blt 0 (c % 16)) = true
  d : ((tb2 L).all fun c => (dm2 (c / 16 % 16)).any (Nat.beq c)) = true
theorem cm2 : ∀ L, L ≤ 5 → Cm2 L
  | 0, _ => ⟨ta20, to20, tc20, td20⟩
  | 1, _ => ⟨ta21, to21, tc21, td21⟩
  | 2, _ => ⟨ta22, to22, tc22, td22⟩
  | 3, _ => ⟨ta23, to23, tc23, td23⟩
  | 4, _ => ⟨ta24, to24, tc24, td24⟩
  | 5, _ => ⟨ta25, to25, tc25, td25⟩
  | L + 6, h => absurd h (by omega)
end SE
namespace SE
open PySem PySem.Spec PyProof.Rows L2
/-! ### the effects of short sequences: from numbers to texts -/
theorem comp_eq (A B : Prt) : comp A B = compG A B := rfl
theorem joinF_eq : ∀ (ps : List Prt) (A : Prt), joinF A ps = joinG A ps
  | [], A => rfl
  | B :: r, A => by
    unfold joinF joinG
    rw [comp_eq]
    cases compG A B with
    | none => rfl
    | some D => exact joinF_eq r D
theorem effM_eq (ss : List Stp) : effM ss = effG ss := by
  unfold effM joinM effG
  rw [joinF_eq]
  rfl
def rP (r : Bool → Str) (A : PrG Bool) : Prt := (A.1.map r, A.2.1.map r, A.2.2)
def rS (r : Bool → Str) (s : Bool × Bool) : Stp := (s.1, r s.2)
section
variable {r : Bool → Str} (hr : ∀ x y, r x = r y → x = y)
include hr
theorem map_inj' (u v : List Bool) : u.map r = v.map r ↔ u = v := ⟨fun e => (List.map_inj_right (fun x y => hr x y)).mp e, fun e => by rw [e]⟩
theorem rP_inj {A B : PrG Bool} (h : rP r A = rP r B) : A = B := by
  obtain ⟨a, b, c⟩ := A
  obtain ⟨x, y, z⟩ := B
  unfold rP at h
  simp only [Prod.mk.injEq] at h
  obtain ⟨h1, h2, h3⟩ := h
  rw [(map_inj' hr a x).mp h1, (map_inj' hr b y).mp h2, h3]
theorem comp_map (A B : PrG Bool) : compG (rP r A) (rP r B) = (compG A B).map (rP r) := by
  obtain ⟨a, b, c⟩ := A
  obtain ⟨x, y, z⟩ := B
  unfold compG rP
  simp only [List.length_map, ← List.map_take, ← List.map_drop, ← List.map_append]
  by_cases q : List.take (min b.length x.length) b = List.take (min b.length x.length) x
  · rw [if_pos q, if_pos (by rw [q])]
    rfl
  · rw [if_neg q, if_neg fun e => q ((map_inj' hr _ _).mp e)]
    rfl
theorem join_map : ∀ (ps : List (PrG Bool)) (A : PrG Bool), joinG (rP r A) (ps.map (rP r)) = (joinG A ps).map (rP r)
  | [], A => rfl
  | B :: q, A => by
    rw [List.map_cons]
    unfold joinG
    rw [comp_map hr]
    cases compG A B with
    | none => rfl
    | some D => exact join_map q D
theorem eff_map (ss : List (Bool × Bool)) : effG (ss.map (rS r)) = (effG ss).map (rP r) := by
  have e : (ss.map (rS r)).map partG = (ss.map partG).map (rP r) := by
    rw [List.map_map, List.map_map]
    refine List.map_congr_left fun s _ => ?_
    obtain ⟨b, z⟩ := s
    cases b <;> rfl
  unfold effG
  rw [e]
  exact join_map hr _ ([], [], 0)
omit hr in
theorem later_map (zs : List Bool) (last : List (List (Bool × Bool))) : laterG (zs.map r) (last.map fun s => s.map (rS r)) = (laterG zs last).map fun s => s.map (rS r) := by
  unfold laterG
  rw [List.flatMap_map, List.map_flatMap]
  congr 1
  funext z
  simp only [List.map_append, List.map_map]
  congr 1 <;> exact List.map_congr_left fun s _ => by simp [rS]
omit hr in
theorem seq_map (zs : List Bool) : ∀ L, seqG (zs.map r) L = (seqG zs L).map fun s => s.map (rS r)
  | 0 => rfl
  | L + 1 => by
    unfold seqG
    rw [seq_map zs L, later_map]
end
/-! ### codes -/
theorem enc_pos : ∀ u, 1 ≤ enc u
  | [] => Nat.le_refl _
  | b :: r => by
    have := enc_pos r
    unfold enc
    omega
theorem toNat_le (b : Bool) : b.toNat ≤ 1 := by cases b <;> decide
theorem enc_inj : ∀ u v, enc u = enc v → u = v
  | [], [], _ => rfl
  | [], b :: r, h => by
    have := enc_pos r
    unfold enc at h
    omega
  | b :: r, [], h => by
    have := enc_pos r
    unfold enc at h
    omega
  | a :: u, b :: v, h => by
    have h1 := toNat_le a
    have h2 := toNat_le b
    unfold enc at h
    have e1 : enc u = enc v := by omega
    have e2 : a.toNat = b.toNat := by omega
    have e3 : a = b := by cases a <;> cases b <;> first | rfl | exact absurd e2 (by decide)
    rw [enc_inj u v e1, e3]
theorem enc_lt : ∀ u, enc u < 2 ^ (u.length + 1)
  | [] => by decide
  | b :: r => by
    have := enc_lt r
    have h1 := toNat_le b
    unfold enc
    rw [List.length_cons, Nat.pow_succ]
    omega
theorem enc_256 {u : List Bool} (h : u.length ≤ 7) : enc u < 256 := Nat.lt_of_lt_of_le (enc_lt u) (Nat.pow_le_pow_right (by decide) (show u.length + 1 ≤ 8 by omega))
theorem bd_some {xs ys : List Bool} {p : Int} (h : bdN (some (xs, ys, p)) = true) : xs.length ≤ 7 ∧ ys.length ≤ 7 ∧ 0 ≤ p ∧ p ≤ 7 ∧ lpG xs ys ≤ p := by
  unfold bdN at h
  simp only [Bool.and_eq_true, decide_eq_true_eq, Nat.ble_eq] at h
  exact h
theorem cd_inj : ∀ {e f : Option (PrG Bool)}, bdN e = true → bdN f = true → cdN e = cdN f → e = f
  | none, none, _, _, _ => rfl
  | none, some (x, y, z), _, _, h => by
    unfold cdN at h
    dsimp only at h
    omega
  | some (x, y, z), none, _, _, h => by
    unfold cdN at h
    dsimp only at h
    omega
  | some (a, b, c), some (x, y, z), h1, h2, h => by
    obtain ⟨l1, l2, p0, _⟩ := bd_some h1
    obtain ⟨m1, m2, q0, _⟩ := bd_some h2
    have u1 := enc_256 l1
    have u2 := enc_256 l2
    have v1 := enc_256 m1
    have v2 := enc_256 m2
    unfold cdN at h
    dsimp only at h
    have e1 : enc a = enc x := by omega
    have e2 : enc b = enc y := by omega
    have e3 : c = z := by omega
    rw [enc_inj _ _ e1, enc_inj _ _ e2, e3]
/-- what is computed, whatever the table -/
def CmG (k : Nat) (zs : List Bool) (tb dm : Nat → List Nat) (L : Nat) : Prop := (seqG zs L).map (fun s => pkN k (effG s)) = tb L ∧ ((seqG zs L).all fun s => okN k L (effG s)) = true ∧
  ((dm L).all fun c => Nat.beq ((tb L).countP (Nat.beq c)) (c % 16) && Nat.blt 0 (c % 16)) = true ∧ ((tb L).all fun c => (dm (c / 16 % 16)).any (Nat.beq c)) = true
theorem cnt_gen {k M : Nat} {zs : List Bool} {tb dm : Nat → List Nat} (h : ∀ L, L ≤ M → CmG k zs tb dm L) {L : Nat} (hL : L ≤ M) {s : List (Bool × Bool)} (hs : s ∈ seqG zs L) :
    flG (effG s) ≤ L ∧ (seqG zs (flG (effG s))).countP (fun t => decide (effG t = effG s)) = mnG k (effG s) ∧ 0 < mnG k (effG s) ∧ bdN (effG s) = true ∧ (k = 1 → onN (effG s) = true) := by
  have okk : ∀ {L : Nat} {s : List (Bool × Bool)}, L ≤ M → s ∈ seqG zs L → bdN (effG s) = true ∧ pkN k (effG s) / 256 = cdN (effG s) ∧ pkN k (effG s) / 16 % 16 = flG (effG s) ∧ pkN k (effG s) % 16 = mnG k (effG s) ∧ flG (effG s) ≤ L ∧ (k = 1 → onN (effG s) = true) := fun {L s} hL hs => by
    have ok := List.all_eq_true.mp (h L hL).2.1 s hs
    unfold okN at ok
    simp only [Bool.and_eq_true, beq_iff_eq, Nat.ble_eq, Bool.or_eq_true, Bool.not_eq_true', beq_eq_false_iff_ne, ne_eq] at ok
    obtain ⟨b0, q1, q2, ⟨q3, q4⟩, q5⟩ := ok
    exact ⟨b0, q1, q2, q3, q4, fun e => q5.resolve_left fun z => z e⟩
  obtain ⟨b0, q1, q2, q3, q4, q5⟩ := okk hL hs
  obtain ⟨a, _, _, d⟩ := h L hL
  have mem : pkN k (effG s) ∈ tb L := by
    rw [← a]
    exact List.mem_map.mpr ⟨s, hs, rfl⟩
  have dd := List.all_eq_true.mp d _ mem
  rw [q2] at dd
  obtain ⟨y, my, ey⟩ := List.any_eq_true.mp dd
  have ey := Nat.eq_of_beq_eq_true ey
  subst ey
  have hF : flG (effG s) ≤ M := Nat.le_trans q4 hL
  obtain ⟨a2, _, c2, _⟩ := h _ hF
  have cc := List.all_eq_true.mp c2 _ my
  rw [Bool.and_eq_true] at cc
  have c3 := Nat.eq_of_beq_eq_true cc.1
  have c4 : 0 < pkN k (effG s) % 16 := Nat.lt_of_lt_of_le (Nat.lt_succ_self 0) (Nat.le_of_ble_eq_true cc.2)
  rw [q3] at c3 c4
  rw [← a2, List.countP_map] at c3
  refine ⟨q4, ?_, c4, b0, q5⟩
  rw [← c3]
  refine List.countP_congr fun t ht => ?_
  obtain ⟨t0, t1, _⟩ := okk hF ht
  show decide (effG t = effG s) = true ↔ Nat.beq (pkN k (effG s)) (pkN k (effG t)) = true
  rw [decide_eq_true_iff]
  constructor
  · intro e
    rw [e]
    exact Nat.beq_refl _
  · intro e
    have e := Nat.eq_of_beq_eq_true e
    exact cd_inj t0 b0 (by rw [← t1, ← q1, e])
/-- what is known of an effect of a short sequence -/
structure BdE (zs : List Str) (e : Eff) : Prop where
  b : ∀ xs ys p, e = some (xs, ys, p) → xs.length ≤ 7 ∧ ys.length ≤ 7 ∧ 0 ≤ p ∧ p ≤ 7 ∧ lp xs ys ≤ p
  m : ∀ xs ys p, e = some (xs, ys, p) → ∀ z ∈ xs ++ ys, z ∈ zs
  n : zs.length = 1 → e ≠ none
theorem fl_map (r : Bool → Str) (e : Option (PrG Bool)) : flG (e.map (rP r)) = flG e := by
  cases e with
  | none => rfl
  | some e =>
    obtain ⟨xs, ys, p⟩ := e
    show (xs.map r).length + (ys.map r).length + 2 * (p - lpG (xs.map r) (ys.map r)).toNat = _
    unfold lpG
    rw [List.length_map, List.length_map]
    rfl
theorem mn_map (r : Bool → Str) (k : Nat) (e : Option (PrG Bool)) : mnG k (e.map (rP r)) = mnG k e := by
  cases e with
  | none => rfl
  | some e =>
    obtain ⟨xs, ys, p⟩ := e
    show (if (((ys.map r).length : Int) - ((xs.map r).length : Int) = 0 ∧ p > 0) ∧ (xs.map r).length > 0 then 2 else 1) * k ^ (p - lpG (xs.map r) (ys.map r)).toNat = _
    unfold lpG
    rw [List.length_map, List.length_map]
    rfl
theorem cnt_str {M : Nat} {zs0 : List Bool} {tb dm : Nat → List Nat} {r : Bool → Str} (hr : ∀ x y, r x = r y → x = y) (h : ∀ L, L ≤ M → CmG zs0.length zs0 tb dm L) (hz : zs0 = [false] ∨ ∀ b, b ∈ zs0) {L : Nat} (hL : L ≤ M) {s : List Stp} (hs : s ∈ seqG (zs0.map r) L) :
    flG (effM s) ≤ L ∧ (seqG (zs0.map r) (flG (effM s))).countP (fun t => decide (effM t = effM s)) = mnG zs0.length (effM s) ∧ 0 < mnG zs0.length (effM s) ∧ BdE (zs0.map r) (effM s) := by
  rw [seq_map] at hs
  obtain ⟨t, ht, rfl⟩ := List.mem_map.mp hs
  obtain ⟨q1, q2, q3, q4, q5⟩ := cnt_gen h hL ht
  have e0 : ∀ t : List (Bool × Bool), effM (t.map (rS r)) = (effG t).map (rP r) := fun t => by rw [effM_eq, eff_map hr]
  rw [e0, fl_map, mn_map]
  refine ⟨q1, ?_, q3, ⟨fun xs ys p e => ?_, fun xs ys p e z mz => ?_, fun l1 e => ?_⟩⟩
  · rw [← q2, seq_map, List.countP_map]
    refine List.countP_congr fun u _ => ?_
    show decide (effM (u.map (rS r)) = _) = true ↔ _
    rw [e0, decide_eq_true_iff, decide_eq_true_iff]
    constructor
    · intro e
      cases h1 : effG u with
      | none =>
        cases h2 : effG t with
        | none => rfl
        | some B =>
          rw [h1, h2] at e
          cases e
      | some A =>
        cases h2 : effG t with
        | none =>
          rw [h1, h2] at e
          cases e
        | some B =>
          rw [h1, h2] at e
          rw [rP_inj hr (Option.some.inj e)]
    · intro e
      rw [e]
  · obtain ⟨⟨a, b, c⟩, e1, e2⟩ := Option.map_eq_some_iff.mp e
    rw [e1] at q4
    obtain ⟨l1, l2, p0, p1, p2⟩ := bd_some q4
    unfold rP at e2
    cases e2
    refine ⟨by rw [List.length_map]; exact l1, by rw [List.length_map]; exact l2, p0, p1, ?_⟩
    have : lp (a.map r) (b.map r) = lpG a b := by
      unfold lp lpG
      rw [List.length_map, List.length_map]
    rw [this]
    exact p2
  · obtain ⟨⟨a, b, c⟩, e1, e2⟩ := Option.map_eq_some_iff.mp e
    unfold rP at e2
    cases e2
    rw [← List.map_append] at mz
    obtain ⟨y, my, rfl⟩ := List.mem_map.mp mz
    refine List.mem_map.mpr ⟨y, ?_, rfl⟩
    rcases hz with hz | hz
    · have o := q5 (by rw [hz]; rfl)
      rw [e1] at o
      have o2 := List.all_eq_true.mp o y my
      rw [hz]
      cases y
      · exact List.mem_singleton.mpr rfl
      · cases o2
    · exact hz y
  · have o := q5 (by rw [List.length_map] at l1; exact l1)
    cases h1 : effG t with
    | none =>
      rw [h1] at o
      cases o
    | some A =>
      rw [h1] at e
      cases e
def oth (z : Str) : Str := if z = ("a" : Str) then "b" else "a"
theorem oth_ne (z : Str) : z ≠ oth z := by
  unfold oth
  split
  · rename_i q
    rw [q]
    decide +kernel
  · rename_i q
    exact q
def rr (z w : Str) (x : Bool) : Str := if x = true then w else z
theorem rr_inj {z w : Str} (ne : z ≠ w) : ∀ x y, rr z w x = rr z w y → x = y := fun x y e => by
  cases x <;> cases y
  · rfl
  · exact absurd (show z = w from e) ne
  · exact absurd (show w = z from e).symm ne
  · rfl
/-- all counts, of one item up to seven steps, of two up to five -/
theorem cnt_all {zs : List Str} {M : Nat} (h : (zs.length = 1 ∧ M = 7) ∨ (zs.length = 2 ∧ M = 5)) (nd : zs.Nodup) {L : Nat} (hL : L ≤ M) {s : List Stp} (hs : s ∈ seqG zs L) :
    flG (effM s) ≤ L ∧ (seqG zs (flG (effM s))).countP (fun t => decide (effM t = effM s)) = mnG zs.length (effM s) ∧ 0 < mnG zs.length (effM s) ∧ BdE zs (effM s) := by
  rcases h with ⟨l, rfl⟩ | ⟨l, rfl⟩
  · match zs, l with
    | [z], _ => exact cnt_str (zs0 := [false]) (r := rr z (oth z)) (tb := tb1) (dm := dm1) (rr_inj (oth_ne z)) (fun L h => ⟨(cm1 L h).a, (cm1 L h).o, (cm1 L h).c, (cm1 L h).d⟩) (.inl rfl) hL hs
  · match zs, l with
    | [z, w], _ =>
      have ne : z ≠ w := fun e => (List.nodup_cons.mp nd).1 (by rw [e]; exact List.mem_singleton.mpr rfl)
      exact cnt_str (zs0 := [false, true]) (r := rr z w) (tb := tb2) (dm := dm2) (rr_inj ne) (fun L h => ⟨(cm2 L h).a, (cm2 L h).o, (cm2 L h).c, (cm2 L h).d⟩) (.inr fun b => by cases b <;> decide) hL hs
end SE
namespace SE
open PySem PySem.Spec PyProof.Rows L2
/-! ### the texts of effects: no two alike -/
abbrev cp (z : Str) : List Nat := z.cps.toList
theorem cp_app (a b : Str) : cp (a ++ b) = cp a ++ cp b := by
  show (a.cps ++ b.cps).toList = _
  rw [Array.toList_append]
theorem cp_inj {a b : Str} (h : cp a = cp b) : a = b := by
  obtain ⟨x⟩ := a
  obtain ⟨y⟩ := b
  have e : x = y := Array.toList_inj.mp h
  rw [e]
theorem rc_low {c : Nat} (h : 97 ≤ c ∧ c ≤ 122) : Builtin.Str.reprChar 39 c = [c] := by
  have q : ∀ m : Fin 26, Builtin.Str.reprChar 39 (97 + m.1) = [97 + m.1] := by decide +kernel
  have := q ⟨c - 97, by omega⟩
  rwa [show 97 + (c - 97) = c by omega] at this
theorem rep_low {z : Str} (h : ∀ c ∈ cp z, 97 ≤ c ∧ c ≤ 122) : cp (reprText z) = 39 :: (cp z ++ [39]) := by
  have q : reprQuote z = 39 := by
    unfold reprQuote
    have n : z.cps.contains 39 = false := by
      rw [Bool.eq_false_iff]
      intro m
      have := h 39 (Array.mem_toList_iff.mpr (Array.contains_iff_mem.mp m))
      omega
    rw [n]
    rfl
  unfold reprText
  rw [q]
  have go : ∀ (l : List Nat) (acc : Array Nat), (∀ c ∈ l, 97 ≤ c ∧ c ≤ 122) → (l.foldl (fun out c => out ++ (Builtin.Str.reprChar 39 c).toArray) acc).toList = acc.toList ++ l := fun l => by
    induction l with
    | nil => intro acc _; simp
    | cons c r ih =>
      intro acc hl
      rw [List.foldl_cons, ih _ (fun d hd => hl d (List.mem_cons_of_mem _ hd)), rc_low (hl c List.mem_cons_self)]
      simp
  show ((z.cps.foldl (fun out c => out ++ (Builtin.Str.reprChar 39 c).toArray) #[39]).push 39).toList = _
  rw [Array.toList_push, ← Array.foldl_toList, go _ _ h]
  rfl
theorem cut39 : ∀ {u v r s : List Nat}, (∀ c ∈ u, c ≠ 39) → (∀ c ∈ v, c ≠ 39) → u ++ 39 :: r = v ++ 39 :: s → u = v ∧ r = s
  | [], [], r, s, _, _, e => ⟨rfl, (List.cons.inj e).2⟩
  | [], y :: v, r, s, _, hv, e => absurd (List.cons.inj e).1.symm (hv y List.mem_cons_self)
  | x :: u, [], r, s, hu, _, e => absurd (List.cons.inj e).1 (hu x List.mem_cons_self)
  | x :: u, y :: v, r, s, hu, hv, e => by
    obtain ⟨e1, e2⟩ := List.cons.inj e
    obtain ⟨q1, q2⟩ := cut39 (fun c m => hu c (List.mem_cons_of_mem _ m)) (fun c m => hv c (List.mem_cons_of_mem _ m)) e2
    exact ⟨by rw [e1, q1], q2⟩
theorem low39 {z : List Nat} (h : ∀ c ∈ z, 97 ≤ c ∧ c ≤ 122) : ∀ c ∈ z, c ≠ 39 := fun c m => by
  have := h c m
  omega
/-- behind the first word's quote -/
def rl : List Str → List Nat → List Nat
  | [], r => 41 :: r
  | z :: w, r => 44 :: 32 :: 39 :: (cp z ++ 39 :: rl w r)
def tt : List Str → List Nat → List Nat
  | [], r => 40 :: 41 :: r
  | [x], r => 40 :: 39 :: (cp x ++ 39 :: 44 :: 41 :: r)
  | x :: y :: w, r => 40 :: 39 :: (cp x ++ 39 :: rl (y :: w) r)
theorem rl_inj : ∀ {u v : List Str} {r s : List Nat}, (∀ z ∈ u, Item z) → (∀ z ∈ v, Item z) → rl u r = rl v s → u = v ∧ r = s
  | [], [], r, s, _, _, e => ⟨rfl, (List.cons.inj e).2⟩
  | [], y :: v, r, s, _, _, e => absurd (List.cons.inj e).1 (by decide)
  | x :: u, [], r, s, _, _, e => absurd (List.cons.inj e).1 (by decide)
  | x :: u, y :: v, r, s, hu, hv, e => by
    have e1 := (List.cons.inj (List.cons.inj (List.cons.inj e).2).2).2
    obtain ⟨q1, q2⟩ := cut39 (low39 (hu x List.mem_cons_self).low) (low39 (hv y List.mem_cons_self).low) e1
    obtain ⟨q3, q4⟩ := rl_inj (fun z m => hu z (List.mem_cons_of_mem _ m)) (fun z m => hv z (List.mem_cons_of_mem _ m)) q2
    exact ⟨by rw [cp_inj q1, q3], q4⟩
theorem tt_inj : ∀ {u v : List Str} {r s : List Nat}, (∀ z ∈ u, Item z) → (∀ z ∈ v, Item z) → tt u r = tt v s → u = v ∧ r = s
  | [], [], r, s, _, _, e => ⟨rfl, (List.cons.inj (List.cons.inj e).2).2⟩
  | [], [y], r, s, _, _, e => absurd (List.cons.inj (List.cons.inj e).2).1 (by decide)
  | [], y :: y2 :: v, r, s, _, _, e => absurd (List.cons.inj (List.cons.inj e).2).1 (by decide)
  | [x], [], r, s, _, _, e => absurd (List.cons.inj (List.cons.inj e).2).1 (by decide)
  | x :: x2 :: u, [], r, s, _, _, e => absurd (List.cons.inj (List.cons.inj e).2).1 (by decide)
  | [x], [y], r, s, hu, hv, e => by
    obtain ⟨q1, q2⟩ := cut39 (low39 (hu x List.mem_cons_self).low) (low39 (hv y List.mem_cons_self).low) (List.cons.inj (List.cons.inj e).2).2
    exact ⟨by rw [cp_inj q1], (List.cons.inj (List.cons.inj q2).2).2⟩
  | [x], y :: y2 :: v, r, s, hu, hv, e => by
    obtain ⟨q1, q2⟩ := cut39 (low39 (hu x List.mem_cons_self).low) (low39 (hv y List.mem_cons_self).low) (List.cons.inj (List.cons.inj e).2).2
    exact absurd (List.cons.inj (List.cons.inj q2).2).1 (by decide)
  | x :: x2 :: u, [y], r, s, hu, hv, e => by
    obtain ⟨q1, q2⟩ := cut39 (low39 (hu x List.mem_cons_self).low) (low39 (hv y List.mem_cons_self).low) (List.cons.inj (List.cons.inj e).2).2
    exact absurd (List.cons.inj (List.cons.inj q2).2).1 (by decide)
  | x :: x2 :: u, y :: y2 :: v, r, s, hu, hv, e => by
    obtain ⟨q1, q2⟩ := cut39 (low39 (hu x List.mem_cons_self).low) (low39 (hv y List.mem_cons_self).low) (List.cons.inj (List.cons.inj e).2).2
    obtain ⟨q3, q4⟩ := rl_inj (fun z m => hu z (List.mem_cons_of_mem _ m)) (fun z m => hv z (List.mem_cons_of_mem _ m)) q2
    exact ⟨by rw [cp_inj q1, q3], q4⟩
theorem join_cp : ∀ (w : List Str) (x : Str) (r : List Nat), (∀ z ∈ x :: w, Item z) → cp (Str.join ", " ((x :: w).map reprText)) ++ 41 :: r = 39 :: (cp x ++ 39 :: rl w r)
  | [], x, r, h => by
    show cp (reprText x) ++ 41 :: r = _
    rw [rep_low (h x List.mem_cons_self).low]
    simp [rl]
  | y :: w, x, r, h => by
    show cp (reprText x ++ ", " ++ Str.join ", " ((y :: w).map reprText)) ++ 41 :: r = _
    have e2 : cp ((", " : String) : Str) = [44, 32] := by decide +kernel
    rw [cp_app, cp_app, e2, List.append_assoc, join_cp w y r (fun z m => h z (List.mem_cons_of_mem _ m)), rep_low (h x List.mem_cons_self).low]
    simp [rl]
theorem sa_map : ∀ w : List Str, PyData.shownAll (w.map PyData.str) = w.map reprText
  | [] => by simp only [List.map_nil, PyData.shownAll]
  | z :: w => by
    rw [List.map_cons, List.map_cons, ← sa_map w]
    simp only [PyData.shownAll, PyData.shown]
theorem tup_cp {w : List Str} (h : ∀ z ∈ w, Item z) (r : List Nat) : cp (PyData.tuple (w.map .str)).shown ++ r = tt w r := by
  have e : (PyData.tuple (w.map .str)).shown = tupleText (w.map reprText) := by
    rw [← sa_map]
    simp only [PyData.shown]
  have p0 : cp ("(" : Str) = [40] := by decide +kernel
  have p1 : cp ((",)" : String) : Str) = [44, 41] := by decide +kernel
  have p2 : cp ((")" : String) : Str) = [41] := by decide +kernel
  rw [e]
  match w, h with
  | [], _ =>
    have : tupleText (([] : List Str).map reprText) = "()" := by decide +kernel
    rw [this]
    have : cp ("()" : Str) = [40, 41] := by decide +kernel
    rw [this]
    rfl
  | [x], h =>
    show cp (("(" : Str) ++ reprText x ++ ((",)" : String) : Str)) ++ r = _
    rw [cp_app, cp_app, p0, p1, rep_low (h x List.mem_cons_self).low]
    simp [tt]
  | x :: y :: v, h =>
    show cp (("(" : Str) ++ Str.join ", " ((x :: y :: v).map reprText) ++ (if ((x :: y :: v).map reprText).length == 1 then ",)" else ")" : String)) ++ r = _
    have c : (((x :: y :: v).map reprText).length == 1) = false := by
      rw [List.length_map]
      rfl
    rw [c, if_neg (by decide), cp_app, cp_app, p0, p2, List.append_assoc, List.append_assoc]
    show 40 :: (cp (Str.join ", " ((x :: y :: v).map reprText)) ++ 41 :: r) = _
    rw [join_cp (y :: v) x r h]
    rfl
theorem num_cp {p : Int} (h0 : 0 ≤ p) (h7 : p ≤ 7) : cp (toString p : Str) = [48 + p.toNat] := by
  obtain ⟨n, rfl⟩ := Int.eq_ofNat_of_zero_le h0
  have e : cp (toString ((n : Nat) : Int) : Str) = TL.numL n := TL.tl_num n
  rw [e, TL.numL_lt (by omega)]
  rfl
/-- effects of short sequences -/
structure SmE (e : Eff) : Prop where
  i : ∀ xs ys p, e = some (xs, ys, p) → (∀ z ∈ xs, Item z) ∧ (∀ z ∈ ys, Item z) ∧ 0 ≤ p ∧ p ≤ 7
theorem shown_cp {xs ys : List Str} {p : Int} (h1 : ∀ z ∈ xs, Item z) (h2 : ∀ z ∈ ys, Item z) (h0 : 0 ≤ p) (h7 : p ≤ 7) : cp (shownE (some (xs, ys, p))) = [69, 102, 102, 101, 99, 116, 40] ++ tt xs (44 :: 32 :: tt ys ([44, 32, 112, 101, 97, 107, 61] ++ [48 + p.toNat, 41])) := by
  have p0 : cp (Str.empty : Str) = [] := by decide +kernel
  have p1 : cp ("Effect(" : Str) = [69, 102, 102, 101, 99, 116, 40] := by decide +kernel
  have p2 : cp (", " : Str) = [44, 32] := by decide +kernel
  have p3 : cp (", peak=" : Str) = [44, 32, 112, 101, 97, 107, 61] := by decide +kernel
  have p4 : cp (")" : Str) = [41] := by decide +kernel
  rw [← tup_cp h2, ← tup_cp h1]
  unfold shownE
  rw [cp_app, cp_app, cp_app, cp_app, cp_app, cp_app, cp_app, p0, p1, p2, p3, p4, num_cp h0 h7]
  simp
theorem shown_inj : ∀ {e f : Eff}, SmE e → SmE f → shownE e = shownE f → e = f
  | none, none, _, _, _ => rfl
  | none, some (x, y, z), _, hf, h => by
    obtain ⟨h1, h2, h0, h7⟩ := hf.i x y z rfl
    have c := congrArg cp h
    rw [shown_cp h1 h2 h0 h7] at c
    have q : cp (shownE none) = [69, 102, 102, 101, 99, 116, 46, 110, 101, 118, 101, 114, 40, 41] := by decide +kernel
    rw [q] at c
    have z : some 46 = some 40 := congrArg (fun l : List Nat => l[6]?) c
    exact absurd z (by decide)
  | some (x, y, z), none, hf, _, h => by
    obtain ⟨h1, h2, h0, h7⟩ := hf.i x y z rfl
    have c := congrArg cp h
    rw [shown_cp h1 h2 h0 h7] at c
    have q : cp (shownE none) = [69, 102, 102, 101, 99, 116, 46, 110, 101, 118, 101, 114, 40, 41] := by decide +kernel
    rw [q] at c
    have z : some 40 = some 46 := congrArg (fun l : List Nat => l[6]?) c
    exact absurd z (by decide)
  | some (a, b, c), some (x, y, z), he, hf, h => by
    obtain ⟨g1, g2, g0, g7⟩ := he.i a b c rfl
    obtain ⟨h1, h2, h0, h7⟩ := hf.i x y z rfl
    have e := congrArg cp h
    rw [shown_cp h1 h2 h0 h7, shown_cp g1 g2 g0 g7] at e
    have e := List.append_cancel_left e
    obtain ⟨q1, q2⟩ := tt_inj g1 h1 e
    have q2 := (List.cons.inj (List.cons.inj q2).2).2
    obtain ⟨q3, q4⟩ := tt_inj g2 h2 q2
    have q4 := List.append_cancel_left q4
    have q5 := (List.cons.inj q4).1
    have q6 : c = z := by omega
    rw [q1, q3, q6]
end SE
namespace SE
open PySem PySem.Spec PyProof.Rows L2
/-! ### _law_all -/
theorem pd_at {α β : Type} {R : α → β → Prop} : ∀ {xs : List α} {ys : List β} {i : Nat} {x : α}, Paired R xs ys → xs[i]? = some x → ∃ y, ys[i]? = some y ∧ R x y
  | _, _, 0, x, .cons a _, h => ⟨_, rfl, by cases h; exact a⟩
  | _, _, n + 1, x, .cons _ r, h => by
    obtain ⟨y, h1, h2⟩ := pd_at (i := n) r h
    exact ⟨y, h1, h2⟩
theorem pd_app {α β : Type} {R : α → β → Prop} : ∀ {xs us : List α} {ys vs : List β}, Paired R xs ys → Paired R us vs → Paired R (xs ++ us) (ys ++ vs)
  | _, _, _, _, .nil, h => h
  | _, _, _, _, .cons a r, h => .cons a (pd_app r h)
def SeqsV (H : Hp) (us : List V) (ss : List (List Stp)) : Prop := Paired (fun v s => ∃ b xs, v = .ref b ∧ H b = some (.lst xs) ∧ StepsH H xs s) us ss
theorem SeqsV.same {H H' : Hp} {us : List V} {ss : List (List Stp)} (h : SeqsV H us ss) (s : Same H H') : SeqsV H' us ss := Paired.mapP h fun _ _ q => by
  obtain ⟨b, xs, e, h1, h2⟩ := q
  exact ⟨b, xs, e, s _ _ h1, stepsH_sm h2 s⟩
def allG {α : Type} (zs : List α) : Nat → List (List (Bool × α))
  | 0 => [[]]
  | M + 1 => allG zs M ++ seqG zs (M + 1)
theorem laterG_mem {α : Type} {zs : List α} {last : List (List (Bool × α))} {s : List (Bool × α)} (h : s ∈ laterG zs last) : ∃ u ∈ last, ∃ b z, z ∈ zs ∧ s = u ++ [(b, z)] := by
  unfold laterG at h
  obtain ⟨z, mz, h⟩ := List.mem_flatMap.mp h
  rcases List.mem_append.mp h with h | h
  · obtain ⟨u, mu, rfl⟩ := List.mem_map.mp h
    exact ⟨u, mu, _, z, mz, rfl⟩
  · obtain ⟨u, mu, rfl⟩ := List.mem_map.mp h
    exact ⟨u, mu, _, z, mz, rfl⟩
theorem seqG_len {α : Type} {zs : List α} : ∀ {L : Nat} {s : List (Bool × α)}, s ∈ seqG zs L → s.length = L
  | 0, s, h => by
    rw [List.mem_singleton.mp h]
    rfl
  | L + 1, s, h => by
    obtain ⟨u, mu, b, z, _, rfl⟩ := laterG_mem h
    rw [List.length_append, seqG_len mu]
    rfl
theorem seqG_it {zs : List Str} (hz : ∀ z ∈ zs, Item z) : ∀ {L : Nat} {s : List Stp}, s ∈ seqG zs L → ∀ x ∈ s, Item x.2
  | 0, s, h, x, mx => by
    rw [List.mem_singleton.mp h] at mx
    cases mx
  | L + 1, s, h, x, mx => by
    obtain ⟨u, mu, b, z, mz, rfl⟩ := laterG_mem h
    rcases List.mem_append.mp mx with m | m
    · exact seqG_it hz mu x m
    · rw [List.mem_singleton.mp m]
      exact hz z mz
theorem later_len {α : Type} (zs : List α) (last : List (List (Bool × α))) : (laterG zs last).length = zs.length * (2 * last.length) := by
  unfold laterG
  induction zs with
  | nil => simp
  | cons z r ih =>
    rw [List.flatMap_cons, List.length_append, ih, List.length_append, List.length_map, List.length_map, List.length_cons, Nat.add_mul r.length 1 (2 * last.length)]
    omega
theorem seqG_size {α : Type} {zs : List α} (h : zs.length ≤ 2) : ∀ L, (seqG zs L).length ≤ 4 ^ L
  | 0 => Nat.le_refl _
  | L + 1 => by
    have ih := seqG_size h L
    show (laterG zs (seqG zs L)).length ≤ _
    rw [later_len, Nat.pow_succ]
    have : zs.length * (2 * (seqG zs L).length) ≤ 2 * (2 * (seqG zs L).length) := Nat.mul_le_mul_right _ h
    omega
theorem four7 {L : Nat} (h : L ≤ 7) : 4 ^ L ≤ 16384 := Nat.le_trans (Nat.pow_le_pow_right (by decide) h) (by decide)
theorem allG_size {α : Type} {zs : List α} (h : zs.length ≤ 2) : ∀ M, M ≤ 7 → (allG zs M).length ≤ 16384 * (M + 1)
  | 0, _ => (by decide : (1 : Nat) ≤ 16384 * 1)
  | M + 1, hM => by
    have ih := allG_size h M (by omega)
    have := seqG_size h (M + 1)
    have := four7 hM
    show (allG zs M ++ seqG zs (M + 1)).length ≤ _
    rw [List.length_append]
    omega
section
variable {P : Program} {w : World} {K : PySem.W.Frag} {mg : Str → Option Value} {base : Heap}
def spAll (K : PySem.W.Frag) : Sp := fun vs H Q _ => ∃ (a : Addr) (zs : List Str) (M : Nat), vs = [.ref a, .int (M : Int)] ∧ SqL K H a (zs.map V.str) ∧ zs.length ≤ 2 ∧ M ≤ 7 ∧
  ∀ (l : Addr) (us : List V) (H' : Hp), Same H H' → H' l = some (.lst us) → SeqsV H' us (allG zs M) → Q (.ref l) H'
abbrev nAll : List Str := ["_law_items_here", "_law_most", "_law_last", "_law_found", "_law_turn", "_law_later", "_law_item", "_law_steps_here"]
theorem scAll : FnScope nAll ["_law_items_here", "_law_most"] (defScope sLawAll) := ⟨rfl, rfl, rfl, by decide +kernel, rfl, by decide +kernel, by decide +kernel⟩
theorem has_lall (D : Def K mg "_law_all" sLawAll) (mr : mg "range" = none) : Has P w K mg base "_law_all" 1 ["_law_items_here", "_law_most"] [] (spAll K) := by
  refine has_of D scAll (fun _ _ _ _ _ _ us hl => match us, hl with | [_, _], _ => rfl) (fun xs H Q E h => ?_) (fun f cv A out s H xs Q E hr h => ?_)
  · obtain ⟨a, zs, M, rfl, _⟩ := h
    rfl
  · obtain ⟨a, zs, M, rfl, hA, l2, hM, k⟩ := h
    refine ⟨_, pss_cons (ps_set (i := 2) scAll.nd rfl (.inl rfl) (pe_lst (pa_cons (pe_lst pa_nil) pa_nil)))
      (pss_cons (ps_set (i := 3) scAll.nd rfl (.inl rfl) (pe_lst (pa_cons (pe_lst pa_nil) pa_nil)))
      (pss_cons (ps_for PassesOwn.never rfl (pi_range1 (by rfl) mr (pa_cons (pv 1) pa_nil)) (pg_name (i := 4) scAll.nd rfl (.inl rfl))
        (pss_cons (ps_set (i := 5) scAll.nd rfl (.inl rfl) (pe_lst pa_nil))
        (pss_cons (ps_for PassesOwn.never rfl (pi_list (pv 0)) (pg_name (i := 6) scAll.nd rfl (.inr rfl))
          (pss_one (ps_set (i := 5) scAll.nd rfl (.inl rfl) (pe_op op_cat (pe_op op_cat (pv 5)
            (pe_lc (own := [("_law_steps_here", 7)]) (g := gName 7) (tt := tYes) (te := tOp rCat (tVar 7) (tLst (tCons (tTup (tCons (tC (.str "push")) (tCons (tVar 6) tNil))) tNil))) rfl scAll.nd (pi_list (pv 2)) (blkOk_by (own := [("_law_steps_here", 7)]) (N := nAll) (sc := defScope sLawAll) (by decide +kernel))
            (fun _ _ _ _ _ => pg_name (i := 7) scAll.nd rfl (.inl rfl)) (fun _ _ _ _ _ => pts_nil) (fun _ _ _ _ _ => pe_op op_cat (pv 7) (pe_lst (pa_cons (pe_tup (pa_cons pe_str (pa_cons (pv 6) pa_nil))) pa_nil)))))
            (pe_lc (own := [("_law_steps_here", 7)]) (g := gName 7) (tt := tYes) (te := tOp rCat (tVar 7) (tLst (tCons (tTup (tCons (tC (.str "pop")) (tCons (tVar 6) tNil))) tNil))) rfl scAll.nd (pi_list (pv 2)) (blkOk_by (own := [("_law_steps_here", 7)]) (N := nAll) (sc := defScope sLawAll) (by decide +kernel))
            (fun _ _ _ _ _ => pg_name (i := 7) scAll.nd rfl (.inl rfl)) (fun _ _ _ _ _ => pts_nil) (fun _ _ _ _ _ => pe_op op_cat (pv 7) (pe_lst (pa_cons (pe_tup (pa_cons pe_str (pa_cons (pv 6) pa_nil))) pa_nil))))))))
        (pss_cons (ps_set (i := 3) scAll.nd rfl (.inl rfl) (pe_op op_cat (pv 3) (pv 5)))
        (pss_one (ps_set (i := 2) scAll.nd rfl (.inl rfl) (pv 5)))))))
      (pss_one (ps_ret (pv 3))))), ?_⟩
    have big : ∀ m : Nat, m ≤ 400000 → m ≤ sizeLine := fun m hm => by
      rw [sizeLine_eq]
      omega
    refine ⟨(by show 0 ≤ sizeLine; decide), fun e1 he1 => ⟨(by show 1 ≤ sizeLine; decide), fun L0 hL0 => ?_⟩⟩
    have s1 := (Same.new (o := .lst []) he1).trans (Same.new (o := .lst [V.ref e1]) hL0)
    have g1 : (upd (upd H e1 (.lst [])) L0 (.lst [V.ref e1])) e1 = some (.lst []) := (Same.new (o := .lst [V.ref e1]) hL0) _ _ upd_same
    have g2 : (upd (upd H e1 (.lst [])) L0 (.lst [V.ref e1])) L0 = some (.lst [V.ref e1]) := upd_same
    generalize upd (upd H e1 (.lst [])) L0 (.lst [V.ref e1]) = H1 at s1 g1 g2
    refine ⟨(by show 0 ≤ sizeLine; decide), fun e2 he2 => ⟨(by show 1 ≤ sizeLine; decide), fun F0 hF0 => ?_⟩⟩
    have s2 := (Same.new (o := .lst []) he2).trans (Same.new (o := .lst [V.ref e2]) hF0)
    have g3 : (upd (upd H1 e2 (.lst [])) F0 (.lst [V.ref e2])) e2 = some (.lst []) := (Same.new (o := .lst [V.ref e2]) hF0) _ _ upd_same
    have g4 : (upd (upd H1 e2 (.lst [])) F0 (.lst [V.ref e2])) F0 = some (.lst [V.ref e2]) := upd_same
    generalize upd (upd H1 e2 (.lst [])) F0 (.lst [V.ref e2]) = H2 at s2 g3 g4
    have s02 := s1.trans s2
    refine ⟨_, rfl, (M : Int), rfl, by omega, by omega, for_range (lo := 0) (n := M) (fun i σ H3 => ∃ (Ls F : Addr) (us fs : List V) (y4 y5 y6 y7 : Option V), σ = [some (.ref a), some (.int (M : Int)), some (.ref Ls), some (.ref F), y4, y5, y6, y7] ∧ H3 F = some (.lst fs) ∧ H3 Ls = some (.lst us) ∧ SeqsV H3 fs (allG zs i) ∧ SeqsV H3 us (seqG zs i) ∧ Same H H3)
      ⟨L0, F0, _, _, _, _, _, _, rfl, g4, s2 _ _ g2, .cons ⟨e2, [], rfl, g3, .nil⟩ .nil, .cons ⟨e1, [], rfl, s2 _ _ g1, .nil⟩ .nil, s02⟩ ?_ ?_⟩
    rotate_left
    · rintro σ H3 ⟨Ls, F, us, fs, y4, y5, y6, y7, rfl, hF, hL, hFs, hU, s3⟩
      exact ⟨_, rfl, k F fs H3 s3 hF hFs⟩
    rintro i σ H3 hi ⟨Ls, F, us, fs, y4, y5, y6, y7, rfl, hF, hL, hFs, hU, s3⟩
    have i6 : i ≤ 6 := by omega
    have lU := Paired.length hU
    have z4 := seqG_size l2 i
    have f4 := four7 (L := i) (by omega)
    refine ⟨(by show 0 ≤ sizeLine; decide), fun E0 hE0 => ?_⟩
    have s4 := Same.new (o := .lst []) hE0
    have gE : (upd H3 E0 (.lst [])) E0 = some (.lst []) := upd_same
    generalize upd H3 E0 (.lst []) = H4 at s4 gE
    have s04 := s3.trans s4
    refine ⟨_, rfl, a, rfl, ⟨_, Same.seq s04 hA⟩, for_list (K := K) (a := a) (xs := zs.map V.str) (fun j σ H5 => ∃ (E : Addr) (es : List V) (y6 y7 : Option V), σ = [some (.ref a), some (.int (M : Int)), some (.ref Ls), some (.ref F), some (.int (0 + (i : Nat))), some (.ref E), y6, y7] ∧ H5 E = some (.lst es) ∧ SeqsV H5 es (laterG (zs.take j) (seqG zs i)) ∧ Same H4 H5) ⟨E0, [], _, _, rfl, gE, .nil, Same.refl _⟩ (fun j σ H5 _ q => ?_) ?_ ?_⟩
    · obtain ⟨_, _, _, _, _, _, _, s5⟩ := q
      exact Same.seq (s04.trans s5) hA
    rotate_left
    · rintro σ H5 ⟨E, es, y6, y7, rfl, hE, hEs, s5⟩
      rw [List.length_map, List.take_length] at hEs
      have hEs : SeqsV H5 es (seqG zs (i + 1)) := hEs
      have s45 := s4.trans s5
      have l1 := Paired.length (hFs.same s45)
      have l3 := Paired.length hEs
      have l4 := allG_size l2 i (by omega)
      have l5 := seqG_size l2 (i + 1)
      have l6 := four7 (L := i + 1) (by omega)
      refine ⟨_, rfl, _, rfl, F, E, fs, es, rfl, rfl, s45 _ _ hF, hE, big _ (by omega), fun F' hF' => ?_⟩
      have s6 := Same.new (o := .lst (fs ++ es)) hF'
      exact ⟨_, rfl, E, F', es, fs ++ es, _, _, _, _, rfl, upd_same, s6 _ _ hE, pd_app (hFs.same (s45.trans s6)) (hEs.same s6), hEs.same s6, (s3.trans s45).trans s6⟩
    rintro j x σ H0 hx ⟨E, es, y6, y7, rfl, hE, hEs, s5⟩
    rw [List.getElem?_map] at hx
    obtain ⟨z, hz, rfl⟩ := Option.map_eq_some_iff.mp hx
    have jl := (List.getElem?_eq_some_iff.mp hz).1
    have s45 := s4.trans s5
    have lE := Paired.length hEs
    rw [later_len, List.length_take] at lE
    have lE2 : es.length ≤ 70000 := by
      have : min j zs.length * (2 * (seqG zs i).length) ≤ 2 * (2 * (seqG zs i).length) := Nat.mul_le_mul_right _ (by omega)
      omega
    have hU := hU.same s45
    have hL := s45 _ _ hL
    refine ⟨_, rfl, _, rfl, Ls, rfl, ⟨_, .of hL⟩, fun D1 hD1 => ?_⟩
    have frD1 : Same H0 H0 := Same.refl _
    refine lc_list (K := K) (a := Ls) (xs := us) (fun n H5 => ∃ ws, H5 D1 = some (.lst ws) ∧ SeqsV (hid [D1] H5) ws (((seqG zs i).take n).map (· ++ [(true, z)])) ∧ Same H0 H5) ⟨[], upd_same, .nil, Same.new hD1⟩ (fun n H5 _ q => ?_) ?_ ?_
    · obtain ⟨_, _, _, s5⟩ := q
      exact .of (s5 _ _ (frD1 _ _ hL))
    · rintro n x H5 hx ⟨ws, hws, hP, s5⟩
      have sA := frD1.trans s5
      obtain ⟨s, hs, b, xs, rfl, hb, hst⟩ := pd_at (hU.same sA) hx
      have ls := Paired.length hst
      have l7 := seqG_len (List.mem_of_getElem? hs)
      refine ⟨rfl, yes_in ⟨_, rfl, _, rfl, (by show 2 ≤ sizeLine; decide), fun t ht => ⟨(by show 1 ≤ sizeLine; decide), fun q hq => ?_⟩⟩⟩
      have s67 := (Same.new (o := .tup [.str "push", .str z]) ht).trans (Same.new (o := .lst [V.ref t]) hq)
      have tt7 : (upd (upd H5 t (.tup [.str "push", .str z])) q (.lst [V.ref t])) t = some (.tup [.str (act (true, z).1), .str (true, z).2]) := (Same.new (o := .lst [V.ref t]) hq) _ _ upd_same
      have q7 : (upd (upd H5 t (.tup [.str "push", .str z])) q (.lst [V.ref t])) q = some (.lst [V.ref t]) := upd_same
      generalize upd (upd H5 t (.tup [.str "push", .str z])) q (.lst [V.ref t]) = H7 at s67 tt7 q7
      refine ⟨b, q, xs, [V.ref t], rfl, rfl, s67 _ _ hb, q7, big _ (by simp only [List.length_singleton]; omega), fun R hR => ?_⟩
      have s8 := Same.new (o := .lst (xs ++ [V.ref t])) hR
      have s58 := s67.trans s8
      have RD : R ≠ D1 := (Ne.symm (ne_of_none (s67 _ _ hws) hR))
      have hR8 : (upd H7 R (.lst (xs ++ [V.ref t]))) R = some (.lst (xs ++ [V.ref t])) := upd_same
      have st8 : StepsH (upd H7 R (.lst (xs ++ [V.ref t]))) (xs ++ [V.ref t]) (s ++ [(true, z)]) := stepsH_app (stepsH_sm hst s58) (.cons ⟨t, rfl, s8 _ _ tt7⟩ .nil)
      generalize upd H7 R (.lst (xs ++ [V.ref t])) = H8 at s58 hR8 st8
      have lw := Paired.length hP
      rw [List.length_map, List.length_take] at lw
      have w8 := s58 _ _ hws
      have la : LstAll [D1] H8 := LstAll.nil.cons w8
      have n8 : SeqsV (hid [D1] H8) (ws ++ [V.ref R]) (((seqG zs i).take n).map (· ++ [(true, z)]) ++ [s ++ [(true, z)]]) := Paired.snoc2 (hP.same (hid_of s58)) ⟨R, xs ++ [V.ref t], rfl, (by rw [hid_ne (fun m => RD (List.mem_singleton.mp m))]; exact hR8), hid_steps la st8⟩
      refine ⟨ws, w8, (by have := big (ws.length + 1) (by omega); omega), ws ++ [V.ref R], upd_same, ?_, Same.free2 (s5.trans s58) hD1⟩
      rw [List.take_add_one, hs, List.map_append]
      exact n8.same (hid_upd List.mem_cons_self)
    rintro H6 ⟨ws, hws, hP, s6⟩
    rw [lU, List.take_length] at hP
    have hP := hP.same (hid_out _ _)
    have lws := Paired.length hP
    rw [List.length_map] at lws
    refine ⟨E, D1, es, ws, rfl, rfl, s6 _ _ hE, hws, big _ (by omega), fun E1 hE1 => ?_⟩
    have s7 := Same.new (o := .lst (es ++ ws)) hE1
    have g7 : (upd H6 E1 (.lst (es ++ ws))) E1 = some (.lst (es ++ ws)) := upd_same
    generalize upd H6 E1 (.lst (es ++ ws)) = H9 at s7 g7
    have s69 := s6.trans s7
    refine ⟨_, rfl, Ls, rfl, ⟨_, .of (s69 _ _ hL)⟩, fun D2 hD2 => ?_⟩
    have frD2 : Same H0 H9 := s69
    refine lc_list (K := K) (a := Ls) (xs := us) (fun n H5 => ∃ ws, H5 D2 = some (.lst ws) ∧ SeqsV (hid [D2] H5) ws (((seqG zs i).take n).map (· ++ [(false, z)])) ∧ Same H9 H5) ⟨[], upd_same, .nil, Same.new hD2⟩ (fun n H5 _ q => ?_) ?_ ?_
    · obtain ⟨_, _, _, s5⟩ := q
      exact .of (s5 _ _ (frD2 _ _ hL))
    · rintro n x H5 hx ⟨ws, hws, hP, s5⟩
      have sA := frD2.trans s5
      obtain ⟨s, hs, b, xs, rfl, hb, hst⟩ := pd_at (hU.same sA) hx
      have ls := Paired.length hst
      have l7 := seqG_len (List.mem_of_getElem? hs)
      refine ⟨rfl, yes_in ⟨_, rfl, _, rfl, (by show 2 ≤ sizeLine; decide), fun t ht => ⟨(by show 1 ≤ sizeLine; decide), fun q hq => ?_⟩⟩⟩
      have s67 := (Same.new (o := .tup [.str "pop", .str z]) ht).trans (Same.new (o := .lst [V.ref t]) hq)
      have tt7 : (upd (upd H5 t (.tup [.str "pop", .str z])) q (.lst [V.ref t])) t = some (.tup [.str (act (false, z).1), .str (false, z).2]) := (Same.new (o := .lst [V.ref t]) hq) _ _ upd_same
      have q7 : (upd (upd H5 t (.tup [.str "pop", .str z])) q (.lst [V.ref t])) q = some (.lst [V.ref t]) := upd_same
      generalize upd (upd H5 t (.tup [.str "pop", .str z])) q (.lst [V.ref t]) = H7 at s67 tt7 q7
      refine ⟨b, q, xs, [V.ref t], rfl, rfl, s67 _ _ hb, q7, big _ (by simp only [List.length_singleton]; omega), fun R hR => ?_⟩
      have s8 := Same.new (o := .lst (xs ++ [V.ref t])) hR
      have s58 := s67.trans s8
      have RD : R ≠ D2 := (Ne.symm (ne_of_none (s67 _ _ hws) hR))
      have hR8 : (upd H7 R (.lst (xs ++ [V.ref t]))) R = some (.lst (xs ++ [V.ref t])) := upd_same
      have st8 : StepsH (upd H7 R (.lst (xs ++ [V.ref t]))) (xs ++ [V.ref t]) (s ++ [(false, z)]) := stepsH_app (stepsH_sm hst s58) (.cons ⟨t, rfl, s8 _ _ tt7⟩ .nil)
      generalize upd H7 R (.lst (xs ++ [V.ref t])) = H8 at s58 hR8 st8
      have lw := Paired.length hP
      rw [List.length_map, List.length_take] at lw
      have w8 := s58 _ _ hws
      have la : LstAll [D2] H8 := LstAll.nil.cons w8
      have n8 : SeqsV (hid [D2] H8) (ws ++ [V.ref R]) (((seqG zs i).take n).map (· ++ [(false, z)]) ++ [s ++ [(false, z)]]) := Paired.snoc2 (hP.same (hid_of s58)) ⟨R, xs ++ [V.ref t], rfl, (by rw [hid_ne (fun m => RD (List.mem_singleton.mp m))]; exact hR8), hid_steps la st8⟩
      refine ⟨ws, w8, (by have := big (ws.length + 1) (by omega); omega), ws ++ [V.ref R], upd_same, ?_, Same.free2 (s5.trans s58) hD2⟩
      rw [List.take_add_one, hs, List.map_append]
      exact n8.same (hid_upd List.mem_cons_self)
    rintro HA ⟨vs, hvs, hQ, sA⟩
    rw [lU, List.take_length] at hQ
    have hQ := hQ.same (hid_out _ _)
    have lvs := Paired.length hQ
    rw [List.length_map] at lvs
    refine ⟨E1, D2, es ++ ws, vs, rfl, rfl, sA _ _ g7, hvs, big _ (by rw [List.length_append]; omega), fun E2 hE2 => ?_⟩
    have sB := Same.new (o := .lst (es ++ ws ++ vs)) hE2
    have s9A := s7.trans (sA.trans sB)
    refine ⟨E2, es ++ ws ++ vs, _, _, rfl, upd_same, ?_, s5.trans (s69.trans (sA.trans sB))⟩
    have e : laterG (zs.take (j + 1)) (seqG zs i) = laterG (zs.take j) (seqG zs i) ++ (seqG zs i).map (· ++ [(true, z)]) ++ (seqG zs i).map (· ++ [(false, z)]) := by
      unfold laterG
      rw [List.take_add_one, hz, List.flatMap_append, List.append_assoc]
      congr 1
      show List.flatMap _ [z] = _
      rw [List.flatMap_singleton]
    rw [e]
    exact pd_app (pd_app (hEs.same (s69.trans (sA.trans sB))) (hP.same s9A)) (hQ.same sB)
end
end SE
namespace SE
open PySem PySem.Spec PyProof.Rows L2
/-! ### the effects that are known, and their rows -/
theorem allG_mem {α : Type} {zs : List α} {s : List (Bool × α)} : ∀ {M : Nat}, s ∈ allG zs M ↔ ∃ L, L ≤ M ∧ s ∈ seqG zs L
  | 0 => ⟨fun h => ⟨0, Nat.le_refl _, h⟩, fun ⟨L, hL, h⟩ => by
    obtain rfl : L = 0 := by omega
    exact h⟩
  | M + 1 => by
    show s ∈ allG zs M ++ seqG zs (M + 1) ↔ _
    rw [List.mem_append, allG_mem (M := M)]
    constructor
    · rintro (⟨L, hL, h⟩ | h)
      · exact ⟨L, by omega, h⟩
      · exact ⟨M + 1, Nat.le_refl _, h⟩
    · rintro ⟨L, hL, h⟩
      by_cases c : L = M + 1
      · subst c
        exact .inr h
      · exact .inl ⟨L, by omega, h⟩
theorem allG_own {α : Type} {zs : List α} {M : Nat} {s : List (Bool × α)} (h : s ∈ allG zs M) : s.length ≤ M ∧ s ∈ seqG zs s.length := by
  obtain ⟨L, hL, h⟩ := allG_mem.mp h
  have := seqG_len h
  rw [this]
  exact ⟨hL, h⟩
theorem allG_sorted {α : Type} (zs : List α) : ∀ M, (allG zs M).Pairwise fun a b => a.length ≤ b.length
  | 0 => List.pairwise_singleton _ _
  | M + 1 => by
    show (allG zs M ++ seqG zs (M + 1)).Pairwise _
    refine List.pairwise_append.mpr ⟨allG_sorted zs M, List.Pairwise.imp_of_mem (R := fun _ _ => True) (fun ha hb _ => ?_) (List.pairwise_of_forall fun _ _ => trivial), fun a ha b hb => ?_⟩
    · rw [seqG_len ha, seqG_len hb]
      exact Nat.le_refl _
    · have := (allG_own ha).1
      rw [seqG_len hb]
      omega
def cntM (e : Eff) (L : Nat) (l : List (List Stp)) : Nat := l.countP fun t => decide (effM t = e ∧ t.length = L)
theorem cntM_app (e : Eff) (L : Nat) (a b : List (List Stp)) : cntM e L (a ++ b) = cntM e L a + cntM e L b := List.countP_append
theorem cntM_zero {e : Eff} {L : Nat} {l : List (List Stp)} (h : ∀ t ∈ l, effM t = e → t.length ≠ L) : cntM e L l = 0 := by
  unfold cntM
  rw [List.countP_eq_zero]
  intro t mt c
  have c := of_decide_eq_true c
  exact h t mt c.1 c.2
theorem cntM_all (e : Eff) (zs : List Str) (L : Nat) : ∀ M, L ≤ M → cntM e L (allG zs M) = (seqG zs L).countP fun t => decide (effM t = e)
  | M, hM => by
    have own : cntM e L (seqG zs L) = (seqG zs L).countP fun t => decide (effM t = e) := by
      unfold cntM
      refine List.countP_congr fun t mt => ?_
      rw [decide_eq_true_iff, decide_eq_true_iff]
      exact ⟨fun h => h.1, fun h => ⟨h, seqG_len mt⟩⟩
    by_cases c : L = M
    · subst c
      cases L with
      | zero => exact own
      | succ L =>
        show cntM e (L + 1) (allG zs L ++ seqG zs (L + 1)) = _
        rw [cntM_app, own, cntM_zero (l := allG zs L) (fun t mt _ => by have := (allG_own mt).1; omega), Nat.zero_add]
    · cases M with
      | zero => exact absurd (by omega) c
      | succ M =>
        show cntM e L (allG zs M ++ seqG zs (M + 1)) = _
        rw [cntM_app, cntM_all e zs L M (by omega), cntM_zero (l := seqG zs (M + 1)) (fun t mt _ => by rw [seqG_len mt]; omega), Nat.add_zero]
section
variable {K : PySem.W.Frag} {C : Addr}
theorem keepO {H : Hp} {a b : Addr} {u v w : HO} (ha : H a = some u) (hb : H b = some v) (n : v ≠ u) : (upd H a w) b = some v := by
  rw [upd_ne (fun e => n (by rw [e, ha] at hb; exact (Option.some.inj hb).symm))]
  exact hb
/-- no part of an effect -/
def Oth (u : HO) : Prop := (∃ us, u = .lst us) ∨ ∃ kvs, u = .dK kvs
theorem EffV.updO {H : Hp} {a e : Addr} {u w : HO} (ha : H a = some u) (n : Oth u) : ∀ {o : Eff}, EffV K C H e o → EffV K C (upd H a w) e o
  | none, h => by
    obtain ⟨dx, h1⟩ := NevAt.ex h
    exact ⟨dx, keepO ha h1 (by rcases n with ⟨_, rfl⟩ | ⟨_, rfl⟩ <;> exact fun e => by cases e)⟩
  | some (_, _, _), h => by
    obtain ⟨dx, x, y, h1, h2, h3⟩ := EffAt.ex h
    have tp : ∀ {x : Addr} {zs : List V}, SqT K H x zs → SqT K (upd H a w) x zs := fun q => by
      rcases q with (q | ⟨o, q⟩) | q
      · exact .inl (.inl (keepO ha q (by rcases n with ⟨_, rfl⟩ | ⟨_, rfl⟩ <;> exact fun e => by cases e)))
      · exact .inl (.inr ⟨o, keepO ha q (by rcases n with ⟨_, rfl⟩ | ⟨_, rfl⟩ <;> exact fun e => by cases e)⟩)
      · exact .inr q
    exact ⟨dx, x, y, keepO ha h1 (by rcases n with ⟨_, rfl⟩ | ⟨_, rfl⟩ <;> exact fun e => by cases e), tp h2, tp h3⟩
def kE (e : Eff) : Key := Sum.inr (shownE e)
/-- a row: the effect, the length of the first sequence, how many of this length were counted -/
structure RowH (K : PySem.W.Frag) (C : Addr) (G H : Hp) (k : Key) (r : Addr) (ks cs : List (List Stp)) (s0 : List Stp) (e : Addr) : Prop where
  m : s0 ∈ ks
  k : k = kE (effM s0)
  h : H r = some (.lst [.ref e, .int (s0.length : Int), .int (cntM (effM s0) s0.length cs : Int)])
  v : EffV K C H e (effM s0)
  g : G r = none
  l : ∀ s ∈ ks, effM s = effM s0 → s0.length ≤ s.length
structure KnH (K : PySem.W.Frag) (C : Addr) (G H : Hp) (kvs : List (Key × V)) (ks cs : List (List Stp)) : Prop where
  at_ : ∀ s ∈ ks, ∃ v, valV kvs (kE (effM s)) = some v
  row : ∀ k v, valV kvs k = some v → ∃ r s0 e, v = .ref r ∧ RowH K C G H k r ks cs s0 e
  inj : ∀ k1 k2 r, valV kvs k1 = some (.ref r) → valV kvs k2 = some (.ref r) → k1 = k2
theorem KnH.same {G H H' : Hp} {kvs : List (Key × V)} {ks cs : List (List Stp)} (h : KnH K C G H kvs ks cs) (s : Same H H') : KnH K C G H' kvs ks cs := ⟨h.at_, fun k v q => by
  obtain ⟨r, s0, e, e1, w⟩ := h.row k v q
  exact ⟨r, s0, e, e1, w.m, w.k, s _ _ w.h, w.v.same s, w.g, w.l⟩, h.inj⟩
/-- the dict itself may be written -/
theorem KnH.updD {G H : Hp} {d : Addr} {kv2 kvs : List (Key × V)} {w : HO} {ks cs : List (List Stp)} (h : KnH K C G H kvs ks cs) (hd : H d = some (.dK kv2)) : KnH K C G (upd H d w) kvs ks cs := ⟨h.at_, fun k v q => by
  obtain ⟨r, s0, e, e1, x⟩ := h.row k v q
  exact ⟨r, s0, e, e1, x.m, x.k, keepO hd x.h (fun e => by cases e), x.v.updO hd (.inr ⟨_, rfl⟩), x.g, x.l⟩, h.inj⟩
theorem kn_nil {G H : Hp} : KnH K C G H [] [] [] := ⟨fun s m => (by cases m), fun k v q => (by cases q), fun k1 k2 r q => by cases q⟩
/-- the key is there already -/
theorem KnH.old {G H : Hp} {kvs : List (Key × V)} {ks cs : List (List Stp)} {s : List Stp} {v : V} (h : KnH K C G H kvs ks cs) (hv : valV kvs (kE (effM s)) = some v) (hl : ∀ t ∈ ks, t.length ≤ s.length) : KnH K C G H kvs (ks ++ [s]) cs := by
  refine ⟨fun t m => ?_, fun k v q => ?_, h.inj⟩
  · rcases List.mem_append.mp m with m | m
    · exact h.at_ t m
    · rw [List.mem_singleton.mp m]
      exact ⟨v, hv⟩
  · obtain ⟨r, s0, e, e1, x⟩ := h.row k v q
    refine ⟨r, s0, e, e1, List.mem_append.mpr (.inl x.m), x.k, x.h, x.v, x.g, fun t m et => ?_⟩
    rcases List.mem_append.mp m with m | m
    · exact x.l t m et
    · rw [List.mem_singleton.mp m]
      exact hl s0 x.m
/-- a new key with its row -/
theorem KnH.new {G H : Hp} {kvs : List (Key × V)} {ks cs : List (List Stp)} {s : List Stp} {r e : Addr} (h : KnH K C G H kvs ks cs) (hv : valV kvs (kE (effM s)) = none) (hc : ∀ t ∈ cs, t ∈ ks) (hl : ∀ t ∈ ks, t.length ≤ s.length)
    (hr : H r = some (.lst [.ref e, .int (s.length : Int), .int 0])) (he : EffV K C H e (effM s)) (hg : G r = none) (hn : ∀ k v, valV kvs k = some v → v ≠ .ref r) : KnH K C G H (putK kvs (kE (effM s)) (.ref r)) (ks ++ [s]) cs := by
  have none_of : ∀ t ∈ ks, effM t ≠ effM s := fun t m et => by
    obtain ⟨v, q⟩ := h.at_ t m
    rw [et, hv] at q
    cases q
  refine ⟨fun t m => ?_, fun k v q => ?_, fun k1 k2 a q1 q2 => ?_⟩
  · rw [valV_put]
    split
    · exact ⟨_, rfl⟩
    · rename_i c
      rcases List.mem_append.mp m with m | m
      · exact h.at_ t m
      · exact absurd (by rw [List.mem_singleton.mp m]) c
  · rw [valV_put] at q
    by_cases c : k = kE (effM s)
    · rw [if_pos c] at q
      cases q
      refine ⟨r, s, e, rfl, List.mem_append.mpr (.inr (List.mem_singleton.mpr rfl)), c, ?_, he, hg, fun t m et => ?_⟩
      · rw [hr, cntM_zero fun t m et => absurd et (none_of t (hc t m))]
        rfl
      · rcases List.mem_append.mp m with m | m
        · exact absurd et (none_of t m)
        · rw [List.mem_singleton.mp m]
          exact Nat.le_refl _
    · rw [if_neg c] at q
      obtain ⟨r', s0, e', e1, x⟩ := h.row k v q
      refine ⟨r', s0, e', e1, List.mem_append.mpr (.inl x.m), x.k, x.h, x.v, x.g, fun t m et => ?_⟩
      rcases List.mem_append.mp m with m | m
      · exact x.l t m et
      · rw [List.mem_singleton.mp m]
        exact hl s0 x.m
  · rw [valV_put] at q1 q2
    by_cases c1 : k1 = kE (effM s)
    · by_cases c2 : k2 = kE (effM s)
      · rw [c1, c2]
      · rw [if_pos c1] at q1
        rw [if_neg c2] at q2
        cases q1
        exact absurd rfl (hn _ _ q2)
    · rw [if_neg c1] at q1
      by_cases c2 : k2 = kE (effM s)
      · rw [if_pos c2] at q2
        cases q2
        exact absurd rfl (hn _ _ q1)
      · rw [if_neg c2] at q2
        exact h.inj _ _ _ q1 q2
/-- one sequence more is counted -/
theorem KnH.inc {G H : Hp} {kvs : List (Key × V)} {ks cs : List (List Stp)} {s s0 : List Stp} {r e : Addr} (h : KnH K C G H kvs ks cs) (hv : valV kvs (kE (effM s)) = some (.ref r)) (hx : RowH K C G H (kE (effM s)) r ks cs s0 e) (hE : ∀ t ∈ ks, SmE (effM t)) (hs : s ∈ ks) :
    KnH K C G (upd H r (.lst [.ref e, .int (s0.length : Int), .int ((cntM (effM s0) s0.length cs : Int) + if decide (V.int (s.length : Int) = V.int (s0.length : Int)) = true then 1 else 0)])) kvs ks (cs ++ [s]) := by
  have same : ∀ t ∈ ks, kE (effM s) = kE (effM t) → effM s = effM t := fun t m q => shown_inj (hE s hs) (hE t m) (Sum.inr.inj q)
  refine ⟨h.at_, fun k v q => ?_, h.inj⟩
  obtain ⟨r', s1, e', e1, x⟩ := h.row k v q
  by_cases c : r' = r
  · subst c
    subst e1
    have ek := h.inj _ _ _ q hv
    subst ek
    refine ⟨r', s0, e, rfl, hx.m, hx.k, ?_, hx.v.updO hx.h (.inl ⟨_, rfl⟩), hx.g, hx.l⟩
    have es := same s0 hx.m hx.k
    rw [upd_same]
    have q1 : (cntM (effM s0) s0.length (cs ++ [s]) : Int) = (cntM (effM s0) s0.length cs : Int) + if decide (V.int (s.length : Int) = V.int (s0.length : Int)) = true then 1 else 0 := by
      rw [cntM_app, Int.natCast_add]
      congr 1
      unfold cntM
      by_cases c : s.length = s0.length
      · rw [List.countP_cons, List.countP_nil, if_pos (by rw [decide_eq_true_iff]; exact ⟨es, c⟩), if_pos (by rw [decide_eq_true_iff, c])]
        rfl
      · rw [List.countP_cons, List.countP_nil, if_neg (by rw [decide_eq_true_iff]; exact fun z => c z.2), if_neg (by rw [decide_eq_true_iff]; intro z; injection z with z; omega)]
        rfl
    rw [q1]
  · have n : effM s ≠ effM s1 := fun z => by
      have e2 : k = kE (effM s) := by rw [x.k, z]
      rw [e2, hv] at q
      cases q
      cases e1
      exact c rfl
    refine ⟨r', s1, e', e1, x.m, x.k, ?_, x.v.updO hx.h (.inl ⟨_, rfl⟩), x.g, x.l⟩
    rw [upd_ne c, x.h, cntM_app, cntM_zero (l := [s]) fun t m et => absurd (by rw [← List.mem_singleton.mp m]; exact et) n, Nat.add_zero]
end
/-- a shortest sequence with an effect -/
def shE : Eff → List Stp
  | none => [(true, aS), (false, bS)]
  | some (xs, ys, p) => shortM xs ys p
theorem shE_len (e : Eff) : (shE e).length = flG e := by
  cases e with
  | none => rfl
  | some e =>
    obtain ⟨xs, ys, p⟩ := e
    exact short_len xs ys p
/-- what the last walk needs of a row -/
structure FinE (zs : List Str) (e : Eff) : Prop where
  i : EffOk e
  b : ∀ xs ys p, e = some (xs, ys, p) → xs.length ≤ 7 ∧ ys.length ≤ 7 ∧ 0 ≤ p ∧ p ≤ 7 ∧ lp xs ys ≤ p
  m : ∀ xs ys p, e = some (xs, ys, p) → ∀ z ∈ xs ++ ys, z ∈ zs
theorem fin_of {zs : List Str} {M : Nat} (h : (zs.length = 1 ∧ M = 7) ∨ (zs.length = 2 ∧ M = 5)) (nd : zs.Nodup) (iz : ∀ z ∈ zs, Item z) {s : List Stp} (hs : s ∈ allG zs M) : FinE zs (effM s) ∧ SmE (effM s) := by
  obtain ⟨l, q⟩ := allG_own hs
  obtain ⟨_, _, _, bd⟩ := cnt_all h nd l q
  have it : ∀ xs ys p, effM s = some (xs, ys, p) → (∀ z ∈ xs, Item z) ∧ (∀ z ∈ ys, Item z) ∧ 0 ≤ p ∧ p ≤ 7 := fun xs ys p e => by
    obtain ⟨_, _, p0, p7, _⟩ := bd.b xs ys p e
    exact ⟨fun z m => iz z (bd.m xs ys p e z (List.mem_append.mpr (.inl m))), fun z m => iz z (bd.m xs ys p e z (List.mem_append.mpr (.inr m))), p0, p7⟩
  refine ⟨⟨?_, bd.b, bd.m⟩, ⟨it⟩⟩
  cases e : effM s with
  | none => trivial
  | some o =>
    obtain ⟨xs, ys, p⟩ := o
    obtain ⟨l1, l2, p0, p7, _⟩ := bd.b xs ys p e
    obtain ⟨i1, i2, _, _⟩ := it xs ys p e
    exact ⟨i1, i2, by omega, by omega, p0, by omega⟩
/-- the rows at the end: the least length and the number of shortest sequences -/
theorem row_end {zs : List Str} {M : Nat} (h : (zs.length = 1 ∧ M = 7) ∨ (zs.length = 2 ∧ M = 5)) (nd : zs.Nodup) {s0 : List Stp} (hs : s0 ∈ allG zs M) (hl : ∀ s ∈ allG zs M, effM s = effM s0 → s0.length ≤ s.length) :
    s0.length = flG (effM s0) ∧ cntM (effM s0) s0.length (allG zs M) = mnG zs.length (effM s0) := by
  obtain ⟨l, q⟩ := allG_own hs
  obtain ⟨q1, q2, q3, _⟩ := cnt_all h nd l q
  have q4 := q3
  rw [← q2] at q4
  obtain ⟨t, mt, et⟩ := List.countP_pos_iff.mp q4
  have et := of_decide_eq_true et
  have e1 := hl t (allG_mem.mpr ⟨_, Nat.le_trans q1 l, mt⟩) et
  rw [seqG_len mt] at e1
  have e2 : s0.length = flG (effM s0) := Nat.le_antisymm e1 q1
  refine ⟨e2, ?_⟩
  rw [cntM_all _ zs _ M l, e2]
  exact q2
theorem many_eq {zs ws : List Str} {xs ys : List Str} {p : Int} (h : ∀ z ∈ xs ++ ys, z ∈ ws) (l : ws.length = zs.length) : manyM xs ys p ws = ((mnG zs.length (some (xs, ys, p)) : Nat) : Int) := by
  unfold manyM
  rw [if_pos h, l]
  unfold mnG waysM
  show _ * ((zs.length ^ (p - lpG xs ys).toNat : Nat) : Int) = _
  rw [Int.natCast_mul]
  congr 1
  split <;> rfl
end SE
/-! Dicts: a comprehension over any walk; a value that is locked for good. -/
namespace SE
open PySem PySem.Spec PyProof.Rows L2
section
variable {J : It} {n : Nat} {G : Hp → Prop} {Y : Nat → Hp → V → Hp → Prop}
theorem dc_it (w : Walk J n G Y) {g : TG} {tt : TT} {tk tv : TE} {vs : List Nat} {σ : L2.St} {H1 : Hp} {D : Addr} {Qd : Hp → Prop} (Pv : Nat → Hp → Prop) (h0 : Pv 0 (upd H1 D (.dK []))) (hG : ∀ i H, i ≤ n → Pv i H → G H)
    (hs : ∀ i x H H', i < n → Pv i H → Y i H x H' → g x (wipe σ vs) H' fun σ2 H2 => wipe σ2 vs = wipe σ vs ∧ tt σ2 H2 fun b H3 =>
      if b = true then tk σ2 H3 fun y H4 => tv σ2 H4 fun z H5 => ∃ kvs k, y = kV k ∧ H5 D = some (.dK kvs) ∧ kvs.length < sizeLine ∧ Pv (i + 1) (upd H5 D (.dK (putK kvs k z))) else Pv (i + 1) H3) (hd : ∀ H, Pv n H → Qd H) :
    ∃ W : Nat → Nat → Hp → Prop, (∃ m, W 0 m (upd H1 D (.dK []))) ∧ ∀ i m H, W i m H →
      (J.stop i H ∧ Qd H) ∨ (J.go i H ∧ ∃ Nx : Hp → Prop, (∀ H', Nx H' → ∃ m', m' < m ∧ W (i + 1) m' H') ∧ ∀ x H', J.yld i H x H' → g x (wipe σ vs) H' fun σ2 H2 => wipe σ2 vs = wipe σ vs ∧ tt σ2 H2 fun b H3 =>
        if b = true then tk σ2 H3 fun y H4 => tv σ2 H4 fun z H5 => ∃ kvs k, y = kV k ∧ H5 D = some (.dK kvs) ∧ kvs.length < sizeLine ∧ Nx (upd H5 D (.dK (putK kvs k z))) else Nx H3) := by
  refine ⟨fun i m H => m = n - i ∧ i ≤ n ∧ Pv i H, ⟨n, by simp, Nat.zero_le _, h0⟩, ?_⟩
  rintro i m H ⟨rfl, hi, p⟩
  have q := hG i H hi p
  by_cases hlt : i < n
  · exact .inr ⟨w.goes i H hlt q, Pv (i + 1), fun H' p' => ⟨n - (i + 1), by omega, rfl, hlt, p'⟩, fun x H' y => hs i x H H' hlt p (w.yields i H x H' hlt q y)⟩
  · have e : i = n := by omega
    subst e
    exact .inl ⟨w.stops H q, hd H p⟩
end
/-- the value of e, from now on locked -/
def tFrz (te : TE) : TE := fun σ H Q => te σ H fun x H1 => ∃ d u, x = .ref d ∧ H1 d = some u ∧ Mut (some u) ∧ ∀ od, Q x (upd H1 d (.frz od u))
section
variable {X : Cx}
theorem pe_frz {e : Expr} {te : TE} (h : PE X e te) : PE X e (tFrz te) := by
  refine ⟨fun pins s σ H Q I hw => thn (h.run pins s σ H _ I hw) fun v s1 ⟨x, H1, I1, r, d, u, ex, hd, mu, q⟩ => ?_⟩
  obtain ⟨od, I2⟩ := I1.lock hd mu
  exact ⟨x, _, I2, r, q od⟩
end
/-! ### name = {.. for ..} on one line -/
section
variable {X : Cx}
theorem ps_setDc {i : Nat} {y : Str} {yp : Pos} {kx vx tgt itx : Expr} {cs : List Expr} {sco : Scope} {ow : List (Str × Nat)} {dp sp : Pos} {wi : TI} {g : TG} {tt : TT} {tk tv : TE} (calm : X.calm = true) (nod : X.N.Nodup) (hy : X.N[i]? = some y) (loc : X.env.scope.names.lookup y = some .local)
    (sw : swapsWith (.DictComp kx vx [⟨tgt, itx, cs, 0⟩] sco dp) (some (.Name y yp)) sp.line X.env = pure true) (hi : PI X tgt itx wi) (ok : BlkOk X.N X.env.scope sco ow)
    (hg : ∀ (s : Shared) (H : Hp) (U : Addr) (cl : List (Str × Addr)) (fp : List Addr), PG (X.blk s H sco (compEnvC sco cl U X.env) fp) tgt g) (ht : ∀ (s : Shared) (H : Hp) (U : Addr) (cl : List (Str × Addr)) (fp : List Addr), PTs (X.blk s H sco (compEnvC sco cl U X.env) fp) cs tt)
    (hk : ∀ (s : Shared) (H : Hp) (U : Addr) (cl : List (Str × Addr)) (fp : List Addr), PE (X.blk s H sco (compEnvC sco cl U X.env) fp) kx tk)
    (hv : ∀ (s : Shared) (H : Hp) (U : Addr) (cl : List (Str × Addr)) (fp : List Addr), PE (X.blk s H sco (compEnvC sco cl U X.env) fp) vx tv) (fold : ∀ x, foldedSetIterable itx X.env x = pure x := by intro _; rfl) :
    PS X (.Assign [.Name y yp] (.DictComp kx vx [⟨tgt, itx, cs, 0⟩] sco dp) sp) (tAsg (tDc wi g tt tk tv (ow.map (·.2))) (gName i)) := by
  constructor
  intro pins s σ H Dn I q
  rw [exec_Assign_Name_used _ _ _ _ sw]
  refine wpAny_bind (wpAny_standAt (wpAny_bind ?_))
  show wpAny _ X.A (do let _ ← comprehension (.DictComp kx vx [⟨tgt, itx, cs, 0⟩] sco dp) sco X.env (firstIterPos [⟨tgt, itx, cs, 0⟩] dp) newDict false (eval itx X.env) (some (assign (.Name y yp) X.env))) _ _ s
  have q : tDc wi g tt tk tv (ow.map (·.2)) σ H (fun x H1 => gName i x σ H1 Dn.nx) := q
  refine wpAny_bind (thn (dc_core (Qf := fun _ s' => SP X pins Dn .next s') calm nod I hi ok hg ht hk hv fold q fun L U s' m H' J r nm fp => ?_) fun _ s' z => wpAny_pure (wpAny_pure z))
  show wpAny _ _ (assign (.Name y yp) X.env (.ref L)) _ _ _
  obtain ⟨p0, p1, p2, p3, p4, p5⟩ := fp
  refine wpAny_assign_Name (store_ok2 (v := V.ref L) J nod hy (.inl loc) rfl (fun s2 J2 ⟨a, same, wh⟩ => ?_) (.inr loc))
  have ne : U ≠ a := by
    rcases wh with z | z
    · rw [z]; exact p1
    · exact fun e => p4 y a z e.symm
  refine ⟨m, nm.sameBut same ne, fun h3 z3 => ⟨_, H', J2.turned (t' := s2.toks) (fun b o hb e => (z3.2 b hb).trans e) p0 p1 p3 p4 p5, r⟩⟩
theorem swd_true {kx vx : Expr} {gs : List Comprehension} {sco : Scope} {dp yp : Pos} {y : Str} {l : Nat} {env : Env} (fn : env.scope.kind = .function) (loc : env.scope.names.lookup y = some .local) (ln : (yp.line == dp.line) = true)
    (own : (sco.names.any fun (n, k) => n == y && (k == .local || k == .cell)) = false) : swapsWith (.DictComp kx vx gs sco dp) (some (.Name y yp)) l env = pure true := by
  have k1 : env.kindOf y = some .local := loc
  have k2 : env.blockKind = .function := by unfold Env.blockKind; rw [fn]; rfl
  unfold swapsWith
  simp only [k2, k1, own, Expr.pos, ln]
  rfl
end
end SE
namespace SE
open PySem PySem.Spec PyProof.Rows L2
def EqHas (P : Program) (w : World) (K : PySem.W.Frag) (mg : Str → Option Value) (base : Heap) (C : Addr) : Prop := ∃ f fd, FnOk P w K mg base CX0 1 f fd ["self", "other"] (spEqB (rEff K C)) ∧ PySem.W.findIn K (.ref C) "__eq__" = some (some (.ref f)) ∧ PySem.W.isFn K (.ref f) = true ∧ Binds K fd ["self", "other"] [] ∧ PySem.W.findIn K (.ref C) "__ne__" = some (some (.builtin "object.__ne__"))
def ReprHas (P : Program) (w : World) (K : PySem.W.Frag) (mg : Str → Option Value) (base : Heap) (C : Addr) : Prop := ∃ f fd, GOk P w K mg base 1 f fd ["self"] (spRepr K C) ∧ PySem.W.findIn K (.ref C) "__repr__" = some (some (.ref f)) ∧ PySem.W.isFn K (.ref f) = true ∧ Binds K fd ["self"] []
theorem hu_of {k : Nat} {A : Around} (hr : Room k A) : A.units + 1 < cLine := by
  have := hr.un
  omega
theorem item_b : Item bS := by
  have e : bS = (Str.ofString "b" : Str) := rfl
  rw [e]
  exact nm10_ok (by decide +kernel)
theorem nm10_nd' : nm10.Nodup := by decide +kernel
theorem shE_it {zs : List Str} {e : Eff} (h : EffOk e) : ∀ s ∈ shE e, Item s.2 := by
  cases e with
  | none =>
    intro s m
    rcases List.mem_cons.mp m with q | m
    · rw [q]
      exact item_a
    · rw [List.mem_singleton.mp m]
      exact item_b
  | some e =>
    obtain ⟨xs, ys, p⟩ := e
    exact short_item h.1 h.2.1
theorem shE_eff {zs : List Str} {e : Eff} (h : FinE zs e) : effM (shE e) = e := by
  cases e with
  | none => decide +kernel
  | some e =>
    obtain ⟨xs, ys, p⟩ := e
    exact eff_short h.i.1 h.i.2.1 (h.b xs ys p rfl).2.2.2.2
theorem fl_small {zs : List Str} {e : Eff} (h : FinE zs e) : flG e ≤ 30 := by
  cases e with
  | none =>
    show 2 ≤ 30
    decide
  | some e =>
    obtain ⟨xs, ys, p⟩ := e
    obtain ⟨l1, l2, p0, p7, pl⟩ := h.b xs ys p rfl
    show xs.length + ys.length + 2 * (p - lpG xs ys).toNat ≤ 30
    have e : lpG xs ys = if (ys.length : Int) - (xs.length : Int) > 0 then (ys.length : Int) - (xs.length : Int) else 0 := rfl
    split at e <;> omega
theorem mut_dK {kvs : List (Key × V)} : Mut (some (.dK kvs)) := trivial
theorem nd_rev {zs : List Str} (h : zs.Nodup) : zs.reverse.Nodup := by
  unfold List.Nodup at h ⊢
  rw [List.pairwise_reverse]
  exact h.imp fun h => Ne.symm h
section
variable {P : Program} {w : World} {K : PySem.W.Frag} {mg : Str → Option Value} {base : Heap} {C : Addr}
/-! ### law -/
def spLaw (K : PySem.W.Frag) : Sp := fun xs H Q _ => ∃ (a : Addr) (ns : List Int), xs = [.ref a] ∧ SqL K H a (ns.map V.int) ∧ ns.length ≤ 63 ∧ ∀ H', Q (.bl true) H'
abbrev nLaw : List Str := ["_law_script", "_law_k", "_law_pool_here", "_law_kinds", "_law_items_here", "_law_known", "_law_steps_here", "_law_effect", "_law_key", "_law_row", "_law_length", "_law_many", "_law_found"]
theorem scLaw : FnScope nLaw ["_law_script"] (defScope sLaw) := ⟨rfl, rfl, rfl, by decide +kernel, rfl, by decide +kernel, by decide +kernel⟩
theorem ok_law {f : Addr} {fd : FuncData} (F : Fun K "law" "law" sLaw f fd) (T : EC K mg C) (TI : EI K C) (EQ : EqHas P w K mg base C) (RP : ReprHas P w K mg base C) (GNv : NeverHas P w K mg base C)
    (GPl : Has P w K mg base "_law_pool" 1 ["_law_script", "_law_k"] [] (spPool K)) (GT : Has P w K mg base "_law_take" 1 ["_law_pool_here", "_law_many"] [] spTake) (GIt : Has P w K mg base "_law_items" 2 ["_law_pool_here", "_law_many"] [] spItems2)
    (GA : Has P w K mg base "_law_all" 1 ["_law_items_here", "_law_most"] [] (spAll K)) (GE : Has P w K mg base "effect_of" 8 ["steps"] [] (spEffOf K C))
    (GSh : Has P w K mg base "shortest" 4 ["effect"] [] (spSh K C)) (GSl : Has P w K mg base "shortest_length" 4 ["effect"] [] (spSl K C)) (GSm : Has P w K mg base "shortest_many" 4 ["effect", "items"] [] (spSm K C)) (B : Blt mg) (mr : mg "range" = none) (mx : mg "max" = none) (mn : mg "min" = none) (mi : mg "int" = none) (mp : mg "repr" = none) : GOk P w K mg base 10 f fd ["_law_script"] (spLaw K) := by
  obtain ⟨fq, fdq, FQ, eq1, eq2, eq3, eq4⟩ := EQ
  obtain ⟨fr, fdr, FR, rp1, rp2, rp3⟩ := RP
  refine gok_mk F scLaw (fun xs H Q E h => ?_) (fun cv A out s H xs Q E hgu hr h => ?_)
  · obtain ⟨a, ns, rfl, _⟩ := h
    rfl
  · obtain ⟨a, ns, rfl, hS, hlen, k⟩ := h
    have hu := hu_of hr
    have hr1 : Room 1 _ := hr.mono (by decide)
    have hr2 : Room 2 _ := hr.mono (by decide)
    have hr4 : Room 4 _ := hr.mono (by decide)
    have hr6 : Room 6 _ := hr.mono (by decide)
    have hr8 : Room 8 _ := hr.mono (by decide)
    refine ⟨_, (pss_cons (ps_for PassesOwn.never rfl (pi_range1 (by rfl) mr (pa_cons (pe_callB (call_max2 rfl) (by rfl) mx (by decide +kernel) (pa_cons pe_int (pa_cons (pe_callB (call_min2 rfl) (by rfl) mn (by decide +kernel) (pa_cons (pe_callB call_len_seq (by rfl) B.len PySem.boot_len (pa_cons (pv 0) pa_nil)) (pa_cons pe_int pa_nil))) pa_nil))) pa_nil)) (pg_name (i := 1) scLaw.nd rfl (.inl rfl)) (pss_cons (ps_set (i := 2) scLaw.nd rfl (.inl rfl) (pe_has GPl hr1 (pa_cons (pv 0) (pa_cons (pv 1) pa_nil))))
      (pss_cons (ps_set (i := 3) scLaw.nd rfl (.inl rfl) (pe_op op_add pe_int (pe_has GT hr1 (pa_cons (pv 2) (pa_cons pe_int pa_nil)))))
      (pss_cons (ps_set (i := 4) scLaw.nd rfl (.inl rfl) (pe_has GIt hr2 (pa_cons (pv 2) (pa_cons (pv 3) pa_nil))))
      (pss_cons (ps_set (i := 5) scLaw.nd rfl (.inl rfl) pe_dnewK)
      (pss_cons (ps_for PassesOwn.never rfl (pi_list (pe_has GA hr1 (pa_cons (pv 4) (pa_cons (pe_ix ix_list (pe_lst (pa_cons pe_int (pa_cons pe_int pa_nil))) (pe_op op_sub (pv 3) pe_int) (fun _ _ => rfl)) pa_nil)))) (pg_name (i := 6) scLaw.nd rfl (.inl rfl)) (pss_cons (ps_set (i := 7) scLaw.nd rfl (.inl rfl) (pe_has GE hr8 (pa_cons (pv 6) pa_nil)))
      (pss_cons (ps_set (i := 8) scLaw.nd rfl (.inl rfl) (pe_callB (call_reprE FR rp1 rp2 rp3 hgu hr2) (by rfl) mp (by decide +kernel) (pa_cons (pv 7) pa_nil)))
      (Evl.pss_cut (ps_if (pt_cmp (pc_dnotin hu (pv 8) (pv 5))) (pss_one (ps_dput hu (pv 5) (pv 8) (pe_lst (pa_cons (pv 7) (pa_cons (pe_callB call_len_seq (by rfl) B.len PySem.boot_len (pa_cons (pv 6) pa_nil)) (pa_cons pe_int pa_nil)))) rfl)) pss_nil)
      (pss_cons (ps_set (i := 9) scLaw.nd rfl (.inl rfl) (pe_dget hu (pv 5) (pv 8) (fun _ _ => rfl)))
      (pss_one (ps_asg (pe_op op_add (pe_ix ix_list (pv 9) pe_int (fun _ _ => rfl)) (pe_callTy call_int1 (by rfl) mi (by decide +kernel) (pa_cons (pe_cmpR op_eq (pe_callB call_len_seq (by rfl) B.len PySem.boot_len (pa_cons (pv 6) pa_nil)) (pe_ix ix_list (pv 9) pe_int (fun _ _ => rfl)) (nomark _)) pa_nil))) (pg_sub (pv 9) pe_int set_list))))))))
      (pss_cons (ps_for PassesOwn.never rfl (pi_keys (pe_frz (pv 5))) (pg_name (i := 8) scLaw.nd rfl (.inl rfl)) (pss_cons (ps_asg (pe_dget hu (pv 5) (pv 8) (fun _ _ => rfl)) (pg_unl (by rfl) (pgs_cons (pg_name (i := 7) scLaw.nd rfl (.inl rfl)) (pgs_cons (pg_name (i := 10) scLaw.nd rfl (.inl rfl)) (pgs_cons (pg_name (i := 11) scLaw.nd rfl (.inl rfl)) pgs_nil)))))
      (pss_cons (ps_set (i := 12) scLaw.nd rfl (.inl rfl) (pe_has GSh hr4 (pa_cons (pv 7) pa_nil)))
      (pss_cons (ps_if (PW.pt (pw_or (pt_cmpR (op_neE FQ eq1 eq2 eq3 TI.hm eq4 hr2) (pe_has GE hr8 (pa_cons (pv 12) pa_nil)) (pv 7) (nomark _)) (pw_or (pt_cmpR op_ne (pe_callB call_len_seq (by rfl) B.len PySem.boot_len (pa_cons (pv 12) pa_nil)) (pv 10) (nomark _)) (pw_or1 (pt_cmpR op_ne (pe_has GSl hr4 (pa_cons (pv 7) pa_nil)) (pv 10) (nomark _)))))) (pss_one (ps_ret pe_bl)) pss_nil)
      (pss_cons (ps_if (PW.pt (pw_or (pt_cmpR op_ne (pe_has GSm hr4 (pa_cons (pv 7) (pa_cons (pv 4) pa_nil))) (pv 11) (nomark _)) (pw_or1 (pt_cmpR op_ne (pe_has GSm hr4 (pa_cons (pv 7) (pa_cons (pe_callTy call_tuple_of (by rfl) B.tup (by decide +kernel) (pa_cons (pe_revL (pv 4)) pa_nil)) pa_nil))) (pv 11) (nomark _))))) (pss_one (ps_ret pe_bl)) pss_nil)
      (pss_cons (ps_expr (pe_bm PySem.F.plainAttrs_list PySem.F.slot_list_append PySem.F.type_list_append mt_append (pv 12) (pa_cons pe_non pa_nil)))
      (pss_one (ps_if (pt_cmpR op_ne (pe_callB call_len_seq (by rfl) B.len PySem.boot_len (pa_cons (pe_has GSh hr4 (pa_cons (pv 7) pa_nil)) pa_nil)) (pv 10) (nomark _)) (pss_one (ps_ret pe_bl)) pss_nil))))))))
      (pss_one (ps_if (PW.pt (pw_and (pt_cmpR op_eq (pv 3) pe_int (nomark _)) (pw_and1 (pt_cmpR op_ne (pe_has GSm hr4 (pa_cons (pe_never0 GNv T.mgE hr6) (pa_cons (pv 4) pa_nil))) pe_int (nomark _))))) (pss_one (ps_ret pe_bl)) pss_nil)))))))))
      (pss_one (ps_ret pe_bl))), ?_⟩
    refine ⟨_, rfl, a, _, rfl, .inl hS, _, 2, rfl, 1, _, rfl, ?_⟩
    have hN : ∀ n : Nat, (1 : Int) ≤ (if (if (2 : Int) < (n : Int) then 2 else (n : Int)) > 1 then (if (2 : Int) < (n : Int) then 2 else (n : Int)) else 1) ∧ (if (if (2 : Int) < (n : Int) then 2 else (n : Int)) > 1 then (if (2 : Int) < (n : Int) then 2 else (n : Int)) else 1) ≤ 2 := by
      intro n
      split <;> split <;> omega
    have hN1 := hN (ns.map V.int).length
    generalize hM : (if (if (2 : Int) < ((ns.map V.int).length : Int) then 2 else ((ns.map V.int).length : Int)) > 1 then (if (2 : Int) < ((ns.map V.int).length : Int) then 2 else ((ns.map V.int).length : Int)) else 1) = N at hN1
    have big : ∀ m : Nat, m ≤ 400000 → m ≤ sizeLine := fun m hm => by
      rw [sizeLine_eq]
      omega
    refine ⟨N, by rw [← hM], by omega, by omega, for_range (lo := 0) (n := N.toNat) (fun i σ H2 => ∃ (y1 y2 y3 y4 y5 y6 y7 y8 y9 y10 y11 y12 : Option V), σ = [some (.ref a), y1, y2, y3, y4, y5, y6, y7, y8, y9, y10, y11, y12] ∧ Same H H2) ⟨_, _, _, _, _, _, _, _, _, _, _, _, rfl, Same.refl H⟩ ?_ ?_⟩
    rotate_left
    · rintro σ H2 ⟨y1, y2, y3, y4, y5, y6, y7, y8, y9, y10, y11, y12, rfl, s2⟩
      exact k _
    rintro i σ H2 hi ⟨y1, y2, y3, y4, y5, y6, y7, y8, y9, y10, y11, y12, rfl, s2⟩
    refine ⟨_, rfl, _, rfl, a, ns, 0 + i, rfl, Same.seq s2 hS, by omega, by omega, fun p H3 s3 hp p3 => ?_⟩
    have hpn : H p = none := s2.free hp
    refine ⟨_, rfl, p, 2, rfl, p3, by decide, by decide, fun r H4 b4 p4 r0 r1 => ⟨1, r, rfl, rfl, ?_⟩⟩
    refine ⟨_, rfl, _, rfl, p, 1 + r, rfl, p4, by omega, by omega, fun l zs H5 b5 p5 l0 lp' hl5 lz iz0 ndz => ?_⟩
    have iz : ∀ z ∈ zs, Item z := fun z m => nm10_ok (iz0 z m)
    have s05 : Same H H5 := Same.but3 (s2.trans s3) hpn (b4.trans b5)
    obtain ⟨M, aM, cM⟩ : ∃ M : Nat, atI [V.int 7, V.int 5] (1 + r - 1) = some (.int (M : Int)) ∧ ((zs.length = 1 ∧ M = 7) ∨ (zs.length = 2 ∧ M = 5)) := by
      rcases (show r = 0 ∨ r = 1 by omega) with rfl | rfl
      · exact ⟨7, atI_nat (j := 0) rfl, .inl ⟨by rw [lz]; rfl, rfl⟩⟩
      · exact ⟨5, atI_nat (j := 1) rfl, .inr ⟨by rw [lz]; rfl, rfl⟩⟩
    have l2 : zs.length ≤ 2 := by omega
    have m7 : M ≤ 7 := by omega
    clear hi
    intro d hd
    have sd := Same.new (o := .dK []) hd
    have gd : (upd H5 d (.dK [])) d = some (.dK []) := upd_same
    have dn : H d = none := s05.free hd
    have hl6 := sd _ _ hl5
    have s06 := s05.trans sd
    generalize upd H5 d (.dK []) = H6 at sd gd hl6 s06
    refine ⟨_, rfl, (by show 2 ≤ sizeLine; decide), fun q hq => ⟨_, rfl, 1 + r, 1, rfl, rfl, q, _, 1 + r - 1, .int (M : Int), rfl, rfl, .of upd_same, aM, ?_⟩⟩
    have sq := Same.new (o := .lst [V.int 7, V.int 5]) hq
    refine ⟨l, zs, M, rfl, .of (sq _ _ hl6), l2, m7, fun LL us HA sA hLL hSV => ?_⟩
    have s6A := sq.trans sA
    have gdA := s6A _ _ gd
    have hlA := s6A _ _ hl6
    have s0A := s06.trans s6A
    -- the heap without the dict
    obtain ⟨G, hG⟩ : ∃ G, G = hid [d] HA := ⟨_, rfl⟩
    have gn : G d = none := by
      rw [hG]
      exact if_pos List.mem_cons_self
    have gk : ∀ {b : Addr} {o : HO}, HA b = some o → (∀ kvs, o ≠ .dK kvs) → G b = some o := fun {b o} hb n => by
      rw [hG, hid_ne fun m => ?_]
      · exact hb
      · rw [List.mem_singleton.mp m, gdA] at hb
        cases hb
        exact n _ rfl
    have sGA : Same G HA := by
      rw [hG]
      exact hid_out _ _
    have sHG : Same H G := fun b o hb => by
      rw [hG, hid_ne fun m => ?_]
      · exact s0A b o hb
      · rw [List.mem_singleton.mp m, dn] at hb
        cases hb
    have gLL : G LL = some (.lst us) := gk hLL fun kvs e => by cases e
    have gl : G l = some (.lst (zs.map V.str)) := gk hlA fun kvs e => by cases e
    have gS : SeqsV G us (allG zs M) := Paired.mapP hSV fun _ _ z => by
      obtain ⟨b, xs, e, h1, h2⟩ := z
      refine ⟨b, xs, e, gk h1 (fun kvs e => by cases e), Paired.mapP h2 fun _ _ y => ?_⟩
      obtain ⟨t, e2, h3⟩ := y
      exact ⟨t, e2, gk h3 fun kvs e => by cases e⟩
    have lu : us.length = (allG zs M).length := Paired.length gS
    have lA := allG_size l2 M m7
    have lA2 : us.length ≤ 131072 := by omega
    have ful := fun {s : List Stp} (hs : s ∈ allG zs M) => fin_of cM ndz iz hs
    have srt := allG_sorted zs M
    clear hSV sA s6A hlA s0A
    refine ⟨LL, rfl, ⟨_, .of (sGA _ _ gLL)⟩, for_list (K := K) (a := LL) (xs := us) (fun j σ H7 => ∃ (kvs : List (Key × V)) (z6 z7 z8 z9 z10 z11 z12 : Option V), σ = [some (.ref a), some (.int (0 + (i : Nat))), some (.ref p), some (.int (1 + r)), some (.ref l), some (.ref d), z6, z7, z8, z9, z10, z11, z12] ∧ H7 d = some (.dK kvs) ∧ kvs.length ≤ j ∧ KnH K C G H7 kvs ((allG zs M).take j) ((allG zs M).take j) ∧ Same G H7) ⟨[], _, _, _, _, _, _, _, rfl, gdA, Nat.le_refl _, kn_nil, sGA⟩ (fun j σ H7 _ q => ?_) ?_ ?_⟩
    · obtain ⟨_, _, _, _, _, _, _, _, _, _, _, _, s7⟩ := q
      exact .of (s7 _ _ gLL)
    · rintro j x σ H7 hx ⟨kvs, z6, z7, z8, z9, z10, z11, z12, rfl, hd7, lk, kn, s7⟩
      obtain ⟨s, hs, b, xs, rfl, gb, gst⟩ := pd_at gS hx
      have jl := (List.getElem?_eq_some_iff.mp hs).1
      have sm : s ∈ allG zs M := List.mem_of_getElem? hs
      obtain ⟨l7, q7⟩ := allG_own sm
      have it := seqG_it iz q7
      have lx : xs.length = s.length := Paired.length gst
      have fE := (ful sm).1
      have bef : ∀ t ∈ (allG zs M).take j, t.length ≤ s.length := fun t mt => by
        obtain ⟨n, hn⟩ := List.mem_iff_getElem?.mp mt
        have nj : n < j := by
          have := (List.getElem?_eq_some_iff.mp hn).1
          rw [List.length_take] at this
          omega
        rw [List.getElem?_take_of_lt nj] at hn
        obtain ⟨n1, n2⟩ := List.getElem?_eq_some_iff.mp hn
        obtain ⟨n3, n4⟩ := List.getElem?_eq_some_iff.mp hs
        have := List.pairwise_iff_getElem.mp srt n j n1 n3 nj
        rw [n2, n4] at this
        exact this
      refine ⟨_, rfl, b, xs, s, rfl, .of (s7 _ _ gb), by omega, (stepsH_sm gst s7).v, it, fun e H8 s8 he => ?_⟩
      obtain ⟨dx, fs, ix⟩ := EffV.ins he
      refine ⟨_, rfl, e, dx, fs, rfl, ix, e, effM s, rfl, he, fE.i, _, rfl, ?_⟩
      have s78 := s7.trans s8
      have kn8 := kn.same s8
      have hd8 := s8 _ _ hd7
      refine ⟨fun σ H9 => ∃ (kvs : List (Key × V)) (r2 : Addr) (s0 : List Stp) (e0 : Addr) (z9 z10 z11 z12 : Option V), σ = [some (.ref a), some (.int (0 + (i : Nat))), some (.ref p), some (.int (1 + r)), some (.ref l), some (.ref d), some (.ref b), some (.ref e), some (.str (shownE (effM s))), z9, z10, z11, z12] ∧ H9 d = some (.dK kvs) ∧ kvs.length ≤ j + 1 ∧ valV kvs (kE (effM s)) = some (.ref r2) ∧ RowH K C G H9 (kE (effM s)) r2 ((allG zs M).take j ++ [s]) ((allG zs M).take j) s0 e0 ∧ KnH K C G H9 kvs ((allG zs M).take j ++ [s]) ((allG zs M).take j) ∧ Same G H9, ?_, ?_⟩
      · refine ⟨_, rfl, _, rfl, d, _, rfl, DGet.k (k := kE (effM s)) hd8, ?_⟩
        cases hv : valV kvs (kE (effM s)) with
        | some v =>
          have kn9 := kn8.old hv bef
          obtain ⟨r2, s0, e0, rfl, row⟩ := kn9.row _ _ hv
          exact ⟨_, rfl, iteF ⟨kvs, r2, s0, e0, _, _, _, _, rfl, hd8, by omega, hv, row, kn9, s78⟩⟩
        | none =>
          refine ⟨_, rfl, iteT ?_⟩
          refine ⟨_, rfl, _, rfl, b, _, rfl, .inl (.of (s78 _ _ gb)), (by show 3 ≤ sizeLine; decide), fun r2 hr2 => ?_⟩
          have sr := Same.new (o := .lst [V.ref e, .int (xs.length : Int), .int 0]) hr2
          have gr : (upd H8 r2 (.lst [V.ref e, .int (xs.length : Int), .int 0])) r2 = some (.lst [V.ref e, .int (xs.length : Int), .int 0]) := upd_same
          rw [lx] at sr gr ⊢
          have rn : G r2 = none := s78.free hr2
          have nr : ∀ k v, valV kvs k = some v → v ≠ .ref r2 := fun k v q e => by
            obtain ⟨r3, s3, e3, e4, row⟩ := kn8.row k v q
            rw [e4] at e
            cases e
            rw [row.h] at hr2
            cases hr2
          generalize upd H8 r2 (.lst [V.ref e, .int (s.length : Int), .int 0]) = H9 at sr gr
          have hd9 := sr _ _ hd8
          have rd : r2 ≠ d := fun e => by
            rw [e, hd8] at hr2
            cases hr2
          refine ⟨_, rfl, _, rfl, d, _, rfl, DPut.k (k := kE (effM s)) hd9 (by have := big (kvs.length + 1) (by omega); omega), ?_⟩
          have kn9 := ((kn8.same sr).new hv (fun _ m => m) bef gr (he.same sr) rn nr).updD (w := .dK (putK kvs (kE (effM s)) (.ref r2))) hd9
          have hv9 : valV (putK kvs (kE (effM s)) (.ref r2)) (kE (effM s)) = some (.ref r2) := by rw [valV_put, if_pos rfl]
          obtain ⟨r3, s0, e0, e1, row⟩ := kn9.row _ _ hv9
          cases e1
          have lp9 := length_putK kvs (kE (effM s)) (.ref r2)
          exact ⟨_, r2, s0, e0, _, _, _, _, rfl, upd_same, by omega, hv9, row, kn9, Same.free2 (s78.trans sr) gn⟩
      · rintro σ H9 ⟨kvs9, r2, s0, e0, z9, z10, z11, z12, rfl, hd9, lk9, hv9, row, kn9, s9⟩
        have hget : DGet H9 d (.str (shownE (effM s))) (some (.ref r2)) := by
          rw [← hv9]
          exact DGet.k (k := kE (effM s)) hd9
        refine ⟨_, rfl, _, rfl, d, _, rfl, hget, ?_⟩
        refine ⟨_, rfl, r2, _, 2, _, rfl, rfl, .of row.h, atI_nat (j := 2) rfl, ?_⟩
        refine ⟨_, rfl, b, _, rfl, .inl (.of (s9 _ _ gb)), ?_⟩
        refine ⟨_, rfl, r2, _, 1, _, rfl, rfl, .of row.h, atI_nat (j := 1) rfl, ?_⟩
        rw [lx]
        refine ⟨rfl, .inr ⟨_, rfl, _, _, rfl, rfl, ?_⟩⟩
        refine ⟨_, rfl, r2, _, 2, 2, rfl, rfl, row.h, rfl, ?_⟩
        have smE : ∀ t ∈ (allG zs M).take j ++ [s], SmE (effM t) := fun t mt => by
          rcases List.mem_append.mp mt with m | m
          · exact (ful (List.mem_of_mem_take m)).2
          · rw [List.mem_singleton.mp m]
            exact (ful sm).2
        have kn10 := kn9.inc hv9 row smE (List.mem_append.mpr (.inr (List.mem_singleton.mpr rfl)))
        have rd : r2 ≠ d := fun e => by
          have := row.h
          rw [e, hd9] at this
          cases this
        refine ⟨kvs9, _, _, _, _, _, _, _, rfl, ?_, lk9, ?_, Same.free2 s9 row.g⟩
        · rw [upd_ne (Ne.symm rd)]
          exact hd9
        · rw [List.take_add_one, hs]
          exact kn10
    rintro σ H7 ⟨kvs, z6, z7, z8, z9, z10, z11, z12, rfl, hd7, lk, kn, s7⟩
    rw [lu, List.take_length] at kn
    refine ⟨_, rfl, d, .dK kvs, rfl, hd7, mut_dK, fun od => ?_⟩
    have hF : upd H7 d (.frz od (.dK kvs)) d = some (.frz od (.dK kvs)) := upd_same
    have knF : KnH K C G (upd H7 d (.frz od (.dK kvs))) kvs (allG zs M) (allG zs M) := kn.updD hd7
    have sF : Same G (upd H7 d (.frz od (.dK kvs))) := Same.free2 s7 gn
    generalize upd H7 d (.frz od (.dK kvs)) = HF at hF knF sF
    have ilL : ∀ {Hx : Hp}, Same G Hx → ILs K Hx l zs := fun s => ⟨.inl (.of (s _ _ gl)), by omega, ndz, iz⟩
    refine ⟨d, od, rfl, .inl ⟨kvs, hF, for_it walk_keys (fun j σ H9 => ∃ (z7 z8 z9 z10 z11 z12 : Option V), σ = [some (.ref a), some (.int (0 + (i : Nat))), some (.ref p), some (.int (1 + r)), some (.ref l), some (.ref d), z6, z7, z8, z9, z10, z11, z12] ∧ Same HF H9) ⟨_, _, _, _, _, _, rfl, Same.refl _⟩ (fun j σ H9 _ q => ?_) ?_ ?_⟩⟩
    · obtain ⟨_, _, _, _, _, _, _, s9⟩ := q
      exact s9 _ _ hF
    · rintro j x σ HZ H9 hj ⟨z7, z8, z9, z10, z11, z12, rfl, s9⟩ ⟨rfl, k', v', hkv, rfl⟩
      obtain ⟨v, hv⟩ : ∃ v, valV kvs k' = some v := by
        have q := valV_any k' kvs
        rw [List.any_eq_true.mpr ⟨_, List.mem_of_getElem? hkv, decide_eq_true rfl⟩] at q
        exact Option.isSome_iff_exists.mp q.symm
      obtain ⟨r2, s0, e, rfl, row⟩ := (knF.same s9).row k' v hv
      obtain ⟨eL, eC⟩ := row_end cM ndz row.m row.l
      have rh := row.h
      have he := row.v
      have fE := (ful row.m).1
      rw [eC, eL] at rh
      generalize effM s0 = E at rh he fE
      have f30 := fl_small fE
      have sG9 := sF.trans s9
      have sh : ∀ {Hx : Hp} {R : VK} {Ex : XK}, Same H9 Hx → (∀ (L : Addr) (us : List V) (H' : Hp), Same Hx H' → Hx L = none → H' L = some (.lst us) → StepsH H' us (shE E) → R (.ref L) H') → spSh K C [.ref e] Hx R Ex := fun {Hx R Ex} sx q => by
        have hx := he.same sx
        refine ⟨e, rfl, ?_⟩
        cases E with
        | none => exact .inr ⟨hx, q⟩
        | some o =>
          obtain ⟨xs, ys, p⟩ := o
          obtain ⟨l1, l2, p0, p7, pl⟩ := fE.b xs ys p rfl
          have e : lp xs ys = if (ys.length : Int) - (xs.length : Int) > 0 then (ys.length : Int) - (xs.length : Int) else 0 := rfl
          exact .inl ⟨xs, ys, p, hx, by omega, by omega, pl, by split at e <;> omega, q⟩
      have sl : ∀ {Hx : Hp} {R : VK} {Ex : XK}, Same H9 Hx → R (.int (flG E : Int)) Hx → spSl K C [.ref e] Hx R Ex := fun {Hx R Ex} sx q => by
        have hx := he.same sx
        refine ⟨e, rfl, ?_⟩
        cases E with
        | none => exact .inr ⟨hx, q⟩
        | some o =>
          obtain ⟨xs, ys, p⟩ := o
          obtain ⟨l1, l2, p0, p7, pl⟩ := fE.b xs ys p rfl
          refine .inl ⟨xs, ys, p, hx, by omega, by omega, ?_⟩
          have e : (xs.length : Int) + ys.length + 2 * (p - lp xs ys) = (flG (some (xs, ys, p)) : Int) := by
            show _ = ((xs.length + ys.length + 2 * (p - lp xs ys).toNat : Nat) : Int)
            omega
          rw [e]
          exact q
      have smn : ∀ {Hx : Hp} {R : VK} {Ex : XK} {b : Addr} {ws : List Str}, Same H9 Hx → ILs K Hx b ws → (∀ z ∈ zs, z ∈ ws) → ws.length = zs.length → (∀ H', Same Hx H' → R (.int (mnG zs.length E : Int)) H') → spSm K C [.ref e, .ref b] Hx R Ex := fun {Hx R Ex b ws} sx hb sub lw q => by
        have hx := he.same sx
        refine ⟨e, b, ws, rfl, hb, ?_⟩
        cases E with
        | none =>
          refine .inr ⟨hx, fun H' s' => ?_⟩
          have e : (ws.length : Int) * ((ws.length : Int) - 1) = ((mnG zs.length (none : Eff) : Nat) : Int) := by
            rw [lw]
            show _ = ((zs.length * (zs.length - 1) : Nat) : Int)
            rcases cM with ⟨c, _⟩ | ⟨c, _⟩ <;> rw [c] <;> rfl
          rw [e]
          exact q H' s'
        | some o =>
          obtain ⟨xs, ys, p⟩ := o
          obtain ⟨l1, l2, p0, p7, pl⟩ := fE.b xs ys p rfl
          have e : lp xs ys = if (ys.length : Int) - (xs.length : Int) > 0 then (ys.length : Int) - (xs.length : Int) else 0 := rfl
          refine .inl ⟨xs, ys, p, hx, by omega, by omega, pl, (by split at e <;> omega), fun H' s' => ?_⟩
          rw [many_eq (zs := zs) (fun z m => sub z (fE.m xs ys p rfl z m)) lw]
          exact q H' s'
      obtain ⟨dx, fs, ix⟩ := EffV.ins he
      refine ⟨_, rfl, _, rfl, d, .ref r2, rfl, .inl ⟨kvs, k', .inr ⟨od, s9 _ _ hF⟩, rfl, hv.symm⟩, r2, _, rfl, .of rh, rfl, _, _, rfl, _, _, rfl, _, _, rfl, rfl, ?_⟩
      refine ⟨_, rfl, ?_⟩
      dsimp only [tNil]
      refine sh (Same.refl _) fun L us H10 s10 nL hL hSt => ?_
      have lus := Paired.length hSt
      rw [shE_len] at lus
      refine ⟨_, rfl, L, us, shE E, rfl, .of hL, by omega, hSt.v, shE_it (zs := zs) fE.i, fun e2 H11 s11 he2 => ?_⟩
      rw [shE_eff fE] at he2
      obtain ⟨dx2, fs2, ix2⟩ := EffV.ins he2
      have s911 := s10.trans s11
      refine ⟨_, rfl, e2, e, true, _, _, _, _, rfl, rfl, ix2, s911 _ _ ix, ⟨E, E, he2, he.same s911, fE.i, fE.i, (decide_eq_true rfl).symm⟩, fun H12 s12 => ⟨_, rfl, iteF ?_⟩⟩
      have s1012 := s11.trans s12
      have s912 := s911.trans s12
      refine ⟨_, rfl, L, us, rfl, .inl (.of (s1012 _ _ hL)), _, rfl, rfl, _, rfl, ?_⟩
      rw [lus, decide_eq_true rfl]
      refine iteF ?_
      refine ⟨_, rfl, ?_⟩
      dsimp only [tNil]
      refine sl s912 ⟨_, rfl, rfl, _, rfl, ?_⟩
      rw [decide_eq_true rfl]
      refine iteF ?_
      refine ⟨_, rfl, _, rfl, ?_⟩
      dsimp only [tNil]
      refine smn s912 (ilL (sG9.trans s912)) (fun _ m => m) rfl fun H13 s13 => ⟨_, rfl, rfl, _, rfl, ?_⟩
      rw [decide_eq_true rfl]
      refine iteF ?_
      have s913 := s912.trans s13
      refine ⟨_, rfl, _, rfl, l, _, rfl, .of ((sG9.trans s913) _ _ gl), fun c hc => ⟨c, _, rfl, .inl ⟨.of upd_same, fun t ht => ?_⟩⟩⟩
      have s14 := (Same.new (o := .lst (zs.map V.str).reverse) hc).trans (Same.new (o := .tup (zs.map V.str).reverse) ht)
      have s914 := s913.trans s14
      have gt : (upd (upd H13 c (.lst (zs.map V.str).reverse)) t (.tup (zs.map V.str).reverse)) t = some (.tup (zs.reverse.map V.str)) := by
        rw [List.map_reverse]
        exact upd_same
      generalize upd (upd H13 c (.lst (zs.map V.str).reverse)) t (.tup (zs.map V.str).reverse) = H14 at s14 s914 gt
      dsimp only [tNil]
      refine smn s914 (ws := zs.reverse) ⟨.inr (.of gt), by rw [List.length_reverse]; omega, nd_rev ndz, fun z m => iz z (List.mem_reverse.mp m)⟩ (fun z m => List.mem_reverse.mpr m) (by rw [List.length_reverse]) fun H15 s15 => ⟨_, rfl, rfl, _, rfl, ?_⟩
      rw [decide_eq_true rfl]
      refine iteF ?_
      have s1015 := ((s1012.trans s13).trans s14).trans s15
      have s915 := s10.trans s1015
      have hL15 := s1015 _ _ hL
      refine ⟨_, rfl, .inl ⟨rfl, _, .of hL15⟩, L, us, .non, rfl, rfl, hL15, (by have := big (us.length + 1) (by omega); omega), ?_⟩
      have sL : Same H9 (upd H15 L (.lst (us ++ [.non]))) := Same.free2 s915 nL
      generalize upd H15 L (.lst (us ++ [.non])) = H16 at sL
      refine ⟨_, rfl, ?_⟩
      dsimp only [tNil]
      refine sh sL fun L2 us2 H17 s17 _ hL2 hSt2 => ?_
      have lus2 := Paired.length hSt2
      rw [shE_len] at lus2
      refine ⟨L2, us2, rfl, .inl (.of hL2), _, rfl, rfl, _, rfl, ?_⟩
      rw [lus2, decide_eq_true rfl]
      exact iteF ⟨_, _, _, _, _, _, rfl, s9.trans (sL.trans s17)⟩
    rintro σ H9 ⟨z7, z8, z9, z10, z11, z12, rfl, s9⟩
    have sG9 := sF.trans s9
    refine ⟨_, rfl, rfl, _, rfl, ?_⟩
    refine iteB' (fun c => ?_) (fun c => ?_)
    · have c := of_decide_eq_true c
      injection c with c
      have z1 : zs.length = 1 := by omega
      refine ⟨rfl, rfl, fun e H10 s10 hn => ?_⟩
      refine ⟨_, rfl, e, l, zs, rfl, ilL (sG9.trans s10), .inr ⟨hn, fun H11 s11 => ⟨rfl, _, rfl, ?_⟩⟩⟩
      rw [z1]
      exact iteF ⟨_, _, _, _, _, _, _, _, _, _, _, _, rfl, sHG.trans (sG9.trans (s10.trans s11))⟩
    · exact iteF ⟨_, _, _, _, _, _, _, _, _, _, _, _, rfl, sHG.trans sG9⟩
end
end SE
namespace SE
open PySem PySem.Spec PyProof.Rows L2
section
/-! ### what the top has left -/
theorem def_mk {K : PySem.W.Frag} {h : Heap} {mg : Str → Option Value} {x : Str} {st : Stmt} {f : Addr} {oc : Value} {od an : Option Addr} {osl : Array (Option Value)} {kV doc pm cdv ct : Value} (X : K.In h) (G : h.Ns mainGlobals mg)
    (a : PySem.W.nsIn K mainGlobals x = some (some (.ref f))) (l : K.lookup f = some ⟨oc, od, .func (PySem.W.fnOf x x (defArgs st) (defBody st) (defScope st) .none kV doc pm an cdv ct), osl⟩)
    (c : PySem.W.codeIn K cdv x = true) (k : PySem.W.keepIn K (.ref f) = true) : Def K mg x st := ⟨f, _, fun_mk l c k, PySem.W.mg_of X G a⟩
theorem defk_mk {K : PySem.W.Frag} {h : Heap} {mg : Str → Option Value} {x y : Str} {st : Stmt} {f d : Addr} {oc : Value} {od an : Option Addr} {osl : Array (Option Value)} {doc pm cdv ct : Value} (X : K.In h) (G : h.Ns mainGlobals mg)
    (a : PySem.W.nsIn K mainGlobals x = some (some (.ref f))) (l : K.lookup f = some ⟨oc, od, .func (PySem.W.fnOf x x (defArgs st) (defBody st) (defScope st) .none (.ref d) doc pm an cdv ct), osl⟩)
    (c : PySem.W.codeIn K cdv x = true) (k : PySem.W.keepIn K (.ref f) = true) (n : PySem.W.nsIn K d y = some (some .none)) : DefK K mg x st [(y, .non)] := by
  refine ⟨f, _, fun_mk l c k, ⟨⟨oc, od, .none, .ref d, doc, pm, an, cdv, ct, osl, rfl, l, c, .inl ⟨rfl, rfl⟩, .inr ⟨d, rfl, fun q hq => ?_⟩⟩, k⟩, PySem.W.mg_of X G a⟩
  rw [List.mem_singleton.mp hq]
  exact ⟨.none, n, rfl⟩
theorem init_mk {K : PySem.W.Frag} {x q y : Str} {st : Stmt} {f d : Addr} {oc : Value} {od an : Option Addr} {osl : Array (Option Value)} {doc pm cdv ct : Value}
    (l : K.lookup f = some ⟨oc, od, .func (PySem.W.fnOf x q (defArgs st) (defBody st) (defScope st) .none (.ref d) doc pm an cdv ct), osl⟩) (c : PySem.W.codeIn K cdv q = true) (k : PySem.W.keepIn K (.ref f) = true) (n : PySem.W.nsIn K d y = some (some .none)) :
    FunD K x q (defArgs st) (defBody st) (defScope st) [] [(y, .non)] f (PySem.W.fnOf x q (defArgs st) (defBody st) (defScope st) .none (.ref d) doc pm an cdv ct) := by
  refine ⟨⟨oc, od, .none, .ref d, doc, pm, an, cdv, ct, osl, rfl, l, c, .inl ⟨rfl, rfl⟩, .inr ⟨d, rfl, fun z hz => ?_⟩⟩, k⟩
  rw [List.mem_singleton.mp hz]
  exact ⟨.none, n, rfl⟩
theorem all_mk {l : PySem.W.OpenLaw} {w : World} {K : PySem.W.Frag} {h : Heap} {mg : Str → Option Value} {fa gI dI C D fL gP0 qP0 gP1 qP1 gP2 qP2 gP3 qP3 gP4 qP4 gM0 qM0 gQ gR : Addr} {tk1 tk2 tk3 tk4 tk5 tk6 : Tok} (X : K.In h) (G : h.Ns mainGlobals mg) (hfa : mg "law" = some (.ref fa))
    {odI anI : Option Addr} {slI : Array (Option Value)} {ocI dcI pmI cdI ctI : Value}
    {odP0 anP0 : Option Addr} {slP0 : Array (Option Value)} {ocP0 kVP0 dcP0 pmP0 cdP0 ctP0 : Value}
    {rP0 : List Value}
    {odP1 anP1 : Option Addr} {slP1 : Array (Option Value)} {ocP1 kVP1 dcP1 pmP1 cdP1 ctP1 : Value}
    {rP1 : List Value}
    {odP2 anP2 : Option Addr} {slP2 : Array (Option Value)} {ocP2 kVP2 dcP2 pmP2 cdP2 ctP2 : Value}
    {rP2 : List Value}
    {odP3 anP3 : Option Addr} {slP3 : Array (Option Value)} {ocP3 kVP3 dcP3 pmP3 cdP3 ctP3 : Value}
    {rP3 : List Value}
    {odP4 anP4 : Option Addr} {slP4 : Array (Option Value)} {ocP4 kVP4 dcP4 pmP4 cdP4 ctP4 : Value}
    {rP4 : List Value}
    {odM0 anM0 : Option Addr} {slM0 : Array (Option Value)} {ocM0 kVM0 dcM0 pmM0 cdM0 ctM0 : Value}
    {rM0 : List Value}
    {odQ anQ : Option Addr} {slQ : Array (Option Value)} {ocQ kVQ dcQ pmQ cdQ ctQ : Value}
    {odR anR : Option Addr} {slR : Array (Option Value)} {ocR kVR dcR pmR cdR ctR : Value}
    {odL anL : Option Addr} {slL : Array (Option Value)} {ocL kVL dcL pmL cdL ctL : Value} {es : Array DictEntry} {n : Nat} {uP uQ : Value}
    (d_is_whole : Def K mg "is_whole" sIsWhole)
    (d_power : Def K mg "power" sPower)
    (d_is_item : Def K mg "is_item" sIsItem)
    (d_is_word : Def K mg "is_word" sIsWord)
    (d_is_step : Def K mg "is_step" sIsStep)
    (d_may_hold_steps : Def K mg "may_hold_steps" sMayHold)
    (d_check_steps : Def K mg "check_steps" sChkSteps)
    (d_check_word : Def K mg "check_word" sChkWord)
    (d_least_peak : Def K mg "least_peak" sLeastPeak)
    (d_joined : Def K mg "joined" sJoined)
    (d_parts_of_step : Def K mg "parts_of_step" sPartsOfStep)
    (d_effect_of : Def K mg "effect_of" sEffectOf)
    (d_is_item_list : Def K mg "is_item_list" sIsItemList)
    (d_check_items : Def K mg "check_items" sCheckItems)
    (d_surplus : Def K mg "surplus" sSurplus)
    (d_shortest : Def K mg "shortest" sShortest)
    (d_shortest_length : Def K mg "shortest_length" sShortestLength)
    (d_ways_many : Def K mg "ways_many" sWaysMany)
    (d_shortest_many : Def K mg "shortest_many" sShortestMany)
    (d__law_pool : Def K mg "_law_pool" sPool)
    (d__law_take : Def K mg "_law_take" sTake)
    (d__law_items : Def K mg "_law_items" sItems)
    (d__law_all : Def K mg "_law_all" sLawAll)
    (z_isinstance : PySem.W.nsIn K mainGlobals "isinstance" = some none)
    (z_str : PySem.W.nsIn K mainGlobals "str" = some none)
    (z_len : PySem.W.nsIn K mainGlobals "len" = some none)
    (z_all : PySem.W.nsIn K mainGlobals "all" = some none)
    (z_tuple : PySem.W.nsIn K mainGlobals "tuple" = some none)
    (z_list : PySem.W.nsIn K mainGlobals "list" = some none)
    (z_enumerate : PySem.W.nsIn K mainGlobals "enumerate" = some none)
    (z_range : PySem.W.nsIn K mainGlobals "range" = some none)
    (z_abs : PySem.W.nsIn K mainGlobals "abs" = some none)
    (z_int : PySem.W.nsIn K mainGlobals "int" = some none)
    (z_bool : PySem.W.nsIn K mainGlobals "bool" = some none)
    (z_max : PySem.W.nsIn K mainGlobals "max" = some none)
    (z_min : PySem.W.nsIn K mainGlobals "min" = some none)
    (z_repr : PySem.W.nsIn K mainGlobals "repr" = some none)
    (z_set : PySem.W.nsIn K mainGlobals "set" = some none)
    (cL : PySem.W.nsIn K mainGlobals "LETTERS" = some (some (.str abc tk1)))
    (cM : PySem.W.nsIn K mainGlobals "MOST_LETTERS" = some (some (.int 8 tk2)))
    (cS : PySem.W.nsIn K mainGlobals "MOST_STEPS" = some (some (.int 1000 tk3)))
    (cF : PySem.W.nsIn K mainGlobals "FIRST_ITEM" = some (some (.str "a" tk4)))
    (cJ : PySem.W.nsIn K mainGlobals "MOST_ITEMS" = some (some (.int 50 tk5)))
    (cB : PySem.W.nsIn K mainGlobals "OTHER_ITEM" = some (some (.str "b" tk6)))
    (cO : PySem.W.nsIn K mainGlobals "OPPOSITES" = some (some (.ref D)))
    (lO : K.lookup D = some ⟨.type "dict", none, .dict es n, #[]⟩)
    (kO : PySem.W.KeysLit w.params es.toList)
    (wO : (D == sysModules) = false)
    (pO : PySem.W.nsIn K D "push" = some (some uP))
    (qO : PySem.W.nsIn K D "pop" = some (some uQ))
    (rP : RelV (.str "pop") uP)
    (rQ : RelV (.str "push") uQ)
    (aC : PySem.W.nsIn K mainGlobals "Effect" = some (some (.ref C)))
    (pg : PySem.W.plainGet K C Str.empty = true)
    (hd : PySem.W.hasDictIn K C = true)
    (po : PySem.W.plainOver K C = true)
    (sa : PySem.W.findIn K (.ref C) "__setattr__" = some (some (.builtin "object.__setattr__")))
    (nN : PySem.W.findIn K (.ref C) "needs" = some none)
    (nL : PySem.W.findIn K (.ref C) "leaves" = some none)
    (nH : PySem.W.findIn K (.ref C) "highest" = some none)
    (mkC : PySem.W.makesIn K C = true)
    (keC : PySem.W.keepIn K (.ref C) = true)
    (aI : PySem.W.findIn K (.ref C) "__init__" = some (some (.ref gI)))
    (iI : PySem.W.isFn K (.ref gI) = true)
    (lI : K.lookup gI = some ⟨ocI, odI, .func (PySem.W.fnOf "__init__" "Effect.__init__" (defArgs sInit) (defBody sInit) (defScope sInit) .none (.ref dI) dcI pmI anI cdI ctI), slI⟩)
    (cI : PySem.W.codeIn K cdI "Effect.__init__" = true)
    (kI : PySem.W.keepIn K (.ref gI) = true)
    (nI : PySem.W.nsIn K dI "peak" = some (some .none))
    (aP0 : PySem.W.findIn K (.ref C) "pops" = some (some (.ref qP0)))
    (bP0 : PySem.W.specialIn K (.ref qP0) "__get__" = some (some (.builtin "property.__get__")))
    (tP0 : PySem.W.takesIn K (.ref qP0) = some true)
    (uP0 : PySem.W.recIn K qP0 "property" = some (.ref gP0 :: rP0))
    (lP0 : K.lookup gP0 = some ⟨ocP0, odP0, .func (PySem.W.fnOf "pops" "Effect.pops" (defArgs sPops) (defBody sPops) (defScope sPops) .none kVP0 dcP0 pmP0 anP0 cdP0 ctP0), slP0⟩)
    (cP0 : PySem.W.codeIn K cdP0 "Effect.pops" = true)
    (kP0 : PySem.W.keepIn K (.ref gP0) = true)
    (aP1 : PySem.W.findIn K (.ref C) "pushes" = some (some (.ref qP1)))
    (bP1 : PySem.W.specialIn K (.ref qP1) "__get__" = some (some (.builtin "property.__get__")))
    (tP1 : PySem.W.takesIn K (.ref qP1) = some true)
    (uP1 : PySem.W.recIn K qP1 "property" = some (.ref gP1 :: rP1))
    (lP1 : K.lookup gP1 = some ⟨ocP1, odP1, .func (PySem.W.fnOf "pushes" "Effect.pushes" (defArgs sPushes) (defBody sPushes) (defScope sPushes) .none kVP1 dcP1 pmP1 anP1 cdP1 ctP1), slP1⟩)
    (cP1 : PySem.W.codeIn K cdP1 "Effect.pushes" = true)
    (kP1 : PySem.W.keepIn K (.ref gP1) = true)
    (aP2 : PySem.W.findIn K (.ref C) "is_never" = some (some (.ref qP2)))
    (bP2 : PySem.W.specialIn K (.ref qP2) "__get__" = some (some (.builtin "property.__get__")))
    (tP2 : PySem.W.takesIn K (.ref qP2) = some true)
    (uP2 : PySem.W.recIn K qP2 "property" = some (.ref gP2 :: rP2))
    (lP2 : K.lookup gP2 = some ⟨ocP2, odP2, .func (PySem.W.fnOf "is_never" "Effect.is_never" (defArgs sIsNever) (defBody sIsNever) (defScope sIsNever) .none kVP2 dcP2 pmP2 anP2 cdP2 ctP2), slP2⟩)
    (cP2 : PySem.W.codeIn K cdP2 "Effect.is_never" = true)
    (kP2 : PySem.W.keepIn K (.ref gP2) = true)
    (aP3 : PySem.W.findIn K (.ref C) "peak" = some (some (.ref qP3)))
    (bP3 : PySem.W.specialIn K (.ref qP3) "__get__" = some (some (.builtin "property.__get__")))
    (tP3 : PySem.W.takesIn K (.ref qP3) = some true)
    (uP3 : PySem.W.recIn K qP3 "property" = some (.ref gP3 :: rP3))
    (lP3 : K.lookup gP3 = some ⟨ocP3, odP3, .func (PySem.W.fnOf "peak" "Effect.peak" (defArgs sPeak) (defBody sPeak) (defScope sPeak) .none kVP3 dcP3 pmP3 anP3 cdP3 ctP3), slP3⟩)
    (cP3 : PySem.W.codeIn K cdP3 "Effect.peak" = true)
    (kP3 : PySem.W.keepIn K (.ref gP3) = true)
    (aP4 : PySem.W.findIn K (.ref C) "change" = some (some (.ref qP4)))
    (bP4 : PySem.W.specialIn K (.ref qP4) "__get__" = some (some (.builtin "property.__get__")))
    (tP4 : PySem.W.takesIn K (.ref qP4) = some true)
    (uP4 : PySem.W.recIn K qP4 "property" = some (.ref gP4 :: rP4))
    (lP4 : K.lookup gP4 = some ⟨ocP4, odP4, .func (PySem.W.fnOf "change" "Effect.change" (defArgs sChange) (defBody sChange) (defScope sChange) .none kVP4 dcP4 pmP4 anP4 cdP4 ctP4), slP4⟩)
    (cP4 : PySem.W.codeIn K cdP4 "Effect.change" = true)
    (kP4 : PySem.W.keepIn K (.ref gP4) = true)
    (rdC : PySem.W.readsIn K C (.type "type") = true)
    (gaC : PySem.W.specialIn K (.ref C) "__getattribute__" = some (some (.builtin "type.__getattribute__")))
    (aM0 : PySem.W.findCls K (.ref C) (.type "type") "never" = some (.get (.builtin "classmethod.__get__") (.ref qM0) .none (.ref C)))
    (uM0 : PySem.W.recIn K qM0 "classmethod" = some (.ref gM0 :: rM0))
    (fM0 : PySem.W.fnIn K gM0 = true)
    (lM0 : K.lookup gM0 = some ⟨ocM0, odM0, .func (PySem.W.fnOf "never" "Effect.never" (defArgs sNever) (defBody sNever) (defScope sNever) .none kVM0 dcM0 pmM0 anM0 cdM0 ctM0), slM0⟩)
    (cM0 : PySem.W.codeIn K cdM0 "Effect.never" = true)
    (kM0 : PySem.W.keepIn K (.ref gM0) = true)
    (aQ : PySem.W.findIn K (.ref C) "__eq__" = some (some (.ref gQ)))
    (iQ : PySem.W.isFn K (.ref gQ) = true)
    (lQ : K.lookup gQ = some ⟨ocQ, odQ, .func (PySem.W.fnOf "__eq__" "Effect.__eq__" (defArgs sEq) (defBody sEq) (defScope sEq) .none kVQ dcQ pmQ anQ cdQ ctQ), slQ⟩)
    (cQ : PySem.W.codeIn K cdQ "Effect.__eq__" = true)
    (kQ : PySem.W.keepIn K (.ref gQ) = true)
    (aNE : PySem.W.findIn K (.ref C) "__ne__" = some (some (.builtin "object.__ne__")))
    (e1 : PySem.W.findIn K (.ref C) "__class__" = some (some (.builtin "object.__class__")))
    (e2 : PySem.W.specialIn K (.builtin "object.__class__") "__get__" = some (some (.builtin "getset_descriptor.__get__")))
    (e3 : PySem.W.takesIn K (.builtin "object.__class__") = some true)
    (e4 : PySem.W.mroIn K C (.type "object") = some true)
    (aR : PySem.W.findIn K (.ref C) "__repr__" = some (some (.ref gR)))
    (iR : PySem.W.isFn K (.ref gR) = true)
    (lR : K.lookup gR = some ⟨ocR, odR, .func (PySem.W.fnOf "__repr__" "Effect.__repr__" (defArgs sRepr) (defBody sRepr) (defScope sRepr) .none kVR dcR pmR anR cdR ctR), slR⟩)
    (cR : PySem.W.codeIn K cdR "Effect.__repr__" = true)
    (kR : PySem.W.keepIn K (.ref gR) = true)
    (aL : PySem.W.nsIn K mainGlobals "law" = some (some (.ref fL)))
    (lL : K.lookup fL = some ⟨ocL, odL, .func (PySem.W.fnOf "law" "law" (defArgs sLaw) (defBody sLaw) (defScope sLaw) .none kVL dcL pmL anL cdL ctL), slL⟩)
    (ckL : PySem.W.codeIn K cdL "law" = true)
    (kL : PySem.W.keepIn K (.ref fL) = true) :
    ∃ fd : FuncData, (∀ (s : Shared) (v : Value), BindsTo s fd ⟨[v], []⟩ [("_law_script", v)]) ∧ ∀ base : Heap, K.In base → base.Ns mainGlobals mg → GOk l.prog w K mg base 10 fa fd ["_law_script"] (spLaw K) := by
  have e := hfa.symm.trans (PySem.W.mg_of X G aL)
  cases e
  have F := fun_mk (st := sLaw) lL ckL kL
  have m_isinstance : mg "isinstance" = none := PySem.W.mg_none_of X G z_isinstance
  have m_str : mg "str" = none := PySem.W.mg_none_of X G z_str
  have m_len : mg "len" = none := PySem.W.mg_none_of X G z_len
  have m_all : mg "all" = none := PySem.W.mg_none_of X G z_all
  have m_tuple : mg "tuple" = none := PySem.W.mg_none_of X G z_tuple
  have m_list : mg "list" = none := PySem.W.mg_none_of X G z_list
  have m_enumerate : mg "enumerate" = none := PySem.W.mg_none_of X G z_enumerate
  have m_range : mg "range" = none := PySem.W.mg_none_of X G z_range
  have m_abs : mg "abs" = none := PySem.W.mg_none_of X G z_abs
  have m_int : mg "int" = none := PySem.W.mg_none_of X G z_int
  have m_bool : mg "bool" = none := PySem.W.mg_none_of X G z_bool
  have m_max : mg "max" = none := PySem.W.mg_none_of X G z_max
  have m_min : mg "min" = none := PySem.W.mg_none_of X G z_min
  have m_repr : mg "repr" = none := PySem.W.mg_none_of X G z_repr
  have m_set : mg "set" = none := PySem.W.mg_none_of X G z_set
  have B : Blt mg := ⟨m_isinstance, m_str, m_len, m_all, m_tuple, m_list, m_enumerate⟩
  have Co : Cons K w mg := ⟨⟨_, PySem.W.mg_of X G cL⟩, ⟨_, PySem.W.mg_of X G cM⟩, ⟨_, PySem.W.mg_of X G cS⟩, ⟨D, es, n, uP, uQ, PySem.W.mg_of X G cO, ⟨lO, kO, wO⟩, pO, rP, qO, rQ⟩⟩
  have T : EC K mg C := ⟨⟨pg, hd, po, sa⟩, nN, nL, nH, PySem.W.mg_of X G aC⟩
  refine ⟨PySem.W.fnOf "law" "law" (defArgs sLaw) (defBody sLaw) (defScope sLaw) .none kVL dcL pmL anL cdL ctL, fun s v => .of_eq rfl, fun base _ _ => ?_⟩
  have gTake := has_take (P := l.prog) (w := w) (base := base) d__law_take
  have gPool := has_pool (P := l.prog) (w := w) (base := base) d__law_pool m_len m_abs m_int
  have gItems := has_items2 d__law_items gTake
  have gItem := has_isItem (P := l.prog) (w := w) (base := base) d_is_item B Co
  have gIsWord := has_isWord d_is_word gItem B
  have gCw := has_chkWord d_check_word gIsWord
  have gIsStep := has_isStep d_is_step gItem B Co
  have gMay := has_may (P := l.prog) (w := w) (base := base) d_may_hold_steps B Co
  have gChk := has_chkSteps d_check_steps gMay gIsStep B
  have gWh := has_whole (P := l.prog) (w := w) (base := base) d_is_whole B m_int m_bool
  have gLe := has_least (P := l.prog) (w := w) (base := base) d_least_peak B m_max
  have gM := (⟨gI, _, ⟨mkC, aI, iI, keC⟩, ok_init (fun_mk lI cI kI) T gCw gLe gWh, init_mk lI cI kI nI⟩ : Makes l.prog w K mg base C)
  have gPo := (⟨qP0, gP0, _, ⟨aP0, bP0, tP0, rP0, uP0⟩, ok_pops (fun_mk lP0 cP0 kP0) T, (fun_mk lP0 cP0 kP0).binds (ps := ["self"]) fun _ _ _ _ _ _ us hl => match us, hl with | [_], _ => rfl⟩ : PropHas l.prog w K mg base C "pops" 1 _)
  have gPu := (⟨qP1, gP1, _, ⟨aP1, bP1, tP1, rP1, uP1⟩, ok_push (fun_mk lP1 cP1 kP1) T, (fun_mk lP1 cP1 kP1).binds (ps := ["self"]) fun _ _ _ _ _ _ us hl => match us, hl with | [_], _ => rfl⟩ : PropHas l.prog w K mg base C "pushes" 1 _)
  have gNv := (⟨qP2, gP2, _, ⟨aP2, bP2, tP2, rP2, uP2⟩, ok_isNev (fun_mk lP2 cP2 kP2) T, (fun_mk lP2 cP2 kP2).binds (ps := ["self"]) fun _ _ _ _ _ _ us hl => match us, hl with | [_], _ => rfl⟩ : PropHas l.prog w K mg base C "is_never" 1 _)
  have gPk := (⟨qP3, gP3, _, ⟨aP3, bP3, tP3, rP3, uP3⟩, ok_peak (fun_mk lP3 cP3 kP3) T, (fun_mk lP3 cP3 kP3).binds (ps := ["self"]) fun _ _ _ _ _ _ us hl => match us, hl with | [_], _ => rfl⟩ : PropHas l.prog w K mg base C "peak" 1 _)
  have gCh := (⟨qP4, gP4, _, ⟨aP4, bP4, tP4, rP4, uP4⟩, ok_chan (fun_mk lP4 cP4 kP4) T B, (fun_mk lP4 cP4 kP4).binds (ps := ["self"]) fun _ _ _ _ _ _ us hl => match us, hl with | [_], _ => rfl⟩ : PropHas l.prog w K mg base C "change" 1 _)
  have fNe := ok_never (fun_mk lM0 cM0 kM0) T gM
  have bNe := (fun_mk (st := sNever) lM0 cM0 kM0).binds (ps := ["cls"]) fun _ _ _ _ _ _ us hl => match us, hl with | [_], _ => rfl
  have gNe := (⟨.type "type", qM0, gM0, ⟨rdC, gaC⟩, ⟨aM0, ⟨_, uM0⟩, fM0⟩, (fNe.raw bNe .nil).imp fun vs H Q E h => by rw [List.append_nil]; exact h⟩ : NeverHas l.prog w K mg base C)
  have gPart := has_part (P := l.prog) (w := w) (base := base) d_parts_of_step
  have gJn := has_join d_joined T gM gNe B m_max m_min
  have gE := has_effOf d_effect_of gChk gPart gJn
  have TI := (⟨e1, e2, e3, e4, if_pos (beq_self_eq_true _)⟩ : EI K C)
  have gEq := (⟨gQ, _, ok_eq (fun_mk lQ cQ kQ) T TI B, aQ, iQ, (fun_mk lQ cQ kQ).binds (ps := ["self", "other"]) fun _ _ _ _ _ _ us hl => match us, hl with | [_, _], _ => rfl, aNE⟩ : EqHas l.prog w K mg base C)
  have gRp := (⟨gR, _, ok_repr (fun_mk lR cR kR) T, aR, iR, (fun_mk lR cR kR).binds (ps := ["self"]) fun _ _ _ _ _ _ us hl => match us, hl with | [_], _ => rfl⟩ : ReprHas l.prog w K mg base C)
  have Sc := (⟨⟨_, PySem.W.mg_of X G cF⟩, ⟨_, PySem.W.mg_of X G cB⟩, ⟨_, PySem.W.mg_of X G cJ⟩⟩ : SC mg)
  have gPw := has_pow (P := l.prog) (w := w) (base := base) d_power m_range
  have gSu := has_sur d_surplus T gPo gPu gPk gLe
  have gSl := has_sl d_shortest_length T gPo gPu gNv gSu B
  have gWy := has_wy d_ways_many T gPo gCh gPk B
  have gSh := has_sh d_shortest T gPo gPu gCh gNv gSu Sc
  have gItX := has_itemX (P := l.prog) (w := w) (base := base) d_is_item B Co
  have gIl := has_il d_is_item_list gItX B m_set Sc
  have gCi := has_ci d_check_items gIl
  have gSm := has_sm d_shortest_many T gPo gPu gNv gCi gWy gPw gSu B
  have gAl := has_lall (P := l.prog) (w := w) (base := base) d__law_all m_range
  exact ok_law F T TI gEq gRp gNe gPool gTake gItems gAl gE gSh gSl gSm B m_range m_max m_min m_int m_repr
end
end SE
open PySem PySem.W PyProof.Rows
set_option maxHeartbeats 0 in
theorem PySem.Challenge.cw_stackeffect_k16_shortest_by_enumeration_holds : PySem.Challenge.rw_stackeffect_k16_shortest_by_enumeration.Holds := by
  w_on; o_law; k_head; (case hw => w_witness2)
  k_fill
  refine SE.walkG (l := PySem.Challenge.rw_stackeffect_k16_shortest_by_enumeration) (n := 63) (k := 10) (x := "_law_script") (sp := SE.spLaw) rfl (by decide) rfl ⟨rfl, by decide, by decide⟩ (fun w h Y => PySem.W.kIn_of Y) ?F (fun _ _ a ns hl hS => ⟨a, ns, rfl, hS, hl, fun _ => rfl⟩)
  case F =>
    intro w mg fa h KX G hmg
    refine' SE.all_mk KX G hmg ?d_is_whole ?d_power ?d_is_item ?d_is_word ?d_is_step ?d_may_hold_steps ?d_check_steps ?d_check_word ?d_least_peak ?d_joined ?d_parts_of_step ?d_effect_of ?d_is_item_list ?d_check_items ?d_surplus ?d_shortest ?d_shortest_length ?d_ways_many ?d_shortest_many ?d__law_pool ?d__law_take ?d__law_items ?d__law_all ?z_isinstance ?z_str ?z_len ?z_all ?z_tuple ?z_list ?z_enumerate ?z_range ?z_abs ?z_int ?z_bool ?z_max ?z_min ?z_repr ?z_set ?cL ?cM ?cS ?cF ?cJ ?cB ?cO ?lO ?kO ?wO ?pO ?qO ?rP ?rQ ?aC ?pg ?hd ?po ?sa ?nN ?nL ?nH ?mkC ?keC ?aI ?iI ?lI ?cI ?kI ?nI ?aP0 ?bP0 ?tP0 ?uP0 ?lP0 ?cP0 ?kP0 ?aP1 ?bP1 ?tP1 ?uP1 ?lP1 ?cP1 ?kP1 ?aP2 ?bP2 ?tP2 ?uP2 ?lP2 ?cP2 ?kP2 ?aP3 ?bP3 ?tP3 ?uP3 ?lP3 ?cP3 ?kP3 ?aP4 ?bP4 ?tP4 ?uP4 ?lP4 ?cP4 ?kP4 ?rdC ?gaC ?aM0 ?uM0 ?fM0 ?lM0 ?cM0 ?kM0 ?aQ ?iQ ?lQ ?cQ ?kQ ?aNE ?e1 ?e2 ?e3 ?e4 ?aR ?iR ?lR ?cR ?kR ?aL ?lL ?ckL ?kL
    (case d_is_whole => refine' SE.def_mk KX G ?a ?l ?c ?k; (case a => k_is); (case l => k_is); (case c => k_is); (case k => k_is))
    (case d_power => refine' SE.def_mk KX G ?a ?l ?c ?k; (case a => k_is); (case l => k_is); (case c => k_is); (case k => k_is))
    (case d_is_item => refine' SE.def_mk KX G ?a ?l ?c ?k; (case a => k_is); (case l => k_is); (case c => k_is); (case k => k_is))
    (case d_is_word => refine' SE.def_mk KX G ?a ?l ?c ?k; (case a => k_is); (case l => k_is); (case c => k_is); (case k => k_is))
    (case d_is_step => refine' SE.def_mk KX G ?a ?l ?c ?k; (case a => k_is); (case l => k_is); (case c => k_is); (case k => k_is))
    (case d_may_hold_steps => refine' SE.def_mk KX G ?a ?l ?c ?k; (case a => k_is); (case l => k_is); (case c => k_is); (case k => k_is))
    (case d_check_steps => refine' SE.def_mk KX G ?a ?l ?c ?k; (case a => k_is); (case l => k_is); (case c => k_is); (case k => k_is))
    (case d_check_word => refine' SE.def_mk KX G ?a ?l ?c ?k; (case a => k_is); (case l => k_is); (case c => k_is); (case k => k_is))
    (case d_least_peak => refine' SE.def_mk KX G ?a ?l ?c ?k; (case a => k_is); (case l => k_is); (case c => k_is); (case k => k_is))
    (case d_joined => refine' SE.def_mk KX G ?a ?l ?c ?k; (case a => k_is); (case l => k_is); (case c => k_is); (case k => k_is))
    (case d_parts_of_step => refine' SE.def_mk KX G ?a ?l ?c ?k; (case a => k_is); (case l => k_is); (case c => k_is); (case k => k_is))
    (case d_effect_of => refine' SE.def_mk KX G ?a ?l ?c ?k; (case a => k_is); (case l => k_is); (case c => k_is); (case k => k_is))
    (case d_is_item_list => refine' SE.def_mk KX G ?a ?l ?c ?k; (case a => k_is); (case l => k_is); (case c => k_is); (case k => k_is))
    (case d_check_items => refine' SE.def_mk KX G ?a ?l ?c ?k; (case a => k_is); (case l => k_is); (case c => k_is); (case k => k_is))
    (case d_surplus => refine' SE.def_mk KX G ?a ?l ?c ?k; (case a => k_is); (case l => k_is); (case c => k_is); (case k => k_is))
    (case d_shortest => refine' SE.def_mk KX G ?a ?l ?c ?k; (case a => k_is); (case l => k_is); (case c => k_is); (case k => k_is))
    (case d_shortest_length => refine' SE.def_mk KX G ?a ?l ?c ?k; (case a => k_is); (case l => k_is); (case c => k_is); (case k => k_is))
    (case d_ways_many => refine' SE.def_mk KX G ?a ?l ?c ?k; (case a => k_is); (case l => k_is); (case c => k_is); (case k => k_is))
    (case d_shortest_many => refine' SE.def_mk KX G ?a ?l ?c ?k; (case a => k_is); (case l => k_is); (case c => k_is); (case k => k_is))
    (case d__law_pool => refine' SE.def_mk KX G ?a ?l ?c ?k; (case a => k_is); (case l => k_is); (case c => k_is); (case k => k_is))
    (case d__law_take => refine' SE.def_mk KX G ?a ?l ?c ?k; (case a => k_is); (case l => k_is); (case c => k_is); (case k => k_is))
    (case d__law_items => refine' SE.def_mk KX G ?a ?l ?c ?k; (case a => k_is); (case l => k_is); (case c => k_is); (case k => k_is))
    (case d__law_all => refine' SE.def_mk KX G ?a ?l ?c ?k; (case a => k_is); (case l => k_is); (case c => k_is); (case k => k_is))
    (case z_isinstance => k_is)
    (case z_str => k_is)
    (case z_len => k_is)
    (case z_all => k_is)
    (case z_tuple => k_is)
    (case z_list => k_is)
    (case z_enumerate => k_is)
    (case z_range => k_is)
    (case z_abs => k_is)
    (case z_int => k_is)
    (case z_bool => k_is)
    (case z_max => k_is)
    (case z_min => k_is)
    (case z_repr => k_is)
    (case z_set => k_is)
    (case cL => k_is)
    (case cM => k_is)
    (case cS => k_is)
    (case cF => k_is)
    (case cJ => k_is)
    (case cB => k_is)
    (case cO => k_is)
    (case lO => k_is)
    (case kO => exact ⟨⟨_, _, rfl, rfl⟩, ⟨_, _, rfl, rfl⟩, trivial⟩)
    (case wO => rfl)
    (case pO => k_is)
    (case qO => k_is)
    (case rP => exact ⟨_, rfl⟩)
    (case rQ => exact ⟨_, rfl⟩)
    (case aC => k_is)
    (case pg => k_is)
    (case hd => k_is)
    (case po => k_is)
    (case sa => k_is)
    (case nN => k_is)
    (case nL => k_is)
    (case nH => k_is)
    (case mkC => k_is)
    (case keC => k_is)
    (case aI => k_is)
    (case iI => k_is)
    (case lI => k_is)
    (case cI => k_is)
    (case kI => k_is)
    (case nI => k_is)
    (case aP0 => k_is)
    (case bP0 => k_is)
    (case tP0 => k_is)
    (case uP0 => k_is)
    (case lP0 => k_is)
    (case cP0 => k_is)
    (case kP0 => k_is)
    (case aP1 => k_is)
    (case bP1 => k_is)
    (case tP1 => k_is)
    (case uP1 => k_is)
    (case lP1 => k_is)
    (case cP1 => k_is)
    (case kP1 => k_is)
    (case aP2 => k_is)
    (case bP2 => k_is)
    (case tP2 => k_is)
    (case uP2 => k_is)
    (case lP2 => k_is)
    (case cP2 => k_is)
    (case kP2 => k_is)
    (case aP3 => k_is)
    (case bP3 => k_is)
    (case tP3 => k_is)
    (case uP3 => k_is)
    (case lP3 => k_is)
    (case cP3 => k_is)
    (case kP3 => k_is)
    (case aP4 => k_is)
    (case bP4 => k_is)
    (case tP4 => k_is)
    (case uP4 => k_is)
    (case lP4 => k_is)
    (case cP4 => k_is)
    (case kP4 => k_is)
    (case rdC => k_is)
    (case gaC => k_is)
    (case aM0 => k_is)
    (case uM0 => k_is)
    (case fM0 => k_is)
    (case lM0 => k_is)
    (case cM0 => k_is)
    (case kM0 => k_is)
    (case aQ => k_is)
    (case iQ => k_is)
    (case lQ => k_is)
    (case cQ => k_is)
    (case kQ => k_is)
    (case aNE => k_is)
    (case e1 => k_is)
    (case e2 => k_is)
    (case e3 => k_is)
    (case e4 => k_is)
    (case aR => k_is)
    (case iR => k_is)
    (case lR => k_is)
    (case cR => k_is)
    (case kR => k_is)
    (case aL => k_is)
    (case lL => k_is)
    (case ckL => k_is)
    (case kL => k_is)
