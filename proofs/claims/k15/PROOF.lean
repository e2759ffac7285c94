import PyProof.Rows.All
import Wide.All
import OpenK.AllK
import Wide.FinOn
import PyProof.EqAt
import PyProof.EqKinds
import PyProof.TupleCall
import HandS.Base
import HandS.Call
import HandS.List
import HandS.Ends
import HandS.Words
import HandS.Comp
import HandS.Dict
import HandS.Iter
import HandS.Text
import HandS.WordsList
import HandS.Defaults
import PyProof.EnumMake
import PyProof.Draws
import KE.GoesMore
import KE.KRevSl
import PyProof.ReprLen
import PyProof.ReprText
import HandS.More
import HandS.Evl
import HandS.Walk
import HandS.IsInst
import HandS.TupAny
import HandS.Style
import HandS.TupMul
import HandS.Strs
import HandS.Set
import HandS.GenBody
import HandS.GenYield
import HandS.GenCall
import HandS.GenList
import PyProof.GenComp
import HandS.Property
import HandS.ClsMeth
import HandS.MakeKwOnly
import PyProof.InstEq
import KE.KFmtOwn
import HandS.OwnEq
import HandS.FStr
import HandS.Deep
import PyProof.ReprRoads
import PyProof.ReprDict
import PyProof.CallFns
import HandS.Exc
import HandS.ExcOwn
import HandS.ExcInit
import HandS.ExcField
import HandS.ExcIs
import HandS.WordsExc
import KE.KExcIs
import HandS.Zip
import HandS.TryMany
import HandS.Star
import KE.DataMinKey
import HandS.SortKw
import KE.SortData
import HandS.Flow
import PySem.Challenge.RW_stackeffect_k15_effects_that_commute
set_option Elab.async false
set_option linter.all false
set_option maxRecDepth 100000
set_option maxHeartbeats 4000000
/-! Defs called where no repr is under way: their promise (GOk), their call, the law's head, and repr of plain data. -/
namespace SE
open PySem PySem.Spec PyProof.Rows L2

/-- the promise of a def whose caller has no repr under way -/
structure GOk (P : Program) (w : World) (K : PySem.W.Frag) (mg : Str → Option Value) (base : Heap) (k : Nat) (f : Addr) (fd : FuncData) (ps : List Str) (sp : Sp) : Prop where
  len : ∀ xs H Q E, sp xs H Q E → xs.length = ps.length
  run : ∀ (A : Around) (out : List Env) (s : Shared) (H : Hp) (args : Args) (us : List Value) (xs : List V) (Q : VK) (E : XK), A.guards = some [] → Room k A → Env0 P w K mg base A out s H →
    BindsTo s fd args (ps.zip us) → Vals xs us → sp xs H Q E → codeAny (model P w) A (.call (.ref f) args) (CR (fun _ _ _ _ _ _ => False) out P w H s Q E) s

section
variable {P : Program} {w : World} {K : PySem.W.Frag} {mg : Str → Option Value} {base : Heap}
theorem gok_of {k : Nat} {f : Addr} {nm ql : Str} {pars : Arguments} {bd : List Stmt} {sc : Scope} {dV kV doc pm cv ct oc : Value} {an od : Option Addr}
    {osl : Array (Option Value)} {N ps : List Str} {sp : Sp} (look : K.lookup f = some ⟨oc, od, .func (PySem.W.fnOf nm ql pars bd sc dV kV doc pm an cv ct), osl⟩) (hcode : PySem.W.codeIn K cv ql = true) (S : FnScope N ps sc)
    (len : ∀ xs H Q E, sp xs H Q E → xs.length = ps.length)
    (hbd : ∀ (A : Around) (out : List Env) (s : Shared) (H : Hp) (xs : List V) (Q : VK) (E : XK), A.guards = some [] → Room k (A.deeper (envOfC ql sc s.heap.objs.size f cv)) → sp xs H Q E →
      ∃ t, PSs (cxOf (fun _ _ _ _ _ _ => False) P w K mg base N ql sc f cv A out s H E) bd t ∧ t { nx := fun _ H2 => Q .non H2, rt := Q } (start N xs) H) :
    GOk P w K mg base (k + 1) f (PySem.W.fnOf nm ql pars bd sc dV kV doc pm an cv ct) ps sp := by
  constructor
  · exact len
  intro A out s H args us xs Q E hgu hroom env hbind hvals hpre
  have hlen := len _ _ _ _ hpre
  have kin : K.In s.heap := env.mod.kin.keeps fun b o z => (env.bs b o z).1
  have nolim : s.heap.NoLimit := env.mod.nolimit.keeps fun b o z => (env.bs b o z).1
  have kinds : ∀ y ∈ ps.zip us, sc.names.lookup y.1 = some .local ∨ (sc.names.lookup y.1 = some .cell ∧ ((cellsFrom (s.heap.objs.size + 1) sc.names []).lookup y.1).isSome = true) := by
    rintro ⟨n, v⟩ hy
    rcases S.par n (List.of_mem_zip hy).1 with q | q
    · exact .inl q
    · exact .inr ⟨q, PySem.W.cellsFrom_some _ _ _ (.inl q)⟩
  apply codeAny_call_function hroom.depth (kin _ _ look) rfl S.co S.gen rfl (PySem.W.codeRec_of kin hcode)
  apply hbind
  refine wpAny_newFunctionEnv_cells S.kind kinds fun ev hev s2 inc => ?_
  subst hev
  refine ⟨nolim.keeps inc.toInCall.keep, codeAny_func ?_⟩
  obtain ⟨t, der, rd⟩ := hbd A out s H xs Q E hgu (hroom.deeper _) hpre
  have J0 : Inv (cxOf (fun _ _ _ _ _ _ => False) P w K mg base N ql sc f cv A out s H E) [] (start N xs) H s2 := inv_start S hroom.hd env hlen hvals inc
  refine wpAny_mono (der.run [] s2 (start N xs) H _ J0 rd) (fun fl s3 hs => ?_) fun e s3 hs => hs
  cases fl with
  | ret u =>
    obtain ⟨v, σ3, H3, J, rv, q⟩ := hs
    exact ⟨v, H3, J.os, J.bare, J.base, J.hok, rv, q⟩
  | next =>
    obtain ⟨σ3, H3, J, q⟩ := hs
    exact ⟨V.non, H3, J.os, J.bare, J.base, J.hok, rfl, q⟩
  | brk => exact hs.elim fun _ z => z.elim fun _ z => z.2.elim
  | cont => exact hs.elim fun _ z => z.elim fun _ z => z.2.elim
theorem gok_mk {x ql : Str} {st : Stmt} {f : Addr} {fd : FuncData} {N ps : List Str} {k : Nat} {sp : Sp} (F : Fun K x ql st f fd) (S : FnScope N ps (defScope st)) (len : ∀ xs H Q E, sp xs H Q E → xs.length = ps.length)
    (hbd : ∀ (cv : Value) (A : Around) (out : List Env) (s : Shared) (H : Hp) (xs : List V) (Q : VK) (E : XK), A.guards = some [] → Room k (A.deeper (envOfC ql (defScope st) s.heap.objs.size f cv)) → sp xs H Q E →
      ∃ t, PSs (cxOf CX0 P w K mg base N ql (defScope st) f cv A out s H E).nox (defBody st) t ∧ t { nx := fun _ H2 => Q .non H2, rt := Q } (start N xs) H) : GOk P w K mg base (k + 1) f fd ps sp := by
  obtain ⟨oc, od, kV, doc, pm, an, cv, ct, osl, rfl, look, hcode⟩ := F.ex
  refine gok_of look hcode S len fun A out s H xs Q E hgu hr hpre => ?_
  obtain ⟨t, a, b⟩ := hbd cv A out s H xs Q E hgu hr hpre
  exact ⟨t, a.nox, b⟩
end

section
variable {X : Cx} {k : Nat} {f : Addr} {fd : FuncData} {ps : List Str} {sp : Sp} {x : Str} {p pos : Pos} {e : Expr} {es : List Expr} {t : TA}
theorem pe_callG (F : GOk X.prog X.w X.K X.mg X.base k f fd ps sp) (hgu : X.A.guards = some []) (hr : Room k X.A) (hg : Gl X x) (hm : X.mg x = some (.ref f)) (hk : PySem.W.keepIn X.K (.ref f) = true) (hb : Binds X.K fd ps [])
    (ha : PA X (e :: es) t) (hdb : (x == ("__debug__" : Str)) = false := by decide) (he : starEach (e :: es) X.env = (false, eval e X.env) :: starEach es X.env := by rfl) (hpl : (backTo pos (starEach es X.env)).any (·.1) = false := by rfl) :
    PE X (.Call (.Name x p) (e :: es) [] pos) (tCall sp [] (fun _ _ _ => False) t) := by
  constructor
  intro pins s σ H Q I h
  apply wpAny_Call_Name_kw
  apply ld_glob I hg hm _ hdb
  refine PySem.W.callWith_K (h₀ := X.base) I.ok.mod.kin hk (thn (ha.run pos pins s σ H _ I h) fun us s1 hh => ?_) he hpl
  obtain ⟨xs, H1, I1, r, q⟩ := hh
  refine ⟨I1.kIn, ?_⟩
  have q' : sp xs H1 Q (fun _ _ _ => False) := by rw [List.append_nil] at q; exact q
  have hl : us.length = ps.length := by rw [← r.length]; exact F.len _ _ _ _ q'
  have hb' := hb s1 us I1.kIn (by rw [List.append_nil]; exact hl)
  rw [List.append_nil] at hb'
  refine wpAny_call (codeAny_mono (F.run X.A X.stack s1 H1 ⟨us, []⟩ us xs Q _ hgu hr I1.env0 hb' r q') fun r2 s2 hq => ?_)
  cases r2 with
  | error _ => exact hq.elim
  | ok fl =>
    cases fl with
    | ret _ => exact I1.after hq
    | next => exact hq.elim
    | brk => exact hq.elim
    | cont => exact hq.elim
end

section
variable {X : Cx}
/-- repr(x), x plain data -/
def rRep (K : PySem.W.Frag) : List V → Hp → VK → Prop := fun xs H Q => ∃ (x : V) (d : PyData), xs = [x] ∧ Dp K H x d ∧ (∃ a, x = .ref a) ∧ d.showable = true ∧ d.hasDict = false ∧ d.depth ≤ 20 ∧ d.shown.length ≤ sizeLine ∧ Q (.str d.shown) H
theorem call_rep (hgu : X.A.guards = some []) (hu : X.A.units + 64 < cLine) : CallR X (.builtin "repr") (rRep X.K) := by
  intro pins s σ H xs us Q I r h
  obtain ⟨x, d, rfl, hd, ⟨a, rfl⟩, hs, hn, hdep, hz, q⟩ := h
  cases r with
  | cons r1 r2 =>
    cases r2
    cases r1
    obtain ⟨as, rd⟩ := Dp.reads I d (.ref a) (.ref a) hd rfl
    refine repr_of_reads' rd hs (PyData.noDict_hsm hn) hgu (by omega) (fun _ _ z => z) (fun h' u tk hk => ?_) hz
    exact ⟨.str d.shown, H, I.kept (t' := tk) hk, ⟨_, rfl⟩, q⟩
end
/-! ### the law's head -/
theorem lawG {P : Program} {w : World} {K : PySem.W.Frag} {mg mb : Str → Option Value} {k : Nat} {fa a : Addr} {fd : FuncData} {x : Str} {sp : Sp} {s1 : Shared} {vs : List Value} {ns : List Int}
    (kin : K.In s1.heap) (hns : s1.heap.Ns mainGlobals mg) (hbn : s1.heap.Ns builtinsNs mb) (hbb : ∀ x : Str, x ≠ "__name__" → mb x = bootBuiltins x) (nolim : s1.heap.NoLimit) (hg : s1.gens = #[])
    (hobj : s1.heap.get? a = some { cls := .type "list", data := .seq vs.toArray }) (hi : IntsAre vs ns) (hz : ns.length ≤ sizeLine) (hr : Room k callerA)
    (F : ∀ base : Heap, K.In base → base.Ns mainGlobals mg → GOk P w K mg base k fa fd [x] sp) (hbind : ∀ (s : Shared) (u : Value), BindsTo s fd ⟨[u], []⟩ [(x, u)])
    (hsp : ∀ H : Hp, SqL K H a (ns.map V.int) → sp [.ref a] H (fun v _ => v = .bl true) fun _ _ _ => False) :
    codeAny (model P w) callerA (.call (.ref fa) ⟨[.ref a], []⟩) (fun r s2 => r = .ok (.ret (.bool true)) ∧ OldK s1.heap s2.heap ∧ s2.os = s1.os ∧ AllBare s2.gens) s1 := by
  have rel := vals_ints hi
  have same := hi.length
  have go : ∀ H : Hp, (∀ b u, H b = some u → b = a ∧ K.lookup a = none ∧ ∃ o xs, u = .frz o (.lst xs)) → SqL K H a (ns.map V.int) → HOk P w H s1.heap →
      codeAny (model P w) callerA (.call (.ref fa) ⟨[.ref a], []⟩) (fun r s2 => r = .ok (.ret (.bool true)) ∧ OldK s1.heap s2.heap ∧ s2.os = s1.os ∧ AllBare s2.gens) s1 := by
    intro H only hS hok
    have free : ∀ {b : Addr}, b ≠ a → H b = none := fun {b} hb => by
      cases q : H b with
      | none => rfl
      | some u => exact absurd (only b u q).1 hb
    have freeD : ∀ {b : Addr} {o : Obj} {es : Array DictEntry} {ep : Nat}, s1.heap.get? b = some o → o.data = .dict es ep → H b = none := fun {b o es ep} e d => by
      by_cases hb : b = a
      · subst hb
        rw [hobj] at e
        cases e
        cases d
      · exact free hb
    have ns2 : ∀ {b : Addr} {m : Str → Option Value}, s1.heap.Ns b m → (hidT s1.heap H).Ns b m := by
      rintro b m ⟨o, es, ep, e, d, r⟩
      exact ⟨o, es, ep, hidT_get e (freeD e d), d, r⟩
    have kin2 : K.In (hidT s1.heap H) := by
      intro b o e
      refine hidT_get (kin b o e) ?_
      cases q : H b with
      | none => rfl
      | some u =>
        obtain ⟨eb, nk, _⟩ := only b u q
        subst eb
        rw [nk] at e
        cases e
    have mod : Mod K mg (hidT s1.heap H) := by
      refine ⟨kin2, ns2 hns, ⟨mb, ns2 hbn, hbb⟩, ?_⟩
      obtain ⟨mc, h1, h2⟩ := nolim
      exact ⟨mc, ns2 h1, h2⟩
    have env : Env0 P w K mg (hidT s1.heap H) callerA [] s1 H :=
      ⟨rfl, mod, fun b o e => of_hidT e, Nat.le_of_eq (hidT_size _ _), trivial, fun b hb => (by cases (show b ∈ ([] : List Addr) from hb)), hok, .of_eq hg⟩
    have runs := (F _ kin2 (ns2 hns)).run callerA [] s1 H ⟨[.ref a], []⟩ [.ref a] [.ref a] (fun v _ => v = .bl true) (fun _ _ _ => False) rfl hr env (hbind s1 (.ref a)) (.cons rfl .nil) (hsp H hS)
    refine codeAny_mono runs fun r s2 h => ?_
    cases r with
    | error _ => exact h.elim
    | ok fl =>
      cases fl with
      | next => exact h.elim
      | brk => exact h.elim
      | cont => exact h.elim
      | ret u =>
        obtain ⟨v, H2, os, bare, un, hok2, r2, q⟩ := h
        have q2 : v = .bl true := q
        subst q2
        obtain rfl : u = Value.bool true := r2
        refine ⟨rfl, OldK.of_keep fun b o e => ?_, os, bare⟩
        cases z : H b with
        | none => exact un.keep b o e z (fun m => by cases (show b ∈ ([] : List Addr) from m)) (fun m => by cases m)
        | some u2 =>
          obtain ⟨_, _, ob, ys, eu⟩ := only b u2 z
          subst eu
          obtain ⟨e1, _⟩ := hok b _ z
          obtain ⟨e2, _⟩ := hok2 b _ (un.frzs b ob _ z)
          rw [e] at e1
          cases e1
          exact e2
  cases hk : K.lookup a with
  | some o =>
    have e := kin a o hk
    rw [hobj] at e
    cases e
    refine go (fun _ => none) (fun b u z => nomatch z) (.inr ⟨_, vs.toArray, _, hk, rfl, rfl, rfl, by rw [List.size_toArray, same]; exact hz, by simpa using rel⟩) (fun b u z => nomatch z)
  | none =>
    have at1 : ∀ {b : Addr} {u : HO}, (if b = a then some (HO.frz { cls := .type "list", data := .seq vs.toArray } (.lst (ns.map V.int))) else none) = some u → b = a ∧ u = .frz { cls := .type "list", data := .seq vs.toArray } (.lst (ns.map V.int)) := fun {b u} z => by
      by_cases hb : b = a
      · rw [if_pos hb] at z
        cases z
        exact ⟨hb, rfl⟩
      · rw [if_neg hb] at z
        cases z
    refine go (fun b => if b = a then some (.frz { cls := .type "list", data := .seq vs.toArray } (.lst (ns.map V.int))) else none) (fun b u z => ?_) (.inl (.inr ⟨{ cls := .type "list", data := .seq vs.toArray }, if_pos rfl⟩)) (fun b u z => ?_)
    · obtain ⟨e1, e2⟩ := at1 z
      exact ⟨e1, hk, _, _, e2⟩
    · obtain ⟨e1, e2⟩ := at1 z
      subst e1
      subst e2
      exact ⟨hobj, by rw [List.length_map]; exact hz, vs, _, rel, hobj⟩
theorem walkG {l : PySem.W.OpenLaw} {n k : Nat} {q : Program} {loose : List Str} {XP : (Str → Option Value) → Heap → Prop} {YP : World → Heap → Prop} {d : DefRec} {K : Params → PySem.W.Frag} {sp : PySem.W.Frag → Sp} {x : Str}
    (hn : l.most = some n) (hn2 : n ≤ sizeLine) (hdf : d.params.defaults = []) (hr : Room k callerA) (hY : ∀ (w : World) (h : Heap), YP w h → (K w.params).In h)
    (F : ∀ (w : World) (mg : Str → Option Value) (fa : Addr) (h : Heap), (K w.params).In h → h.Ns mainGlobals mg → mg d.name = some (.ref fa) →
      ∃ fd : FuncData, (∀ (s : Shared) (u : Value), BindsTo s fd ⟨[u], []⟩ [(x, u)]) ∧ ∀ base : Heap, (K w.params).In base → base.Ns mainGlobals mg → GOk l.prog w (K w.params) mg base k fa fd [x] (sp (K w.params)))
    (hsp : ∀ (K : PySem.W.Frag) (H : Hp) (a : Addr) (ns : List Int), ns.length ≤ n → SqL K H a (ns.map V.int) → sp K [.ref a] H (fun v _ => v = .bl true) fun _ _ _ => False) :
    PySem.W.WalkO q loose XP YP l.row.toRowW d [] (fun f vs => PySem.call f vs) := by
  apply Att.attach_call hn hdf
  intro w s0 s1 mg mb fa o pm cd doc a vs ns G Y ho hd hcd hmg hobj hints hlen hg
  have kin := hY w _ Y
  obtain ⟨fd, hb, hF⟩ := F w mg fa _ kin G.T.g hmg
  exact lawG kin G.T.g G.T.b G.T.builtins G.T.nolimit hg hobj hints (Nat.le_trans hlen hn2) hr hF hb fun H hS => hsp _ H a ns hlen hS
end SE
/-! Defs by their names. -/
namespace SE
open PySem PySem.Spec PyProof.Rows L2
section
variable {P : Program} {w : World} {K : PySem.W.Frag} {mg : Str → Option Value} {base : Heap}
/-- the def st stands under its name -/
def Def (K : PySem.W.Frag) (mg : Str → Option Value) (x : Str) (st : Stmt) : Prop := ∃ f fd, Fun K x x st f fd ∧ mg x = some (.ref f)
/-- a def that keeps the promise sp stands under the name x; dvs: the values of its defaults -/
def Has (P : Program) (w : World) (K : PySem.W.Frag) (mg : Str → Option Value) (base : Heap) (x : Str) (k : Nat) (ps : List Str) (dvs : List V) (sp : Sp) : Prop :=
  ∃ f fd ds, FnOk P w K mg base CX0 k f fd ps sp ∧ mg x = some (.ref f) ∧ PySem.W.keepIn K (.ref f) = true ∧ Binds K fd ps ds ∧ Vals dvs ds ∧ ∃ st, Fun K x x st f fd
def GHas (P : Program) (w : World) (K : PySem.W.Frag) (mg : Str → Option Value) (base : Heap) (x : Str) (k : Nat) (ps : List Str) (sp : Sp) : Prop :=
  ∃ f fd, GOk P w K mg base k f fd ps sp ∧ mg x = some (.ref f) ∧ PySem.W.keepIn K (.ref f) = true ∧ Binds K fd ps []
abbrev Bx (P : Program) (w : World) (K : PySem.W.Frag) (mg : Str → Option Value) (base : Heap) (N : List Str) (x : Str) (st : Stmt) (f : Addr) (cv : Value) (A : Around) (out : List Env) (s : Shared) (H : Hp) (E : XK) : Cx :=
  (cxOf CX0 P w K mg base N x (defScope st) f cv A out s H E).nox
theorem has_of {x : Str} {st : Stmt} {N ps : List Str} {k : Nat} {sp : Sp} (D : Def K mg x st) (S : FnScope N ps (defScope st))
    (hb : ∀ (kV doc pm : Value) (an : Option Addr) (cv ct : Value) (us : List Value), us.length = ps.length → bindArgs (PySem.W.fnOf x x (defArgs st) (defBody st) (defScope st) .none kV doc pm an cv ct) ⟨us, []⟩ = pure (ps.zip us))
    (len : ∀ xs H Q E, sp xs H Q E → xs.length = ps.length)
    (hbd : ∀ (f : Addr) (cv : Value) (A : Around) (out : List Env) (s : Shared) (H : Hp) (xs : List V) (Q : VK) (E : XK), Room k (A.deeper (envOfC x (defScope st) s.heap.objs.size f cv)) → sp xs H Q E →
      ∃ t, PSs (Bx P w K mg base N x st f cv A out s H E) (defBody st) t ∧ t { nx := fun _ H2 => Q .non H2, rt := Q } (start N xs) H) : Has P w K mg base x (k + 1) ps [] sp := by
  obtain ⟨f, fd, F, hm⟩ := D
  exact ⟨f, fd, [], F.ok S len fun cv A out s H xs Q E hr h => hbd f cv A out s H xs Q E hr h, hm, F.kp, F.binds hb, .nil, st, F⟩
theorem ghas_of {x : Str} {st : Stmt} {N ps : List Str} {k : Nat} {sp : Sp} (D : Def K mg x st) (S : FnScope N ps (defScope st))
    (hb : ∀ (kV doc pm : Value) (an : Option Addr) (cv ct : Value) (us : List Value), us.length = ps.length → bindArgs (PySem.W.fnOf x x (defArgs st) (defBody st) (defScope st) .none kV doc pm an cv ct) ⟨us, []⟩ = pure (ps.zip us))
    (len : ∀ xs H Q E, sp xs H Q E → xs.length = ps.length)
    (hbd : ∀ (f : Addr) (cv : Value) (A : Around) (out : List Env) (s : Shared) (H : Hp) (xs : List V) (Q : VK) (E : XK), A.guards = some [] → Room k (A.deeper (envOfC x (defScope st) s.heap.objs.size f cv)) → sp xs H Q E →
      ∃ t, PSs (Bx P w K mg base N x st f cv A out s H E) (defBody st) t ∧ t { nx := fun _ H2 => Q .non H2, rt := Q } (start N xs) H) : GHas P w K mg base x (k + 1) ps sp := by
  obtain ⟨f, fd, F, hm⟩ := D
  exact ⟨f, fd, gok_mk F S len fun cv A out s H xs Q E hg hr h => hbd f cv A out s H xs Q E hg hr h, hm, F.kp, F.binds hb⟩
theorem Has.mono {x : Str} {j k : Nat} {ps : List Str} {dvs : List V} {sp : Sp} (h : Has P w K mg base x j ps dvs sp) (hk : j ≤ k) : Has P w K mg base x k ps dvs sp := by
  obtain ⟨f, fd, ds, F, r⟩ := h
  exact ⟨f, fd, ds, F.mono hk, r⟩
theorem Has.fun {x : Str} {k : Nat} {ps : List Str} {dvs : List V} {sp : Sp} {st : Stmt} (h : Has P w K mg base x k ps dvs sp) (D : Def K mg x st) : ∃ f fd, FnOk P w K mg base CX0 k f fd ps sp ∧ mg x = some (.ref f) ∧ PySem.W.keepIn K (.ref f) = true ∧ Fun K x x st f fd := by
  obtain ⟨f, fd, ds, G, hm, hk, hb, hd, st2, F2⟩ := h
  obtain ⟨g, fe, F, hg⟩ := D
  have e : f = g := by
    rw [hm] at hg
    cases hg
    rfl
  subst e
  have e2 : fd = fe := by
    obtain ⟨_, _, _, _, _, _, _, _, _, _, l1, _⟩ := F.ex
    obtain ⟨_, _, _, _, _, _, _, _, _, _, l2, _⟩ := F2.ex
    rw [l1] at l2
    cases l2
    rfl
  subst e2
  exact ⟨f, fd, G, hm, hk, F⟩
end
section
variable {X : Cx} {k : Nat} {ps : List Str} {sp : Sp} {x : Str} {p pos : Pos} {e : Expr} {es : List Expr} {t : TA} {dvs : List V}
theorem pe_has (h : Has X.prog X.w X.K X.mg X.base x k ps dvs sp) (hr : Room k X.A) (ha : PA X (e :: es) t) (hg : Gl X x := by rfl) (hdb : (x == ("__debug__" : Str)) = false := by decide)
    (he : starEach (e :: es) X.env = (false, eval e X.env) :: starEach es X.env := by rfl) (hpl : (backTo pos (starEach es X.env)).any (·.1) = false := by rfl) : PE X (.Call (.Name x p) (e :: es) [] pos) (tCall sp dvs E0 t) := by
  obtain ⟨f, fd, ds, F, hm, hk, hb, hd, _⟩ := h
  exact pe_call F hr hg hm hk hb hd pass0 ha hdb he hpl
theorem pe_ghas (h : GHas X.prog X.w X.K X.mg X.base x k ps sp) (hgu : X.A.guards = some []) (hr : Room k X.A) (ha : PA X (e :: es) t) (hg : Gl X x := by rfl) (hdb : (x == ("__debug__" : Str)) = false := by decide)
    (he : starEach (e :: es) X.env = (false, eval e X.env) :: starEach es X.env := by rfl) (hpl : (backTo pos (starEach es X.env)).any (·.1) = false := by rfl) : PE X (.Call (.Name x p) (e :: es) [] pos) (tCall sp [] E0 t) := by
  obtain ⟨f, fd, F, hm, hk, hb⟩ := h
  exact pe_callG F hgu hr hg hm hk hb ha hdb he hpl
end
/-! ### heaps -/
theorem Same.tup {K : PySem.W.Frag} {H H' : Hp} {a : Addr} {xs : List V} (e : Same H H') (h : SqT K H a xs) : SqT K H' a xs := by
  rcases h with (h | ⟨o, h⟩) | h
  · exact .inl (.inl (e _ _ h))
  · exact .inl (.inr ⟨o, e _ _ h⟩)
  · exact .inr h
theorem Same.new {H : Hp} {p : Addr} {o : HO} (h : H p = none) : Same H (upd H p o) := fun b u z => by
  rw [upd_ne (ne_of_none z h)]
  exact z
/-- all but what stands at p -/
def But (p : Addr) (H H' : Hp) : Prop := ∀ b o, b ≠ p → H b = some o → H' b = some o
theorem But.refl (p : Addr) (H : Hp) : But p H H := fun _ _ _ h => h
theorem But.trans {p : Addr} {H H1 H2 : Hp} (a : But p H H1) (b : But p H1 H2) : But p H H2 := fun c o n h => b c o n (a c o n h)
theorem But.of {p : Addr} {H H1 : Hp} (a : Same H H1) : But p H H1 := fun c o _ h => a c o h
theorem But.at {p : Addr} {H : Hp} {o : HO} : But p H (upd H p o) := fun c u n h => by
  rw [upd_ne n]
  exact h
/-- what H does not know may change -/
theorem But.free {p q : Addr} {H H1 : Hp} {o : HO} (a : But p H H1) (h : H q = none) : But p H (upd H1 q o) := fun c u n z => by
  rw [upd_ne (ne_of_none z h)]
  exact a c u n z
theorem Same.free2 {q : Addr} {H H1 : Hp} {o : HO} (a : Same H H1) (h : H q = none) : Same H (upd H1 q o) := fun c u z => by
  rw [upd_ne (ne_of_none z h)]
  exact a c u z
theorem But.none {p q : Addr} {H H1 : Hp} (a : But p H H1) (n : q ≠ p) (h : H1 q = Option.none) : H q = Option.none := by
  cases z : H q with
  | none => rfl
  | some o =>
    rw [a q o n z] at h
    cases h
/-! ### the drawn numbers -/
/-- a pool: two numbers -/
structure Pool (H : Hp) (p : Addr) : Prop where
  ex : ∃ m s : Int, H p = some (.lst [.int m, .int s]) ∧ 0 ≤ m ∧ 0 ≤ s ∧ s < 2147483647
theorem Pool.ne {H : Hp} {p t : Addr} {xs : List V} (h : Pool H p) (ht : H t = some (.tup xs)) : t ≠ p := by
  obtain ⟨m, s, e, _⟩ := h.ex
  intro z
  rw [z, e] at ht
  cases ht
theorem Pool.free {H : Hp} {p q : Addr} (h : Pool H p) (hq : H q = none) : q ≠ p := by
  obtain ⟨m, s, e, _⟩ := h.ex
  intro z
  rw [z, e] at hq
  cases hq
theorem Pool.same {H H' : Hp} {p : Addr} (h : Pool H p) (s : Same H H') : Pool H' p := by
  obtain ⟨m, n, e, r⟩ := h.ex
  exact ⟨m, n, s _ _ e, r⟩
theorem Pool.upd {H : Hp} {p q : Addr} {o : HO} (h : Pool H p) (n : q ≠ p) : Pool (L2.upd H q o) p := by
  obtain ⟨m, k, e, r⟩ := h.ex
  exact ⟨m, k, by rw [upd_ne (Ne.symm n)]; exact e, r⟩
end SE
/-! enumerate(t) and t[::-1] of a tuple. -/
namespace SE
open PySem PySem.Spec PyProof.Rows L2
section
open Sem (wp)
open AutoSeq1 (wpAny_loadPart')
theorem meets_enum_newT (t : Addr) (items : Array Value) (n : Nat) (dct : Option Addr) (sl : Array (Option Value)) :
    Meets (Builtin.«enumerate.__new__» ⟨[.type "enumerate", .ref t], []⟩) (fun _ R s => s.heap.get? t = some { cls := .type "tuple", dict := dct, data := .seq items n, slots := sl } ∧
      R (.ok (.ret (.ref (s.heap.push { cls := .type "tuple_iterator", data := .fields #[.ref t, .int 0 0] }).objs.size)))
        { s with heap := (s.heap.push { cls := .type "tuple_iterator", data := .fields #[.ref t, .int 0 0] }).push { cls := .type "enumerate", data := .fields #[.none, .bool false, .ref s.heap.objs.size, rawInt 0, .none, .none] } }) := by
  refine .of_wp fun prog w A R s h => ?_
  obtain ⟨hp, g, d, tk, os⟩ := s
  obtain ⟨ht, h⟩ := h
  have hsub := sub_enumerate
  have hT : Heap.IsTuple (Shared.heap ⟨hp, g, d, tk, os⟩) t items := ⟨_, ht, rfl, n, rfl⟩
  wp_walk using wpAny_loadPart' ht
  refine wpAny_stack_any fun st => wpAny_pure ?_
  split
  · rename_i c _ _ _ _ _
    cases (c == Value.type "enumerate")
    · wp_walk using wpAny_loadPart' ht, wpAny_pyIter_tuple hT
      exact ⟨_, rfl, h⟩
    · wp_walk using wpAny_loadPart' ht, wpAny_pyIter_tuple hT
      exact ⟨_, rfl, h⟩
  · wp_walk using wpAny_loadPart' ht, wpAny_pyIter_tuple hT
    exact ⟨_, rfl, h⟩
end
section
variable {prog : Program} {w : World} {A : Around} {E : Value → Shared → Prop} {s : Shared}
theorem call_enumT {t : Addr} {items : Array Value} {Q : Value → Shared → Prop} (hT : s.heap.IsTuple t items)
    (h : ∀ h', IsEnum h' (s.heap.objs.size + 1) s.heap.objs.size 0 .none → h'.IsTupleIter s.heap.objs.size t 0 → (∀ b o, s.heap.get? b = some o → h'.get? b = some o) → Q (.ref (s.heap.objs.size + 1)) { s with heap := h' }) :
    wpAny (model prog w) A (call (.type "enumerate") [.ref t]) Q E s := by
  obtain ⟨⟨c, dct, dt, sl⟩, ht, hc, n, hd⟩ := hT
  simp only at hc hd
  subst hc hd
  refine callType_new F.called_enumerate (by decide) (F.typeCall_enumerate_1 _) (F.newCall_enumerate_1 _) (fun obj => F.args_object_init_2 obj _) F.entry_enumerate_new (meets_enum_newT t items n dct sl) ⟨ht, ?_⟩
  have hz : (s.heap.push { cls := .type "tuple_iterator", data := .fields #[.ref t, .int 0 0] }).objs.size = s.heap.objs.size + 1 := Heap.size_push ..
  show _ ∧ _
  rw [hz]
  have he : IsEnum ((s.heap.push { cls := .type "tuple_iterator", data := .fields #[.ref t, .int 0 0] }).push
      { cls := .type "enumerate", data := .fields #[.none, .bool false, .ref s.heap.objs.size, rawInt 0, .none, .none] }) (s.heap.objs.size + 1) s.heap.objs.size 0 .none := by
    have z := Heap.get?_push_size (s.heap.push { cls := .type "tuple_iterator", data := .fields #[.ref t, .int 0 0] })
      (o := { cls := .type "enumerate", data := .fields #[.none, .bool false, .ref s.heap.objs.size, rawInt 0, .none, .none] }) rfl
    rw [hz] at z
    exact z
  exact ⟨⟨_, he, rfl⟩, h _ he ⟨_, Heap.get?_push_of_some _ (Heap.get?_push_size _ rfl), rfl, rfl⟩ fun b o x => Heap.get?_push_of_some _ (Heap.get?_push_of_some _ x)⟩
end
/-- the tuple at a, each item in a new pair -/
def ItE (K : PySem.W.Frag) (a : Addr) : It :=
  ⟨fun i H => ∃ (xs : List V) (x : V), SqT K H a xs ∧ xs[i]? = some x, fun i H v H' => ∃ T x, v = .ref T ∧ H T = none ∧ H' = upd H T (.tup [.int (i : Nat), x]) ∧ ∀ xs, SqT K H a xs → xs[i]? = some x, fun i H => ∃ xs : List V, SqT K H a xs ∧ xs.length ≤ i⟩
theorem turn_enumT {P : Program} {w : World} {K : PySem.W.Frag} {elts : List Expr} {kk : Nat} {tpos : Pos} (a e it : Addr) :
    Turn P w K (.Tuple elts kk tpos) (ItE K a) [e, it] e (fun i h => (∃ old, IsEnum h e it ((i : Nat) : Int) old) ∧ h.IsTupleIter it a i ∧ e ≠ it ∧ a ≠ it ∧ a ≠ e) where
  mem := by simp
  obj := fun i h st b hb => by
    obtain ⟨⟨old, he⟩, ⟨o, ho, hc, hd⟩, _⟩ := st
    have ee : b = e ∨ b = it := by simpa using hb
    rcases ee with z | z
    · rw [z]
      exact ⟨_, he, fun v q => nomatch q⟩
    · rw [z]
      exact ⟨o, ho, fun v q => by rw [hd] at q; cases q⟩
  keep := fun i h h' st k => by
    obtain ⟨⟨old, he⟩, hi, hne⟩ := st
    exact ⟨⟨old, k e (by simp) _ he⟩, (let ⟨o, ho, r⟩ := hi; ⟨o, k it (by simp) o ho, r⟩), hne⟩
  item := by
    intro X hP hw hK hc i pins s σ H E I hf st hg
    subst hP hw hK
    obtain ⟨⟨old, he⟩, hit, hne, hai, hae⟩ := st
    obtain ⟨xs, x, hq, hx⟩ := hg
    obtain ⟨its, rv, p, hz⟩ := I.tuple hq
    obtain ⟨u, hu, ru⟩ := rv.get hx
    have hel : e < s.heap.objs.size := Heap.lt_size he
    have hil : it < s.heap.objs.size := by
      obtain ⟨_, q, _⟩ := hit
      exact Heap.lt_size q
    have hlt : i < its.toArray.size := by
      rw [List.size_toArray, ← rv.length]
      exact (List.getElem?_eq_some_iff.mp hx).1
    have D : Draws X.prog X.w X.A.in1 it [it, a] its.toArray.size (fun j v => its.toArray[j]? = some v) (fun j h => h.IsTupleIter it a j ∧ h.IsTuple a its.toArray) := Draws.tuple (A := X.A.in1) (I.ok.hd hc) it a hai its.toArray
    refine wpAny_pyNext_enum_itemD D he ⟨hit, p⟩ hlt hne (by simp [Ne.symm hae, hne]) fun v h1 tk hv ho hit1 hT hsz hk => ?_
    have ev : v = u := by
      have z : some v = some u := by rw [← hv]; simpa using hu
      exact Option.some.inj z
    subst ev
    refine ⟨_, rfl, wpAny_letOwnedTupleGo_enum (s := { s with heap := h1, toks := tk + 1 }) ho fun h2 he2 sb => ?_⟩
    have hT2 : h2.get? s.heap.objs.size = some { cls := .type "tuple", data := .seq #[.int i tk, v] } := (sb.2 _ (Nat.ne_of_gt hel)).trans hT
    have new : ObjOk X.prog X.w (upd H s.heap.objs.size (.tup [.int (i : Nat), x])) h2 s.heap.objs.size (.tup [.int (i : Nat), x]) :=
      ⟨by show 2 ≤ sizeLine; decide, [.int i tk, v], .cons ⟨_, rfl⟩ (.cons ru .nil), ⟨_, hT2, rfl, _, rfl⟩⟩
    have J : Inv X pins σ (upd H s.heap.objs.size (.tup [.int (i : Nat), x])) { s with heap := h2, toks := tk + 1 } :=
      I.turnedNew (ch := [e, it]) (fun b ob hb q => (sb.2 b (fun z => hb (by simp [z]))).trans (hk b ob (fun z => hb (by simp [z])) (fun z => hb (by simp [z])) q)) hf (Nat.le_refl _) new
    refine ⟨.ref s.heap.objs.size, _, J, rfl, ⟨_, x, rfl, I.hok.fresh (Nat.le_refl _), rfl, fun ys hy => by rw [I.tuple_inj hy hq]; exact hx⟩, ⟨⟨v, ?_⟩, ?_, hne, hai, hae⟩, fun b hb => ?_⟩
    · have e1 : ((i + 1 : Nat) : Int) = (i : Int) + 1 := by omega
      rw [e1]
      exact he2
    · obtain ⟨o, ho2, r⟩ := hit1.1
      exact ⟨o, (sb.2 it (Ne.symm hne)).trans ho2, r⟩
    · have hb2 : b < s.heap.objs.size := by
        have ee : b = e ∨ b = it := by simpa using hb
        rcases ee with z | z
        · rw [z]; exact hel
        · rw [z]; exact hil
      rw [upd_ne (Nat.ne_of_lt hb2)]
      exact (hf b hb).1
  done := by
    intro X hP hw hK hc i pins s σ H E I hf st hg
    subst hP hw hK
    obtain ⟨⟨old, he⟩, hit, hne, hai, hae⟩ := st
    obtain ⟨xs, hq, hx⟩ := hg
    obtain ⟨its, rv, p, hz⟩ := I.tuple hq
    obtain ⟨f0, f1, f2, f3, f4, f5⟩ := hf it (by simp)
    have hl := rv.length
    have D : Draws X.prog X.w X.A.in1 it [it, a] i (fun j v => its.toArray[j]? = some v) (fun j h => j = i ∧ h.IsTupleIter it a i ∧ h.IsTuple a its.toArray ∧ its.toArray.size ≤ i) := by
      have D0 := Draws.tuple (prog := X.prog) (w := X.w) (A := X.A.in1) (I.ok.hd hc) it a hai its.toArray
      refine ⟨fun j h z => D0.live i h ⟨z.2.1, z.2.2.1⟩, fun j h h' z k => ⟨z.1, (D0.frame i h h' ⟨z.2.1, z.2.2.1⟩ k).1, (D0.frame i h h' ⟨z.2.1, z.2.2.1⟩ k).2, z.2.2.2⟩, fun j s Q E hj z k => ?_, fun s Q E z k => ?_⟩
      · exact absurd z.1 (Nat.ne_of_lt hj)
      · exact wpAny_nextOf_tuple_end (I.ok.hd hc) z.2.1 z.2.2.1 (Array.getElem?_eq_none z.2.2.2) k
    exact wpAny_pyNext_enum_endD D he ⟨rfl, hit, p, by rw [List.size_toArray]; omega⟩ fun h' eb => ⟨rfl, I.turned (t' := s.toks) (fun b o hb q => eb b o hb q) f0 f1 f3 f4 f5⟩
  self := fun A i s Q E st h => let ⟨⟨_, he⟩, _⟩ := st; wpAny_pyIter_enum he h
def iEnumT (K : PySem.W.Frag) (ta : TA) : TI := fun σ H R => ta σ H fun vs H1 => ∃ a xs, vs = [.ref a] ∧ SqT K H1 a xs ∧ R (ItE K a) H1
theorem pi_enumT {X : Cx} {e : Expr} {ta : TA} {p pos tpos : Pos} {elts : List Expr} {kk : Nat} (hg : Gl X "enumerate") (hm : X.mg "enumerate" = none) (ha : PA X [e] ta) (hs : starEach [e] X.env = [(false, eval e X.env)] := by rfl) :
    PI X (.Tuple elts kk tpos) (.Call (.Name "enumerate" p) [e] [] pos) (iEnumT X.K ta) := by
  constructor
  intro pins s σ H R I h
  refine Call_ (ld_blt I hg hm boot_enumerate (PyProof.Rows.callWith_type1 (thn (ha.run pos pins s σ H _ I h) fun us s1 hh => ?_) hs rfl))
  obtain ⟨vs, H1, I1, r1, a, xs, ex, hq, q⟩ := hh
  subst ex
  cases r1 with
  | cons r rr =>
    cases rr
    cases r
    obtain ⟨its, rv, p2, hz⟩ := I1.tuple hq
    refine call_enumT p2 fun h2 he hit hk => wpAny_pyIter_enum he ?_
    have I2 : Inv X pins σ H1 { s1 with heap := h2 } := I1.kept (t' := s1.toks) hk
    have hlt : a < s1.heap.objs.size := p2.lt
    refine ⟨s1.heap.objs.size + 1, [s1.heap.objs.size + 1, s1.heap.objs.size], _, _, H1, rfl, I2, turn_enumT a (s1.heap.objs.size + 1) s1.heap.objs.size, ⟨⟨.none, he⟩, hit, Nat.succ_ne_self _, Nat.ne_of_lt hlt, Nat.ne_of_lt (Nat.lt_succ_of_lt hlt)⟩, fun b hb => ?_, q⟩
    have ee : b = s1.heap.objs.size + 1 ∨ b = s1.heap.objs.size := by simpa using hb
    have hle : s1.heap.objs.size ≤ b := by
      rcases ee with z | z
      · rw [z]; exact Nat.le_add_right _ _
      · rw [z]; exact Nat.le_refl _
    exact I1.fpOk hle (I1.hok.fresh hle)
/-! ### t[::-1] -/
section
variable {prog : Program} {w : World} {A : Around} {E : Value → Shared → Prop} {s : Shared}
theorem back_pick (xs : Array Value) (n : Nat) (hn : n = xs.size) : (List.range n).filterMap (fun (m : Nat) => xs[(((n : Int) - 1) + (m : Int) * (-1)).toNat]?) = xs.toList.reverse := by
  subst hn
  have e : (fun (m : Nat) => xs[(((xs.size : Nat) : Int) - 1 + (m : Int) * (-1)).toNat]?) = fun m => xs[xs.size - 1 - m]? := by
    funext m
    have z : (((xs.size : Nat) : Int) - 1 + (m : Int) * (-1)).toNat = xs.size - 1 - m := by omega
    rw [z]
  rw [e]
  have a := PySem.W.krv_pick xs
  have b : PySem.slicePick xs none none (some (-1)) = ((List.range xs.size).filterMap fun m => xs[xs.size - 1 - m]?).toArray := by
    unfold PySem.slicePick
    rw [PySem.W.krv_bounds]
    show ((PySem.sliceRange ((xs.size : Int) - 1) (-1) (-1)).filterMap (xs[·]?)).toArray = _
    rw [PySem.W.krv_sliceRange, List.filterMap_map]
    rfl
  have c := a.symm.trans b
  have d := congrArg Array.toList c
  exact d.symm
theorem applied_back {sl : Addr} {vs : Value} {n : Nat} {Q : Int × Int × Nat → Shared → Prop} (hs : s.heap.IsSliceOf sl .none .none vs) (pv : IsPart vs (some (-1)))
    (h : Q ((n : Int) - 1, -1, n) s) : wpAny (model prog w) A (Builtin.Slice.sliceApplied (.ref sl) (pure (n : Int))) Q E s := by
  obtain ⟨os, hos, hcs, hds⟩ := id hs
  unfold Builtin.Slice.sliceApplied Builtin.Slice.sliceFields
  refine wpAny_bind (wpAny_bind (wpAny_field hos hds (x := .none) rfl (wpAny_bind (wpAny_field hos hds (x := .none) rfl (wpAny_bind (wpAny_field hos hds (x := vs) rfl (wpAny_pure ?_)))))))
  refine wpAny_bind (HT.slicePart_ pv ?_)
  show wpAny _ _ (if ((-1 : Int) == 0) = true then _ else _) _ _ s
  rw [if_neg (by decide)]
  refine wpAny_bind (HT.slicePart_ .none (wpAny_bind (HT.slicePart_ .none (wpAny_bind (wpAny_pure ?_)))))
  show wpAny _ _ (pure ((n : Int) - 1, (-1 : Int), Builtin.Slice.slicePlaces ((n : Int) - 1) (-1) (-1))) _ _ s
  have e : Builtin.Slice.slicePlaces ((n : Int) - 1) (-1) (-1) = n := by
    unfold Builtin.Slice.slicePlaces
    rw [if_neg (by decide)]
    by_cases hn : (n : Int) - 1 > -1
    · rw [if_pos hn, show (- -1 : Int) = 1 by decide, Int.ediv_one]
      omega
    · rw [if_neg hn]
      omega
  rw [e]
  exact wpAny_pure h
theorem item_back {t sl : Addr} {items : Array Value} {vs : Value} {Q : Value → Shared → Prop} (ht : IsTup s.heap t items) (hs : s.heap.IsSliceOf sl .none .none vs) (pv : IsPart vs (some (-1)))
    (h : Q (.ref s.heap.objs.size) { s with heap := s.heap.push { cls := .type "tuple", data := .seq items.toList.reverse.toArray } }) (hsz : items.size ≤ sizeLine) : wpAny (model prog w) A (getItem (.ref t) (.ref sl)) Q E s := by
  have hok : sizeOk (.seq items.toList.reverse.toArray) := by
    show items.toList.reverse.toArray.size ≤ sizeLine
    rw [List.size_toArray, List.length_reverse, Array.length_toList]
    exact hsz
  obtain ⟨os, hos, hcs, hds⟩ := id hs
  have hTs : s.TypeIs (.ref sl) "slice" := ⟨os, hos, hcs⟩
  unfold getItem
  try with_reducible refine wpAny_holding ?_
  first | refine wpAny_bind (wpAny_pure ?_) | skip
  refine wpAny_bind (wpAny_sequenceKey ht.typeIs (by decide) ?_)
  refine wpAny_bind (wpAny_callSpecial?_slot (name := Str.ofString "__getitem__") ht.typeIs PyProof.Rows.slot_tuple_getitem (wpAny_call_entry PyProof.Rows.slot_tuple_getitem ht.typeIs entry_tuple_getitem ?_ (args_tuple_getitem _ _)))
  show wpAny _ _ (Builtin.Tuple.tupleItemsOf (.ref t) >>= _) _ _ s
  refine wpAny_bind (tupleItemsOf_ ht ?_)
  refine wpAny_bind (wpAny_typeOf hTs ?_)
  rw [if_pos (by decide)]
  refine wpAny_bind (applied_back hs pv ?_)
  have hno : ¬ ((((items.size : Int) - 1) == 0 && (-1 : Int) == 1 && items.size == items.size) = true) := by
    intro q
    rw [Bool.and_eq_true, Bool.and_eq_true] at q
    exact absurd q.1.2 (by decide)
  show wpAny _ _ (if (((items.size : Int) - 1) == 0 && (-1 : Int) == 1 && items.size == items.size) = true then _ else _) _ _ s
  rw [if_neg hno, back_pick items items.size rfl]
  first
    | exact wpAny_bind (m := Builtin.Tuple.tupleExact _) (wpAny_newObj_type (wpAny_pure ⟨_, rfl, wpAny_pure h⟩) hok)
    | exact wpAny_bind (m := Builtin.Tuple.tupleExact _) (wpAny_newObj_type (wpAny_bind (wpAny_pure (wpAny_pure ⟨_, rfl, wpAny_pure h⟩))) hok)
    | exact wpAny_bind (wpAny_bind (m := Builtin.Tuple.tupleExact _) (wpAny_newObj_type (wpAny_pure (wpAny_pure ⟨_, rfl, wpAny_pure h⟩)) hok))
    | exact wpAny_bind (wpAny_bind (m := Builtin.Tuple.tupleExact _) (wpAny_newObj_type (wpAny_pure ⟨_, rfl, wpAny_pure h⟩) hok))
end
def tRevT (K : PySem.W.Frag) (te : TE) : TE := fun σ H Q => te σ H fun x H1 => ∃ a xs, x = .ref a ∧ SqT K H1 a xs ∧ ∀ p, H1 p = none → Q (.ref p) (upd H1 p (.tup xs.reverse))
theorem pe_revT {X : Cx} {e : Expr} {te : TE} {k : Nat} {p1 p2 p3 pos : Pos} (he : PE X e te) : PE X (.Subscript e (.Slice none none (some (.UnaryOp .USub (.Constant (.int 1) k p1) p2)) p3) pos) (tRevT X.K te) := by
  constructor
  intro pins s σ H Q I h
  refine Subscript_ (thn (he.run pins s σ H _ I h) fun v s1 hh => ?_)
  obtain ⟨x, H1, I1, r1, a, xs, ex, hx, q⟩ := hh
  subst ex
  cases r1
  have hst : PO X (some (.UnaryOp .USub (.Constant (.int 1) k p1) p2)) (tPart (tUn (rU fun i => .int (-i)) (tC (.int 1)))) := po_some (pe_un un_neg pe_int)
  refine wpAny_Slice (thn (po_none.run pins s1 σ H1 (fun o H2 => o = none ∧ H2 = H1) I1 ⟨rfl, rfl⟩) fun vl s2 hl => ?_)
  obtain ⟨l, H2, I2, pl, el, e2⟩ := hl
  subst el e2
  refine thn (po_none.run pins s2 σ H2 (fun o H3 => o = none ∧ H3 = H2) I2 ⟨rfl, rfl⟩) fun vu s3 hu => ?_
  obtain ⟨u, H3, I3, pu, eu, e3⟩ := hu
  subst eu e3
  refine thn (hst.run pins s3 σ H3 (fun o H4 => o = some (-1) ∧ H4 = H3) I3 ⟨1, rfl, -1, rfl, rfl, rfl⟩) fun vs s4 ho => ?_
  obtain ⟨o, H4, I4, ps, eo, e4⟩ := ho
  subst eo e4
  cases pl
  cases pu
  have I5 : Inv X pins σ H4 { s4 with heap := s4.heap.push { cls := .type "slice", data := .fields #[.none, .none, vs] } } := I4.kept (t' := s4.toks) fun b ob q => Heap.get?_push_of_some _ q
  obtain ⟨its, r, ht, hz⟩ := I5.tuple hx
  have hlen := r.length
  show wpAny (model X.prog X.w) X.A (subscriptTail e (.Slice none none (some (.UnaryOp .USub (.Constant (.int 1) k p1) p2)) p3) (.ref a) (.ref s4.heap.objs.size)) (EP X pins σ Q) X.xe { s4 with heap := s4.heap.push { cls := .type "slice", data := .fields #[.none, .none, vs] } }
  refine tail_any (ops := [.ref a, .ref s4.heap.objs.size]) ht.typeIs (PyProof.Rows.slot_tuple_getitem.lookup) ?_ (by with_unfolding_all rfl)
  refine item_back ht (Heap.IsSliceOf.new _ .none .none vs) ps ?_ (by rw [List.size_toArray]; omega)
  refine ⟨.ref _, _, I5.laid (t' := s4.toks) (o := .tup xs.reverse) (fun b ob q => Heap.get?_push_of_some _ q) (Nat.le_refl _) ?_, rfl, q _ (I5.hok.fresh (Nat.le_refl _))⟩
  exact ⟨by rw [List.length_reverse]; exact hz, _, r.reverse, IsTup.new _ _⟩
end SE
/-! Plain data: texts, steps; when they are equal, how they are shown. -/
namespace SE
open PySem PySem.Spec PyProof.Rows L2
/-- a text that is an item -/
structure Item (z : Str) : Prop where
  pos : 1 ≤ z.length
  most : z.length ≤ 8
  low : ∀ c ∈ z.cps.toList, 97 ≤ c ∧ c ≤ 122
/-- data that may be compared and shown: its depth, its weight -/
structure Nice (k B : Nat) (d : PyData) : Prop where
  lay : d.canLay0 = true
  dep : d.depth ≤ k
  sh : d.showable = true
  nd : d.hasDict = false
  ish : d.intsShort 13 = true
  wt : d.weight ≤ B
theorem Nice.mono {k j B C : Nat} {d : PyData} (h : Nice k B d) (hk : k ≤ j) (hB : B ≤ C) : Nice j C d := ⟨h.lay, Nat.le_trans h.dep hk, h.sh, h.nd, h.ish, Nat.le_trans h.wt hB⟩
theorem nice_str {z : Str} {B : Nat} (hc : ∀ c ∈ z.cps.toList, c < 0x110000) (hB : z.length ≤ B) : Nice 0 B (.str z) := by
  refine ⟨?_, ?_, ?_, ?_, ?_, ?_⟩
  · simp only [PyData.canLay0, PyData.strOk]
    rw [← Array.all_toList, List.all_eq_true]
    intro c h
    exact decide_eq_true (hc c h)
  · simp only [PyData.depth]
    exact Nat.le_refl _
  · simp only [PyData.showable]
  · simp only [PyData.hasDict]
  · simp only [PyData.intsShort]
  · simp only [PyData.weight]
    exact hB
theorem Item.nice {z : Str} (h : Item z) : Nice 0 8 (.str z) := nice_str (fun c hc => by have := (h.low c hc).2; omega) h.most
theorem nice_all {k B : Nat} : ∀ {ds : List PyData}, (∀ d ∈ ds, Nice k B d) → PyData.canLayAll0 ds = true ∧ PyData.depthAll ds ≤ k ∧ PyData.showableAll ds = true ∧ PyData.hasDictAll ds = false ∧ PyData.intsShortAll 13 ds = true ∧ PyData.weightAll ds ≤ ds.length * (B + 1)
  | [], _ => by
    refine ⟨?_, ?_, ?_, ?_, ?_, ?_⟩
    · simp only [PyData.canLayAll0]
    · simp only [PyData.depthAll]
      exact Nat.zero_le _
    · simp only [PyData.showableAll]
    · simp only [PyData.hasDictAll]
    · simp only [PyData.intsShortAll]
    · simp only [PyData.weightAll]
      exact Nat.zero_le _
  | d :: ds, h => by
    obtain ⟨a1, a2, a3, a4, a5, a6⟩ := nice_all (ds := ds) fun x hx => h x (List.mem_cons_of_mem _ hx)
    have q := h d List.mem_cons_self
    refine ⟨?_, ?_, ?_, ?_, ?_, ?_⟩
    · simp only [PyData.canLayAll0, q.lay, a1, Bool.and_self]
    · simp only [PyData.depthAll]
      exact Nat.max_le.mpr ⟨q.dep, a2⟩
    · simp only [PyData.showableAll, q.sh, a3, Bool.and_self]
    · simp only [PyData.hasDictAll, q.nd, a4, Bool.or_self]
    · simp only [PyData.intsShortAll, q.ish, a5, Bool.and_self]
    · simp only [PyData.weightAll, List.length_cons]
      have := q.wt
      rw [Nat.add_mul]
      omega
theorem nice_list {k B : Nat} {ds : List PyData} (h : ∀ d ∈ ds, Nice k B d) : Nice (k + 1) (ds.length * (B + 1)) (.list ds) := by
  obtain ⟨a1, a2, a3, a4, a5, a6⟩ := nice_all h
  exact ⟨by simp only [PyData.canLay0]; exact a1, by simp only [PyData.depth]; omega, by simp only [PyData.showable]; exact a3, by simp only [PyData.hasDict]; exact a4, by simp only [PyData.intsShort]; exact a5, by simp only [PyData.weight]; exact a6⟩
theorem nice_tuple {k B : Nat} {ds : List PyData} (h : ∀ d ∈ ds, Nice k B d) : Nice (k + 1) (ds.length * (B + 1)) (.tuple ds) := by
  obtain ⟨a1, a2, a3, a4, a5, a6⟩ := nice_all h
  exact ⟨by simp only [PyData.canLay0]; exact a1, by simp only [PyData.depth]; omega, by simp only [PyData.showable]; exact a3, by simp only [PyData.hasDict]; exact a4, by simp only [PyData.intsShort]; exact a5, by simp only [PyData.weight]; exact a6⟩
theorem Nice.shaped {k B : Nat} {d : PyData} (h : Nice k B d) (hk : k ≤ 64) : SeqAt.shaped d = true := by
  unfold SeqAt.shaped
  rw [h.lay, Bool.true_and]
  exact decide_eq_true (Nat.le_trans h.dep hk)
theorem Nice.shown {k B : Nat} {d : PyData} (h : Nice k B d) (hk : k ≤ 64) (hB : B ≤ 2 ^ 20) : d.shown.length ≤ sizeLine := by
  refine PyData.shown_fits_of_layable0 (B := 13) (by decide) (by decide) ?_ h.ish
  unfold PyData.layable0
  rw [h.lay, Bool.true_and, Bool.and_eq_true]
  exact ⟨decide_eq_true (Nat.le_trans h.dep hk), decide_eq_true (Nat.le_trans h.wt hB)⟩
theorem Nice.eqv {k B : Nat} {d : PyData} (h : Nice k B d) : PyData.eqv d d = true := SeqAt.eqv_refl d h.lay
/-! ### texts -/
theorem dp_strs {K : PySem.W.Frag} {H : Hp} : ∀ zs : List Str, DpAll K H (zs.map V.str) (zs.map PyData.str)
  | [] => .nil
  | z :: zs => .cons (.str z) (dp_strs zs)
theorem eqvAll_strs : ∀ a b : List Str, PyData.eqvAll (a.map .str) (b.map .str) = decide (a = b)
  | [], [] => by simp [PyData.eqvAll]
  | [], y :: b => by simp [PyData.eqvAll]
  | x :: a, [] => by simp [PyData.eqvAll]
  | x :: a, y :: b => by
    rw [List.map_cons, List.map_cons]
    unfold PyData.eqvAll
    rw [eqvAll_strs a b]
    unfold PyData.eqv
    by_cases e : x = y
    · subst e
      simp
    · simp [e]
theorem eqv_listS (a b : List Str) : PyData.eqv (.list (a.map .str)) (.list (b.map .str)) = decide (a = b) := by
  unfold PyData.eqv
  exact eqvAll_strs a b
theorem eqv_tupS (a b : List Str) : PyData.eqv (.tuple (a.map .str)) (.tuple (b.map .str)) = decide (a = b) := by
  unfold PyData.eqv
  exact eqvAll_strs a b
theorem nice_strs {zs : List Str} (h : ∀ z ∈ zs, Item z) : ∀ d ∈ zs.map PyData.str, Nice 0 8 d := by
  intro d hd
  obtain ⟨z, hz, rfl⟩ := List.mem_map.mp hd
  exact (h z hz).nice
/-! ### steps -/
abbrev Stp := Bool × Str
def act (b : Bool) : Str := if b then "push" else "pop"
theorem act_nice (b : Bool) : Nice 0 8 (.str (act b)) := by
  cases b
  · exact nice_str (by decide +kernel) (by decide +kernel)
  · exact nice_str (by decide +kernel) (by decide +kernel)
def stepD (s : Stp) : PyData := .tuple [.str (act s.1), .str s.2]
theorem stepD_nice {s : Stp} (h : Item s.2) : Nice 1 18 (stepD s) := by
  refine (nice_tuple (k := 0) (B := 8) (ds := [.str (act s.1), .str s.2]) ?_).mono (Nat.le_refl _) (by show 2 * 9 ≤ 18; decide)
  intro d hd
  rcases List.mem_cons.mp hd with q | q
  · rw [q]
    exact act_nice _
  · rw [List.mem_singleton.mp q]
    exact h.nice
/-- a step -/
def StepV (K : PySem.W.Frag) (H : Hp) (v : V) (s : Stp) : Prop := ∃ t, v = .ref t ∧ SqT K H t [.str (act s.1), .str s.2]
abbrev StepsV (K : PySem.W.Frag) (H : Hp) : List V → List Stp → Prop := Paired (StepV K H)
theorem StepV.same {K : PySem.W.Frag} {H H' : Hp} {v : V} {s : Stp} (h : StepV K H v s) (e : Same H H') : StepV K H' v s := by
  obtain ⟨t, rfl, q⟩ := h
  exact ⟨t, rfl, Same.tup e q⟩
theorem StepsV.same {K : PySem.W.Frag} {H H' : Hp} {xs : List V} {ss : List Stp} (h : StepsV K H xs ss) (e : Same H H') : StepsV K H' xs ss := Paired.mapP h fun _ _ q => q.same e
theorem StepsV.at {K : PySem.W.Frag} {H : Hp} : ∀ {xs : List V} {ss : List Stp} {i : Nat} {v : V}, StepsV K H xs ss → xs[i]? = some v → ∃ s, ss[i]? = some s ∧ StepV K H v s
  | _, _, _, _, .nil, h => by simp at h
  | _, _, 0, _, .cons a _, h => by
    have e := Option.some.inj h
    subst e
    exact ⟨_, rfl, a⟩
  | _, _, i + 1, _, .cons _ r, h => StepsV.at (i := i) r h
theorem dp_steps {K : PySem.W.Frag} {H : Hp} : ∀ {xs : List V} {ss : List Stp}, StepsV K H xs ss → DpAll K H xs (ss.map stepD)
  | _, _, .nil => .nil
  | _, _, .cons a r => by
    obtain ⟨t, rfl, q⟩ := a
    exact .cons (.tup q (.cons (.str _) (.cons (.str _) .nil))) (dp_steps r)
theorem nice_steps {ss : List Stp} (h : ∀ s ∈ ss, Item s.2) : ∀ d ∈ ss.map stepD, Nice 1 18 d := by
  intro d hd
  obtain ⟨s, hs, rfl⟩ := List.mem_map.mp hd
  exact stepD_nice (h s hs)
theorem StepsV.rev {K : PySem.W.Frag} {H : Hp} : ∀ {xs : List V} {ss : List Stp}, StepsV K H xs ss → StepsV K H xs.reverse ss.reverse
  | _, _, .nil => .nil
  | _, _, .cons a r => by
    rw [List.reverse_cons, List.reverse_cons]
    exact (StepsV.rev r).snoc a
/-- the exchange of push and pop -/
def flip1 (s : Stp) : Stp := (!s.1, s.2)
def revM (ss : List Stp) : List Stp := ss.reverse.map flip1
/-- what a step makes of a stack -/
def stepM (s : Stp) (zs : List Str) : Option (List Str) := if s.1 then some (s.2 :: zs) else match zs with
  | [] => none
  | z :: r => if z = s.2 then some r else none
def runM : List Stp → List Str → Option (List Str)
  | [], zs => some zs
  | s :: ss, zs => match stepM s zs with
    | none => none
    | some ws => runM ss ws
theorem runM_append : ∀ (a b : List Stp) (zs : List Str), runM (a ++ b) zs = (runM a zs).bind (runM b)
  | [], b, zs => rfl
  | s :: a, b, zs => by
    show (match stepM s zs with | none => none | some ws => runM (a ++ b) ws) = (match stepM s zs with | none => none | some ws => runM a ws).bind (runM b)
    cases stepM s zs with
    | none => rfl
    | some ws => exact runM_append a b ws
theorem stepM_flip {s : Stp} {zs ws : List Str} (h : stepM s zs = some ws) : stepM (flip1 s) ws = some zs := by
  obtain ⟨b, x⟩ := s
  cases b with
  | true =>
    have e : x :: zs = ws := by
      have q : some (x :: zs) = some ws := h
      exact Option.some.inj q
    subst e
    show (if x = x then some zs else none) = some zs
    rw [if_pos rfl]
  | false =>
    cases zs with
    | nil => exact absurd h (by intro q; cases q)
    | cons z r =>
      have q : (if z = x then some r else none) = some ws := h
      by_cases e : z = x
      · rw [if_pos e] at q
        have e2 := Option.some.inj q
        subst e2
        subst e
        rfl
      · rw [if_neg e] at q
        cases q
theorem runM_rev : ∀ (ss : List Stp) (zs ws : List Str), runM ss zs = some ws → runM (revM ss) ws = some zs
  | [], zs, ws, h => by
    have e : zs = ws := Option.some.inj h
    subst e
    rfl
  | s :: ss, zs, ws, h => by
    have h' : (match stepM s zs with | none => none | some ys => runM ss ys) = some ws := h
    cases e : stepM s zs with
    | none =>
      rw [e] at h'
      cases h'
    | some ys =>
      rw [e] at h'
      have ih := runM_rev ss ys ws h'
      show runM ((s :: ss).reverse.map flip1) ws = some zs
      rw [List.reverse_cons, List.map_append, runM_append]
      have ih' : runM (ss.reverse.map flip1) ws = some ys := ih
      rw [ih']
      show (match stepM (flip1 s) ys with | none => none | some ws => runM [] ws) = some zs
      rw [stepM_flip e]
      rfl
theorem revM_revM (ss : List Stp) : revM (revM ss) = ss := by
  unfold revM
  rw [← List.map_reverse, List.reverse_reverse, List.map_map]
  have e : flip1 ∘ flip1 = id := by
    funext s
    obtain ⟨b, x⟩ := s
    cases b <;> rfl
  rw [e, List.map_id]
theorem revM_items {ss : List Stp} (h : ∀ s ∈ ss, Item s.2) : ∀ s ∈ revM ss, Item s.2 := by
  intro s hs
  obtain ⟨t, ht, rfl⟩ := List.mem_map.mp hs
  exact h t (List.mem_reverse.mp ht)
theorem stepM_items {s : Stp} {zs ws : List Str} (h : stepM s zs = some ws) (hs : Item s.2) (hz : ∀ z ∈ zs, Item z) : ∀ z ∈ ws, Item z := by
  obtain ⟨b, x⟩ := s
  cases b with
  | true =>
    have e : x :: zs = ws := Option.some.inj (show some (x :: zs) = some ws from h)
    subst e
    intro z m
    rcases List.mem_cons.mp m with q | q
    · rw [q]
      exact hs
    · exact hz z q
  | false =>
    cases zs with
    | nil => exact absurd h (by intro q; cases q)
    | cons y r =>
      have q : (if y = x then some r else none) = some ws := h
      by_cases e : y = x
      · rw [if_pos e] at q
        have e2 := Option.some.inj q
        subst e2
        exact fun z m => hz z (List.mem_cons_of_mem _ m)
      · rw [if_neg e] at q
        cases q
theorem stepM_len {s : Stp} {zs ws : List Str} (h : stepM s zs = some ws) : ws.length ≤ zs.length + 1 := by
  obtain ⟨b, x⟩ := s
  cases b with
  | true =>
    have e : x :: zs = ws := Option.some.inj (show some (x :: zs) = some ws from h)
    subst e
    exact Nat.le_refl _
  | false =>
    cases zs with
    | nil => exact absurd h (by intro q; cases q)
    | cons y r =>
      have q : (if y = x then some r else none) = some ws := h
      by_cases e : y = x
      · rw [if_pos e] at q
        have e2 := Option.some.inj q
        subst e2
        rw [List.length_cons]
        omega
      · rw [if_neg e] at q
        cases q
end SE
namespace SE
open PySem PySem.Spec PyProof.Rows L2
def topS (i : Nat) : Stmt := PySem.Challenge.pw_stackeffect_k15_effects_that_commute.main.body.getD i (.Pass ⟨0, 0, 0, 0⟩)
abbrev sWall : Stmt := topS 0
abbrev sStackerror : Stmt := topS 2
abbrev sInvalidword : Stmt := topS 3
abbrev sInvalidsteps : Stmt := topS 4
abbrev sInvalidnumber : Stmt := topS 5
abbrev sIsWhole : Stmt := topS 7
abbrev sIsBetween : Stmt := topS 8
abbrev sIsItem : Stmt := topS 16
abbrev sIsWord : Stmt := topS 17
abbrev sIsStep : Stmt := topS 18
abbrev sMayHold : Stmt := topS 19
abbrev sIsLimit : Stmt := topS 20
abbrev sChkSteps : Stmt := topS 21
abbrev sChkWord : Stmt := topS 22
abbrev sChkLimit : Stmt := topS 23
abbrev sTooHigh : Stmt := topS 24
abbrev sByHeight : Stmt := topS 26
abbrev sFirstSuccess : Stmt := topS 27
abbrev sFirstBeyond : Stmt := topS 28
abbrev sDifference : Stmt := topS 29
abbrev sCommute : Stmt := topS 30
abbrev sLeastPeak : Stmt := topS 32
abbrev sEffect : Stmt := topS 33
abbrev sReplaced : Stmt := topS 34
abbrev sJoined : Stmt := topS 35
abbrev sPartsOfStep : Stmt := topS 36
abbrev sEffectOf : Stmt := topS 37
abbrev sPool : Stmt := topS 39
abbrev sTake : Stmt := topS 40
abbrev sItems : Stmt := topS 41
abbrev sWord : Stmt := topS 42
abbrev sSteps : Stmt := topS 43
abbrev sLawRun : Stmt := topS 44
abbrev sLawOrdersDiffer : Stmt := topS 45
abbrev sLawRefused : Stmt := topS 46
abbrev sLawPairRight : Stmt := topS 47
abbrev sLaw : Stmt := topS 48
end SE
namespace SE
open PySem PySem.Spec PyProof.Rows L2
section
variable {P : Program} {w : World} {K : PySem.W.Frag} {mg : Str → Option Value} {base : Heap}
/-! ### _law_take -/
def spTake : Sp := fun xs H Q _ => ∃ (p : Addr) (n : Int), xs = [.ref p, .int n] ∧ Pool H p ∧ 1 ≤ n ∧ n ≤ 100000 ∧
  ∀ (r : Int) (H' : Hp), But p H H' → Pool H' p → 0 ≤ r → r < n → Q (.int r) H'
theorem scTake : FnScope ["_law_pool_here", "_law_many", "_law_found"] ["_law_pool_here", "_law_many"] (defScope sTake) := ⟨rfl, rfl, rfl, by decide +kernel, rfl, by decide +kernel, by decide +kernel⟩
theorem has_take (D : Def K mg "_law_take" sTake) : Has P w K mg base "_law_take" 1 ["_law_pool_here", "_law_many"] [] spTake := by
  refine has_of D scTake (fun _ _ _ _ _ _ us hl => match us, hl with | [_, _], _ => rfl) (fun xs H Q E h => ?_) (fun f cv A out s H xs Q E hr h => ?_)
  · obtain ⟨p, n, rfl, _⟩ := h
    rfl
  · obtain ⟨p, n, rfl, hp, h1, h2, k⟩ := h
    obtain ⟨m, z, e, hm, hz0, hz1⟩ := hp.ex
    have a0 : atI [V.int m, V.int z] 0 = some (.int m) := atI_nat (j := 0) rfl
    refine ⟨_, pss_cons (ps_if (pt_cmpR op_gt (pe_ix ix_list (pv 0) pe_int (fun _ _ => rfl)) pe_int (nomark _))
        (pss_cons (ps_set (i := 2) scTake.nd rfl (.inl rfl) (pe_op op_modN (pe_ix ix_list (pv 0) pe_int (fun _ _ => rfl)) (pv 1)))
        (pss_cons (ps_asg (pe_op op_fdivN (pe_ix ix_list (pv 0) pe_int (fun _ _ => rfl)) (pv 1)) (pg_sub (pv 0) pe_int set_list))
        (pss_one (ps_ret (pv 2))))) pss_nil)
      (pss_cons (ps_asg (pe_op op_mod (pe_op op_add (pe_op op_mul (pe_ix ix_list (pv 0) pe_int (fun _ _ => rfl)) pe_int) pe_int) pe_int) (pg_sub (pv 0) pe_int set_list))
      (pss_one (ps_ret (pe_op op_modN (pe_op op_fdiv (pe_op op_mod (pe_op op_mul (pe_ix ix_list (pv 0) pe_int (fun _ _ => rfl)) (pe_ix ix_list (pv 0) pe_int (fun _ _ => rfl))) pe_int) pe_int) (pv 1))))), ?_⟩
    refine ⟨.ref p, rfl, p, _, 0, _, rfl, rfl, .of e, a0, m, 0, rfl, rfl, _, rfl, ite2 (fun c => ?_) (fun c => ?_)⟩
    · refine ⟨.ref p, rfl, p, _, 0, _, rfl, rfl, .of e, a0, .int n, rfl, m, n, rfl, rfl, (by omega), ?_⟩
      refine ⟨.ref p, rfl, p, _, 0, _, rfl, rfl, .of e, a0, .int n, rfl, m, n, rfl, rfl, ⟨by omega, by omega⟩, .ref p, rfl, p, _, 0, 0, rfl, rfl, e, rfl, ?_⟩
      refine ⟨_, rfl, k _ _ .at ⟨m.fdiv n, z, upd_same, ?_, hz0, hz1⟩ ?_ ?_⟩
      · rw [Int.fdiv_eq_ediv_of_nonneg _ (by omega)]
        exact Int.ediv_nonneg hm (by omega)
      · rw [Int.fmod_eq_emod_of_nonneg _ (by omega)]
        exact Int.emod_nonneg _ (by omega)
      · rw [Int.fmod_eq_emod_of_nonneg _ (by omega)]
        exact Int.emod_lt_of_pos _ (by omega)
    · have a1 : atI [V.int m, V.int z] 1 = some (.int z) := atI_nat (j := 1) rfl
      refine ⟨.ref p, rfl, p, _, 1, _, rfl, rfl, .of e, a1, z, 48271, rfl, rfl, .inl ⟨by omega, by omega⟩, _, 11, rfl, rfl, _, 2147483647, rfl, rfl, (by show (0 : Int) < 2147483647; decide), .ref p, rfl, p, _, 1, 1, rfl, rfl, e, rfl, ?_⟩
      have q0 : 0 ≤ (z * 48271 + 11) % 2147483647 := Int.emod_nonneg _ (by omega)
      have q1 : (z * 48271 + 11) % 2147483647 < 2147483647 := Int.emod_lt_of_pos _ (by omega)
      have e' : (upd H p (.lst ([V.int m, V.int z].set 1 (.int ((z * 48271 + 11) % 2147483647))))) p = some (.lst [V.int m, .int ((z * 48271 + 11) % 2147483647)]) := upd_same
      have a1' : atI [V.int m, V.int ((z * 48271 + 11) % 2147483647)] 1 = some (.int ((z * 48271 + 11) % 2147483647)) := atI_nat (j := 1) rfl
      refine ⟨.ref p, rfl, p, _, 1, _, rfl, rfl, .of e', a1', .ref p, rfl, p, _, 1, _, rfl, rfl, .of e', a1', ((z * 48271 + 11) % 2147483647), ((z * 48271 + 11) % 2147483647), rfl, rfl, .inl ⟨by omega, by omega⟩, _, 2147483629, rfl, rfl, (by show (0 : Int) < 2147483629; decide), _, 64, rfl, rfl, ⟨by decide, by decide⟩, .int n, rfl, _, n, rfl, rfl, (by omega), ?_⟩
      refine k _ _ .at ⟨m, ((z * 48271 + 11) % 2147483647), upd_same, hm, q0, q1⟩ ?_ ?_
      · rw [Int.fmod_eq_emod_of_nonneg _ (by omega)]
        exact Int.emod_nonneg _ (by omega)
      · rw [Int.fmod_eq_emod_of_nonneg _ (by omega)]
        exact Int.emod_lt_of_pos _ (by omega)
/-! ### _law_pool -/
def spPool (K : PySem.W.Frag) : Sp := fun xs H Q _ => ∃ (a : Addr) (ns : List Int) (i : Int), xs = [.ref a, .int i] ∧ SqL K H a (ns.map V.int) ∧ 0 ≤ i ∧ i ≤ 63 ∧
  ∀ (p : Addr) (H' : Hp), Same H H' → H p = none → Pool H' p → Q (.ref p) H'
theorem scPool : FnScope ["_law_script", "_law_k", "_law_cell", "_law_size", "_law_seed"] ["_law_script", "_law_k"] (defScope sPool) := ⟨rfl, rfl, rfl, by decide +kernel, rfl, by decide +kernel, by decide +kernel⟩
theorem has_pool (D : Def K mg "_law_pool" sPool) (ml : mg "len" = none) (ma : mg "abs" = none) (mi : mg "int" = none) : Has P w K mg base "_law_pool" 1 ["_law_script", "_law_k"] [] (spPool K) := by
  refine has_of D scPool (fun _ _ _ _ _ _ us hl => match us, hl with | [_, _], _ => rfl) (fun xs H Q E h => ?_) (fun f cv A out s H xs Q E hr h => ?_)
  · obtain ⟨a, ns, i, rfl, _⟩ := h
    rfl
  · obtain ⟨a, ns, i, rfl, hS, h0, h1, k⟩ := h
    refine ⟨_, pss_cons (ps_set (i := 2) scPool.nd rfl (.inl rfl) pe_int)
      (Evl.pss_cut (ps_if (pt_cmpR op_lt (pv 1) (pe_callB call_len_seq (by rfl) ml PySem.boot_len (pa_cons (pv 0) pa_nil)) (nomark _))
        (pss_one (ps_set (i := 2) scPool.nd rfl (.inl rfl) (pe_ix ix_list (pv 0) (pv 1) (fun _ _ => rfl)))) pss_nil)
      (pss_cons (ps_set (i := 3) scPool.nd rfl (.inl rfl) (pe_callB call_abs (by rfl) ma (by decide +kernel) (pa_cons (pv 2) pa_nil)))
      (pss_cons (ps_set (i := 4) scPool.nd rfl (.inl rfl) (pe_op op_mod (pe_op op_pow (pe_op op_add (pe_op op_add (pe_op op_add (pe_op op_mod (pv 2) pe_int) (pe_op op_mul (pe_op op_mul pe_int (pv 1)) (pv 1))) (pe_op op_mul pe_int (pv 1))) pe_int) pe_int) pe_int))
      (pss_one (ps_ret (pe_lst (pa_cons (pe_op op_mul (pv 3) (pe_callTy call_int1 (by rfl) mi (by decide +kernel) (pa_cons (pe_cmpR op_ge (pv 3) (pe_op op_pow pe_int pe_int) (nomark _)) pa_nil))) (pa_cons (pv 4) pa_nil)))))))), ?_⟩
    refine ⟨fun σ H2 => H2 = H ∧ ∃ c : Int, σ = [some (.ref a), some (.int i), some (.int c), none, none], ?_, ?_⟩
    · refine ⟨_, rfl, .ref a, rfl, a, _, rfl, .inl hS, i, _, rfl, rfl, _, rfl, ite2 (fun c => ?_) (fun c => ?_)⟩
      · have hi : i < ((ns.map V.int).length : Int) := of_decide_eq_true c
        rw [List.length_map] at hi
        have hj : i.toNat < ns.length := by omega
        refine ⟨.ref a, rfl, .int i, rfl, a, _, i, .int ns[i.toNat], rfl, rfl, hS, at_of (j := i.toNat) (by omega) ?_, rfl, ns[i.toNat], rfl⟩
        rw [List.getElem?_map, List.getElem?_eq_getElem hj]
        rfl
      · exact ⟨rfl, 0, rfl⟩
    · rintro σ H2 ⟨rfl, c, rfl⟩
      refine ⟨_, rfl, c, rfl, ?_⟩
      refine ⟨_, rfl, c, 2147483629, rfl, rfl, (by show (0 : Int) < 2147483629; decide), _, rfl, 104729, i, rfl, rfl, .inl ⟨by decide, by decide⟩, _, rfl, _, i, rfl, rfl, .inr ⟨by omega, by omega⟩, _, _, rfl, rfl, _, rfl, 7919, i, rfl, rfl, .inl ⟨by decide, by decide⟩, _, _, rfl, rfl, _, 11, rfl, rfl, _, 3, rfl, rfl, ⟨by decide, by decide, ?_⟩, _, 2147483647, rfl, rfl, (by show (0 : Int) < 2147483647; decide), ?_⟩
      · have b0 : 0 ≤ c % 2147483629 := Int.emod_nonneg _ (by omega)
        have b1 : c % 2147483629 < 2147483629 := Int.emod_lt_of_pos _ (by omega)
        have b2 : 0 ≤ 104729 * i * i := Int.mul_nonneg (by omega) h0
        have b3 : 104729 * i * i ≤ 104729 * 63 * 63 := Int.mul_le_mul (by omega) h1 h0 (by omega)
        omega
      · have t0 : ∀ y : Int, 0 ≤ y ^ 3 % 2147483647 ∧ y ^ 3 % 2147483647 < 2147483647 := fun y => ⟨Int.emod_nonneg _ (by omega), Int.emod_lt_of_pos _ (by omega)⟩
        have u0 : 0 ≤ (if c < 0 then -c else c) := by
          split <;> omega
        refine ⟨_, rfl, _, rfl, 10, 18, rfl, rfl, ⟨by decide, by decide, by decide⟩, _, _, rfl, rfl, .inr ⟨_, rfl, ?_⟩⟩
        have b01 : ∀ b : Bool, (0 : Int) ≤ (if b = true then 1 else 0) ∧ (if b = true then (1 : Int) else 0) ≤ 1 := fun b => by cases b <;> decide
        have g := b01 (decide (10 ^ Int.toNat 18 ≤ if c < 0 then -c else c))
        refine ⟨_, _, rfl, rfl, .inr ⟨by omega, by omega⟩, _, rfl, (by show 2 ≤ sizeLine; decide), fun p hp => k p _ (Same.new hp) hp ⟨_, _, upd_same, Int.mul_nonneg u0 g.1, (t0 _).1, (t0 _).2⟩⟩
end
end SE
namespace SE
open PySem PySem.Spec PyProof.Rows L2
theorem len_add (x y : Str) : (x ++ y).length = x.length + y.length := by
  show (x.cps ++ y.cps).size = _
  rw [Array.size_append]
  rfl
theorem cps_add (x y : Str) : (x ++ y).cps.toList = x.cps.toList ++ y.cps.toList := by
  show (x.cps ++ y.cps).toList = _
  exact Array.toList_append
abbrev abc : Str := Str.ofString "abcdefghijklmnopqrstuvwxyz"
theorem abc_len : abc.length = 26 := by decide +kernel
theorem abc_at (i : Nat) (h : i < 26) : ∃ c, abc.cps[i]? = some c ∧ 97 ≤ c ∧ c ≤ 122 := by
  have q : ∀ j : Fin 26, (abc.cps[j.1]?).any (fun c => decide (97 ≤ c) && decide (c ≤ 122)) = true := by decide +kernel
  have z := q ⟨i, h⟩
  simp only [Option.any_eq_true, Bool.and_eq_true, decide_eq_true_eq] at z
  obtain ⟨c, h1, h2, h3⟩ := z
  exact ⟨c, h1, h2, h3⟩
end SE
namespace SE
open PySem PySem.Spec PyProof.Rows L2
theorem nodup_le {α : Type} [DecidableEq α] : ∀ {ys zs : List α}, ys.Nodup → (∀ y ∈ ys, y ∈ zs) → ys.length ≤ zs.length
  | [], _, _, _ => Nat.zero_le _
  | y :: ys, zs, nd, h => by
    obtain ⟨n1, n2⟩ := List.nodup_cons.mp nd
    have hy : y ∈ zs := h y List.mem_cons_self
    have ih := nodup_le (zs := zs.erase y) n2 fun x hx => (List.mem_erase_of_ne (fun e => n1 (by rw [← e]; exact hx))).mpr (h x (List.mem_cons_of_mem _ hx))
    rw [List.length_erase_of_mem hy] at ih
    have : 0 < zs.length := List.length_pos_of_mem hy
    rw [List.length_cons]
    omega
theorem yes_in {σ : L2.St} {H : Hp} {F G : Hp → Prop} (h : F H) : tYes σ H (fun b H3 => if b = true then F H3 else G H3) := by
  show if true = true then F H else G H
  exact iteT h
theorem eqV_str (a b : Str) : eqV (.str a) (.str b) = (a == b) := by
  unfold eqV
  rfl
theorem inV_str (z : Str) : ∀ zs : List Str, inV (.str z) (zs.map V.str) = decide (z ∈ zs)
  | [] => by simp [inV]
  | y :: zs => by
    have ih := inV_str z zs
    unfold inV at ih ⊢
    rw [List.map_cons, List.any_cons, ih, eqV_str]
    by_cases e : y = z
    · subst e
      simp
    · have e2 : ¬ z = y := fun q => e q.symm
      simp [e, e2]
theorem flat_strs : ∀ zs : List Str, (zs.map V.str).all flatV = true
  | [] => rfl
  | y :: zs => by
    rw [List.map_cons, List.all_cons, flat_strs zs]
    rfl
/-- the names that are taken where one is drawn twice -/
def spare : List Str := abc.cps.toList.map fun c => (⟨#[c]⟩ : Str) ++ "zz"
theorem spare_len : spare.length = 26 := by decide +kernel
theorem spare_nd : spare.Nodup := by decide +kernel
theorem spare_item {z : Str} (h : z ∈ spare) : Item z := by
  have q : ∀ y ∈ spare, (decide (1 ≤ y.length) && decide (y.length ≤ 8) && y.cps.toList.all fun c => decide (97 ≤ c) && decide (c ≤ 122)) = true := by decide +kernel
  have e := q z h
  simp only [Bool.and_eq_true, decide_eq_true_eq, List.all_eq_true] at e
  exact ⟨e.1.1, e.1.2, e.2⟩
theorem spare_at {i c : Nat} (h : abc.cps[i]? = some c) : spare[i]? = some ((⟨#[c]⟩ : Str) ++ "zz") := by
  unfold spare
  rw [List.getElem?_map, Array.getElem?_toList, h]
  rfl
theorem abc_size : abc.cps.size = 26 := by decide +kernel
end SE
namespace SE
open PySem PySem.Spec PyProof.Rows L2
section
variable {P : Program} {w : World} {K : PySem.W.Frag} {mg : Str → Option Value} {base : Heap}
/-! ### _law_word -/
def spWord : Sp := fun xs H Q _ => ∃ (p l : Addr) (m : Int) (zs : List Str), xs = [.ref p, .ref l, .int m] ∧ Pool H p ∧ l ≠ p ∧ H l = some (.lst (zs.map V.str)) ∧ zs ≠ [] ∧ zs.length ≤ 100 ∧ 0 ≤ m ∧ m ≤ 900 ∧
  ∀ (t : Addr) (ws : List Str) (H' : Hp), But p H H' → Pool H' p → H t = none → H' t = some (.tup (ws.map V.str)) → (ws.length : Int) ≤ m → (∀ z ∈ ws, z ∈ zs) → Q (.ref t) H'
abbrev nWord : List Str := ["_law_pool_here", "_law_items_here", "_law_most", "_law_turn"]
theorem scWord : FnScope nWord ["_law_pool_here", "_law_items_here", "_law_most"] (defScope sWord) := ⟨rfl, rfl, rfl, by decide +kernel, rfl, by decide +kernel, by decide +kernel⟩
theorem pick_str {zs : List Str} {r : Int} (h0 : 0 ≤ r) (h1 : r < (zs.length : Int)) : ∃ z, z ∈ zs ∧ atI (zs.map V.str) r = some (.str z) := by
  have hj : r.toNat < zs.length := by omega
  refine ⟨zs[r.toNat], List.getElem_mem hj, at_of (j := r.toNat) (by omega) ?_⟩
  rw [List.getElem?_map, List.getElem?_eq_getElem hj]
  rfl
theorem has_word (D : Def K mg "_law_word" sWord) (GT : Has P w K mg base "_law_take" 1 ["_law_pool_here", "_law_many"] [] spTake) (mr : mg "range" = none) (ml : mg "len" = none) (mt : mg "tuple" = none) : Has P w K mg base "_law_word" 2 ["_law_pool_here", "_law_items_here", "_law_most"] [] spWord := by
  refine has_of D scWord (fun _ _ _ _ _ _ us hl => match us, hl with | [_, _, _], _ => rfl) (fun xs H Q E h => ?_) (fun f cv A out s H xs Q E hr h => ?_)
  · obtain ⟨p, l, m, zs, rfl, _⟩ := h
    rfl
  · obtain ⟨p, l, m, zs, rfl, hp, lp, hl, hne, hz, h0, h1, k⟩ := h
    refine ⟨_, pss_one (ps_ret (pe_callTy call_tuple_of (by rfl) mt (by decide +kernel) (pa_cons
      (pe_lc (own := [("_law_turn", 3)]) (g := gName 3) (tt := tYes) (te := tOp (rIxL K) (tVar 1) (tCall spTake [] E0 (tCons (tVar 0) (tCons (tCB (Evl.rLenS K) (tCons (tVar 1) tNil)) tNil)))) rfl scWord.nd
        (pi_range1 (by rfl) mr (pa_cons (pe_has GT hr (pa_cons (pv 0) (pa_cons (pe_op op_add (pv 2) pe_int) pa_nil))) pa_nil)) (blkOk_by (own := [("_law_turn", 3)]) (N := nWord) (sc := defScope sWord) (by decide +kernel))
        (fun _ _ _ _ _ => pg_name (i := 3) scWord.nd rfl (.inl rfl)) (fun _ _ _ _ _ => pts_nil)
        (fun _ _ _ _ _ => pe_ix ix_list (pv 1) (pe_has GT hr (pa_cons (pv 0) (pa_cons (pe_callB call_len_seq (by rfl) ml PySem.boot_len (pa_cons (pv 1) pa_nil)) pa_nil))) (fun _ _ => rfl))) pa_nil))), ?_⟩
    refine ⟨_, rfl, _, rfl, m, 1, rfl, rfl, p, m + 1, rfl, hp, by omega, by omega, fun n H1 b1 p1 n0 n1 => ?_⟩
    have hl1 : H1 l = some (.lst (zs.map V.str)) := b1 l _ lp hl
    refine ⟨n, rfl, by omega, by omega, fun D hD => lc_range (lo := 0) (n := n.toNat) (fun i H2 => ∃ ws : List Str, H2 D = some (.lst (ws.map V.str)) ∧ ws.length = i ∧ (∀ z ∈ ws, z ∈ zs) ∧ But p H H2 ∧ Pool H2 p ∧ H2 l = some (.lst (zs.map V.str))) ?_ ?_ ?_⟩
    · have Dp : D ≠ p := p1.free hD
      exact ⟨[], upd_same, rfl, fun z q => (by cases q), b1.free (b1.none Dp hD), p1.upd Dp, by rw [upd_ne (ne_of_none hl1 hD)]; exact hl1⟩
    · rintro i H2 hi ⟨ws, hw, wl, wz, b2, p2, hl2⟩
      have Dp : D ≠ p := p1.free hD
      have Dl : l ≠ D := ne_of_none hl1 hD
      have hzp : 0 < zs.length := List.length_pos_iff.mpr hne
      refine ⟨rfl, yes_in ⟨_, rfl, _, rfl, _, rfl, l, _, rfl, .inl (.of hl2), p, _, rfl, p2, ?_, ?_, fun r H3 b3 p3 r0 r1 => ?_⟩⟩
      · rw [List.length_map]
        omega
      · rw [List.length_map]
        omega
      · rw [List.length_map] at r1
        obtain ⟨z, zm, az⟩ := pick_str r0 r1
        have hl3 : H3 l = some (.lst (zs.map V.str)) := b3 l _ lp hl2
        have hD3 : H3 D = some (.lst (ws.map V.str)) := b3 D _ Dp hw
        refine ⟨l, _, r, _, rfl, rfl, .of hl3, az, _, hD3, ?_, ws ++ [z], ?_, ?_, ?_, (b2.trans b3).free (b1.none Dp hD), p3.upd Dp, ?_⟩
        · rw [List.length_map, wl]
          exact small1000 (by omega)
        · rw [upd_same, List.map_append]
          rfl
        · rw [List.length_append, wl]
          rfl
        · intro y hy
          rcases List.mem_append.mp hy with q | q
          · exact wz y q
          · rw [List.mem_singleton.mp q]
            exact zm
        · rw [upd_ne Dl]
          exact hl3
    · rintro H2 ⟨ws, hw, wl, wz, b2, p2, hl2⟩
      refine ⟨D, _, rfl, .inl ⟨.of hw, fun t ht => ?_⟩⟩
      have tp : t ≠ p := p2.free ht
      refine k t ws _ (b2.free (b2.none tp ht)) (p2.upd tp) (b2.none tp ht) upd_same ?_ wz
      omega
end
end SE
namespace SE
open PySem PySem.Spec PyProof.Rows L2
/-- a test whose ways meet -/
def tCutT (t : TT) : TT := fun σ H Q => ∃ M : Bool → Hp → Prop, t σ H M ∧ ∀ b H2, M b H2 → Q b H2
theorem pt_cut {X : Cx} {e : Expr} {t : TT} (h : PT X e t) : PT X e (tCutT t) := ⟨fun pins s σ H Q I hw => by
  obtain ⟨M, h1, h2⟩ := hw
  refine thn (h.run pins s σ H M I h1) fun b s2 z => ?_
  obtain ⟨H2, I2, q⟩ := z
  exact ⟨H2, I2, h2 b H2 q⟩⟩
theorem cut_map {α : Type} (f : α → V) (hs : List α) (lo hi : Option Int) : cutV (hs.map f) lo hi = ((hs.drop (HT.sIx hs.length 0 lo)).take (HT.sIx hs.length hs.length hi - HT.sIx hs.length 0 lo)).map f := by
  unfold cutV
  rw [List.length_map, List.map_take, List.map_drop]
theorem cut_mem {α : Type} {x : α} {hs : List α} {a b : Nat} (h : x ∈ (hs.drop a).take b) : x ∈ hs := List.mem_of_mem_drop (List.mem_of_mem_take h)
/-- steps whose tuples stand in the heap -/
abbrev StepsH (H : Hp) : List V → List Stp → Prop := Paired fun v s => ∃ t, v = .ref t ∧ H t = some (.tup [.str (act s.1), .str s.2])
theorem StepsH.v {K : PySem.W.Frag} {H : Hp} {xs : List V} {ss : List Stp} (h : StepsH H xs ss) : StepsV K H xs ss := Paired.mapP h fun _ _ q => by
  obtain ⟨t, e, z⟩ := q
  exact ⟨t, e, .of z⟩
theorem StepsH.but {H H' : Hp} {p : Addr} {xs : List V} {ss : List Stp} (h : StepsH H xs ss) (hp : Pool H p) (b : But p H H') : StepsH H' xs ss := Paired.mapP h fun _ _ q => by
  obtain ⟨t, e, z⟩ := q
  exact ⟨t, e, b t _ (hp.ne z) z⟩
theorem StepsH.upd {H : Hp} {q : Addr} {o : HO} {xs : List V} {ss : List Stp} (h : StepsH H xs ss) (hq : ∀ ys, H q ≠ some (.tup ys)) : StepsH (upd H q o) xs ss := Paired.mapP h fun _ _ r => by
  obtain ⟨t, e, z⟩ := r
  refine ⟨t, e, ?_⟩
  rw [upd_ne (fun w => hq _ (by rw [← w]; exact z))]
  exact z
end SE
namespace SE
open PySem PySem.Spec PyProof.Rows L2
/-! ### what is never reached; types -/
theorem pe_never {X : Cx} {e : Expr} : PE X e (fun _ _ _ => False) := ⟨fun _ _ _ _ _ _ h => h.elim⟩
theorem ty_tup {K : PySem.W.Frag} {H : Hp} {a : Addr} {xs : List V} (h : SqT K H a xs) : TyX K H (.ref a) (.type "tuple") := by
  rcases h with (h | ⟨o, h⟩) | ⟨o, its, n, h1, h2, _⟩
  · exact .base (.tup h)
  · exact .fTuple h
  · exact .kTuple h1 h2
theorem ty_lst {K : PySem.W.Frag} {H : Hp} {a : Addr} {xs : List V} (h : SqL K H a xs) : TyX K H (.ref a) (.type "list") := by
  rcases h with (h | ⟨o, h⟩) | ⟨o, its, n, h1, h2, _⟩
  · exact .base (.lst h)
  · exact .base (.frz h)
  · exact .kList h1 h2
theorem bl_snoc (n : Nat) : (List.replicate n true).map V.bl ++ [V.bl true] = (List.replicate (n + 1) true).map V.bl := by
  rw [List.replicate_succ', List.map_append]
  rfl
theorem all_true (n : Nat) : (List.replicate n true).all id = true := by
  rw [List.all_eq_true]
  intro b hb
  rw [(List.mem_replicate.mp hb).2]
  rfl
theorem abc_has {c : Nat} (h : 97 ≤ c ∧ c ≤ 122) : c ∈ abc.cps.toList := by
  have q : ∀ j : Fin 26, (97 + j.1) ∈ abc.cps.toList := by decide +kernel
  have z := q ⟨c - 97, by omega⟩
  have e : 97 + (c - 97) = c := by omega
  rw [← e]
  exact z
/-- the module's constants -/
structure Cons (K : PySem.W.Frag) (w : World) (mg : Str → Option Value) : Prop where
  let_ : ∃ t, mg "LETTERS" = some (.str abc t)
  ml : ∃ t, mg "MOST_LETTERS" = some (.int 8 t)
  ms : ∃ t, mg "MOST_STEPS" = some (.int 1000 t)
  opp : ∃ (d : Addr) (es : Array DictEntry) (n : Nat) (u v : Value), mg "OPPOSITES" = some (.ref d) ∧ KDict K w d es n ∧ PySem.W.nsIn K d "push" = some (some u) ∧ RelV (.str "pop") u ∧ PySem.W.nsIn K d "pop" = some (some v) ∧ RelV (.str "push") v
/-- built-in names that the module leaves as they are -/
structure Blt (mg : Str → Option Value) : Prop where
  isi : mg "isinstance" = none
  str : mg "str" = none
  len : mg "len" = none
  all : mg "all" = none
  tup : mg "tuple" = none
  lst : mg "list" = none
  enu : mg "enumerate" = none
section
variable {P : Program} {w : World} {K : PySem.W.Frag} {mg : Str → Option Value} {base : Heap}
/-! ### is_item -/
def spIsItem : Sp := fun xs H Q _ => ∃ (z : Str), xs = [.str z] ∧ Item z ∧ ∀ H', Same H H' → Q (.bl true) H'
theorem scIsItem : FnScope ["value", "letter"] ["value"] (defScope sIsItem) := ⟨rfl, rfl, rfl, by decide +kernel, rfl, by decide +kernel, by decide +kernel⟩
theorem has_isItem (D : Def K mg "is_item" sIsItem) (B : Blt mg) (C : Cons K w mg) : Has P w K mg base "is_item" 1 ["value"] [] spIsItem := by
  obtain ⟨tl, hL⟩ := C.let_
  obtain ⟨tm, hM⟩ := C.ml
  refine has_of D scIsItem (fun _ _ _ _ _ _ us hl => match us, hl with | [_], _ => rfl) (fun xs H Q E h => ?_) (fun f cv A out s H xs Q E hr h => ?_)
  · obtain ⟨z, rfl, _⟩ := h
    rfl
  · obtain ⟨z, rfl, iz, k⟩ := h
    refine ⟨_, pss_cons (ps_if (PW.pt (pw_or (pt_not (pt_val (pe_callB call_isi (by rfl) B.isi (by decide +kernel) (pa_cons (pv 0) (pa_cons (pe_bltn (v := .ty "str") (by rfl) B.str (by decide +kernel) rfl) pa_nil)))))
        (pw_or1 (pt_not (pt_chain op_le op_le pe_int (pe_callB call_len_str (by rfl) B.len PySem.boot_len (pa_cons (pv 0) pa_nil)) (pe_glob (v := .int 8) rfl hM ⟨_, rfl⟩)))))) (pss_one (ps_ret pe_bl)) pss_nil)
      (pss_one (ps_ret (pe_callB (cr_all rfl) (by rfl) B.all (by decide +kernel) (pa_cons
        (pe_lc (own := [("letter", 1)]) (g := gName 1) (tt := tYes) rfl scIsItem.nd (pi_str (pv 0)) (blkOk_by (own := [("letter", 1)]) (N := ["value", "letter"]) (sc := defScope sIsItem) (by decide +kernel))
          (fun _ _ _ _ _ => pg_name (i := 1) scIsItem.nd rfl (.inl rfl)) (fun _ _ _ _ _ => pts_nil) (fun _ _ _ _ _ => pe_cmpR op_in_sign (pv 1) (pe_glob (v := .str abc) rfl hL ⟨_, rfl⟩) (by rfl))) pa_nil)))), ?_⟩
    refine ⟨_, rfl, _, .ty "str", .type "str", .type "str", true, rfl, .ty _, .base (.str z), kit_ty (by decide +kernel), true, rfl, iteF ?_⟩
    have p1 : (1 : Int) ≤ (z.length : Int) := by have := iz.pos; omega
    have p2 : (z.length : Int) ≤ 8 := by have := iz.most; omega
    refine ⟨_, rfl, z, rfl, Nat.le_of_lt (small1000 (by have := iz.most; omega)), 1, _, rfl, rfl, true, congrArg V.bl (decide_eq_true p1), iteT ⟨_, 8, rfl, rfl, true, congrArg V.bl (decide_eq_true p2), iteF ?_⟩⟩
    refine ⟨_, rfl, z, rfl, fun D hD => lc_it walk_str (fun j H2 => H2 D = some (.lst ((List.replicate j true).map V.bl)) ∧ Same H H2) ⟨upd_same, Same.new hD⟩ (fun _ _ _ _ => trivial) ?_ ?_⟩
    · rintro j x H2 H3 hj ⟨h2, s2⟩ ⟨rfl, c, hc, rfl⟩
      refine ⟨rfl, yes_in ⟨_, rfl, c, abc, rfl, rfl, _, h2, ?_, ?_, ?_⟩⟩
      · rw [List.length_map, List.length_replicate]
        have : j < z.length := hj
        have := iz.most
        exact small1000 (by omega)
      · have cm : c ∈ z.cps.toList := by
          have q : z.cps.toList[j]? = some c := by rw [Array.getElem?_toList]; exact hc
          exact List.mem_of_getElem? q
        rw [upd_same, decide_eq_true (abc_has (iz.low c cm)), bl_snoc]
      · exact Same.free2 s2 hD
    · rintro H2 ⟨h2, s2⟩
      refine ⟨D, _, rfl, .of h2, ?_⟩
      rw [all_true]
      exact k H2 s2
/-! ### is_word -/
def spIsWord (K : PySem.W.Frag) : Sp := fun xs H Q _ => ∃ (a : Addr) (zs : List Str), xs = [.ref a] ∧ SqT K H a (zs.map V.str) ∧ zs.length ≤ 5000 ∧ (∀ z ∈ zs, Item z) ∧ ∀ H', Same H H' → Q (.bl true) H'
theorem scIsWord : FnScope ["value", "item"] ["value"] (defScope sIsWord) := ⟨rfl, rfl, rfl, by decide +kernel, rfl, by decide +kernel, by decide +kernel⟩
theorem has_isWord (D : Def K mg "is_word" sIsWord) (G : Has P w K mg base "is_item" 1 ["value"] [] spIsItem) (B : Blt mg) : Has P w K mg base "is_word" 2 ["value"] [] (spIsWord K) := by
  refine has_of D scIsWord (fun _ _ _ _ _ _ us hl => match us, hl with | [_], _ => rfl) (fun xs H Q E h => ?_) (fun f cv A out s H xs Q E hr h => ?_)
  · obtain ⟨a, zs, rfl, _⟩ := h
    rfl
  · obtain ⟨a, zs, rfl, hT, hz, hI, k⟩ := h
    refine ⟨_, pss_one (ps_ret (pe_and (pe_callB call_isi (by rfl) B.isi (by decide +kernel) (pa_cons (pv 0) (pa_cons (pe_bltn (v := .ty "tuple") (by rfl) B.tup (by decide +kernel) rfl) pa_nil)))
      (pe_one (pe_callB (cr_all rfl) (by rfl) B.all (by decide +kernel) (pa_cons
        (pe_lc (own := [("item", 1)]) (g := gName 1) (tt := tYes) (te := tCall spIsItem [] E0 (tCons (tVar 1) tNil)) rfl scIsWord.nd (pi_tup (pv 0)) (blkOk_by (own := [("item", 1)]) (N := ["value", "item"]) (sc := defScope sIsWord) (by decide +kernel))
          (fun _ _ _ _ _ => pg_name (i := 1) scIsWord.nd rfl (.inl rfl)) (fun _ _ _ _ _ => pts_nil) (fun _ _ _ _ _ => pe_has G hr (pa_cons (pv 1) pa_nil))) pa_nil))))), ?_⟩
    refine ⟨_, rfl, _, .ty "tuple", .type "tuple", .type "tuple", true, rfl, .ty _, ty_tup hT, kit_ty (by decide +kernel), true, rfl, iteT ?_⟩
    refine ⟨_, rfl, a, rfl, ⟨_, hT⟩, fun D hD => lc_tup (K := K) (a := a) (xs := zs.map V.str) (fun j H2 => H2 D = some (.lst ((List.replicate j true).map V.bl)) ∧ Same H H2) ⟨upd_same, Same.new hD⟩ (fun _ _ _ q => Same.tup q.2 hT) ?_ ?_⟩
    · rintro j x H2 hj ⟨h2, s2⟩
      have jl : j < zs.length := by
        have := (List.getElem?_eq_some_iff.mp hj).1
        rwa [List.length_map] at this
      rw [List.getElem?_map, List.getElem?_eq_getElem jl] at hj
      have e := Option.some.inj hj
      subst e
      refine ⟨rfl, yes_in ⟨_, rfl, zs[j], rfl, hI _ (List.getElem_mem jl), fun H3 s3 => ⟨_, s3 _ _ h2, ?_, ?_, ?_⟩⟩⟩
      · rw [List.length_map, List.length_replicate]
        exact Nat.lt_of_lt_of_le jl (Nat.le_trans hz (by decide))
      · rw [upd_same, bl_snoc]
      · exact Same.free2 (s2.trans s3) hD
    · rintro H2 ⟨h2, s2⟩
      refine ⟨D, _, rfl, .of h2, ?_⟩
      rw [all_true]
      exact k H2 s2
/-! ### is_step -/
def spIsStep (K : PySem.W.Frag) : Sp := fun xs H Q _ => ∃ (v : V) (s : Stp), xs = [v] ∧ StepV K H v s ∧ Item s.2 ∧ ∀ H', Same H H' → Q (.bl true) H'
theorem scIsStep : FnScope ["value", "action", "item"] ["value"] (defScope sIsStep) := ⟨rfl, rfl, rfl, by decide +kernel, rfl, by decide +kernel, by decide +kernel⟩
theorem has_isStep (D : Def K mg "is_step" sIsStep) (G : Has P w K mg base "is_item" 1 ["value"] [] spIsItem) (B : Blt mg) (C : Cons K w mg) : Has P w K mg base "is_step" 2 ["value"] [] (spIsStep K) := by
  obtain ⟨d, es, n, u1, u2, hO, KD, n1, r1, n2, r2⟩ := C.opp
  refine has_of D scIsStep (fun _ _ _ _ _ _ us hl => match us, hl with | [_], _ => rfl) (fun xs H Q E h => ?_) (fun f cv A out s H xs Q E hr h => ?_)
  · obtain ⟨v, st, rfl, _⟩ := h
    rfl
  · obtain ⟨v, st, rfl, ⟨t, rfl, hT⟩, iz, k⟩ := h
    refine ⟨_, pss_cons (ps_if (PW.pt (pw_or (pt_not (pt_val (pe_callB call_isi (by rfl) B.isi (by decide +kernel) (pa_cons (pv 0) (pa_cons (pe_bltn (v := .ty "tuple") (by rfl) B.tup (by decide +kernel) rfl) pa_nil)))))
        (pw_or1 (pt_cmpR op_ne (pe_callB call_len_seq (by rfl) B.len PySem.boot_len (pa_cons (pv 0) pa_nil)) pe_int (nomark _))))) (pss_one (ps_ret pe_bl)) pss_nil)
      (pss_cons (ps_asg (pv 0) (pg_tup (by rfl) (pgs_cons (pg_name (i := 1) scIsStep.nd rfl (.inl rfl)) (pgs_cons (pg_name (i := 2) scIsStep.nd rfl (.inl rfl)) pgs_nil))))
      (pss_one (ps_ret (pe_and (pe_callB call_isi (by rfl) B.isi (by decide +kernel) (pa_cons (pv 1) (pa_cons (pe_bltn (v := .ty "str") (by rfl) B.str (by decide +kernel) rfl) pa_nil)))
        (pe_and (pe_cmpR (op_in_kd KD) (pv 1) (pe_glob (v := .ref d) rfl hO rfl) (by rfl)) (pe_one (pe_has G hr (pa_cons (pv 2) pa_nil)))))))), ?_⟩
    refine ⟨_, rfl, _, .ty "tuple", .type "tuple", .type "tuple", true, rfl, .ty _, ty_tup hT, kit_ty (by decide +kernel), true, rfl, iteF ?_⟩
    refine ⟨_, rfl, t, _, rfl, .inr hT, rfl, _, rfl, iteF ?_⟩
    refine ⟨_, rfl, t, _, rfl, hT, rfl, _, _, rfl, _, _, rfl, rfl, ?_⟩
    refine ⟨_, rfl, _, .ty "str", .type "str", .type "str", true, rfl, .ty _, .base (.str _), kit_ty (by decide +kernel), true, rfl, iteT ?_⟩
    have inO : ∃ r, PySem.W.nsIn K d (act st.1) = some r ∧ r.isSome = true := by
      cases e : st.1 with
      | true => exact ⟨some u1, n1, rfl⟩
      | false => exact ⟨some u2, n2, rfl⟩
    obtain ⟨r, hr1, hr2⟩ := inO
    refine ⟨_, rfl, act st.1, r, rfl, rfl, hr1, r.isSome, rfl, ?_⟩
    rw [hr2]
    exact iteT ⟨_, rfl, st.2, rfl, iz, k⟩
end
end SE
namespace SE
open PySem PySem.Spec PyProof.Rows L2
section
variable {P : Program} {w : World} {K : PySem.W.Frag} {mg : Str → Option Value} {base : Heap}
/-! ### may_hold_steps -/
def spMay (K : PySem.W.Frag) : Sp := fun xs H Q _ => ∃ (a : Addr) (ys : List V), xs = [.ref a] ∧ (SqL K H a ys ∨ SqT K H a ys) ∧ ys.length ≤ 1000 ∧ ∀ H', Same H H' → Q (.bl true) H'
theorem scMay : FnScope ["value"] ["value"] (defScope sMayHold) := ⟨rfl, rfl, rfl, by decide +kernel, rfl, by decide +kernel, by decide +kernel⟩
theorem has_may (D : Def K mg "may_hold_steps" sMayHold) (B : Blt mg) (C : Cons K w mg) : Has P w K mg base "may_hold_steps" 1 ["value"] [] (spMay K) := by
  obtain ⟨tm, hM⟩ := C.ms
  refine has_of D scMay (fun _ _ _ _ _ _ us hl => match us, hl with | [_], _ => rfl) (fun xs H Q E h => ?_) (fun f cv A out s H xs Q E hr h => ?_)
  · obtain ⟨a, ys, rfl, _⟩ := h
    rfl
  · obtain ⟨a, ys, rfl, hS, hl, k⟩ := h
    refine ⟨_, pss_one (ps_ret (pe_and (pe_callB call_isiT (by rfl) B.isi (by decide +kernel) (pa_cons (pv 0) (pa_cons (pe_tup (pa_cons (pe_bltn (v := .ty "list") (by rfl) B.lst (by decide +kernel) rfl) (pa_cons (pe_bltn (v := .ty "tuple") (by rfl) B.tup (by decide +kernel) rfl) pa_nil))) pa_nil)))
      (pe_one (pe_cmpR op_le (pe_callB call_len_seq (by rfl) B.len PySem.boot_len (pa_cons (pv 0) pa_nil)) (pe_glob (v := .int 1000) rfl hM ⟨_, rfl⟩) (nomark _))))), ?_⟩
    refine ⟨_, rfl, (by show 2 ≤ sizeLine; decide), fun t ht => ?_⟩
    have s1 : Same H (upd H t (.tup [.ty "list", .ty "tuple"])) := Same.new ht
    have p1 : (ys.length : Int) ≤ 1000 := by omega
    have ty : ∃ T, TyX K (upd H t (.tup [.ty "list", .ty "tuple"])) (.ref a) T ∧ PySem.W.kitAny K T [.type "list", .type "tuple"] = some true := by
      rcases hS with q | q
      · exact ⟨_, ty_lst (Same.seq s1 q), kitAny_cons (b := true) (kit_ty (by decide +kernel)) (fun z => (by cases z)) (fun _ => rfl)⟩
      · exact ⟨_, ty_tup (Same.tup s1 q), kitAny_cons (b := false) (kit_ty (by decide +kernel)) (fun _ => kitAny_cons (b := true) (kit_ty (by decide +kernel)) (fun z => (by cases z)) (fun _ => rfl)) (fun z => (by cases z))⟩
    obtain ⟨T, ty1, ty2⟩ := ty
    refine ⟨_, t, _, T, _, true, rfl, upd_same, .cons (.ty _) (.cons (.ty _) .nil), ty1, ty2, true, rfl, iteT ?_⟩
    refine ⟨_, rfl, a, ys, rfl, hS.imp (Same.seq s1) (Same.tup s1), _, 1000, rfl, rfl, ?_⟩
    show Q (V.bl (decide ((ys.length : Int) ≤ 1000))) _
    rw [decide_eq_true p1]
    exact k _ s1
/-! ### check_steps -/
def spChkSteps (K : PySem.W.Frag) : Sp := fun xs H Q _ => ∃ (a : Addr) (ys : List V) (ss : List Stp), xs = [.ref a] ∧ (SqL K H a ys ∨ SqT K H a ys) ∧ ys.length ≤ 1000 ∧ StepsV K H ys ss ∧ (∀ s ∈ ss, Item s.2) ∧ ∀ H', Same H H' → Q .non H'
theorem scChk : FnScope ["steps", "index", "step"] ["steps"] (defScope sChkSteps) := ⟨rfl, rfl, rfl, by decide +kernel, rfl, by decide +kernel, by decide +kernel⟩
theorem walk_enumT {K : PySem.W.Frag} {a : Addr} {xs : List V} : Walk (ItE K a) xs.length (fun H => SqT K H a xs) (YPair (fun i => some (.int (i : Nat))) (fun i => xs[i]?)) := by
  refine ⟨fun i _ hi q => ⟨xs, xs[i], q, by simp [hi]⟩, fun _ q => ⟨xs, q, Nat.le_refl _⟩, fun i H v H2 _ q y => ?_⟩
  obtain ⟨T, x, h1, h2, h3, h4⟩ := y
  exact ⟨T, .int (i : Nat), x, h1, h2, h3, rfl, h4 xs q⟩
theorem has_chkSteps (D : Def K mg "check_steps" sChkSteps) (GM : Has P w K mg base "may_hold_steps" 1 ["value"] [] (spMay K)) (GS : Has P w K mg base "is_step" 2 ["value"] [] (spIsStep K)) (B : Blt mg) : Has P w K mg base "check_steps" 3 ["steps"] [] (spChkSteps K) := by
  refine has_of D scChk (fun _ _ _ _ _ _ us hl => match us, hl with | [_], _ => rfl) (fun xs H Q E h => ?_) (fun f cv A out s H xs Q E hr h => ?_)
  · obtain ⟨a, ys, ss, rfl, _⟩ := h
    rfl
  · obtain ⟨a, ys, ss, rfl, hS, hl, hV, hI, k⟩ := h
    have hr1 : Room 1 _ := hr.mono (by decide)
    have one : ∀ {i : Nat} {y : V} {H2 : Hp}, ys[i]? = some y → Same H H2 → ∃ s, StepV K H2 y s ∧ Item s.2 := by
      intro i y H2 hy s2
      obtain ⟨st, h1, h2⟩ := StepsV.at hV hy
      exact ⟨st, h2.same s2, hI st (List.mem_of_getElem? h1)⟩
    rcases hS with hS | hS
    · refine ⟨_, pss_cons (ps_if (pt_not (pt_val (pe_has GM hr1 (pa_cons (pv 0) pa_nil)))) pss_never pss_nil)
        (pss_one (ps_for PassesOwn.never rfl (pi_enum (by rfl) B.enu (pa_cons (pv 0) pa_nil)) (pg_tup (by rfl) (pgs_cons (pg_name (i := 1) scChk.nd rfl (.inl rfl)) (pgs_cons (pg_name (i := 2) scChk.nd rfl (.inl rfl)) pgs_nil)))
          (pss_one (ps_if (pt_not (pt_val (pe_has GS hr (pa_cons (pv 2) pa_nil)))) pss_never pss_nil)))), ?_⟩
      refine ⟨_, rfl, a, ys, rfl, .inl hS, hl, fun H1 s1 => ⟨true, rfl, iteF ?_⟩⟩
      refine ⟨_, rfl, a, ys, rfl, Same.seq s1 hS, for_it (walk_enum (K := K) (a := a) (xs := ys)) (fun i σ H2 => ∃ y1 y2, σ = [some (.ref a), y1, y2] ∧ Same H H2) ⟨none, none, rfl, s1⟩ (fun i σ H2 _ q => ?_) ?_ ?_⟩
      · obtain ⟨_, _, _, s2⟩ := q
        exact Same.seq s2 hS
      · rintro i x σ H2 H3 hi ⟨y1, y2, rfl, s2⟩ ⟨T, p, y, rfl, nT, rfl, hp, hy⟩
        refine ⟨T, _, rfl, .of upd_same, rfl, _, _, rfl, _, _, rfl, rfl, ?_⟩
        have s3 : Same H (upd H2 T (.tup [p, y])) := Same.free2 s2 (s2.free nT)
        obtain ⟨st, h1, h2⟩ := one hy s3
        exact ⟨_, rfl, y, st, rfl, h1, h2, fun H4 s4 => ⟨true, rfl, iteF ⟨_, _, rfl, s3.trans s4⟩⟩⟩
      · rintro σ H2 ⟨y1, y2, rfl, s2⟩
        exact k H2 s2
    · refine ⟨_, pss_cons (ps_if (pt_not (pt_val (pe_has GM hr1 (pa_cons (pv 0) pa_nil)))) pss_never pss_nil)
        (pss_one (ps_for PassesOwn.never rfl (pi_enumT (by rfl) B.enu (pa_cons (pv 0) pa_nil)) (pg_tup (by rfl) (pgs_cons (pg_name (i := 1) scChk.nd rfl (.inl rfl)) (pgs_cons (pg_name (i := 2) scChk.nd rfl (.inl rfl)) pgs_nil)))
          (pss_one (ps_if (pt_not (pt_val (pe_has GS hr (pa_cons (pv 2) pa_nil)))) pss_never pss_nil)))), ?_⟩
      refine ⟨_, rfl, a, ys, rfl, .inr hS, hl, fun H1 s1 => ⟨true, rfl, iteF ?_⟩⟩
      refine ⟨_, rfl, a, ys, rfl, Same.tup s1 hS, for_it (walk_enumT (K := K) (a := a) (xs := ys)) (fun i σ H2 => ∃ y1 y2, σ = [some (.ref a), y1, y2] ∧ Same H H2) ⟨none, none, rfl, s1⟩ (fun i σ H2 _ q => ?_) ?_ ?_⟩
      · obtain ⟨_, _, _, s2⟩ := q
        exact Same.tup s2 hS
      · rintro i x σ H2 H3 hi ⟨y1, y2, rfl, s2⟩ ⟨T, p, y, rfl, nT, rfl, hp, hy⟩
        refine ⟨T, _, rfl, .of upd_same, rfl, _, _, rfl, _, _, rfl, rfl, ?_⟩
        have s3 : Same H (upd H2 T (.tup [p, y])) := Same.free2 s2 (s2.free nT)
        obtain ⟨st, h1, h2⟩ := one hy s3
        exact ⟨_, rfl, y, st, rfl, h1, h2, fun H4 s4 => ⟨true, rfl, iteF ⟨_, _, rfl, s3.trans s4⟩⟩⟩
      · rintro σ H2 ⟨y1, y2, rfl, s2⟩
        exact k H2 s2
/-! ### check_word, is_limit, check_limit, check_run, is_too_high -/
def spChkWord (K : PySem.W.Frag) : Sp := fun xs H Q _ => ∃ (a : Addr) (zs : List Str), xs = [.ref a] ∧ SqT K H a (zs.map V.str) ∧ zs.length ≤ 5000 ∧ (∀ z ∈ zs, Item z) ∧ ∀ H', Same H H' → Q .non H'
theorem scCw : FnScope ["word"] ["word"] (defScope sChkWord) := ⟨rfl, rfl, rfl, by decide +kernel, rfl, by decide +kernel, by decide +kernel⟩
theorem has_chkWord (D : Def K mg "check_word" sChkWord) (G : Has P w K mg base "is_word" 2 ["value"] [] (spIsWord K)) : Has P w K mg base "check_word" 3 ["word"] [] (spChkWord K) := by
  refine has_of D scCw (fun _ _ _ _ _ _ us hl => match us, hl with | [_], _ => rfl) (fun xs H Q E h => ?_) (fun f cv A out s H xs Q E hr h => ?_)
  · obtain ⟨a, zs, rfl, _⟩ := h
    rfl
  · obtain ⟨a, zs, rfl, hT, hz, hI, k⟩ := h
    refine ⟨_, pss_one (ps_if (pt_not (pt_val (pe_has G hr (pa_cons (pv 0) pa_nil)))) pss_never pss_nil), ?_⟩
    exact ⟨_, rfl, a, zs, rfl, hT, hz, hI, fun H1 s1 => ⟨true, rfl, iteF (k H1 s1)⟩⟩
end
end SE
namespace SE
open PySem PySem.Spec PyProof.Rows L2
/-- a def with keyword-only defaults alone -/
def DefK (K : PySem.W.Frag) (mg : Str → Option Value) (x : Str) (st : Stmt) (kws : List (Str × V)) : Prop := ∃ f fd, Fun K x x st f fd ∧ FunD K x x (defArgs st) (defBody st) (defScope st) [] kws f fd ∧ mg x = some (.ref f)
end SE
namespace SE
open PySem PySem.Spec PyProof.Rows L2
section
variable {P : Program} {w : World} {K : PySem.W.Frag} {mg : Str → Option Value} {base : Heap}
/-! ### is_whole, is_between, check_between -/
def spWhole : Sp := fun xs H Q _ => ∃ n : Int, xs = [.int n] ∧ Q (.bl true) H
theorem scWh : FnScope ["value"] ["value"] (defScope sIsWhole) := ⟨rfl, rfl, rfl, by decide +kernel, rfl, by decide +kernel, by decide +kernel⟩
theorem has_whole (D : Def K mg "is_whole" sIsWhole) (B : Blt mg) (mi : mg "int" = none) (mb : mg "bool" = none) : Has P w K mg base "is_whole" 1 ["value"] [] spWhole := by
  refine has_of D scWh (fun _ _ _ _ _ _ us hl => match us, hl with | [_], _ => rfl) (fun xs H Q E h => ?_) (fun f cv A out s H xs Q E hr h => ?_)
  · obtain ⟨n, rfl, _⟩ := h
    rfl
  · obtain ⟨n, rfl, k⟩ := h
    refine ⟨_, pss_one (ps_ret (pe_and (pe_callB call_isi (by rfl) B.isi (by decide +kernel) (pa_cons (pv 0) (pa_cons (pe_bltn (v := .ty "int") (by rfl) mi (by decide +kernel) rfl) pa_nil)))
      (pe_one (pe_not (pe_callB call_isi (by rfl) B.isi (by decide +kernel) (pa_cons (pv 0) (pa_cons (pe_bltn (v := .ty "bool") (by rfl) mb (by decide +kernel) rfl) pa_nil))))))), ?_⟩
    refine ⟨_, rfl, _, .ty "int", .type "int", .type "int", true, rfl, .ty _, .base (.int n), kit_ty (by decide +kernel), true, rfl, iteT ?_⟩
    exact ⟨_, rfl, _, .ty "bool", .type "int", .type "bool", false, rfl, .ty _, .base (.int n), kit_ty (by decide +kernel), false, rfl, k⟩
end
end SE
/-! (x,) * n for n up to 5000. -/
namespace SE
open PySem PySem.Spec PyProof.Rows L2
def rRepB (K : PySem.W.Frag) : R2 := fun x y H Q => ∃ (l : Addr) (k : Int) (v : V), x = .ref l ∧ y = .int k ∧ SqT K H l [v] ∧ 2 ≤ k ∧ k ≤ 5000 ∧ ∀ p, H p = none → Q (.ref p) (upd H p (.tup (List.replicate k.toNat v)))
theorem op_repB {X : Cx} : OpR X (binaryOp .Mult) (rRepB X.K) := by
  intro pins s σ H x y a u Q I rx ry h
  obtain ⟨l, k, v, rfl, rfl, hT, h1, h2, q⟩ := h
  cases rx
  obtain ⟨t, rfl⟩ := ry
  obtain ⟨its, r, ⟨⟨cls, dd, data, sl⟩, ho, hc, n, hd⟩, hs⟩ := I.tuple hT
  simp only at hc hd
  subst hc hd
  obtain ⟨w, rfl⟩ : ∃ w, its = [w] := by
    cases r with
    | cons r1 r2 =>
      cases r2
      exact ⟨_, rfl⟩
  have sz : (([w] : List Value).toArray.size : Int) * k = k := by
    show ((1 : Nat) : Int) * k = k
    omega
  have rep : ∀ {α : Type} (z : α), (List.replicate k.toNat [z]).flatten = List.replicate k.toNat z := fun z => List.flatten_replicate_singleton
  have big : k.toNat ≤ sizeLine := by
    rw [sizeLine_eq]
    omega
  refine wpAny_binaryOp_repeat_ref (T := "tuple") (U := "int") (by decide) ⟨_, ho, rfl⟩ (fun s2 => typeIs_int s2 k t) noFill_tuple_mul F.fills_int_mul F.slot_int_rmul repeat_tuple F.slot_int_index.lookup ?_
  refine call_meets F.slot_int_rmul (typeIs_int s k t) F.entry_int_rmul (F.args_int_rmul_2 _ _) (int_rmul_tuple k t l _ n dd sl) ⟨ho, rfl, ⟨_, ho, rfl⟩, ?_⟩
  refine call_meets F.slot_tuple_mul ⟨_, ho, rfl⟩ F.entry_tuple_mul (F.args_tuple_mul_2 _ _) (tuple_mulW l _ n dd sl k t ?_ ?_ ?_ ?_ ?_ ?_) ⟨ho, ?_⟩
  · rw [decide_eq_false (by omega), decide_eq_false (by omega)]
    rfl
  · show (false || k == 1) = false
    rw [Bool.false_or]
    exact beq_eq_false_iff_ne.mpr (by omega)
  · show (decide (k ≤ 0) || false) = false
    rw [Bool.or_false]
    exact decide_eq_false (by omega)
  · rw [sz]
    omega
  · rw [sz]
    unfold Builtin.Tuple.tupleTooMany
    rw [sizeLine_eq]
    exact decide_eq_false (by omega)
  · rw [size_rep, List.size_toArray, rep, List.length_replicate]
    exact big
  · rw [size_rep, rep]
    refine ⟨.ref s.heap.objs.size, _, I.laid (t' := s.toks) (o := .tup (List.replicate k.toNat v)) (fun b ob e => Heap.get?_push_of_some _ e) (Nat.le_refl _) ?_, rfl, q _ (I.hok.fresh (Nat.le_refl _))⟩
    refine ⟨by rw [List.length_replicate]; exact big, _, ?_, IsTup.new _ _⟩
    have z := r.rep k.toNat
    rw [rep, rep] at z
    exact z
end SE
/-! Tuples: t * n, t + u, t[a:b] whichever object comes out; len(set(t)) of texts. -/
namespace SE
open PySem PySem.Spec PyProof.Rows L2
section
variable {X : Cx}
theorem tmul_one (l : Addr) (w : Value) (n : Nat) (dd : Option Addr) (sl : Array (Option Value)) (u : Tok) :
    Meets (Builtin.«tuple.__mul__» ⟨[.ref l, .int 1 u], []⟩) (fun _ R s => s.heap.get? l = some { cls := .type "tuple", dict := dd, data := .seq #[w] n, slots := sl } ∧ R (.ok (.ret (Value.ref l))) s) :=
  .of_wp fun prog wd A R s h => by
    obtain ⟨hp, g, d, tk, os⟩ := s
    obtain ⟨hl, h⟩ := h
    have f1 := AutoSeq1.idx_int
    wp_walk using AutoSeq1.wpAny_loadPart' hl
    exact ⟨_, rfl, h⟩
theorem tmul_none (l : Addr) (w : Value) (n : Nat) (dd : Option Addr) (sl : Array (Option Value)) (k : Int) (u : Tok) (h0 : -1000000 ≤ k) (h1 : k ≤ 0) :
    Meets (Builtin.«tuple.__mul__» ⟨[.ref l, .int k u], []⟩) (fun _ R s => s.heap.get? l = some { cls := .type "tuple", dict := dd, data := .seq #[w] n, slots := sl } ∧
      R (.ok (.ret (Value.ref s.heap.objs.size))) { s with heap := s.heap.push { cls := .type "tuple", data := .seq #[] } }) :=
  .of_wp fun prog wd A R s h => by
    obtain ⟨hp, g, d, tk, os⟩ := s
    obtain ⟨hl, h⟩ := h
    have f1 := AutoSeq1.idx_int
    have c0 : (decide (k < -(2 ^ 63)) || decide (k ≥ 2 ^ 63)) = false := by
      rw [decide_eq_false (by omega), decide_eq_false (by omega)]
      rfl
    have c1 : ((#[w] : Array Value).isEmpty || k == 1) = false := by
      show (false || k == 1) = false
      rw [Bool.false_or]
      exact beq_eq_false_iff_ne.mpr (by omega)
    have c2 : (decide (k ≤ 0) || (#[w] : Array Value).isEmpty) = true := by
      rw [decide_eq_true h1]
      rfl
    wp_walk using AutoSeq1.wpAny_loadPart' hl
    repeat (first
      | (refine wpAny_ite_false (decide_eq_false (by rw [c0]; exact Bool.false_ne_true)) ?_; wp_walk using AutoSeq1.wpAny_loadPart' hl)
      | (refine wpAny_ite_false (decide_eq_false (by rw [c1]; exact Bool.false_ne_true)) ?_; wp_walk using AutoSeq1.wpAny_loadPart' hl)
      | (refine wpAny_ite_true (decide_eq_true (by rw [c2])) ?_; wp_walk using AutoSeq1.wpAny_loadPart' hl))
    exact ⟨_, rfl, h⟩
/-- (x,) * k, any k -/
def rRepS (K : PySem.W.Frag) : R2 := fun x y H Q => ∃ (l : Addr) (k : Int) (v : V), x = .ref l ∧ y = .int k ∧ SqT K H l [v] ∧ -1000000 ≤ k ∧ k ≤ 5000 ∧ ∀ (p : Addr) (H' : Hp), Same H H' → SqT K H' p (List.replicate k.toNat v) → Q (.ref p) H'
theorem op_repS : OpR X (binaryOp .Mult) (rRepS X.K) := by
  intro pins s σ H x y a u Q I rx ry h
  obtain ⟨l, k, v, rfl, rfl, hT, h1, h2, q⟩ := h
  by_cases c : 2 ≤ k
  · exact op_repB pins s σ H _ _ a u Q I rx ry ⟨l, k, v, rfl, rfl, hT, c, h2, fun p hp => q p _ (Same.new hp) (.of upd_same)⟩
  cases rx
  obtain ⟨t, rfl⟩ := ry
  obtain ⟨its, r, ⟨⟨cls, dd, data, sl⟩, ho, hc, n, hd⟩, hs⟩ := I.tuple hT
  simp only at hc hd
  subst hc hd
  obtain ⟨w, rfl⟩ : ∃ w, its = [w] := by
    cases r with
    | cons r1 r2 =>
      cases r2
      exact ⟨_, rfl⟩
  refine wpAny_binaryOp_repeat_ref (T := "tuple") (U := "int") (by decide) ⟨_, ho, rfl⟩ (fun s2 => typeIs_int s2 k t) noFill_tuple_mul F.fills_int_mul F.slot_int_rmul repeat_tuple F.slot_int_index.lookup ?_
  refine call_meets F.slot_int_rmul (typeIs_int s k t) F.entry_int_rmul (F.args_int_rmul_2 _ _) (int_rmul_tuple k t l _ n dd sl) ⟨ho, rfl, ⟨_, ho, rfl⟩, ?_⟩
  by_cases c1 : k = 1
  · subst c1
    refine call_meets F.slot_tuple_mul ⟨_, ho, rfl⟩ F.entry_tuple_mul (F.args_tuple_mul_2 _ _) (tmul_one l w n dd sl t) ⟨ho, ?_⟩
    exact ⟨.ref l, H, I, rfl, q l H (Same.refl H) hT⟩
  · have k0 : k ≤ 0 := by omega
    refine call_meets F.slot_tuple_mul ⟨_, ho, rfl⟩ F.entry_tuple_mul (F.args_tuple_mul_2 _ _) (tmul_none l w n dd sl k t h1 k0) ⟨ho, ?_⟩
    refine ⟨.ref s.heap.objs.size, _, I.laid (t' := s.toks) (o := .tup []) (fun b ob e => Heap.get?_push_of_some _ e) (Nat.le_refl _) ?_, rfl, q _ _ (Same.new (I.hok.fresh (Nat.le_refl _))) ?_⟩
    · exact ⟨Nat.zero_le _, [], .nil, IsTup.new _ _⟩
    · rw [show k.toNat = 0 by omega]
      exact .of upd_same
/-- t + u -/
def rCatS (K : PySem.W.Frag) : R2 := fun x y H Q => ∃ (a b : Addr) (xs ys : List V), x = .ref a ∧ y = .ref b ∧ SqT K H a xs ∧ SqT K H b ys ∧ xs.length + ys.length ≤ sizeLine ∧ ∀ (p : Addr) (H' : Hp), Same H H' → SqT K H' p (xs ++ ys) → Q (.ref p) H'
theorem op_catS : OpR X (binaryOp .Add) (rCatS X.K) := by
  intro pins s σ H x y v u Q I rx ry h
  obtain ⟨a, b, xs, ys, rfl, rfl, ha, hb, hz, q⟩ := h
  refine op_catA pins s σ H _ _ v u Q I rx ry ⟨a, b, xs, ys, rfl, rfl, ha, hb, hz, fun e => ?_, fun _ e => ?_, fun _ _ p hp => q p _ (Same.new hp) (.of upd_same)⟩
  · subst e
    exact q b H (Same.refl H) hb
  · subst e
    exact q a H (Same.refl H) (by rw [List.append_nil]; exact ha)
/-- t[lo:hi] -/
def rSlS (K : PySem.W.Frag) : V → Option Int → Option Int → Hp → VK → Prop := fun x lo hi H Q => ∃ (a : Addr) (xs : List V), x = .ref a ∧ SqT K H a xs ∧ ∀ (p : Addr) (H' : Hp), Same H H' → SqT K H' p (cutV xs lo hi) → Q (.ref p) H'
theorem sl_tupS : SlR X (rSlS X.K) := by
  intro pins s σ H x v vl vu lo hi sl Q I rx hs pl pu h
  obtain ⟨a, xs, rfl, hx, q⟩ := h
  refine sl_tupA pins s σ H _ v vl vu lo hi sl Q I rx hs pl pu ⟨a, xs, rfl, hx, fun e => q a H (Same.refl H) ?_, fun _ p hp => q p _ (Same.new hp) (.of upd_same)⟩
  have e2 : cutV xs lo hi = xs := by
    unfold cutV
    rw [e.1, e.2, List.drop_zero, Nat.sub_zero, List.take_length]
  rw [e2]
  exact hx
end
end SE
/-! A for in a generator's body; a generator def called with keywords. -/
namespace SE
open PySem PySem.Spec PyProof.Rows L2 GenW
section
variable {X : Cx}
def tGFor (wi : TI) (g : TG) (tb : TGn) : TGn := fun D ys σ H => wi σ H fun J H1 => ∃ W : Nat → Nat → List V → L2.St → Hp → Prop, (∃ m, W 0 m ys σ H1) ∧ ∀ i m ys σ H, W i m ys σ H →
  (J.stop i H ∧ D.nx ys σ H) ∨ (J.go i H ∧ ∃ N : List V → L2.St → Hp → Prop, (∀ zs σ2 H2, N zs σ2 H2 → ∃ j, j < m ∧ W (i + 1) j zs σ2 H2) ∧ ∀ x H2, J.yld i H x H2 → g x σ H2 fun σ3 H3 => tb { D with nx := N, ct := N, bk := D.nx } ys σ3 H3)
theorem gs_for {tg iter : Expr} {body : List Stmt} {pos : Pos} {wi : TI} {g : TG} {tb : TGn} (hp : PassesOwn (model X.prog X.w) X.A X.env X.xe) (hc : X.calm = true) (hi : PI X tg iter wi) (hg : PG X tg g) (hb : GSs X body tb)
    (hs : ∀ x, foldedSetIterable iter X.env x = pure x := by intro _; rfl) : GS X (.For tg iter body [] pos) (tGFor wi g tb) := by
  constructor
  intro A S ip R n ys s₀ c fs K J gd lv s σ H D gc hn k hI ht
  obtain ⟨acc, cc, r, I⟩ := hI
  rw [exec_For]
  refine seg_bind_wrap (wpAny_standAt ?_)
  refine seg_bind_wrap ?_
  rw [gc.over]
  refine wpAny_mono (hi.run _ s σ H _ I ht) (fun v s1 h1 => ?_) fun x s2 hx => k.exc n s₀ x s2 hx
  refine seg_bind_wrap (wpAny_of_eq (hs v) ?_)
  refine seg_bind_wrap (wpAny_standAt ?_)
  refine seg_bind_wrap (wpAny_holding ?_)
  rw [gc.over]
  refine wpAny_mono h1 (fun itv s2 h2 => ?_) fun x s3 hx => k.exc n s₀ x s3 hx
  obtain ⟨it, fp, tn, Jt, H2, e2, I2, T, st2, f2, W, ⟨m0, w0⟩, turn⟩ := h2
  subst e2
  refine seg_call fun p => ?_
  have gl := fun (kk : Result → Sem PySem.Fin) => gc_loop (X := X) (k := kk) (c' := .forLoop tg (.ref it) body [] X.env) (l := lv []) (kp := []) (p := p) gc rfl rfl
  have apart : ∀ b ∈ fp, b ≠ S := fun b hb z => by
    obtain ⟨_, _, _, _, _, q⟩ := f2 b hb
    exact q (S, lstObj acc cc) (List.mem_append_right _ List.mem_cons_self) z.symm
  have fpok : ∀ {acc2 : Array Value} {c2 : Nat} {H3 : Hp}, (∀ b ∈ fp, H3 b = none) → ∀ b ∈ fp, FpOk X ((S, lstObj acc2 c2) :: ip) H3 b := by
    intro acc2 c2 H3 hn3 b hb
    obtain ⟨_, a2, a3, a4, a5, a6⟩ := f2 b hb
    refine ⟨hn3 b hb, a2, a3, a4, a5, fun q hq => ?_⟩
    rcases List.mem_append.mp hq with z | z
    · exact a6 q (List.mem_append_left _ z)
    · rcases List.mem_cons.mp z with y | y
      · rw [y]
        exact Ne.symm (apart b hb)
      · exact a6 q (List.mem_append_right _ (List.mem_cons_of_mem _ y))
  have loop : ∀ (m n i : Nat) (ys : List V) (s₀ s : Shared) (σ : L2.St) (H : Hp), n + ys.length = sizeLine → W i m ys σ H → GI X S ip ys σ H s → tn i s.heap → (∀ b ∈ fp, H b = none) →
      Seg (model X.prog X.w) A R (GY X S) n s₀ (.forLoop tg (.ref it) body [] X.env) ((model X.prog X.w).den (.forLoop tg (.ref it) body [] X.env))
        (.ret (fun r => ((match r with | .ok f => (.pure f : Sem Flow) | .error e => .raise e).onRaise (cameBack X.env)).wrap K J gd lv) none (gd false) (lv []) c p [] :: fs) s := by
    intro m
    induction m using Nat.strongRecOn with
    | ind m ih =>
      intro n i ys s₀ s σ H hn w hI st fr
      have ee : ∀ (n : Nat) (s₀ : Shared) (x : Value) (s4 : Shared), X.xe x s4 → Seg (model X.prog X.w) A R (GY X S) n s₀ (.forLoop tg (.ref it) body [] X.env)
          ((do noteFrame x X.env; theTreesLotGoes x : Sem Unit).bind fun _ => .raise x)
          (.ret (fun r => ((match r with | .ok f => (.pure f : Sem Flow) | .error e => .raise e).onRaise (cameBack X.env)).wrap K J gd lv) none (gd false) (lv []) c p [] :: fs) s4 := fun n s₀ x s4 hx => by
        rw [Sem.bind_eq_wrap]
        refine seg_wrap ?_
        rw [(gl _).over]
        refine wpAny_bind (wpAny_mono (hp x s4 hx) (fun _ s5 hcb => wpAny_theTreesLotGoes ?_) fun y s5 hcb => ?_)
        · exact seg_leaf (.error x) (seg_cameBack gc k hcb)
        · exact seg_leaf (.error y) (seg_cameBack gc k hcb)
      show Seg _ A R _ n s₀ _ ((forTurn tg (.ref it) body [] X.env).onRaise (fun x => do noteFrame x X.env; theTreesLotGoes x)) _ s
      unfold forTurn
      rw [Sem.onRaise_eq_wrap]
      refine seg_bind_wrap (wpAny_standAt ?_)
      refine seg_bind_wrap ?_
      rw [(gl _).over]
      obtain ⟨acc3, c3, r3, I3⟩ := hI
      rcases turn i m ys σ H w with ⟨stop, qn⟩ | ⟨go, N, hN, step⟩
      · refine wpAny_onRaise (wpAny_mono (T.done X rfl rfl rfl hc i _ s σ H X.xe I3 (fpok fr) st stop) (fun rr s4 hh => ?_) fun x s4 hx => wpAny_standAt (ee n s₀ x s4 hx))
        obtain ⟨hr, I4⟩ := hh
        subst hr
        refine seg_again rfl ?_
        show Seg _ A R _ n s₀ _ (do return Fin.done (← (execs [] X.env).onRaise (fun x => do noteFrame x X.env; theTreesLotGoes x))) _ s4
        exact seg_leaf (.ok .next) (k.ok n ys s₀ s4 .next hn ⟨σ, H, ⟨acc3, c3, r3, I4⟩, qn⟩)
      · refine wpAny_onRaise (wpAny_mono (T.item X rfl rfl rfl hc i _ s σ H X.xe I3 (fpok fr) st go) (fun rr s4 hh => ?_) fun x s4 hx => wpAny_standAt (ee n s₀ x s4 hx))
        obtain ⟨u, hr, h4⟩ := hh
        subst hr
        refine seg_bind_wrap ?_
        rw [(gl _).over]
        refine wpAny_mono h4 (fun _ s5 hh => ?_) fun x s5 hx => ee n s₀ x s5 hx
        obtain ⟨x, H5, I5, r5, y5, st5, fr5⟩ := hh
        have I6 := I5.pinned (fpok fr5) (T.obj _ _ st5)
        refine seg_bind_wrap ?_
        rw [(gl _).over]
        refine wpAny_mono (hg.run _ s5 σ H5 x u _ I6 r5 (step x H5 y5)) (fun _ s6 hh => ?_) fun x s6 hx => ee n s₀ x s6 hx
        obtain ⟨σ6, H6, I7, q6⟩ := hh
        have gb : GC X S (ip ++ pinsAt fp s5.heap) A (.forLoop tg (.ref it) body [] X.env) (.ret (fun r => ((match r with | .ok f => (.pure f : Sem Flow) | .error e => .raise e).onRaise (cameBack X.env)).wrap K J gd lv) none (gd false) (lv []) c p [] :: fs) id := by
          have q := gl (fun r => ((match r with | .ok f => (.pure f : Sem Flow) | .error e => .raise e).onRaise (cameBack X.env)).wrap K J gd lv)
          refine ⟨q.pn, fun z hz => ?_, q.apart, q.over, q.split, q.guard, q.gd⟩
          rcases List.mem_append.mp hz with y | y
          · exact q.ip z y
          · exact apart z.1 (of_pinsAt y).1
        rw [Sem.bind_eq_wrap', Sem.wrap_wrap]
        refine hb.run A S (ip ++ pinsAt fp s5.heap) R n ys s₀ _ _ _ _ id id s6 σ6 H6 { D with nx := N, ct := N, bk := D.nx } gb hn ⟨fun n2 zs s7 s8 f hn2 hs8 => ?_, fun n2 s7 x s8 hx => ee n2 s7 x s8 hx⟩ ⟨acc3, c3, r3, I7⟩ q6
        have again : ∀ {σ8 : L2.St} {H8 : Hp}, GI X S (ip ++ pinsAt fp s5.heap) zs σ8 H8 s8 → N zs σ8 H8 → Seg (model X.prog X.w) A R (GY X S) n2 s7 (.forLoop tg (.ref it) body [] X.env) ((model X.prog X.w).den (.forLoop tg (.ref it) body [] X.env))
            (.ret (fun r => ((match r with | .ok f => (.pure f : Sem Flow) | .error e => .raise e).onRaise (cameBack X.env)).wrap K J gd lv) none (gd false) (lv []) c p [] :: fs) s8 := by
          intro σ8 H8 G8 n8
          obtain ⟨j, hj, w8⟩ := hN zs σ8 H8 n8
          obtain ⟨acc8, c8, r8, I8⟩ := G8
          have pin8 : ∀ b ∈ fp, ∀ o, s5.heap.get? b = some o → s8.heap.get? b = some o ∧ H8 b = none := fun b hb o e => by
            have q := I8.pin (b, o) (List.mem_append_right _ (List.mem_cons_of_mem _ (List.mem_append_right _ (mem_pinsAt hb e))))
            exact ⟨q.1, q.2.1⟩
          refine ih j hj n2 (i + 1) zs s7 s8 σ8 H8 hn2 w8 ⟨acc8, c8, r8, I8.pins_of fun q hq => I8.pin q (List.mem_append_right _ ?_)⟩ (T.keep _ _ _ st5 fun b hb o e => (pin8 b hb o e).1) fun b hb => ?_
          · rcases List.mem_cons.mp hq with y | y
            · rw [y]
              exact List.mem_cons_self
            · exact List.mem_cons_of_mem _ (List.mem_append_left _ y)
          · obtain ⟨o, e, _⟩ := T.obj _ _ st5 b hb
            exact (pin8 b hb o e).2
        have thin : ∀ {σ8 : L2.St} {H8 : Hp}, GI X S (ip ++ pinsAt fp s5.heap) zs σ8 H8 s8 → GI X S ip zs σ8 H8 s8 := by
          intro σ8 H8 G8
          obtain ⟨acc8, c8, r8, I8⟩ := G8
          refine ⟨acc8, c8, r8, I8.pins_of fun q hq => I8.pin q (List.mem_append_right _ ?_)⟩
          rcases List.mem_cons.mp hq with y | y
          · rw [y]
            exact List.mem_cons_self
          · exact List.mem_cons_of_mem _ (List.mem_append_left _ y)
        cases f with
        | next =>
          obtain ⟨σ8, H8, G8, n8⟩ := hs8
          exact seg_again rfl (again G8 n8)
        | cont =>
          obtain ⟨σ8, H8, G8, n8⟩ := hs8
          exact seg_again rfl (again G8 n8)
        | brk =>
          obtain ⟨σ8, H8, G8, n8⟩ := hs8
          exact seg_leaf (.ok .next) (k.ok n2 zs s7 s8 .next hn2 ⟨σ8, H8, thin G8, n8⟩)
        | ret v =>
          obtain ⟨x8, σ8, H8, G8, r8, n8⟩ := hs8
          exact seg_leaf (.ok (.ret v)) (k.ok n2 zs s7 s8 (.ret v) hn2 ⟨x8, σ8, H8, thin G8, r8, n8⟩)
  exact loop m0 n 0 ys s₀ s2 σ H2 hn w0 ⟨acc, cc, r, I2⟩ st2 fun b hb => (f2 b hb).1
end
end SE
/-! Calls by keywords. -/
namespace SE
open PySem PySem.Spec PyProof.Rows L2 GenW
section
variable {K : PySem.W.Frag} {x qual : Str} {params : Arguments} {body : List Stmt} {scope : Scope} {kws : List (Str × V)} {f : Addr} {fd : FuncData} {ps : List Str}
/-- keyword-only defaults alone; ms: those that lack -/
theorem kb_some (F : FunD K x qual params body scope [] kws f fd) (n : Nat) (ks : List Str) (ms : List (Str × V)) (g : {α : Type} → List α → List α → List α → List α) (hk : kws ≠ []) (hms : ∀ q ∈ ms, q ∈ kws)
    (hrel : ∀ {vs mz zs : List V} {us mv ws : List Value}, Vals vs us → Vals mz mv → Vals zs ws → Vals (g vs mz zs) (g us mv ws))
    (h : ∀ (D : Addr) (doc pm : Value) (an : Option Addr) (cv ct : Value) (us mv ws : List Value), us.length = n → mv.length = ms.length → ws.length = ks.length →
      KwChain D ((ms.map (·.1)).zip mv) (bindArgs (PySem.W.fnOf x qual params body scope .none (.ref D) doc pm an cv ct) ⟨us, ks.zip ws⟩) (ps.zip (g us mv ws))) :
    ∃ mv : List Value, KBn K fd ps n ks (fun us ws => g us mv ws) (fun vs zs => g vs (ms.map (·.2)) zs) := by
  obtain ⟨oc, od, dV, kV, doc, pm, an, cv, ct, osl, rfl, look, hc, hD, hK⟩ := F.ex
  rcases hD with ⟨_, rfl⟩ | ⟨e, _⟩
  · rcases hK with e | ⟨D, rfl, hq⟩
    · exact absurd e hk
    · obtain ⟨mv, hl, rk, hks⟩ := kwd_vals (ms := ms) fun q hm => hq q (hms q hm)
      exact ⟨mv, fun s us ws X l1 l2 => BindsTo.of_looks fun M => KwChain.looks X hks (h D doc pm an cv ct us mv ws l1 hl l2), fun r1 r2 => hrel r1 rk r2⟩
  · exact absurd rfl e
theorem kb_all {st : Stmt} (F : Fun K x qual st f fd) (n : Nat) (ks : List Str) (g : {α : Type} → List α → List α → List α)
    (hrel : ∀ {vs zs : List V} {us ws : List Value}, Vals vs us → Vals zs ws → Vals (g vs zs) (g us ws))
    (h : ∀ (kV doc pm : Value) (an : Option Addr) (cv ct : Value) (us ws : List Value), us.length = n → ws.length = ks.length → bindArgs (PySem.W.fnOf x qual (defArgs st) (defBody st) (defScope st) .none kV doc pm an cv ct) ⟨us, ks.zip ws⟩ = pure (ps.zip (g us ws))) :
    KBn K fd ps n ks (fun us ws => g us ws) (fun vs zs => g vs zs) := by
  obtain ⟨oc, od, kV, doc, pm, an, cv, ct, osl, rfl, look, hc⟩ := F.ex
  exact ⟨fun s us ws X l1 l2 => .of_eq (h kV doc pm an cv ct us ws l1 l2), fun r1 r2 => hrel r1 r2⟩
end
section
variable {X : Cx} {k n : Nat} {f : Addr} {fd : FuncData} {ps ks : List Str} {sp : Sp} {E : XK} {x : Str} {p pos : Pos} {e : Expr} {es : List Expr} {kws : List Keyword} {t tk : TA} {g : List Value → List Value → List Value} {gV : List V → List V → List V}
/-- f(k = v, ..) -/
theorem pe_kw0 (F : FnOk X.prog X.w X.K X.mg X.base CX0 k f fd ps sp) (hr : Room k X.A) (hg : Gl X x) (hm : X.mg x = some (.ref f)) (hk : PySem.W.keepIn X.K (.ref f) = true) (hb : KBn X.K fd ps 0 ks g gV)
    (hkw : PK X kws tk) (hall : (backToKw pos (keywordEach kws X.env)).all (·.1.isSome) = true := by rfl) (hks : (backToKw pos (keywordEach kws X.env)).filterMap (·.1) = ks := by rfl)
    (hdb : (x == ("__debug__" : Str)) = false := by decide) (hpl : ((backTo pos (starEach [] X.env)).any (·.1) || (backToKw pos (keywordEach kws X.env)).any (·.1.isNone)) = false := by rfl) :
    PE X (.Call (.Name x p) [] kws pos) (tCallN 0 ks.length sp gV E0 tNil tk) := by
  constructor
  intro pins s σ H Q I h
  apply wpAny_Call_Name_kw
  apply ld_glob I hg hm _ hdb
  refine PySem.W.callWith_KW0 (h₀ := X.base) I.ok.mod.kin hk hall (thn (hkw.run pos pins s σ H _ I h) fun ws s2 hh => ?_) hpl
  obtain ⟨zs, H2, I2, rz, l1, l2, q2⟩ := hh
  refine ⟨I2.kIn, ?_⟩
  rw [hks]
  exact run_fnN F hr hb pass0 I2 .nil rz l1 l2 q2
/-! ### generators -/
variable {sg : SpG}
theorem run_gkw {pins : List (Addr × Obj)} {σ : L2.St} {H : Hp} {s : Shared} {us ws : List Value} {vs zs : List V} {cont : List V → Hp → Prop} {E1 : Value → Shared → Prop} (F : GFn X.prog X.w X.K X.mg X.base k f fd ps sg) (hr : Room k X.A) (hb : KBn X.K fd ps n ks g gV)
    (I : Inv X pins σ H s) (r : Vals vs us) (rz : Vals zs ws) (l1 : vs.length = n) (l2 : zs.length = ks.length) (h : sg (gV vs zs) H cont E) :
    wpAny (model X.prog X.w) X.A (call (.ref f) us (ks.zip ws)) (fun u s2 => ∃ H1 sc ex, Inv X pins σ H1 sc ∧ ExOk X pins ex ∧ GMade X.prog X.w k X.stack H1 sc ex cont E u s2) E1 s := by
  have r2 := hb.rel r rz
  refine wpAny_call (codeAny_mono (F.run X.A X.stack s H ⟨us, ks.zip ws⟩ (g us ws) (gV vs zs) cont E hr I.env0 (hb.to s us ws I.kIn (r.length.symm.trans l1) (rz.length.symm.trans l2)) r2 h) fun rr s2 hq => ?_)
  cases rr with
  | error _ => exact hq.elim
  | ok fl =>
    cases fl with
    | ret u => exact ⟨H, s, [], I, .nil, hq⟩
    | next => exact hq.elim
    | brk => exact hq.elim
    | cont => exact hq.elim
def tGenN (n m : Nat) (sg : SpG) (gV : List V → List V → List V) (E : XK) (t tk : TA) : TGen := fun σ H cont => t σ H fun vs H1 => tk σ H1 fun zs H2 => vs.length = n ∧ zs.length = m ∧ sg (gV vs zs) H2 cont E
theorem pgen_kw (F : GFn X.prog X.w X.K X.mg X.base k f fd ps sg) (hr : Room k X.A) (hg : Gl X x) (hm : X.mg x = some (.ref f)) (hk : PySem.W.keepIn X.K (.ref f) = true) (hb : KBn X.K fd ps n ks g gV)
    (ha : PA X (e :: es) t) (hkw : PK X kws tk) (hall : (backToKw pos (keywordEach kws X.env)).all (·.1.isSome) = true := by rfl) (hks : (backToKw pos (keywordEach kws X.env)).filterMap (·.1) = ks := by rfl)
    (hdb : (x == ("__debug__" : Str)) = false := by decide) (he : starEach (e :: es) X.env = (false, eval e X.env) :: starEach es X.env := by rfl)
    (hpl : ((backTo pos (starEach (e :: es) X.env)).any (·.1) || (backToKw pos (keywordEach kws X.env)).any (·.1.isNone)) = false := by rfl) :
    PGen X k (.Call (.Name x p) (e :: es) kws pos) (tGenN n ks.length sg gV E t tk) E := by
  constructor
  intro pins s σ H cont I h
  apply wpAny_Call_Name_kw
  apply ld_glob I hg hm _ hdb
  refine PySem.W.callWith_KW (h₀ := X.base) I.ok.mod.kin hk hall (thn (ha.run pos pins s σ H _ I h) fun us s1 hh => ?_) hpl he
  obtain ⟨vs, H1, I1, r, q⟩ := hh
  refine thn (hkw.run pos pins s1 σ H1 _ I1 q) fun ws s2 hh => ?_
  obtain ⟨zs, H2, I2, rz, l1, l2, q2⟩ := hh
  refine ⟨I2.kIn, ?_⟩
  rw [hks]
  exact run_gkw F hr hb I2 r rz l1 l2 q2
theorem pgen_kw0 (F : GFn X.prog X.w X.K X.mg X.base k f fd ps sg) (hr : Room k X.A) (hg : Gl X x) (hm : X.mg x = some (.ref f)) (hk : PySem.W.keepIn X.K (.ref f) = true) (hb : KBn X.K fd ps 0 ks g gV)
    (hkw : PK X kws tk) (hall : (backToKw pos (keywordEach kws X.env)).all (·.1.isSome) = true := by rfl) (hks : (backToKw pos (keywordEach kws X.env)).filterMap (·.1) = ks := by rfl)
    (hdb : (x == ("__debug__" : Str)) = false := by decide) (hpl : ((backTo pos (starEach [] X.env)).any (·.1) || (backToKw pos (keywordEach kws X.env)).any (·.1.isNone)) = false := by rfl) :
    PGen X k (.Call (.Name x p) [] kws pos) (tGenN 0 ks.length sg gV E tNil tk) E := by
  constructor
  intro pins s σ H cont I h
  apply wpAny_Call_Name_kw
  apply ld_glob I hg hm _ hdb
  refine PySem.W.callWith_KW0 (h₀ := X.base) I.ok.mod.kin hk hall (thn (hkw.run pos pins s σ H _ I h) fun ws s2 hh => ?_) hpl
  obtain ⟨zs, H2, I2, rz, l1, l2, q2⟩ := hh
  refine ⟨I2.kIn, ?_⟩
  rw [hks]
  exact run_gkw F hr hb I2 .nil rz l1 l2 q2
/-- nothing is raised by a generator that raises nothing -/
theorem pass_gen : Passes (CX X.prog X.w) X E0 := by
  intro pins σ H s e s2 I h
  obtain ⟨a, B, H2, cls, d, _, _, _, _, _, _, _, q⟩ := h
  exact q.elim
theorem nostop0 {K : PySem.W.Frag} : NoStop K E0 := fun _ _ _ h => h.elim
end
end SE
namespace SE
open PySem PySem.Spec PyProof.Rows L2
/-! ### rules: a class held by a local name, called; a classmethod called with nothing -/
section
variable {X : Cx} {CX : CXT} {k i : Nat} {f C p g : Addr} {mc : Value} {fd : FuncData} {ps : List Str} {sp : Sp} {dvs : List V} {ds : List Value} {E : XK} {x m : Str} {pn pos apos : Pos} {o e : Expr} {es : List Expr} {ta : TE} {t : TA} {pl : Sem Bool}
def tMakeL (i : Nat) (C : Addr) (sp : Sp) (dvs : List V) (E : XK) (t : TA) : TE := fun σ H Q => σ[i]? = some (some (.ref C)) ∧ tMake C sp dvs E t σ H Q
theorem pe_makeL (M : Mk X.K C f) (F : FnOk X.prog X.w X.K X.mg X.base CX k f fd ps sp) (hr : Room (k + 1) X.A) (hN : X.N[i]? = some x) (hv : Vis X.env.scope x) (hb : Binds X.K fd ps ds) (hd : Vals dvs ds) (hx : Passes CX X E)
    (ha : PA X (e :: es) t) (hdb : (x == ("__debug__" : Str)) = false := by decide) (hcd : (x == ("__classdict__" : Str)) = false := by decide)
    (he : starEach (e :: es) X.env = (false, eval e X.env) :: starEach es X.env := by rfl) (hpl : (backTo pos (starEach es X.env)).any (·.1) = false := by rfl) :
    PE X (.Call (.Name x pn) (e :: es) [] pos) (tMakeL i C sp dvs E t) := by
  constructor
  intro pins s σ H Q I h
  obtain ⟨hs, ht⟩ := h
  refine wpAny_Call_Name_kw (thn ((pe_var (pos := pn) hN hv hdb hcd).run pins s σ H (fun v H1 => v = .ref C ∧ H1 = H) I ⟨.ref C, hs, rfl, rfl⟩) fun u s1 hh => ?_)
  obtain ⟨v, H1, I1, r1, rfl, rfl⟩ := hh
  cases r1
  refine PySem.W.callWith_K (h₀ := X.base) I.ok.mod.kin M.kp (thn (ha.run pos pins s1 σ _ _ I1 ht) fun us s2 hh => ?_) he hpl
  obtain ⟨vs, H2, I2, r, q⟩ := hh
  exact ⟨I2.kIn, run_make M F hr hb hd hx I2 r q⟩
/-- C.m() -/
def tCMeth0 (C : Addr) (sp : Sp) (E : XK) (ta : TE) : TE := fun σ H Q => ta σ H fun x H1 => x = .ref C ∧ sp [.ref C] H1 Q E
theorem pe_cmeth0 (he : PE X o ta) (r : ClX.CRead X.K C mc) (c : ClX.CMet X.K C mc m p g) (F : FnR X.prog X.w X.K X.mg X.base CX k g sp) (hr : Room k X.A) (hx : Passes CX X E)
    (ht : eval (.Call (.Attribute o m apos) [] [] pos) X.env = (do
      let v ← eval o X.env
      standAt apos.atName
      let (f, first) ← holding [v] (getMethod v m pl)
      callWith pos f first (backTo pos (starEach [] X.env)) (backToKw pos (keywordEach [] X.env))) := by rfl) :
    PE X (.Call (.Attribute o m apos) [] [] pos) (tCMeth0 C sp E ta) := by
  constructor
  intro pins s σ H Q I h
  refine PySem.W.methodCall_KW (pl := pl) (thn (he.run pins s σ H _ I h) fun u s1 hh => ?_) ht
  obtain ⟨v, H1, I1, rx, ex, q⟩ := hh
  subst ex
  obtain rfl : u = Value.ref C := rx
  refine ClX.getmethcm_ok I1 r c fun s2 I2 => ?_
  exact PySem.W.callWith_M0 ⟨ClX.pin_at I2, I2.kIn⟩ c.fi (ClX.run_cm (us := []) (vs := []) F hr hx I2 .nil q)
end
end SE
namespace SE
open PySem PySem.Spec PyProof.Rows L2
/-! ### the class Effect -/
abbrev sInit : Stmt := inClass sEffect 0
abbrev sNever : Stmt := inClass sEffect 2
abbrev sPops : Stmt := inClass sEffect 4
abbrev sPushes : Stmt := inClass sEffect 5
abbrev sPeak : Stmt := inClass sEffect 6
abbrev sChange : Stmt := inClass sEffect 7
abbrev sIsNever : Stmt := inClass sEffect 8
def eF (a b c : V) : List (Str × V) := [("needs", a), ("leaves", b), ("highest", c)]
theorem eF_new (a b c : V) : putF "highest" c (putF "leaves" b (putF "needs" a [])) = eF a b c := by
  have h1 : ¬ (("needs" : Str) = "leaves") := by decide +kernel
  have h2 : ¬ (("needs" : Str) = "highest") := by decide +kernel
  have h3 : ¬ (("leaves" : Str) = "highest") := by decide +kernel
  simp only [putF, h1, h2, h3, if_false]
  rfl
theorem eF_two (a b : V) : (putF "leaves" b (putF "needs" a [])).length < 1000 := by
  have h1 : ¬ (("needs" : Str) = "leaves") := by decide +kernel
  simp only [putF, h1, if_false]
  show 2 < 1000
  decide
theorem eF_n (x a b c : V) : putF "needs" x (eF a b c) = eF x b c := by
  unfold eF
  simp only [putF, if_true]
theorem eF_l (x a b c : V) : putF "leaves" x (eF a b c) = eF a x c := by
  have h1 : ¬ (("needs" : Str) = "leaves") := by decide +kernel
  unfold eF
  simp only [putF, h1, if_false, if_true]
theorem eF_h (x a b c : V) : putF "highest" x (eF a b c) = eF a b x := by
  have h2 : ¬ (("needs" : Str) = "highest") := by decide +kernel
  have h3 : ¬ (("leaves" : Str) = "highest") := by decide +kernel
  unfold eF
  simp only [putF, h2, h3, if_false, if_true]
theorem eF_needs (a b c : V) : (eF a b c).lookup ("needs" : Str) = some a := by
  rw [← eF_new, lookup_putF, if_neg (by decide +kernel), lookup_putF, if_neg (by decide +kernel), lookup_putF, if_pos rfl]
theorem eF_leaves (a b c : V) : (eF a b c).lookup ("leaves" : Str) = some b := by
  rw [← eF_new, lookup_putF, if_neg (by decide +kernel), lookup_putF, if_pos rfl]
theorem eF_high (a b c : V) : (eF a b c).lookup ("highest" : Str) = some c := by
  rw [← eF_new, lookup_putF, if_pos rfl]
/-- an effect that is not never -/
structure EffAt (K : PySem.W.Frag) (C : Addr) (H : Hp) (e : Addr) (xs ys : List Str) (p : Int) : Prop where
  ex : ∃ dx u v, H e = some (.ins C dx (eF (.ref u) (.ref v) (.int p))) ∧ SqT K H u (xs.map V.str) ∧ SqT K H v (ys.map V.str)
theorem EffAt.same {K : PySem.W.Frag} {C : Addr} {H H' : Hp} {e : Addr} {xs ys : List Str} {p : Int} (h : EffAt K C H e xs ys p) (s : Same H H') : EffAt K C H' e xs ys p := by
  obtain ⟨dx, u, v, h1, h2, h3⟩ := h.ex
  exact ⟨dx, u, v, s _ _ h1, Same.tup s h2, Same.tup s h3⟩
structure NevAt (C : Addr) (H : Hp) (e : Addr) : Prop where
  ex : ∃ dx, H e = some (.ins C dx (eF .non .non .non))
theorem NevAt.same {C : Addr} {H H' : Hp} {e : Addr} (h : NevAt C H e) (s : Same H H') : NevAt C H' e := by
  obtain ⟨dx, h1⟩ := h.ex
  exact ⟨dx, s _ _ h1⟩
/-- the least peak -/
def lp (xs ys : List Str) : Int := if (ys.length : Int) - (xs.length : Int) > 0 then (ys.length : Int) - (xs.length : Int) else 0
def pkV : Option Int → V
  | none => .non
  | some p => .int p
structure EC (K : PySem.W.Frag) (mg : Str → Option Value) (C : Addr) : Prop where
  cl : Cls K C
  nN : NoAttr K C "needs"
  nL : NoAttr K C "leaves"
  nH : NoAttr K C "highest"
  mgE : mg "Effect" = some (.ref C)
section
variable {P : Program} {w : World} {K : PySem.W.Frag} {mg : Str → Option Value} {base : Heap} {C : Addr}
def spLeast (K : PySem.W.Frag) : Sp := fun vs H Q _ => ∃ (a b : Addr) (xs ys : List Str), vs = [.ref a, .ref b] ∧ SqT K H a (xs.map V.str) ∧ SqT K H b (ys.map V.str) ∧ Q (.int (lp xs ys)) H
theorem scLe : FnScope ["pops", "pushes"] ["pops", "pushes"] (defScope sLeastPeak) := ⟨rfl, rfl, rfl, by decide +kernel, rfl, by decide +kernel, by decide +kernel⟩
theorem has_least (D : Def K mg "least_peak" sLeastPeak) (B : Blt mg) (mx : mg "max" = none) : Has P w K mg base "least_peak" 1 ["pops", "pushes"] [] (spLeast K) := by
  refine has_of D scLe (fun _ _ _ _ _ _ us hl => match us, hl with | [_, _], _ => rfl) (fun xs H Q E h => ?_) (fun f cv A out s H xs Q E hr h => ?_)
  · obtain ⟨a, b, xs, ys, rfl, _⟩ := h
    rfl
  · obtain ⟨a, b, xs, ys, rfl, ha, hb, k⟩ := h
    refine ⟨_, pss_one (ps_ret (pe_callB (call_max2 rfl) (by rfl) mx (by decide +kernel) (pa_cons pe_int (pa_cons (pe_op op_sub (pe_callB call_len_seq (by rfl) B.len PySem.boot_len (pa_cons (pv 1) pa_nil)) (pe_callB call_len_seq (by rfl) B.len PySem.boot_len (pa_cons (pv 0) pa_nil))) pa_nil)))), ?_⟩
    refine ⟨_, rfl, b, _, rfl, .inr hb, _, rfl, a, _, rfl, .inr ha, _, _, rfl, rfl, 0, _, rfl, ?_⟩
    rw [List.length_map, List.length_map]
    exact k
def spInit (K : PySem.W.Frag) (C : Addr) : Sp := fun vs H Q _ => ∃ (x dx a b : Addr) (xs ys : List Str) (pk : Option Int), vs = [.ref x, .ref a, .ref b, pkV pk] ∧ H x = some (.ins C dx []) ∧ SqT K H a (xs.map V.str) ∧ SqT K H b (ys.map V.str) ∧
  xs.length ≤ 5000 ∧ ys.length ≤ 5000 ∧ (∀ z ∈ xs, Item z) ∧ (∀ z ∈ ys, Item z) ∧ (∀ p, pk = some p → lp xs ys ≤ p) ∧
  ∀ H', (∀ b o, H b = some o → b ≠ x → H' b = some o) → H' x = some (.ins C dx (eF (.ref a) (.ref b) (.int (pk.getD (lp xs ys))))) → Q .non H'
abbrev pInit : List Str := ["self", "pops", "pushes", "peak"]
theorem scIn : FnScope ["self", "pops", "pushes", "peak", "least"] pInit (defScope sInit) := ⟨rfl, rfl, rfl, by decide +kernel, rfl, by decide +kernel, by decide +kernel⟩
theorem ok_init {f : Addr} {fd : FuncData} (F : Fun K "__init__" "Effect.__init__" sInit f fd) (T : EC K mg C) (GW : Has P w K mg base "check_word" 3 ["word"] [] (spChkWord K)) (GL : Has P w K mg base "least_peak" 1 ["pops", "pushes"] [] (spLeast K)) (GH : Has P w K mg base "is_whole" 1 ["value"] [] spWhole) :
    FnOk P w K mg base CX0 4 f fd pInit (spInit K C) := by
  refine F.ok scIn (fun vs H Q E h => ?_) (fun cdv A outer s H vs Q E hr h => ?_)
  · obtain ⟨x, dx, a, b, xs, ys, pk, rfl, _⟩ := h
    rfl
  · obtain ⟨x, dx, a, b, xs, ys, pk, rfl, hx, ha, hb, l1, l2, i1, i2, hp, k⟩ := h
    have hr1 : Room 1 _ := hr.mono (by decide)
    refine ⟨_, pss_cons (ps_expr (pe_has GW hr (pa_cons (pv 1) pa_nil))) (pss_cons (ps_expr (pe_has GW hr (pa_cons (pv 2) pa_nil)))
      (pss_cons (ps_set (i := 4) scIn.nd rfl (.inl rfl) (pe_has GL hr1 (pa_cons (pv 1) (pa_cons (pv 2) pa_nil))))
      (pss_cons (ps_if (pt_cut (PW.pt (pw_and (pt_cmpR op_notN (pv 3) pe_non (nomark _)) (pw_and1 (PW.pt (pw_or (pt_not (pt_val (pe_has GH hr1 (pa_cons (pv 3) pa_nil)))) (pw_or1 (pt_cmpR op_lt (pv 3) (pv 4) (nomark _))))))))) pss_never pss_nil)
      (pss_cons (ps_fld (pv 0) (pv 1) rfl) (pss_cons (ps_fld (pv 0) (pv 2) rfl)
      (pss_one (ps_fld (pv 0) (pe_ifExp (pt_cmpR op_isN (pv 3) pe_non (nomark _)) (pv 4) (pv 3)) rfl))))))), ?_⟩
    refine ⟨_, rfl, a, xs, rfl, ha, l1, i1, fun H1 s1 => ⟨_, rfl, b, ys, rfl, Same.tup s1 hb, l2, i2, fun H2 s2 => ?_⟩⟩
    have s12 := s1.trans s2
    refine ⟨_, rfl, _, rfl, a, b, xs, ys, rfl, Same.tup s12 ha, Same.tup s12 hb, ?_⟩
    refine ⟨fun c H3 => c = false ∧ H3 = H2, ?_, ?_⟩
    · cases pk with
      | none => exact ⟨_, rfl, rfl, false, rfl, iteF ⟨rfl, rfl⟩⟩
      | some p =>
        have hq := hp p rfl
        refine ⟨_, rfl, rfl, true, rfl, iteT ⟨_, rfl, p, rfl, true, rfl, iteF ⟨_, rfl, _, rfl, p, lp xs ys, rfl, rfl, _, rfl, ?_, rfl⟩⟩⟩
        exact decide_eq_false (by omega)
    rintro c H3 ⟨rfl, rfl⟩
    refine iteF ?_
    have hx3 := s12 _ _ hx
    have fin : ∀ z : V, z = .int (pk.getD (lp xs ys)) → Q .non (upd (upd (upd H3 x (.ins C dx (putF "needs" (.ref a) []))) x (.ins C dx (putF "leaves" (.ref b) (putF "needs" (.ref a) [])))) x (.ins C dx (putF "highest" z (putF "leaves" (.ref b) (putF "needs" (.ref a) []))))) := by
      intro z ez
      refine k _ (fun c o e ne => ?_) ?_
      · rw [upd_ne ne, upd_ne ne, upd_ne ne]
        exact s12 _ _ e
      · rw [upd_same, eF_new, ez]
    refine ⟨_, rfl, _, rfl, x, C, dx, [], rfl, hx3, T.cl, T.nN, (by show 0 < 1000; decide), _, rfl, _, rfl, x, C, dx, _, rfl, upd_same, T.cl, T.nL, (by show 1 < 1000; decide), ?_⟩
    cases pk with
    | none => exact ⟨_, rfl, rfl, true, rfl, iteT ⟨_, rfl, _, rfl, x, C, dx, _, rfl, upd_same, T.cl, T.nH, eF_two _ _, fin _ rfl⟩⟩
    | some p => exact ⟨_, rfl, rfl, false, rfl, iteF ⟨_, rfl, _, rfl, x, C, dx, _, rfl, upd_same, T.cl, T.nH, eF_two _ _, fin _ rfl⟩⟩
end
end SE
namespace SE
open PySem PySem.Spec PyProof.Rows L2
/-- a property of the class C with its promise -/
def PropHas (P : Program) (w : World) (K : PySem.W.Frag) (mg : Str → Option Value) (base : Heap) (C : Addr) (f : Str) (k : Nat) (sp : Sp) : Prop := ∃ p g fd, PropOf K C f p g ∧ FnOk P w K mg base CX0 k g fd ["self"] sp ∧ Binds K fd ["self"] []
theorem pe_propH {X : Cx} {C : Addr} {f : Str} {k : Nat} {sp : Sp} {e : Expr} {ta : TE} {pos : Pos} (h : PropHas X.prog X.w X.K X.mg X.base C f k sp) (he : PE X e ta) (c : Cls X.K C) (hr : Room (k + 1) X.A)
    (hab : attributeBase e f X.env (eval e X.env) = eval e X.env := by rfl) : PE X (.Attribute e f pos) (tProp C sp [] E0 ta) := by
  obtain ⟨p, g, fd, hp, F, hb⟩ := h
  exact pe_prop he c hp F hr hb .nil pass0 hab
section
variable {P : Program} {w : World} {K : PySem.W.Frag} {mg : Str → Option Value} {base : Heap} {C : Addr}
/-! ### properties -/
/-- of an effect that is not never: its parts -/
def spPops (K : PySem.W.Frag) (C : Addr) : Sp := fun vs H Q _ => ∃ (e : Addr) (xs ys : List Str) (p : Int), vs = [.ref e] ∧ EffAt K C H e xs ys p ∧ ∀ u, SqT K H u (xs.map V.str) → Q (.ref u) H
def spPush (K : PySem.W.Frag) (C : Addr) : Sp := fun vs H Q _ => ∃ (e : Addr) (xs ys : List Str) (p : Int), vs = [.ref e] ∧ EffAt K C H e xs ys p ∧ ∀ u, SqT K H u (ys.map V.str) → Q (.ref u) H
def spIsNev (K : PySem.W.Frag) (C : Addr) : Sp := fun vs H Q _ => ∃ (e : Addr), vs = [.ref e] ∧ ((∃ xs ys p, EffAt K C H e xs ys p ∧ Q (.bl false) H) ∨ (NevAt C H e ∧ Q (.bl true) H))
theorem scPo : FnScope ["self"] ["self"] (defScope sPops) := ⟨rfl, rfl, rfl, by decide +kernel, rfl, by decide +kernel, by decide +kernel⟩
theorem scPu : FnScope ["self"] ["self"] (defScope sPushes) := ⟨rfl, rfl, rfl, by decide +kernel, rfl, by decide +kernel, by decide +kernel⟩
theorem scNv : FnScope ["self"] ["self"] (defScope sIsNever) := ⟨rfl, rfl, rfl, by decide +kernel, rfl, by decide +kernel, by decide +kernel⟩
theorem ok_pops {f : Addr} {fd : FuncData} (F : Fun K "pops" "Effect.pops" sPops f fd) (T : EC K mg C) : FnOk P w K mg base CX0 1 f fd ["self"] (spPops K C) := by
  refine F.ok scPo (fun vs H Q E h => ?_) (fun cdv A outer s H vs Q E hr h => ?_)
  · obtain ⟨e, xs, ys, p, rfl, _⟩ := h
    rfl
  · obtain ⟨e, xs, ys, p, rfl, h, k⟩ := h
    obtain ⟨dx, u, v, h1, h2, h3⟩ := h.ex
    exact ⟨_, pss_one (ps_ret (pe_fld (pv 0) rfl)), _, rfl, e, C, dx, _, _, rfl, h1, T.cl, T.nN, eF_needs _ _ _, k u h2⟩
theorem ok_push {f : Addr} {fd : FuncData} (F : Fun K "pushes" "Effect.pushes" sPushes f fd) (T : EC K mg C) : FnOk P w K mg base CX0 1 f fd ["self"] (spPush K C) := by
  refine F.ok scPu (fun vs H Q E h => ?_) (fun cdv A outer s H vs Q E hr h => ?_)
  · obtain ⟨e, xs, ys, p, rfl, _⟩ := h
    rfl
  · obtain ⟨e, xs, ys, p, rfl, h, k⟩ := h
    obtain ⟨dx, u, v, h1, h2, h3⟩ := h.ex
    exact ⟨_, pss_one (ps_ret (pe_fld (pv 0) rfl)), _, rfl, e, C, dx, _, _, rfl, h1, T.cl, T.nL, eF_leaves _ _ _, k v h3⟩
theorem ok_isNev {f : Addr} {fd : FuncData} (F : Fun K "is_never" "Effect.is_never" sIsNever f fd) (T : EC K mg C) : FnOk P w K mg base CX0 1 f fd ["self"] (spIsNev K C) := by
  refine F.ok scNv (fun vs H Q E h => ?_) (fun cdv A outer s H vs Q E hr h => ?_)
  · obtain ⟨e, rfl, _⟩ := h
    rfl
  · obtain ⟨e, rfl, h⟩ := h
    refine ⟨_, pss_one (ps_ret (pe_cmpR op_isN (pe_fld (pv 0) rfl) pe_non (nomark _))), ?_⟩
    rcases h with ⟨xs, ys, p, h, k⟩ | ⟨h, k⟩
    · obtain ⟨dx, u, v, h1, h2, h3⟩ := h.ex
      exact ⟨_, rfl, e, C, dx, _, _, rfl, h1, T.cl, T.nN, eF_needs _ _ _, rfl, k⟩
    · obtain ⟨dx, h1⟩ := h.ex
      exact ⟨_, rfl, e, C, dx, _, _, rfl, h1, T.cl, T.nN, eF_needs _ _ _, rfl, k⟩
/-! ### Effect(a, b), Effect.never() -/
/-- the class can be called -/
def Makes (P : Program) (w : World) (K : PySem.W.Frag) (mg : Str → Option Value) (base : Heap) (C : Addr) : Prop := ∃ f fd, Mk K C f ∧ FnOk P w K mg base CX0 4 f fd pInit (spInit K C) ∧ FunD K "__init__" "Effect.__init__" (defArgs sInit) (defBody sInit) (defScope sInit) [] [("peak", .non)] f fd
theorem Makes.two (h : Makes P w K mg base C) : ∃ f fd ds, Mk K C f ∧ FnOk P w K mg base CX0 4 f fd pInit (spInit K C) ∧ Vals [V.non] ds ∧ Binds K fd pInit ds := by
  obtain ⟨f, fd, M, F, FD⟩ := h
  obtain ⟨ds, hd, hb⟩ := FD.binds0 (ps := pInit) 3 (by simp) rfl (fun D doc pm an cv ct us ks h1 h2 => match us, ks, h1, h2 with | [_, _, _], [_], _, _ => ⟨_, _, _, _, _, _, rfl, rfl, rfl⟩)
  exact ⟨f, fd, ds, M, F, hd, hb⟩
/-- what Effect(a, b) asks -/
def tEff2 (K : PySem.W.Frag) (C : Addr) (t : TA) : TE := fun σ H Q => t σ H fun vs H1 => ∃ (a b : Addr) (xs ys : List Str), vs = [.ref a, .ref b] ∧ SqT K H1 a (xs.map V.str) ∧ SqT K H1 b (ys.map V.str) ∧ xs.length ≤ 5000 ∧ ys.length ≤ 5000 ∧ (∀ z ∈ xs, Item z) ∧ (∀ z ∈ ys, Item z) ∧
  ∀ (e : Addr) (H' : Hp), Same H1 H' → H1 e = none → EffAt K C H' e xs ys (lp xs ys) → Q (.ref e) H'
theorem make_imp {vs : List V} {H1 : Hp} {Q : VK} (h : ∃ (a b : Addr) (xs ys : List Str), vs = [.ref a, .ref b] ∧ SqT K H1 a (xs.map V.str) ∧ SqT K H1 b (ys.map V.str) ∧ xs.length ≤ 5000 ∧ ys.length ≤ 5000 ∧ (∀ z ∈ xs, Item z) ∧ (∀ z ∈ ys, Item z) ∧
    ∀ (e : Addr) (H' : Hp), Same H1 H' → H1 e = none → EffAt K C H' e xs ys (lp xs ys) → Q (.ref e) H') : ∀ x dx, H1 x = none → H1 dx = none → dx ≠ x →
    spInit K C (.ref x :: (vs ++ [V.non])) (upd (upd H1 dx (.own x)) x (.ins C dx [])) (fun v H2 => v = .non ∧ Q (.ref x) H2) E0 := by
  intro x dx nx nd ne
  obtain ⟨a, b, xs, ys, rfl, ha, hb, l1, l2, i1, i2, k⟩ := h
  have s0 : Same H1 (upd (upd H1 dx (.own x)) x (.ins C dx [])) := Same.made nx nd fun b o e _ => e
  refine ⟨x, dx, a, b, xs, ys, none, rfl, upd_same, Same.tup s0 ha, Same.tup s0 hb, l1, l2, i1, i2, fun p z => (by cases z), fun H' kp hx => ⟨rfl, ?_⟩⟩
  have s1 : Same H1 H' := fun c o e => kp c o (s0 c o e) (ne_of_none e nx)
  exact k x H' s1 nx ⟨dx, a, b, hx, Same.tup s1 ha, Same.tup s1 hb⟩
theorem pe_eff2 {X : Cx} {p pos : Pos} {e1 e2 : Expr} {t : TA} (M : Makes X.prog X.w X.K X.mg X.base C) (mgE : X.mg "Effect" = some (.ref C)) (hr : Room 5 X.A) (ha : PA X [e1, e2] t) (hg : Gl X "Effect" := by rfl)
    (he : starEach [e1, e2] X.env = (false, eval e1 X.env) :: starEach [e2] X.env := by rfl) (hpl : (backTo pos (starEach [e2] X.env)).any (·.1) = false := by rfl) :
    PE X (.Call (.Name "Effect" p) [e1, e2] [] pos) (tEff2 X.K C t) := by
  obtain ⟨f, fd, ds, Mk1, F, hd, hb⟩ := M.two
  constructor
  intro pins s σ H Q I h
  refine wpAny_Call_Name_kw (ld_glob I hg mgE ?_ (by decide))
  refine PySem.W.callWith_K (h₀ := X.base) I.ok.mod.kin Mk1.kp (thn (ha.run pos pins s σ H _ I h) fun us s1 hh => ?_) he hpl
  obtain ⟨vs, H1, I1, r, q⟩ := hh
  exact ⟨I1.kIn, run_make Mk1 F hr hb hd pass0 I1 r (make_imp q)⟩
/-! ### Effect.never() -/
def spNever (C : Addr) : Sp := fun vs H Q _ => vs = [.ref C] ∧ ∀ (e : Addr) (H' : Hp), Same H H' → NevAt C H' e → Q (.ref e) H'
theorem scNe : FnScope ["cls", "effect"] ["cls"] (defScope sNever) := ⟨rfl, rfl, rfl, by decide +kernel, rfl, by decide +kernel, by decide +kernel⟩
theorem ok_never {g : Addr} {gd : FuncData} (F : Fun K "never" "Effect.never" sNever g gd) (T : EC K mg C) (M : Makes P w K mg base C) : FnOk P w K mg base CX0 6 g gd ["cls"] (spNever C) := by
  obtain ⟨f, fd, ds, Mk1, FI, hd, hb⟩ := M.two
  refine F.ok scNe (fun vs H Q E h => ?_) (fun cdv A outer s H vs Q E hr h => ?_)
  · obtain ⟨rfl, _⟩ := h
    rfl
  · obtain ⟨rfl, k⟩ := h
    refine ⟨_, pss_cons (ps_set (i := 1) scNe.nd rfl (.inl rfl) (pe_makeL (i := 0) Mk1 FI hr rfl (.inl rfl) hb hd pass0 (pa_cons (pe_tup pa_nil) (pa_cons (pe_tup pa_nil) pa_nil))))
      (pss_cons (ps_fld (pv 1) pe_non rfl) (pss_cons (ps_fld (pv 1) pe_non rfl) (pss_cons (ps_fld (pv 1) pe_non rfl) (pss_one (ps_ret (pv 1)))))), ?_⟩
    refine ⟨rfl, Nat.zero_le _, fun t1 h1 => ⟨Nat.zero_le _, fun t2 h2 => ?_⟩⟩
    have n2 : t1 ≠ t2 := ne_of_none upd_same h2
    have s2 : Same H (upd (upd H t1 (.tup [])) t2 (.tup [])) := Same.free2 (Same.new h1) ((Same.new h1).free h2)
    intro y dy ny nd nyd
    have s3 : Same (upd (upd H t1 (.tup [])) t2 (.tup [])) (upd (upd (upd (upd H t1 (.tup [])) t2 (.tup [])) dy (.own y)) y (.ins C dy [])) := Same.made ny nd fun b o z _ => z
    refine ⟨y, dy, t1, t2, [], [], none, rfl, upd_same, Same.tup s3 (.of (by rw [upd_ne n2]; exact upd_same)), Same.tup s3 (.of upd_same), Nat.zero_le _, Nat.zero_le _, fun z m => (by cases m), fun z m => (by cases m), fun p z => (by cases z), fun H' kp e1 => ⟨rfl, ?_⟩⟩
    have s4 : Same H H' := fun c o z => kp c o (s3 _ _ (s2 c o z)) (ne_of_none z (s2.free ny))
    have hne : H y = none := s2.free ny
    refine ⟨_, rfl, y, C, dy, _, rfl, e1, T.cl, T.nN, (by show 3 < 1000; decide), _, rfl, y, C, dy, _, rfl, upd_same, T.cl, T.nL, (by rw [eF_n]; show 3 < 1000; decide), _, rfl, y, C, dy, _, rfl, upd_same, T.cl, T.nH, (by rw [eF_n, eF_l]; show 3 < 1000; decide), _, rfl, ?_⟩
    refine k y _ ?_ ⟨dy, ?_⟩
    · exact Same.free2 (Same.free2 (Same.free2 s4 hne) hne) hne
    · rw [upd_same, eF_n, eF_l, eF_h]
/-- the classmethod -/
def NeverHas (P : Program) (w : World) (K : PySem.W.Frag) (mg : Str → Option Value) (base : Heap) (C : Addr) : Prop := ∃ mc p g, ClX.CRead K C mc ∧ ClX.CMet K C mc "never" p g ∧ FnR P w K mg base CX0 6 g (spNever C)
theorem pe_never0 {X : Cx} {p apos pos : Pos} {pl : Sem Bool} (h : NeverHas X.prog X.w X.K X.mg X.base C) (mgE : X.mg "Effect" = some (.ref C)) (hr : Room 6 X.A) (hg : Gl X "Effect" := by rfl)
    (ht : eval (.Call (.Attribute (.Name "Effect" p) "never" apos) [] [] pos) X.env = (do
      let v ← eval (.Name "Effect" p) X.env
      standAt apos.atName
      let (f, first) ← holding [v] (getMethod v "never" pl)
      callWith pos f first (backTo pos (starEach [] X.env)) (backToKw pos (keywordEach [] X.env))) := by rfl) :
    PE X (.Call (.Attribute (.Name "Effect" p) "never" apos) [] [] pos) (tCMeth0 C (spNever C) E0 (tC (.ref C))) := by
  obtain ⟨mc, q, g, r, c, F⟩ := h
  exact pe_cmeth0 (pl := pl) (pe_glob hg mgE rfl) r c F hr pass0 ht
end
end SE
namespace SE
open PySem PySem.Spec PyProof.Rows L2
section
variable {P : Program} {w : World} {K : PySem.W.Frag} {mg : Str → Option Value} {base : Heap} {C : Addr}
/-! ### Effect(a, b, peak = c) -/
def tEffK (K : PySem.W.Frag) (C : Addr) (t : TA) (tk : TE) : TE := fun σ H Q => t σ H fun vs H1 => tCons tk tNil σ H1 fun zs H2 => ∃ (a b : Addr) (xs ys : List Str) (pk : Option Int), vs = [.ref a, .ref b] ∧ zs = [pkV pk] ∧ SqT K H2 a (xs.map V.str) ∧ SqT K H2 b (ys.map V.str) ∧ xs.length ≤ 5000 ∧ ys.length ≤ 5000 ∧
  (∀ z ∈ xs, Item z) ∧ (∀ z ∈ ys, Item z) ∧ (∀ p, pk = some p → lp xs ys ≤ p) ∧ ∀ (e : Addr) (H' : Hp), Same H2 H' → H2 e = none → EffAt K C H' e xs ys (pk.getD (lp xs ys)) → Q (.ref e) H'
theorem pe_effK {X : Cx} {p pos q1 : Pos} {e1 e2 c : Expr} {t : TA} {tk : TE} (M : Makes X.prog X.w X.K X.mg X.base C) (mgE : X.mg "Effect" = some (.ref C)) (hr : Room 5 X.A) (ha : PA X [e1, e2] t) (hc : PE X c tk) (hg : Gl X "Effect" := by rfl)
    (he : starEach [e1, e2] X.env = (false, eval e1 X.env) :: starEach [e2] X.env := by rfl) (hpl : ((backTo pos (starEach [e1, e2] X.env)).any (·.1) || (backToKw pos (keywordEach [⟨some "peak", c, q1⟩] X.env)).any (·.1.isNone)) = false := by rfl) :
    PE X (.Call (.Name "Effect" p) [e1, e2] [⟨some "peak", c, q1⟩] pos) (tEffK X.K C t tk) := by
  obtain ⟨f, fd, Mk1, F, FD⟩ := M
  obtain ⟨mv, kb⟩ := kb_some (ps := pInit) FD 3 ["peak"] [] (fun us _ ws => us ++ ws) (by simp) (fun q h => (by cases h)) (fun r1 _ r3 => r1.append r3) (fun D doc pm an cv ct us mv ws h1 h2 h3 => match us, mv, ws, h1, h2, h3 with | [_, _, _], [], [_], _, _, _ => rfl)
  constructor
  intro pins s σ H Q I h
  refine wpAny_Call_Name_kw (ld_glob I hg mgE ?_ (by decide))
  refine PySem.W.callWith_KW (h₀ := X.base) I.ok.mod.kin Mk1.kp rfl (thn (ha.run pos pins s σ H _ I h) fun us s1 hh => ?_) hpl he
  obtain ⟨vs, H1, I1, r, q⟩ := hh
  refine thn ((pk_cons (nm := some "peak") (kpos := q1) hc pk_nil).run pos pins s1 σ H1 _ I1 q) fun ws s2 hh => ?_
  obtain ⟨zs, H2, I2, rz, a, b, xs, ys, pk, rfl, rfl, ha2, hb2, l1, l2, i1, i2, hp, k⟩ := hh
  refine ⟨I2.kIn, ?_⟩
  refine run_makeK (ks := ["peak"]) (n := 2) Mk1 F hr kb pass0 I2 r rz rfl rfl ?_
  intro x dx nx nd ne
  have s0 : Same H2 (upd (upd H2 dx (.own x)) x (.ins C dx [])) := Same.made nx nd fun b o e _ => e
  refine ⟨x, dx, a, b, xs, ys, pk, rfl, upd_same, Same.tup s0 ha2, Same.tup s0 hb2, l1, l2, i1, i2, hp, fun H' kp hx => ⟨rfl, ?_⟩⟩
  have s3 : Same H2 H' := fun c o e => kp c o (s0 c o e) (ne_of_none e nx)
  exact k x H' s3 nx ⟨dx, a, b, hx, Same.tup s3 ha2, Same.tup s3 hb2⟩
/-! ### effects as values -/
abbrev Eff := Option (List Str × List Str × Int)
def EffV (K : PySem.W.Frag) (C : Addr) (H : Hp) (e : Addr) : Eff → Prop
  | none => NevAt C H e
  | some (xs, ys, p) => EffAt K C H e xs ys p
theorem EffV.same {H H' : Hp} {e : Addr} : ∀ {o : Eff}, EffV K C H e o → Same H H' → EffV K C H' e o
  | none, h, s => NevAt.same h s
  | some (_, _, _), h, s => EffAt.same h s
theorem EffV.ins {H : Hp} {e : Addr} : ∀ {o : Eff}, EffV K C H e o → ∃ dx fs, H e = some (.ins C dx fs)
  | none, h => by
    obtain ⟨dx, h1⟩ := NevAt.ex h
    exact ⟨dx, _, h1⟩
  | some (_, _, _), h => by
    obtain ⟨dx, u, v, h1, _⟩ := EffAt.ex h
    exact ⟨dx, _, h1⟩
/-! ### peak, nothing -/
def spPeak (K : PySem.W.Frag) (C : Addr) : Sp := fun vs H Q _ => ∃ (e : Addr) (xs ys : List Str) (p : Int), vs = [.ref e] ∧ EffAt K C H e xs ys p ∧ Q (.int p) H
theorem scPk : FnScope ["self"] ["self"] (defScope sPeak) := ⟨rfl, rfl, rfl, by decide +kernel, rfl, by decide +kernel, by decide +kernel⟩
theorem ok_peak {f : Addr} {fd : FuncData} (F : Fun K "peak" "Effect.peak" sPeak f fd) (T : EC K mg C) : FnOk P w K mg base CX0 1 f fd ["self"] (spPeak K C) := by
  refine F.ok scPk (fun vs H Q E h => ?_) (fun cdv A outer s H vs Q E hr h => ?_)
  · obtain ⟨e, xs, ys, p, rfl, _⟩ := h
    rfl
  · obtain ⟨e, xs, ys, p, rfl, h, k⟩ := h
    obtain ⟨dx, u, v, h1, h2, h3⟩ := h.ex
    exact ⟨_, pss_one (ps_ret (pe_fld (pv 0) rfl)), _, rfl, e, C, dx, _, _, rfl, h1, T.cl, T.nH, eF_high _ _ _, k⟩
end
end SE
namespace SE
open PySem PySem.Spec PyProof.Rows L2
/-! ### effects one after the other: the mathematics' side -/
abbrev Prt := List Str × List Str × Int
def comp (A B : Prt) : Option Prt :=
  if A.2.1.take (min A.2.1.length B.1.length) = B.1.take (min A.2.1.length B.1.length) then
    some (A.1 ++ B.1.drop (min A.2.1.length B.1.length), B.2.1 ++ A.2.1.drop (min A.2.1.length B.1.length), if (A.2.1.length : Int) - (A.1.length : Int) + B.2.2 > A.2.2 then (A.2.1.length : Int) - (A.1.length : Int) + B.2.2 else A.2.2)
  else none
def joinF : Prt → List Prt → Eff
  | A, [] => some A
  | A, B :: r => match comp A B with
    | none => none
    | some D => joinF D r
def joinM (ps : List Prt) : Eff := joinF ([], [], 0) ps
def szP (ps : List Prt) : Nat := (ps.map fun B => B.1.length + B.2.1.length).sum
/-- a part that may be joined -/
structure PrtOk (B : Prt) : Prop where
  i1 : ∀ z ∈ B.1, Item z
  i2 : ∀ z ∈ B.2.1, Item z
  h0 : 0 ≤ B.2.2
  h1 : (B.2.1.length : Int) - (B.1.length : Int) ≤ B.2.2
theorem comp_ok {A B D : Prt} (hA : PrtOk A) (hB : PrtOk B) (h : comp A B = some D) : PrtOk D ∧ D.1.length + D.2.1.length ≤ A.1.length + A.2.1.length + (B.1.length + B.2.1.length) := by
  unfold comp at h
  split at h
  · cases h
    have q1 := hA.h0
    have q2 := hA.h1
    have q3 := hB.h1
    refine ⟨⟨fun z m => ?_, fun z m => ?_, ?_, ?_⟩, ?_⟩
    · rcases List.mem_append.mp m with q | q
      · exact hA.i1 z q
      · exact hB.i1 z (List.mem_of_mem_drop q)
    · rcases List.mem_append.mp m with q | q
      · exact hB.i2 z q
      · exact hA.i2 z (List.mem_of_mem_drop q)
    · dsimp only
      split <;> omega
    · dsimp only
      rw [List.length_append, List.length_append, List.length_drop, List.length_drop]
      have m1 := Nat.min_le_left A.2.1.length B.1.length
      have m2 := Nat.min_le_right A.2.1.length B.1.length
      generalize min A.2.1.length B.1.length = m at m1 m2 ⊢
      split <;> omega
    · show (A.1 ++ B.1.drop (min A.2.1.length B.1.length)).length + (B.2.1 ++ A.2.1.drop (min A.2.1.length B.1.length)).length ≤ _
      rw [List.length_append, List.length_append, List.length_drop, List.length_drop]
      omega
  · cases h
theorem PrtOk.lp {D : Prt} (h : PrtOk D) : lp D.1 D.2.1 ≤ D.2.2 := by
  have q1 := h.h0
  have q2 := h.h1
  unfold SE.lp
  split <;> omega
theorem cutF_to {α : Type} (f : α → V) (xs : List α) (j : Nat) : cutV (xs.map f) none (some (j : Int)) = (xs.take j).map f := by
  unfold cutV
  rw [List.length_map]
  have e1 : HT.sIx xs.length 0 none = 0 := rfl
  rw [e1, HT.sIx_nat, List.drop_zero, Nat.sub_zero, ← List.map_take]
  congr 1
  by_cases c : j ≤ xs.length
  · rw [Nat.min_eq_left c]
  · rw [Nat.min_eq_right (by omega), List.take_length, List.take_of_length_le (by omega)]
theorem cutF_from {α : Type} (f : α → V) (xs : List α) (j : Nat) : cutV (xs.map f) (some (j : Int)) none = (xs.drop j).map f := by
  unfold cutV
  rw [List.length_map]
  have e1 : HT.sIx xs.length xs.length none = xs.length := rfl
  rw [e1, HT.sIx_nat, ← List.map_drop, ← List.map_take]
  congr 1
  by_cases c : j ≤ xs.length
  · rw [Nat.min_eq_left c, List.take_of_length_le (by rw [List.length_drop]; exact Nat.le_refl _)]
  · rw [Nat.min_eq_right (by omega), List.drop_of_length_le (Nat.le_refl _), List.drop_of_length_le (by omega), List.take_nil]
theorem min_int (a b : Nat) : (if (b : Int) < (a : Int) then (b : Int) else (a : Int)) = ((min a b : Nat) : Int) := by
  split <;> omega
/-- a part as a tuple -/
def PrtV (K : PySem.W.Frag) (H : Hp) (v : V) (B : Prt) : Prop := ∃ t a b, v = .ref t ∧ SqT K H t [.ref a, .ref b, .int B.2.2] ∧ SqT K H a (B.1.map V.str) ∧ SqT K H b (B.2.1.map V.str)
theorem PrtV.same {K : PySem.W.Frag} {H H' : Hp} {v : V} {B : Prt} (h : PrtV K H v B) (s : Same H H') : PrtV K H' v B := by
  obtain ⟨t, a, b, e, h1, h2, h3⟩ := h
  exact ⟨t, a, b, e, Same.tup s h1, Same.tup s h2, Same.tup s h3⟩
section
variable {P : Program} {w : World} {K : PySem.W.Frag} {mg : Str → Option Value} {base : Heap} {C : Addr}
/-! ### joined -/
def spJoin (K : PySem.W.Frag) (C : Addr) : Sp := fun vs H Q _ => ∃ (a : Addr) (us : List V) (ps : List Prt), vs = [.ref a] ∧ SqL K H a us ∧ Paired (PrtV K H) us ps ∧ (∀ B ∈ ps, PrtOk B) ∧ szP ps ≤ 5000 ∧ ∀ (e : Addr) (H' : Hp), Same H H' → EffV K C H' e (joinM ps) → Q (.ref e) H'
theorem scJo : FnScope ["parts", "pops", "pushes", "peak", "needed", "left", "highest", "shared"] ["parts"] (defScope sJoined) := ⟨rfl, rfl, rfl, by decide +kernel, rfl, by decide +kernel, by decide +kernel⟩
theorem paired_at {α β : Type} {F : α → β → Prop} : ∀ {l₁ : List α} {l₂ : List β} {i : Nat} {x : α}, Paired F l₁ l₂ → l₁[i]? = some x → ∃ y, l₂[i]? = some y ∧ F x y
  | _, _, _, _, .nil, h => by simp at h
  | _, _, 0, _, .cons r _, h => ⟨_, rfl, by cases h; exact r⟩
  | _, _, i + 1, _, .cons _ t, h => by
    obtain ⟨y, h1, h2⟩ := paired_at t (i := i) h
    exact ⟨y, h1, h2⟩
theorem paired_len {α β : Type} {F : α → β → Prop} : ∀ {l₁ : List α} {l₂ : List β}, Paired F l₁ l₂ → l₁.length = l₂.length
  | _, _, .nil => rfl
  | _, _, .cons _ t => congrArg Nat.succ (paired_len t)
theorem has_join (D : Def K mg "joined" sJoined) (T : EC K mg C) (M : Makes P w K mg base C) (GN : NeverHas P w K mg base C) (B : Blt mg) (mx : mg "max" = none) (mn : mg "min" = none) : Has P w K mg base "joined" 7 ["parts"] [] (spJoin K C) := by
  refine has_of D scJo (fun _ _ _ _ _ _ us hl => match us, hl with | [_], _ => rfl) (fun xs H Q E h => ?_) (fun f cv A out s H xs Q E hr h => ?_)
  · obtain ⟨a, us, ps, rfl, _⟩ := h
    rfl
  · obtain ⟨a, us, ps, rfl, hS, hV, hO, hz, k⟩ := h
    have hr5 : Room 5 _ := hr.mono (by decide)
    refine ⟨_, pss_cons (ps_asg (pe_tup (pa_cons (pe_tup pa_nil) (pa_cons (pe_tup pa_nil) (pa_cons pe_int pa_nil)))) (pg_tup (by rfl) (pgs_cons (pg_name (i := 1) scJo.nd rfl (.inl rfl)) (pgs_cons (pg_name (i := 2) scJo.nd rfl (.inl rfl)) (pgs_cons (pg_name (i := 3) scJo.nd rfl (.inl rfl)) pgs_nil)))))
      (pss_cons (ps_for PassesOwn.never rfl (pi_list (pv 0)) (pg_tup (by rfl) (pgs_cons (pg_name (i := 4) scJo.nd rfl (.inl rfl)) (pgs_cons (pg_name (i := 5) scJo.nd rfl (.inl rfl)) (pgs_cons (pg_name (i := 6) scJo.nd rfl (.inl rfl)) pgs_nil))))
        (pss_cons (ps_set (i := 7) scJo.nd rfl (.inl rfl) (pe_callB (call_min2 rfl) (by rfl) mn (by decide +kernel) (pa_cons (pe_callB call_len_seq (by rfl) B.len PySem.boot_len (pa_cons (pv 2) pa_nil)) (pa_cons (pe_callB call_len_seq (by rfl) B.len PySem.boot_len (pa_cons (pv 4) pa_nil)) pa_nil))))
        (pss_cons (ps_if (pt_cut (pt_cmpR (op_neD hr.units) (pe_slice sl_tupS (pv 2) po_none (po_some (pv 7))) (pe_slice sl_tupS (pv 4) po_none (po_some (pv 7))) (nomark _))) (pss_one (ps_ret (pe_never0 GN T.mgE hr))) pss_nil)
        (pss_cons (ps_set (i := 3) scJo.nd rfl (.inl rfl) (pe_callB (call_max2 rfl) (by rfl) mx (by decide +kernel) (pa_cons (pv 3) (pa_cons (pe_op op_add (pe_op op_sub (pe_callB call_len_seq (by rfl) B.len PySem.boot_len (pa_cons (pv 2) pa_nil)) (pe_callB call_len_seq (by rfl) B.len PySem.boot_len (pa_cons (pv 1) pa_nil))) (pv 6)) pa_nil))))
        (pss_cons (ps_set (i := 1) scJo.nd rfl (.inl rfl) (pe_op op_catS (pv 1) (pe_slice sl_tupS (pv 4) (po_some (pv 7)) po_none)))
        (pss_one (ps_set (i := 2) scJo.nd rfl (.inl rfl) (pe_op op_catS (pv 5) (pe_slice sl_tupS (pv 2) (po_some (pv 7)) po_none)))))))))
      (pss_one (ps_ret (pe_effK M T.mgE hr5 (pa_cons (pv 1) (pa_cons (pv 2) pa_nil)) (pv 3))))), ?_⟩
    refine ⟨Nat.zero_le _, fun t1 ht1 => ⟨Nat.zero_le _, fun t2 ht2 => ?_⟩⟩
    have n12 : t1 ≠ t2 := ne_of_none upd_same ht2
    have s0 : Same H (upd (upd H t1 (.tup [])) t2 (.tup [])) := Same.free2 (Same.new ht1) ((Same.new ht1).free ht2)
    have shp : ∀ {zs : List Str}, (∀ z ∈ zs, Item z) → SeqAt.shaped (.tuple (zs.map PyData.str)) = true := fun {zs} q => (nice_tuple (nice_strs q)).shaped (by decide)
    refine ⟨(by show 3 ≤ sizeLine; decide), fun t3 ht3 => ⟨t3, _, rfl, .of upd_same, rfl, _, _, rfl, _, _, rfl, _, _, rfl, rfl, ?_⟩⟩
    have s00 := Same.new (o := .tup [.ref t1, .ref t2, .int 0]) ht3
    generalize upd (upd (upd H t1 (.tup [])) t2 (.tup [])) t3 (.tup [.ref t1, .ref t2, .int 0]) = H1 at s00 ⊢
    have w1 : SqT K H1 t1 (([] : List Str).map V.str) := Same.tup s00 (.of (by rw [upd_ne n12]; exact upd_same))
    have w2 : SqT K H1 t2 (([] : List Str).map V.str) := Same.tup s00 (.of upd_same)
    replace s0 := s0.trans s00
    refine ⟨_, rfl, a, rfl, ⟨_, Same.seq s0 hS⟩, for_list (K := K) (a := a) (xs := us) (fun i σ H2 => ∃ (u v : Addr) (A : Prt) (y4 y5 y6 y7 : Option V), σ = [some (.ref a), some (.ref u), some (.ref v), some (.int A.2.2), y4, y5, y6, y7] ∧ Same H H2 ∧ SqT K H2 u (A.1.map V.str) ∧ SqT K H2 v (A.2.1.map V.str) ∧ PrtOk A ∧ joinM ps = joinF A (ps.drop i) ∧ A.1.length + A.2.1.length + szP (ps.drop i) ≤ 5000)
      ⟨t1, t2, ([], [], 0), none, none, none, none, rfl, s0, w1, w2, ⟨fun z m => (by cases m), fun z m => (by cases m), Int.le_refl _, Int.le_refl _⟩, rfl, by rw [List.drop_zero]; show 0 + 0 + szP ps ≤ 5000; omega⟩ (fun i σ H2 _ q => ?_) ?_ ?_⟩
    · obtain ⟨_, _, _, _, _, _, _, _, s2, _⟩ := q
      exact Same.seq s2 hS
    · rintro i x σ H2 hx ⟨u, v, A, y4, y5, y6, y7, rfl, s2, hu, hv, oA, hj, hsz⟩
      obtain ⟨Bp, hB, hP⟩ := paired_at hV hx
      obtain ⟨t, p1, p2, rfl, q1, q2, q3⟩ := hP.same s2
      have oB := hO Bp (List.mem_of_getElem? hB)
      have hd : ps.drop i = Bp :: ps.drop (i + 1) := by
        obtain ⟨hl, he⟩ := List.getElem?_eq_some_iff.mp hB
        rw [List.drop_eq_getElem_cons hl, he]
      have hsz2 : A.1.length + A.2.1.length + (Bp.1.length + Bp.2.1.length) + szP (ps.drop (i + 1)) ≤ 5000 := by
        rw [hd] at hsz
        have e : szP (Bp :: ps.drop (i + 1)) = Bp.1.length + Bp.2.1.length + szP (ps.drop (i + 1)) := by
          unfold szP
          rw [List.map_cons, List.sum_cons]
        omega
      refine ⟨t, _, rfl, q1, rfl, _, _, rfl, _, _, rfl, _, _, rfl, rfl, ?_⟩
      refine ⟨_, rfl, v, _, rfl, .inr hv, _, rfl, p1, _, rfl, .inr q2, _, _, rfl, ?_⟩
      rw [List.length_map, List.length_map, min_int]
      -- do they fit
      refine ⟨fun b H3 => b = !decide (A.2.1.take (min A.2.1.length Bp.1.length) = Bp.1.take (min A.2.1.length Bp.1.length)) ∧ Same H2 H3, ?_, ?_⟩
      · refine ⟨_, rfl, _, rfl, _, rfl, v, _, rfl, hv, fun c1 H3 s3 hc1 => ⟨_, rfl, _, rfl, _, rfl, p1, _, rfl, Same.tup s3 q2, fun c2 H4 s4 hc2 => ?_⟩⟩
        rw [cutF_to] at hc1 hc2
        refine ⟨.tuple ((A.2.1.take (min A.2.1.length Bp.1.length)).map .str), .tuple ((Bp.1.take (min A.2.1.length Bp.1.length)).map .str), .tup (Same.tup s4 hc1) (dp_strs _), .tup hc2 (dp_strs _), shp (fun z m => oA.i2 z (List.mem_of_mem_take m)), shp (fun z m => oB.i1 z (List.mem_of_mem_take m)), _, rfl, ?_, s3.trans s4⟩
        rw [eqv_tupS]
      rintro b H3 ⟨rfl, s3⟩
      have s23 := s2.trans s3
      by_cases c : A.2.1.take (min A.2.1.length Bp.1.length) = Bp.1.take (min A.2.1.length Bp.1.length)
      rotate_left
      · rw [decide_eq_false c]
        refine iteT ⟨rfl, rfl, fun e H4 s4 he => k e H4 (s23.trans s4) ?_⟩
        have ej : joinM ps = none := by
          rw [hj, hd]
          unfold joinF comp
          rw [if_neg c]
        rw [ej]
        exact he
      rw [decide_eq_true c]
      refine iteF ?_
      refine ⟨_, rfl, _, rfl, v, _, rfl, .inr (Same.tup s3 hv), _, rfl, u, _, rfl, .inr (Same.tup s3 hu), _, _, rfl, rfl, _, rfl, _, _, rfl, rfl, _, _, rfl, ?_⟩
      rw [List.length_map, List.length_map]
      refine ⟨_, rfl, _, rfl, _, rfl, _, rfl, p1, _, rfl, Same.tup s3 q2, fun c1 H4 s4 hc1 => ?_⟩
      rw [cutF_from] at hc1
      refine ⟨u, c1, _, _, rfl, rfl, Same.tup (s3.trans s4) hu, hc1, ?_, fun u2 H5 s5 hu2 => ?_⟩
      · rw [List.length_map, List.length_map, List.length_drop, sizeLine_eq]
        omega
      have s35 := (s3.trans s4).trans s5
      refine ⟨_, rfl, _, rfl, _, rfl, _, rfl, v, _, rfl, Same.tup s35 hv, fun c2 H6 s6 hc2 => ?_⟩
      rw [cutF_from] at hc2
      refine ⟨p2, c2, _, _, rfl, rfl, Same.tup (s35.trans s6) q3, hc2, ?_, fun v2 H7 s7 hv2 => ?_⟩
      · rw [List.length_map, List.length_map, List.length_drop, sizeLine_eq]
        omega
      obtain ⟨Dp, hD⟩ : ∃ Dp, comp A Bp = some Dp := by
        unfold comp
        rw [if_pos c]
        exact ⟨_, rfl⟩
      have oD := comp_ok oA oB hD
      have e1 : Dp.1 = A.1 ++ Bp.1.drop (min A.2.1.length Bp.1.length) ∧ Dp.2.1 = Bp.2.1 ++ A.2.1.drop (min A.2.1.length Bp.1.length) ∧ Dp.2.2 = if (A.2.1.length : Int) - (A.1.length : Int) + Bp.2.2 > A.2.2 then (A.2.1.length : Int) - (A.1.length : Int) + Bp.2.2 else A.2.2 := by
        unfold comp at hD
        rw [if_pos c] at hD
        cases hD
        exact ⟨rfl, rfl, rfl⟩
      rw [← List.map_append, ← e1.1] at hu2
      rw [← List.map_append, ← e1.2.1] at hv2
      refine ⟨u2, v2, Dp, some (.ref p1), some (.ref p2), some (.int Bp.2.2), some (.int ((min A.2.1.length Bp.1.length : Nat) : Int)), ?_, s2.trans ((s35.trans s6).trans s7), Same.tup (s6.trans s7) hu2, hv2, oD.1, ?_, ?_⟩
      · rw [e1.2.2]
        rfl
      · rw [hj, hd]
        conv => lhs; unfold joinF
        rw [hD]
      · have := oD.2
        omega
    · rintro σ H2 ⟨u, v, A, y4, y5, y6, y7, rfl, s2, hu, hv, oA, hj, hsz⟩
      rw [paired_len hV, List.drop_length] at hj
      refine ⟨_, rfl, _, rfl, _, rfl, u, v, A.1, A.2.1, some A.2.2, rfl, rfl, hu, hv, by omega, by omega, oA.i1, oA.i2, fun p z => ?_, fun e H3 s3 _ he => ?_⟩
      · cases z
        exact oA.lp
      · refine k e H3 (s2.trans s3) ?_
        rw [hj]
        exact he
end
end SE
namespace SE
open PySem PySem.Spec PyProof.Rows L2
/-! ### effect_of -/
def partM (s : Stp) : Prt := if s.1 = true then ([], [s.2], 1) else ([s.2], [], 0)
def effM (ss : List Stp) : Eff := joinM (ss.map partM)
theorem partM_ok {s : Stp} (h : Item s.2) : PrtOk (partM s) := by
  unfold partM
  split
  · exact ⟨fun z m => (by cases m), fun z m => (by rw [List.mem_singleton.mp m]; exact h), (by show (0 : Int) ≤ 1; decide), (by show ((1 : Nat) : Int) - ((0 : Nat) : Int) ≤ 1; decide)⟩
  · exact ⟨fun z m => (by rw [List.mem_singleton.mp m]; exact h), fun z m => (by cases m), (by show (0 : Int) ≤ 0; decide), (by show ((0 : Nat) : Int) - ((1 : Nat) : Int) ≤ 0; decide)⟩
theorem szP_steps : ∀ ss : List Stp, szP (ss.map partM) = ss.length
  | [] => rfl
  | s :: ss => by
    have ih := szP_steps ss
    unfold szP at ih ⊢
    rw [List.map_cons, List.map_cons, List.sum_cons, ih, List.length_cons]
    unfold partM
    split
    · show 0 + 1 + ss.length = _
      omega
    · show 1 + 0 + ss.length = _
      omega
theorem tup_updL {K : PySem.W.Frag} {H : Hp} {D t : Addr} {xs us : List V} {o : HO} (hD : H D = some (.lst us)) (h : SqT K H t xs) : SqT K (upd H D o) t xs := by
  rcases h with (h | ⟨p, h⟩) | h
  · exact .inl (.inl (by rw [upd_ne (ne_of h hD (by intro z; cases z))]; exact h))
  · exact .inl (.inr ⟨p, by rw [upd_ne (ne_of h hD (by intro z; cases z))]; exact h⟩)
  · exact .inr h
theorem PrtV.updL {K : PySem.W.Frag} {H : Hp} {D : Addr} {us : List V} {v : V} {B : Prt} {o : HO} (hD : H D = some (.lst us)) (h : PrtV K H v B) : PrtV K (upd H D o) v B := by
  obtain ⟨t, a, b, e, h1, h2, h3⟩ := h
  exact ⟨t, a, b, e, tup_updL hD h1, tup_updL hD h2, tup_updL hD h3⟩
theorem Paired.snoc2 {α β : Type} {F : α → β → Prop} : ∀ {l₁ : List α} {l₂ : List β} {x : α} {y : β}, Paired F l₁ l₂ → F x y → Paired F (l₁ ++ [x]) (l₂ ++ [y])
  | _, _, _, _, .nil, h => .cons h .nil
  | _, _, _, _, .cons r t, h => .cons r (Paired.snoc2 t h)
section
variable {P : Program} {w : World} {K : PySem.W.Frag} {mg : Str → Option Value} {base : Heap} {C : Addr}
def spPart (K : PySem.W.Frag) : Sp := fun vs H Q _ => ∃ (v : V) (s : Stp), vs = [v] ∧ StepV K H v s ∧ ∀ (u : V) (H' : Hp), Same H H' → PrtV K H' u (partM s) → Q u H'
theorem scPt : FnScope ["step", "action", "item"] ["step"] (defScope sPartsOfStep) := ⟨rfl, rfl, rfl, by decide +kernel, rfl, by decide +kernel, by decide +kernel⟩
theorem has_part (D : Def K mg "parts_of_step" sPartsOfStep) : Has P w K mg base "parts_of_step" 1 ["step"] [] (spPart K) := by
  refine has_of D scPt (fun _ _ _ _ _ _ us hl => match us, hl with | [_], _ => rfl) (fun xs H Q E h => ?_) (fun f cv A out s H xs Q E hr h => ?_)
  · obtain ⟨v, st, rfl, _⟩ := h
    rfl
  · obtain ⟨v, st, rfl, ⟨t, rfl, hT⟩, k⟩ := h
    refine ⟨_, pss_cons (ps_asg (pv 0) (pg_tup (by rfl) (pgs_cons (pg_name (i := 1) scPt.nd rfl (.inl rfl)) (pgs_cons (pg_name (i := 2) scPt.nd rfl (.inl rfl)) pgs_nil))))
      (pss_one (ps_ret (pe_ifExp (pt_cmpR op_eq (pv 1) pe_str (nomark _)) (pe_tup (pa_cons (pe_tup pa_nil) (pa_cons (pe_tup (pa_cons (pv 2) pa_nil)) (pa_cons pe_int pa_nil)))) (pe_tup (pa_cons (pe_tup (pa_cons (pv 2) pa_nil)) (pa_cons (pe_tup pa_nil) (pa_cons pe_int pa_nil))))))), ?_⟩
    refine ⟨_, rfl, t, _, rfl, hT, rfl, _, _, rfl, _, _, rfl, rfl, ?_⟩
    obtain ⟨b, z⟩ := st
    cases b with
    | true =>
      refine ⟨_, rfl, rfl, true, congrArg V.bl (decide_eq_true (show V.str (act true) = V.str "push" from rfl)), iteT ?_⟩
      refine ⟨Nat.zero_le _, fun a ha => ⟨_, rfl, (by show 1 ≤ sizeLine; decide), fun c hc => ⟨(by show 3 ≤ sizeLine; decide), fun q hq => ?_⟩⟩⟩
      have nac : a ≠ c := ne_of_none upd_same hc
      have naq : a ≠ q := ne_of_none (by rw [upd_ne nac]; exact upd_same) hq
      have ncq : c ≠ q := ne_of_none upd_same hq
      refine k (.ref q) _ ?_ ⟨q, a, c, rfl, .of upd_same, .of ?_, .of ?_⟩
      · exact Same.free2 (Same.free2 (Same.new ha) ((Same.new ha).free hc)) ((Same.free2 (Same.new ha) ((Same.new ha).free hc)).free hq)
      · rw [upd_ne naq, upd_ne nac]
        exact upd_same
      · rw [upd_ne ncq]
        exact upd_same
    | false =>
      refine ⟨_, rfl, rfl, false, congrArg V.bl (decide_eq_false (fun y => absurd (V.str.inj (show V.str (act false) = V.str "push" from y)) (by decide +kernel))), iteF ?_⟩
      refine ⟨_, rfl, (by show 1 ≤ sizeLine; decide), fun a ha => ⟨Nat.zero_le _, fun c hc => ⟨(by show 3 ≤ sizeLine; decide), fun q hq => ?_⟩⟩⟩
      have nac : a ≠ c := ne_of_none upd_same hc
      have naq : a ≠ q := ne_of_none (by rw [upd_ne nac]; exact upd_same) hq
      have ncq : c ≠ q := ne_of_none upd_same hq
      refine k (.ref q) _ ?_ ⟨q, a, c, rfl, .of upd_same, .of ?_, .of ?_⟩
      · exact Same.free2 (Same.free2 (Same.new ha) ((Same.new ha).free hc)) ((Same.free2 (Same.new ha) ((Same.new ha).free hc)).free hq)
      · rw [upd_ne naq, upd_ne nac]
        exact upd_same
      · rw [upd_ne ncq]
        exact upd_same
def spEffOf (K : PySem.W.Frag) (C : Addr) : Sp := fun vs H Q _ => ∃ (a : Addr) (ys : List V) (ss : List Stp), vs = [.ref a] ∧ SqL K H a ys ∧ ys.length ≤ 1000 ∧ StepsV K H ys ss ∧ (∀ s ∈ ss, Item s.2) ∧ ∀ (e : Addr) (H' : Hp), Same H H' → EffV K C H' e (effM ss) → Q (.ref e) H'
theorem scEo : FnScope ["steps", "step"] ["steps"] (defScope sEffectOf) := ⟨rfl, rfl, rfl, by decide +kernel, rfl, by decide +kernel, by decide +kernel⟩
theorem has_effOf (D : Def K mg "effect_of" sEffectOf) (GC : Has P w K mg base "check_steps" 3 ["steps"] [] (spChkSteps K)) (GP : Has P w K mg base "parts_of_step" 1 ["step"] [] (spPart K)) (GJ : Has P w K mg base "joined" 7 ["parts"] [] (spJoin K C)) :
    Has P w K mg base "effect_of" 8 ["steps"] [] (spEffOf K C) := by
  refine has_of D scEo (fun _ _ _ _ _ _ us hl => match us, hl with | [_], _ => rfl) (fun xs H Q E h => ?_) (fun f cv A out s H xs Q E hr h => ?_)
  · obtain ⟨a, ys, ss, rfl, _⟩ := h
    rfl
  · obtain ⟨a, ys, ss, rfl, hS, hl, hV, hI, k⟩ := h
    have hr1 : Room 1 _ := hr.mono (by decide)
    have hr3 : Room 3 _ := hr.mono (by decide)
    have hln : ys.length = ss.length := hV.length
    refine ⟨_, pss_cons (ps_expr (pe_has GC hr3 (pa_cons (pv 0) pa_nil))) (pss_one (ps_ret (pe_has GJ hr (pa_cons
      (pe_lc (own := [("step", 1)]) (g := gName 1) (tt := tYes) (te := tCall (spPart K) [] E0 (tCons (tVar 1) tNil)) rfl scEo.nd (pi_list (pv 0)) (blkOk_by (own := [("step", 1)]) (N := ["steps", "step"]) (sc := defScope sEffectOf) (by decide +kernel))
        (fun _ _ _ _ _ => pg_name (i := 1) scEo.nd rfl (.inl rfl)) (fun _ _ _ _ _ => pts_nil) (fun _ _ _ _ _ => pe_has GP hr1 (pa_cons (pv 1) pa_nil))) pa_nil)))), ?_⟩
    refine ⟨_, rfl, a, ys, ss, rfl, .inl hS, hl, hV, hI, fun H1 s1 => ?_⟩
    refine ⟨_, rfl, a, rfl, ⟨_, Same.seq s1 hS⟩, fun D hD => lc_list (K := K) (a := a) (xs := ys) (fun j H2 => ∃ us, H2 D = some (.lst us) ∧ Paired (PrtV K H2) us ((ss.take j).map partM) ∧ Same H1 H2) ⟨[], upd_same, .nil, Same.new hD⟩ (fun j H2 _ q => ?_) ?_ ?_⟩
    · obtain ⟨_, _, _, s2⟩ := q
      exact Same.seq (s1.trans s2) hS
    · rintro j x H2 hx ⟨us, hu, hP, s2⟩
      obtain ⟨st, h1, h2⟩ := StepsV.at hV hx
      refine ⟨rfl, yes_in ⟨_, rfl, x, st, rfl, h2.same (s1.trans s2), fun u H3 s3 hp => ⟨us, s3 _ _ hu, ?_, us ++ [u], upd_same, ?_, ?_⟩⟩⟩
      · have l2 := paired_len hP
        rw [List.length_map, List.length_take] at l2
        rw [sizeLine_eq]
        omega
      · have e1 : (ss.take (j + 1)).map partM = (ss.take j).map partM ++ [partM st] := by
          rw [List.take_add_one, h1, List.map_append]
          rfl
        rw [e1]
        have hu3 := s3 _ _ hu
        exact Paired.snoc2 (Paired.mapP hP fun v B q => (q.same s3).updL hu3) (hp.updL hu3)
      · exact Same.free2 (s2.trans s3) hD
    · rintro H2 ⟨us, hu, hP, s2⟩
      rw [hln, List.take_length] at hP
      refine ⟨D, us, ss.map partM, rfl, .of hu, hP, fun Bp m => ?_, ?_, fun e H3 s3 he => k e H3 ((s1.trans s2).trans s3) he⟩
      · obtain ⟨st, ms, rfl⟩ := List.mem_map.mp m
        exact partM_ok (hI st ms)
      · rw [szP_steps]
        omega
end
end SE
/-! == and != by an own __eq__, whatever it answers; repr by an own __repr__. -/
namespace SE
open PySem PySem.Spec PyProof.Rows L2
section
variable {prog : Program} {w : World} {A : Around} {E : Value → Shared → Prop} {s : Shared} {K : PySem.W.Frag} {x y C f : Addr} {ox oy : Obj} {od oe : Option Obj} {Q : Value → Shared → Prop}
/-- a special method that is a built-in's slot -/
theorem bound_slot {M : Model} {name : Str} {id : String} {args : List Value} {R : Option Value → Shared → Prop} (X : K.In s.heap) (I : PySem.W.InstAt s.heap x ox C od) (hs : PySem.W.findIn K (.ref C) name = some (some (.builtin id)))
    (hb : ∀ v, bindSpecial (.builtin id) v = pure (.builtin id, [v])) (h : wpAny M A (call (.builtin id) (.ref x :: args)) (fun v => R (some v)) E s) : wpAny M A (callSpecialIfBound? (.ref x) name args) R E s := by
  simp only [callSpecialIfBound?, bindSpecialIfBound?]
  refine wpAny_holding (wpAny_bind (wpAny_bind (wpAny_bind (I.type.here ((PySem.W.looks_findIn X hs).here (wpAny_bind (wpAny_askSetting (wpAny_ite ?_))))))))
  have last : wpAny M A (call (.builtin id) ([.ref x] ++ args) >>= fun v => pure (some v)) R E s := wpAny_bind (wpAny_mono h (fun v s2 z => wpAny_pure z) fun _ _ z => z)
  split
  · exact wpAny_bind ((PySem.W.Looks.of_pure (hb _)).here (wpAny_pure (by exact last)))
  · exact wpAny_tryCatch (wpAny_bind ((PySem.W.Looks.of_pure (hb _)).here (wpAny_pure (by exact last))))
open Builtin in
theorem ne_call {v : Value} (hu : A.in1.units < cLine) (X : K.In s.heap) (I : PySem.W.InstAt s.heap x ox C od) (hm : PySem.W.mroIn K C (.type "object") = some true) (hs : PySem.W.findIn K (.ref C) "__eq__" = some (some (.ref f))) (hf : PySem.W.isFn K (.ref f) = true)
    (h : wpAny (model prog w) A.in1 (call (.ref f) [.ref x, v]) (fun r s2 => ∃ b, r = .bool b ∧ Q (.bool (!b)) s2) E s) : wpAny (model prog w) A (call (.builtin "object.__ne__") [.ref x, v]) Q E s := by
  refine wpAny_call (codeAny_call_builtin PySem.F.cmp_object.ne.plain PySem.F.cmpEntry_ne (PySem.W.check_slot PySem.F.cmpKind_ne PySem.F.cmpSplit_ne (I.type.andThen (PySem.W.looks_mroIn X hm)) (PySem.F.cmpArgs_ne _ _) ?_))
  unfold Builtin.«object.__ne__»
  refine wpAny_bind (m := slotArgs "__ne__" 1 _) (wpAny_pure ?_)
  refine wpAny_bind (m := cRoomFor _ _) (wpAny_cRoomFor hu ?_)
  refine wpAny_bind (m := callSpecialIfBound? (.ref x) (Str.ofString "__eq__") _) (PySem.W.ifBound_K X I hs hf (wpAny_mono h (fun r s2 z => ?_) fun _ _ z => z))
  obtain ⟨b, rfl, q⟩ := z
  exact wpAny_bind (wpAny_truthy_bool (wpAny_pure q))
theorem ne_inst (hu : A.units + 1 < cLine) (X : K.In s.heap) (I : PySem.W.InstAt s.heap x ox C od) (J : PySem.W.InstAt s.heap y oy C oe) (hm : PySem.W.mroIn K C (.type "object") = some true)
    (hn : PySem.W.findIn K (.ref C) "__ne__" = some (some (.builtin "object.__ne__"))) (hs : PySem.W.findIn K (.ref C) "__eq__" = some (some (.ref f))) (hf : PySem.W.isFn K (.ref f) = true)
    (h : wpAny (model prog w) A.in1 (call (.ref f) [.ref x, .ref y]) (fun r s2 => ∃ b, r = .bool b ∧ Q (.bool (!b)) s2) E s) : wpAny (model prog w) A (richCompare .NotEq (.ref x) (.ref y)) Q E s := by
  have one : wpAny (model prog w) A (tryCompare (.ref x) (cmpInfo .NotEq).2.1 (.ref y)) (fun r s2 => ∃ v, r = some v ∧ Q v s2) E s := by
    unfold tryCompare
    refine wpAny_bind (bound_slot X I hn PySem.F.cmp_object.ne.bind (ne_call hu X I hm hs hf (wpAny_mono h (fun v s2 z => ?_) fun _ _ z => z)))
    obtain ⟨b, rfl, q⟩ := z
    exact ⟨b, rfl, wpAny_pure ⟨_, rfl, q⟩⟩
  unfold richCompare
  simp only [oneThing_ref]
  refine wpAny_holding (wpAny_bind (wpAny_cRoomFor (Nat.lt_of_succ_lt hu) (wpAny_bind (I.type.here (wpAny_bind (J.type.here ?_))))))
  rw [show (Value.ref C != Value.ref C) = false by simp]
  simp only [Bool.false_eq_true, if_false]
  refine wpAny_bind (wpAny_pure ?_)
  simp only [Bool.false_eq_true, if_false]
  refine wpAny_bind (wpAny_mono one (fun r s2 z => ?_) fun _ _ z => z)
  obtain ⟨v, rfl, q⟩ := z
  exact wpAny_pure q
end
/-! ### the rules -/
/-- what an own == promises -/
def spEqB (R : Addr → Addr → Bool → Hp → Prop) : Sp := fun vs H Q _ => ∃ (a b : Addr) (c : Bool), vs = [.ref a, .ref b] ∧ R a b c H ∧ ∀ H', Same H H' → Q (.bl c) H'
def rCmp (C : Addr) (R : Addr → Addr → Bool → Hp → Prop) (neg : Bool) : R2 := fun x y H Q => ∃ (a b : Addr) (c : Bool) (dx dy : Addr) (fs gs : List (Str × V)), x = .ref a ∧ y = .ref b ∧ H a = some (.ins C dx fs) ∧ H b = some (.ins C dy gs) ∧ R a b c H ∧ ∀ H', Same H H' → Q (.bl (c != neg)) H'
section
variable {X : Cx} {n : Nat} {C f : Addr} {fd : FuncData} {ps : List Str} {R : Addr → Addr → Bool → Hp → Prop}
theorem op_eqE (F : FnOk X.prog X.w X.K X.mg X.base CX0 n f fd ps (spEqB R)) (hs : PySem.W.findIn X.K (.ref C) "__eq__" = some (some (.ref f))) (hf : PySem.W.isFn X.K (.ref f) = true) (hb : Binds X.K fd ps []) (hr : Room n X.A) : OpR X (compareOp .Eq) (rCmp C R false) := by
  intro pins s σ H x y u v Q I rx ry hq
  obtain ⟨a, b, c, dx, dy, fs, gs, rfl, rfl, ha, hb2, hR, k⟩ := hq
  cases rx
  cases ry
  obtain ⟨mA, J, _⟩ := ins_get I.hok ha
  obtain ⟨mB, J2, _⟩ := ins_get I.hok hb2
  obtain ⟨od, J, _⟩ := J.look
  obtain ⟨oe, J2, _⟩ := J2.look
  obtain ⟨m, hF⟩ := I.fr
  show wpAny (model X.prog X.w) X.A (richCompare .Eq (.ref a) (.ref b)) (EP X pins σ Q) X.xe s
  refine PySem.W.cmp_K (op := .Eq) (tb := .ref C) hr.units0 hF I.ok.mod.kin J J2.type (by simp [PySem.W.notFirst]) hs hf ?_
  have hsp : spEqB R [.ref a, .ref b] H (fun z H' => z = .bl c ∧ Same H H') (fun _ _ _ => False) := ⟨a, b, c, rfl, hR, fun H' e => ⟨rfl, e⟩⟩
  have hl := F.len _ _ _ _ hsp
  refine wpAny_call (codeAny_mono (F.run X.A X.stack s H ⟨[.ref a, .ref b], []⟩ [.ref a, .ref b] [.ref a, .ref b] _ _ hr I.env0 (by simpa using hb s [.ref a, .ref b] I.kIn (by simpa using hl)) (.cons rfl (.cons rfl .nil)) hsp) fun r s2 hq => ?_)
  cases r with
  | error e => exact hq.elim
  | ok fl =>
    cases fl with
    | ret z =>
      obtain ⟨y, H2, I2, rz, ez, ex⟩ := I.after hq
      subst ez
      cases rz
      refine ⟨.bl c, H2, I2, rfl, ?_⟩
      have q := k H2 ex
      rw [show (c != false) = c by cases c <;> rfl] at q
      exact q
    | next => exact hq.elim
    | brk => exact hq.elim
    | cont => exact hq.elim
theorem op_neE (F : FnOk X.prog X.w X.K X.mg X.base CX0 n f fd ps (spEqB R)) (hs : PySem.W.findIn X.K (.ref C) "__eq__" = some (some (.ref f))) (hf : PySem.W.isFn X.K (.ref f) = true) (hb : Binds X.K fd ps []) (hm : PySem.W.mroIn X.K C (.type "object") = some true)
    (hn : PySem.W.findIn X.K (.ref C) "__ne__" = some (some (.builtin "object.__ne__"))) (hr : Room (n + 1) X.A) : OpR X (compareOp .NotEq) (rCmp C R true) := by
  intro pins s σ H x y u v Q I rx ry hq
  obtain ⟨a, b, c, dx, dy, fs, gs, rfl, rfl, ha, hb2, hR, k⟩ := hq
  cases rx
  cases ry
  obtain ⟨mA, J, _⟩ := ins_get I.hok ha
  obtain ⟨mB, J2, _⟩ := ins_get I.hok hb2
  obtain ⟨od, J, _⟩ := J.look
  obtain ⟨oe, J2, _⟩ := J2.look
  show wpAny (model X.prog X.w) X.A (richCompare .NotEq (.ref a) (.ref b)) (EP X pins σ Q) X.xe s
  refine ne_inst (by have := hr.in1.units0; exact this) I.kIn J J2 hm hn hs hf ?_
  have hsp : spEqB R [.ref a, .ref b] H (fun z H' => z = .bl c ∧ Same H H') (fun _ _ _ => False) := ⟨a, b, c, rfl, hR, fun H' e => ⟨rfl, e⟩⟩
  have hl := F.len _ _ _ _ hsp
  refine wpAny_call (codeAny_mono (F.run X.A.in1 X.stack s H ⟨[.ref a, .ref b], []⟩ [.ref a, .ref b] [.ref a, .ref b] _ _ hr.in1 I.env0.in1 (by simpa using hb s [.ref a, .ref b] I.kIn (by simpa using hl)) (.cons rfl (.cons rfl .nil)) hsp) fun r s2 hq => ?_)
  cases r with
  | error e => exact hq.elim
  | ok fl =>
    cases fl with
    | ret z =>
      obtain ⟨y, H2, I2, rz, ez, ex⟩ := I.after hq
      subst ez
      cases rz
      refine ⟨c, rfl, .bl (!c), H2, I2, rfl, ?_⟩
      have q := k H2 ex
      rw [show (c != true) = !c by cases c <;> rfl] at q
      exact q
    | next => exact hq.elim
    | brk => exact hq.elim
    | cont => exact hq.elim
/-- repr(o), an own __repr__ -/
theorem call_reprE {sp : Sp} (F : GOk X.prog X.w X.K X.mg X.base n f fd ["self"] sp) (hs : PySem.W.findIn X.K (.ref C) "__repr__" = some (some (.ref f))) (hf : PySem.W.isFn X.K (.ref f) = true) (hb : Binds X.K fd ["self"] []) (hgu : X.A.guards = some []) (hr : Room (n + 1) X.A) :
    CallR X (.builtin "repr") (fun xs H Q => ∃ (a dx : Addr) (fs : List (Str × V)), xs = [.ref a] ∧ H a = some (.ins C dx fs) ∧ sp [.ref a] H (fun v H' => ∃ z, v = .str z ∧ Q (.str z) H') (fun _ _ _ => False)) := by
  intro pins s σ H xs us Q I r h
  obtain ⟨a, dx, fs, rfl, ha, hsp⟩ := h
  cases r with
  | cons r1 r2 =>
    cases r2
    cases r1
    obtain ⟨mA, J, _⟩ := ins_get I.hok ha
    obtain ⟨od, J, _⟩ := J.look
    obtain ⟨m, hF⟩ := I.fr
    refine PySem.W.repr_K hr.in1.units0 hF I.ok.mod.kin J hs hf ?_
    refine wpAny_call (codeAny_mono (F.run X.A.in1 X.stack s H ⟨[.ref a], []⟩ [.ref a] [.ref a] _ _ hgu hr.in1 I.env0.in1 (by simpa using hb s [.ref a] I.kIn rfl) (.cons rfl .nil) hsp) fun r s2 hq => ?_)
    cases r with
    | error e => exact hq.elim
    | ok fl =>
      cases fl with
      | ret z =>
        obtain ⟨y, H2, I2, rz, t, ez, q⟩ := I.after hq
        subst ez
        obtain ⟨tk, rfl⟩ := rz
        exact ⟨.str t, H2, I2, ⟨_, rfl⟩, q⟩
      | next => exact hq.elim
      | brk => exact hq.elim
      | cont => exact hq.elim
/-- {x!r}, x plain data -/
def tFmtT (K : PySem.W.Frag) (te : TE) : TE := fun σ H Q => te σ H fun x H1 => ∃ (a : Addr) (d : PyData), x = .ref a ∧ Dp K H1 x d ∧ d.showable = true ∧ d.hasDict = false ∧ d.depth ≤ 20 ∧ d.shown.length ≤ sizeLine ∧ Q (.str d.shown) H1
theorem pe_fmtT {e : Expr} {te : TE} {pos : Pos} (hgu : X.A.guards = some []) (hu : X.A.units + 64 < cLine) (he : PE X e te) : PE X (.FormattedValue e 114 none pos) (tFmtT X.K te) := by
  constructor
  intro pins s σ H Q I h
  refine wpAny_FormattedValue_repr (thn (he.run pins s σ H _ I h) fun v s1 hv => ?_)
  obtain ⟨x, H1, I1, r1, a, d, rfl, hd, hs, hn, hdep, hz, q⟩ := hv
  cases r1
  obtain ⟨as, rd⟩ := Dp.reads I1 d (.ref a) (.ref a) hd rfl
  refine pyReprObj_of_reads rd hs (PyData.noDict_hsm hn) hgu (by omega) (fun _ _ z => z) (fun h2 u tk keep => ?_) hz
  have I2 := I1.kept (t' := tk) keep
  exact wpAny_formatField_str ⟨.str d.shown, H1, I2, ⟨u, rfl⟩, q⟩ ⟨.str d.shown, H1, I2.tok _, ⟨_, rfl⟩, q⟩ hz
end
theorem Nice.shownLe {k B : Nat} {d : PyData} (h : Nice k B d) : d.shown.length ≤ 15 * B + 13 := by
  have q := PyData.shown_le 13 (by decide) d (PyData.leavesShort_of_canLay0 13 d h.lay h.ish)
  have := h.wt
  omega
end SE
namespace SE
open PySem PySem.Spec PyProof.Rows L2
abbrev sEq : Stmt := inClass sEffect 13
abbrev sRepr : Stmt := inClass sEffect 14
/-- what isinstance asks of the class -/
structure EI (K : PySem.W.Frag) (C : Addr) : Prop where
  ha : PySem.W.findIn K (.ref C) "__class__" = some (some (.builtin "object.__class__"))
  hn : PySem.W.specialIn K (.builtin "object.__class__") "__get__" = some (some (.builtin "getset_descriptor.__get__"))
  ht : PySem.W.takesIn K (.builtin "object.__class__") = some true
  hm : PySem.W.mroIn K C (.type "object") = some true
  ki : PySem.W.kitOne K (.ref C) (.ref C) = some true
/-- the parts of an effect as data -/
def dN : Eff → PyData
  | none => .none
  | some (xs, _, _) => .tuple (xs.map .str)
def dL : Eff → PyData
  | none => .none
  | some (_, ys, _) => .tuple (ys.map .str)
def dH : Eff → PyData
  | none => .none
  | some (_, _, p) => .int p
/-- an effect whose words are of items -/
def EffOk : Eff → Prop
  | none => True
  | some (xs, ys, p) => (∀ z ∈ xs, Item z) ∧ (∀ z ∈ ys, Item z) ∧ xs.length ≤ 1000 ∧ ys.length ≤ 1000 ∧ 0 ≤ p ∧ p ≤ 100000
theorem eff_eqv (a b : Eff) : (PyData.eqv (dN a) (dN b) && (PyData.eqv (dL a) (dL b) && PyData.eqv (dH a) (dH b))) = decide (a = b) := by
  cases a with
  | none =>
    cases b with
    | none => simp [dN, dL, dH, PyData.eqv]
    | some b =>
      obtain ⟨x, y, p⟩ := b
      simp [dN, dL, dH, PyData.eqv]
  | some a =>
    obtain ⟨x, y, p⟩ := a
    cases b with
    | none => simp [dN, dL, dH, PyData.eqv]
    | some b =>
      obtain ⟨x2, y2, p2⟩ := b
      show (PyData.eqv (.tuple (x.map .str)) (.tuple (x2.map .str)) && (PyData.eqv (.tuple (y.map .str)) (.tuple (y2.map .str)) && PyData.eqv (.int p) (.int p2))) = _
      rw [eqv_tupS, eqv_tupS]
      have e : PyData.eqv (.int p) (.int p2) = decide (p = p2) := by
        unfold PyData.eqv
        by_cases c : p = p2
        · subst c
          simp
        · simp [c]
      rw [e]
      by_cases c1 : x = x2 <;> by_cases c2 : y = y2 <;> by_cases c3 : p = p2 <;> simp [c1, c2, c3]
def shownE : Eff → Str
  | none => "Effect.never()"
  | some (xs, ys, p) => Str.empty ++ "Effect(" ++ (PyData.tuple (xs.map .str)).shown ++ ", " ++ (PyData.tuple (ys.map .str)).shown ++ ", peak=" ++ toString p ++ ")"
section
variable {P : Program} {w : World} {K : PySem.W.Frag} {mg : Str → Option Value} {base : Heap} {C : Addr}
theorem EffV.dp {H : Hp} {e : Addr} : ∀ {o : Eff}, EffV K C H e o → ∃ dx u v p, H e = some (.ins C dx (eF u v p)) ∧ Dp K H u (dN o) ∧ Dp K H v (dL o) ∧ Dp K H p (dH o)
  | none, h => by
    obtain ⟨dx, h1⟩ := NevAt.ex h
    exact ⟨dx, _, _, _, h1, .non, .non, .non⟩
  | some (_, _, _), h => by
    obtain ⟨dx, u, v, h1, h2, h3⟩ := EffAt.ex h
    exact ⟨dx, _, _, _, h1, .tup h2 (dp_strs _), .tup h3 (dp_strs _), .int _⟩
theorem EffOk.shaped : ∀ {o : Eff}, EffOk o → SeqAt.shaped (dN o) = true ∧ SeqAt.shaped (dL o) = true ∧ SeqAt.shaped (dH o) = true
  | none, _ => ⟨rfl, rfl, rfl⟩
  | some (_, _, _), h => ⟨(nice_tuple (nice_strs h.1)).shaped (by decide), (nice_tuple (nice_strs h.2.1)).shaped (by decide), rfl⟩
/-! ### __eq__ -/
def rEff (K : PySem.W.Frag) (C : Addr) (a b : Addr) (c : Bool) (H : Hp) : Prop := ∃ o1 o2, EffV K C H a o1 ∧ EffV K C H b o2 ∧ EffOk o1 ∧ EffOk o2 ∧ c = decide (o1 = o2)
theorem scEq : FnScope ["self", "other"] ["self", "other"] (defScope sEq) := ⟨rfl, rfl, rfl, by decide +kernel, rfl, by decide +kernel, by decide +kernel⟩
theorem ok_eq {f : Addr} {fd : FuncData} (F : Fun K "__eq__" "Effect.__eq__" sEq f fd) (T : EC K mg C) (TI : EI K C) (B : Blt mg) : FnOk P w K mg base CX0 1 f fd ["self", "other"] (spEqB (rEff K C)) := by
  refine F.ok scEq (fun vs H Q E h => ?_) (fun cdv A outer s H vs Q E hr h => ?_)
  · obtain ⟨a, b, c, rfl, _⟩ := h
    rfl
  · obtain ⟨a, b, c, rfl, ⟨o1, o2, h1, h2, k1, k2, rfl⟩, k⟩ := h
    obtain ⟨dx, u, v, p, i1, d1, d2, d3⟩ := h1.dp
    obtain ⟨dy, u2, v2, p2, i2, g1, g2, g3⟩ := h2.dp
    obtain ⟨s1, s2, s3⟩ := k1.shaped
    obtain ⟨t1, t2, t3⟩ := k2.shaped
    refine ⟨_, pss_one (ps_ret (pe_and (pe_callB call_isi (by rfl) B.isi (by decide +kernel) (pa_cons (pv 1) (pa_cons (pe_glob (v := .ref C) rfl T.mgE rfl) pa_nil)))
      (pe_and (pe_cmpR (op_eqD hr.units) (pe_fld (pv 0) rfl) (pe_fld (pv 1) rfl) (nomark _)) (pe_and (pe_cmpR (op_eqD hr.units) (pe_fld (pv 0) rfl) (pe_fld (pv 1) rfl) (nomark _)) (pe_one (pe_cmpR (op_eqD hr.units) (pe_fld (pv 0) rfl) (pe_fld (pv 1) rfl) (nomark _))))))), ?_⟩
    have fin := k H (Same.refl H)
    rw [← eff_eqv] at fin
    refine ⟨_, rfl, _, .ref C, .ref C, .ref C, true, rfl, .own C, .base (.ins i2 T.cl TI.ha TI.hn TI.ht TI.hm), TI.ki, true, rfl, iteT ?_⟩
    refine ⟨_, rfl, a, C, dx, _, _, rfl, i1, T.cl, T.nN, eF_needs _ _ _, _, rfl, b, C, dy, _, _, rfl, i2, T.cl, T.nN, eF_needs _ _ _, dN o1, dN o2, d1, g1, s1, t1, _, rfl, ?_⟩
    cases e1 : PyData.eqv (dN o1) (dN o2) with
    | false =>
      rw [e1, Bool.false_and] at fin
      exact iteF fin
    | true =>
      rw [e1, Bool.true_and] at fin
      refine iteT ⟨_, rfl, a, C, dx, _, _, rfl, i1, T.cl, T.nL, eF_leaves _ _ _, _, rfl, b, C, dy, _, _, rfl, i2, T.cl, T.nL, eF_leaves _ _ _, dL o1, dL o2, d2, g2, s2, t2, _, rfl, ?_⟩
      cases e2 : PyData.eqv (dL o1) (dL o2) with
      | false =>
        rw [e2, Bool.false_and] at fin
        exact iteF fin
      | true =>
        rw [e2, Bool.true_and] at fin
        exact iteT ⟨_, rfl, a, C, dx, _, _, rfl, i1, T.cl, T.nH, eF_high _ _ _, _, rfl, b, C, dy, _, _, rfl, i2, T.cl, T.nH, eF_high _ _ _, dH o1, dH o2, d3, g3, s3, t3, fin⟩
/-! ### __repr__ -/
def spRepr (K : PySem.W.Frag) (C : Addr) : Sp := fun vs H Q _ => ∃ (e : Addr) (o : Eff), vs = [.ref e] ∧ EffV K C H e o ∧ EffOk o ∧ Q (.str (shownE o)) H
theorem scRp : FnScope ["self"] ["self"] (defScope sRepr) := ⟨rfl, rfl, rfl, by decide +kernel, rfl, by decide +kernel, by decide +kernel⟩
theorem ok_repr {f : Addr} {fd : FuncData} (F : Fun K "__repr__" "Effect.__repr__" sRepr f fd) (T : EC K mg C) : GOk P w K mg base 1 f fd ["self"] (spRepr K C) := by
  obtain ⟨oc, od, kV, doc, pm, an, cv, ct, osl, rfl, look, hcode⟩ := F.ex
  refine gok_of look hcode scRp (fun vs H Q E h => ?_) (fun A out s H vs Q E hgu hr h => ?_)
  · obtain ⟨e, o, rfl, _⟩ := h
    rfl
  · obtain ⟨e, o, rfl, h, ok, k⟩ := h
    have body : ∃ t, PSs (cxOf CX0 P w K mg base ["self"] "Effect.__repr__" (defScope sRepr) f cv A out s H E).nox (defBody sRepr) t ∧ t { nx := fun _ H2 => Q .non H2, rt := Q } (start ["self"] [.ref e]) H := by
      refine ⟨_, pss_cons (ps_if (pt_cmpR op_isN (pe_fld (pv 0) rfl) pe_non (nomark _)) (pss_one (ps_ret pe_str)) pss_nil)
        (pss_one (ps_ret (pe_joined (.cons pe_str (.cons (pe_fmtT hgu hr.units (pe_fld (pv 0) rfl)) (.cons pe_str (.cons (pe_fmtT hgu hr.units (pe_fld (pv 0) rfl)) (.cons pe_str (.cons (pe_fmtR (pe_fld (pv 0) rfl)) (.cons pe_str .nil)))))))))), ?_⟩
      cases o with
      | none =>
        obtain ⟨dx, h1⟩ := NevAt.ex h
        exact ⟨_, rfl, e, C, dx, _, _, rfl, h1, T.cl, T.nN, eF_needs _ _ _, rfl, true, rfl, iteT k⟩
      | some o =>
        obtain ⟨xs, ys, p⟩ := o
        obtain ⟨dx, u, v, h1, h2, h3⟩ := EffAt.ex h
        obtain ⟨i1, i2, l1, l2, p0, p1⟩ := ok
        have n1 := nice_tuple (nice_strs i1)
        have n2 := nice_tuple (nice_strs i2)
        have z1 := n1.shownLe
        have z2 := n2.shownLe
        rw [List.length_map] at z1 z2
        have tl : (toString p : Str).length ≤ 13 := by
          have := PyData.shown_int_le (i := p) (by omega)
          exact this
        have big : ∀ m : Nat, m ≤ 400000 → m ≤ sizeLine := fun m hm => by
          rw [sizeLine_eq]
          omega
        have w0 : (Str.empty : Str).length = 0 := by decide +kernel
        have w1 : ("Effect(" : Str).length = 7 := by decide +kernel
        have w2 : (", " : Str).length = 2 := by decide +kernel
        have w3 : (", peak=" : Str).length = 7 := by decide +kernel
        have w4 : (")" : Str).length = 1 := by decide +kernel
        have lg : p.natAbs.log2 < 1920 := PySem.Flt.log2_lt_of (by decide) (Nat.lt_of_lt_of_le (show p.natAbs < 2 ^ 17 by show _ < 131072; omega) (Nat.pow_le_pow_right (by decide) (by decide)))
        refine ⟨_, rfl, e, C, dx, _, _, rfl, h1, T.cl, T.nN, eF_needs _ _ _, rfl, false, rfl, iteF ?_⟩
        refine ⟨_, rfl, big _ ?_, _, rfl, e, C, dx, _, _, rfl, h1, T.cl, T.nN, eF_needs _ _ _, u, _, rfl, .tup h2 (dp_strs xs), n1.sh, n1.nd, Nat.le_trans n1.dep (by decide), big _ (by omega), _, rfl, big _ ?_, _, rfl, big _ ?_, _, rfl, e, C, dx, _, _, rfl, h1, T.cl, T.nL, eF_leaves _ _ _, v, _, rfl, .tup h3 (dp_strs ys), n2.sh, n2.nd, Nat.le_trans n2.dep (by decide), big _ (by omega), _, rfl, big _ ?_, _, rfl, big _ ?_, _, rfl, e, C, dx, _, _, rfl, h1, T.cl, T.nH, eF_high _ _ _, .inr ⟨p, rfl, lg, _, rfl, big _ ?_, _, rfl, big _ ?_, k⟩⟩
        all_goals (simp only [len_add, w0, w1, w2, w3, w4]; omega)
    obtain ⟨t, a, b⟩ := body
    exact ⟨t, a.nox, b⟩
end
end SE
namespace SE
open PySem PySem.Spec PyProof.Rows L2
/-! ### the effect of a repeated sequence -/
def cw : List Str → List Str → Option (List Str × List Str)
  | [], R => some (R, [])
  | a :: P, [] => some ([], a :: P)
  | a :: P, b :: R => if a = b then cw P R else none
def mx (a b : Int) : Int := if b > a then b else a
def hg (A : Prt) : Int := (A.2.1.length : Int) - (A.1.length : Int)
theorem cw_nil (P : List Str) : cw P [] = some ([], P) := by
  cases P <;> rfl
theorem cw_eq : ∀ P R : List Str, cw P R = if P.take (min P.length R.length) = R.take (min P.length R.length) then some (R.drop (min P.length R.length), P.drop (min P.length R.length)) else none
  | [], R => by simp [cw]
  | a :: P, [] => by simp [cw]
  | a :: P, b :: R => by
    have ih := cw_eq P R
    unfold cw
    have e : min (a :: P).length (b :: R).length = min P.length R.length + 1 := by
      rw [List.length_cons, List.length_cons]
      omega
    rw [e, List.take_succ_cons, List.take_succ_cons, List.drop_succ_cons, List.drop_succ_cons]
    by_cases c : a = b
    · subst c
      rw [if_pos rfl, ih]
      simp
    · rw [if_neg c, if_neg (fun z => c (List.cons.inj z).1)]
theorem comp_cw (A B : Prt) : comp A B = (cw A.2.1 B.1).map fun z => (A.1 ++ z.1, B.2.1 ++ z.2, mx A.2.2 (hg A + B.2.2)) := by
  unfold comp
  rw [cw_eq]
  split
  · rfl
  · rfl
theorem assoc1 (A E : Prt) (s : Stp) : ((comp A (partM s)).bind fun D => comp D E) = (comp (partM s) E).bind (comp A) := by
  obtain ⟨x, y, p⟩ := A
  obtain ⟨u, v, q⟩ := E
  obtain ⟨b, z⟩ := s
  cases b with
  | true =>
    have e1 : partM (true, z) = ([], [z], 1) := rfl
    rw [e1]
    simp only [comp_cw, cw_nil, Option.map_some, Option.bind_some]
    cases u with
    | nil =>
      simp only [comp_cw, cw_nil, Option.map_some, Option.bind_some, hg, List.append_nil, List.nil_append]
      refine congrArg some (Prod.ext rfl (Prod.ext (by simp) ?_))
      simp only [List.length_append, List.length_cons, List.length_nil, mx]
      grind
    | cons t r =>
      simp only [cw]
      by_cases c : z = t
      · subst c
        simp only [List.cons_append, List.nil_append, cw, if_true, Option.map_some, Option.bind_some, List.append_nil, comp_cw]
        cases cw y r with
        | none => rfl
        | some g =>
          simp only [Option.map_some, hg]
          refine congrArg some (Prod.ext rfl (Prod.ext rfl ?_))
          simp only [List.length_append, List.length_cons, List.length_nil, mx]
          grind
      · simp [cw, c]
  | false =>
    have e1 : partM (false, z) = ([z], [], 0) := rfl
    rw [e1]
    simp only [comp_cw, cw, Option.map_some, Option.bind_some, List.append_nil]
    cases y with
    | nil =>
      simp only [cw, Option.map_some, Option.bind_some, hg, List.append_nil]
      refine congrArg some (Prod.ext (by simp) (Prod.ext (by simp) ?_))
      simp only [List.length_append, List.length_cons, List.length_nil, mx]
      grind
    | cons t r =>
      simp only [List.cons_append, List.nil_append, cw, cw_nil]
      by_cases c : t = z
      · subst c
        simp only [if_true, Option.map_some, Option.bind_some, List.append_nil, List.nil_append]
        cases cw r u with
        | none => rfl
        | some g =>
          simp only [Option.map_some, hg]
          refine congrArg some (Prod.ext rfl (Prod.ext rfl ?_))
          simp only [List.length_append, List.length_cons, List.length_nil, mx]
          grind
      · simp [c]
theorem joinF_cons (A B : Prt) (r : List Prt) : joinF A (B :: r) = (comp A B).bind fun D => joinF D r := by
  rw [joinF]
  cases comp A B <;> rfl
theorem comp_one (s : Stp) : comp ([], [], 0) (partM s) = some (partM s) := by
  obtain ⟨b, z⟩ := s
  cases b <;> simp [comp_cw, partM, cw, hg, mx]
theorem cw_len : ∀ (P R : List Str) (z : List Str × List Str), cw P R = some z → (z.2.length : Int) - z.1.length = P.length - R.length
  | [], R, z, h => by
    cases h
    show ((0 : Nat) : Int) - R.length = ((0 : Nat) : Int) - R.length
    rfl
  | a :: P, [], z, h => by
    cases h
    rfl
  | a :: P, b :: R, z, h => by
    unfold cw at h
    split at h
    · have ih := cw_len P R z h
      rw [List.length_cons, List.length_cons]
      omega
    · cases h
theorem hg_comp {A B D : Prt} (h : comp A B = some D) : hg D = hg A + hg B := by
  rw [comp_cw] at h
  cases e : cw A.2.1 B.1 with
  | none =>
    rw [e] at h
    cases h
  | some z =>
    rw [e] at h
    cases h
    have := cw_len _ _ _ e
    unfold hg
    simp only [List.length_append]
    omega
theorem pk_comp {A B D : Prt} (h : comp A B = some D) : D.2.2 = mx A.2.2 (hg A + B.2.2) := by
  rw [comp_cw] at h
  cases e : cw A.2.1 B.1 with
  | none =>
    rw [e] at h
    cases h
  | some z =>
    rw [e] at h
    cases h
    rfl
theorem hgp (s : Stp) : hg (partM s) ≤ (partM s).2.2 ∧ 0 ≤ (partM s).2.2 ∧ (partM s).2.2 ≤ 1 := by
  obtain ⟨b, z⟩ := s
  cases b
  · exact ⟨(by show ((0 : Nat) : Int) - ((1 : Nat) : Int) ≤ 0; decide), (by show (0 : Int) ≤ 0; decide), (by show (0 : Int) ≤ 1; decide)⟩
  · exact ⟨(by show ((1 : Nat) : Int) - ((0 : Nat) : Int) ≤ 1; decide), (by show (0 : Int) ≤ 1; decide), (by show (1 : Int) ≤ 1; decide)⟩
theorem joinF_eff : ∀ (ss : List Stp) (A : Prt), hg A ≤ A.2.2 → joinF A (ss.map partM) = (effM ss).bind (comp A)
  | [], A, h => by
    obtain ⟨x, y, p⟩ := A
    show some (x, y, p) = comp (x, y, p) ([], [], 0)
    rw [comp_cw, cw_nil]
    simp only [Option.map_some, List.append_nil, List.nil_append]
    refine congrArg some (Prod.ext rfl (Prod.ext rfl ?_))
    have h' : hg (x, y, p) ≤ p := h
    simp only [mx]
    split <;> omega
  | s :: ss, A, h => by
    have ih := joinF_eff ss
    rw [List.map_cons, joinF_cons]
    have hs := hgp s
    have e : effM (s :: ss) = (effM ss).bind (comp (partM s)) := by
      rw [← ih _ hs.1]
      unfold effM joinM
      rw [List.map_cons, joinF_cons, comp_one, Option.bind_some]
    rw [e]
    have e2 : ((comp A (partM s)).bind fun D => joinF D (ss.map partM)) = (comp A (partM s)).bind fun D => (effM ss).bind (comp D) := by
      cases q : comp A (partM s) with
      | none => rfl
      | some D =>
        rw [Option.bind_some, Option.bind_some]
        refine ih D ?_
        rw [hg_comp q, pk_comp q]
        unfold mx
        split <;> omega
    rw [e2]
    cases effM ss with
    | none =>
      simp only [Option.bind_none]
      cases comp A (partM s) <;> rfl
    | some E => exact assoc1 A E s
theorem joinF_app : ∀ (ps qs : List Prt) (A : Prt), joinF A (ps ++ qs) = (joinF A ps).bind fun D => joinF D qs
  | [], qs, A => rfl
  | B :: ps, qs, A => by
    rw [List.cons_append, joinF_cons, joinF_cons]
    cases comp A B with
    | none => rfl
    | some D =>
      rw [Option.bind_some, Option.bind_some]
      exact joinF_app ps qs D
/-- what the effect of a sequence keeps to -/
theorem joinF_ok : ∀ (ss : List Stp) (A D : Prt), PrtOk A → (∀ s ∈ ss, Item s.2) → joinF A (ss.map partM) = some D → PrtOk D ∧ D.1.length + D.2.1.length ≤ A.1.length + A.2.1.length + ss.length ∧ D.2.2 ≤ A.2.2 + ss.length
  | [], A, D, h, _, e => by
    cases e
    refine ⟨h, by simp, by simp⟩
  | s :: ss, A, D, h, hI, e => by
    rw [List.map_cons, joinF_cons] at e
    cases q : comp A (partM s) with
    | none =>
      rw [q] at e
      cases e
    | some B =>
      rw [q, Option.bind_some] at e
      have ok := comp_ok h (partM_ok (hI s List.mem_cons_self)) q
      have ih := joinF_ok ss B D ok.1 (fun z m => hI z (List.mem_cons_of_mem _ m)) e
      have pk := pk_comp q
      have hs := hgp s
      have l1 : (partM s).1.length + (partM s).2.1.length = 1 := by
        unfold partM
        split <;> rfl
      have hh : hg A ≤ A.2.2 := h.h1
      refine ⟨ih.1, ?_, ?_⟩
      · rw [List.length_cons]
        omega
      · have i3 := ih.2.2
        rw [pk] at i3
        have : mx A.2.2 (hg A + (partM s).2.2) ≤ A.2.2 + 1 := by
          unfold mx
          split <;> omega
        rw [List.length_cons]
        omega
theorem effM_ok {ss : List Stp} {D : Prt} (hI : ∀ s ∈ ss, Item s.2) (h : effM ss = some D) : PrtOk D ∧ D.1.length + D.2.1.length ≤ ss.length ∧ D.2.2 ≤ ss.length := by
  have q := joinF_ok ss ([], [], 0) D ⟨fun z m => (by cases m), fun z m => (by cases m), Int.le_refl _, Int.le_refl _⟩ hI h
  refine ⟨q.1, ?_, ?_⟩
  · have := q.2.1
    simpa using this
  · have := q.2.2
    simpa using this
theorem effM_app {ss tt : List Stp} (hI : ∀ s ∈ ss, Item s.2) : effM (ss ++ tt) = (effM ss).bind fun A => (effM tt).bind (comp A) := by
  unfold effM joinM
  rw [List.map_append, joinF_app]
  cases q : joinF ([], [], 0) (ss.map partM) with
  | none => rfl
  | some A =>
    rw [Option.bind_some, Option.bind_some]
    exact joinF_eff tt A (effM_ok hI q).1.h1
theorem cw_self_left : ∀ (w r : List Str), cw w (w ++ r) = some (r, [])
  | [], r => rfl
  | a :: w, r => by
    rw [List.cons_append, cw, if_pos rfl]
    exact cw_self_left w r
theorem cw_self_right : ∀ (w r : List Str), cw (w ++ r) w = some ([], r)
  | [], r => cw_nil r
  | a :: w, r => by
    rw [List.cons_append, cw, if_pos rfl]
    exact cw_self_right w r
theorem effM_EffOk {ss : List Stp} (hI : ∀ s ∈ ss, Item s.2) (hl : ss.length ≤ 1000) : EffOk (effM ss) := by
  cases h : effM ss with
  | none => exact trivial
  | some o =>
    obtain ⟨x, y, p⟩ := o
    obtain ⟨a, b, c⟩ := effM_ok hI h
    have b' : x.length + y.length ≤ ss.length := b
    have c' : p ≤ ss.length := c
    exact ⟨a.i1, a.i2, by omega, by omega, a.h0, by omega⟩
end SE
namespace SE
open PySem PySem.Spec PyProof.Rows L2
/-! ### effects that are combined: the mathematics' side -/
def parts : List Eff → Option (List Prt)
  | [] => some []
  | none :: _ => none
  | some B :: r => (parts r).map fun q => B :: q
def thenM (os : List Eff) : Eff := (parts os).bind joinM
def revP (A : Prt) : Prt := (A.2.1, A.1, A.2.2 - hg A)
def revE (o : Eff) : Eff := o.map revP
theorem parts_none : ∀ {os : List Eff}, none ∈ os → parts os = none
  | [], h => by cases h
  | none :: _, _ => rfl
  | some B :: r, h => by
    have q : none ∈ r := by
      rcases List.mem_cons.mp h with e | e
      · cases e
      · exact e
    rw [parts, parts_none q]
    rfl
theorem parts_some : ∀ (ps : List Prt), parts (ps.map some) = some ps
  | [] => rfl
  | B :: r => by rw [List.map_cons, parts, parts_some r]; rfl
theorem then_none {os : List Eff} (h : none ∈ os) : thenM os = none := by
  unfold thenM
  rw [parts_none h]
  rfl
theorem eff_nil : effM [] = some ([], [], 0) := rfl
theorem then_go : ∀ (sss : List (List Stp)) (A : Prt) (ss : List Stp), (∀ s ∈ ss, Item s.2) → (∀ tt ∈ sss, ∀ s ∈ tt, Item s.2) → effM ss = some A → (parts (sss.map effM)).bind (joinF A) = effM (ss ++ sss.flatten)
  | [], A, ss, _, _, h => by
    show some A = _
    rw [List.flatten_nil, List.append_nil, h]
  | tt :: r, A, ss, hI, hJ, h => by
    have hT : ∀ s ∈ tt, Item s.2 := hJ tt (List.mem_cons_self ..)
    have hR : ∀ t ∈ r, ∀ s ∈ t, Item s.2 := fun t m => hJ t (List.mem_cons_of_mem _ m)
    have hst : ∀ s ∈ ss ++ tt, Item s.2 := fun s m => by
      rcases List.mem_append.mp m with q | q
      · exact hI s q
      · exact hT s q
    have e1 : effM (ss ++ tt) = (effM tt).bind (comp A) := by rw [effM_app hI, h]; rfl
    rw [List.flatten_cons, ← List.append_assoc, List.map_cons]
    cases q : effM tt with
    | none =>
      rw [q] at e1
      rw [effM_app hst, e1]
      rfl
    | some B =>
      rw [q] at e1
      have e2 : effM (ss ++ tt) = comp A B := e1
      rw [parts]
      cases c : comp A B with
      | none =>
        rw [effM_app hst, e2, c]
        cases parts (r.map effM) with
        | none => rfl
        | some ps =>
          show joinF A (B :: ps) = none
          rw [joinF_cons, c]
          rfl
      | some D =>
        rw [← then_go r D (ss ++ tt) hst hR (by rw [e2, c])]
        cases parts (r.map effM) with
        | none => rfl
        | some ps =>
          show joinF A (B :: ps) = joinF D ps
          rw [joinF_cons, c]
          rfl
theorem then_eff {sss : List (List Stp)} (h : ∀ tt ∈ sss, ∀ s ∈ tt, Item s.2) : thenM (sss.map effM) = effM sss.flatten := by
  have := then_go sss ([], [], 0) [] (fun s m => by cases m) h eff_nil
  exact this
theorem cw_swap : ∀ P R : List Str, cw R P = (cw P R).map fun z => (z.2, z.1)
  | [], R => by rw [cw_nil]; rfl
  | a :: P, [] => rfl
  | a :: P, b :: R => by
    rw [cw, cw]
    by_cases e : a = b
    · rw [if_pos e, if_pos e.symm]
      exact cw_swap P R
    · rw [if_neg e, if_neg (Ne.symm e)]
      rfl
theorem rev_comp (A B : Prt) : revE (comp A B) = comp (revP B) (revP A) := by
  cases h : comp A B with
  | none =>
    rw [comp_cw] at h
    rw [comp_cw]
    show none = (cw B.1 A.2.1).map _
    rw [cw_swap A.2.1 B.1]
    cases q : cw A.2.1 B.1 with
    | none => rfl
    | some z => rw [q] at h; cases h
  | some D =>
    have hh := hg_comp h
    have hp := pk_comp h
    rw [comp_cw] at h
    rw [comp_cw]
    show some (revP D) = (cw B.1 A.2.1).map _
    rw [cw_swap A.2.1 B.1]
    cases q : cw A.2.1 B.1 with
    | none => rw [q] at h; cases h
    | some z =>
      rw [q] at h
      have e : (A.1 ++ z.1, B.2.1 ++ z.2, mx A.2.2 (hg A + B.2.2)) = D := Option.some.inj h
      show some (D.2.1, D.1, D.2.2 - hg D) = some (B.2.1 ++ z.2, A.1 ++ z.1, mx (B.2.2 - hg B) (hg (revP B) + (A.2.2 - hg A)))
      have e3 : D.2.2 - hg D = mx (B.2.2 - hg B) (hg (revP B) + (A.2.2 - hg A)) := by
        rw [hp, hh]
        have r1 : hg (revP B) = - hg B := by
          unfold hg revP
          dsimp only
          omega
        rw [r1]
        unfold mx
        split <;> split <;> omega
      rw [e3, ← e]
theorem rev_part (s : Stp) : revP (partM s) = partM (flip1 s) := by
  obtain ⟨b, z⟩ := s
  cases b <;> rfl
theorem back_cons (s : Stp) (ss : List Stp) : revM (s :: ss) = revM ss ++ [(flip1 s)] := by
  unfold revM
  rw [List.reverse_cons, List.map_append]
  rfl
theorem back_mem {ss : List Stp} {s : Stp} (h : s ∈ revM ss) : ∃ t ∈ ss, s.2 = t.2 := by
  unfold revM at h
  obtain ⟨t, m, rfl⟩ := List.mem_map.mp h
  exact ⟨t, List.mem_reverse.mp m, rfl⟩
theorem back_item {ss : List Stp} (hI : ∀ s ∈ ss, Item s.2) : ∀ s ∈ revM ss, Item s.2 := fun s m => by
  obtain ⟨t, m2, e⟩ := back_mem m
  rw [e]
  exact hI t m2
theorem back_len (ss : List Stp) : (revM ss).length = ss.length := by
  unfold revM
  rw [List.length_map, List.length_reverse]
theorem eff_one (s : Stp) : effM [s] = some (partM s) := by
  show joinF ([], [], 0) [partM s] = _
  rw [joinF_cons, comp_one]
  rfl
theorem rev_eff : ∀ (ss : List Stp), (∀ s ∈ ss, Item s.2) → revE (effM ss) = effM (revM ss)
  | [], _ => rfl
  | s :: ss, hI => by
    have h1 : ∀ t ∈ [s], Item t.2 := fun t m => by
      rw [List.mem_singleton.mp m]
      exact hI s (List.mem_cons_self ..)
    have h2 : ∀ t ∈ ss, Item t.2 := fun t m => hI t (List.mem_cons_of_mem _ m)
    have ih := rev_eff ss h2
    have e0 : effM (s :: ss) = (effM ss).bind (comp (partM s)) := by
      have := effM_app (tt := ss) h1
      rw [eff_one] at this
      exact this
    rw [back_cons, effM_app (back_item h2), ← ih, e0, eff_one]
    cases effM ss with
    | none => rfl
    | some B =>
      show revE (comp (partM s) B) = comp (revP B) (partM (flip1 s))
      rw [rev_comp, rev_part]
theorem rev_rev (o : Eff) : revE (revE o) = o := by
  cases o with
  | none => rfl
  | some A =>
    obtain ⟨x, y, p⟩ := A
    show some (x, y, p - hg (x, y, p) - hg (revP (x, y, p))) = some (x, y, p)
    have : p - hg (x, y, p) - hg (revP (x, y, p)) = p := by
      unfold hg revP
      dsimp only
      omega
    rw [this]
theorem comp_unit {B : Prt} (h : 0 ≤ B.2.2) : comp ([], [], 0) B = some B := by
  rw [comp_cw]
  show some ([] ++ B.1, B.2.1 ++ [], mx 0 (0 + B.2.2)) = some B
  have : mx 0 (0 + B.2.2) = B.2.2 := by
    unfold mx
    split <;> omega
  rw [List.append_nil, this]
  rfl
theorem comp_rev {A : Prt} (h : PrtOk A) : comp A (revP A) = some (A.1, A.1, A.2.2) := by
  rw [comp_cw]
  have e := cw_self_left A.2.1 []
  rw [List.append_nil] at e
  show (cw A.2.1 A.2.1).map _ = _
  rw [e]
  show some (A.1 ++ [], A.1 ++ [], mx A.2.2 (hg A + (A.2.2 - hg A))) = _
  have : mx A.2.2 (hg A + (A.2.2 - hg A)) = A.2.2 := by
    unfold mx
    split <;> omega
  rw [List.append_nil, this]
theorem comp_back {A : Prt} : comp (A.1, A.1, A.2.2) A = some A := by
  rw [comp_cw]
  have e := cw_self_left A.1 []
  rw [List.append_nil] at e
  show (cw A.1 A.1).map _ = _
  rw [e]
  show some (A.1 ++ [], A.2.1 ++ [], mx A.2.2 (hg (A.1, A.1, A.2.2) + A.2.2)) = _
  have : mx A.2.2 (hg (A.1, A.1, A.2.2) + A.2.2) = A.2.2 := by
    unfold mx hg
    dsimp only
    split <;> omega
  rw [List.append_nil, List.append_nil, this]
theorem then_rev2 {A : Prt} (h : PrtOk A) : thenM [some A, some (revP A)] = some (A.1, A.1, A.2.2) := by
  show joinF ([], [], 0) [A, revP A] = _
  rw [joinF_cons, comp_unit h.h0]
  show joinF A [revP A] = _
  rw [joinF_cons, comp_rev h]
  rfl
theorem then_rev3 {ss : List Stp} (hI : ∀ s ∈ ss, Item s.2) : thenM [effM ss, revE (effM ss), effM ss] = effM ss := by
  cases h : effM ss with
  | none => rfl
  | some A =>
    have ok := (effM_ok hI h).1
    show joinF ([], [], 0) [A, revP A, A] = _
    rw [joinF_cons, comp_unit ok.h0]
    show joinF A [revP A, A] = _
    rw [joinF_cons, comp_rev ok]
    show joinF (A.1, A.1, A.2.2) [A] = _
    rw [joinF_cons, comp_back]
    rfl
end SE
namespace SE
open PySem PySem.Spec PyProof.Rows L2
section
variable {P : Program} {w : World} {K : PySem.W.Frag} {mg : Str → Option Value} {base : Heap} {C : Addr}
/-! ### _law_items -/
def nm10 : List Str := ["a", "b", "ab", "ba", "aa", "z", "top", "item", "x", "zzzzzzzz"]
theorem nm10_ok {z : Str} (h : z ∈ nm10) : Item z := by
  have q : ∀ y ∈ nm10, (decide (1 ≤ y.length) && decide (y.length ≤ 8) && y.cps.toList.all fun c => decide (97 ≤ c) && decide (c ≤ 122)) = true := by decide +kernel
  have e := q z h
  simp only [Bool.and_eq_true, decide_eq_true_eq, List.all_eq_true] at e
  exact ⟨e.1.1, e.1.2, e.2⟩
def spItems2 : Sp := fun xs H Q _ => ∃ (p : Addr) (n : Int), xs = [.ref p, .int n] ∧ Pool H p ∧ 0 ≤ n ∧ n ≤ 10 ∧
  ∀ (l : Addr) (zs : List Str) (H' : Hp), But p H H' → Pool H' p → H l = none → l ≠ p → H' l = some (.lst (zs.map V.str)) → zs.length = n.toNat → (∀ z ∈ zs, Item z) → Q (.ref l) H'
theorem scIt2 : FnScope ["_law_pool_here", "_law_many", "_law_names", "_law_at"] ["_law_pool_here", "_law_many"] (defScope sItems) := ⟨rfl, rfl, rfl, by decide +kernel, rfl, by decide +kernel, by decide +kernel⟩
theorem has_items2 (D : Def K mg "_law_items" sItems) (GT : Has P w K mg base "_law_take" 1 ["_law_pool_here", "_law_many"] [] spTake) : Has P w K mg base "_law_items" 2 ["_law_pool_here", "_law_many"] [] spItems2 := by
  refine has_of D scIt2 (fun _ _ _ _ _ _ us hl => match us, hl with | [_, _], _ => rfl) (fun xs H Q E h => ?_) (fun f cv A out s H xs Q E hr h => ?_)
  · obtain ⟨p, n, rfl, _⟩ := h
    rfl
  · obtain ⟨p, n, rfl, hp, h0, h1, k⟩ := h
    refine ⟨_, pss_cons (ps_set (i := 2) scIt2.nd rfl (.inl rfl) (pe_lst (pa_cons pe_str (pa_cons pe_str (pa_cons pe_str (pa_cons pe_str (pa_cons pe_str (pa_cons pe_str (pa_cons pe_str (pa_cons pe_str (pa_cons pe_str (pa_cons pe_str pa_nil))))))))))))
      (pss_cons (ps_set (i := 3) scIt2.nd rfl (.inl rfl) (pe_has GT hr (pa_cons (pv 0) (pa_cons pe_int pa_nil))))
      (pss_one (ps_ret (pe_slice sl_list (pe_op op_cat (pe_slice sl_list (pv 2) (po_some (pv 3)) po_none) (pe_slice sl_list (pv 2) po_none (po_some (pv 3)))) po_none (po_some (pv 1)))))), ?_⟩
    refine ⟨(by show 10 ≤ sizeLine; decide), fun a ha => ?_⟩
    have ap : a ≠ p := hp.free ha
    have e10 : (upd H a (.lst [V.str "a", .str "b", .str "ab", .str "ba", .str "aa", .str "z", .str "top", .str "item", .str "x", .str "zzzzzzzz"])) a = some (.lst (nm10.map V.str)) := upd_same
    have b0 : But p H (upd H a (.lst [V.str "a", .str "b", .str "ab", .str "ba", .str "aa", .str "z", .str "top", .str "item", .str "x", .str "zzzzzzzz"])) := .of (Same.new ha)
    have p0 : Pool (upd H a (.lst [V.str "a", .str "b", .str "ab", .str "ba", .str "aa", .str "z", .str "top", .str "item", .str "x", .str "zzzzzzzz"])) p := hp.upd ap
    generalize upd H a (.lst [V.str "a", .str "b", .str "ab", .str "ba", .str "aa", .str "z", .str "top", .str "item", .str "x", .str "zzzzzzzz"]) = H1 at e10 b0 p0 ⊢
    refine ⟨_, rfl, p, 10, rfl, p0, by decide, by decide, fun r H2 b2 p2 r0 r1 => ?_⟩
    have e2 := b2 _ _ ap e10
    refine ⟨_, rfl, _, rfl, r, rfl, a, _, rfl, .of e2, fun c hc => ?_⟩
    have s3 := Same.new (o := .lst (cutV (nm10.map V.str) (some r) none)) hc
    refine ⟨_, rfl, _, rfl, r, rfl, a, _, rfl, .of (s3 _ _ e2), fun d hd => ?_⟩
    have bb : But p H H2 := b0.trans b2
    have cp : c ≠ p := p2.free hc
    have nc : H c = none := bb.none cp hc
    have dp : d ≠ p := (p2.upd cp).free hd
    have nd : H d = none := (bb.free nc).none dp hd
    rw [cut_map, cut_map]
    have i1 : HT.sIx nm10.length 0 (some r) = r.toNat := by
      unfold HT.sIx
      dsimp only
      rw [if_neg (by omega)]
      exact Nat.min_eq_left (by show r.toNat ≤ 10; omega)
    have i2 : HT.sIx nm10.length nm10.length (some r) = r.toNat := by
      unfold HT.sIx
      dsimp only
      rw [if_neg (by omega)]
      exact Nat.min_eq_left (by show r.toNat ≤ 10; omega)
    have i3 : HT.sIx nm10.length 0 none = 0 := rfl
    have i4 : HT.sIx nm10.length nm10.length none = nm10.length := rfl
    rw [i1, i2, i3, i4]
    generalize hA : (nm10.drop r.toNat).take (nm10.length - r.toNat) = As
    generalize hB : (nm10.drop 0).take (r.toNat - 0) = Bs
    have lA : As.length = 10 - r.toNat := by
      rw [← hA, List.length_take, List.length_drop]
      show min (10 - r.toNat) (10 - r.toNat) = _
      omega
    have lB : Bs.length = r.toNat := by
      rw [← hB, List.length_take, List.length_drop]
      show min (r.toNat - 0) (10 - 0) = _
      omega
    refine ⟨c, d, As.map V.str, Bs.map V.str, rfl, rfl, ?_, upd_same, ?_, fun g hg => ?_⟩
    · rw [upd_ne (ne_of_none upd_same hd)]
      exact upd_same
    · rw [List.length_map, List.length_map, sizeLine_eq]
      omega
    refine ⟨_, rfl, n, rfl, g, _, rfl, .of upd_same, fun l hl => ?_⟩
    rw [← List.map_append, cut_map]
    have j1 : HT.sIx (As ++ Bs).length 0 none = 0 := rfl
    have j2 : HT.sIx (As ++ Bs).length (As ++ Bs).length (some n) = n.toNat := by
      unfold HT.sIx
      dsimp only
      rw [if_neg (by omega)]
      exact Nat.min_eq_left (by rw [List.length_append]; omega)
    rw [j1, j2, List.drop_zero, Nat.sub_zero]
    have f1 := bb.free (o := .lst (As.map V.str)) nc
    have f2 := f1.free (o := .lst (Bs.map V.str)) nd
    have gp : g ≠ p := ((p2.upd cp).upd dp).free hg
    have ng : H g = none := f2.none gp hg
    have f3 := f2.free (o := .lst ((As ++ Bs).map V.str)) ng
    have lp' : l ≠ p := (((p2.upd cp).upd dp).upd gp).free hl
    have nl : H l = none := (f2.free ng).none lp' hl
    refine k l ((As ++ Bs).take n.toNat) _ (f3.free nl) ((((p2.upd cp).upd dp).upd gp).upd lp') nl lp' upd_same ?_ fun z hz => ?_
    · rw [List.length_take, List.length_append]
      omega
    · rcases List.mem_append.mp (List.mem_of_mem_take hz) with q | q
      · rw [← hA] at q
        exact nm10_ok (cut_mem q)
      · rw [← hB] at q
        exact nm10_ok (cut_mem q)
end
end SE
namespace SE
open PySem PySem.Spec PyProof.Rows L2
structure SI (p l f h : Addr) (zs : List Str) (H H3 : Hp) (xs : List V) (ss : List Stp) (hs : List Str) : Prop where
  b : But p H H3
  pl : Pool H3 p
  it : H3 l = some (.lst (zs.map V.str))
  fl : H3 f = some (.lst xs)
  st : StepsH H3 xs ss
  sz : ∀ s ∈ ss, s.2 ∈ zs
  hl : H3 h = some (.lst (hs.map V.str))
  hz : ∀ z ∈ hs, z ∈ zs
  lp : l ≠ p
  fp : f ≠ p
  fn : H f = none
  hp : h ≠ p
  hn : H h = none
  hf : h ≠ f
  hnl : h ≠ l
  lf : l ≠ f
section
variable {p l f h : Addr} {zs : List Str} {H H3 : Hp} {xs : List V} {ss : List Stp} {hs : List Str}
theorem SI.new (a : SI p l f h zs H H3 xs ss hs) {q : Addr} {o : HO} (hq : H3 q = none) : SI p l f h zs H (upd H3 q o) xs ss hs := by
  have qp : q ≠ p := a.pl.free hq
  exact ⟨a.b.free (a.b.none qp hq), a.pl.upd qp, by rw [upd_ne (ne_of_none a.it hq)]; exact a.it, by rw [upd_ne (ne_of_none a.fl hq)]; exact a.fl, a.st.upd (fun ys z => by rw [hq] at z; cases z), a.sz,
    by rw [upd_ne (ne_of_none a.hl hq)]; exact a.hl, a.hz, a.lp, a.fp, a.fn, a.hp, a.hn, a.hf, a.hnl, a.lf⟩
theorem SI.draw (a : SI p l f h zs H H3 xs ss hs) {H4 : Hp} (b : But p H3 H4) (q : Pool H4 p) : SI p l f h zs H H4 xs ss hs :=
  ⟨a.b.trans b, q, b _ _ a.lp a.it, b _ _ a.fp a.fl, a.st.but a.pl b, a.sz, b _ _ a.hp a.hl, a.hz, a.lp, a.fp, a.fn, a.hp, a.hn, a.hf, a.hnl, a.lf⟩
theorem SI.app (a : SI p l f h zs H H3 xs ss hs) {t : Addr} {c : Bool} {z : Str} (ht : H3 t = some (.tup [.str (act c), .str z])) (hz : z ∈ zs) : SI p l f h zs H (upd H3 f (.lst (xs ++ [.ref t]))) (xs ++ [.ref t]) (ss ++ [(c, z)]) hs := by
  have tf : t ≠ f := ne_of ht a.fl (by intro w; cases w)
  refine ⟨a.b.free a.fn, a.pl.upd a.fp, by rw [upd_ne a.lf]; exact a.it, upd_same, (a.st.upd (fun ys w => by rw [a.fl] at w; cases w)).snoc ⟨t, rfl, by rw [upd_ne tf]; exact ht⟩, fun s hs' => ?_, by rw [upd_ne a.hf]; exact a.hl, a.hz, a.lp, a.fp, a.fn, a.hp, a.hn, a.hf, a.hnl, a.lf⟩
  rcases List.mem_append.mp hs' with q | q
  · exact a.sz s q
  · rw [List.mem_singleton.mp q]
    exact hz
theorem SI.hset (a : SI p l f h zs H H3 xs ss hs) {ys : List Str} (hy : ∀ z ∈ ys, z ∈ zs) : SI p l f h zs H (upd H3 h (.lst (ys.map V.str))) xs ss ys :=
  ⟨a.b.free a.hn, a.pl.upd a.hp, by rw [upd_ne (Ne.symm a.hnl)]; exact a.it, by rw [upd_ne (Ne.symm a.hf)]; exact a.fl, a.st.upd (fun us w => by rw [a.hl] at w; cases w), a.sz, upd_same, hy, a.lp, a.fp, a.fn, a.hp, a.hn, a.hf, a.hnl, a.lf⟩
theorem SI.hnew (a : SI p l f h zs H H3 xs ss hs) {q : Addr} {ys : List Str} (hq : H3 q = none) (hy : ∀ z ∈ ys, z ∈ zs) : SI p l f q zs H (upd H3 q (.lst (ys.map V.str))) xs ss ys := by
  have b := a.new (o := .lst (ys.map V.str)) hq
  have qp : q ≠ p := a.pl.free hq
  exact ⟨b.b, b.pl, b.it, b.fl, b.st, b.sz, upd_same, hy, a.lp, a.fp, a.fn, qp, a.b.none qp hq, Ne.symm (ne_of_none a.fl hq), Ne.symm (ne_of_none a.it hq), a.lf⟩
end
section
variable {P : Program} {w : World} {K : PySem.W.Frag} {mg : Str → Option Value} {base : Heap}
/-! ### _law_steps -/
def spSteps2 : Sp := fun xs H Q _ => ∃ (p l : Addr) (m : Int) (zs : List Str), xs = [.ref p, .ref l, .int m] ∧ Pool H p ∧ l ≠ p ∧ H l = some (.lst (zs.map V.str)) ∧ zs ≠ [] ∧ zs.length ≤ 100 ∧ (∀ z ∈ zs, Item z) ∧ 0 ≤ m ∧ m ≤ 100 ∧
  ∀ (t : Addr) (us : List V) (ss : List Stp) (H' : Hp), But p H H' → Pool H' p → H t = none → t ≠ p → H' t = some (.lst us) → StepsH H' us ss → (ss.length : Int) ≤ m → (∀ s ∈ ss, s.2 ∈ zs) → Q (.ref t) H'
abbrev nSteps2 : List Str := ["_law_pool_here", "_law_items_here", "_law_most", "_law_found", "_law_stack", "_law_turn", "_law_item"]
theorem scSteps2 : FnScope nSteps2 ["_law_pool_here", "_law_items_here", "_law_most"] (defScope sSteps) := ⟨rfl, rfl, rfl, by decide +kernel, rfl, by decide +kernel, by decide +kernel⟩
theorem has_steps2 (D : Def K mg "_law_steps" sSteps) (GT : Has P w K mg base "_law_take" 1 ["_law_pool_here", "_law_many"] [] spTake) (mr : mg "range" = none) (ml : mg "len" = none) : Has P w K mg base "_law_steps" 2 ["_law_pool_here", "_law_items_here", "_law_most"] [] spSteps2 := by
  refine has_of D scSteps2 (fun _ _ _ _ _ _ us hl => match us, hl with | [_, _, _], _ => rfl) (fun xs H Q E h => ?_) (fun f cv A out s H xs Q E hr h => ?_)
  · obtain ⟨p, l, m, zs, rfl, _⟩ := h
    rfl
  · obtain ⟨p, l, m, zs, rfl, hp, lp, hl, hne, hz, hI, h0, h1, k⟩ := h
    refine ⟨_, pss_cons (ps_set (i := 3) scSteps2.nd rfl (.inl rfl) (pe_lst pa_nil))
      (pss_cons (ps_set (i := 4) scSteps2.nd rfl (.inl rfl) (pe_lst pa_nil))
      (pss_cons (ps_for PassesOwn.never rfl (pi_range1 (by rfl) mr (pa_cons (pe_has GT hr (pa_cons (pv 0) (pa_cons (pe_op op_add (pv 2) pe_int) pa_nil))) pa_nil)) (pg_name (i := 5) scSteps2.nd rfl (.inl rfl))
        (pss_cons (ps_set (i := 6) scSteps2.nd rfl (.inl rfl) (pe_ix ix_list (pv 1) (pe_has GT hr (pa_cons (pv 0) (pa_cons (pe_callB call_len_seq (by rfl) ml PySem.boot_len (pa_cons (pv 1) pa_nil)) pa_nil))) (fun _ _ => rfl)))
        (pss_one (ps_if (pt_cmpR op_eq (pe_has GT hr (pa_cons (pv 0) (pa_cons pe_int pa_nil))) pe_int (nomark _))
          (pss_cons (ps_expr (pe_bm PySem.F.plainAttrs_list PySem.F.slot_list_append PySem.F.type_list_append mt_append (pv 4) (pa_cons (pv 6) pa_nil)))
          (pss_one (ps_expr (pe_bm PySem.F.plainAttrs_list PySem.F.slot_list_append PySem.F.type_list_append mt_append (pv 3) (pa_cons (pe_tup (pa_cons pe_str (pa_cons (pv 6) pa_nil))) pa_nil)))))
          (Evl.pss_cut (ps_if (pt_cut (PW.pt (pw_and (pt_cmpR (op_neD hr.units) (pv 4) (pe_lst pa_nil) (nomark _)) (pw_and1 (pt_cmpR op_gt (pe_has GT hr (pa_cons (pv 0) (pa_cons pe_int pa_nil))) pe_int (nomark _))))))
            (pss_one (ps_set (i := 6) scSteps2.nd rfl (.inl rfl) (pe_bm0 PySem.F.plainAttrs_list PySem.F.slot_list_pop PySem.F.type_list_pop mt_pop (pv 4)))) pss_nil)
          (pss_one (ps_expr (pe_bm PySem.F.plainAttrs_list PySem.F.slot_list_append PySem.F.type_list_append mt_append (pv 3) (pa_cons (pe_tup (pa_cons pe_str (pa_cons (pv 6) pa_nil))) pa_nil))))))))
      ) (pss_one (ps_ret (pv 3))))), ?_⟩
    refine ⟨Nat.zero_le _, fun g hg => ⟨Nat.zero_le _, fun h hh => ?_⟩⟩
    have gp : g ≠ p := hp.free hg
    have hh0 : H h = none := (Same.new hg).free hh
    have hgne : g ≠ h := ne_of_none upd_same hh
    have ofz : ∀ {hs : List Str}, (∀ z ∈ hs, z ∈ zs) → SeqAt.shaped (.list (hs.map PyData.str)) = true := fun {hs} q => (nice_list (nice_strs fun z m => hI z (q z m))).shaped (by decide)
    have a0 : SI p l g h zs H (upd (upd H g (.lst [])) h (.lst [])) [] [] [] := by
      refine ⟨(But.of (Same.new hg)).free hh0, (hp.upd gp).upd (hp.free hh0), ?_, ?_, .nil, fun s q => (by cases q), upd_same, fun z q => (by cases q), lp, gp, hg, hp.free hh0, hh0, Ne.symm hgne, Ne.symm (ne_of_none hl hh0), ne_of_none hl hg⟩
      · rw [upd_ne (ne_of_none hl hh0), upd_ne (ne_of_none hl hg)]
        exact hl
      · rw [upd_ne hgne]
        exact upd_same
    refine ⟨_, rfl, _, rfl, m, 1, rfl, rfl, p, m + 1, rfl, a0.pl, by omega, by omega, fun n H1 b1 p1 n0 n1 => ?_⟩
    have a1 := a0.draw b1 p1
    refine ⟨n, rfl, by omega, by omega, for_range (lo := 0) (n := n.toNat) (fun i σ H3 => ∃ (xs : List V) (ss : List Stp) (hs : List Str) (y5 y6 : Option V), σ = [some (.ref p), some (.ref l), some (.int m), some (.ref g), some (.ref h), y5, y6] ∧ SI p l g h zs H H3 xs ss hs ∧ ss.length = i ∧ xs.length = i ∧ hs.length ≤ i) ⟨[], [], [], none, none, rfl, a1, rfl, rfl, Nat.le_refl _⟩ ?_ ?_⟩
    · rintro i σ H3 hi ⟨xs, ss, hs, y5, y6, rfl, a, hsl, hxl, hhl⟩
      have hzp : 0 < zs.length := List.length_pos_iff.mpr hne
      refine ⟨_, rfl, _, rfl, _, rfl, l, _, rfl, .inl (.of a.it), p, _, rfl, a.pl, ?_, ?_, fun r2 H5 b5 p5 s0 s1 => ?_⟩
      · rw [List.length_map]
        omega
      · rw [List.length_map]
        omega
      rw [List.length_map] at s1
      obtain ⟨z, zm, az⟩ := pick_str s0 s1
      have a5 := a.draw b5 p5
      refine ⟨l, _, r2, _, rfl, rfl, .of a5.it, az, ?_⟩
      refine ⟨_, rfl, p, 2, rfl, a5.pl, by decide, by decide, fun r H6 b6 p6 r0 r1 => ⟨rfl, _, rfl, ite2 (fun c => ?_) (fun c => ?_)⟩⟩
      · have a6 := a5.draw b6 p6
        refine ⟨.ref h, rfl, .inl ⟨rfl, _, .of a6.hl⟩, _, rfl, h, _, _, rfl, rfl, a6.hl, ?_, ?_⟩
        · rw [List.length_map]
          exact small1000 (by omega)
        have a7 : SI p l g h zs H (upd H6 h (.lst ((hs ++ [z]).map V.str))) xs ss (hs ++ [z]) := a6.hset fun y mm => by
          rcases List.mem_append.mp mm with q | q
          · exact a6.hz y q
          · rw [List.mem_singleton.mp q]
            exact zm
        rw [List.map_append] at a7
        refine ⟨.ref g, rfl, .inl ⟨rfl, _, .of a7.fl⟩, _, rfl, (by show 2 ≤ sizeLine; decide), fun t ht => ⟨g, _, _, rfl, rfl, (a7.new ht).fl, ?_, ?_⟩⟩
        · rw [hxl]
          exact small1000 (by omega)
        refine ⟨_, _, _, _, _, rfl, (a7.new ht).app (c := true) upd_same zm, ?_, ?_, ?_⟩
        · rw [List.length_append, hsl]
          rfl
        · rw [List.length_append, hxl]
          rfl
        · rw [List.length_append]
          show hs.length + 1 ≤ i + 1
          omega
      · have a6 := a5.draw b6 p6
        refine ⟨fun σ H7 => ∃ (hs2 : List Str) (z2 : Str), z2 ∈ zs ∧ hs2.length ≤ i ∧ σ = [some (.ref p), some (.ref l), some (.int m), some (.ref g), some (.ref h), some (.int (0 + (i : Nat))), some (.str z2)] ∧ SI p l g h zs H H7 xs ss hs2, ?_, ?_⟩
        · refine ⟨fun b H7 => SI p l g h zs H H7 xs ss hs ∧ (b = true → hs ≠ []), ?_, ?_⟩
          · refine ⟨_, rfl, Nat.zero_le _, fun q hq => ⟨.list (hs.map .str), .list (([] : List Str).map .str), .lst (.of (a6.new hq).hl) (dp_strs hs), .lst (.of upd_same) .nil, ofz a6.hz, ofz (fun z w => (by cases w)), _, rfl, ?_⟩⟩
            rw [eqv_listS]
            have a7 := a6.new (o := .lst []) hq
            by_cases e : hs = []
            · rw [decide_eq_true e]
              exact iteF ⟨a7, fun e => (by cases e)⟩
            · rw [decide_eq_false e]
              refine iteT ⟨_, rfl, p, 12, rfl, a7.pl, by decide, by decide, fun r3 H8 b8 p8 r30 r31 => ⟨_, 0, rfl, rfl, _, rfl, a7.draw b8 p8, fun _ => e⟩⟩
          · rintro b H7 ⟨a7, hb⟩
            cases b with
            | true =>
              have hs0 : hs ≠ [] := hb rfl
              have hlast : (hs.map V.str)[(hs.map V.str).length - 1]? = some (.str (hs.getLast hs0)) := by
                rw [List.length_map, List.getElem?_map, ← List.getLast?_eq_getElem?, List.getLast?_eq_getLast hs0]
                rfl
              have hmem : hs.getLast hs0 ∈ zs := a7.hz _ (List.getLast_mem hs0)
              have a8 : SI p l g h zs H (upd H7 h (.lst (hs.dropLast.map V.str))) xs ss hs.dropLast := a7.hset fun z m => a7.hz z ((List.dropLast_sublist hs).subset m)
              refine iteT ⟨.ref h, rfl, .inl ⟨rfl, _, .of a7.hl⟩, h, _, _, rfl, rfl, a7.hl, hlast, ?_⟩
              rw [← List.map_dropLast]
              exact ⟨_, _, hmem, by rw [List.length_dropLast]; omega, rfl, a8⟩
            | false => exact iteF ⟨hs, z, zm, hhl, rfl, a7⟩
        · rintro σ H7 ⟨hs2, z2, zm2, hl2, rfl, a7⟩
          refine ⟨.ref g, rfl, .inl ⟨rfl, _, .of a7.fl⟩, _, rfl, (by show 2 ≤ sizeLine; decide), fun t ht => ⟨g, _, _, rfl, rfl, (a7.new ht).fl, ?_, ?_⟩⟩
          · rw [hxl]
            exact small1000 (by omega)
          refine ⟨_, _, _, _, _, rfl, (a7.new ht).app (c := false) upd_same zm2, ?_, ?_, by omega⟩
          · rw [List.length_append, hsl]
            rfl
          · rw [List.length_append, hxl]
            rfl
    · rintro σ H3 ⟨xs, ss, hs, y5, y6, rfl, a, hsl, hxl, hhl⟩
      exact ⟨_, rfl, k g xs ss H3 a.b a.pl hg gp a.fl a.st (by omega) a.sz⟩
end
end SE
/-! Plain data in which empty dicts may stand: its kinds, ==, in, and repr of every kind. -/
namespace SE
open PySem PySem.Spec PyProof.Rows L2
mutual
inductive DpX (K : PySem.W.Frag) (H : Hp) : V → PyData → Prop
  | non : DpX K H .non .none
  | bl (b : Bool) : DpX K H (.bl b) (.bool b)
  | int (i : Int) : DpX K H (.int i) (.int i)
  | str (x : Str) : DpX K H (.str x) (.str x)
  | lst {a : Addr} {xs : List V} {ds : List PyData} : SqL K H a xs → DpXs K H xs ds → DpX K H (.ref a) (.list ds)
  | tup {a : Addr} {xs : List V} {ds : List PyData} : SqT K H a xs → DpXs K H xs ds → DpX K H (.ref a) (.tuple ds)
  | emp {a : Addr} : H a = some (.dK []) → DpX K H (.ref a) (.dict [])
inductive DpXs (K : PySem.W.Frag) (H : Hp) : List V → List PyData → Prop
  | nil : DpXs K H [] []
  | cons {v : V} {vs : List V} {d : PyData} {ds : List PyData} : DpX K H v d → DpXs K H vs ds → DpXs K H (v :: vs) (d :: ds)
end
section
variable {K : PySem.W.Frag} {H H' : Hp}
mutual
theorem DpX.same (s : Same H H') : ∀ (d : PyData) (v : V), DpX K H v d → DpX K H' v d
  | .none, _, h => by cases h; exact .non
  | .bool b, _, h => by cases h; exact .bl b
  | .int i, _, h => by cases h; exact .int i
  | .str x, _, h => by cases h; exact .str x
  | .list ds, _, h => by
    cases h with
    | lst a b => exact .lst (Same.seq s a) (DpXs.same s ds _ b)
  | .tuple ds, _, h => by
    cases h with
    | tup a b => exact .tup (Same.tup s a) (DpXs.same s ds _ b)
  | .dict kvs, _, h => by
    cases h with
    | emp a => exact .emp (s _ _ a)
theorem DpXs.same (s : Same H H') : ∀ (ds : List PyData) (vs : List V), DpXs K H vs ds → DpXs K H' vs ds
  | [], _, h => by cases h; exact .nil
  | d :: ds, _, h => by
    cases h with
    | cons a b => exact .cons (DpX.same s d _ a) (DpXs.same s ds _ b)
end
theorem DpXs.at : ∀ {vs : List V} {ds : List PyData} {i : Nat} {v : V}, DpXs K H vs ds → vs[i]? = some v → ∃ d, ds[i]? = some d ∧ DpX K H v d
  | _, _, 0, v, .cons a b, h => by cases h; exact ⟨_, rfl, a⟩
  | _, _, i + 1, v, .cons a b, h => by
    obtain ⟨d, h1, h2⟩ := DpXs.at b h
    exact ⟨d, h1, h2⟩
theorem DpXs.len : ∀ {vs : List V} {ds : List PyData}, DpXs K H vs ds → vs.length = ds.length
  | _, _, .nil => rfl
  | _, _, .cons a b => by rw [List.length_cons, List.length_cons, DpXs.len b]
end
section
variable {X : Cx} {pins : List (Addr × Obj)} {σ : L2.St} {H : Hp} {s : Shared}
theorem emp_obj (I : Inv X pins σ H s) {a : Addr} (e : H a = some (.dK [])) : (a == sysModules) = false ∧ ∃ o n, s.heap.get? a = some o ∧ o.cls = .type "dict" ∧ o.data = .dict #[] n := by
  obtain ⟨_, hd, vs, rel, o, es, ep, h1, h2, h3, h4, h5, h6⟩ := dk_of I.hok e
  cases rel
  have : es = #[] := by
    have q : es.toList = [] := by
      cases hq : es.toList with
      | nil => rfl
      | cons x r => rw [hq] at h5; cases h5
    exact Array.toList_eq_nil_iff.mp q
  subst this
  exact ⟨hd, o, ep, h1, h2.1, h3⟩
mutual
theorem DpX.reads (I : Inv X pins σ H s) : ∀ (d : PyData) (v : V) (u : Value), DpX X.K H v d → RelV v u → ∃ as, Reads s.heap u d as
  | .none, _, _, h, r => by
    cases h
    cases r
    exact ⟨_, Reads.none⟩
  | .bool b, _, _, h, r => by
    cases h
    cases r
    exact ⟨_, Reads.bool b⟩
  | .int i, _, _, h, r => by
    cases h
    obtain ⟨t, rfl⟩ := r
    exact ⟨_, Reads.int i t⟩
  | .str x, _, _, h, r => by
    cases h
    obtain ⟨t, rfl⟩ := r
    exact ⟨_, Reads.str x t⟩
  | .list ds, _, _, h, r => by
    cases h with
    | lst hs ha =>
      cases r
      obtain ⟨its, rv, ⟨o, n, ho, hc, _, hd⟩, _⟩ := I.list hs
      obtain ⟨as, hr⟩ := DpXs.reads I ds _ its ha rv
      exact ⟨_, Reads.list ho hc hd hr⟩
  | .tuple ds, _, _, h, r => by
    cases h with
    | tup hs ha =>
      cases r
      obtain ⟨its, rv, ⟨o, ho, hc, n, hd⟩, _⟩ := I.tuple hs
      obtain ⟨as, hr⟩ := DpXs.reads I ds _ its ha rv
      exact ⟨_, Reads.tuple ho hc hd hr⟩
  | .dict _, _, _, h, r => by
    cases h with
    | emp e =>
      cases r
      obtain ⟨_, o, n, h1, h2, h3⟩ := emp_obj I e
      exact ⟨_, Reads.dict (kvs := []) h1 h2 h3 .nil .nil⟩
theorem DpXs.reads (I : Inv X pins σ H s) : ∀ (ds : List PyData) (vs : List V) (us : List Value), DpXs X.K H vs ds → Vals vs us → ∃ as, ReadsAll s.heap us ds as
  | [], _, _, h, r => by
    cases h
    cases r
    exact ⟨_, ReadsAll.nil⟩
  | d :: ds, _, _, h, r => by
    cases h with
    | cons h1 h2 =>
      cases r with
      | cons r1 r2 =>
        obtain ⟨as, q1⟩ := DpX.reads I d _ _ h1 r1
        obtain ⟨bs, q2⟩ := DpXs.reads I ds _ _ h2 r2
        exact ⟨_, ReadsAll.cons q1 q2⟩
end
mutual
theorem DpX.reprK (I : Inv X pins σ H s) : ∀ (d : PyData) (v : V) (u : Value), DpX X.K H v d → RelV v u → d.showable = true → d.shown.length ≤ sizeLine → ∃ bs, ReadAtMost s.heap d.depth bs ∧ ReprK X.prog X.w bs s.heap d.depth u d.shown
  | .none, _, _, h, r, _, _ => by
    cases h
    cases r
    exact ⟨[], (fun _ h => nomatch h), by simp only [PyData.shown]; exact .of_is ReprIs.none _ _ _⟩
  | .bool b, _, _, h, r, _, _ => by
    cases h
    cases r
    exact ⟨[], (fun _ h => nomatch h), by simp only [PyData.shown]; exact .of_is (ReprIs.bool b) _ _ _⟩
  | .int i, _, _, h, r, hs, _ => by
    cases h
    obtain ⟨t, rfl⟩ := r
    exact ⟨[], (fun _ h => nomatch h), by simp only [PyData.shown]; exact .of_is (ReprIs.int t (by simpa [PyData.showable] using hs)) _ _ _⟩
  | .str x, _, _, h, r, _, hz => by
    cases h
    obtain ⟨t, rfl⟩ := r
    exact ⟨[], (fun _ h => nomatch h), by simp only [PyData.shown]; exact .of_is (ReprIs.str x t (by simpa only [PyData.shown] using hz)) _ _ _⟩
  | .list ds, _, _, h, r, hs, hz => by
    cases h with
    | @lst a xs _ hs' ha =>
      cases r
      obtain ⟨its, rv, ⟨o, n, ho, hc, _, hd⟩, _⟩ := I.list hs'
      obtain ⟨as, hr⟩ := DpXs.reads I ds _ its ha rv
      have hz' : (listText (PyData.shownAll ds)).length ≤ sizeLine := by simpa only [PyData.shown] using hz
      obtain ⟨bs, hb, hk⟩ := DpXs.reprK I ds _ its ha rv (by simpa [PyData.showable] using hs) (fun t ht => Nat.le_trans (listText_mem_le ht) hz')
      have rr : Reads s.heap (.ref a) (.list ds) _ := .list ho hc hd hr
      have hna : a ∉ bs := not_mem_of_deeper rr (by simp only [PyData.depth]; omega) hb
      refine ⟨a :: bs, ReadAtMost.cons rr (by simp only [PyData.depth]; omega) hb, ?_⟩
      simp only [PyData.depth, PyData.shown]
      cases its with
      | nil =>
        cases hr
        simp only [PyData.shownAll, listText_nil]
        exact ReprK.listEmpty ho hc hd
      | cons x l => exact ReprK.list ho hc hd hna (by simpa using hk.length_eq) (fun i y e => hk.item i y (by simpa using e))
  | .tuple ds, _, _, h, r, hs, hz => by
    cases h with
    | @tup a xs _ hs' ha =>
      cases r
      obtain ⟨its, rv, ⟨o, ho, hc, n, hd⟩, _⟩ := I.tuple hs'
      obtain ⟨as, hr⟩ := DpXs.reads I ds _ its ha rv
      have hz' : (tupleText (PyData.shownAll ds)).length ≤ sizeLine := by simpa only [PyData.shown] using hz
      obtain ⟨bs, hb, hk⟩ := DpXs.reprK I ds _ its ha rv (by simpa [PyData.showable] using hs) (fun t ht => Nat.le_trans (tupleText_mem_le ht) hz')
      have rr : Reads s.heap (.ref a) (.tuple ds) _ := .tuple ho hc hd hr
      have hna : a ∉ bs := not_mem_of_deeper rr (by simp only [PyData.depth]; omega) hb
      refine ⟨a :: bs, ReadAtMost.cons rr (by simp only [PyData.depth]; omega) hb, ?_⟩
      simp only [PyData.depth, PyData.shown]
      exact ReprK.tuple ho hc hd hna hk
  | .dict _, _, _, h, r, _, hz => by
    cases h with
    | @emp a e =>
      cases r
      obtain ⟨hsys, o, n, h1, h2, h3⟩ := emp_obj I e
      have rr : Reads s.heap (.ref a) (.dict []) _ := .dict (kvs := []) h1 h2 h3 .nil .nil
      have h0 : ReadAtMost s.heap 0 [] := fun _ h => nomatch h
      refine ⟨[a], ReadAtMost.cons rr (by simp only [PyData.depth]; omega) h0, ?_⟩
      simp only [PyData.depth, PyData.shown, PyData.depthKv, PyData.shownKv]
      exact ReprK.dict h1 h2 h3 hsys (by simp) .nil
theorem DpXs.reprK (I : Inv X pins σ H s) : ∀ (ds : List PyData) (vs : List V) (us : List Value), DpXs X.K H vs ds → Vals vs us → PyData.showableAll ds = true → (∀ t ∈ PyData.shownAll ds, t.length ≤ sizeLine) →
    ∃ bs, ReadAtMost s.heap (PyData.depthAll ds) bs ∧ ReprAllK X.prog X.w bs s.heap (PyData.depthAll ds) us (PyData.shownAll ds)
  | [], _, _, h, r, _, _ => by
    cases h
    cases r
    exact ⟨[], (fun _ h => nomatch h), by simp only [PyData.shownAll]; exact .nil⟩
  | d :: ds, _, _, h, r, hs, hz => by
    cases h with
    | cons h1 h2 =>
      cases r with
      | cons r1 r2 =>
        have hs' : d.showable = true ∧ PyData.showableAll ds = true := by simpa [PyData.showableAll] using hs
        obtain ⟨b1, hb1, k1⟩ := DpX.reprK I d _ _ h1 r1 hs'.1 (hz _ (by simp only [PyData.shownAll]; exact List.mem_cons_self ..))
        obtain ⟨b2, hb2, k2⟩ := DpXs.reprK I ds _ _ h2 r2 hs'.2 (fun t ht => hz t (by simp only [PyData.shownAll]; exact List.mem_cons_of_mem _ ht))
        refine ⟨b1 ++ b2, ?_, ?_⟩
        · intro b hm
          simp only [PyData.depthAll]
          rcases List.mem_append.mp hm with hm | hm
          · obtain ⟨d', as', r', hd'⟩ := hb1 b hm
            exact ⟨d', as', r', Nat.le_trans hd' (Nat.le_max_left _ _)⟩
          · obtain ⟨d', as', r', hd'⟩ := hb2 b hm
            exact ⟨d', as', r', Nat.le_trans hd' (Nat.le_max_right _ _)⟩
        · simp only [PyData.depthAll, PyData.shownAll]
          exact .cons ((k1.more fun b hb => List.mem_append_left _ hb).level_le (Nat.le_max_left _ _)) (k2.more_le (fun b hb => List.mem_append_right _ hb) (Nat.le_max_right _ _))
end
end
section
variable {X : Cx}
def rEqX (K : PySem.W.Frag) : R2 := fun x y H Q => ∃ d e, DpX K H x d ∧ DpX K H y e ∧ SeqAt.shaped d = true ∧ SeqAt.shaped e = true ∧ Q (.bl (PyData.eqv d e)) H
def rNeX (K : PySem.W.Frag) : R2 := fun x y H Q => ∃ d e, DpX K H x d ∧ DpX K H y e ∧ SeqAt.shaped d = true ∧ SeqAt.shaped e = true ∧ Q (.bl (!PyData.eqv d e)) H
def rInX (K : PySem.W.Frag) : R2 := fun x y H Q => ∃ d ds, DpX K H x d ∧ DpX K H y (.list ds) ∧ SeqAt.shaped d = true ∧ SeqAt.shaped (.list ds) = true ∧ Q (.bl (ds.any fun z => PyData.eqv z d)) H
theorem op_eqX (hu : X.A.units + 64 < cLine) : OpR X (compareOp .Eq) (rEqX X.K) := by
  intro pins s σ H x y v u Q I rx ry h
  obtain ⟨d, e, hd, he, sd, se, q⟩ := h
  obtain ⟨as, r1⟩ := DpX.reads I d x v hd rx
  obtain ⟨bs, r2⟩ := DpX.reads I e y u he ry
  exact SeqAt.compareEq_shaped r1 r2 sd se hu ⟨.bl _, H, I, rfl, q⟩
theorem op_neX (hu : X.A.units + 64 < cLine) : OpR X (compareOp .NotEq) (rNeX X.K) := by
  intro pins s σ H x y v u Q I rx ry h
  obtain ⟨d, e, hd, he, sd, se, q⟩ := h
  obtain ⟨as, r1⟩ := DpX.reads I d x v hd rx
  obtain ⟨bs, r2⟩ := DpX.reads I e y u he ry
  exact SeqAt.compareNe_shaped r1 r2 sd se hu ⟨.bl _, H, I, rfl, q⟩
theorem op_inX (hu : X.A.units + 65 < cLine) : OpR X (compareOp .In) (rInX X.K) := by
  intro pins s σ H x y v u Q I rx ry h
  obtain ⟨d, ds, hd, he, sd, se, q⟩ := h
  obtain ⟨as, r1⟩ := DpX.reads I d x v hd rx
  obtain ⟨bs, r2⟩ := DpX.reads I (.list ds) y u he ry
  exact SeqAt.in_list_reads r2 r1 (SeqAt.canLay_of_shaped se) (SeqAt.canLay_of_shaped sd) (room_in_shaped sd hu) ⟨.bl _, H, I, rfl, q⟩
/-- the kind of such data -/
def tyD : PyData → String
  | .none => "NoneType"
  | .bool _ => "bool"
  | .int _ => "int"
  | .str _ => "str"
  | .list _ => "list"
  | .tuple _ => "tuple"
  | .dict _ => "dict"
theorem DpX.ty {K : PySem.W.Frag} {H : Hp} {v : V} {d : PyData} (h : DpX K H v d) : TyX K H v (.type (tyD d)) := by
  cases h with
  | non => exact .base .non
  | bl b => exact .base (.bl b)
  | int i => exact .base (.int i)
  | str x => exact .base (.str x)
  | lst h _ =>
    rcases h with (h | ⟨o, h⟩) | ⟨o, its, n, h1, h2, _⟩
    · exact .base (.lst h)
    · exact .base (.frz h)
    · exact .kList h1 h2
  | tup h _ =>
    rcases h with (h | ⟨o, h⟩) | ⟨o, its, n, h1, h2, _⟩
    · exact .base (.tup h)
    · exact .fTuple h
    · exact .kTuple h1 h2
  | emp h => exact .base (.dK h)
def isStr : PyData → Bool
  | .str _ => true
  | _ => false
def isTup : PyData → Bool
  | .tuple _ => true
  | _ => false
def isLst : PyData → Bool
  | .list _ => true
  | _ => false
theorem kit_str {K : PySem.W.Frag} : ∀ d : PyData, PySem.W.kitOne K (.type (tyD d)) (.type "str") = some (isStr d)
  | .none => kit_ty (show kitB "NoneType" "str" = some false by decide +kernel)
  | .bool _ => kit_ty (show kitB "bool" "str" = some false by decide +kernel)
  | .int _ => kit_ty (show kitB "int" "str" = some false by decide +kernel)
  | .str _ => kit_ty (show kitB "str" "str" = some true by decide +kernel)
  | .list _ => kit_ty (show kitB "list" "str" = some false by decide +kernel)
  | .tuple _ => kit_ty (show kitB "tuple" "str" = some false by decide +kernel)
  | .dict _ => kit_ty (show kitB "dict" "str" = some false by decide +kernel)
theorem kit_tup {K : PySem.W.Frag} : ∀ d : PyData, PySem.W.kitOne K (.type (tyD d)) (.type "tuple") = some (isTup d)
  | .none => kit_ty (show kitB "NoneType" "tuple" = some false by decide +kernel)
  | .bool _ => kit_ty (show kitB "bool" "tuple" = some false by decide +kernel)
  | .int _ => kit_ty (show kitB "int" "tuple" = some false by decide +kernel)
  | .str _ => kit_ty (show kitB "str" "tuple" = some false by decide +kernel)
  | .list _ => kit_ty (show kitB "list" "tuple" = some false by decide +kernel)
  | .tuple _ => kit_ty (show kitB "tuple" "tuple" = some true by decide +kernel)
  | .dict _ => kit_ty (show kitB "dict" "tuple" = some false by decide +kernel)
theorem kit_lst {K : PySem.W.Frag} : ∀ d : PyData, PySem.W.kitOne K (.type (tyD d)) (.type "list") = some (isLst d)
  | .none => kit_ty (show kitB "NoneType" "list" = some false by decide +kernel)
  | .bool _ => kit_ty (show kitB "bool" "list" = some false by decide +kernel)
  | .int _ => kit_ty (show kitB "int" "list" = some false by decide +kernel)
  | .str _ => kit_ty (show kitB "str" "list" = some false by decide +kernel)
  | .list _ => kit_ty (show kitB "list" "list" = some true by decide +kernel)
  | .tuple _ => kit_ty (show kitB "tuple" "list" = some false by decide +kernel)
  | .dict _ => kit_ty (show kitB "dict" "list" = some false by decide +kernel)
/-- repr(x), x such data of any kind -/
def rRepX (K : PySem.W.Frag) : List V → Hp → VK → Prop := fun xs H Q => ∃ (x : V) (d : PyData), xs = [x] ∧ DpX K H x d ∧ d.showable = true ∧ d.depth ≤ 20 ∧ d.shown.length ≤ sizeLine ∧ Q (.str d.shown) H
theorem call_repX (hgu : X.A.guards = some []) (hu : X.A.units + 64 < cLine) : CallR X (.builtin "repr") (rRepX X.K) := by
  intro pins s σ H xs us Q I r h
  obtain ⟨x, d, rfl, hd, hs, hdep, hz, q⟩ := h
  cases r with
  | cons r1 r2 =>
    cases r2
    rename_i u
    cases hd with
    | non =>
      cases r1
      simp only [PyData.shown] at q
      exact PySem.P.repr_of_none ⟨.str _, H, I.tok _, ⟨_, rfl⟩, q⟩
    | bl b =>
      cases r1
      simp only [PyData.shown] at q
      exact PySem.P.repr_of_bool ⟨.str _, H, I.tok _, ⟨_, rfl⟩, q⟩
    | int i =>
      obtain ⟨t, rfl⟩ := r1
      simp only [PyData.shown] at q
      exact PySem.P.repr_of_int (by simpa [PyData.showable] using hs) ⟨.str _, H, I.tok _, ⟨_, rfl⟩, q⟩
    | str z =>
      obtain ⟨t, rfl⟩ := r1
      simp only [PyData.shown] at q hz
      exact PySem.P.repr_of_str ⟨.str _, H, I.tok _, ⟨_, rfl⟩, q⟩ hz
    | @lst a xs ds hs' ha =>
      cases r1
      obtain ⟨its, rv, ⟨o, n, ho, hc, _, hdd⟩, _⟩ := I.list hs'
      obtain ⟨as, hr⟩ := DpXs.reads I ds _ its ha rv
      have hz' : (listText (PyData.shownAll ds)).length ≤ sizeLine := by simpa only [PyData.shown] using hz
      obtain ⟨bs, hb, hk⟩ := DpXs.reprK I ds _ its ha rv (by simpa [PyData.showable] using hs) (fun t ht => Nat.le_trans (listText_mem_le ht) hz')
      have rr : Reads s.heap (.ref a) (.list ds) _ := .list ho hc hdd hr
      have hna : a ∉ bs := not_mem_of_deeper rr (by simp only [PyData.depth]; omega) hb
      simp only [PyData.depth] at hdep
      simp only [PyData.shown] at q
      refine call_repr_slot (T := "list") (by omega) ⟨o, ho, hc⟩ PySem.F.slot_list_repr.toG ?_
      cases its with
      | nil =>
        cases hr
        simp only [PyData.shownAll, listText_nil] at q
        exact call_list_repr_empty ⟨o, ho, hc⟩ ho hdd ⟨_, _, rfl, .str _, H, I.tok _, ⟨_, rfl⟩, q⟩
      | cons y l =>
        exact call_list_reprK ho hc hdd hna (by simpa using hk.length_eq) (fun i y e => hk.item i y (by simpa using e)) (A := X.A.in1) hgu (fun b _ => Clear.nil b) (by show X.A.units + 1 + _ < cLine; omega) (fun _ _ z => z) (fun h' u tk keep => ⟨_, _, rfl, .str _, H, I.kept (t' := tk) keep, ⟨_, rfl⟩, q⟩) hz'
    | @tup a xs ds hs' ha =>
      cases r1
      obtain ⟨its, rv, ⟨o, ho, hc, n, hdd⟩, _⟩ := I.tuple hs'
      obtain ⟨as, hr⟩ := DpXs.reads I ds _ its ha rv
      have hz' : (tupleText (PyData.shownAll ds)).length ≤ sizeLine := by simpa only [PyData.shown] using hz
      obtain ⟨bs, hb, hk⟩ := DpXs.reprK I ds _ its ha rv (by simpa [PyData.showable] using hs) (fun t ht => Nat.le_trans (tupleText_mem_le ht) hz')
      have rr : Reads s.heap (.ref a) (.tuple ds) _ := .tuple ho hc hdd hr
      have hna : a ∉ bs := not_mem_of_deeper rr (by simp only [PyData.depth]; omega) hb
      simp only [PyData.depth] at hdep
      simp only [PyData.shown] at q
      refine call_repr_slot (T := "tuple") (by omega) ⟨o, ho, hc⟩ PySem.F.slot_tuple_repr ?_
      exact call_tuple_reprK ho hc hdd hna hk (A := X.A.in1) hgu (fun b _ => Clear.nil b) (by show X.A.units + 1 + _ < cLine; omega) (fun _ _ z => z) (fun h' u tk keep => ⟨_, _, rfl, .str _, H, I.kept (t' := tk) keep, ⟨_, rfl⟩, q⟩) hz'
    | @emp a e =>
      cases r1
      obtain ⟨hsys, o, n, h1, h2, h3⟩ := emp_obj I e
      have hz' : (dictText []).length ≤ sizeLine := by simpa only [PyData.shown, PyData.shownKv] using hz
      simp only [PyData.shown, PyData.shownKv] at q
      refine call_repr_slot (T := "dict") (by omega) ⟨o, h1, h2⟩ PySem.F.slot_dict_repr ?_
      exact call_dict_reprK (as := []) (d := 0) h1 h2 h3 hsys (by simp) .nil (A := X.A.in1) hgu (fun b _ => Clear.nil b) (by show X.A.units + 1 + _ < cLine; omega) (fun _ _ z => z) (fun h' u tk keep => ⟨_, _, rfl, .str _, H, I.kept (t' := tk) keep, ⟨_, rfl⟩, q⟩) hz'
end
end SE
namespace SE
open PySem PySem.Spec PyProof.Rows L2
/-! ### data whose dicts are empty -/
mutual
def layE : PyData → Bool
  | .none | .bool _ | .int _ => true
  | .str x => PyData.strOk x
  | .list xs | .tuple xs => layEAll xs
  | .dict kvs => kvs.isEmpty
def layEAll : List PyData → Bool
  | [] => true
  | x :: xs => layE x && layEAll xs
end
mutual
theorem layE_of : ∀ d : PyData, d.canLay0 = true → layE d = true
  | .none, _ => by simp only [layE]
  | .bool _, _ => by simp only [layE]
  | .int _, _ => by simp only [layE]
  | .str x, h => by simpa only [layE, PyData.canLay0] using h
  | .list xs, h => by
    simp only [layE]
    exact layEAll_of xs (by simpa only [PyData.canLay0] using h)
  | .tuple xs, h => by
    simp only [layE]
    exact layEAll_of xs (by simpa only [PyData.canLay0] using h)
  | .dict _, h => by simp only [PyData.canLay0] at h; exact nomatch h
theorem layEAll_of : ∀ xs : List PyData, PyData.canLayAll0 xs = true → layEAll xs = true
  | [], _ => by simp only [layEAll]
  | x :: xs, h => by
    have h' : x.canLay0 = true ∧ PyData.canLayAll0 xs = true := by simpa only [PyData.canLayAll0, Bool.and_eq_true] using h
    simp only [layEAll, Bool.and_eq_true]
    exact ⟨layE_of x h'.1, layEAll_of xs h'.2⟩
end
mutual
theorem leavesShort_of_layE : ∀ d : PyData, layE d = true → d.intsShort 13 = true → d.leavesShort 13 = true
  | .none, _, _ => rfl
  | .bool _, _, _ => rfl
  | .int i, _, h => by simpa only [PyData.leavesShort, PyData.intsShort] using h
  | .str x, hc, _ => PyData.leavesShort_of_canLay0 13 (.str x) (by simpa only [layE, PyData.canLay0] using hc) rfl
  | .list xs, hc, h => by
    simp only [PyData.leavesShort]
    exact leavesShortAll_of_layE xs (by simpa only [layE] using hc) (by simpa only [PyData.intsShort] using h)
  | .tuple xs, hc, h => by
    simp only [PyData.leavesShort]
    exact leavesShortAll_of_layE xs (by simpa only [layE] using hc) (by simpa only [PyData.intsShort] using h)
  | .dict kvs, hc, _ => by
    simp only [layE, List.isEmpty_iff] at hc
    rw [hc]
    rfl
theorem leavesShortAll_of_layE : ∀ xs : List PyData, layEAll xs = true → PyData.intsShortAll 13 xs = true → PyData.leavesShortAll 13 xs = true
  | [], _, _ => rfl
  | x :: xs, hc, h => by
    have hc' : layE x = true ∧ layEAll xs = true := by simpa only [layEAll, Bool.and_eq_true] using hc
    have h' : x.intsShort 13 = true ∧ PyData.intsShortAll 13 xs = true := by simpa only [PyData.intsShortAll, Bool.and_eq_true] using h
    simp only [PyData.leavesShortAll, Bool.and_eq_true]
    exact ⟨leavesShort_of_layE x hc'.1 h'.1, leavesShortAll_of_layE xs hc'.2 h'.2⟩
end
/-! ### small data -/
structure NX (k B : Nat) (d : PyData) : Prop where
  lay : layE d = true
  dep : d.depth ≤ k
  sh : d.showable = true
  ish : d.intsShort 13 = true
  wt : d.weight ≤ B
theorem NX.mono {k j B C : Nat} {d : PyData} (h : NX k B d) (hk : k ≤ j) (hB : B ≤ C) : NX j C d := ⟨h.lay, Nat.le_trans h.dep hk, h.sh, h.ish, Nat.le_trans h.wt hB⟩
theorem Nice.nx {k B : Nat} {d : PyData} (h : Nice k B d) : NX k B d := ⟨layE_of _ h.lay, h.dep, h.sh, h.ish, h.wt⟩
theorem nx_all {k B : Nat} : ∀ {ds : List PyData}, (∀ d ∈ ds, NX k B d) → layEAll ds = true ∧ PyData.depthAll ds ≤ k ∧ PyData.showableAll ds = true ∧ PyData.intsShortAll 13 ds = true ∧ PyData.weightAll ds ≤ ds.length * (B + 1)
  | [], _ => by
    refine ⟨?_, ?_, ?_, ?_, ?_⟩
    · simp only [layEAll]
    · simp only [PyData.depthAll]
      exact Nat.zero_le _
    · simp only [PyData.showableAll]
    · simp only [PyData.intsShortAll]
    · simp only [PyData.weightAll]
      exact Nat.zero_le _
  | d :: ds, h => by
    obtain ⟨a1, a2, a3, a5, a6⟩ := nx_all (ds := ds) fun x hx => h x (List.mem_cons_of_mem _ hx)
    have q := h d List.mem_cons_self
    refine ⟨?_, ?_, ?_, ?_, ?_⟩
    · simp only [layEAll, q.lay, a1, Bool.and_self]
    · simp only [PyData.depthAll]
      exact Nat.max_le.mpr ⟨q.dep, a2⟩
    · simp only [PyData.showableAll, q.sh, a3, Bool.and_self]
    · simp only [PyData.intsShortAll, q.ish, a5, Bool.and_self]
    · simp only [PyData.weightAll, List.length_cons]
      have := q.wt
      rw [Nat.add_mul]
      omega
theorem nx_list {k B : Nat} {ds : List PyData} (h : ∀ d ∈ ds, NX k B d) : NX (k + 1) (ds.length * (B + 1)) (.list ds) := by
  obtain ⟨a1, a2, a3, a5, a6⟩ := nx_all h
  exact ⟨by simp only [layE]; exact a1, by simp only [PyData.depth]; omega, by simp only [PyData.showable]; exact a3, by simp only [PyData.intsShort]; exact a5, by simp only [PyData.weight]; exact a6⟩
theorem nx_tuple {k B : Nat} {ds : List PyData} (h : ∀ d ∈ ds, NX k B d) : NX (k + 1) (ds.length * (B + 1)) (.tuple ds) := by
  obtain ⟨a1, a2, a3, a5, a6⟩ := nx_all h
  exact ⟨by simp only [layE]; exact a1, by simp only [PyData.depth]; omega, by simp only [PyData.showable]; exact a3, by simp only [PyData.intsShort]; exact a5, by simp only [PyData.weight]; exact a6⟩
theorem all_elem {k B : Nat} : ∀ {ds : List PyData}, layEAll ds = true → PyData.depthAll ds ≤ k → PyData.showableAll ds = true → PyData.intsShortAll 13 ds = true → PyData.weightAll ds ≤ B → (∀ d ∈ ds, NX k B d) ∧ ds.length ≤ B
  | [], _, _, _, _, _ => ⟨fun d m => (by cases m), Nat.zero_le _⟩
  | d :: ds, h1, h2, h3, h4, h5 => by
    simp only [layEAll, Bool.and_eq_true] at h1
    simp only [PyData.depthAll] at h2
    simp only [PyData.showableAll, Bool.and_eq_true] at h3
    simp only [PyData.intsShortAll, Bool.and_eq_true] at h4
    simp only [PyData.weightAll] at h5
    have m2 := Nat.max_le.mp h2
    obtain ⟨q1, q2⟩ := all_elem (k := k) (B := B - 1) h1.2 m2.2 h3.2 h4.2 (by omega)
    refine ⟨fun x m => ?_, by rw [List.length_cons]; omega⟩
    rcases List.mem_cons.mp m with e | e
    · rw [e]
      exact ⟨h1.1, m2.1, h3.1, h4.1, by omega⟩
    · exact (q1 x e).mono (Nat.le_refl _) (by omega)
theorem NX.list {k B : Nat} {ds : List PyData} (h : NX k B (.list ds)) : (∀ d ∈ ds, NX k B d) ∧ ds.length ≤ B := by
  obtain ⟨a, b, c, d, e⟩ := h
  simp only [layE] at a
  simp only [PyData.depth] at b
  simp only [PyData.showable] at c
  simp only [PyData.intsShort] at d
  simp only [PyData.weight] at e
  exact all_elem a (by omega) c d e
theorem NX.tuple {k B : Nat} {ds : List PyData} (h : NX k B (.tuple ds)) : (∀ d ∈ ds, NX k B d) ∧ ds.length ≤ B := by
  obtain ⟨a, b, c, d, e⟩ := h
  simp only [layE] at a
  simp only [PyData.depth] at b
  simp only [PyData.showable] at c
  simp only [PyData.intsShort] at d
  simp only [PyData.weight] at e
  exact all_elem a (by omega) c d e
theorem NX.str {k B : Nat} {z : Str} (h : NX k B (.str z)) : z.length ≤ B := by
  have := h.wt
  simp only [PyData.weight] at this
  exact this
theorem NX.shown {k B : Nat} {d : PyData} (h : NX k B d) (hk : k ≤ 64) (hB : B ≤ 2 ^ 20) : d.shown.length ≤ sizeLine :=
  PyData.shown_fits (B := 13) (by decide) (by decide) (leavesShort_of_layE d h.lay h.ish) (Nat.le_trans h.wt hB)
/-- the data that the functions are asked about -/
abbrev OkD (d : PyData) : Prop := NX 20 100000 d
theorem big100 {n : Nat} (h : n ≤ 100001) : n ≤ sizeLine := by
  rw [sizeLine_eq]
  omega
/-! ### what the functions answer -/
def itemD : PyData → Bool
  | .str z => decide (1 ≤ z.length ∧ z.length ≤ 8) && (z.cps.toList.map fun c => decide (c ∈ abc.cps.toList)).all id
  | _ => false
def wordD : PyData → Bool
  | .tuple ds => (ds.map itemD).all id
  | _ => false
def actD : PyData → Bool
  | .str z => decide (z = "push" ∨ z = "pop")
  | _ => false
def stpD : PyData → Bool
  | .tuple [a, b] => actD a && itemD b
  | _ => false
def seqD : PyData → Bool
  | .list ds => decide (ds.length ≤ 1000) && (ds.map stpD).all id
  | .tuple ds => decide (ds.length ≤ 1000) && (ds.map stpD).all id
  | _ => false
end SE
namespace SE
open PySem PySem.Spec PyProof.Rows L2
theorem bl_take {α : Type} {f : α → Bool} {l : List α} {j : Nat} {x : α} (h : l[j]? = some x) : ((l.take j).map f).map V.bl ++ [V.bl (f x)] = ((l.take (j + 1)).map f).map V.bl := by
  rw [List.take_add_one, h, List.map_append, List.map_append]
  rfl
theorem itemD_str (z : Str) : itemD (.str z) = (decide (1 ≤ z.length ∧ z.length ≤ 8) && (z.cps.toList.map fun c => decide (c ∈ abc.cps.toList)).all id) := rfl
section
variable {P : Program} {w : World} {K : PySem.W.Frag} {mg : Str → Option Value} {base : Heap}
/-! ### is_item, is_word -/
def spX (K : PySem.W.Frag) (f : PyData → Bool) : Sp := fun xs H Q _ => ∃ (v : V) (d : PyData), xs = [v] ∧ DpX K H v d ∧ OkD d ∧ ∀ H', Same H H' → Q (.bl (f d)) H'
theorem has_itemX (D : Def K mg "is_item" sIsItem) (B : Blt mg) (C : Cons K w mg) : Has P w K mg base "is_item" 1 ["value"] [] (spX K itemD) := by
  obtain ⟨tl, hL⟩ := C.let_
  obtain ⟨tm, hM⟩ := C.ml
  refine has_of D scIsItem (fun _ _ _ _ _ _ us hl => match us, hl with | [_], _ => rfl) (fun xs H Q E h => ?_) (fun f cv A out s H xs Q E hr h => ?_)
  · obtain ⟨v, d, rfl, _⟩ := h
    rfl
  · obtain ⟨v, d, rfl, hd, ok, k⟩ := h
    refine ⟨_, pss_cons (ps_if (PW.pt (pw_or (pt_not (pt_val (pe_callB call_isi (by rfl) B.isi (by decide +kernel) (pa_cons (pv 0) (pa_cons (pe_bltn (v := .ty "str") (by rfl) B.str (by decide +kernel) rfl) pa_nil)))))
        (pw_or1 (pt_not (pt_chain op_le op_le pe_int (pe_callB call_len_str (by rfl) B.len PySem.boot_len (pa_cons (pv 0) pa_nil)) (pe_glob (v := .int 8) rfl hM ⟨_, rfl⟩)))))) (pss_one (ps_ret pe_bl)) pss_nil)
      (pss_one (ps_ret (pe_callB (cr_all rfl) (by rfl) B.all (by decide +kernel) (pa_cons
        (pe_lc (own := [("letter", 1)]) (g := gName 1) (tt := tYes) rfl scIsItem.nd (pi_str (pv 0)) (blkOk_by (own := [("letter", 1)]) (N := ["value", "letter"]) (sc := defScope sIsItem) (by decide +kernel))
          (fun _ _ _ _ _ => pg_name (i := 1) scIsItem.nd rfl (.inl rfl)) (fun _ _ _ _ _ => pts_nil) (fun _ _ _ _ _ => pe_cmpR op_in_sign (pv 1) (pe_glob (v := .str abc) rfl hL ⟨_, rfl⟩) (by rfl))) pa_nil)))), ?_⟩
    refine ⟨_, rfl, _, .ty "str", .type (tyD d), .type "str", isStr d, rfl, .ty _, hd.ty, kit_str d, _, rfl, ?_⟩
    cases hd with
    | non => exact iteT (iteT (k H (Same.refl H)))
    | bl b => exact iteT (iteT (k H (Same.refl H)))
    | int i => exact iteT (iteT (k H (Same.refl H)))
    | lst _ _ => exact iteT (iteT (k H (Same.refl H)))
    | tup _ _ => exact iteT (iteT (k H (Same.refl H)))
    | emp _ => exact iteT (iteT (k H (Same.refl H)))
    | str z =>
      refine iteF ?_
      have zl : z.length ≤ 100000 := ok.str
      refine ⟨_, rfl, z, rfl, big100 (by omega), 1, _, rfl, rfl, _, rfl, ?_⟩
      by_cases p1 : 1 ≤ z.length
      · have e1 : decide ((1 : Int) ≤ (z.length : Int)) = true := decide_eq_true (by omega)
        rw [e1]
        refine iteT ⟨_, 8, rfl, rfl, _, rfl, ?_⟩
        by_cases p2 : z.length ≤ 8
        · have e2 : decide ((z.length : Int) ≤ 8) = true := decide_eq_true (by omega)
          rw [e2]
          refine iteF ?_
          have e3 : itemD (.str z) = (z.cps.toList.map fun c => decide (c ∈ abc.cps.toList)).all id := by
            rw [itemD_str, decide_eq_true ⟨p1, p2⟩, Bool.true_and]
          rw [e3] at k
          refine ⟨_, rfl, z, rfl, fun D hD => lc_it walk_str (fun j H2 => H2 D = some (.lst (((z.cps.toList.take j).map fun c => decide (c ∈ abc.cps.toList)).map V.bl)) ∧ Same H H2) ⟨upd_same, Same.new hD⟩ (fun _ _ _ _ => trivial) ?_ ?_⟩
          · rintro j x H2 H3 hj ⟨h2, s2⟩ ⟨rfl, c, hc, rfl⟩
            have q : z.cps.toList[j]? = some c := by rw [Array.getElem?_toList]; exact hc
            refine ⟨rfl, yes_in ⟨_, rfl, c, abc, rfl, rfl, _, h2, ?_, ?_, Same.free2 s2 hD⟩⟩
            · rw [List.length_map, List.length_map, List.length_take]
              exact small1000 (by have : j < z.length := hj; omega)
            · rw [upd_same, bl_take (f := fun c => decide (c ∈ abc.cps.toList)) q]
          · rintro H2 ⟨h2, s2⟩
            rw [List.take_of_length_le (by rw [Array.length_toList]; exact Nat.le_refl _)] at h2
            exact ⟨D, _, rfl, .of h2, k H2 s2⟩
        · have e2 : decide ((z.length : Int) ≤ 8) = false := decide_eq_false (by omega)
          rw [e2]
          have e3 : itemD (.str z) = false := by
            rw [itemD_str, decide_eq_false (fun q => p2 q.2), Bool.false_and]
          rw [e3] at k
          exact iteT (k H (Same.refl H))
      · have e1 : decide ((1 : Int) ≤ (z.length : Int)) = false := decide_eq_false (by omega)
        rw [e1]
        have e3 : itemD (.str z) = false := by
          rw [itemD_str, decide_eq_false (fun q => p1 q.1), Bool.false_and]
        rw [e3] at k
        exact iteF ⟨false, rfl, iteT (k H (Same.refl H))⟩
theorem has_wordX (D : Def K mg "is_word" sIsWord) (G : Has P w K mg base "is_item" 1 ["value"] [] (spX K itemD)) (B : Blt mg) : Has P w K mg base "is_word" 2 ["value"] [] (spX K wordD) := by
  refine has_of D scIsWord (fun _ _ _ _ _ _ us hl => match us, hl with | [_], _ => rfl) (fun xs H Q E h => ?_) (fun f cv A out s H xs Q E hr h => ?_)
  · obtain ⟨v, d, rfl, _⟩ := h
    rfl
  · obtain ⟨v, d, rfl, hd, ok, k⟩ := h
    refine ⟨_, pss_one (ps_ret (pe_and (pe_callB call_isi (by rfl) B.isi (by decide +kernel) (pa_cons (pv 0) (pa_cons (pe_bltn (v := .ty "tuple") (by rfl) B.tup (by decide +kernel) rfl) pa_nil)))
      (pe_one (pe_callB (cr_all rfl) (by rfl) B.all (by decide +kernel) (pa_cons
        (pe_lc (own := [("item", 1)]) (g := gName 1) (tt := tYes) (te := tCall (spX K itemD) [] E0 (tCons (tVar 1) tNil)) rfl scIsWord.nd (pi_tup (pv 0)) (blkOk_by (own := [("item", 1)]) (N := ["value", "item"]) (sc := defScope sIsWord) (by decide +kernel))
          (fun _ _ _ _ _ => pg_name (i := 1) scIsWord.nd rfl (.inl rfl)) (fun _ _ _ _ _ => pts_nil) (fun _ _ _ _ _ => pe_has G hr (pa_cons (pv 1) pa_nil))) pa_nil))))), ?_⟩
    refine ⟨_, rfl, _, .ty "tuple", .type (tyD d), .type "tuple", isTup d, rfl, .ty _, hd.ty, kit_tup d, _, rfl, ?_⟩
    cases hd with
    | non => exact iteF (k H (Same.refl H))
    | bl b => exact iteF (k H (Same.refl H))
    | int i => exact iteF (k H (Same.refl H))
    | str z => exact iteF (k H (Same.refl H))
    | lst _ _ => exact iteF (k H (Same.refl H))
    | emp _ => exact iteF (k H (Same.refl H))
    | @tup a xs ds hT ha =>
      refine iteT ?_
      obtain ⟨oks, ln⟩ := ok.tuple
      have le := ha.len
      refine ⟨_, rfl, a, rfl, ⟨_, hT⟩, fun D hD => lc_tup (K := K) (a := a) (xs := xs) (fun j H2 => H2 D = some (.lst (((ds.take j).map itemD).map V.bl)) ∧ Same H H2) ⟨upd_same, Same.new hD⟩ (fun _ _ _ q => Same.tup q.2 hT) ?_ ?_⟩
      · rintro j x H2 hj ⟨h2, s2⟩
        obtain ⟨e, he, hx⟩ := ha.at hj
        refine ⟨rfl, yes_in ⟨_, rfl, x, e, rfl, DpX.same s2 e x hx, oks e (List.mem_of_getElem? he), fun H3 s3 => ⟨_, s3 _ _ h2, ?_, ?_, Same.free2 (s2.trans s3) hD⟩⟩⟩
        · rw [List.length_map, List.length_map, List.length_take, sizeLine_eq]
          omega
        · rw [upd_same, bl_take he]
      · rintro H2 ⟨h2, s2⟩
        rw [le, List.take_length] at h2
        exact ⟨D, _, rfl, .of h2, k H2 s2⟩
end
end SE
namespace SE
open PySem PySem.Spec PyProof.Rows L2
def OppKeys : List DictEntry → Prop
  | [] => True
  | e :: r => (∃ x t, e.key = .str x t ∧ (x = ("push" : Str) ∨ x = ("pop" : Str))) ∧ OppKeys r
theorem opp_none {z : Str} (h1 : z ≠ "push") (h2 : z ≠ "pop") : ∀ {l : List DictEntry}, OppKeys l → l.find? (fun e => e.key.isStr z) = none ∧ l.any (fun e => e.refKey) = false
  | [], _ => ⟨rfl, rfl⟩
  | e :: r, ⟨⟨x, t, hk, hx⟩, q⟩ => by
    obtain ⟨q1, q2⟩ := opp_none h1 h2 q
    have e1 : e.key.isStr z = false := by
      rw [hk]
      have ne : x ≠ z := by
        rcases hx with hx | hx
        · rw [hx]; exact fun w => h1 w.symm
        · rw [hx]; exact fun w => h2 w.symm
      simpa [Value.isStr] using ne
    have e2 : e.refKey = false := by
      unfold DictEntry.refKey
      rw [hk]
    rw [List.find?_cons, e1, List.any_cons, e2]
    exact ⟨q1, q2⟩
/-- OPPOSITES and all its keys -/
def Opp2 (K : PySem.W.Frag) (w : World) (mg : Str → Option Value) : Prop := ∃ (d : Addr) (es : Array DictEntry) (n : Nat) (u v : Value), mg "OPPOSITES" = some (.ref d) ∧ KDict K w d es n ∧ PySem.W.nsIn K d "push" = some (some u) ∧ PySem.W.nsIn K d "pop" = some (some v) ∧ OppKeys es.toList
theorem opp_in {K : PySem.W.Frag} {w : World} {d : Addr} {es : Array DictEntry} {n : Nat} {u v : Value} (KD : KDict K w d es n) (n1 : PySem.W.nsIn K d "push" = some (some u)) (n2 : PySem.W.nsIn K d "pop" = some (some v)) (ok : OppKeys es.toList) (z : Str) :
    ∃ r, PySem.W.nsIn K d z = some r ∧ r.isSome = actD (.str z) := by
  by_cases h1 : z = "push"
  · subst h1
    exact ⟨_, n1, show true = actD (.str "push") by decide +kernel⟩
  by_cases h2 : z = "pop"
  · subst h2
    exact ⟨_, n2, show true = actD (.str "pop") by decide +kernel⟩
  obtain ⟨q1, q2⟩ := opp_none h1 h2 ok
  refine ⟨none, ?_, ?_⟩
  · unfold PySem.W.nsIn
    rw [KD.at_]
    dsimp only
    rw [q1]
    dsimp only
    rw [q2]
    rfl
  · show false = decide (z = "push" ∨ z = "pop")
    rw [decide_eq_false (fun q => q.elim h1 h2)]
section
variable {P : Program} {w : World} {K : PySem.W.Frag} {mg : Str → Option Value} {base : Heap}
/-! ### is_step -/
theorem has_stepX (D : Def K mg "is_step" sIsStep) (G : Has P w K mg base "is_item" 1 ["value"] [] (spX K itemD)) (B : Blt mg) (C : Opp2 K w mg) : Has P w K mg base "is_step" 2 ["value"] [] (spX K stpD) := by
  obtain ⟨d, es, n, u1, u2, hO, KD, n1, n2, okO⟩ := C
  refine has_of D scIsStep (fun _ _ _ _ _ _ us hl => match us, hl with | [_], _ => rfl) (fun xs H Q E h => ?_) (fun f cv A out s H xs Q E hr h => ?_)
  · obtain ⟨v, dd, rfl, _⟩ := h
    rfl
  · obtain ⟨v, dd, rfl, hd, ok, k⟩ := h
    refine ⟨_, pss_cons (ps_if (PW.pt (pw_or (pt_not (pt_val (pe_callB call_isi (by rfl) B.isi (by decide +kernel) (pa_cons (pv 0) (pa_cons (pe_bltn (v := .ty "tuple") (by rfl) B.tup (by decide +kernel) rfl) pa_nil)))))
        (pw_or1 (pt_cmpR op_ne (pe_callB call_len_seq (by rfl) B.len PySem.boot_len (pa_cons (pv 0) pa_nil)) pe_int (nomark _))))) (pss_one (ps_ret pe_bl)) pss_nil)
      (pss_cons (ps_asg (pv 0) (pg_tup (by rfl) (pgs_cons (pg_name (i := 1) scIsStep.nd rfl (.inl rfl)) (pgs_cons (pg_name (i := 2) scIsStep.nd rfl (.inl rfl)) pgs_nil))))
      (pss_one (ps_ret (pe_and (pe_callB call_isi (by rfl) B.isi (by decide +kernel) (pa_cons (pv 1) (pa_cons (pe_bltn (v := .ty "str") (by rfl) B.str (by decide +kernel) rfl) pa_nil)))
        (pe_and (pe_cmpR (op_in_kd KD) (pv 1) (pe_glob (v := .ref d) rfl hO rfl) (by rfl)) (pe_one (pe_has G hr (pa_cons (pv 2) pa_nil)))))))), ?_⟩
    refine ⟨_, rfl, _, .ty "tuple", .type (tyD dd), .type "tuple", isTup dd, rfl, .ty _, hd.ty, kit_tup dd, _, rfl, ?_⟩
    cases hd with
    | non => exact iteT (iteT (k H (Same.refl H)))
    | bl b => exact iteT (iteT (k H (Same.refl H)))
    | int i => exact iteT (iteT (k H (Same.refl H)))
    | str z => exact iteT (iteT (k H (Same.refl H)))
    | lst _ _ => exact iteT (iteT (k H (Same.refl H)))
    | emp _ => exact iteT (iteT (k H (Same.refl H)))
    | @tup t xs ds hT ha =>
      refine iteF ?_
      obtain ⟨oks, ln⟩ := ok.tuple
      have le := ha.len
      refine ⟨_, rfl, t, _, rfl, .inr hT, rfl, _, rfl, ?_⟩
      match ds, xs, ha, le, oks, k, hT with
      | [], _, .nil, _, _, k, _ => exact iteT (k H (Same.refl H))
      | [_], _, .cons _ .nil, _, _, k, _ => exact iteT (k H (Same.refl H))
      | [e1, e2], [x1, x2], .cons h1 (.cons h2 .nil), _, oks, k, hT =>
        refine iteF ?_
        refine ⟨_, rfl, t, _, rfl, hT, rfl, _, _, rfl, _, _, rfl, rfl, ?_⟩
        refine ⟨_, rfl, _, .ty "str", .type (tyD e1), .type "str", isStr e1, rfl, .ty _, h1.ty, kit_str e1, _, rfl, ?_⟩
        have k' : ∀ H', Same H H' → Q (.bl (actD e1 && itemD e2)) H' := k
        cases h1 with
        | non => exact iteF (k' H (Same.refl H))
        | bl b => exact iteF (k' H (Same.refl H))
        | int i => exact iteF (k' H (Same.refl H))
        | lst _ _ => exact iteF (k' H (Same.refl H))
        | tup _ _ => exact iteF (k' H (Same.refl H))
        | emp _ => exact iteF (k' H (Same.refl H))
        | str z =>
          refine iteT ?_
          obtain ⟨r, hr1, hr2⟩ := opp_in KD n1 n2 okO z
          refine ⟨_, rfl, z, r, rfl, rfl, hr1, r.isSome, rfl, ?_⟩
          rw [hr2]
          cases hz : actD (.str z) with
          | false =>
            rw [hz] at k'
            exact iteF (k' H (Same.refl H))
          | true =>
            rw [hz] at k'
            exact iteT ⟨_, rfl, x2, e2, rfl, h2, oks e2 (by simp), fun H' s' => k' H' s'⟩
      | _ :: _ :: _ :: ds, x1 :: x2 :: x3 :: xs, .cons _ (.cons _ (.cons _ _)), _, _, k, _ =>
        have hne : decide (V.int (((x1 :: x2 :: x3 :: xs).length : Nat) : Int) = V.int 2) = false := decide_eq_false (by
          intro q
          have q2 := V.int.inj q
          simp only [List.length_cons] at q2
          omega)
        rw [hne]
        exact iteT (k H (Same.refl H))
/-! ### may_hold_steps, is_sequence -/
def mayD : PyData → Bool
  | .list ds => decide (ds.length ≤ 1000)
  | .tuple ds => decide (ds.length ≤ 1000)
  | _ => false
theorem kit_lt {K : PySem.W.Frag} (d : PyData) : PySem.W.kitAny K (.type (tyD d)) [.type "list", .type "tuple"] = some (isLst d || isTup d) := by
  have a := kit_lst (K := K) d
  have b := kit_tup (K := K) d
  cases d with
  | list ds => exact kitAny_cons (b := true) a (fun z => (by cases z)) (fun _ => rfl)
  | tuple ds => exact kitAny_cons (b := false) a (fun _ => kitAny_cons (b := true) b (fun z => (by cases z)) (fun _ => rfl)) (fun z => (by cases z))
  | _ => exact kitAny_cons (b := false) a (fun _ => kitAny_cons (b := false) b (fun _ => rfl) (fun z => (by cases z))) (fun z => (by cases z))
theorem has_mayX (D : Def K mg "may_hold_steps" sMayHold) (B : Blt mg) (C : Cons K w mg) : Has P w K mg base "may_hold_steps" 1 ["value"] [] (spX K mayD) := by
  obtain ⟨tm, hM⟩ := C.ms
  refine has_of D scMay (fun _ _ _ _ _ _ us hl => match us, hl with | [_], _ => rfl) (fun xs H Q E h => ?_) (fun f cv A out s H xs Q E hr h => ?_)
  · obtain ⟨v, d, rfl, _⟩ := h
    rfl
  · obtain ⟨v, d, rfl, hd, ok, k⟩ := h
    refine ⟨_, pss_one (ps_ret (pe_and (pe_callB call_isiT (by rfl) B.isi (by decide +kernel) (pa_cons (pv 0) (pa_cons (pe_tup (pa_cons (pe_bltn (v := .ty "list") (by rfl) B.lst (by decide +kernel) rfl) (pa_cons (pe_bltn (v := .ty "tuple") (by rfl) B.tup (by decide +kernel) rfl) pa_nil))) pa_nil)))
      (pe_one (pe_cmpR op_le (pe_callB call_len_seq (by rfl) B.len PySem.boot_len (pa_cons (pv 0) pa_nil)) (pe_glob (v := .int 1000) rfl hM ⟨_, rfl⟩) (nomark _))))), ?_⟩
    refine ⟨_, rfl, (by show 2 ≤ sizeLine; decide), fun t ht => ?_⟩
    have s1 : Same H (upd H t (.tup [.ty "list", .ty "tuple"])) := Same.new ht
    have hd1 := DpX.same s1 d v hd
    refine ⟨_, t, _, .type (tyD d), _, isLst d || isTup d, rfl, upd_same, .cons (.ty _) (.cons (.ty _) .nil), hd1.ty, kit_lt d, _, rfl, ?_⟩
    have fin : ∀ (n : Nat), (V.bl (decide ((n : Int) ≤ 1000)) : V) = V.bl (decide (n ≤ 1000)) := fun n => by
      by_cases q : n ≤ 1000
      · rw [decide_eq_true q, decide_eq_true (by omega)]
      · rw [decide_eq_false q, decide_eq_false (by omega)]
    cases hd with
    | non => exact iteF (k _ s1)
    | bl b => exact iteF (k _ s1)
    | int i => exact iteF (k _ s1)
    | str z => exact iteF (k _ s1)
    | emp _ => exact iteF (k _ s1)
    | @tup a xs ds hT ha =>
      refine iteT ⟨_, rfl, a, xs, rfl, .inr (Same.tup s1 hT), _, 1000, rfl, rfl, ?_⟩
      show Q (V.bl (decide ((xs.length : Int) ≤ 1000))) _
      rw [fin, ha.len]
      exact k _ s1
    | @lst a xs ds hT ha =>
      refine iteT ⟨_, rfl, a, xs, rfl, .inl (Same.seq s1 hT), _, 1000, rfl, rfl, ?_⟩
      show Q (V.bl (decide ((xs.length : Int) ≤ 1000))) _
      rw [fin, ha.len]
      exact k _ s1
end
end SE
/-! Exceptions of own classes below ValueError, each with one field. -/
namespace SE
open PySem PySem.Spec PyProof.Rows L2
section
variable {P : Program} {w : World} {K : PySem.W.Frag} {mg : Str → Option Value} {base : Heap}
/-- a def that may raise keeps the promise sp -/
def HasX (P : Program) (w : World) (K : PySem.W.Frag) (mg : Str → Option Value) (base : Heap) (x : Str) (k : Nat) (ps : List Str) (dvs : List V) (sp : Sp) : Prop :=
  ∃ f fd ds, FnOk P w K mg base (L2.CX P w) k f fd ps sp ∧ mg x = some (.ref f) ∧ PySem.W.keepIn K (.ref f) = true ∧ Binds K fd ps ds ∧ Vals dvs ds ∧ ∃ st, Fun K x x st f fd
abbrev BxX (P : Program) (w : World) (K : PySem.W.Frag) (mg : Str → Option Value) (base : Heap) (N : List Str) (x : Str) (st : Stmt) (f : Addr) (cv : Value) (A : Around) (out : List Env) (s : Shared) (H : Hp) (E : XK) : Cx :=
  cxOf (L2.CX P w) P w K mg base N x (defScope st) f cv A out s H E
theorem hasX_of {x : Str} {st : Stmt} {N ps : List Str} {k : Nat} {sp : Sp} (D : Def K mg x st) (S : FnScope N ps (defScope st))
    (hb : ∀ (kV doc pm : Value) (an : Option Addr) (cv ct : Value) (us : List Value), us.length = ps.length → bindArgs (PySem.W.fnOf x x (defArgs st) (defBody st) (defScope st) .none kV doc pm an cv ct) ⟨us, []⟩ = pure (ps.zip us))
    (len : ∀ xs H Q E, sp xs H Q E → xs.length = ps.length)
    (hbd : ∀ (f : Addr) (cv : Value) (A : Around) (out : List Env) (s : Shared) (H : Hp) (xs : List V) (Q : VK) (E : XK), Room k (A.deeper (envOfC x (defScope st) s.heap.objs.size f cv)) → sp xs H Q E →
      ∃ t, PSs (BxX P w K mg base N x st f cv A out s H E) (defBody st) t ∧ t { nx := fun _ H2 => Q .non H2, rt := Q } (start N xs) H) : HasX P w K mg base x (k + 1) ps [] sp := by
  obtain ⟨f, fd, F, hm⟩ := D
  exact ⟨f, fd, [], F.okX S len fun cv A out s H xs Q E hr h => hbd f cv A out s H xs Q E hr h, hm, F.kp, F.binds hb, .nil, st, F⟩
/-- what stands in a def that may raise: its own way out -/
theorem tkX {N : List Str} {x : Str} {st : Stmt} {f : Addr} {cv : Value} {A : Around} {out : List Env} {s : Shared} {H : Hp} {E : XK} : Takes (BxX P w K mg base N x st f cv A out s H E) (fun cls d _ H => E cls d H) := takes_of rfl rfl rfl rfl
end
section
variable {X : Cx} {k : Nat} {ps : List Str} {sp : Sp} {x : Str} {p pos : Pos} {e : Expr} {es : List Expr} {t : TA} {dvs : List V} {E : XK} {W : WX}
/-- a call whose exceptions leave the def that calls -/
theorem pe_hasX (h : HasX X.prog X.w X.K X.mg X.base x k ps dvs sp) (hr : Room k X.A) (tk : Takes X (fun cls d _ H => E cls d H)) (ha : PA X (e :: es) t) (hg : Gl X x := by rfl) (hdb : (x == ("__debug__" : Str)) = false := by decide)
    (he : starEach (e :: es) X.env = (false, eval e X.env) :: starEach es X.env := by rfl) (hpl : (backTo pos (starEach es X.env)).any (·.1) = false := by rfl) : PE X (.Call (.Name x p) (e :: es) [] pos) (tCall sp dvs E t) := by
  obtain ⟨f, fd, ds, F, hm, hk, hb, hd, _⟩ := h
  exact pe_call F hr hg hm hk hb hd (passes_call tk fun _ _ _ _ z => z) ha hdb he hpl
/-- a call within a try -/
theorem pe_hasS (h : HasX X.prog X.w X.K X.mg X.base x k ps [] sp) (hr : Room k X.A) (tk : Takes X W) (ha : PA X (e :: es) t) (hg : Gl X x := by rfl) (hdb : (x == ("__debug__" : Str)) = false := by decide)
    (he : starEach (e :: es) X.env = (false, eval e X.env) :: starEach es X.env := by rfl) (hpl : (backTo pos (starEach es X.env)).any (·.1) = false := by rfl) : PE X (.Call (.Name x p) (e :: es) [] pos) (tCallS sp (WE W) t) := by
  obtain ⟨f, fd, ds, F, hm, hk, hb, hd, _⟩ := h
  cases hd
  exact pe_callS F hr hg hm hk hb (fun σ => passAt tk σ) ha hdb he hpl
end
/-! ### a class of exceptions -/
def spXI (K : PySem.W.Frag) (C : Addr) (f : Str) : Sp := fun xs H Q _ => ∃ (a : Addr) (v : V), xs = [.ref a, v] ∧ H a = some (exo a C none) ∧ ∀ dx, H dx = none → dx ≠ a → Q .non (upd (upd H dx (exd dx [(f, v)])) a (exo a C (some dx)))
/-- what the written part says of the class at C, whose __init__ sets the field f -/
structure XcC (P : Program) (w : World) (K : PySem.W.Frag) (mg : Str → Option Value) (base : Heap) (x f : Str) (C : Addr) : Prop where
  oex : OexC K C
  gC : mg x = some (.ref C)
  init : ∃ fI fd, PySem.W.findIn K (.ref C) "__init__" = some (some (.ref fI)) ∧ PySem.W.typeIn K (.ref fI) = some (.type "function") ∧ FnOk P w K mg base CX0 1 fI fd ["self", f] (spXI K C f) ∧ Binds K fd ["self", f] []
  xf : XfC K C
  noF : PySem.W.findIn K (.ref C) f = some none
  ha : PySem.W.findIn K (.ref C) "__class__" = some (some (.builtin "object.__class__"))
  hn : PySem.W.specialIn K (.builtin "object.__class__") "__get__" = some (some (.builtin "getset_descriptor.__get__"))
  ht : PySem.W.takesIn K (.builtin "object.__class__") = some true
  hm : PySem.W.mroIn K C (.type "object") = some true
  te : PySem.W.exmOne K (.ref C) (.ref C) = some true
/-- __init__ -/
theorem init_ok {P : Program} {w : World} {K : PySem.W.Frag} {mg : Str → Option Value} {base : Heap} {q f : Str} {C : Addr} {st : Stmt} {fI : Addr} {fd : FuncData} {p1 p2 p3 p4 : Pos} (F : Fun K "__init__" q st fI fd) (S : FnScope ["self", f] ["self", f] (defScope st)) (T : OexC K C) (noF : PySem.W.findIn K (.ref C) f = some none)
    (hb : defBody st = [.Assign [.Attribute (.Name "self" p1) f p2] (.Name f p3) p4])
    (v0 : Vis (defScope st) "self") (v1 : Vis (defScope st) f) (hdb : (f == ("__debug__" : Str)) = false) (hcd : (f == ("__classdict__" : Str)) = false) : FnOk P w K mg base CX0 1 fI fd ["self", f] (spXI K C f) := by
  refine F.ok S (fun xs H Q E h => ?_) (fun cv A out s H xs Q E hr h => ?_)
  · obtain ⟨a, v, rfl, _⟩ := h
    rfl
  · obtain ⟨a, v, rfl, ha, k⟩ := h
    rw [hb]
    refine ⟨_, pss_one (ps_ost (pe_var (i := 0) rfl v0) (pe_var (i := 1) rfl v1 (hd := hdb) (hcd := hcd))), ?_⟩
    exact ⟨_, rfl, _, rfl, a, C, rfl, T, noF, .inl ⟨ha, fun dx nd ne => k dx nd ne⟩⟩
section
variable {X : Cx} {C : Addr} {x f : Str}
theorem mk_heap {H1 : Hp} {a d C : Addr} {f : Str} {v : V} (na : H1 a = none) (nd : d ≠ a) : upd (del (upd (upd (upd H1 a (exo a C none)) d (exd d [(f, v)])) a (exo a C (some d))) a) d (.xd [(f, v)]) = upd H1 d (.xd [(f, v)]) := by
  funext b
  by_cases e : b = d
  · subst e
    rw [upd_same, upd_same]
  · rw [upd_ne e, upd_ne e]
    by_cases e2 : b = a
    · subst e2
      rw [del_same, na]
    · rw [del_ne e2, upd_ne e2, upd_ne e, upd_ne e2]
theorem mk_red {K : PySem.W.Frag} {H1 : Hp} {v : V} {Q : XK} (h : ∀ d, H1 d = none → Q (.ref C) (some d) (upd H1 d (.xd [(f, v)]))) :
    ([v] : List V).length ≤ 1000 ∧ ∀ a, H1 a = none → spXI K C f (.ref a :: ([v] ++ [])) (upd H1 a (exo a C none))
      (fun u H2 => u = .non ∧ ∃ (d : Addr) (fs : List (Str × V)), H2 a = some (exo a C (some d)) ∧ H2 d = some (exd d fs) ∧ H1 d = none ∧ Q (.ref C) (some d) (upd (del H2 a) d (.xd fs))) (fun _ _ _ => False) := by
  refine ⟨(by decide : 1 ≤ 1000), fun a na => ⟨a, v, rfl, upd_same, fun d nd ne => ⟨rfl, d, [(f, v)], upd_same, ?_, ?_, ?_⟩⟩⟩
  · rw [upd_ne ne]
    exact upd_same
  · rw [upd_ne ne] at nd
    exact nd
  · rw [mk_heap na ne]
    rw [upd_ne ne] at nd
    exact h d nd
/-- C(e): behind the argument mk_red -/
theorem pmk_x {e : Expr} {ta : TA} {p pos : Pos} (T : XcC X.prog X.w X.K X.mg X.base x f C) (hr : Room 2 X.A) (ha : PA X [e] ta) (hg : Gl X x := by rfl)
    (hdb : (x == ("__debug__" : Str)) = false := by decide) (he : starEach (e :: []) X.env = (false, eval e X.env) :: starEach [] X.env := by rfl) (hpl : (backTo pos (starEach [] X.env)).any (·.1) = false := by rfl) :
    PMk X (.Call (.Name x p) [e] [] pos) (tMkO C (spXI X.K C f) [] ta) := by
  obtain ⟨fI, fd, i1, i2, i3, i4⟩ := T.init
  exact pmk_oex (CX := CX0) T.oex i1 i2 i3 hr i4 .nil pass0 hg T.gC ha hdb he hpl
theorem ps_raiseX {W : WX} {e : Expr} {ta : TA} {p pos pos2 : Pos} (hc : X.calm = true) (T : XcC X.prog X.w X.K X.mg X.base x f C) (hr : Room 2 X.A) (tk : Takes X W) (ha : PA X [e] ta) (hg : Gl X x := by rfl)
    (hdb : (x == ("__debug__" : Str)) = false := by decide) (he : starEach (e :: []) X.env = (false, eval e X.env) :: starEach [] X.env := by rfl) (hpl : (backTo pos (starEach [] X.env)).any (·.1) = false := by rfl) :
    PS X (.Raise (some (.Call (.Name x p) [e] [] pos)) none pos2) (fun _ σ H => tMkO C (spXI X.K C f) [] ta σ H fun cls d H' => W cls d σ H') := ps_raise hc tk (pmk_x T hr ha hg hdb he hpl)
/-- isinstance(e, c), e the exception that the suite holds -/
def rIsX (K : PySem.W.Frag) (C a : Addr) (cls : Value) (d : Option Addr) : List V → Hp → VK → Prop := fun xs H Q => ∃ (c : V) (cv : Value) (b : Bool) (dd : Addr) (fs : List (Str × V)), xs = [.ref a, c] ∧ cls = .ref C ∧ (∀ u, RelV c u → u = cv) ∧ PySem.W.kitOne K (.ref C) cv = some b ∧ d = some dd ∧ H dd = some (.xd fs) ∧ Q (.bl b) H
theorem call_isX {a : Addr} {oe : Obj} {cls : Value} {d : Option Addr} {pn : List (Addr × Obj)} (T : XcC X.prog X.w X.K X.mg X.base x f C) (hz : Zc cls d oe) (hf : ∃ vs, oe.data = .fields vs) : CallR (X.suite a ((a, oe) :: pn)) (.builtin "isinstance") (rIsX X.K C a cls d) := by
  intro pins s σ H xs us Q I r h
  obtain ⟨c, cv, b, dd, fs, rfl, rfl, hcv, e, rfl, hH, q⟩ := h
  cases r with
  | cons rx rr =>
    cases rr with
    | cons rt rr =>
      cases rr
      cases rx
      have ec := hcv _ rt
      subst ec
      obtain ⟨hget, _⟩ := I.pin (a, oe) (List.mem_append.mpr (.inl List.mem_cons_self))
      obtain ⟨vs, hv⟩ := hf
      have hx : ObjOk X.prog X.w H s.heap dd (.xd fs) := I.hok dd _ hH
      obtain ⟨mA, hns, hr⟩ := hx
      obtain ⟨od, ho, hl⟩ := lookIn_ns hns
      have J : PySem.W.InstAt s.heap a oe C (some od) := ⟨hget, hz.1, by unfold PySem.W.notCls; rw [hv] <;> rfl, by rw [hz.2]; exact ho⟩
      have hcl : (PySem.W.clsIn X.K C).isSome = true := by
        obtain ⟨cd, hc, _⟩ := PySem.W.any_some T.xf.hdC
        rw [hc]
        rfl
      exact PySem.W.kia_one (PySem.W.kitx_exc hcl T.xf.ga T.xf.gg T.xf.exC T.ha T.hn T.ht T.hm) I.kIn J e (fun z => nomatch z) fun tk => ⟨.bl b, H, I.kept (t' := tk) fun _ _ z => z, rfl, q⟩
end
end SE
/-! Small data with great ints; its kinds; len(set(ints)) with duplicates. -/
namespace SE
open PySem PySem.Spec PyProof.Rows L2
/-- a text of signs -/
def okA (x : Str) : Bool := x.cps.toList.all fun c => decide (c < 0x110000)
theorem okA_app {a b : Str} (ha : okA a = true) (hb : okA b = true) : okA (a ++ b) = true := by
  show ((a.cps ++ b.cps).toList.all fun c => decide (c < 0x110000)) = true
  rw [Array.toList_append, List.all_append, Bool.and_eq_true]
  exact ⟨ha, hb⟩
theorem okA_from : ∀ (ts : List Str) (k : Nat) (acc : Str), okA acc = true → (∀ t ∈ ts, okA t = true) → okA (textFrom k acc ts) = true
  | [], k, acc, h, _ => h
  | t :: r, k, acc, h, hs => by
    refine okA_from r (k + 1) _ (okA_app (okA_app h ?_) (hs t List.mem_cons_self)) fun x m => hs x (List.mem_cons_of_mem _ m)
    split <;> decide +kernel
theorem okA_list {ts : List Str} (h : ∀ t ∈ ts, okA t = true) : okA (listText ts) = true := okA_app (okA_from ts 0 "[" (by decide +kernel) h) (by decide +kernel)
theorem okA_join : ∀ (ts : List Str), (∀ t ∈ ts, okA t = true) → okA (Str.join ", " ts) = true
  | [], _ => by decide +kernel
  | [x], h => h x List.mem_cons_self
  | x :: y :: r, h => okA_app (okA_app (h x List.mem_cons_self) (by decide +kernel)) (okA_join (y :: r) fun t m => h t (List.mem_cons_of_mem _ m))
theorem okA_tuple {ts : List Str} (h : ∀ t ∈ ts, okA t = true) : okA (tupleText ts) = true := by
  refine okA_app (okA_app (by decide +kernel) (okA_join ts h)) ?_
  split <;> decide +kernel
structure SD (k B : Nat) (d : PyData) : Prop where
  dep : d.depth ≤ k
  sh : d.showable = true
  lf : d.leavesShort 45 = true
  wt : d.weight ≤ B
  so : okA d.shown = true
theorem SD.mono {k j B C : Nat} {d : PyData} (h : SD k B d) (hk : k ≤ j) (hB : B ≤ C) : SD j C d := ⟨Nat.le_trans h.dep hk, h.sh, h.lf, Nat.le_trans h.wt hB, h.so⟩
theorem sd_all {k B : Nat} : ∀ {ds : List PyData}, (∀ d ∈ ds, SD k B d) → PyData.depthAll ds ≤ k ∧ PyData.showableAll ds = true ∧ PyData.leavesShortAll 45 ds = true ∧ PyData.weightAll ds ≤ ds.length * (B + 1) ∧ ∀ t ∈ PyData.shownAll ds, okA t = true
  | [], _ => by
    refine ⟨?_, ?_, ?_, ?_, fun t m => by cases m⟩
    · simp only [PyData.depthAll]
      exact Nat.zero_le _
    · simp only [PyData.showableAll]
    · simp only [PyData.leavesShortAll]
    · simp only [PyData.weightAll]
      exact Nat.zero_le _
  | d :: ds, h => by
    obtain ⟨a2, a3, a5, a6, a7⟩ := sd_all (ds := ds) fun x hx => h x (List.mem_cons_of_mem _ hx)
    have q := h d List.mem_cons_self
    refine ⟨?_, ?_, ?_, ?_, fun t m => ?_⟩
    · simp only [PyData.depthAll]
      exact Nat.max_le.mpr ⟨q.dep, a2⟩
    · simp only [PyData.showableAll, q.sh, a3, Bool.and_self]
    · simp only [PyData.leavesShortAll, q.lf, a5, Bool.and_self]
    · simp only [PyData.weightAll, List.length_cons]
      have := q.wt
      rw [Nat.add_mul]
      omega
    · rcases List.mem_cons.mp (show t ∈ d.shown :: PyData.shownAll ds from m) with e | e
      · rw [e]; exact q.so
      · exact a7 t e
theorem sd_list {k B : Nat} {ds : List PyData} (h : ∀ d ∈ ds, SD k B d) : SD (k + 1) (ds.length * (B + 1)) (.list ds) := by
  obtain ⟨a2, a3, a5, a6, a7⟩ := sd_all h
  exact ⟨by simp only [PyData.depth]; omega, by simp only [PyData.showable]; exact a3, by simp only [PyData.leavesShort]; exact a5, by simp only [PyData.weight]; exact a6, by simp only [PyData.shown]; exact okA_list a7⟩
theorem sd_tuple {k B : Nat} {ds : List PyData} (h : ∀ d ∈ ds, SD k B d) : SD (k + 1) (ds.length * (B + 1)) (.tuple ds) := by
  obtain ⟨a2, a3, a5, a6, a7⟩ := sd_all h
  exact ⟨by simp only [PyData.depth]; omega, by simp only [PyData.showable]; exact a3, by simp only [PyData.leavesShort]; exact a5, by simp only [PyData.weight]; exact a6, by simp only [PyData.shown]; exact okA_tuple a7⟩
theorem SD.shown {k B : Nat} {d : PyData} (h : SD k B d) (hB : B ≤ 300000) : d.shown.length ≤ sizeLine := by
  have q := PyData.shown_le 45 (by decide) d h.lf
  have := h.wt
  have m : (45 + 2) * d.weight ≤ 47 * 300000 := Nat.mul_le_mul (by decide) (by omega)
  rw [sizeLine_eq]
  omega
/-! ### kinds -/
def isInt : PyData → Bool
  | .int _ | .bool _ => true
  | _ => false
def isBoo : PyData → Bool
  | .bool _ => true
  | _ => false
theorem kit_int {K : PySem.W.Frag} : ∀ d : PyData, PySem.W.kitOne K (.type (tyD d)) (.type "int") = some (isInt d)
  | .none => kit_ty (show kitB "NoneType" "int" = some false by decide +kernel)
  | .bool _ => kit_ty (show kitB "bool" "int" = some true by decide +kernel)
  | .int _ => kit_ty (show kitB "int" "int" = some true by decide +kernel)
  | .str _ => kit_ty (show kitB "str" "int" = some false by decide +kernel)
  | .list _ => kit_ty (show kitB "list" "int" = some false by decide +kernel)
  | .tuple _ => kit_ty (show kitB "tuple" "int" = some false by decide +kernel)
  | .dict _ => kit_ty (show kitB "dict" "int" = some false by decide +kernel)
theorem kit_boo {K : PySem.W.Frag} : ∀ d : PyData, PySem.W.kitOne K (.type (tyD d)) (.type "bool") = some (isBoo d)
  | .none => kit_ty (show kitB "NoneType" "bool" = some false by decide +kernel)
  | .bool _ => kit_ty (show kitB "bool" "bool" = some true by decide +kernel)
  | .int _ => kit_ty (show kitB "int" "bool" = some false by decide +kernel)
  | .str _ => kit_ty (show kitB "str" "bool" = some false by decide +kernel)
  | .list _ => kit_ty (show kitB "list" "bool" = some false by decide +kernel)
  | .tuple _ => kit_ty (show kitB "tuple" "bool" = some false by decide +kernel)
  | .dict _ => kit_ty (show kitB "dict" "bool" = some false by decide +kernel)
/-! ### len(set(xs)) of ints -/
theorem firstMet_len (f : Nat → Int) : ∀ i, (PyProof.Rows.firstMet f i).length ≤ i
  | 0 => Nat.le_refl _
  | i + 1 => by
    have ih := firstMet_len f i
    rw [PyProof.Rows.firstMet_succ]
    unfold PyProof.Rows.step_dedup
    split
    · omega
    · rw [List.length_append, List.length_singleton]
      omega
theorem firstMet_mem (f : Nat → Int) : ∀ i j, j < i → f j ∈ PyProof.Rows.firstMet f i
  | 0, j, h => absurd h (Nat.not_lt_zero _)
  | i + 1, j, h => by
    rw [PyProof.Rows.firstMet_succ]
    unfold PyProof.Rows.step_dedup
    by_cases e : j = i
    · subst e
      split
      · rename_i q
        obtain ⟨x, mx, ex⟩ := List.any_eq_true.mp q
        rw [← beq_iff_eq.mp ex]
        exact mx
      · exact List.mem_append.mpr (.inr (List.mem_singleton.mpr rfl))
    · have ih := firstMet_mem f i j (by omega)
      split
      · exact ih
      · exact List.mem_append.mpr (.inl ih)
theorem firstMet_full (f : Nat → Int) : ∀ i, (PyProof.Rows.firstMet f i).length = i → ∀ a b, a < b → b < i → f a ≠ f b
  | 0, _, _, _, _, h => absurd h (Nat.not_lt_zero _)
  | i + 1, hl, a, b, hab, hb => by
    have l1 := firstMet_len f i
    rw [PyProof.Rows.firstMet_succ] at hl
    unfold PyProof.Rows.step_dedup at hl
    by_cases q : (PyProof.Rows.firstMet f i).any (· == f i) = true
    · rw [if_pos q] at hl
      omega
    · rw [if_neg q, List.length_append, List.length_singleton] at hl
      have ih := firstMet_full f i (by omega)
      by_cases e : b = i
      · subst e
        intro z
        exact q (List.any_eq_true.mpr ⟨f a, firstMet_mem f b a hab, by rw [z]; exact beq_self_eq_true _⟩)
      · exact ih a b hab (by omega)
theorem firstMet_iff (ns : List Int) : (PyProof.Rows.firstMet (fun i => ns.getD i 0) ns.length).length = ns.length ↔ ns.Nodup := by
  constructor
  · intro h
    rw [List.nodup_iff_pairwise_ne, List.pairwise_iff_getElem]
    intro i j hi hj hij
    have q := firstMet_full _ _ h i j hij hj
    rw [List.getD_eq_getElem?_getD, List.getD_eq_getElem?_getD, List.getElem?_eq_getElem hi, List.getElem?_eq_getElem hj] at q
    exact q
  · intro h
    rw [RZ.firstMet_nodup h ns.length (Nat.le_refl _), List.take_length]
def tLenSetJ (K : PySem.W.Frag) (ta : TE) : TE := fun σ H Q => ta σ H fun x H1 => ∃ (l : Addr) (ns : List Int), x = .ref l ∧ SqL K H1 l (ns.map V.int) ∧ ns.length ≤ 4000 ∧ ∀ m : Nat, (m = ns.length ↔ ns.Nodup) → Q (.int (m : Nat)) H1
theorem pe_lenSetJ {X : Cx} {a : Expr} {ta : TE} {p p2 q pos : Pos} (hg : Gl X "len") (hm : X.mg "len" = none) (hg2 : Gl X "set") (hm2 : X.mg "set" = none) (ha : PE X a ta) (hc : X.calm = true := by rfl)
    (na : starEach [a] X.env = (false, eval a X.env) :: starEach [] X.env := by rfl) : PE X (.Call (.Name "len" p) [.Call (.Name "set" p2) [a] [] q] [] pos) (tLenSetJ X.K ta) := by
  constructor
  intro pins s σ H Q I h
  refine Call_ (ld_blt I hg hm boot_len (PyProof.Rows.callWith_builtin1 (PyProof.Rows.args_cons (Call_ (ld_blt I hg2 hm2 boot_set ?_)) rfl) rfl rfl))
  refine PyProof.Rows.callWith_type1 (PyProof.Rows.args_cons (thn (ha.run pins s σ H _ I h) fun v s1 hh => PyProof.Rows.args_nil ?_) na) na rfl
  obtain ⟨x, H1, I1, r1, l, ns, rfl, hq, hl, q1⟩ := hh
  cases r1
  obtain ⟨its, r, pl, hz⟩ := I1.list hq
  have sz : its.toArray.size = ns.length := by rw [List.size_toArray, ← r.length, List.length_map]
  refine call_set_list (I1.ok.hd hc) pl.isList (by simpa using RZ.intsAre_vals r) (by rw [sz]; unfold scanBound; omega) fun h2 tk hS keep => PyProof.Rows.args_nil ?_
  rw [sz] at hS
  have l2 := firstMet_len (fun i => ns.getD i 0) ns.length
  obtain ⟨o, es, ep, tb, ho, hx, dd, _, _, _, hf, hn⟩ := hS
  have J : Inv X pins σ H1 { s1 with heap := h2, toks := tk } := I1.kept fun b u e => keep b u (Heap.lt_size e) e
  exact call_len_set ho hx dd hf (by rw [hn]; omega) ⟨.int ((PyProof.Rows.firstMet (fun i => ns.getD i 0) ns.length).length : Nat), H1, J.tok _, ⟨_, by rw [hn]⟩, q1 _ (firstMet_iff ns)⟩
end SE
namespace SE
open PySem PySem.Spec PyProof.Rows L2
theorem iteB {c : Bool} {A B : Prop} (ht : c = true → A) (hf : c = false → B) : if c = true then A else B := by
  cases c with
  | true => exact iteT (ht rfl)
  | false => exact iteF (hf rfl)
/-! ### what the checks of arrange answer, for any data -/
def whD : PyData → Bool
  | .int _ => true
  | _ => false
def betD (lo hi : Int) : PyData → Bool
  | .int i => decide (lo ≤ i) && decide (i ≤ hi)
  | _ => false
section
variable {P : Program} {w : World} {K : PySem.W.Frag} {mg : Str → Option Value} {base : Heap}
def spWh2 (K : PySem.W.Frag) : Sp := fun xs H Q _ => ∃ (v : V) (d : PyData), xs = [v] ∧ DpX K H v d ∧ Q (.bl (whD d)) H
theorem scWh2 : FnScope ["value"] ["value"] (defScope sIsWhole) := ⟨rfl, rfl, rfl, by decide +kernel, rfl, by decide +kernel, by decide +kernel⟩
theorem has_whole2 (D : Def K mg "is_whole" sIsWhole) (mis : mg "isinstance" = none) (mi : mg "int" = none) (mb : mg "bool" = none) : Has P w K mg base "is_whole" 1 ["value"] [] (spWh2 K) := by
  refine has_of D scWh2 (fun _ _ _ _ _ _ us hl => match us, hl with | [_], _ => rfl) (fun xs H Q E h => ?_) (fun f cv A out s H xs Q E hr h => ?_)
  · obtain ⟨v, d, rfl, _⟩ := h
    rfl
  · obtain ⟨v, d, rfl, hd, k⟩ := h
    refine ⟨_, pss_one (ps_ret (pe_and (pe_callB call_isi (by rfl) mis (by decide +kernel) (pa_cons (pv 0) (pa_cons (pe_bltn (v := .ty "int") (by rfl) mi (by decide +kernel) rfl) pa_nil)))
      (pe_one (pe_not (pe_callB call_isi (by rfl) mis (by decide +kernel) (pa_cons (pv 0) (pa_cons (pe_bltn (v := .ty "bool") (by rfl) mb (by decide +kernel) rfl) pa_nil))))))), ?_⟩
    refine ⟨_, rfl, _, .ty "int", .type (tyD d), .type "int", isInt d, rfl, .ty _, hd.ty, kit_int d, isInt d, rfl, ?_⟩
    refine iteB (fun e => ?_) (fun e => ?_)
    · refine ⟨_, rfl, _, .ty "bool", .type (tyD d), .type "bool", isBoo d, rfl, .ty _, hd.ty, kit_boo d, isBoo d, rfl, ?_⟩
      cases d with
      | int i => exact k
      | bool b => exact k
      | none => cases e
      | str _ => cases e
      | list _ => cases e
      | tuple _ => cases e
      | dict _ => cases e
    · cases d with
      | int i => cases e
      | bool b => cases e
      | none => exact k
      | str _ => exact k
      | list _ => exact k
      | tuple _ => exact k
      | dict _ => exact k
def spBe2 (K : PySem.W.Frag) : Sp := fun xs H Q _ => ∃ (v : V) (d : PyData) (lo hi : Int), xs = [v, .int lo, .int hi] ∧ DpX K H v d ∧ Q (.bl (betD lo hi d)) H
theorem scBet : FnScope ["value", "least", "most"] ["value", "least", "most"] (defScope sIsBetween) := ⟨rfl, rfl, rfl, by decide +kernel, rfl, by decide +kernel, by decide +kernel⟩
theorem has_bet2 (D : Def K mg "is_between" sIsBetween) (G : Has P w K mg base "is_whole" 1 ["value"] [] (spWh2 K)) : Has P w K mg base "is_between" 2 ["value", "least", "most"] [] (spBe2 K) := by
  refine has_of D scBet (fun _ _ _ _ _ _ us hl => match us, hl with | [_, _, _], _ => rfl) (fun xs H Q E h => ?_) (fun f cv A out s H xs Q E hr h => ?_)
  · obtain ⟨v, d, lo, hi, rfl, _⟩ := h
    rfl
  · obtain ⟨v, d, lo, hi, rfl, hd, k⟩ := h
    refine ⟨_, pss_one (ps_ret (pe_and (pe_has G hr (pa_cons (pv 0) pa_nil)) (pe_one (pe_chain op_le op_le (pv 1) (pv 0) (pv 2))))), ?_⟩
    refine ⟨_, rfl, v, d, rfl, hd, whD d, rfl, ?_⟩
    cases hd with
    | int i =>
      refine iteT ⟨_, rfl, _, rfl, lo, i, rfl, rfl, decide (lo ≤ i), rfl, ?_⟩
      have k : Q (.bl (decide (lo ≤ i) && decide (i ≤ hi))) H := k
      refine iteB (fun e => ?_) (fun e => ?_)
      · rw [e, Bool.true_and] at k
        exact ⟨_, rfl, i, hi, rfl, rfl, k⟩
      · rw [e, Bool.false_and] at k
        exact k
    | non => exact iteF k
    | bl b => exact iteF k
    | str z => exact iteF k
    | lst _ _ => exact iteF k
    | tup _ _ => exact iteF k
    | emp _ => exact iteF k
end
end SE
/-! Classes and methods called by keyword where exceptions may come, also within a try. -/
namespace SE
open PySem PySem.Spec PyProof.Rows L2
section
variable {X : Cx} {CT : CXT} {k n : Nat} {f C : Addr} {fd : FuncData} {ps ks : List Str} {sp : Sp} {x m : Str} {p pos apos : Pos} {e o : Expr} {es : List Expr} {kws : List Keyword} {te : TE} {t tk : TA} {ex : L2.St → XK}
  {g : List Value → List Value → List Value} {gV : List V → List V → List V}
/-- a def called with some arguments by keyword; ex σ is what is wished of its exceptions -/
theorem run_kwS {pins : List (Addr × Obj)} {σ : L2.St} {H : Hp} {s : Shared} {Q : VK} {us ws : List Value} {vs zs : List V} (F : FnOk X.prog X.w X.K X.mg X.base CT k f fd ps sp) (room : Room k X.A) (bd : KBn X.K fd ps n ks g gV)
    (out : PassesAt CT X σ (ex σ)) (I : Inv X pins σ H s) (r1 : Vals vs us) (r2 : Vals zs ws) (l1 : vs.length = n) (l2 : zs.length = ks.length) (h : sp (gV vs zs) H Q (ex σ)) :
    wpAny (model X.prog X.w) X.A (call (.ref f) us (ks.zip ws)) (EP X pins σ Q) X.xe s := by
  have to := bd.to s us ws I.kIn (r1.length.symm.trans l1) (r2.length.symm.trans l2)
  have run := F.run X.A X.stack s H ⟨us, ks.zip ws⟩ (g us ws) (gV vs zs) Q (ex σ) room I.env0 to (bd.rel r1 r2) h
  refine wpAny_call (codeAny_mono run fun res s2 done => ?_)
  match res, done with
  | .error ev, done => exact out pins H s ev s2 I done
  | .ok (.ret u), done => exact I.after done
  | .ok .next, done => exact done.elim
  | .ok .brk, done => exact done.elim
  | .ok .cont, done => exact done.elim
/-- a class called with some arguments by keyword -/
theorem run_mkS {pins : List (Addr × Obj)} {σ : L2.St} {H : Hp} {s : Shared} {Q : VK} {us ws : List Value} {vs zs : List V} (M : Mk X.K C f) (F : FnOk X.prog X.w X.K X.mg X.base CT k f fd ps sp) (room : Room (k + 1) X.A) (bd : KBn X.K fd ps (n + 1) ks g gV)
    (out : PassesAt CT X σ (ex σ)) (I : Inv X pins σ H s) (r1 : Vals vs us) (r2 : Vals zs ws) (l1 : vs.length = n) (l2 : zs.length = ks.length)
    (h : ∀ b db, H b = none → H db = none → db ≠ b → sp (gV (.ref b :: vs) zs) (upd (upd H db (.own b)) b (.ins C db [])) (fun v H2 => v = .non ∧ Q (.ref b) H2) (ex σ)) :
    wpAny (model X.prog X.w) X.A (call (.ref C) us (ks.zip ws)) (EP X pins σ Q) X.xe s := by
  have new := h (s.heap.objs.size + 1) s.heap.objs.size (I.hok.fresh (Nat.le_succ _)) (I.hok.fresh (Nat.le_refl _)) (Nat.ne_of_lt (Nat.lt_succ_self _))
  have made := Inv.made (C := C) I
  have rs : Vals (V.ref (s.heap.objs.size + 1) :: vs) (Value.ref (s.heap.objs.size + 1) :: us) := .cons rfl r1
  have len : (Value.ref (s.heap.objs.size + 1) :: us).length = n + 1 := congrArg (· + 1) (r1.length.symm.trans l1)
  have to := bd.to _ (Value.ref (s.heap.objs.size + 1) :: us) ws made.kIn len (r2.length.symm.trans l2)
  have run := F.run _ X.stack _ _ ⟨Value.ref (s.heap.objs.size + 1) :: us, ks.zip ws⟩ (g (Value.ref (s.heap.objs.size + 1) :: us) ws) _ _ (ex σ) (room.make C us (ks.zip ws)) (made.env0.make C us (ks.zip ws)) to (bd.rel rs r2) new
  refine wpAny_call (make_map (f := f) I.kIn M.makes M.init (beq_iff_eq.mp M.fn) (codeAny_mono run fun res s2 done => ?_))
  match res, done with
  | .error ev, done => exact out pins _ _ ev s2 made done
  | .ok (.ret u), done =>
    obtain ⟨v, H2, I2, rel, ev, q⟩ := made.after done
    subst ev
    exact ⟨rel, V.ref (s.heap.objs.size + 1), H2, I2, rfl, q⟩
  | .ok .next, done => exact done.elim
  | .ok .brk, done => exact done.elim
  | .ok .cont, done => exact done.elim
/-- C(e, .., k = v, ..) -/
def tMkS (C : Addr) (n m : Nat) (sp : Sp) (gV : List V → List V → List V) (ex : L2.St → XK) (t tk : TA) : TE := fun σ H Q => t σ H fun vs H1 => tk σ H1 fun zs H2 => vs.length = n ∧ zs.length = m ∧
  ∀ b db, H2 b = none → H2 db = none → db ≠ b → sp (gV (.ref b :: vs) zs) (upd (upd H2 db (.own b)) b (.ins C db [])) (fun v H3 => v = .non ∧ Q (.ref b) H3) (ex σ)
theorem pe_mkS (M : Mk X.K C f) (F : FnOk X.prog X.w X.K X.mg X.base CT k f fd ps sp) (room : Room (k + 1) X.A) (hm : X.mg x = some (.ref C)) (bd : KBn X.K fd ps (n + 1) ks g gV) (out : ∀ σ, PassesAt CT X σ (ex σ)) (ha : PA X (e :: es) t) (hk : PK X kws tk)
    (hks : (backToKw pos (keywordEach kws X.env)).filterMap (·.1) = ks := by rfl) (hall : (backToKw pos (keywordEach kws X.env)).all (·.1.isSome) = true := by rfl) (hg : Gl X x := by rfl) (hd : (x == ("__debug__" : Str)) = false := by decide)
    (he : starEach (e :: es) X.env = (false, eval e X.env) :: starEach es X.env := by rfl) (hpl : ((backTo pos (starEach (e :: es) X.env)).any (·.1) || (backToKw pos (keywordEach kws X.env)).any (·.1.isNone)) = false := by rfl) :
    PE X (.Call (.Name x p) (e :: es) kws pos) (tMkS C n ks.length sp gV ex t tk) := by
  constructor
  intro pins s σ H Q I w
  refine wpAny_Call_Name_kw (ld_glob I hg hm ?_ hd)
  refine PySem.W.callWith_KW (h₀ := X.base) I.ok.mod.kin M.kp hall (thn (ha.run pos pins s σ H _ I w) fun us s1 z => ?_) hpl he
  obtain ⟨vs, H1, I1, r1, w1⟩ := z
  refine thn (hk.run pos pins s1 σ H1 _ I1 w1) fun ws s2 z => ?_
  obtain ⟨zs, H2, I2, r2, l1, l2, w2⟩ := z
  rw [hks]
  exact ⟨I2.kIn, run_mkS M F room bd (out σ) I2 r1 r2 l1 l2 w2⟩
/-- o.m(e, .., k = v, ..) -/
def tMethS (C : Addr) (m : Str) (n j : Nat) (sp : Sp) (gV : List V → List V → List V) (ex : L2.St → XK) (te : TE) (t tk : TA) : TE := fun σ H Q => te σ H fun y H1 => ∃ b db fs, y = .ref b ∧ H1 b = some (.ins C db fs) ∧ fs.lookup m = none ∧
  t σ H1 fun vs H2 => tk σ H2 fun zs H3 => vs.length = n ∧ zs.length = j ∧ sp (gV (.ref b :: vs) zs) H3 Q (ex σ)
theorem pe_methS {pl : Sem Bool} (ho : PE X o te) (c : Cls X.K C) (hm : Meth X.K C m f) (F : FnOk X.prog X.w X.K X.mg X.base CT k f fd ps sp) (room : Room k X.A) (bd : KBn X.K fd ps (n + 1) ks g gV) (out : ∀ σ, PassesAt CT X σ (ex σ)) (ha : PA X (e :: es) t) (hk : PK X kws tk)
    (hks : (backToKw pos (keywordEach kws X.env)).filterMap (·.1) = ks := by rfl) (hall : (backToKw pos (keywordEach kws X.env)).all (·.1.isSome) = true := by rfl)
    (he : starEach (e :: es) X.env = (false, eval e X.env) :: starEach es X.env := by rfl) (hpl : ((backTo pos (starEach (e :: es) X.env)).any (·.1) || (backToKw pos (keywordEach kws X.env)).any (·.1.isNone)) = false := by rfl)
    (hev : eval (.Call (.Attribute o m apos) (e :: es) kws pos) X.env = (do
      let ov ← eval o X.env
      standAt apos.atName
      let (f, first) ← holding [ov] (getMethod ov m pl)
      callWith pos f first (backTo pos (starEach (e :: es) X.env)) (backToKw pos (keywordEach kws X.env))) := by rfl) :
    PE X (.Call (.Attribute o m apos) (e :: es) kws pos) (tMethS C m n ks.length sp gV ex te t tk) := by
  constructor
  intro pins s σ H Q I w
  refine PySem.W.methodCall_KW (pl := pl) (thn (ho.run pins s σ H _ I w) fun u s1 z => ?_) hev
  obtain ⟨y, H1, I1, ry, b, db, fs, ey, hb, lk, w1⟩ := z
  subst ey
  obtain rfl : u = Value.ref b := ry
  refine getmeth_ok I1 hb c hm lk ?_
  refine PySem.W.callWith_KW (first := [.ref b]) (h₀ := X.base) I.ok.mod.kin hm.kp hall (thn (ha.run pos pins s1 σ H1 _ I1 w1) fun us s2 z => ?_) hpl he
  obtain ⟨vs, H2, I2, r1, w2⟩ := z
  refine thn (hk.run pos pins s2 σ H2 _ I2 w2) fun ws s3 z => ?_
  obtain ⟨zs, H3, I3, r2, l1, l2, w3⟩ := z
  rw [hks]
  exact ⟨I3.kIn, run_kwS (n := n + 1) (us := .ref b :: us) (vs := .ref b :: vs) F room bd (out σ) I3 (.cons rfl r1) r2 (congrArg (· + 1) l1) l2 w3⟩
/-! ### a static method of a class -/
/-- C.m is a staticmethod: its record at p, its def at f -/
structure SMet (K : PySem.W.Frag) (C : Addr) (mc : Value) (m : Str) (p f : Addr) : Prop where
  at_ : PySem.W.findCls K (.ref C) mc m = some (.get (.builtin "staticmethod.__get__") (.ref p) .none (.ref C))
  rc : ∃ rest, PySem.W.recIn K p "staticmethod" = some (.ref f :: rest)
  kp : PySem.W.keepIn K (.ref f) = true
/-- a def by its promise on positional values, exceptions as ex σ wishes -/
theorem run_rS {pins : List (Addr × Obj)} {σ : L2.St} {H : Hp} {s : Shared} {Q : VK} {us : List Value} {vs : List V} (F : FnR X.prog X.w X.K X.mg X.base CT k f sp) (room : Room k X.A) (out : PassesAt CT X σ (ex σ)) (I : Inv X pins σ H s) (r : Vals vs us) (h : sp vs H Q (ex σ)) :
    wpAny (model X.prog X.w) X.A (call (.ref f) us) (EP X pins σ Q) X.xe s := by
  refine wpAny_call (codeAny_mono (F X.A X.stack s H us vs Q (ex σ) room I.env0 r h) fun res s2 done => ?_)
  match res, done with
  | .error ev, done => exact out pins H s ev s2 I done
  | .ok (.ret u), done => exact I.after done
  | .ok .next, done => exact done.elim
  | .ok .brk, done => exact done.elim
  | .ok .cont, done => exact done.elim
/-- C.m(e, ..) of a staticmethod -/
def tSMeth (C : Addr) (sp : Sp) (ex : L2.St → XK) (te : TE) (t : TA) : TE := fun σ H Q => te σ H fun y H1 => y = .ref C ∧ t σ H1 fun vs H2 => sp vs H2 Q (ex σ)
theorem pe_smeth {pl : Sem Bool} {mc : Value} {q : Addr} (ho : PE X o te) (rd : ClX.CRead X.K C mc) (c : SMet X.K C mc m q f) (F : FnR X.prog X.w X.K X.mg X.base CT k f sp) (room : Room k X.A) (out : ∀ σ, PassesAt CT X σ (ex σ)) (ha : PA X (e :: es) t)
    (he : starEach (e :: es) X.env = (false, eval e X.env) :: starEach es X.env := by rfl) (hpl : (backTo pos (starEach es X.env)).any (·.1) = false := by rfl)
    (hev : eval (.Call (.Attribute o m apos) (e :: es) [] pos) X.env = (do
      let ov ← eval o X.env
      standAt apos.atName
      let (f, first) ← holding [ov] (getMethod ov m pl)
      callWith pos f first (backTo pos (starEach (e :: es) X.env)) (backToKw pos (keywordEach [] X.env))) := by rfl) :
    PE X (.Call (.Attribute o m apos) (e :: es) [] pos) (tSMeth C sp ex te t) := by
  constructor
  intro pins s σ H Q I w
  refine PySem.W.methodCall_KW (pl := pl) (thn (ho.run pins s σ H _ I w) fun u s1 z => ?_) hev
  obtain ⟨y, H1, I1, ry, ey, w1⟩ := z
  subst ey
  obtain rfl : u = Value.ref C := ry
  obtain ⟨rest, rec⟩ := c.rc
  refine PySem.W.method_cls I1.kIn rd.ga (PySem.W.cls_bind I1.kIn rd.rd c.at_ ?_)
  refine wpAny_call (PySem.W.sm_get (s := { s1 with toks := s1.toks + 1 }) I1.kIn rec (PySem.W.handed_on rfl ?_))
  have I2 : Inv X pins σ H1 { s1 with toks := s1.toks + 1 } := I1.tok _
  refine PySem.W.callWith_K (first := []) (h₀ := X.base) I.ok.mod.kin c.kp (thn (ha.run pos pins _ σ H1 _ I2 w1) fun us s3 z => ?_) he hpl
  obtain ⟨vs, H3, I3, r3, w3⟩ := z
  exact ⟨I3.kIn, run_rS F room (out σ) I3 r3 w3⟩
end
end SE
/-! Several clauses 'except C as e', all with the same name e. -/
namespace SE
open PySem PySem.Spec PyProof.Rows L2
abbrev Clause := Value × (Addr → Value → Option Addr → TS)
/-- the clauses' wishes: each passes on to the next what is not its own -/
def wAsL (K : PySem.W.Frag) (i : Nat) (out : WX) (D : Ends) : List Clause → WX
  | [] => out
  | (c, ts) :: more => wAs K c i ts (wAsL K i out D more) D
/-- each clause names its class and has its suite -/
inductive AsOk (X : Cx) (n : Str) : List ExceptHandler → List Clause → Prop
  | nil : AsOk X n [] []
  | cons {y : Str} {c : Value} {ts : Addr → Value → Option Addr → TS} {first : Stmt} {rest : List Stmt} {p1 p2 : Pos} {more : List ExceptHandler} {cl : List Clause} (name : Names X y c)
      (suite : ∀ (b : Addr) (ob : Obj) (cv : Value) (fld : Option Addr) (kept : List (Addr × Obj)),
        Zc cv fld ob → (∃ fs, ob.data = .fields fs) → PSs (X.suite b ((b, ob) :: kept)) (first :: rest) (ts b cv fld))
      (tail : AsOk X n more cl) :
      AsOk X n (.ExceptHandler (some (.Name y p1)) (some n) (first :: rest) p2 :: more) ((c, ts) :: cl)
section
variable {X : Cx} {n : Str} {i : Nat} {main : List Stmt} {top : ExceptHandler} {more : List ExceptHandler} {cl : List Clause} {at_ : Pos} {tm : WX → TS} {out : WX}
theorem ps_try_asL (e1 : X.stack = X.env :: X.outer) (e2 : X.env.frame = some X.env.locals) (nod : X.N.Nodup) (slot : X.N[i]? = some n) (lo : X.env.kindOf n = some .local) (up : Takes X out)
    (hm : ∀ (W : WX) (kept : List (Addr × Obj)) (x2 : Value → Shared → Prop),
      Takes (X.tr kept x2) W → PassesOwn (model X.prog X.w) X.A X.env x2 → PSs (X.tr kept x2) main (tm W))
    (ok : AsOk X n (top :: more) cl) : PS X (.Try main (top :: more) [] [] at_) (fun D σ H => tm (wAsL X.K i out D cl) D σ H) := by
  constructor
  intro pins s0 σ0 H0 D I0 w0
  have inv := I0.ok
  have frames : X.A.frames = some (X.env :: X.outer) := inv.frames.trans (by rw [e1])
  apply wpAny_Try_except
  have big := (hm (wAsL X.K i out D cl) (X.pn ++ pins)
    (fun ev t1 => wpAny (model X.prog X.w) X.A (noteFrame ev X.env)
      (fun _ t2 => wpAny (model X.prog X.w) X.A (setFlight ev none)
        (fun _ t3 => wpAny (model X.prog X.w) X.A
          (handleBy ev X.env (top :: more)) (SP X pins D) X.xe t3) X.xe t2) X.xe t1) ?takes PassesOwn.looking).run [] s0 σ0 H0 D (I0.toTry _) w0
  case takes =>
    rintro u t ⟨b, B, sB, pb, σ, H, cv, fld, rfl, Jt, nb, grow, sky, free, os, ag, wish⟩
    have J : Inv X pins σ H sB := Jt.ofTry inv
    rw [e1] at sky
    show wpAny (model X.prog X.w) X.A (noteFrame (.ref b) X.env) _ _ _
    refine Sky.land Zc.steady frames e2 sky (fun h5 land grow5 => ?_)
    have J5 : Inv X pins σ H { t with heap := h5 } := J.landed nb land.1 (grow.trans grow5) os ag
    obtain ⟨ob5, fs5, there5, zc5, data5⟩ := land.there
    have apart : b ∉ frs (X.env :: X.outer) := fun hin => by
      obtain ⟨_, o2, at2, no⟩ := land.2.2.1.mem hin
      rw [there5] at at2
      cases at2
      exact no _ data5
    have ne1 : b ≠ X.env.locals := fun e => apart (List.mem_filterMap.mpr ⟨X.env, List.mem_cons_self, by rw [e2, e]⟩)
    have ne2 : b ∉ X.fs := fun hin => by
      obtain ⟨v, hv, hq⟩ := List.mem_filterMap.mp hin
      exact apart (List.mem_filterMap.mpr ⟨v, List.mem_cons_of_mem _ hv, hq⟩)
    have S5 := J5.suite there5 data5 free ne1 ne2
    -- clause by clause
    suffices walk : ∀ {hs : List ExceptHandler} {cs : List Clause}, AsOk X n hs cs → wAsL X.K i out D cs cv fld σ H →
        wpAny (model X.prog X.w) X.A (handleBy (.ref b) X.env hs) (SP X pins D) X.xe { t with heap := h5 } from walk ok wish
    intro hs cs good
    induction good with
    | nil =>
      intro wish
      refine wpAny_handleBy_nil ?_
      obtain ⟨k1, k2, k3, o6, f6, T6, oT6, ts6, at6, z6, d6, first6, rest6⟩ := id land
      unfold PySem.passOn
      refine wpAny_bind (wpAny_field at6 d6 first6 ?_)
      rw [if_neg (show ¬ ((Value.ref T6 == Value.none) = true) from by simp)]
      have leave : wpAny (model X.prog X.w) X.A (setFlight (.ref b) X.env.frame)
          (fun _ t7 => wpAny (model X.prog X.w) X.A (throw (.ref b) : Sem Flow) (SP X pins D) X.xe t7) X.xe { t with heap := h5 } := by
        rw [e2]
        refine HandSPX.setFlight_upZ land fun h7 land7 grow7 => wpAny_throw (up _ _ ?_)
        refine ⟨b, B, sB, pins, σ, H, cv, fld, rfl, J, nb, (grow.trans grow5).trans grow7, .inr (.inr ?_), free, os, ag, wish⟩
        rw [e1]
        exact land7
      first
        | exact wpAny_bind (wpAny_pure (wpAny_bind leave))
        | exact wpAny_bind leave
    | @cons y c ts first rest p1 p2 more2 cl2 name suite tail ih =>
      intro wish
      obtain ⟨hit, match1, yes, no⟩ := wish
      refine wpAny_handleBy_cons (codeAny_handlers_test ?_) (fun q => by cases q)
      have kind : PySem.W.Looks (model X.prog X.w) h5 (typeOf (.ref b)) cv := fun A Q E s k q => by
        refine wpAny_typeOf_ref (k _ _ there5) ?_
        rw [zc5.1]
        exact q
      have found := PySem.W.exm_one (M := model X.prog X.w) J5.kIn kind match1
      have look : ∀ {Q E : Value → Shared → Prop}, Q c { t with heap := h5 } →
          wpAny (model X.prog X.w) (X.A.mark (some (.ref b))) (eval (.Name y p1) X.env) Q E { t with heap := h5 } := fun q => by
        obtain ⟨g1, g2, own | ⟨g3, g4, g5⟩⟩ := name
        · exact ld_glob (X := X.suite b ((b, ob5) :: (X.pn ++ pins))) S5 g1 own q g2
        · exact ld_blt (X := X.suite b ((b, ob5) :: (X.pn ++ pins))) S5 g1 g3 g4 q g5 g2
      refine look (found.here ?_)
      cases hit with
      | false => exact ih (no rfl)
      | true =>
        refine codeAny_handlers_suite_as (HandSPX.lands_againZ land fun h8 land8 grow8 => ?_)
        have J8 : Inv X pins σ H { t with heap := h8 } := J.landed nb land8.1 ((grow.trans grow5).trans grow8) os ag
        obtain ⟨ob8, fs8, there8, zc8, data8⟩ := land8.there
        have S8 := J8.suite there8 data8 free ne1 ne2
        refine store_ok (X := X.suite b ((b, ob8) :: (X.pn ++ pins))) (v := .ref b) S8 nod slot (.inl lo) rfl (fun t9 S9 => ?_) (.inr lo)
        have run := (suite b ob8 cv fld (X.pn ++ pins) zc8 ⟨_, data8⟩).run [] t9 _ H _ S9 (yes rfl b free)
        refine wpAny_mono run (fun fl tA done => ?_) (fun _ _ z => z.elim)
        have clear : ∀ {σA : L2.St} {HA : Hp} {Q : Shared → Prop}, Inv (X.suite b ((b, ob8) :: (X.pn ++ pins))) [] σA HA tA →
            (∀ tB, Inv X pins (σA.set i none) HA tB → Q tB) →
            wpAny (model X.prog X.w) X.A (do bindName X.env n .none; unbindBehindTheSuite X.env n p2) (fun _ tB => Q tB) X.xe tA :=
          fun SA goal => gone_ok (SA.unsuite inv) nod slot lo goal
        match fl, done with
        | .next, ⟨_, _, SA, q⟩ => exact clear SA fun tB JB => ⟨_, _, JB, q⟩
        | .brk, ⟨_, _, SA, q⟩ => exact clear SA fun tB JB => ⟨_, _, JB, q⟩
        | .cont, ⟨_, _, SA, q⟩ => exact clear SA fun tB JB => ⟨_, _, JB, q⟩
        | .ret u, ⟨_, _, _, SA, rel, q⟩ => exact clear SA fun tB JB => ⟨_, _, _, JB, rel, q⟩
  refine wpAny_mono big (fun fl t done => ?_) (fun _ _ z => z)
  match fl, done with
  | .next, ⟨_, _, J, q⟩ => exact wpAny_execs_nil ⟨_, _, J.ofTry inv, q⟩
  | .brk, ⟨_, _, J, q⟩ => exact ⟨_, _, J.ofTry inv, q⟩
  | .cont, ⟨_, _, J, q⟩ => exact ⟨_, _, J.ofTry inv, q⟩
  | .ret u, ⟨_, _, _, J, rel, q⟩ => exact ⟨_, _, _, J.ofTry inv, rel, q⟩
end
end SE
namespace SE
open PySem PySem.Spec PyProof.Rows L2
/-! ### what is refused -/
def bad (C : Addr) (H : Hp) (v : V) (E : XK) : Prop := ∀ (dd : Addr) (H' : Hp), Same H H' → H dd = none → H' dd = some (.xd [("value", v)]) → E (.ref C) (some dd) H'
theorem bad.go {C : Addr} {H H1 : Hp} {v : V} {E : XK} (h : bad C H v E) (s : Same H H1) : bad C H1 v E := fun dd H' s' n e => h dd H' (s.trans s') (s.free n) e
def badI (C : Addr) (H : Hp) (v : V) (E : XK) : Prop := ∀ (dd : Addr) (H' : Hp), Same H H' → H dd = none → H' dd = some (.xd [("index", v)]) → E (.ref C) (some dd) H'
theorem badI.go {C : Addr} {H H1 : Hp} {v : V} {E : XK} (h : badI C H v E) (s : Same H H1) : badI C H1 v E := fun dd H' s' n e => h dd H' (s.trans s') (s.free n) e
/-- steps that are refused, and what the refusal names -/
def BadN (d : PyData) (r : V) : Prop := (mayD d = false ∧ r = .non) ∨
  ∃ ds j x, (d = .list ds ∨ d = .tuple ds) ∧ ds.length ≤ 1000 ∧ ds[j]? = some x ∧ stpD x = false ∧ (∀ i y, i < j → ds[i]? = some y → stpD y = true) ∧ (∀ i y, i ≤ j → ds[i]? = some y → OkD y) ∧ r = .int (j : Nat)
section
variable {P : Program} {w : World} {K : PySem.W.Frag} {mg : Str → Option Value} {base : Heap}
/-! ### check_steps, of what is refused -/
def spBadS (K : PySem.W.Frag) (C : Addr) : Sp := fun xs H Q E => ∃ (v : V) (d : PyData) (r : V), xs = [v] ∧ DpX K H v d ∧ OkD d ∧ BadN d r ∧ badI C H r E
theorem hasX_chk {C : Addr} (D : Def K mg "check_steps" sChkSteps) (GM : Has P w K mg base "may_hold_steps" 1 ["value"] [] (spX K mayD)) (GS : Has P w K mg base "is_step" 2 ["value"] [] (spX K stpD)) (T : XcC P w K mg base "InvalidSteps" "index" C) (B : Blt mg) : HasX P w K mg base "check_steps" 3 ["steps"] [] (spBadS K C) := by
  refine hasX_of D scChk (fun _ _ _ _ _ _ us hl => match us, hl with | [_], _ => rfl) (fun xs H Q E h => ?_) (fun f cv A out s H xs Q E hr h => ?_)
  · obtain ⟨v, d, r, rfl, _⟩ := h
    rfl
  · obtain ⟨v, d, r, rfl, hd, ok, hb, k⟩ := h
    have hr1 : Room 1 _ := hr.mono (by decide)
    have hr2 : Room 2 _ := hr.mono (by decide)
    have tail : ∀ {ds : List PyData} {ys : List V} {j : Nat} {x : PyData}, DpXs K H ys ds → ds[j]? = some x → stpD x = false → (∀ i y, i < j → ds[i]? = some y → stpD y = true) → (∀ i y, i ≤ j → ds[i]? = some y → OkD y) → ∀ {i : Nat} {y : V} {H2 : Hp}, ys[i]? = some y → i ≤ j → Same H H2 → ∃ e, DpX K H2 y e ∧ OkD e ∧ (i < j → stpD e = true) ∧ (i = j → stpD e = false) := by
      intro ds ys j x hV hj hx hg hn i y H2 hy hi s2
      obtain ⟨e, he, hD⟩ := hV.at hy
      refine ⟨e, DpX.same s2 _ _ hD, hn i e hi he, fun q => hg i e q he, fun q => ?_⟩
      rw [q, hj] at he
      cases he
      exact hx
    rcases hb with ⟨hm, rfl⟩ | ⟨ds, j, x, hds, hl, hj, hx, hg, hn, rfl⟩
    · refine ⟨_, pss_cons (ps_if (pt_not (pt_val (pe_has GM hr1 (pa_cons (pv 0) pa_nil)))) (pss_one (ps_raiseX rfl T hr2 tkX (pa_cons pe_non pa_nil))) pss_nil) pss_never, ?_⟩
      refine ⟨_, rfl, v, d, rfl, hd, ok, fun H1 s1 => ⟨mayD d, rfl, ?_⟩⟩
      rw [hm]
      exact iteT (mk_red fun dd hdd => k dd _ (s1.trans (Same.new hdd)) (s1.free hdd) upd_same)
    · have hm : mayD d = true := by
        rcases hds with q | q
        · rw [q]; exact decide_eq_true hl
        · rw [q]; exact decide_eq_true hl
      have jl := (List.getElem?_eq_some_iff.mp hj).1
      rcases hds with rfl | rfl
      · refine ⟨_, pss_cons (ps_if (pt_not (pt_val (pe_has GM hr1 (pa_cons (pv 0) pa_nil)))) (pss_one (ps_raiseX rfl T hr2 tkX (pa_cons pe_non pa_nil))) pss_nil)
          (pss_one (ps_for (passes_of rfl) rfl (pi_enum (by rfl) B.enu (pa_cons (pv 0) pa_nil)) (pg_tup (by rfl) (pgs_cons (pg_name (i := 1) scChk.nd rfl (.inl rfl)) (pgs_cons (pg_name (i := 2) scChk.nd rfl (.inl rfl)) pgs_nil)))
            (pss_one (ps_if (pt_not (pt_val (pe_has GS hr (pa_cons (pv 2) pa_nil)))) (pss_one (ps_raiseX rfl T hr2 tkX (pa_cons (pv 1) pa_nil))) pss_nil)))), ?_⟩
        refine ⟨_, rfl, v, _, rfl, hd, ok, fun H1 s1 => ⟨mayD (.list ds), rfl, ?_⟩⟩
        rw [hm]
        cases hd with
        | @lst a ys _ hS hV =>
        have ly := hV.len
        refine iteF ⟨_, rfl, a, ys, rfl, Same.seq s1 hS, for_it (walk_enum (K := K) (a := a) (xs := ys)) (fun i σ H2 => ∃ y1 y2, σ = [some (.ref a), y1, y2] ∧ Same H H2 ∧ i ≤ j) ⟨none, none, rfl, s1, Nat.zero_le _⟩ (fun i σ H2 _ q => ?_) ?_ ?_⟩
        · obtain ⟨_, _, _, s2, _⟩ := q
          exact Same.seq s2 hS
        · rintro i x σ H2 H3 hi ⟨y1, y2, rfl, s2, ij⟩ ⟨T', p, y, rfl, nT, rfl, hp, hy⟩
          cases Option.some.inj hp
          refine ⟨T', _, rfl, .of upd_same, rfl, _, _, rfl, _, _, rfl, rfl, ?_⟩
          have s3 : Same H (upd H2 T' (.tup [.int (i : Nat), y])) := Same.free2 s2 (s2.free nT)
          obtain ⟨e, h1, h2, h3, h4⟩ := tail hV hj hx hg hn hy ij s3
          refine ⟨_, rfl, y, e, rfl, h1, h2, fun H4 s4 => ⟨stpD e, rfl, ?_⟩⟩
          have s5 := s3.trans s4
          by_cases c : i = j
          · rw [h4 c]
            refine iteT ⟨_, rfl, mk_red fun dd hdd => ?_⟩
            rw [c] at *
            exact k dd _ (s5.trans (Same.new hdd)) (s5.free hdd) upd_same
          · rw [h3 (by omega)]
            exact iteF ⟨_, _, rfl, s5, by omega⟩
        · rintro σ H2 ⟨y1, y2, rfl, s2, ij⟩
          omega
      · refine ⟨_, pss_cons (ps_if (pt_not (pt_val (pe_has GM hr1 (pa_cons (pv 0) pa_nil)))) (pss_one (ps_raiseX rfl T hr2 tkX (pa_cons pe_non pa_nil))) pss_nil)
          (pss_one (ps_for (passes_of rfl) rfl (pi_enumT (by rfl) B.enu (pa_cons (pv 0) pa_nil)) (pg_tup (by rfl) (pgs_cons (pg_name (i := 1) scChk.nd rfl (.inl rfl)) (pgs_cons (pg_name (i := 2) scChk.nd rfl (.inl rfl)) pgs_nil)))
            (pss_one (ps_if (pt_not (pt_val (pe_has GS hr (pa_cons (pv 2) pa_nil)))) (pss_one (ps_raiseX rfl T hr2 tkX (pa_cons (pv 1) pa_nil))) pss_nil)))), ?_⟩
        refine ⟨_, rfl, v, _, rfl, hd, ok, fun H1 s1 => ⟨mayD (.tuple ds), rfl, ?_⟩⟩
        rw [hm]
        cases hd with
        | @tup a ys _ hS hV =>
        have ly := hV.len
        refine iteF ⟨_, rfl, a, ys, rfl, Same.tup s1 hS, for_it (walk_enumT (K := K) (a := a) (xs := ys)) (fun i σ H2 => ∃ y1 y2, σ = [some (.ref a), y1, y2] ∧ Same H H2 ∧ i ≤ j) ⟨none, none, rfl, s1, Nat.zero_le _⟩ (fun i σ H2 _ q => ?_) ?_ ?_⟩
        · obtain ⟨_, _, _, s2, _⟩ := q
          exact Same.tup s2 hS
        · rintro i x σ H2 H3 hi ⟨y1, y2, rfl, s2, ij⟩ ⟨T', p, y, rfl, nT, rfl, hp, hy⟩
          cases Option.some.inj hp
          refine ⟨T', _, rfl, .of upd_same, rfl, _, _, rfl, _, _, rfl, rfl, ?_⟩
          have s3 : Same H (upd H2 T' (.tup [.int (i : Nat), y])) := Same.free2 s2 (s2.free nT)
          obtain ⟨e, h1, h2, h3, h4⟩ := tail hV hj hx hg hn hy ij s3
          refine ⟨_, rfl, y, e, rfl, h1, h2, fun H4 s4 => ⟨stpD e, rfl, ?_⟩⟩
          have s5 := s3.trans s4
          by_cases c : i = j
          · rw [h4 c]
            refine iteT ⟨_, rfl, mk_red fun dd hdd => ?_⟩
            rw [c] at *
            exact k dd _ (s5.trans (Same.new hdd)) (s5.free hdd) upd_same
          · rw [h3 (by omega)]
            exact iteF ⟨_, _, rfl, s5, by omega⟩
        · rintro σ H2 ⟨y1, y2, rfl, s2, ij⟩
          omega

/-! ### check_word, check_limit -/
def spCwX (K : PySem.W.Frag) (C : Addr) : Sp := fun xs H Q E => ∃ (v : V) (d : PyData), xs = [v] ∧ DpX K H v d ∧ OkD d ∧ (wordD d = true → ∀ H', Same H H' → Q .non H') ∧ (wordD d = false → bad C H v E)
theorem scKw : FnScope ["word"] ["word"] (defScope sChkWord) := ⟨rfl, rfl, rfl, by decide +kernel, rfl, by decide +kernel, by decide +kernel⟩
theorem hasX_cw {C : Addr} (D : Def K mg "check_word" sChkWord) (G : Has P w K mg base "is_word" 2 ["value"] [] (spX K wordD)) (T : XcC P w K mg base "InvalidWord" "value" C) : HasX P w K mg base "check_word" 3 ["word"] [] (spCwX K C) := by
  refine hasX_of D scKw (fun _ _ _ _ _ _ us hl => match us, hl with | [_], _ => rfl) (fun xs H Q E h => ?_) (fun f cv A out s H xs Q E hr h => ?_)
  · obtain ⟨v, d, rfl, _⟩ := h
    rfl
  · obtain ⟨v, d, rfl, hd, ok, kY, kN⟩ := h
    refine ⟨_, pss_one (ps_if (pt_not (pt_val (pe_has G hr (pa_cons (pv 0) pa_nil)))) (pss_one (ps_raiseX rfl T hr tkX (pa_cons (pv 0) pa_nil))) pss_nil), ?_⟩
    refine ⟨_, rfl, v, d, rfl, hd, ok, fun H1 s1 => ⟨wordD d, rfl, ?_⟩⟩
    cases hw : wordD d with
    | true => exact iteF (kY hw H1 s1)
    | false =>
      refine iteT ⟨_, rfl, mk_red fun dd hdd => ?_⟩
      exact kN hw dd _ (s1.trans (Same.new hdd)) (s1.free hdd) upd_same
def limD (d : PyData) : Bool := match d with
  | .none => true
  | d => betD 0 1000 d
def spLmX (K : PySem.W.Frag) : Sp := fun xs H Q _ => ∃ (v : V) (d : PyData), xs = [v] ∧ DpX K H v d ∧ Q (.bl (limD d)) H
theorem scLm : FnScope ["value"] ["value"] (defScope sIsLimit) := ⟨rfl, rfl, rfl, by decide +kernel, rfl, by decide +kernel, by decide +kernel⟩
theorem scCl : FnScope ["limit"] ["limit"] (defScope sChkLimit) := ⟨rfl, rfl, rfl, by decide +kernel, rfl, by decide +kernel, by decide +kernel⟩
theorem has_limX (D : Def K mg "is_limit" sIsLimit) (G : Has P w K mg base "is_between" 2 ["value", "least", "most"] [] (spBe2 K)) (hM : ∃ t, mg "MOST_LIMIT" = some (.int 1000 t)) : Has P w K mg base "is_limit" 3 ["value"] [] (spLmX K) := by
  obtain ⟨t, hM⟩ := hM
  refine has_of D scLm (fun _ _ _ _ _ _ us hl => match us, hl with | [_], _ => rfl) (fun xs H Q E h => ?_) (fun f cv A out s H xs Q E hr h => ?_)
  · obtain ⟨v, d, rfl, _⟩ := h
    rfl
  · obtain ⟨v, d, rfl, hd, k⟩ := h
    refine ⟨_, pss_one (ps_ret (pe_or (pe_cmpR op_isN (pv 0) pe_non (nomark _)) (pe_one (pe_has G hr (pa_cons (pv 0) (pa_cons pe_int (pa_cons (pe_glob (v := .int 1000) rfl hM ⟨_, rfl⟩) pa_nil))))))), ?_⟩
    cases hd with
    | non => exact ⟨_, rfl, rfl, true, rfl, iteT k⟩
    | int i => exact ⟨_, rfl, rfl, false, rfl, iteF ⟨_, rfl, _, _, _, _, rfl, .int i, k⟩⟩
    | bl b => exact ⟨_, rfl, rfl, false, rfl, iteF ⟨_, rfl, _, _, _, _, rfl, .bl b, k⟩⟩
    | str z => exact ⟨_, rfl, rfl, false, rfl, iteF ⟨_, rfl, _, _, _, _, rfl, .str z, k⟩⟩
    | lst h1 h2 => exact ⟨_, rfl, rfl, false, rfl, iteF ⟨_, rfl, _, _, _, _, rfl, .lst h1 h2, k⟩⟩
    | tup h1 h2 => exact ⟨_, rfl, rfl, false, rfl, iteF ⟨_, rfl, _, _, _, _, rfl, .tup h1 h2, k⟩⟩
    | emp h1 => exact ⟨_, rfl, rfl, false, rfl, iteF ⟨_, rfl, _, _, _, _, rfl, .emp h1, k⟩⟩
def spClX (K : PySem.W.Frag) (C : Addr) : Sp := fun xs H Q E => ∃ (v : V) (d : PyData), xs = [v] ∧ DpX K H v d ∧ (limD d = true → Q .non H) ∧ (limD d = false → bad C H v E)
theorem hasX_cl {C : Addr} (D : Def K mg "check_limit" sChkLimit) (G : Has P w K mg base "is_limit" 3 ["value"] [] (spLmX K)) (T : XcC P w K mg base "InvalidNumber" "value" C) : HasX P w K mg base "check_limit" 4 ["limit"] [] (spClX K C) := by
  refine hasX_of D scCl (fun _ _ _ _ _ _ us hl => match us, hl with | [_], _ => rfl) (fun xs H Q E h => ?_) (fun f cv A out s H xs Q E hr h => ?_)
  · obtain ⟨v, d, rfl, _⟩ := h
    rfl
  · obtain ⟨v, d, rfl, hd, kY, kN⟩ := h
    have hr2 : Room 2 _ := hr.mono (by decide)
    refine ⟨_, pss_one (ps_if (pt_not (pt_val (pe_has G hr (pa_cons (pv 0) pa_nil)))) (pss_one (ps_raiseX rfl T hr2 tkX (pa_cons (pv 0) pa_nil))) pss_nil), ?_⟩
    refine ⟨_, rfl, v, d, rfl, hd, limD d, rfl, ?_⟩
    cases hw : limD d with
    | true => exact iteF (kY hw)
    | false => exact iteT ⟨_, rfl, mk_red fun dd hdd => kN hw dd _ (Same.new hdd) hdd upd_same⟩
end
end SE
namespace SE
open PySem PySem.Spec PyProof.Rows L2
abbrev sOf : Stmt := inClass sEffect 1
abbrev sApply : Stmt := inClass sEffect 12
/-- a peak that is refused beside the least one -/
def BadPk (d : PyData) (l : Int) : Prop := d ≠ .none ∧ (whD d = false ∨ ∃ p, d = .int p ∧ p < l)
section
variable {P : Program} {w : World} {K : PySem.W.Frag} {mg : Str → Option Value} {base : Heap} {C CW CN CS : Addr}
/-! ### Effect(..) of what is refused -/
def spInitX (K : PySem.W.Frag) (C CW CN : Addr) : Sp := fun vs H Q E => ∃ (x dx : Addr) (u v pk : V) (du dv dp : PyData), vs = [.ref x, u, v, pk] ∧ H x = some (.ins C dx []) ∧ DpX K H u du ∧ OkD du ∧ DpX K H v dv ∧ OkD dv ∧ DpX K H pk dp ∧
  ((wordD du = false ∧ bad CW H u E) ∨ (wordD du = true ∧ wordD dv = false ∧ bad CW H v E) ∨
   (wordD du = true ∧ wordD dv = true ∧ bad CN H pk E ∧ ∃ a b xs ys, u = .ref a ∧ v = .ref b ∧ SqT K H a (xs.map V.str) ∧ SqT K H b (ys.map V.str) ∧ BadPk dp (lp xs ys)))
theorem ok_initX {f : Addr} {fd : FuncData} (F : Fun K "__init__" "Effect.__init__" sInit f fd) (GW : HasX P w K mg base "check_word" 3 ["word"] [] (spCwX K CW)) (GL : Has P w K mg base "least_peak" 1 ["pops", "pushes"] [] (spLeast K)) (GH : Has P w K mg base "is_whole" 1 ["value"] [] (spWh2 K))
    (TN : XcC P w K mg base "InvalidNumber" "value" CN) : FnOk P w K mg base (L2.CX P w) 4 f fd pInit (spInitX K C CW CN) := by
  refine F.okX scIn (fun vs H Q E h => ?_) (fun cv A out s H vs Q E hr h => ?_)
  · obtain ⟨x, dx, u, v, pk, du, dv, dp, rfl, _⟩ := h
    rfl
  · obtain ⟨x, dx, u, v, pk, du, dv, dp, rfl, hx, hu, ou, hv, ov, hp, h⟩ := h
    have hr1 : Room 1 _ := hr.mono (by decide)
    have hr2 : Room 2 _ := hr.mono (by decide)
    rcases h with ⟨w1, k⟩ | ⟨w1, w2, k⟩ | ⟨w1, w2, k, a, b, xs, ys, rfl, rfl, ha, hb, bp⟩
    · refine ⟨_, pss_cons (ps_expr (pe_hasX GW hr tkX (pa_cons (pv 1) pa_nil))) pss_never, ?_⟩
      exact ⟨_, rfl, u, du, rfl, hu, ou, fun z => (by rw [w1] at z; cases z), fun _ => k⟩
    · refine ⟨_, pss_cons (ps_expr (pe_hasX GW hr tkX (pa_cons (pv 1) pa_nil))) (pss_cons (ps_expr (pe_hasX GW hr tkX (pa_cons (pv 2) pa_nil))) pss_never), ?_⟩
      refine ⟨_, rfl, u, du, rfl, hu, ou, fun _ H1 s1 => ⟨_, rfl, v, dv, rfl, DpX.same s1 _ _ hv, ov, fun z => (by rw [w2] at z; cases z), fun _ => k.go s1⟩, fun z => (by rw [w1] at z; cases z)⟩
    · refine ⟨_, pss_cons (ps_expr (pe_hasX GW hr tkX (pa_cons (pv 1) pa_nil))) (pss_cons (ps_expr (pe_hasX GW hr tkX (pa_cons (pv 2) pa_nil)))
        (pss_cons (ps_set (i := 4) scIn.nd rfl (.inl rfl) (pe_has GL hr1 (pa_cons (pv 1) (pa_cons (pv 2) pa_nil))))
        (pss_cons (ps_if (PW.pt (pw_and (pt_cmpR op_notN (pv 3) pe_non (nomark _)) (pw_and1 (PW.pt (pw_or (pt_not (pt_val (pe_has GH hr1 (pa_cons (pv 3) pa_nil)))) (pw_or1 (pt_cmpR op_lt (pv 3) (pv 4) (nomark _)))))))) (pss_one (ps_raiseX rfl TN hr2 tkX (pa_cons (pv 3) pa_nil))) pss_nil) pss_never))), ?_⟩
      refine ⟨_, rfl, .ref a, du, rfl, hu, ou, fun _ H1 s1 => ⟨_, rfl, .ref b, dv, rfl, DpX.same s1 _ _ hv, ov, fun _ H2 s2 => ?_, fun z => (by rw [w2] at z; cases z)⟩, fun z => (by rw [w1] at z; cases z)⟩
      have s12 := s1.trans s2
      refine ⟨_, rfl, _, rfl, a, b, xs, ys, rfl, Same.tup s12 ha, Same.tup s12 hb, ?_⟩
      have hp2 := DpX.same s12 _ _ hp
      have fin : ∀ {σ : L2.St}, σ[3]? = some (some pk) → tMkO CN (spXI K CN "value") [] (tCons (tVar 3) tNil) σ H2 (fun cls d H' => E cls d H') := fun {σ} e => ⟨pk, e, mk_red fun dd hdd => k dd _ (s12.trans (Same.new hdd)) (s12.free hdd) upd_same⟩
      obtain ⟨nn, bp⟩ := bp
      have go : ∀ {A B : Prop}, (whD dp = false → A) → (∀ p, dp = .int p → p < lp xs ys → B) → A ∨ B := fun {A B} f g => bp.elim (fun z => .inl (f z)) fun ⟨p, e, l⟩ => .inr (g p e l)
      cases hp2 with
      | non => exact absurd rfl nn
      | int i =>
        have l : i < lp xs ys := by
          rcases bp with z | ⟨p, e, l⟩
          · cases z
          · cases e
            exact l
        refine ⟨_, rfl, rfl, true, rfl, iteT ⟨_, rfl, .int i, .int i, rfl, .int i, true, rfl, iteF ⟨_, rfl, _, rfl, i, lp xs ys, rfl, rfl, true, ?_, iteT ?_⟩⟩⟩
        · exact congrArg V.bl (decide_eq_true l)
        · exact fin rfl
      | bl b => exact ⟨_, rfl, rfl, true, rfl, iteT ⟨_, rfl, .bl b, .bool b, rfl, .bl b, false, rfl, iteT (fin rfl)⟩⟩
      | str z => exact ⟨_, rfl, rfl, true, rfl, iteT ⟨_, rfl, .str z, .str z, rfl, .str z, false, rfl, iteT (fin rfl)⟩⟩
      | lst h1 h2 => exact ⟨_, rfl, rfl, true, rfl, iteT ⟨_, rfl, _, _, rfl, .lst h1 h2, false, rfl, iteT (fin rfl)⟩⟩
      | tup h1 h2 => exact ⟨_, rfl, rfl, true, rfl, iteT ⟨_, rfl, _, _, rfl, .tup h1 h2, false, rfl, iteT (fin rfl)⟩⟩
      | emp h1 => exact ⟨_, rfl, rfl, true, rfl, iteT ⟨_, rfl, _, _, rfl, .emp h1, false, rfl, iteT (fin rfl)⟩⟩
/-! ### apply of what is refused -/
def spApX (K : PySem.W.Frag) (CW CN : Addr) : Sp := fun vs H Q E => ∃ (e u l : V) (du dl : PyData), vs = [e, u, l] ∧ DpX K H u du ∧ OkD du ∧ DpX K H l dl ∧
  ((wordD du = false ∧ bad CW H u E) ∨ (wordD du = true ∧ limD dl = false ∧ bad CN H l E))
abbrev pApp : List Str := ["self", "stack", "limit"]
theorem scAp : FnScope pApp pApp (defScope sApply) := ⟨rfl, rfl, rfl, by decide +kernel, rfl, by decide +kernel, by decide +kernel⟩
theorem ok_applyX {f : Addr} {fd : FuncData} (F : Fun K "apply" "Effect.apply" sApply f fd) (GW : HasX P w K mg base "check_word" 3 ["word"] [] (spCwX K CW)) (GL : HasX P w K mg base "check_limit" 4 ["limit"] [] (spClX K CN)) : FnOk P w K mg base (L2.CX P w) 5 f fd pApp (spApX K CW CN) := by
  refine F.okX scAp (fun vs H Q E h => ?_) (fun cv A out s H vs Q E hr h => ?_)
  · obtain ⟨e, u, l, du, dl, rfl, _⟩ := h
    rfl
  · obtain ⟨e, u, l, du, dl, rfl, hu, ou, hl, h⟩ := h
    have hr3 : Room 3 _ := hr.mono (by decide)
    rcases h with ⟨w1, k⟩ | ⟨w1, w2, k⟩
    · refine ⟨_, pss_cons (ps_expr (pe_hasX GW hr3 tkX (pa_cons (pv 1) pa_nil))) pss_never, ?_⟩
      exact ⟨_, rfl, u, du, rfl, hu, ou, fun z => (by rw [w1] at z; cases z), fun _ => k⟩
    · refine ⟨_, pss_cons (ps_expr (pe_hasX GW hr3 tkX (pa_cons (pv 1) pa_nil))) (pss_cons (ps_expr (pe_hasX GL hr tkX (pa_cons (pv 2) pa_nil))) pss_never), ?_⟩
      exact ⟨_, rfl, u, du, rfl, hu, ou, fun _ H1 s1 => ⟨_, rfl, l, dl, rfl, DpX.same s1 _ _ hl, fun z => (by rw [w2] at z; cases z), fun _ => k.go s1⟩, fun z => (by rw [w1] at z; cases z)⟩
/-! ### effect_of, Effect.of of what is refused -/
theorem hasX_eo (D : Def K mg "effect_of" sEffectOf) (GC : HasX P w K mg base "check_steps" 3 ["steps"] [] (spBadS K CS)) : HasX P w K mg base "effect_of" 4 ["steps"] [] (spBadS K CS) := by
  refine hasX_of D scEo (fun _ _ _ _ _ _ us hl => match us, hl with | [_], _ => rfl) (fun xs H Q E h => ?_) (fun f cv A out s H xs Q E hr h => ?_)
  · obtain ⟨v, d, r, rfl, _⟩ := h
    rfl
  · obtain ⟨v, d, r, rfl, h⟩ := h
    exact ⟨_, pss_cons (ps_expr (pe_hasX GC hr tkX (pa_cons (pv 0) pa_nil))) pss_never, _, rfl, v, d, r, rfl, h⟩
def spOfX (K : PySem.W.Frag) (CS : Addr) : Sp := fun vs H Q E => ∃ (ds : List PyData) (r : V), DpXs K H vs ds ∧ OkD (.tuple ds) ∧ vs.length ≤ 1000 ∧ BadN (.tuple ds) r ∧ badI CS H r E
theorem scOf : FnScope ["steps"] (([] : List Str) ++ ([("steps" : Str)] : List Str)) (defScope sOf) := ⟨rfl, rfl, rfl, by decide +kernel, rfl, by decide +kernel, by decide +kernel⟩
theorem bind_star0 {B : List Value → Sem (List (Str × Value))} {pv : Str} (h0 : B [] = (newTuple [] >>= fun t => pure [(pv, t)])) (h1 : ∀ r rs, B (r :: rs) = (newTuple (r :: rs) >>= fun t => pure [(pv, t)])) :
    ∀ us rest : List Value, us.length = ([] : List Str).length → B (us ++ rest) = (newTuple rest >>= fun t => pure (([] : List Str).zip us ++ [(pv, t)]))
  | [], [], _ => h0
  | [], r :: rs, _ => h1 r rs
theorem ok_ofX {f : Addr} {fd : FuncData} (F : Fun K "of" "Effect.of" sOf f fd) (GE : HasX P w K mg base "effect_of" 4 ["steps"] [] (spBadS K CS)) : FnR P w K mg base (L2.CX P w) 5 f (spOfX K CS) := by
  obtain ⟨oc, od, kV, doc, pm, an, cv, ct, osl, rfl, look, hcode⟩ := F.ex
  refine FnR.imp (StX.fn_star (k := 4) (ps := []) (pv := "steps") (N := ["steps"]) (sp := spBadS K CS) look hcode scOf StX.cxUp (bind_star0 (B := fun xs => bindArgs (PySem.W.fnOf "of" "Effect.of" (defArgs sOf) (defBody sOf) (defScope sOf) Value.none kV doc pm an cv ct) ⟨xs, []⟩) rfl (fun r rs => rfl)) (fun A out s H vs Q E hr h => ?_)) (fun vs H Q E h => ?_)
  rotate_left
  · obtain ⟨ds, r, hd, ok, l, bn, k⟩ := h
    refine ⟨[], vs, rfl, rfl, by rw [sizeLine_eq]; omega, fun p hp => ⟨.ref p, .tuple ds, r, rfl, .tup (.of upd_same) (DpXs.same (Same.new hp) _ _ hd), ok, bn, k.go (Same.new hp)⟩⟩
  obtain ⟨v, d, r, rfl, h⟩ := h
  exact ⟨_, pss_one (ps_ret (pe_hasX GE hr tkX (pa_cons (pv 0) pa_nil))), _, rfl, v, d, r, rfl, h⟩
end
end SE
namespace SE
open PySem PySem.Spec PyProof.Rows L2
abbrev sThen : Stmt := inClass sEffect 10
abbrev sReversal : Stmt := inClass sEffect 11
/-- an effect that may be combined -/
def EffSm (o : Eff) : Prop := ∀ B, o = some B → PrtOk B ∧ B.1.length + B.2.1.length ≤ 100
/-! ### o.m(), m with a star -/
theorem pe_methR0 {X : Cx} {CX : CXT} {k : Nat} {C f : Addr} {m : Str} {sp : Sp} {E : XK} {o : Expr} {ta : TE} {apos pos : Pos} {pl : Sem Bool} (he : PE X o ta) (c : Cls X.K C) (hm : Meth X.K C m f)
    (F : FnR X.prog X.w X.K X.mg X.base CX k f sp) (hr : Room k X.A) (hx : Passes CX X E)
    (ht : eval (.Call (.Attribute o m apos) [] [] pos) X.env = (do
      let ov ← eval o X.env
      standAt apos.atName
      let (f, first) ← holding [ov] (getMethod ov m pl)
      callWith pos f first (backTo pos (starEach [] X.env)) (backToKw pos (keywordEach [] X.env))) := by rfl) :
    PE X (.Call (.Attribute o m apos) [] [] pos) (tMethR C m sp E ta tNil) := by
  refine ⟨fun pins s σ H Q I h => ?_⟩
  refine PySem.W.methodCall_KW (pl := pl) (thn (he.run pins s σ H _ I h) fun u s1 ⟨x, H1, I1, rx, a, dx, fs, ex, ea, l, q⟩ => ?_) ht
  subst ex
  obtain rfl : u = Value.ref a := rx
  refine getmeth_ok I1 ea c hm l ?_
  exact PySem.W.callWith_K0 (first := [.ref a]) I1.kIn hm.kp (wpAny_call (run_fnR (us := [.ref a]) (vs := [.ref a]) F hr hx I1 (.cons rfl .nil) q))
section
variable {P : Program} {w : World} {K : PySem.W.Frag} {mg : Str → Option Value} {base : Heap} {C : Addr}
def EfV (K : PySem.W.Frag) (C : Addr) (H : Hp) (v : V) (o : Eff) : Prop := ∃ a, v = .ref a ∧ EffV K C H a o
theorem EfV.same {H H' : Hp} {v : V} {o : Eff} (h : EfV K C H v o) (s : Same H H') : EfV K C H' v o := by
  obtain ⟨a, e, q⟩ := h
  exact ⟨a, e, q.same s⟩
theorem parts_all : ∀ {os : List Eff}, none ∉ os → ∃ ps : List Prt, os = ps.map some
  | [], _ => ⟨[], rfl⟩
  | none :: r, h => absurd (List.mem_cons_self ..) h
  | some B :: r, h => by
    obtain ⟨ps, e⟩ := parts_all (os := r) fun m => h (List.mem_cons_of_mem _ m)
    exact ⟨B :: ps, by rw [e]; rfl⟩
def spThen (K : PySem.W.Frag) (C : Addr) : Sp := fun vs H Q _ => ∃ (es : List V) (os : List Eff), vs = es ∧ es ≠ [] ∧ Paired (EfV K C H) es os ∧ (∀ x ∈ os, EffSm x) ∧ os.length ≤ 6 ∧ ∀ r H', Same H H' → EffV K C H' r (thenM os) → Q (.ref r) H'
def spThenI (K : PySem.W.Frag) (C : Addr) : Sp := fun vs H Q _ => ∃ (e : V) (p : Addr) (es : List V) (os : List Eff), vs = [e, .ref p] ∧ H p = some (.tup es) ∧ Paired (EfV K C H) (e :: es) os ∧ (∀ x ∈ os, EffSm x) ∧ os.length ≤ 6 ∧ ∀ r H', Same H H' → EffV K C H' r (thenM os) → Q (.ref r) H'
abbrev nThen : List Str := ["self", "others", "effects", "effect"]
theorem scThen : FnScope nThen (["self", "others"] : List Str) (defScope sThen) := ⟨rfl, rfl, rfl, by decide +kernel, rfl, by decide +kernel, by decide +kernel⟩
theorem ok_then {f : Addr} {fd : FuncData} (F : Fun K "then" "Effect.then" sThen f fd) (T : EC K mg C) (GN : NeverHas P w K mg base C) (GI : PropHas P w K mg base C "is_never" 1 (spIsNev K C)) (GP : PropHas P w K mg base C "pops" 1 (spPops K C)) (GQ : PropHas P w K mg base C "pushes" 1 (spPush K C)) (GK : PropHas P w K mg base C "peak" 1 (spPeak K C))
    (GJ : Has P w K mg base "joined" 7 ["parts"] [] (spJoin K C)) (ma : mg "any" = none) : FnR P w K mg base CX0 8 f (spThen K C) := by
  obtain ⟨oc, od, kV, doc, pm, an, cv, ct, osl, rfl, look, hcode⟩ := F.ex
  refine FnR.imp (StX.fn_star (k := 7) (ps := ["self"]) (pv := "others") (N := nThen) (sp := spThenI K C) look hcode scThen StX.cxUp_none (StX.bind_star1 (B := fun xs => bindArgs (PySem.W.fnOf "then" "Effect.then" (defArgs sThen) (defBody sThen) (defScope sThen) Value.none kV doc pm an cv ct) ⟨xs, []⟩) (fun a => rfl) (fun a r rs => rfl)) (fun A out s H vs Q E hr h => ?_)) (fun vs H Q E h => ?_)
  rotate_left
  · obtain ⟨es, os, rfl, hne, hP, hS, hl, k⟩ := h
    cases vs with
    | nil => exact absurd rfl hne
    | cons e es =>
      have ln := paired_len hP
      rw [List.length_cons] at ln
      refine ⟨[e], es, rfl, rfl, by rw [sizeLine_eq]; omega, fun p hp => ⟨e, p, es, os, rfl, upd_same, Paired.mapP hP fun v o q => q.same (Same.new hp), hS, hl, fun r H' s' he => k r H' ((Same.new hp).trans s') he⟩⟩
  have body : ∃ t, PSs (cxOf CX0 P w K mg base nThen "Effect.then" (defScope sThen) f cv A out s H E).nox (defBody sThen) t ∧ t { nx := fun _ H2 => Q .non H2, rt := Q } (start nThen vs) H := by
    obtain ⟨e, p, es, os, rfl, hp, hP, hS, hl, k⟩ := h
    have hr2 : Room 2 _ := hr.mono (by decide)
    have hr6 : Room 6 _ := hr.mono (by decide)
    have ln := paired_len hP
    refine ⟨_, pss_cons (ps_set (i := 2) scThen.nd rfl (.inl rfl) (pe_lst (pa_cons (pv 0) (StX.pa_star (pv 1) pa_nil))))
      (pss_cons (ps_if (pt_val (pe_callB (cr_any rfl) (by rfl) ma (by decide +kernel) (pa_cons
        (pe_lc (own := [("effect", 3)]) (g := gName 3) (tt := tYes) (te := tProp C (spIsNev K C) [] E0 (tVar 3)) rfl scThen.nd (pi_list (pv 2)) (blkOk_by (own := [("effect", 3)]) (N := nThen) (sc := defScope sThen) (by decide +kernel))
          (fun _ _ _ _ _ => pg_name (i := 3) scThen.nd rfl (.inl rfl)) (fun _ _ _ _ _ => pts_nil) (fun _ _ _ _ _ => pe_propH GI (pv 3) T.cl hr2)) pa_nil)))
        (pss_one (ps_ret (pe_never0 GN T.mgE hr6))) pss_nil)
      (pss_one (ps_ret (pe_has GJ hr (pa_cons
        (pe_lc (own := [("effect", 3)]) (g := gName 3) (tt := tYes) (te := tTup (tCons (tProp C (spPops K C) [] E0 (tVar 3)) (tCons (tProp C (spPush K C) [] E0 (tVar 3)) (tCons (tProp C (spPeak K C) [] E0 (tVar 3)) tNil)))) rfl scThen.nd (pi_list (pv 2)) (blkOk_by (own := [("effect", 3)]) (N := nThen) (sc := defScope sThen) (by decide +kernel))
          (fun _ _ _ _ _ => pg_name (i := 3) scThen.nd rfl (.inl rfl)) (fun _ _ _ _ _ => pts_nil) (fun _ _ _ _ _ => pe_tup (pa_cons (pe_propH GP (pv 3) T.cl hr2) (pa_cons (pe_propH GQ (pv 3) T.cl hr2) (pa_cons (pe_propH GK (pv 3) T.cl hr2) pa_nil))))) pa_nil))))), ?_⟩
    refine ⟨_, rfl, _, rfl, p, es, rfl, .inl (.of hp), ?_, fun d hd => ?_⟩
    · rw [List.append_nil]
      show (e :: es).length ≤ sizeLine
      rw [ln, sizeLine_eq]
      omega
    rw [List.append_nil]
    have s1 : Same H (upd H d (.lst (e :: es))) := Same.new hd
    have hP1 : Paired (EfV K C (upd H d (.lst (e :: es)))) (e :: es) os := Paired.mapP hP fun v o q => q.same s1
    have hd1 : (upd H d (.lst (e :: es))) d = some (.lst (e :: es)) := upd_same
    generalize upd H d (.lst (e :: es)) = H1 at s1 hP1 hd1
    refine ⟨_, rfl, d, rfl, ⟨_, .of hd1⟩, fun D hD => lc_list (K := K) (a := d) (xs := e :: es) (fun j H2 => H2 D = some (.lst (((os.take j).map fun o => o.isNone).map V.bl)) ∧ Same H1 H2) ⟨upd_same, Same.new hD⟩ (fun j H2 _ q => .of (q.2 _ _ hd1)) ?_ ?_⟩
    · rintro j x H2 hx ⟨h2, s2⟩
      obtain ⟨o, ho, a, rfl, hV⟩ := paired_at hP1 hx
      have hV2 := hV.same s2
      obtain ⟨dx, fs, hi⟩ := hV2.ins
      have jl : j < os.length := (List.getElem?_eq_some_iff.mp ho).1
      have e1 : ((os.take (j + 1)).map fun o => o.isNone).map V.bl = ((os.take j).map fun o => o.isNone).map V.bl ++ [V.bl o.isNone] := by
        rw [List.take_add_one, ho, List.map_append, List.map_append]
        rfl
      refine ⟨rfl, yes_in ⟨_, rfl, a, dx, fs, rfl, hi, a, rfl, ?_⟩⟩
      have fin : ∀ b, b = o.isNone → ∃ acc, H2 D = some (.lst acc) ∧ acc.length < sizeLine ∧ (upd H2 D (.lst (acc ++ [V.bl b]))) D = some (.lst (((os.take (j + 1)).map fun o => o.isNone).map V.bl)) ∧ Same H1 (upd H2 D (.lst (acc ++ [V.bl b]))) := by
        rintro b rfl
        refine ⟨_, h2, ?_, by rw [upd_same, e1], Same.free2 s2 hD⟩
        rw [List.length_map, List.length_map, List.length_take, sizeLine_eq]
        omega
      cases o with
      | none => exact .inr ⟨hV2, fin true rfl⟩
      | some B => exact .inl ⟨B.1, B.2.1, B.2.2, hV2, fin false rfl⟩
    · rintro H2 ⟨h2, s2⟩
      rw [ln, List.take_length] at h2
      refine ⟨D, _, rfl, .of h2, _, rfl, ?_⟩
      by_cases hn : none ∈ os
      · have ea : (os.map fun o => o.isNone).any id = true := List.any_eq_true.mpr ⟨true, List.mem_map.mpr ⟨none, hn, rfl⟩, rfl⟩
        rw [ea]
        refine iteT ⟨rfl, rfl, fun r H3 s3 hr3 => k r H3 ((s1.trans s2).trans s3) ?_⟩
        rw [then_none hn]
        exact hr3
      · have ea : (os.map fun o => o.isNone).any id = false := by
          rw [Bool.eq_false_iff]
          intro q
          obtain ⟨b, m, hb⟩ := List.any_eq_true.mp q
          obtain ⟨o, mo, rfl⟩ := List.mem_map.mp m
          cases o with
          | none => exact hn mo
          | some B => cases hb
        rw [ea]
        refine iteF ?_
        obtain ⟨ps, rfl⟩ := parts_all hn
        have hd2 := s2 _ _ hd1
        have hP2 : Paired (EfV K C H2) (e :: es) (ps.map some) := Paired.mapP hP1 fun v o q => q.same s2
        have s12 := s1.trans s2
        rw [List.length_map] at ln hl
        generalize hD2 : H2 = H4 at hd2 hP2 s12
        refine ⟨_, rfl, d, rfl, ⟨_, .of hd2⟩, fun D2 hD2 => lc_list (K := K) (a := d) (xs := e :: es) (fun j H5 => ∃ us, H5 D2 = some (.lst us) ∧ Paired (PrtV K H5) us (ps.take j) ∧ Same H4 H5) ⟨[], upd_same, .nil, Same.new hD2⟩ (fun j H5 _ q => ?_) ?_ ?_⟩
        · obtain ⟨_, _, _, s5⟩ := q
          exact .of (s5 _ _ hd2)
        · rintro j x H5 hx ⟨us, hu, hU, s5⟩
          obtain ⟨o, ho, a, rfl, hV⟩ := paired_at hP2 hx
          rw [List.getElem?_map] at ho
          obtain ⟨B, hB, rfl⟩ := Option.map_eq_some_iff.mp ho
          have hV5 : EffAt K C H5 a B.1 B.2.1 B.2.2 := (EffV.same (o := some B) hV s5)
          obtain ⟨dx, fs, hi⟩ := EffV.ins (o := some B) hV5
          have lU := paired_len hU
          rw [List.length_take] at lU
          refine ⟨rfl, yes_in ⟨_, rfl, a, dx, fs, rfl, hi, a, _, _, _, rfl, hV5, fun u1 hu1 => ⟨_, rfl, a, dx, fs, rfl, hi, a, _, _, _, rfl, hV5, fun u2 hu2 => ⟨_, rfl, a, dx, fs, rfl, hi, a, _, _, _, rfl, hV5, (by show 3 ≤ sizeLine; decide), fun q hq => ⟨us, ?_, ?_, us ++ [.ref q], upd_same, ?_, ?_⟩⟩⟩⟩⟩
          · rw [upd_ne (ne_of_none hu hq)]
            exact hu
          · rw [sizeLine_eq]
            omega
          · rw [List.take_add_one, hB]
            have sq : Same H5 (upd H5 q (.tup [.ref u1, .ref u2, .int B.2.2])) := Same.new hq
            have huq := sq _ _ hu
            refine Paired.snoc2 (Paired.mapP hU fun v b r => (r.same sq).updL huq) (PrtV.updL huq ⟨q, u1, u2, rfl, .of upd_same, Same.tup sq hu1, Same.tup sq hu2⟩)
          · exact Same.free2 (s5.trans (Same.new hq)) hD2
        · rintro H5 ⟨us, hu, hU, s5⟩
          rw [ln, List.take_length] at hU
          refine ⟨D2, us, ps, rfl, .of hu, hU, fun B m => (hS _ (List.mem_map.mpr ⟨B, m, rfl⟩) B rfl).1, ?_, fun r H6 s6 he => k r H6 ((s12.trans s5).trans s6) ?_⟩
          · have : ∀ qs : List Prt, (∀ B ∈ qs, B.1.length + B.2.1.length ≤ 100) → szP qs ≤ qs.length * 100 := by
              intro qs
              induction qs with
              | nil => intro _; exact Nat.le_refl _
              | cons q r ih =>
                intro hq
                have h1 := hq q (List.mem_cons_self ..)
                have h2 := ih fun B m => hq B (List.mem_cons_of_mem _ m)
                unfold szP at h2 ⊢
                rw [List.map_cons, List.sum_cons, List.length_cons]
                omega
            have h3 := this ps fun B m => (hS _ (List.mem_map.mpr ⟨B, m, rfl⟩) B rfl).2
            omega
          · show EffV K C H6 r ((parts (ps.map some)).bind joinM)
            rw [parts_some]
            exact he
  obtain ⟨t, a, b⟩ := body
  exact ⟨t, a.nox, b⟩
end
end SE
namespace SE
open PySem PySem.Spec PyProof.Rows L2
section
variable {P : Program} {w : World} {K : PySem.W.Frag} {mg : Str → Option Value} {base : Heap} {C : Addr}
/-! ### nothing -/
def spNothing (K : PySem.W.Frag) (C : Addr) : Sp := fun vs H Q _ => vs = [.ref C] ∧ ∀ (e : Addr) (H' : Hp), Same H H' → EffAt K C H' e [] [] 0 → Q (.ref e) H'
abbrev sNothing : Stmt := inClass sEffect 3
theorem scNo : FnScope ["cls"] ["cls"] (defScope sNothing) := ⟨rfl, rfl, rfl, by decide +kernel, rfl, by decide +kernel, by decide +kernel⟩
theorem ok_nothing {g : Addr} {gd : FuncData} (F : Fun K "nothing" "Effect.nothing" sNothing g gd) (M : Makes P w K mg base C) : FnOk P w K mg base CX0 6 g gd ["cls"] (spNothing K C) := by
  obtain ⟨f, fd, ds, Mk1, FI, hd, hb⟩ := M.two
  refine F.ok scNo (fun vs H Q E h => ?_) (fun cdv A outer s H vs Q E hr h => ?_)
  · obtain ⟨rfl, _⟩ := h
    rfl
  · obtain ⟨rfl, k⟩ := h
    refine ⟨_, pss_one (ps_ret (pe_makeL (i := 0) Mk1 FI hr rfl (.inl rfl) hb hd pass0 (pa_cons (pe_tup pa_nil) (pa_cons (pe_tup pa_nil) pa_nil)))), ?_⟩
    refine ⟨rfl, Nat.zero_le _, fun t1 h1 => ⟨Nat.zero_le _, fun t2 h2 => ?_⟩⟩
    have n2 : t1 ≠ t2 := ne_of_none upd_same h2
    have s2 : Same H (upd (upd H t1 (.tup [])) t2 (.tup [])) := Same.free2 (Same.new h1) ((Same.new h1).free h2)
    have g1 : (upd (upd H t1 (.tup [])) t2 (.tup [])) t1 = some (.tup []) := by rw [upd_ne n2]; exact upd_same
    have g2 : (upd (upd H t1 (.tup [])) t2 (.tup [])) t2 = some (.tup []) := upd_same
    generalize upd (upd H t1 (.tup [])) t2 (.tup []) = H2 at s2 g1 g2
    exact make_imp (C := C) ⟨t1, t2, [], [], rfl, .of g1, .of g2, by decide, by decide, fun z m => (by cases m), fun z m => (by cases m), fun e H' s' _ he => k e H' (s2.trans s') he⟩
def NothingHas (P : Program) (w : World) (K : PySem.W.Frag) (mg : Str → Option Value) (base : Heap) (C : Addr) : Prop := ∃ mc p g, ClX.CRead K C mc ∧ ClX.CMet K C mc "nothing" p g ∧ FnR P w K mg base CX0 6 g (spNothing K C)
theorem pe_nothing0 {X : Cx} {p apos pos : Pos} {pl : Sem Bool} (h : NothingHas X.prog X.w X.K X.mg X.base C) (mgE : X.mg "Effect" = some (.ref C)) (hr : Room 6 X.A) (hg : Gl X "Effect" := by rfl)
    (ht : eval (.Call (.Attribute (.Name "Effect" p) "nothing" apos) [] [] pos) X.env = (do
      let v ← eval (.Name "Effect" p) X.env
      standAt apos.atName
      let (f, first) ← holding [v] (getMethod v "nothing" pl)
      callWith pos f first (backTo pos (starEach [] X.env)) (backToKw pos (keywordEach [] X.env))) := by rfl) :
    PE X (.Call (.Attribute (.Name "Effect" p) "nothing" apos) [] [] pos) (tCMeth0 C (spNothing X.K C) E0 (tC (.ref C))) := by
  obtain ⟨mc, q, g, r, c, F⟩ := h
  exact pe_cmeth0 (pl := pl) (pe_glob hg mgE rfl) r c F hr pass0 ht
/-! ### apply without a limit, on a stack that begins with the pops -/
def spTh0 : Sp := fun vs H Q _ => ∃ h : Int, vs = [.int h, .non] ∧ Q (.bl false) H
theorem scTh0 : FnScope ["height", "limit"] ["height", "limit"] (defScope sTooHigh) := ⟨rfl, rfl, rfl, by decide +kernel, rfl, by decide +kernel, by decide +kernel⟩
theorem has_th0 (D : Def K mg "is_too_high" sTooHigh) : Has P w K mg base "is_too_high" 1 ["height", "limit"] [] spTh0 := by
  refine has_of D scTh0 (fun _ _ _ _ _ _ us hl => match us, hl with | [_, _], _ => rfl) (fun xs H Q E h => ?_) (fun f cv A out s H xs Q E hr h => ?_)
  · obtain ⟨h, rfl, _⟩ := h
    rfl
  · obtain ⟨h, rfl, k⟩ := h
    refine ⟨_, pss_one (ps_ret (pe_and (pe_cmpR op_notN (pv 1) pe_non (nomark _)) (pe_one (pe_cmpR op_gt (pv 0) (pv 1) (nomark _))))), ?_⟩
    exact ⟨_, rfl, rfl, false, rfl, iteF k⟩
def spCl0 : Sp := fun vs H Q _ => vs = [.non] ∧ Q .non H
theorem has_cl0 (D : Def K mg "check_limit" sChkLimit) (G : Has P w K mg base "is_limit" 3 ["value"] [] (spLmX K)) : Has P w K mg base "check_limit" 4 ["limit"] [] spCl0 := by
  refine has_of D scCl (fun _ _ _ _ _ _ us hl => match us, hl with | [_], _ => rfl) (fun xs H Q E h => ?_) (fun f cv A out s H xs Q E hr h => ?_)
  · obtain ⟨rfl, _⟩ := h
    rfl
  · obtain ⟨rfl, k⟩ := h
    refine ⟨_, pss_one (ps_if (pt_not (pt_val (pe_has G hr (pa_cons (pv 0) pa_nil)))) pss_never pss_nil), ?_⟩
    exact ⟨_, rfl, .non, .none, rfl, .non, true, rfl, iteF k⟩
def spRd0 (K : PySem.W.Frag) (C : Addr) : Sp := fun vs H Q _ => ∃ (e a : Addr) (xs ys zs : List Str) (p : Int), vs = [.ref e, .ref a] ∧ EffAt K C H e xs ys p ∧ (∀ z ∈ xs, Item z) ∧ SqT K H a ((xs ++ zs).map V.str) ∧ (∀ z ∈ zs, Item z) ∧ xs.length ≤ 5000 ∧ ys.length ≤ 5000 ∧ zs.length ≤ 5000 ∧
  ∀ v H', Same H H' → SqT K H' v ((ys ++ zs).map V.str) → Q (.ref v) H'
theorem scRd0 : FnScope ["effect", "stack", "depth"] ["effect", "stack"] (defScope sReplaced) := ⟨rfl, rfl, rfl, by decide +kernel, rfl, by decide +kernel, by decide +kernel⟩
theorem has_rd0 (D : Def K mg "replaced" sReplaced) (T : EC K mg C) (B : Blt mg) (GI : PropHas P w K mg base C "is_never" 1 (spIsNev K C)) (GP : PropHas P w K mg base C "pops" 1 (spPops K C)) (GQ : PropHas P w K mg base C "pushes" 1 (spPush K C)) :
    Has P w K mg base "replaced" 3 ["effect", "stack"] [] (spRd0 K C) := by
  refine has_of D scRd0 (fun _ _ _ _ _ _ us hl => match us, hl with | [_, _], _ => rfl) (fun xs H Q E h => ?_) (fun f cv A out s H xs Q E hr h => ?_)
  · obtain ⟨e, a, xs, ys, zs, p, rfl, _⟩ := h
    rfl
  · obtain ⟨e, a, xs, ys, zs, p, rfl, hA, i1, hT, i3, l1, l2, l3, k⟩ := h
    have hr2 : Room 2 _ := hr.mono (by decide)
    refine ⟨_, pss_cons (ps_if (pt_val (pe_propH GI (pv 0) T.cl hr2)) (pss_one (ps_ret pe_non)) pss_nil)
      (pss_cons (ps_set (i := 2) scRd0.nd rfl (.inl rfl) (pe_callB call_len_seq (by rfl) B.len PySem.boot_len (pa_cons (pe_propH GP (pv 0) T.cl hr2) pa_nil)))
      (pss_one (ps_ret (pe_ifExp (pt_cut (pt_cmpR (op_eqD hr.units) (pe_slice sl_tupS (pv 1) po_none (po_some (pv 2))) (pe_propH GP (pv 0) T.cl hr2) (nomark _))) (pe_op op_catS (pe_propH GQ (pv 0) T.cl hr2) (pe_slice sl_tupS (pv 1) (po_some (pv 2)) po_none)) pe_non)))), ?_⟩
    obtain ⟨dx, fs, hi⟩ := EffV.ins (o := some (xs, ys, p)) hA
    have shp : ∀ {zs : List Str}, (∀ z ∈ zs, Item z) → SeqAt.shaped (.tuple (zs.map PyData.str)) = true := fun {zs} q => (nice_tuple (nice_strs q)).shaped (by decide)
    refine ⟨_, rfl, e, dx, fs, rfl, hi, e, rfl, .inl ⟨xs, ys, p, hA, false, rfl, iteF ?_⟩⟩
    refine ⟨_, rfl, e, dx, fs, rfl, hi, e, xs, ys, p, rfl, hA, fun u hu => ⟨u, _, rfl, .inr hu, ?_⟩⟩
    rw [List.length_map]
    refine ⟨fun b H3 => b = true ∧ Same H H3, ?_, ?_⟩
    · refine ⟨_, rfl, _, rfl, _, rfl, a, _, rfl, hT, fun c1 H3 s3 hc1 => ?_⟩
      rw [cutF_to, List.take_left' rfl] at hc1
      refine ⟨_, rfl, e, dx, fs, rfl, s3 _ _ hi, e, xs, ys, p, rfl, EffAt.same hA s3, fun u2 hu2 => ?_⟩
      refine ⟨.tuple (xs.map .str), .tuple (xs.map .str), .tup hc1 (dp_strs _), .tup hu2 (dp_strs _), shp i1, shp i1, _, rfl, ?_, s3⟩
      rw [eqv_tupS]
      exact decide_eq_true rfl
    rintro b H3 ⟨rfl, s3⟩
    refine iteT ⟨_, rfl, e, dx, fs, rfl, s3 _ _ hi, e, xs, ys, p, rfl, EffAt.same hA s3, fun u1 hu1 => ⟨_, rfl, _, rfl, _, rfl, a, _, rfl, Same.tup s3 hT, fun c1 H4 s4 hc1 => ?_⟩⟩
    rw [cutF_from, List.drop_left' rfl] at hc1
    refine ⟨u1, c1, _, _, rfl, rfl, Same.tup s4 hu1, hc1, ?_, fun u2 H5 s5 hu2 => ?_⟩
    · rw [List.length_map, List.length_map, sizeLine_eq]
      omega
    · rw [← List.map_append] at hu2
      exact k _ H5 ((s3.trans s4).trans s5) hu2
def spAp0 (K : PySem.W.Frag) (C : Addr) : Sp := fun vs H Q _ => ∃ (e a : Addr) (xs ys zs : List Str) (p : Int), vs = [.ref e, .ref a, .non] ∧ EffAt K C H e xs ys p ∧ (∀ z ∈ xs, Item z) ∧ SqT K H a ((xs ++ zs).map V.str) ∧ (∀ z ∈ zs, Item z) ∧ xs.length + zs.length ≤ 5000 ∧ ys.length ≤ 5000 ∧
  ∀ v H', Same H H' → SqT K H' v ((ys ++ zs).map V.str) → Q (.ref v) H'
theorem ok_apply0 {f : Addr} {fd : FuncData} (F : Fun K "apply" "Effect.apply" sApply f fd) (T : EC K mg C) (B : Blt mg) (GW : Has P w K mg base "check_word" 3 ["word"] [] (spChkWord K)) (GL : Has P w K mg base "check_limit" 4 ["limit"] [] spCl0) (GT : Has P w K mg base "is_too_high" 1 ["height", "limit"] [] spTh0) (GR : Has P w K mg base "replaced" 3 ["effect", "stack"] [] (spRd0 K C))
    (GI : PropHas P w K mg base C "is_never" 1 (spIsNev K C)) (GK : PropHas P w K mg base C "peak" 1 (spPeak K C)) : FnOk P w K mg base CX0 5 f fd pApp (spAp0 K C) := by
  refine F.ok scAp (fun vs H Q E h => ?_) (fun cdv A outer s H vs Q E hr h => ?_)
  · obtain ⟨e, a, xs, ys, zs, p, rfl, _⟩ := h
    rfl
  · obtain ⟨e, a, xs, ys, zs, p, rfl, hA, i1, hT, i3, l1, l2, k⟩ := h
    have hr1 : Room 1 _ := hr.mono (by decide)
    have hr2 : Room 2 _ := hr.mono (by decide)
    have hr3 : Room 3 _ := hr.mono (by decide)
    refine ⟨_, pss_cons (ps_expr (pe_has GW hr3 (pa_cons (pv 1) pa_nil))) (pss_cons (ps_expr (pe_has GL hr (pa_cons (pv 2) pa_nil)))
      (pss_cons (ps_if (PW.pt (pw_or (pt_val (pe_propH GI (pv 0) T.cl hr2)) (pw_or1 (pt_val (pe_has GT hr1 (pa_cons (pe_op op_add (pe_callB call_len_seq (by rfl) B.len PySem.boot_len (pa_cons (pv 1) pa_nil)) (pe_propH GK (pv 0) T.cl hr2)) (pa_cons (pv 2) pa_nil))))))) (pss_one (ps_ret pe_non)) pss_nil)
      (pss_one (ps_ret (pe_has GR hr3 (pa_cons (pv 0) (pa_cons (pv 1) pa_nil))))))), ?_⟩
    have iA : ∀ z ∈ xs ++ zs, Item z := fun z m => (List.mem_append.mp m).elim (i1 z) (i3 z)
    refine ⟨_, rfl, a, xs ++ zs, rfl, hT, by rw [List.length_append]; exact l1, iA, fun H1 s1 => ?_⟩
    have hA1 := hA.same s1
    obtain ⟨dx, fs, hi⟩ := EffV.ins (o := some (xs, ys, p)) hA1
    refine ⟨_, rfl, rfl, ?_⟩
    refine ⟨_, rfl, e, dx, fs, rfl, hi, e, rfl, .inl ⟨xs, ys, p, hA1, false, rfl, iteF ?_⟩⟩
    refine ⟨_, rfl, a, _, rfl, .inr (Same.tup s1 hT), _, rfl, e, dx, fs, rfl, hi, e, xs, ys, p, rfl, hA1, _, _, rfl, rfl, _, rfl, _, rfl, false, rfl, iteF ?_⟩
    exact ⟨_, rfl, _, rfl, e, a, xs, ys, zs, p, rfl, hA1, i1, Same.tup s1 hT, i3, by omega, l2, by omega, fun v H' s' hv => k v H' (s1.trans s') hv⟩
end
end SE
/-! min(list, key = own function, default = ..): the keys are data. -/
namespace SE
open PySem PySem.Spec PyProof.Rows L2 SeqAt
open PySem.W (alike dataLt rcLt_alike)
/-- an object of a built-in's own: it may turn, and be pinned as it stands -/
structure Mine (X : Cx) (pins : List (Addr × Obj)) (b : Addr) : Prop where
  l : b ≠ X.env.locals
  f : b ∉ X.fs
  a : b ∈ X.ex ∨ X.s_0.heap.objs.size ≤ b
  c : ∀ x c, X.env.cells.lookup x = some c → c ≠ b
  p : ∀ p ∈ X.pn ++ pins, p.1 ≠ b
section
variable {X : Cx} {pins : List (Addr × Obj)} {σ : L2.St} {H H' : Hp} {s : Shared} {b : Addr} {o : Obj} {h' : Heap} {t' : Nat}
theorem Mine.of (I : Inv X pins σ H s) (hb : s.heap.objs.size ≤ b) (hn : H b = none) : Mine X pins b := by
  obtain ⟨h0, h1, h2, h3, h4, h5⟩ := I.fpOk (H' := H) hb hn
  exact ⟨h1, h2, h3, h4, h5⟩
theorem repin (I : Inv X pins σ H s) (m : Mine X pins b) (hn : H b = none) (ho : s.heap.get? b = some o) (hc : ∀ v, o.data ≠ .cell v) : Inv X ((b, o) :: pins) σ H s :=
  I.pins_of fun q hq => by
    rcases List.mem_cons.mp hq with rfl | hq
    · exact ⟨ho, hn, m.l, m.f, hc⟩
    · exact I.pin q (List.mem_append_right _ hq)
theorem Mine.turn (m : Mine X pins b) (I : Inv X pins σ H s) (hn : H b = none) (k : ∀ c o, c ≠ b → s.heap.get? c = some o → h'.get? c = some o) : Inv X pins σ H { s with heap := h', toks := t' } :=
  I.turned k hn m.l m.a m.c m.p
/-- an own function called within a built-in -/
theorem call_in1 {k : Nat} {f : Addr} {fd : FuncData} {px : Str} {sp : Sp} {x : V} {u : Value} {Q : VK} {E : Value → Shared → Prop} (F : FnOk X.prog X.w X.K X.mg X.base CX0 k f fd [px] sp) (hb : Binds X.K fd [px] []) (hr : Room (k + 1) X.A) (I : Inv X pins σ H s) (r : RelV x u)
    (h : sp [x] H Q (fun _ _ _ => False)) : wpAny (model X.prog X.w) X.A.in1 (call (.ref f) [u]) (EP X pins σ Q) E s := by
  refine wpAny_call (codeAny_mono (F.run X.A.in1 X.stack s H ⟨[u], []⟩ [u] [x] _ _ hr.in1 I.env0.in1 (by simpa using hb s [u] I.kIn rfl) (.cons r .nil) h) fun r s2 hq => ?_)
  cases r with
  | error e => exact hq.elim
  | ok fl =>
    cases fl with
    | ret z => exact I.after hq
    | next => exact hq.elim
    | brk => exact hq.elim
    | cont => exact hq.elim
end
section
variable {K : PySem.W.Frag} {H H' : Hp}
mutual
theorem dpSame (s : Same H H') : ∀ (d : PyData) (v : V), Dp K H v d → Dp K H' v d
  | .none, _, h => by cases h; exact .non
  | .bool b, _, h => by cases h; exact .bl b
  | .int i, _, h => by cases h; exact .int i
  | .str x, _, h => by cases h; exact .str x
  | .list ds, _, h => by
    cases h with
    | lst a b => exact .lst (Same.seq s a) (dpsSame s ds _ b)
  | .tuple ds, _, h => by
    cases h with
    | tup a b => exact .tup (Same.tup s a) (dpsSame s ds _ b)
  | .dict kvs, _, h => by cases h
theorem dpsSame (s : Same H H') : ∀ (ds : List PyData) (vs : List V), DpAll K H vs ds → DpAll K H' vs ds
  | [], _, h => by cases h; exact .nil
  | d :: ds, _, h => by
    cases h with
    | cons a b => exact .cons (dpSame s d _ a) (dpsSame s ds _ b)
end
end
def seqO (us : Array Value) (c : Nat) : Obj := { cls := .type "list", dict := none, data := .seq us c, slots := #[] }
/-- what is asked of the keys of xs -/
structure Keys (K : PySem.W.Frag) (sp : Sp) (H0 : Hp) (xs : List V) (kd : Nat → PyData) : Prop where
  k : ∀ i x H1, xs[i]? = some x → Same H0 H1 → sp [x] H1 (fun y H2 => Same H1 H2 ∧ Dp K H2 y (kd i)) (fun _ _ _ => False)
  al : ∀ i j, i < xs.length → j < xs.length → alike (kd i) (kd j) = true
  nn : ∀ i, i < xs.length → kd i ≠ .none
  dp : ∀ i, i < xs.length → (kd i).depth ≤ 20
def ltK (kd : Nat → PyData) (i j : Nat) : Bool := dataLt (kd i) (kd j)
theorem argBest_le (bt : Nat → Nat → Bool) : ∀ k, argBest bt k ≤ k
  | 0 => Nat.le_refl _
  | k + 1 => by
    unfold argBest
    split
    · exact Nat.le_refl _
    · exact Nat.le_succ_of_le (argBest_le bt k)
section
variable {X : Cx} {k : Nat} {f : Addr} {fd : FuncData} {px : Str} {sp : Sp} {pins : List (Addr × Obj)} {σ : L2.St} {H0 : Hp} {a it S : Addr} {xs : List V} {kd : Nat → PyData} {Q : VK} {R : Result → Shared → Prop}
theorem mk_loop (FF : FnOk X.prog X.w X.K X.mg X.base CX0 k f fd [px] sp) (hb : Binds X.K fd [px] []) (hr : Room (k + 1) X.A) (hcalm : X.calm = true) (KY : Keys X.K sp H0 xs kd) (hl : SqL X.K H0 a xs) (mi : Mine X pins it) (mS : Mine X pins S) (nS : it ≠ S) (kw : List (Str × Value))
    (hq : ∀ x H', xs[argBest (ltK kd) (xs.length - 1)]? = some x → Same H0 H' → Q x H') (hR : ∀ v s', EP X pins σ Q v s' → R (.ok (.ret v)) s') :
    ∀ (m j : Nat) (s : Shared) (H : Hp) (vb kb : Value) (xb yb : V) (c : Nat), xs.length - (j + 1) = m → j + 1 ≤ xs.length → Inv X pins σ H s → Same H0 H → H it = none → H S = none → s.heap.IsListIter it a (j + 1) → s.heap.get? S = some (seqO #[vb, kb] c) →
    xs[argBest (ltK kd) j]? = some xb → RelV xb vb → RelV yb kb → Dp X.K H yb (kd (argBest (ltK kd) j)) → codeAny (model X.prog X.w) X.A (.builtin "min.loop" ⟨[.ref it, .ref f, .ref S], kw⟩) R s := by
  have hname : (toString "min" ++ toString ".loop" : String) = "min.loop" := by decide
  have nc : ∀ (us : Array Value) (c : Nat) (v : Option Value), (seqO us c).data ≠ .cell v := fun us c v z => by cases z
  intro m
  induction m with
  | zero =>
    intro j s H vb kb xb yb c hm hj I s0 ni nSn st hS hx rb ry hd
    have hin : j + 1 = xs.length := by omega
    obtain ⟨its, rv, pl, hz⟩ := I.list (Same.seq s0 hl)
    have lv := rv.length
    refine codeAny_builtin F.entry_min_loop ?_
    rw [Around.under_plainId F.plain_min_loop _]
    show wpAny _ X.A.in1 (seqItems? (.ref S) >>= _) _ _ s
    refine wpAny_bind (wpAny_seqItems hS rfl ?_)
    show wpAny _ X.A.in1 (tryCatch (pyNext (.ref it)) _ >>= _) _ _ s
    refine wpAny_bind (wpAny_tryCatch (wpAny_pyNext_list_end (I.ok.hd hcalm) st pl.isList (by simp; omega) fun h' eb => ?_))
    have hS' : h'.get? S = some (seqO #[vb, kb] c) := eb S _ (Ne.symm nS) hS
    have I1 : Inv X pins σ H { s with heap := h' } := mi.turn (t' := s.toks) I ni fun b o hb e => eb b o hb e
    show wpAny _ X.A.in1 (updateSeq S (fun _ => #[]) >>= _) _ _ _
    refine wpAny_bind ?_
    refine wpAny_updateSeq hS' rfl (wpAny_bind (wpAny_letGo (wpAny_pure ?_)))
    refine hR _ _ ⟨xb, H, mS.turn (s := { s with heap := h' }) (t' := s.toks) I1 nSn fun b o hb e => (Heap.get?_update_other _ _ (Ne.symm hb)).trans e, rb, hq xb H ?_ s0⟩
    rw [← hin]
    exact hx
  | succ m ih =>
    intro j s H vb kb xb yb c hm hj I s0 ni nSn st hS hx rb ry hd
    have hlt : j + 1 < xs.length := by omega
    obtain ⟨its, rv, pl, hz⟩ := I.list (Same.seq s0 hl)
    have hx1 : xs[j + 1]? = some xs[j + 1] := List.getElem?_eq_getElem hlt
    obtain ⟨u, hu, ru⟩ := rv.get hx1
    refine codeAny_builtin F.entry_min_loop ?_
    rw [Around.under_plainId F.plain_min_loop _]
    show wpAny _ X.A.in1 (seqItems? (.ref S) >>= _) _ _ s
    refine wpAny_bind (wpAny_seqItems hS rfl ?_)
    show wpAny _ X.A.in1 (tryCatch (pyNext (.ref it)) _ >>= _) _ _ s
    refine wpAny_bind (wpAny_tryCatch (wpAny_pyNext_list_item st pl.isList (x := u) (by simpa using hu) fun h' st' sb => ?_))
    have hS' : h'.get? S = some (seqO #[vb, kb] c) := (sb.2 S (Ne.symm nS)).trans hS
    have I1 : Inv X pins σ H { s with heap := h' } := mi.turn (t' := s.toks) I ni fun b o hb e => (sb.2 b hb).trans e
    obtain ⟨io, ie, ic, idt⟩ := id st'
    have I2 := repin I1 mS nSn hS' (nc _ _)
    have mi2 : Mine X ((S, seqO #[vb, kb] c) :: pins) it := ⟨mi.l, mi.f, mi.a, mi.c, fun q hq => by
      rcases List.mem_append.mp hq with z | z
      · exact mi.p q (List.mem_append_left _ z)
      · rcases List.mem_cons.mp z with rfl | z
        · exact Ne.symm nS
        · exact mi.p q (List.mem_append_right _ z)⟩
    have I3 := repin I2 mi2 ni ie (fun v z => by rw [idt] at z; cases z)
    show wpAny _ X.A.in1 (tryCatch (holding [u] (call (.ref f) [u])) _ >>= _) _ _ _
    refine wpAny_bind (wpAny_tryCatch (wpAny_holding (wpAny_mono (call_in1 FF hb hr I3 ru (KY.k (j + 1) _ H hx1 s0)) (fun kx s2 hh => ?_) fun _ _ z => z)))
    obtain ⟨yk, H2, I4, rk, s12, hdk⟩ := hh
    have s02 := s0.trans s12
    have ie2 := ClX.pin_at I4
    have ni2 := ClX.pin_un I4
    have I5 := ClX.unpin I4
    have hS2 := ClX.pin_at I5
    have nS2 := ClX.pin_un I5
    have I6 := ClX.unpin I5
    have st2 : s2.heap.IsListIter it a (j + 1 + 1) := ⟨io, ie2, ic, idt⟩
    have le := argBest_le (ltK kd) j
    have lt0 : argBest (ltK kd) j < xs.length := by omega
    obtain ⟨as1, r1⟩ := Dp.reads I6 (kd (j + 1)) yk kx hdk rk
    obtain ⟨as2, r2⟩ := Dp.reads I6 (kd (argBest (ltK kd) j)) yb kb (dpSame s12 _ _ hd) ry
    have cmp : RcLt X.A.in1 s2 kx kb (ltK kd (j + 1) (argBest (ltK kd) j)) := rcLt_alike _ _ X.A.in1 s2 kx kb as1 as2 r1 r2 (KY.al _ _ hlt lt0) (KY.nn _ hlt) (by
      have h1 := KY.dp _ hlt
      have h2 := hr.in1.units
      have : min (kd (j + 1)).depth (kd (argBest (ltK kd) j)).depth ≤ 20 := Nat.le_trans (Nat.min_le_left _ _) h1
      omega)
    show wpAny _ X.A.in1 (tryCatch (holding [u, kx] (richCompare .Lt kx kb >>= _)) _ >>= _) _ _ _
    refine wpAny_bind (wpAny_tryCatch (wpAny_holding (wpAny_bind (cmp X.prog X.w _ _ ?_))))
    refine wpAny_bind (wpAny_holding (wpAny_truthy_bool ?_))
    refine wpAny_bind (wpAny_letGo (wpAny_pure ?_))
    cases hbt : ltK kd (j + 1) (argBest (ltK kd) j) with
    | true =>
      simp only [if_true]
      have e1 : argBest (ltK kd) (j + 1) = j + 1 := by simp only [argBest, hbt, if_true]
      refine wpAny_bind ?_
      refine wpAny_updateSeq hS2 rfl (wpAny_bind (wpAny_letGo ?_))
      rw [hname]
      refine wpAny_pure ⟨plainId_quiet F.plain_min_loop _, ih (j + 1) _ H2 u kx xs[j + 1] yk _ (by omega) hlt (mS.turn (t' := s2.toks) I6 nS2 fun b o hb e => (Heap.get?_update_other _ _ (Ne.symm hb)).trans e) s02 ni2 nS2 (st2.at fun o e => (Heap.get?_update_other _ _ (Ne.symm nS)).trans e)
        (Heap.get?_update_self _ hS2 rfl) (by rw [e1]; exact hx1) ru rk (by rw [e1]; exact hdk)⟩
    | false =>
      simp only [Bool.false_eq_true, if_false]
      have e1 : argBest (ltK kd) (j + 1) = argBest (ltK kd) j := by simp only [argBest, hbt, Bool.false_eq_true, if_false]
      refine wpAny_bind (wpAny_letGo ?_)
      rw [hname]
      exact wpAny_pure ⟨plainId_quiet F.plain_min_loop _, ih (j + 1) _ H2 vb kb xb yb c (by omega) hlt I6 s02 ni2 nS2 st2 hS2 (by rw [e1]; exact hx) rb ry (by rw [e1]; exact dpSame s12 _ _ hd)⟩
/-- min(list, key = f, default = d) -/
def rMinK (K : PySem.W.Frag) (f : Addr) (sp : Sp) : List V → List V → Hp → VK → Prop := fun vs zs H Q => ∃ (a : Addr) (xs : List V) (d : V) (kd : Nat → PyData), vs = [.ref a] ∧ zs = [.ref f, d] ∧ SqL K H a xs ∧ Keys K sp H xs kd ∧ (xs = [] → ∀ H', Same H H' → Q d H') ∧
  (xs ≠ [] → ∀ x H', xs[argBest (ltK kd) (xs.length - 1)]? = some x → Same H H' → Q x H')
theorem call_minK (FF : FnOk X.prog X.w X.K X.mg X.base CX0 k f fd [px] sp) (hb : Binds X.K fd [px] []) (hr : Room (k + 1) X.A) (hcalm : X.calm = true) : CallRK X (.builtin "min") [Str.ofString "key", Str.ofString "default"] (rMinK X.K f sp) := by
  intro pins s σ H vs zs us ws Q I r1 r2 h
  obtain ⟨a, xs, d, kd, rfl, rfl, hl, KY, hq0, hq⟩ := h
  have hname : (toString "min" ++ toString ".loop" : String) = "min.loop" := by decide
  have nc : ∀ (us : Array Value) (c : Nat) (v : Option Value), (seqO us c).data ≠ .cell v := fun us c v z => by cases z
  obtain ⟨ua, rfl, ra⟩ : ∃ ua, us = [ua] ∧ RelV (.ref a) ua := by
    cases r1 with
    | cons p q =>
      cases q
      exact ⟨_, rfl, p⟩
  cases ra
  obtain ⟨uf, ud, rfl, rf, rd⟩ := vals2 r2
  cases rf
  show wpAny (model X.prog X.w) X.A (call (.builtin "min") [.ref a] [(Str.ofString "key", .ref f), (Str.ofString "default", ud)]) (EP X pins σ Q) X.xe s
  refine PyProof.Rows.kmk_tree F.kind_min F.plain_min F.entry_min (args_min_key_default _ _ _) ?_
  show wpAny _ X.A.in1 (Builtin.Builtins.bindParams "min" ["key", "default"] 0 ⟨[], [(Str.ofString "key", .ref f), (Str.ofString "default", ud)]⟩ >>= _) _ _ s
  refine wpAny_bind (wpAny_of_eq (show Builtin.Builtins.bindParams "min" ["key", "default"] 0 ⟨[], [(Str.ofString "key", .ref f), (Str.ofString "default", ud)]⟩ = pure [some (.ref f), some ud] from rfl) ?_)
  refine wpAny_bind (wpAny_pure ?_)
  obtain ⟨its, rv, pl, hz⟩ := I.list hl
  have lv := rv.length
  refine wpAny_bind (wpAny_pyIter_list pl.isList ?_)
  have ni : H s.heap.objs.size = none := I.hok.fresh (Nat.le_refl _)
  have I1 : Inv X pins σ H { s with heap := s.heap.push { cls := .type "list_iterator", data := .fields #[.ref a, .int 0 0] }, toks := s.toks } := I.kept fun b o e => Heap.get?_push_of_some _ e
  have mi : Mine X pins s.heap.objs.size := Mine.of I (Nat.le_refl _) ni
  have st : (s.heap.push { cls := .type "list_iterator", data := .fields #[.ref a, .int 0 0] }).IsListIter s.heap.objs.size a 0 := ⟨_, Heap.get?_push_size _ rfl, rfl, rfl⟩
  generalize hs1 : s.heap.push { cls := .type "list_iterator", data := .fields #[.ref a, .int 0 0] } = h1 at I1 st
  have z1 : s.heap.objs.size < h1.objs.size := by
    rw [← hs1, Heap.size_push]
    exact Nat.lt_succ_self _
  show wpAny _ _ (newList [] >>= _) _ _ _
  refine wpAny_bind (wpAny_newObj_type ?_)
  have nS : H h1.objs.size = none := I1.hok.fresh (Nat.le_refl _)
  have mS : Mine X pins h1.objs.size := Mine.of I1 (Nat.le_refl _) nS
  have I2 : Inv X pins σ H { s with heap := h1.push { cls := .type "list", data := .seq #[] 0 }, toks := s.toks } := I1.kept fun b o e => Heap.get?_push_of_some _ e
  have st2 : (h1.push { cls := .type "list", data := .seq #[] 0 }).IsListIter s.heap.objs.size a 0 := st.at fun o e => Heap.get?_push_of_some _ e
  have hS2 : (h1.push { cls := .type "list", data := .seq #[] 0 }).get? h1.objs.size = some (seqO #[] 0) := Heap.get?_push_size _ rfl
  have nn : s.heap.objs.size ≠ h1.objs.size := Nat.ne_of_lt z1
  rw [hname]
  refine wpAny_pure ⟨plainId_quiet F.plain_min_loop _, ?_⟩
  generalize h1.push { cls := .type "list", data := .seq #[] 0 } = h2 at I2 st2 hS2
  generalize s.heap.objs.size = it at *
  generalize h1.objs.size = S at *
  refine codeAny_builtin F.entry_min_loop ?_
  rw [Around.under_plainId F.plain_min_loop _]
  obtain ⟨its, rv, pl, hz⟩ := I2.list hl
  have lv := rv.length
  show wpAny _ X.A.in1 (seqItems? (.ref S) >>= _) _ _ _
  refine wpAny_bind (wpAny_seqItems hS2 rfl ?_)
  show wpAny _ X.A.in1 (tryCatch (pyNext (.ref it)) _ >>= _) _ _ _
  cases hxs : xs with
  | nil =>
    have l0 : its = [] := List.length_eq_zero_iff.mp (by rw [← lv, hxs]; rfl)
    refine wpAny_bind (wpAny_tryCatch (wpAny_pyNext_list_end (I.ok.hd hcalm) st2 pl.isList (by simp [l0]) fun h' eb => ?_))
    have I3 : Inv X pins σ H { s with heap := h', toks := s.toks } := mi.turn (s := { s with heap := h2, toks := s.toks }) (t' := s.toks) I2 ni fun b o hb e => eb b o hb e
    refine wpAny_bind (wpAny_rule (wpAny_pure ?_))
    exact ⟨d, H, I3, rd, hq0 hxs H (Same.refl H)⟩
  | cons x r =>
    have hlt : 0 < xs.length := by rw [hxs]; exact Nat.succ_pos _
    have hx1 : xs[0]? = some xs[0] := List.getElem?_eq_getElem hlt
    obtain ⟨u, hu, ru⟩ := rv.get hx1
    refine wpAny_bind (wpAny_tryCatch (wpAny_pyNext_list_item st2 pl.isList (x := u) (by simpa using hu) fun h' st' sb => ?_))
    have hS' : h'.get? S = some (seqO #[] 0) := (sb.2 S (Ne.symm nn)).trans hS2
    have I1 : Inv X pins σ H { s with heap := h', toks := s.toks } := mi.turn (s := { s with heap := h2, toks := s.toks }) (t' := s.toks) I2 ni fun b o hb e => (sb.2 b hb).trans e
    obtain ⟨io, ie, ic, idt⟩ := id st'
    have I3 := repin I1 mS nS hS' (nc _ _)
    have mi2 : Mine X ((S, seqO #[] 0) :: pins) it := ⟨mi.l, mi.f, mi.a, mi.c, fun q hq => by
      rcases List.mem_append.mp hq with z | z
      · exact mi.p q (List.mem_append_left _ z)
      · rcases List.mem_cons.mp z with rfl | z
        · exact Ne.symm nn
        · exact mi.p q (List.mem_append_right _ z)⟩
    have I4 := repin I3 mi2 ni ie (fun v z => by rw [idt] at z; cases z)
    show wpAny _ X.A.in1 (tryCatch (holding [u] (call (.ref f) [u])) _ >>= _) _ _ _
    refine wpAny_bind (wpAny_tryCatch (wpAny_holding (wpAny_mono (call_in1 FF hb hr I4 ru (KY.k 0 _ H hx1 (Same.refl H))) (fun kx s2 hh => ?_) fun _ _ z => z)))
    obtain ⟨yk, H2, I5, rk, s12, hdk⟩ := hh
    have ie2 := ClX.pin_at I5
    have ni2 := ClX.pin_un I5
    have I6 := ClX.unpin I5
    have hS3 := ClX.pin_at I6
    have nS2 := ClX.pin_un I6
    have I7 := ClX.unpin I6
    have st3 : s2.heap.IsListIter it a 1 := ⟨io, ie2, ic, idt⟩
    show wpAny _ X.A.in1 (updateSeq S (fun _ => #[u, kx]) >>= _) _ _ _
    refine wpAny_bind ?_
    refine wpAny_updateSeq hS3 rfl ?_
    rw [hname]
    refine wpAny_pure ⟨plainId_quiet F.plain_min_loop _, mk_loop FF hb hr hcalm KY hl mi mS nn _ (hq (by rw [hxs]; simp)) (fun v s' e => e) _ 0 _ H2 u kx xs[0] yk _ rfl hlt (mS.turn (t' := s2.toks) I7 nS2 fun b o hb e => (Heap.get?_update_other _ _ (Ne.symm hb)).trans e) s12 ni2 nS2 (st3.at fun o e => (Heap.get?_update_other _ _ (Ne.symm nn)).trans e)
      (Heap.get?_update_self _ hS3 rfl) hx1 ru rk hdk⟩
end
end SE
namespace SE
open PySem PySem.Spec PyProof.Rows L2
open PySem.W (alike dataLt)
/-! ### what a sequence makes of a stack, with a limit or none -/
def limV : Option Int → V
  | none => .non
  | some L => .int L
def fullB (lim : Option Int) (n : Nat) : Bool := match lim with | none => false | some L => decide (L ≤ (n : Int))
def runL (lim : Option Int) : List Stp → List Str → Option (List Str)
  | [], st => some st
  | (true, z) :: r, st => if fullB lim st.length = true then none else runL lim r (z :: st)
  | (false, _) :: _, [] => none
  | (false, z) :: r, y :: st => if y = z then runL lim r st else none
def overZ (lim : Option Int) (h : Int) : Bool := match lim with | none => false | some L => decide (L < h)
def overB (lim : Option Int) (n : Nat) : Bool := match lim with | none => false | some L => decide (L < (n : Int))
def runS (lim : Option Int) (ss : List Stp) (st : List Str) : Option (List Str) := if overB lim st.length = true then none else runL lim ss st
def apM (lim : Option Int) : Eff → List Str → Option (List Str)
  | none, _ => none
  | some (xs, ys, p), st => if overZ lim ((st.length : Int) + p) = true then none else if st.take xs.length = xs then some (ys ++ st.drop xs.length) else none
theorem cw_e (R : List Str) : cw [] R = some (R, []) := by
  unfold cw
  rfl
theorem apM_some (lim : Option Int) (xs ys : List Str) (p : Int) (st : List Str) : apM lim (some (xs, ys, p)) st = if overZ lim ((st.length : Int) + p) = true then none else if st.take xs.length = xs then some (ys ++ st.drop xs.length) else none := rfl
theorem overZ_mono {lim : Option Int} {a b : Int} (h : a ≤ b) (o : overZ lim a = true) : overZ lim b = true := by
  cases lim with
  | none => cases o
  | some L =>
    have := of_decide_eq_true o
    exact decide_eq_true (by omega)
theorem eff_cons (s : Stp) (ss : List Stp) : effM (s :: ss) = (effM ss).bind (comp (partM s)) := by
  rw [← joinF_eff ss _ (hgp s).1]
  unfold effM joinM
  rw [List.map_cons, joinF_cons, comp_one, Option.bind_some]
theorem run_ap (lim : Option Int) : ∀ (ss : List Stp) (st : List Str), (∀ s ∈ ss, Item s.2) → overZ lim (st.length : Int) = false → runL lim ss st = apM lim (effM ss) st
  | [], st, _, ho => by
    show some st = apM lim (some ([], [], 0)) st
    rw [apM_some, Int.add_zero, ho, if_neg (by simp)]
    simp
  | (true, z) :: r, st, hI, ho => by
    have hR : ∀ s ∈ r, Item s.2 := fun s m => hI s (List.mem_cons_of_mem _ m)
    rw [eff_cons]
    have e1 : partM (true, z) = ([], [z], 1) := rfl
    rw [e1]
    show (if fullB lim st.length = true then none else runL lim r (z :: st)) = _
    have fl : fullB lim st.length = overZ lim ((z :: st).length : Int) := by
      unfold fullB overZ
      cases lim with
      | none => rfl
      | some L =>
        rw [List.length_cons]
        exact decide_eq_decide.mpr (by omega)
    cases hE : effM r with
    | none =>
      show _ = none
      cases hf : fullB lim st.length with
      | true => rfl
      | false =>
        rw [if_neg (by simp), run_ap lim r (z :: st) hR (by rw [← fl]; exact hf), hE]
        rfl
    | some E =>
      obtain ⟨xs, ys, p⟩ := E
      obtain ⟨ok, _, _⟩ := effM_ok hR hE
      have p0 : 0 ≤ p := ok.h0
      rw [Option.bind_some, comp_cw]
      have hm : mx 1 (hg (([] : List Str), [z], (1 : Int)) + p) = 1 + p := by
        show mx 1 (((1 : Nat) : Int) - ((0 : Nat) : Int) + p) = 1 + p
        unfold mx
        split <;> omega
      have big : fullB lim st.length = true → overZ lim ((st.length : Int) + (1 + p)) = true := fun hf => by
        rw [fl] at hf
        exact overZ_mono (by rw [List.length_cons]; omega) hf
      have hh : ((z :: st).length : Int) + p = (st.length : Int) + (1 + p) := by
        rw [List.length_cons]
        omega
      cases xs with
      | nil =>
        show _ = apM lim (some ([] ++ [], ys ++ [z], mx 1 (hg (([] : List Str), [z], (1 : Int)) + p))) st
        rw [hm, apM_some]
        cases hf : fullB lim st.length with
        | true =>
          rw [if_pos rfl, big hf, if_pos rfl]
        | false =>
          rw [if_neg (by simp), run_ap lim r (z :: st) hR (by rw [← fl]; exact hf), hE, apM_some, hh]
          simp
      | cons x xs =>
        by_cases c : z = x
        · subst c
          have ec : cw [z] (z :: xs) = some (xs, []) := by
            unfold cw
            rw [if_pos rfl]
            exact cw_e xs
          show _ = apM lim ((cw [z] (z :: xs)).map fun w => ([] ++ w.1, ys ++ w.2, mx 1 (hg (([] : List Str), [z], (1 : Int)) + p))) st
          rw [ec, Option.map_some, hm, apM_some]
          cases hf : fullB lim st.length with
          | true =>
            rw [if_pos rfl]
            rw [big hf, if_pos rfl]
          | false =>
            rw [if_neg (by simp), run_ap lim r (z :: st) hR (by rw [← fl]; exact hf), hE, apM_some, hh]
            simp
        · have ec : cw [z] (x :: xs) = none := by
            unfold cw
            rw [if_neg c]
          show _ = apM lim ((cw [z] (x :: xs)).map fun w => ([] ++ w.1, ys ++ w.2, mx 1 (hg (([] : List Str), [z], (1 : Int)) + p))) st
          rw [ec, Option.map_none]
          show _ = none
          cases hf : fullB lim st.length with
          | true => rfl
          | false =>
            rw [if_neg (by simp), run_ap lim r (z :: st) hR (by rw [← fl]; exact hf), hE, apM_some]
            split
            · rfl
            · rw [if_neg (by rw [List.length_cons, List.take_succ_cons]; exact fun q => c (List.cons.inj q).1)]
  | (false, z) :: r, [], hI, ho => by
    have hR : ∀ s ∈ r, Item s.2 := fun s m => hI s (List.mem_cons_of_mem _ m)
    rw [eff_cons]
    show none = _
    cases hE : effM r with
    | none => rfl
    | some E =>
      obtain ⟨xs, ys, p⟩ := E
      rw [Option.bind_some, comp_cw]
      show none = apM lim ((cw ([] : List Str) xs).map _) []
      rw [cw_e, Option.map_some, apM_some]
      show none = if _ then none else if ([] : List Str).take _ = [z] ++ xs then _ else none
      split
      · rfl
      · rw [if_neg (by rw [List.take_nil]; exact fun q => by cases q)]
  | (false, z) :: r, y :: st, hI, ho => by
    have hR : ∀ s ∈ r, Item s.2 := fun s m => hI s (List.mem_cons_of_mem _ m)
    rw [eff_cons]
    show (if y = z then runL lim r st else none) = _
    have ho2 : overZ lim (st.length : Int) = false := by
      cases q : overZ lim (st.length : Int) with
      | false => rfl
      | true =>
        rw [overZ_mono (by rw [List.length_cons]; omega) q] at ho
        cases ho
    cases hE : effM r with
    | none =>
      show _ = none
      split
      · rw [run_ap lim r st hR ho2, hE]
        rfl
      · rfl
    | some E =>
      obtain ⟨xs, ys, p⟩ := E
      obtain ⟨ok, _, _⟩ := effM_ok hR hE
      have p0 : 0 ≤ p := ok.h0
      rw [Option.bind_some, comp_cw]
      show _ = apM lim ((cw ([] : List Str) xs).map fun w => ([z] ++ w.1, ys ++ w.2, mx 0 (hg ([z], ([] : List Str), (0 : Int)) + p))) (y :: st)
      rw [cw_e, Option.map_some]
      have hm : overZ lim (((y :: st).length : Int) + mx 0 (hg ([z], ([] : List Str), (0 : Int)) + p)) = overZ lim ((st.length : Int) + p) := by
        show overZ lim (((y :: st).length : Int) + mx 0 (((0 : Nat) : Int) - ((1 : Nat) : Int) + p)) = _
        unfold mx
        rw [List.length_cons] at ho ⊢
        split
        · rw [show ((st.length + 1 : Nat) : Int) + (((0 : Nat) : Int) - ((1 : Nat) : Int) + p) = (st.length : Int) + p by omega]
        · have p1 : p = 0 ∨ p = 1 := by omega
          rcases p1 with rfl | rfl
          · rw [Int.add_zero, Int.add_zero, ho, ho2]
          · rw [Int.add_zero]
            congr 1
      rw [apM_some, hm, List.append_nil]
      by_cases c : y = z
      · subst c
        rw [if_pos rfl, run_ap lim r st hR ho2, hE, apM_some]
        simp
      · rw [if_neg c]
        split
        · rfl
        · rw [if_neg]
          intro q
          rw [List.length_append, List.length_cons, List.length_nil, Nat.add_comm, List.take_succ_cons] at q
          exact c (List.cons.inj q).1
theorem run_S {lim : Option Int} {ss : List Stp} {st : List Str} (hI : ∀ s ∈ ss, Item s.2) : runS lim ss st = apM lim (effM ss) st := by
  unfold runS
  have e : overB lim st.length = overZ lim (st.length : Int) := by cases lim <;> rfl
  rw [e]
  cases q : overZ lim (st.length : Int) with
  | false => rw [if_neg (by simp), run_ap lim ss st hI q]
  | true =>
    rw [if_pos rfl]
    cases hE : effM ss with
    | none => rfl
    | some E =>
      obtain ⟨xs, ys, p⟩ := E
      obtain ⟨ok, _, _⟩ := effM_ok hI hE
      have p0 : 0 ≤ p := ok.h0
      rw [apM_some, overZ_mono (by omega) q, if_pos rfl]
end SE
namespace SE
open PySem PySem.Spec PyProof.Rows L2
open PySem.W (alike alikeAll dataLt)
/-! ### the first stack on which two effects differ -/
def keyD (xs : List Str) : PyData := .tuple [.int xs.length, .tuple (xs.map .str)]
def ltW (a b : List Str) : Bool := dataLt (keyD a) (keyD b)
theorem alike_strs : ∀ xs ys : List Str, alikeAll (xs.map PyData.str) (ys.map PyData.str) = true
  | [], [] => by unfold alikeAll; rfl
  | [], _ :: _ => by simp [alikeAll]
  | _ :: _, [] => by simp [alikeAll]
  | x :: xs, y :: ys => by
    have ih := alike_strs xs ys
    simp only [List.map_cons, alikeAll, ih, Bool.and_true]
    simp [alike]
theorem alike_key (xs ys : List Str) : alike (keyD xs) (keyD ys) = true := by
  have h := alike_strs xs ys
  unfold keyD
  simp [alike, alikeAll, h]
theorem ltW_le {a b : List Str} (h : ltW a b = true) : a.length ≤ b.length := by
  unfold ltW keyD at h
  rw [PySem.W.dataLt_pair (by simp [alike]) (by simp [alike, alike_strs])] at h
  split at h
  · rename_i e
    have : (a.length : Int) = (b.length : Int) := by
      have q := e
      unfold PyData.eqv at q
      exact of_decide_eq_true q
    omega
  · rw [PySem.W.dataLt_int] at h
    have := of_decide_eq_true h
    omega
theorem ltW_ge {a b : List Str} (h : ltW a b = false) : b.length ≤ a.length := by
  unfold ltW keyD at h
  rw [PySem.W.dataLt_pair (by simp [alike]) (by simp [alike, alike_strs])] at h
  split at h
  · rename_i e
    have : (a.length : Int) = (b.length : Int) := by
      have q := e
      unfold PyData.eqv at q
      exact of_decide_eq_true q
    omega
  · rw [PySem.W.dataLt_int] at h
    have := of_decide_eq_false h
    omega
def fsM (lim : Option Int) : Eff → Option (List Str)
  | none => none
  | some (xs, _, p) => if overZ lim ((xs.length : Int) + p) = true then none else some xs
def mxI (a b : Int) : Int := if b > a then b else a
def beyM (lim : Option Int) (xs : List Str) (p q : Int) : Option (List Str) := match lim with
  | none => none
  | some L => if p = q then none else some (xs ++ List.replicate (L - mxI p q + 1 - (xs.length : Int)).toNat ("a" : Str))
def difM (lim : Option Int) (o1 o2 : Eff) : Option (List Str) := match fsM lim o1, fsM lim o2, o1, o2 with
  | some x1, some x2, some (_, y1, p1), some (_, y2, p2) => if x1 = x2 ∧ y1 = y2 then beyM lim x1 p1 p2 else some (if ltW x2 x1 = true then x2 else x1)
  | some x1, none, _, _ => some x1
  | none, some x2, _, _ => some x2
  | _, _, _, _ => none
theorem fs_some {lim : Option Int} {xs ys x : List Str} {p : Int} (h : fsM lim (some (xs, ys, p)) = some x) : x = xs ∧ overZ lim ((xs.length : Int) + p) = false := by
  unfold fsM at h
  dsimp only at h
  cases q : overZ lim ((xs.length : Int) + p) with
  | true => rw [q, if_pos rfl] at h; cases h
  | false =>
    rw [q, if_neg (by simp)] at h
    cases h
    exact ⟨rfl, rfl⟩
theorem fs_none {lim : Option Int} {o : Eff} (h : fsM lim o = none) (st : List Str) : apM lim o st = none := by
  match o, h with
  | none, _ => rfl
  | some (xs, ys, p), h =>
    have q : overZ lim ((xs.length : Int) + p) = true := by
      unfold fsM at h
      dsimp only at h
      cases q : overZ lim ((xs.length : Int) + p) with
      | true => rfl
      | false => rw [q, if_neg (by simp)] at h; cases h
    rw [apM_some]
    split
    · rfl
    · rename_i no
      split
      · rename_i e
        have l := congrArg List.length e
        rw [List.length_take] at l
        exact absurd (overZ_mono (by omega) q) no
      · rfl
theorem ap_own {lim : Option Int} {xs ys : List Str} {p : Int} (h : overZ lim ((xs.length : Int) + p) = false) : apM lim (some (xs, ys, p)) xs = some ys := by
  rw [apM_some, h, if_neg (by simp), List.take_length, if_pos rfl, List.drop_length, List.append_nil]
theorem ap_none {lim : Option Int} {xs ys st : List Str} {p : Int} (h : xs.length ≤ st.length → st.take xs.length ≠ xs) : apM lim (some (xs, ys, p)) st = none := by
  rw [apM_some]
  split
  · rfl
  · split
    · rename_i e
      have l := congrArg List.length e
      rw [List.length_take] at l
      exact absurd e (h (by omega))
    · rfl
theorem dif_sound {lim : Option Int} {o1 o2 : Eff} {st : List Str} (h : difM lim o1 o2 = some st) : apM lim o1 st ≠ apM lim o2 st := by
  cases e1 : fsM lim o1 with
  | none =>
    cases e2 : fsM lim o2 with
    | none =>
      unfold difM at h
      rw [e1, e2] at h
      cases h
    | some x2 =>
      match o2, e2 with
      | some (xs, ys, p), e2 =>
        obtain ⟨rfl, ov⟩ := fs_some e2
        unfold difM at h
        rw [e1, e2] at h
        cases h
        rw [fs_none e1, ap_own ov]
        exact fun q => by cases q
  | some x1 =>
    match o1, e1 with
    | some (xs, ys, p), e1 =>
      obtain ⟨rfl, ov⟩ := fs_some e1
      cases e2 : fsM lim o2 with
      | none =>
        unfold difM at h
        rw [e1, e2] at h
        cases h
        rw [fs_none e2, ap_own ov]
        exact fun q => by cases q
      | some x2 =>
        match o2, e2 with
        | some (us, vs, q), e2 =>
          obtain ⟨rfl, ov2⟩ := fs_some e2
          unfold difM at h
          rw [e1, e2] at h
          dsimp only at h
          by_cases c : x1 = x2 ∧ ys = vs
          · rw [if_pos c] at h
            obtain ⟨rfl, rfl⟩ := c
            cases lim with
            | none => cases h
            | some L =>
              unfold beyM at h
              dsimp only at h
              split at h
              · cases h
              · rename_i ne
                cases h
                have a1 := of_decide_eq_false ov
                have a2 := of_decide_eq_false ov2
                have go : ∀ {a b : Int}, a < b → (x1.length : Int) + b ≤ L → ∀ zs : List Str, zs = x1 ++ List.replicate (L - b + 1 - (x1.length : Int)).toNat ("a" : Str) → apM (some L) (some (x1, ys, b)) zs = none ∧ (apM (some L) (some (x1, ys, a)) zs).isSome = true := by
                  intro a b lt le zs ez
                  have lz : (zs.length : Int) = L - b + 1 := by
                    rw [ez, List.length_append, List.length_replicate]
                    omega
                  refine ⟨?_, ?_⟩
                  · rw [apM_some, if_pos (show overZ (some L) ((zs.length : Int) + b) = true from decide_eq_true (by omega))]
                  · rw [apM_some, if_neg (by
                      have : overZ (some L) ((zs.length : Int) + a) = false := decide_eq_false (by omega)
                      rw [this]
                      simp), if_pos (by rw [ez, List.take_left' rfl])]
                    rfl
                by_cases lt : p < q
                · have em : mxI p q = q := if_pos lt
                  rw [em]
                  obtain ⟨g1, g2⟩ := go lt (by omega) _ rfl
                  intro z
                  rw [g1] at z
                  rw [z] at g2
                  cases g2
                · have em : mxI p q = p := if_neg lt
                  rw [em]
                  obtain ⟨g1, g2⟩ := go (show q < p by omega) (by omega) _ rfl
                  intro z
                  rw [g1] at z
                  rw [← z] at g2
                  cases g2
          · rw [if_neg c] at h
            cases h
            by_cases cx : x1 = x2
            · subst cx
              have cy : ys ≠ vs := fun z => c ⟨rfl, z⟩
              have e : (if ltW x1 x1 = true then x1 else x1) = x1 := by split <;> rfl
              rw [e, ap_own ov, ap_own ov2]
              exact fun z => cy (Option.some.inj z)
            · cases hl : ltW x2 x1 with
              | true =>
                rw [if_pos rfl, ap_own ov2, ap_none fun l e => ?_]
                · exact fun z => by cases z
                · have l2 := ltW_le hl
                  rw [List.take_of_length_le (by omega)] at e
                  exact cx e.symm
              | false =>
                rw [if_neg (by simp), ap_own ov, ap_none fun l e => ?_]
                · exact fun z => by cases z
                · have l2 := ltW_ge hl
                  rw [List.take_of_length_le (by omega)] at e
                  exact cx e
theorem dif_none {lim : Option Int} {o1 o2 : Eff} (h : difM lim o1 o2 = none) (st : List Str) : apM lim o1 st = apM lim o2 st := by
  cases e1 : fsM lim o1 with
  | none =>
    cases e2 : fsM lim o2 with
    | none => rw [fs_none e1, fs_none e2]
    | some x2 =>
      unfold difM at h
      rw [e1, e2] at h
      cases h
  | some x1 =>
    match o1, e1 with
    | some (xs, ys, p), e1 =>
      obtain ⟨rfl, ov⟩ := fs_some e1
      cases e2 : fsM lim o2 with
      | none =>
        unfold difM at h
        rw [e1, e2] at h
        cases h
      | some x2 =>
        match o2, e2 with
        | some (us, vs, q), e2 =>
          obtain ⟨rfl, ov2⟩ := fs_some e2
          unfold difM at h
          rw [e1, e2] at h
          dsimp only at h
          by_cases c : x1 = x2 ∧ ys = vs
          · rw [if_pos c] at h
            obtain ⟨rfl, rfl⟩ := c
            cases lim with
            | none => rw [apM_some, apM_some]; rfl
            | some L =>
              unfold beyM at h
              dsimp only at h
              split at h
              · rename_i e
                rw [e]
              · cases h
          · rw [if_neg c] at h
            cases h
theorem dif_refl (o : Eff) : difM none o o = none := by
  match o with
  | none => rfl
  | some (xs, ys, p) =>
    have e : fsM none (some (xs, ys, p)) = some xs := rfl
    unfold difM
    rw [e]
    dsimp only
    rw [if_pos ⟨rfl, rfl⟩]
    rfl
end SE
/-! f(e, .., k = v, ..), f a def of the text; (an expression)(e, .., k = v, ..), one of two defs. -/
namespace SE
open PySem PySem.Spec PyProof.Rows L2
section
variable {X : Cx} {CT : CXT} {k n : Nat} {f f0 f1 : Addr} {fd fd0 fd1 : FuncData} {ps ks : List Str} {sp : Sp} {x : Str} {p pos : Pos} {e fe : Expr} {es : List Expr} {kws : List Keyword} {te : TE} {t tk : TA} {ex : L2.St → XK}
  {g g0 g1 : List Value → List Value → List Value} {gV : List V → List V → List V}
def tKwS (n m : Nat) (sp : Sp) (gV : List V → List V → List V) (ex : L2.St → XK) (t tk : TA) : TE := fun σ H Q => t σ H fun vs H1 => tk σ H1 fun zs H2 => vs.length = n ∧ zs.length = m ∧ sp (gV vs zs) H2 Q (ex σ)
theorem pe_kwS (F : FnOk X.prog X.w X.K X.mg X.base CT k f fd ps sp) (room : Room k X.A) (hm : X.mg x = some (.ref f)) (kp : PySem.W.keepIn X.K (.ref f) = true) (bd : KBn X.K fd ps n ks g gV) (out : ∀ σ, PassesAt CT X σ (ex σ)) (ha : PA X (e :: es) t) (hk : PK X kws tk)
    (hks : (backToKw pos (keywordEach kws X.env)).filterMap (·.1) = ks := by rfl) (hall : (backToKw pos (keywordEach kws X.env)).all (·.1.isSome) = true := by rfl) (hg : Gl X x := by rfl) (hd : (x == ("__debug__" : Str)) = false := by decide)
    (he : starEach (e :: es) X.env = (false, eval e X.env) :: starEach es X.env := by rfl) (hpl : ((backTo pos (starEach (e :: es) X.env)).any (·.1) || (backToKw pos (keywordEach kws X.env)).any (·.1.isNone)) = false := by rfl) :
    PE X (.Call (.Name x p) (e :: es) kws pos) (tKwS n ks.length sp gV ex t tk) := by
  constructor
  intro pins s σ H Q I w
  refine wpAny_Call_Name_kw (ld_glob I hg hm ?_ hd)
  refine PySem.W.callWith_KW (h₀ := X.base) I.ok.mod.kin kp hall (thn (ha.run pos pins s σ H _ I w) fun us s1 z => ?_) hpl he
  obtain ⟨vs, H1, I1, r1, w1⟩ := z
  refine thn (hk.run pos pins s1 σ H1 _ I1 w1) fun ws s2 z => ?_
  obtain ⟨zs, H2, I2, r2, l1, l2, w2⟩ := z
  rw [hks]
  exact ⟨I2.kIn, run_kwS F room bd (out σ) I2 r1 r2 l1 l2 w2⟩
def tKwX (f0 f1 : Addr) (n m : Nat) (sp : Sp) (gV : List V → List V → List V) (ex : L2.St → XK) (te : TE) (t tk : TA) : TE := fun σ H Q => te σ H fun y H0 => (y = .ref f0 ∨ y = .ref f1) ∧ tKwS n m sp gV ex t tk σ H0 Q
theorem pe_kwX (hf : PE X fe te) (F0 : FnOk X.prog X.w X.K X.mg X.base CT k f0 fd0 ps sp) (F1 : FnOk X.prog X.w X.K X.mg X.base CT k f1 fd1 ps sp) (room : Room k X.A) (kp0 : PySem.W.keepIn X.K (.ref f0) = true) (kp1 : PySem.W.keepIn X.K (.ref f1) = true) (bd0 : KBn X.K fd0 ps n ks g0 gV) (bd1 : KBn X.K fd1 ps n ks g1 gV)
    (out : ∀ σ, PassesAt CT X σ (ex σ)) (ha : PA X (e :: es) t) (hk : PK X kws tk)
    (hev : eval (.Call fe (e :: es) kws pos) X.env = (do callWith pos (← eval fe X.env) [] (backTo pos (starEach (e :: es) X.env)) (backToKw pos (keywordEach kws X.env))) := by rfl)
    (hks : (backToKw pos (keywordEach kws X.env)).filterMap (·.1) = ks := by rfl) (hall : (backToKw pos (keywordEach kws X.env)).all (·.1.isSome) = true := by rfl)
    (he : starEach (e :: es) X.env = (false, eval e X.env) :: starEach es X.env := by rfl) (hpl : ((backTo pos (starEach (e :: es) X.env)).any (·.1) || (backToKw pos (keywordEach kws X.env)).any (·.1.isNone)) = false := by rfl) :
    PE X (.Call fe (e :: es) kws pos) (tKwX f0 f1 n ks.length sp gV ex te t tk) := by
  constructor
  intro pins s σ H Q I w
  rw [hev]
  refine wpAny_bind (thn (hf.run pins s σ H _ I w) fun u s0 z => ?_)
  obtain ⟨y, H0, I0, ry, hy, w0⟩ := z
  rcases hy with rfl | rfl
  · cases ry
    refine PySem.W.callWith_KW (h₀ := X.base) I0.ok.mod.kin kp0 hall (thn (ha.run pos pins s0 σ H0 _ I0 w0) fun us s1 z => ?_) hpl he
    obtain ⟨vs, H1, I1, r1, w1⟩ := z
    refine thn (hk.run pos pins s1 σ H1 _ I1 w1) fun ws s2 z => ?_
    obtain ⟨zs, H2, I2, r2, l1, l2, w2⟩ := z
    rw [hks]
    exact ⟨I2.kIn, run_kwS F0 room bd0 (out σ) I2 r1 r2 l1 l2 w2⟩
  · cases ry
    refine PySem.W.callWith_KW (h₀ := X.base) I0.ok.mod.kin kp1 hall (thn (ha.run pos pins s0 σ H0 _ I0 w0) fun us s1 z => ?_) hpl he
    obtain ⟨vs, H1, I1, r1, w1⟩ := z
    refine thn (hk.run pos pins s1 σ H1 _ I1 w1) fun ws s2 z => ?_
    obtain ⟨zs, H2, I2, r2, l1, l2, w2⟩ := z
    rw [hks]
    exact ⟨I2.kIn, run_kwS F1 room bd1 (out σ) I2 r1 r2 l1 l2 w2⟩
theorem pass0At {σ : L2.St} {E : XK} : PassesAt CX0 X σ E := fun _ _ _ _ _ _ h => h.elim
end
end SE
namespace SE
open PySem PySem.Spec PyProof.Rows L2
open PySem.W (alike alikeAll dataLt)
def LimOk (lim : Option Int) : Prop := ∀ L, lim = some L → 0 ≤ L ∧ L ≤ 1000
def OWd (K : PySem.W.Frag) (H : Hp) (v : V) : Option (List Str) → Prop
  | none => v = .non
  | some zs => ∃ a, v = .ref a ∧ SqT K H a (zs.map V.str)
theorem OWd.same {K : PySem.W.Frag} {H H' : Hp} {v : V} : ∀ {o : Option (List Str)}, OWd K H v o → Same H H' → OWd K H' v o
  | none, h, _ => h
  | some zs, h, s => by
    obtain ⟨a, e, q⟩ := h
    exact ⟨a, e, Same.tup s q⟩
section
variable {P : Program} {w : World} {K : PySem.W.Frag} {mg : Str → Option Value} {base : Heap} {C : Addr}
/-! ### by_height -/
def spBy (K : PySem.W.Frag) : Sp := fun vs H Q _ => ∃ (a : Addr) (xs : List Str), vs = [.ref a] ∧ SqT K H a (xs.map V.str) ∧ ∀ v H', Same H H' → Dp K H' v (keyD xs) → Q v H'
theorem scBy : FnScope ["stack"] ["stack"] (defScope sByHeight) := ⟨rfl, rfl, rfl, by decide +kernel, rfl, by decide +kernel, by decide +kernel⟩
theorem ok_by {f : Addr} {fd : FuncData} (F : Fun K "by_height" "by_height" sByHeight f fd) (B : Blt mg) : FnOk P w K mg base CX0 1 f fd ["stack"] (spBy K) := by
  refine F.ok scBy (fun vs H Q E h => ?_) (fun cdv A outer s H vs Q E hr h => ?_)
  · obtain ⟨a, xs, rfl, _⟩ := h
    rfl
  · obtain ⟨a, xs, rfl, ha, k⟩ := h
    refine ⟨_, pss_one (ps_ret (pe_tup (pa_cons (pe_callB call_len_seq (by rfl) B.len PySem.boot_len (pa_cons (pv 0) pa_nil)) (pa_cons (pv 0) pa_nil)))), ?_⟩
    refine ⟨_, rfl, a, _, rfl, .inr ha, _, rfl, (by show 2 ≤ sizeLine; decide), fun t ht => k (.ref t) _ (Same.new ht) ?_⟩
    rw [List.length_map]
    exact .tup (.of upd_same) (.cons (.int _) (.cons (.tup (Same.tup (Same.new ht) ha) (dp_strs _)) .nil))
/-! ### check_limit, is_too_high -/
def spClV : Sp := fun vs H Q _ => ∃ lim, vs = [limV lim] ∧ LimOk lim ∧ Q .non H
theorem has_clV (D : Def K mg "check_limit" sChkLimit) (G : Has P w K mg base "is_limit" 3 ["value"] [] (spLmX K)) : Has P w K mg base "check_limit" 4 ["limit"] [] spClV := by
  refine has_of D scCl (fun _ _ _ _ _ _ us hl => match us, hl with | [_], _ => rfl) (fun xs H Q E h => ?_) (fun f cv A out s H xs Q E hr h => ?_)
  · obtain ⟨lim, rfl, _⟩ := h
    rfl
  · obtain ⟨lim, rfl, lo, k⟩ := h
    refine ⟨_, pss_one (ps_if (pt_not (pt_val (pe_has G hr (pa_cons (pv 0) pa_nil)))) pss_never pss_nil), ?_⟩
    cases lim with
    | none => exact ⟨_, rfl, .non, .none, rfl, .non, true, rfl, iteF k⟩
    | some L =>
      obtain ⟨h1, h2⟩ := lo L rfl
      have e : limD (.int L) = true := by
        show (decide (0 ≤ L) && decide (L ≤ 1000)) = true
        rw [decide_eq_true h1, decide_eq_true h2]
        rfl
      refine ⟨_, rfl, .int L, .int L, rfl, .int L, limD (.int L), rfl, ?_⟩
      rw [e]
      exact iteF k
def spThV : Sp := fun vs H Q _ => ∃ (h : Int) (lim : Option Int), vs = [.int h, limV lim] ∧ Q (.bl (overZ lim h)) H
theorem has_thV (D : Def K mg "is_too_high" sTooHigh) : Has P w K mg base "is_too_high" 1 ["height", "limit"] [] spThV := by
  refine has_of D scTh0 (fun _ _ _ _ _ _ us hl => match us, hl with | [_, _], _ => rfl) (fun xs H Q E h => ?_) (fun f cv A out s H xs Q E hr h => ?_)
  · obtain ⟨h, lim, rfl, _⟩ := h
    rfl
  · obtain ⟨h, lim, rfl, k⟩ := h
    refine ⟨_, pss_one (ps_ret (pe_and (pe_cmpR op_notN (pv 1) pe_non (nomark _)) (pe_one (pe_cmpR op_gt (pv 0) (pv 1) (nomark _))))), ?_⟩
    cases lim with
    | none => exact ⟨_, rfl, rfl, false, rfl, iteF k⟩
    | some L => exact ⟨_, rfl, rfl, true, rfl, iteT ⟨_, rfl, _, rfl, h, L, rfl, rfl, k⟩⟩
/-! ### apply, on its own pops -/
def spApP (K : PySem.W.Frag) (C : Addr) : Sp := fun vs H Q _ => ∃ (e a : Addr) (xs ys : List Str) (p : Int) (lim : Option Int), vs = [.ref e, .ref a, limV lim] ∧ EffAt K C H e xs ys p ∧ (∀ z ∈ xs, Item z) ∧ SqT K H a (xs.map V.str) ∧ xs.length ≤ 5000 ∧ ys.length ≤ 5000 ∧ LimOk lim ∧
  ∀ v H', Same H H' → OWd K H' v (if overZ lim ((xs.length : Int) + p) = true then none else some ys) → Q v H'
theorem ok_applyP {f : Addr} {fd : FuncData} (F : Fun K "apply" "Effect.apply" sApply f fd) (T : EC K mg C) (B : Blt mg) (GW : Has P w K mg base "check_word" 3 ["word"] [] (spChkWord K)) (GL : Has P w K mg base "check_limit" 4 ["limit"] [] spClV) (GT : Has P w K mg base "is_too_high" 1 ["height", "limit"] [] spThV) (GR : Has P w K mg base "replaced" 3 ["effect", "stack"] [] (spRd0 K C))
    (GI : PropHas P w K mg base C "is_never" 1 (spIsNev K C)) (GK : PropHas P w K mg base C "peak" 1 (spPeak K C)) : FnOk P w K mg base CX0 5 f fd pApp (spApP K C) := by
  refine F.ok scAp (fun vs H Q E h => ?_) (fun cdv A outer s H vs Q E hr h => ?_)
  · obtain ⟨e, a, xs, ys, p, lim, rfl, _⟩ := h
    rfl
  · obtain ⟨e, a, xs, ys, p, lim, rfl, hA, i1, hT, l1, l2, lo, k⟩ := h
    have hr1 : Room 1 _ := hr.mono (by decide)
    have hr2 : Room 2 _ := hr.mono (by decide)
    have hr3 : Room 3 _ := hr.mono (by decide)
    refine ⟨_, pss_cons (ps_expr (pe_has GW hr3 (pa_cons (pv 1) pa_nil))) (pss_cons (ps_expr (pe_has GL hr (pa_cons (pv 2) pa_nil)))
      (pss_cons (ps_if (PW.pt (pw_or (pt_val (pe_propH GI (pv 0) T.cl hr2)) (pw_or1 (pt_val (pe_has GT hr1 (pa_cons (pe_op op_add (pe_callB call_len_seq (by rfl) B.len PySem.boot_len (pa_cons (pv 1) pa_nil)) (pe_propH GK (pv 0) T.cl hr2)) (pa_cons (pv 2) pa_nil))))))) (pss_one (ps_ret pe_non)) pss_nil)
      (pss_one (ps_ret (pe_has GR hr3 (pa_cons (pv 0) (pa_cons (pv 1) pa_nil))))))), ?_⟩
    refine ⟨_, rfl, a, xs, rfl, hT, l1, i1, fun H1 s1 => ?_⟩
    have hA1 := hA.same s1
    obtain ⟨dx, fs, hi⟩ := EffV.ins (o := some (xs, ys, p)) hA1
    refine ⟨_, rfl, lim, rfl, lo, ?_⟩
    refine ⟨_, rfl, e, dx, fs, rfl, hi, e, rfl, .inl ⟨xs, ys, p, hA1, false, rfl, iteF ?_⟩⟩
    refine ⟨_, rfl, a, _, rfl, .inr (Same.tup s1 hT), _, rfl, e, dx, fs, rfl, hi, e, xs, ys, p, rfl, hA1, _, _, rfl, rfl, _, rfl, _, lim, rfl, overZ lim ((xs.length : Int) + p), ?_, ?_⟩
    · rw [List.length_map]
    cases ho : overZ lim ((xs.length : Int) + p) with
    | true =>
      refine iteT (k _ H1 s1 ?_)
      rw [ho]
      rfl
    | false =>
      refine iteF ⟨_, rfl, _, rfl, e, a, xs, ys, [], p, rfl, hA1, i1, by rw [List.append_nil]; exact Same.tup s1 hT, fun z m => (by cases m), l1, l2, by decide, fun v H' s' hv => k _ H' (s1.trans s') ?_⟩
      rw [ho]
      rw [List.append_nil] at hv
      exact ⟨v, rfl, hv⟩
def ApplyP (P : Program) (w : World) (K : PySem.W.Frag) (mg : Str → Option Value) (base : Heap) (C : Addr) : Prop := ∃ f fd, Meth K C "apply" f ∧ FnOk P w K mg base CX0 5 f fd pApp (spApP K C) ∧ FunD K "apply" "Effect.apply" (defArgs sApply) (defBody sApply) (defScope sApply) [] [("limit", .non)] f fd
theorem eff_lk {H : Hp} {e : Addr} {o : Eff} (h : EffV K C H e o) : ∃ dx fs, H e = some (.ins C dx fs) ∧ fs.lookup ("apply" : Str) = none ∧ fs.lookup ("then" : Str) = none := by
  obtain ⟨dx, u, v, p, h1, _⟩ := h.dp
  exact ⟨dx, _, h1, rfl, rfl⟩
/-! ### first_success -/
def spFs (K : PySem.W.Frag) (C : Addr) : Sp := fun vs H Q _ => ∃ (e : Addr) (o : Eff) (lim : Option Int), vs = [.ref e, limV lim] ∧ EffV K C H e o ∧ EffOk o ∧ LimOk lim ∧ ∀ v H', Same H H' → OWd K H' v (fsM lim o) → Q v H'
theorem scFs : FnScope ["effect", "limit"] ["effect", "limit"] (defScope sFirstSuccess) := ⟨rfl, rfl, rfl, by decide +kernel, rfl, by decide +kernel, by decide +kernel⟩
theorem has_fs (D : Def K mg "first_success" sFirstSuccess) (T : EC K mg C) (AP : ApplyP P w K mg base C) (GI : PropHas P w K mg base C "is_never" 1 (spIsNev K C)) (GP : PropHas P w K mg base C "pops" 1 (spPops K C)) : Has P w K mg base "first_success" 6 ["effect", "limit"] [] (spFs K C) := by
  obtain ⟨fA, fdA, mA, FA, FDA⟩ := AP
  obtain ⟨mvA, kbA⟩ := kb_some (ps := pApp) FDA 2 ["limit"] [] (fun us _ ws => us ++ ws) (by simp) (fun q h => (by cases h)) (fun r1 _ r3 => r1.append r3) (fun D doc pm an cv ct us mv ws h1 h2 h3 => match us, mv, ws, h1, h2, h3 with | [_, _], [], [_], _, _, _ => rfl)
  refine has_of D scFs (fun _ _ _ _ _ _ us hl => match us, hl with | [_, _], _ => rfl) (fun xs H Q E h => ?_) (fun f cv A out s H xs Q E hr h => ?_)
  · obtain ⟨e, o, lim, rfl, _⟩ := h
    rfl
  · obtain ⟨e, o, lim, rfl, he, ok, lo, k⟩ := h
    have hr2 : Room 2 _ := hr.mono (by decide)
    refine ⟨_, pss_cons (ps_if (PW.pt (pw_or (pt_val (pe_propH GI (pv 0) T.cl hr2)) (pw_or1 (pt_cmpR op_isN (pe_methS (ex := fun _ => E0) (pv 0) T.cl mA FA hr kbA (fun σ => pass0At) (pa_cons (pe_propH GP (pv 0) T.cl hr2) pa_nil) (pk_cons (pv 1) pk_nil)) pe_non (nomark _))))) (pss_one (ps_ret pe_non)) pss_nil)
      (pss_one (ps_ret (pe_propH GP (pv 0) T.cl hr2))), ?_⟩
    obtain ⟨dx, fs, hi, la, _⟩ := eff_lk he
    cases o with
    | none => exact ⟨_, rfl, e, dx, fs, rfl, hi, e, rfl, .inr ⟨he, true, rfl, iteT (k _ H (Same.refl H) rfl)⟩⟩
    | some Bp =>
      obtain ⟨xs, ys, p⟩ := Bp
      have hA : EffAt K C H e xs ys p := he
      obtain ⟨i1, i2, l1, l2, _⟩ := ok
      refine ⟨_, rfl, e, dx, fs, rfl, hi, e, rfl, .inl ⟨xs, ys, p, hA, false, rfl, iteF ?_⟩⟩
      refine ⟨_, rfl, e, dx, fs, rfl, hi, la, _, rfl, e, dx, fs, rfl, hi, e, xs, ys, p, rfl, hA, fun u hu => ?_⟩
      refine ⟨_, rfl, rfl, rfl, e, u, xs, ys, p, lim, rfl, hA, i1, hu, by omega, by omega, lo, fun v H1 s1 hv => ?_⟩
      cases ho : overZ lim ((xs.length : Int) + p) with
      | true =>
        rw [ho, if_pos rfl] at hv
        cases hv
        refine ⟨rfl, true, rfl, iteT (k _ H1 s1 ?_)⟩
        unfold fsM
        dsimp only
        rw [ho, if_pos rfl]
        rfl
      | false =>
        rw [ho, if_neg (by simp)] at hv
        obtain ⟨a, rfl, hv⟩ := hv
        refine ⟨rfl, false, rfl, iteF ?_⟩
        refine ⟨_, rfl, e, dx, fs, rfl, s1 _ _ hi, e, xs, ys, p, rfl, hA.same s1, fun u2 hu2 => k _ H1 s1 ?_⟩
        unfold fsM
        dsimp only
        rw [ho, if_neg (by simp)]
        exact ⟨u2, rfl, hu2⟩
/-! ### first_beyond -/
def spFb (K : PySem.W.Frag) (C : Addr) : Sp := fun vs H Q _ => ∃ (e1 e2 : Addr) (xs ys : List Str) (p q : Int) (lim : Option Int), vs = [.ref e1, .ref e2, limV lim] ∧ EffAt K C H e1 xs ys p ∧ EffAt K C H e2 xs ys q ∧ xs.length ≤ 1000 ∧ 0 ≤ p ∧ 0 ≤ q ∧ LimOk lim ∧ overZ lim ((xs.length : Int) + p) = false ∧ overZ lim ((xs.length : Int) + q) = false ∧
  ∀ v H', Same H H' → OWd K H' v (beyM lim xs p q) → Q v H'
theorem scFb : FnScope ["one", "other", "limit", "height"] ["one", "other", "limit"] (defScope sFirstBeyond) := ⟨rfl, rfl, rfl, by decide +kernel, rfl, by decide +kernel, by decide +kernel⟩
theorem has_fb (D : Def K mg "first_beyond" sFirstBeyond) (T : EC K mg C) (B : Blt mg) (GP : PropHas P w K mg base C "pops" 1 (spPops K C)) (GK : PropHas P w K mg base C "peak" 1 (spPeak K C)) (mx : mg "max" = none) (hF : ∃ t, mg "FIRST_ITEM" = some (.str "a" t)) : Has P w K mg base "first_beyond" 3 ["one", "other", "limit"] [] (spFb K C) := by
  obtain ⟨tF, hF⟩ := hF
  refine has_of D scFb (fun _ _ _ _ _ _ us hl => match us, hl with | [_, _, _], _ => rfl) (fun xs H Q E h => ?_) (fun f cv A out s H xs Q E hr h => ?_)
  · obtain ⟨e1, e2, xs, ys, p, q, lim, rfl, _⟩ := h
    rfl
  · obtain ⟨e1, e2, xs, ys, p, q, lim, rfl, h1, h2, lx, p0, q0, lo, o1, o2, k⟩ := h
    have hr2 : Room 2 _ := hr.mono (by decide)
    refine ⟨_, pss_cons (ps_if (PW.pt (pw_or (pt_cmpR op_isN (pv 2) pe_non (nomark _)) (pw_or1 (pt_cmpR op_eq (pe_propH GK (pv 0) T.cl hr2) (pe_propH GK (pv 1) T.cl hr2) (nomark _))))) (pss_one (ps_ret pe_non)) pss_nil)
      (pss_cons (ps_set (i := 3) scFb.nd rfl (.inl rfl) (pe_op op_add (pe_op op_sub (pv 2) (pe_callB (call_max2 rfl) (by rfl) mx (by decide +kernel) (pa_cons (pe_propH GK (pv 0) T.cl hr2) (pa_cons (pe_propH GK (pv 1) T.cl hr2) pa_nil)))) pe_int))
      (pss_one (ps_ret (pe_op op_catS (pe_propH GP (pv 0) T.cl hr2) (pe_op op_repS (pe_tup (pa_cons (pe_glob (v := .str "a") rfl hF ⟨_, rfl⟩) pa_nil)) (pe_op op_sub (pv 3) (pe_callB call_len_seq (by rfl) B.len PySem.boot_len (pa_cons (pe_propH GP (pv 0) T.cl hr2) pa_nil)))))))), ?_⟩
    cases lim with
    | none => exact ⟨_, rfl, rfl, true, rfl, iteT (k _ H (Same.refl H) rfl)⟩
    | some L =>
      obtain ⟨L0, L1⟩ := lo L rfl
      have c1 := of_decide_eq_false o1
      have c2 := of_decide_eq_false o2
      obtain ⟨d1, f1, j1⟩ := EffV.ins (o := some (xs, ys, p)) h1
      obtain ⟨d2, f2, j2⟩ := EffV.ins (o := some (xs, ys, q)) h2
      refine ⟨_, rfl, rfl, false, rfl, iteF ?_⟩
      refine ⟨_, rfl, e1, d1, f1, rfl, j1, e1, xs, ys, p, rfl, h1, _, rfl, e2, d2, f2, rfl, j2, e2, xs, ys, q, rfl, h2, rfl, decide (V.int p = V.int q), rfl, ?_⟩
      by_cases c : p = q
      · rw [decide_eq_true (congrArg V.int c)]
        refine iteT (k _ H (Same.refl H) ?_)
        unfold beyM
        dsimp only
        rw [if_pos c]
        rfl
      · rw [decide_eq_false (fun z => c (V.int.inj z))]
        refine iteF ?_
        refine ⟨_, rfl, _, rfl, e1, d1, f1, rfl, j1, e1, xs, ys, p, rfl, h1, _, rfl, e2, d2, f2, rfl, j2, e2, xs, ys, q, rfl, h2, p, q, rfl, L, _, rfl, rfl, _, 1, rfl, rfl, ?_⟩
        refine ⟨_, rfl, e1, d1, f1, rfl, j1, e1, xs, ys, p, rfl, h1, fun u1 hu1 => ?_⟩
        refine ⟨(by show 1 ≤ sizeLine; decide), fun t ht => ?_⟩
        have s1 := Same.new (o := .tup [.str "a"]) ht
        refine ⟨_, rfl, _, rfl, e1, d1, f1, rfl, s1 _ _ j1, e1, xs, ys, p, rfl, h1.same s1, fun u2 hu2 => ⟨u2, _, rfl, .inr hu2, _, _, rfl, rfl, ?_⟩⟩
        rw [List.length_map]
        have mb : mxI p q = (if q > p then q else p) := rfl
        have m1 : p ≤ mxI p q ∧ q ≤ mxI p q ∧ (mxI p q = p ∨ mxI p q = q) := by
          unfold mxI
          split <;> omega
        rw [← mb]
        refine ⟨t, L - mxI p q + 1 - (xs.length : Int), .str "a", rfl, rfl, .of upd_same, by omega, by omega, fun u3 H3 s3 hu3 => ?_⟩
        have s13 := s1.trans s3
        refine ⟨u1, u3, _, _, rfl, rfl, Same.tup s13 hu1, hu3, ?_, fun u4 H4 s4 hu4 => k _ H4 (s13.trans s4) ?_⟩
        · rw [List.length_map, List.length_replicate, sizeLine_eq]
          omega
        · unfold beyM
          dsimp only
          rw [if_neg c]
          refine ⟨u4, rfl, ?_⟩
          rw [List.map_append, List.map_replicate]
          exact hu4
end
end SE
namespace SE
open PySem PySem.Spec PyProof.Rows L2 SeqAt
open PySem.W (alike alikeAll dataLt)
theorem depth_strs : ∀ xs : List Str, PyData.depthAll (xs.map .str) = 0
  | [] => by simp [PyData.depthAll]
  | x :: xs => by simp [PyData.depthAll, PyData.depth, depth_strs xs]
theorem depth_key (xs : List Str) : (keyD xs).depth ≤ 20 := by
  unfold keyD
  simp [PyData.depth, PyData.depthAll, depth_strs]
def rNN : R2 := fun x y H Q => y = .non ∧ Q (.bl (!decide (x = .non))) H
def WdV (K : PySem.W.Frag) (H : Hp) (v : V) (w : List Str) : Prop := ∃ a, v = .ref a ∧ SqT K H a (w.map V.str)
theorem keys_words {K : PySem.W.Frag} {H : Hp} {vs : List V} {ws : List (List Str)} (h : Paired (WdV K H) vs ws) : Keys K (spBy K) H vs (fun i => keyD (ws.getD i [])) where
  k := fun i x H1 hx s => by
    obtain ⟨w, hw, a, rfl, ha⟩ := paired_at h hx
    refine ⟨a, w, rfl, Same.tup s ha, fun v H' s' hv => ⟨s', ?_⟩⟩
    rw [List.getD_eq_getElem?_getD, hw]
    exact hv
  al := fun i j _ _ => alike_key _ _
  nn := fun i _ z => by cases z
  dp := fun i _ => depth_key _
section
variable {P : Program} {w : World} {K : PySem.W.Frag} {mg : Str → Option Value} {base : Heap} {C : Addr}
abbrev pDf : List Str := ["one", "other", "limit"]
def KHas (P : Program) (w : World) (K : PySem.W.Frag) (mg : Str → Option Value) (base : Heap) (CT : CXT) (x : Str) (st : Stmt) (k : Nat) (sp : Sp) : Prop := ∃ f fd, FnOk P w K mg base CT k f fd pDf sp ∧ FunD K x x (defArgs st) (defBody st) (defScope st) [] [("limit", .non)] f fd ∧ mg x = some (.ref f)
def ByHas (P : Program) (w : World) (K : PySem.W.Frag) (mg : Str → Option Value) (base : Heap) : Prop := ∃ f fd, FnOk P w K mg base CX0 1 f fd ["stack"] (spBy K) ∧ Binds K fd ["stack"] [] ∧ mg "by_height" = some (.ref f)
theorem by_of (D : Def K mg "by_height" sByHeight) (B : Blt mg) : ByHas P w K mg base := by
  obtain ⟨f, fd, F, hm⟩ := D
  exact ⟨f, fd, ok_by F B, F.binds (ps := ["stack"]) fun _ _ _ _ _ _ us hl => match us, hl with | [_], _ => rfl, hm⟩
/-! ### difference -/
def spDf (K : PySem.W.Frag) (C : Addr) : Sp := fun vs H Q _ => ∃ (e1 e2 : Addr) (o1 o2 : Eff) (lim : Option Int), vs = [.ref e1, .ref e2, limV lim] ∧ EffV K C H e1 o1 ∧ EffV K C H e2 o2 ∧ EffOk o1 ∧ EffOk o2 ∧ LimOk lim ∧ ∀ v H', Same H H' → OWd K H' v (difM lim o1 o2) → Q v H'
abbrev nDf : List Str := ["one", "other", "limit", "firsts", "stack"]
theorem scDf : FnScope nDf pDf (defScope sDifference) := ⟨rfl, rfl, rfl, by decide +kernel, rfl, by decide +kernel, by decide +kernel⟩
theorem tup_shaped {xs : List Str} (h : ∀ z ∈ xs, Item z) : SeqAt.shaped (.tuple (xs.map PyData.str)) = true := (nice_tuple (nice_strs h)).shaped (by decide)
def owD : Option (List Str) → PyData
  | none => .none
  | some xs => .tuple (xs.map .str)
theorem owD_nice : ∀ {o : Option (List Str)}, (∀ xs, o = some xs → (∀ z ∈ xs, Item z) ∧ xs.length ≤ 1000) → Nice 1 9000 (owD o)
  | none, _ => ⟨by decide +kernel, by decide +kernel, by decide +kernel, by decide +kernel, by decide +kernel, by decide +kernel⟩
  | some xs, h => by
    obtain ⟨a, b⟩ := h xs rfl
    exact (nice_tuple (nice_strs a)).mono (by decide) (by rw [List.length_map]; omega)
theorem owD_dp {H : Hp} {v : V} : ∀ {o : Option (List Str)}, OWd K H v o → Dp K H v (owD o)
  | none, h => by
    cases h
    exact .non
  | some xs, h => by
    obtain ⟨a, rfl, q⟩ := h
    exact .tup q (dp_strs _)
theorem two_shaped {o1 o2 : Option (List Str)} (h1 : Nice 1 9000 (owD o1)) (h2 : Nice 1 9000 (owD o2)) : SeqAt.shaped (.list [owD o1, owD o2]) = true := (nice_list (k := 1) (B := 9000) (ds := [owD o1, owD o2]) fun d m => by
  rcases List.mem_cons.mp m with q | m
  · rw [q]; exact h1
  · rw [List.mem_singleton.mp m]; exact h2).shaped (by decide)
theorem eqv_none (o : Option (List Str)) : PyData.eqv (owD o) .none = decide (o = none) := by
  cases o with
  | none => rfl
  | some xs => rfl
theorem fs_ok {lim : Option Int} {o : Eff} (h : EffOk o) : ∀ xs, fsM lim o = some xs → (∀ z ∈ xs, Item z) ∧ xs.length ≤ 1000 := fun xs e => by
  match o, h, e with
  | some (us, vs, p), h, e =>
    obtain ⟨rfl, _⟩ := fs_some e
    exact ⟨h.1, h.2.2.1⟩
theorem has_df (D : DefK K mg "difference" sDifference [("limit", .non)]) (T : EC K mg C) (GL : Has P w K mg base "check_limit" 4 ["limit"] [] spClV) (GF : Has P w K mg base "first_success" 6 ["effect", "limit"] [] (spFs K C)) (GB : Has P w K mg base "first_beyond" 3 ["one", "other", "limit"] [] (spFb K C)) (BY : ByHas P w K mg base)
    (GP : PropHas P w K mg base C "pops" 1 (spPops K C)) (GQ : PropHas P w K mg base C "pushes" 1 (spPush K C)) (mn : mg "min" = none) : KHas P w K mg base CX0 "difference" sDifference 7 (spDf K C) := by
  obtain ⟨f, fd, F, FD, hmg⟩ := D
  obtain ⟨fB, fdB, FB, bB, mB⟩ := BY
  refine ⟨f, fd, F.ok scDf (fun vs H Q E h => ?_) (fun cdv A outer s H vs Q E hr h => ?_), FD, hmg⟩
  · obtain ⟨e1, e2, o1, o2, lim, rfl, _⟩ := h
    rfl
  · obtain ⟨e1, e2, o1, o2, lim, rfl, h1, h2, k1, k2, lo, k⟩ := h
    have hr2 : Room 2 _ := hr.mono (by decide)
    have hr3 : Room 3 _ := hr.mono (by decide)
    have hr4 : Room 4 _ := hr.mono (by decide)
    refine ⟨_, pss_cons (ps_expr (pe_has GL hr4 (pa_cons (pv 2) pa_nil)))
      (pss_cons (ps_set (i := 3) scDf.nd rfl (.inl rfl) (pe_lst (pa_cons (pe_has GF hr (pa_cons (pv 0) (pa_cons (pv 2) pa_nil))) (pa_cons (pe_has GF hr (pa_cons (pv 1) (pa_cons (pv 2) pa_nil))) pa_nil))))
      (pss_cons (ps_if (PW.pt (pw_and (pt_cmpR (op_notInD (by have := hr.un; show (A.deeper _).units + 65 < cLine; omega)) pe_non (pv 3) (by rfl)) (pw_and (pt_cmpR (op_eqD hr.units) (pe_propH GP (pv 0) T.cl hr2) (pe_propH GP (pv 1) T.cl hr2) (nomark _)) (pw_and1 (pt_cmpR (op_eqD hr.units) (pe_propH GQ (pv 0) T.cl hr2) (pe_propH GQ (pv 1) T.cl hr2) (nomark _))))))
        (pss_one (ps_ret (pe_has GB hr3 (pa_cons (pv 0) (pa_cons (pv 1) (pa_cons (pv 2) pa_nil)))))) pss_nil)
      (pss_one (ps_ret (pe_callBK (call_minK FB bB hr2 rfl) (by rfl) mn (by decide +kernel)
        (pa_cons (pe_lc (own := [("stack", 4)]) (g := gName 4) (tt := tTest (tOp rNN (tVar 4) (tC .non))) (te := tVar 4) rfl scDf.nd (pi_list (pv 3)) (blkOk_by (own := [("stack", 4)]) (N := nDf) (sc := defScope sDifference) (by decide +kernel))
          (fun _ _ _ _ _ => pg_name (i := 4) scDf.nd rfl (.inl rfl)) (fun _ _ _ _ _ => pts_one (pt_cmpR op_notN (pv 4) pe_non (nomark _))) (fun _ _ _ _ _ => pv 4)) pa_nil)
        (pk_cons (pe_glob (v := .ref fB) rfl mB rfl) (pk_cons pe_non pk_nil))))))), ?_⟩
    refine ⟨_, rfl, lim, rfl, lo, ?_⟩
    refine ⟨_, rfl, _, rfl, e1, o1, lim, rfl, h1, k1, lo, fun v1 H1 s1 hv1 => ⟨_, rfl, _, rfl, e2, o2, lim, rfl, h2.same s1, k2, lo, fun v2 H2 s2 hv2 => ?_⟩⟩
    refine ⟨(by show 2 ≤ sizeLine; decide), fun L hL => ?_⟩
    have s3 := Same.new (o := .lst [v1, v2]) hL
    have gL : (upd H2 L (.lst [v1, v2])) L = some (.lst [v1, v2]) := upd_same
    have w1 := hv1.same (s2.trans s3)
    have w2 := hv2.same s3
    have s03 := (s1.trans s2).trans s3
    generalize upd H2 L (.lst [v1, v2]) = H3 at s3 gL w1 w2 s03
    have n1 := owD_nice (fs_ok (lim := lim) k1)
    have n2 := owD_nice (fs_ok (lim := lim) k2)
    -- the least of the stacks
    have fin : ∀ {H4 : Hp} (ws : List (List Str)), Same H3 H4 → Paired (WdV K H4) ([v1, v2].filter fun v => !decide (v = .non)) ws → (ws = [] → difM lim o1 o2 = none) → (∀ w', ws = [w'] → difM lim o1 o2 = some w') → (∀ a b, ws = [a, b] → difM lim o1 o2 = some (if ltW b a = true then b else a)) → ws.length ≤ 2 →
        ∀ {D : Addr}, H4 D = some (.lst ([v1, v2].filter fun v => !decide (v = .non))) → rMinK K fB (spBy K) [.ref D] [.ref fB, .non] H4 Q := by
      intro H4 ws s4 hp c0 c1 c2 lw D hD
      have lp := paired_len hp
      refine ⟨D, _, .non, _, rfl, rfl, .of hD, keys_words hp, fun e H5 s5 => k .non H5 ((s03.trans s4).trans s5) ?_, fun ne x H5 hx s5 => k x H5 ((s03.trans s4).trans s5) ?_⟩
      · have ew : ws = [] := List.length_eq_zero_iff.mp (by rw [← lp, e]; rfl)
        rw [c0 ew]
        rfl
      · match ws, lw, lp, hp, c1, c2 with
        | [], _, lp, _, _, _ => exact absurd (List.length_eq_zero_iff.mp (by rw [lp]; rfl)) ne
        | [a], _, lp, hp, c1, _ =>
          rw [lp] at hx
          obtain ⟨w', hw, q, rfl, hq⟩ := paired_at hp (show _ = some x from hx)
          rw [c1 a rfl]
          have e : a = w' := Option.some.inj hw
          rw [e]
          exact ⟨q, rfl, Same.tup s5 hq⟩
        | [a, b], _, lp, hp, _, c2 =>
          rw [lp] at hx
          obtain ⟨w', hw, q, rfl, hq⟩ := paired_at hp (show _ = some x from hx)
          rw [c2 a b rfl]
          have eb : argBest (ltK fun i => keyD (([a, b] : List (List Str)).getD i [])) ([a, b].length - 1) = if ltW b a = true then 1 else 0 := rfl
          rw [eb] at hw
          cases hl : ltW b a with
          | true =>
            rw [hl, if_pos rfl] at hw
            rw [if_pos rfl]
            have e : b = w' := Option.some.inj hw
            rw [e]
            exact ⟨q, rfl, Same.tup s5 hq⟩
          | false =>
            rw [hl, if_neg (by simp)] at hw
            rw [if_neg (by simp)]
            have e : a = w' := Option.some.inj hw
            rw [e]
            exact ⟨q, rfl, Same.tup s5 hq⟩
    have lc : ∀ {H4 : Hp}, Same H3 H4 → (∀ D H5, Same H4 H5 → H5 D = some (.lst ([v1, v2].filter fun v => !decide (v = .non))) → rMinK K fB (spBy K) [.ref D] [.ref fB, .non] H5 Q) → ∀ D, H4 D = none → ∃ W : Nat → Nat → Hp → Prop, (∃ m, W 0 m (upd H4 D (.lst []))) ∧ ∀ i m H, W i m H →
        ((Itl K L).stop i H ∧ rMinK K fB (spBy K) [.ref D] [.ref fB, .non] H Q) ∨ ((Itl K L).go i H ∧ ∃ Nx : Hp → Prop, (∀ H', Nx H' → ∃ m', m' < m ∧ W (i + 1) m' H') ∧ ∀ x H', (Itl K L).yld i H x H' → (gName 4) x (wipe [some (.ref e1), some (.ref e2), some (limV lim), some (.ref L), none] [4]) H' fun σ2 H2 => wipe σ2 [4] = wipe [some (.ref e1), some (.ref e2), some (limV lim), some (.ref L), none] [4] ∧ (tTest (tOp rNN (tVar 4) (tC .non))) σ2 H2 fun b H3 =>
          if b = true then (tVar 4) σ2 H3 fun y H4 => ∃ acc, H4 D = some (.lst acc) ∧ acc.length < sizeLine ∧ Nx (upd H4 D (.lst (acc ++ [y]))) else Nx H3) := by
      intro H4 s4 kk D hD
      refine lc_list (K := K) (a := L) (xs := [v1, v2]) (fun j H5 => H5 D = some (.lst (([v1, v2].take j).filter fun v => !decide (v = .non))) ∧ Same H4 H5) ⟨upd_same, Same.new hD⟩ (fun j H5 _ q => .of (q.2 _ _ (s4 _ _ gL))) ?_ ?_
      · rintro j x H5 hx ⟨h5, s5⟩
        refine ⟨rfl, _, rfl, rfl, !decide (x = .non), rfl, ?_⟩
        have e1 : ([v1, v2].take (j + 1)).filter (fun v => !decide (v = .non)) = (([v1, v2].take j).filter fun v => !decide (v = .non)) ++ (if (!decide (x = .non)) = true then [x] else []) := by
          rw [List.take_add_one, hx, List.filter_append]
          congr 1
          simp only [Option.toList]
          rw [List.filter_cons, List.filter_nil]
        cases c : (!decide (x = .non)) with
        | true =>
          rw [c, if_pos rfl] at e1
          refine iteT ⟨x, rfl, _, h5, ?_, ?_, Same.free2 s5 hD⟩
          · have := List.length_filter_le (fun v => !decide (v = .non)) ([v1, v2].take j)
            have h2 : ([v1, v2].take j).length ≤ 2 := by rw [List.length_take]; exact Nat.min_le_right _ _
            rw [sizeLine_eq]
            omega
          · rw [upd_same, e1]
        | false =>
          rw [c, if_neg (by simp), List.append_nil] at e1
          exact iteF ⟨by rw [e1]; exact h5, s5⟩
      · rintro H5 ⟨h5, s5⟩
        exact kk D H5 s5 h5
    have f0 : ([V.non, V.non].filter fun v => !decide (v = .non)) = [] := by simp
    have f1 : ∀ a : Addr, ([V.ref a, V.non].filter fun v => !decide (v = .non)) = [V.ref a] := fun a => by simp
    have f2 : ∀ a : Addr, ([V.non, V.ref a].filter fun v => !decide (v = .non)) = [V.ref a] := fun a => by simp
    have f3 : ∀ a b : Addr, ([V.ref a, V.ref b].filter fun v => !decide (v = .non)) = [V.ref a, V.ref b] := fun a b => by simp
    cases q1 : fsM lim o1 with
    | none =>
      rw [q1] at w1 n1
      cases w1
      cases q2 : fsM lim o2 with
      | none =>
        rw [q2] at w2 n2
        cases w2
        refine ⟨_, rfl, .none, [.none, .none], .non, .lst (.of gL) (.cons .non (.cons .non .nil)), rfl, two_shaped n1 n2, false, rfl, iteF ?_⟩
        refine ⟨_, rfl, L, rfl, ⟨_, .of gL⟩, fun D hD => lc (Same.refl _) (fun D H5 s5 h5 => fin [] s5 (by rw [f0]; exact .nil) (fun _ => ?_) (fun w' e => by cases e) (fun a b e => by cases e) (by simp) h5) D hD⟩
        unfold difM
        rw [q1, q2]
      | some x2 =>
        rw [q2] at w2 n2
        obtain ⟨a2, rfl, t2⟩ := w2
        refine ⟨_, rfl, .none, [.none, .tuple (x2.map .str)], .non, .lst (.of gL) (.cons .non (.cons (.tup t2 (dp_strs _)) .nil)), rfl, two_shaped (o2 := some x2) n1 n2, false, rfl, iteF ?_⟩
        refine ⟨_, rfl, L, rfl, ⟨_, .of gL⟩, fun D hD => lc (Same.refl _) (fun D H5 s5 h5 => fin [x2] s5 (by rw [f2]; exact .cons ⟨a2, rfl, Same.tup s5 t2⟩ .nil) (fun e => by cases e) (fun w' e => ?_) (fun a b e => by cases e) (by simp) h5) D hD⟩
        cases e
        unfold difM
        rw [q1, q2]
    | some x1 =>
      rw [q1] at w1 n1
      obtain ⟨a1, rfl, t1⟩ := w1
      cases q2 : fsM lim o2 with
      | none =>
        rw [q2] at w2 n2
        cases w2
        refine ⟨_, rfl, .none, [.tuple (x1.map .str), .none], .non, .lst (.of gL) (.cons (.tup t1 (dp_strs _)) (.cons .non .nil)), rfl, two_shaped (o1 := some x1) n1 n2, false, rfl, iteF ?_⟩
        refine ⟨_, rfl, L, rfl, ⟨_, .of gL⟩, fun D hD => lc (Same.refl _) (fun D H5 s5 h5 => fin [x1] s5 (by rw [f1]; exact .cons ⟨a1, rfl, Same.tup s5 t1⟩ .nil) (fun e => by cases e) (fun w' e => ?_) (fun a b e => by cases e) (by simp) h5) D hD⟩
        cases e
        unfold difM
        rw [q1, q2]
      | some x2 =>
        rw [q2] at w2 n2
        obtain ⟨a2, rfl, t2⟩ := w2
        refine ⟨_, rfl, .none, [.tuple (x1.map .str), .tuple (x2.map .str)], .non, .lst (.of gL) (.cons (.tup t1 (dp_strs _)) (.cons (.tup t2 (dp_strs _)) .nil)), rfl, two_shaped (o1 := some x1) (o2 := some x2) n1 n2, true, rfl, iteT ?_⟩
        obtain ⟨xs, ys, p, rfl⟩ : ∃ xs ys p, o1 = some (xs, ys, p) := by
          match o1, q1 with
          | some (a, b, c), _ => exact ⟨a, b, c, rfl⟩
        obtain ⟨us, vs, r, rfl⟩ : ∃ xs ys p, o2 = some (xs, ys, p) := by
          match o2, q2 with
          | some (a, b, c), _ => exact ⟨a, b, c, rfl⟩
        obtain ⟨rfl, ov1⟩ := fs_some q1
        obtain ⟨rfl, ov2⟩ := fs_some q2
        have hA : EffAt K C H3 e1 x1 ys p := (EffV.same (o := some (x1, ys, p)) h1 s03)
        have hB : EffAt K C H3 e2 x2 vs r := (EffV.same (o := some (x2, vs, r)) h2 s03)
        obtain ⟨d1, g1, j1⟩ := EffV.ins (o := some (x1, ys, p)) hA
        obtain ⟨d2, g2, j2⟩ := EffV.ins (o := some (x2, vs, r)) hB
        obtain ⟨i1, i2, l1, l2, p0, _⟩ := k1
        obtain ⟨i3, i4, l3, l4, r0, _⟩ := k2
        have last : ¬ (x1 = x2 ∧ ys = vs) → ∀ D, H3 D = none → _ := fun c D hD => lc (Same.refl _) (fun D H5 s5 h5 => fin [x1, x2] s5 (by rw [f3]; exact .cons ⟨a1, rfl, Same.tup s5 t1⟩ (.cons ⟨a2, rfl, Same.tup s5 t2⟩ .nil)) (fun e => by cases e) (fun w' e => by cases e) (fun a b e => by
          cases e
          unfold difM
          rw [q1, q2]
          dsimp only
          rw [if_neg c]) (by simp) h5) D hD
        refine ⟨_, rfl, e1, d1, g1, rfl, j1, e1, x1, ys, p, rfl, hA, fun b1 hb1 => ⟨_, rfl, e2, d2, g2, rfl, j2, e2, x2, vs, r, rfl, hB, fun b2 hb2 => ?_⟩⟩
        refine ⟨_, _, .tup hb1 (dp_strs _), .tup hb2 (dp_strs _), tup_shaped i1, tup_shaped i3, decide (x1 = x2), by rw [eqv_tupS], ?_⟩
        by_cases c1 : x1 = x2
        · rw [decide_eq_true c1]
          refine iteT ⟨_, rfl, e1, d1, g1, rfl, j1, e1, x1, ys, p, rfl, hA, fun b3 hb3 => ⟨_, rfl, e2, d2, g2, rfl, j2, e2, x2, vs, r, rfl, hB, fun b4 hb4 => ?_⟩⟩
          refine ⟨_, _, .tup hb3 (dp_strs _), .tup hb4 (dp_strs _), tup_shaped i2, tup_shaped i4, decide (ys = vs), by rw [eqv_tupS], ?_⟩
          by_cases c2 : ys = vs
          · rw [decide_eq_true c2]
            subst c1 c2
            refine iteT ⟨_, rfl, _, rfl, _, rfl, e1, e2, x1, ys, p, r, lim, rfl, hA, hB, l1, p0, r0, lo, ov1, ov2, fun v H5 s5 hv => k v H5 (s03.trans s5) ?_⟩
            unfold difM
            rw [q1, q2]
            dsimp only
            rw [if_pos ⟨rfl, rfl⟩]
            exact hv
          · rw [decide_eq_false c2]
            refine iteF ⟨_, rfl, L, rfl, ⟨_, .of gL⟩, last fun z => c2 z.2⟩
        · rw [decide_eq_false c1]
          refine iteF ⟨_, rfl, L, rfl, ⟨_, .of gL⟩, last fun z => c1 z.1⟩
end
end SE
namespace SE
open PySem PySem.Spec PyProof.Rows L2 SeqAt
def ThenHas (P : Program) (w : World) (K : PySem.W.Frag) (mg : Str → Option Value) (base : Heap) (C : Addr) : Prop := ∃ f, Meth K C "then" f ∧ FnR P w K mg base CX0 8 f (spThen K C)
def ShD (d : PyData) : Prop := d.showable = true ∧ d.depth ≤ 20 ∧ d.shown.length ≤ sizeLine
section
variable {P : Program} {w : World} {K : PySem.W.Frag} {mg : Str → Option Value} {base : Heap} {C CN : Addr}
theorem KHas.kb {CT : CXT} {x : Str} {st : Stmt} {k : Nat} {sp : Sp} (h : KHas P w K mg base CT x st k sp) (hb : ∀ (D : Addr) (doc pm : Value) (an : Option Addr) (cv ct : Value) (us ws : List Value), us.length = 2 → ws.length = 1 → bindArgs (PySem.W.fnOf x x (defArgs st) (defBody st) (defScope st) .none (.ref D) doc pm an cv ct) ⟨us, [Str.ofString "limit"].zip ws⟩ = pure (pDf.zip (us ++ ws))) :
    ∃ f fd, FnOk P w K mg base CT k f fd pDf sp ∧ KBn K fd pDf 2 ["limit"] (fun us ws => us ++ ws) (fun vs zs => vs ++ zs) ∧ mg x = some (.ref f) ∧ PySem.W.keepIn K (.ref f) = true := by
  obtain ⟨f, fd, F, FD, hm⟩ := h
  obtain ⟨mv, kb⟩ := kb_some (ps := pDf) FD 2 ["limit"] [] (fun us _ ws => us ++ ws) (by simp) (fun q h => (by cases h)) (fun r1 _ r3 => r1.append r3) (fun D doc pm an cv ct us mv ws h1 h2 h3 => match mv, h2 with | [], _ => hb D doc pm an cv ct us ws h1 h3)
  exact ⟨f, fd, F, kb, hm, FD.kp⟩
/-! ### commute -/
def spCm (K : PySem.W.Frag) (C : Addr) : Sp := fun vs H Q _ => ∃ (e1 e2 : Addr) (o1 o2 : Eff) (lim : Option Int), vs = [.ref e1, .ref e2, limV lim] ∧ EffV K C H e1 o1 ∧ EffV K C H e2 o2 ∧ EffSm o1 ∧ EffSm o2 ∧ EffOk (thenM [o1, o2]) ∧ EffOk (thenM [o2, o1]) ∧ LimOk lim ∧
  ∀ v H', Same H H' → OWd K H' v (difM lim (thenM [o1, o2]) (thenM [o2, o1])) → Q v H'
theorem scCm : FnScope pDf pDf (defScope sCommute) := ⟨rfl, rfl, rfl, by decide +kernel, rfl, by decide +kernel, by decide +kernel⟩
theorem two_sm {x y : Eff} (hx : EffSm x) (hy : EffSm y) : ∀ z ∈ [x, y], EffSm z := fun z m => by
  rcases List.mem_cons.mp m with q | q
  · rw [q]; exact hx
  · rw [List.mem_singleton.mp q]; exact hy
theorem has_cm (D : DefK K mg "commute" sCommute [("limit", .non)]) (T : EC K mg C) (TH : ThenHas P w K mg base C) (GD : KHas P w K mg base CX0 "difference" sDifference 7 (spDf K C)) : KHas P w K mg base CX0 "commute" sCommute 9 (spCm K C) := by
  obtain ⟨f, fd, F, FD, hmg⟩ := D
  obtain ⟨ft, mt, Ft⟩ := TH
  obtain ⟨fd0, fdd, Fd, kbd, md, kpd⟩ := GD.kb (fun D doc pm an cv ct us ws h1 h2 => match us, ws, h1, h2 with | [_, _], [_], _, _ => rfl)
  refine ⟨f, fd, F.ok scCm (fun vs H Q E h => ?_) (fun cdv A outer s H vs Q E hr h => ?_), FD, hmg⟩
  · obtain ⟨e1, e2, o1, o2, lim, rfl, _⟩ := h
    rfl
  · obtain ⟨e1, e2, o1, o2, lim, rfl, h1, h2, m1, m2, k1, k2, lo, k⟩ := h
    have hr7 : Room 7 _ := hr.mono (by decide)
    refine ⟨_, pss_one (ps_ret (pe_kwS (ex := fun _ => E0) Fd hr7 md kpd kbd (fun σ => pass0At) (pa_cons (pe_methR (pv 0) T.cl mt Ft hr pass0 (pa_cons (pv 1) pa_nil)) (pa_cons (pe_methR (pv 1) T.cl mt Ft hr pass0 (pa_cons (pv 0) pa_nil)) pa_nil)) (pk_cons (pv 2) pk_nil))), ?_⟩
    obtain ⟨d1, f1, j1, _, t1⟩ := eff_lk h1
    refine ⟨_, rfl, e1, d1, f1, rfl, j1, t1, _, rfl, [.ref e1, .ref e2], [o1, o2], rfl, by simp, .cons ⟨e1, rfl, h1⟩ (.cons ⟨e2, rfl, h2⟩ .nil), two_sm m1 m2, by simp, fun r1 H1 s1 hr1 => ?_⟩
    obtain ⟨d2, f2, j2, _, t2⟩ := eff_lk (h2.same s1)
    refine ⟨_, rfl, e2, d2, f2, rfl, j2, t2, _, rfl, [.ref e2, .ref e1], [o2, o1], rfl, by simp, .cons ⟨e2, rfl, h2.same s1⟩ (.cons ⟨e1, rfl, h1.same s1⟩ .nil), two_sm m2 m1, by simp, fun r2 H2 s2 hr2 => ?_⟩
    exact ⟨_, rfl, rfl, rfl, r1, r2, _, _, lim, rfl, hr1.same s2, hr2, k1, k2, lo, fun v H' s' hv => k v H' ((s1.trans s2).trans s') hv⟩
/-! ### limits that are refused -/
def spDfX (K : PySem.W.Frag) (CN : Addr) : Sp := fun vs H Q E => ∃ (x y v : V) (d : PyData), vs = [x, y, v] ∧ DpX K H v d ∧ limD d = false ∧ bad CN H v E
def spCmX (K : PySem.W.Frag) (C CN : Addr) : Sp := fun vs H Q E => ∃ (e1 e2 : Addr) (o1 o2 : Eff) (v : V) (d : PyData), vs = [.ref e1, .ref e2, v] ∧ EffV K C H e1 o1 ∧ EffV K C H e2 o2 ∧ EffSm o1 ∧ EffSm o2 ∧ DpX K H v d ∧ limD d = false ∧ bad CN H v E
theorem hasX_df (D : DefK K mg "difference" sDifference [("limit", .non)]) (GL : HasX P w K mg base "check_limit" 4 ["limit"] [] (spClX K CN)) : KHas P w K mg base (L2.CX P w) "difference" sDifference 5 (spDfX K CN) := by
  obtain ⟨f, fd, F, FD, hmg⟩ := D
  refine ⟨f, fd, F.okX scDf (fun vs H Q E h => ?_) (fun cv A out s H vs Q E hr h => ?_), FD, hmg⟩
  · obtain ⟨x, y, v, d, rfl, _⟩ := h
    rfl
  · obtain ⟨x, y, v, d, rfl, hv, hl, k⟩ := h
    refine ⟨_, pss_cons (ps_expr (pe_hasX GL hr tkX (pa_cons (pv 2) pa_nil))) pss_never, ?_⟩
    exact ⟨_, rfl, v, d, rfl, hv, fun z => (by rw [hl] at z; cases z), fun _ => k⟩
theorem hasX_cm (D : DefK K mg "commute" sCommute [("limit", .non)]) (T : EC K mg C) (TH : ThenHas P w K mg base C) (GD : KHas P w K mg base (L2.CX P w) "difference" sDifference 5 (spDfX K CN)) : KHas P w K mg base (L2.CX P w) "commute" sCommute 9 (spCmX K C CN) := by
  obtain ⟨f, fd, F, FD, hmg⟩ := D
  obtain ⟨ft, mt, Ft⟩ := TH
  obtain ⟨fd0, fdd, Fd, kbd, md, kpd⟩ := GD.kb (fun D doc pm an cv ct us ws h1 h2 => match us, ws, h1, h2 with | [_, _], [_], _, _ => rfl)
  refine ⟨f, fd, F.okX scCm (fun vs H Q E h => ?_) (fun cv A out s H vs Q E hr h => ?_), FD, hmg⟩
  · obtain ⟨e1, e2, o1, o2, v, d, rfl, _⟩ := h
    rfl
  · obtain ⟨e1, e2, o1, o2, v, d, rfl, h1, h2, m1, m2, hv, hl, k⟩ := h
    have hr5 : Room 5 _ := hr.mono (by decide)
    refine ⟨_, pss_one (ps_ret (pe_kwS (ex := WE (fun cls d _ H => E cls d H)) Fd hr5 md kpd kbd (fun σ => passAt tkX σ) (pa_cons (pe_methR (pv 0) T.cl mt Ft hr pass0 (pa_cons (pv 1) pa_nil)) (pa_cons (pe_methR (pv 1) T.cl mt Ft hr pass0 (pa_cons (pv 0) pa_nil)) pa_nil)) (pk_cons (pv 2) pk_nil))), ?_⟩
    obtain ⟨d1, f1, j1, _, t1⟩ := eff_lk h1
    refine ⟨_, rfl, e1, d1, f1, rfl, j1, t1, _, rfl, [.ref e1, .ref e2], [o1, o2], rfl, by simp, .cons ⟨e1, rfl, h1⟩ (.cons ⟨e2, rfl, h2⟩ .nil), two_sm m1 m2, by simp, fun r1 H1 s1 hr1 => ?_⟩
    obtain ⟨d2, f2, j2, _, t2⟩ := eff_lk (h2.same s1)
    refine ⟨_, rfl, e2, d2, f2, rfl, j2, t2, _, rfl, [.ref e2, .ref e1], [o2, o1], rfl, by simp, .cons ⟨e2, rfl, h2.same s1⟩ (.cons ⟨e1, rfl, h1.same s1⟩ .nil), two_sm m2 m1, by simp, fun r2 H2 s2 hr2 => ?_⟩
    exact ⟨_, rfl, rfl, rfl, _, _, v, d, rfl, DpX.same (s1.trans s2) _ _ hv, hl, k.go (s1.trans s2)⟩
/-! ### _law_refused -/
def spRf (K : PySem.W.Frag) : Sp := fun vs H Q _ => ∃ (i : Int) (v : V) (d : PyData), vs = [.int i, v] ∧ (i = 0 ∨ i = 1) ∧ DpX K H v d ∧ limD d = false ∧ ShD d ∧ ∀ H', Same H H' → Q (.bl true) H'
abbrev nRf : List Str := ["_law_door", "_law_bound", "e"]
abbrev pRf : List Str := ["_law_door", "_law_bound"]
theorem scRf : FnScope nRf pRf (defScope sLawRefused) := ⟨rfl, rfl, rfl, by decide +kernel, rfl, by decide +kernel, by decide +kernel⟩
def tsRf (K : PySem.W.Frag) (CN : Addr) : Addr → Value → Option Addr → TS := fun a cls d =>
  tRet (tOp rEq (tCB (rRepX K) (tCons (tXf a cls d CN "value" (tVar 2)) tNil)) (tCB (rRepX K) (tCons (tVar 1) tNil)))
def tbRf (K : PySem.W.Frag) (C CN f0 f1 : Addr) (W : WX) : TS :=
  tDrop (tKwX f0 f1 2 1 (spCmX K C CN) (fun vs zs => vs ++ zs) (WE W) (tOp (rIxL K) (tLst (tCons (tC (.ref f0)) (tCons (tC (.ref f1)) tNil))) (tVar 0)) (tCons (tCMeth0 C (spNothing K C) E0 (tC (.ref C))) (tCons (tCMeth0 C (spNever C) E0 (tC (.ref C))) tNil)) (tCons (tVar 1) tNil))
theorem ghas_rf (D : Def K mg "_law_refused" sLawRefused) (T : EC K mg C) (NO : NothingHas P w K mg base C) (NV : NeverHas P w K mg base C) (TN : XcC P w K mg base "InvalidNumber" "value" CN)
    (GD : KHas P w K mg base (L2.CX P w) "difference" sDifference 5 (spDfX K CN)) (GC : KHas P w K mg base (L2.CX P w) "commute" sCommute 9 (spCmX K C CN)) (mp : mg "repr" = none) : GHas P w K mg base "_law_refused" 10 pRf (spRf K) := by
  obtain ⟨f0, fd0, F0, kb0, m0, kp0⟩ := GD.kb (fun D doc pm an cv ct us ws h1 h2 => match us, ws, h1, h2 with | [_, _], [_], _, _ => rfl)
  obtain ⟨f1, fd1, F1, kb1, m1, kp1⟩ := GC.kb (fun D doc pm an cv ct us ws h1 h2 => match us, ws, h1, h2 with | [_, _], [_], _, _ => rfl)
  have F0' : FnOk P w K mg base (L2.CX P w) 9 f0 fd0 pDf (spCmX K C CN) := (F0.mono (by decide)).imp fun vs H Q E h => by
    obtain ⟨e1, e2, o1, o2, v, d, rfl, _, _, _, _, hv, hl, k⟩ := h
    exact ⟨_, _, v, d, rfl, hv, hl, k⟩
  refine ghas_of D scRf (fun _ _ _ _ _ _ us hl => match us, hl with | [_, _], _ => rfl) (fun xs H Q E h => ?_) (fun f cv A out s H xs Q E hgu hr h => ?_)
  · obtain ⟨i, v, d, rfl, _⟩ := h
    rfl
  · have hr6 : Room 6 _ := hr.mono (by decide)
    refine ⟨_, pss_cons (ps_try_asL (i := 2) (tm := tbRf K C CN f0 f1) (cl := [(.ref CN, tsRf K CN)]) (out := fun _ _ _ _ => False) rfl rfl scRf.nd rfl rfl takes0
        (fun W pn xe tk _ => pss_one (ps_expr (pe_kwX (pe_ix ix_list (pe_lst (pa_cons (pe_glob (v := .ref f0) (by rfl) m0 rfl) (pa_cons (pe_glob (v := .ref f1) (by rfl) m1 rfl) pa_nil))) (pv 0) (fun _ _ => rfl)) F0' F1 hr kp0 kp1 kb0 kb1 (fun σ => passAt tk σ) (pa_cons (pe_nothing0 NO T.mgE hr6) (pa_cons (pe_never0 NV T.mgE hr6) pa_nil)) (pk_cons (pv 1) pk_nil))))
        (.cons ⟨rfl, by decide, .inl TN.gC⟩ (fun a oe cls d pn hz hf => pss_one (ps_ret (pe_cmpR op_eq (pe_callB (call_repX hgu hr.units) (by rfl) mp (by decide +kernel) (pa_cons (pe_xf TN.xf TN.noF hz hf (pv 2)) pa_nil)) (pe_callB (call_repX hgu hr.units) (by rfl) mp (by decide +kernel) (pa_cons (pv 1) pa_nil)) (nomark _)))) .nil)) pss_never, ?_⟩
    have go : ∀ (D : Ends), (∀ x H', Q x H' → D.rt x H') → tbRf K C CN f0 f1 (wAsL K 2 (fun _ _ _ _ => False) D [(.ref CN, tsRf K CN)]) D (start nRf xs) H := by
      intro D kk
      obtain ⟨i, v, d, rfl, hi, hv, hl, sh, k⟩ := h
      refine ⟨(by show 2 ≤ sizeLine; decide), fun L hL => ⟨_, rfl, ?_⟩⟩
      have s1 := Same.new (o := .lst [V.ref f0, .ref f1]) hL
      have gL : (upd H L (.lst [V.ref f0, .ref f1])) L = some (.lst [V.ref f0, .ref f1]) := upd_same
      generalize upd H L (.lst [V.ref f0, .ref f1]) = H1 at s1 gL
      have pick : ∃ y, (y = V.ref f0 ∨ y = V.ref f1) ∧ atI [V.ref f0, V.ref f1] i = some y := by
        rcases hi with rfl | rfl
        · exact ⟨_, .inl rfl, rfl⟩
        · exact ⟨_, .inr rfl, rfl⟩
      obtain ⟨y, hy, hat⟩ := pick
      refine ⟨L, _, i, y, rfl, rfl, .of gL, hat, hy, ?_⟩
      refine ⟨rfl, rfl, fun e1 H2 s2 he1 => ⟨rfl, rfl, fun e2 H3 s3 he2 => ?_⟩⟩
      have s13 := (s1.trans s2).trans s3
      have he1' : EffV K C H3 e1 (some ([], [], 0)) := he1.same s3
      have he2' : EffV K C H3 e2 none := he2
      refine ⟨_, rfl, rfl, rfl, e1, e2, some ([], [], 0), none, v, d, rfl, he1', he2', fun B e => ?_, fun B e => (by cases e), DpX.same s13 _ _ hv, hl, fun dd H4 s4 nd hx => ?_⟩
      · cases e
        exact ⟨⟨fun z m => (by cases m), fun z m => (by cases m), Int.le_refl _, Int.le_refl _⟩, by decide⟩
      have s14 := s13.trans s4
      refine ⟨true, TN.te, fun _ a na => ?_, fun z => Bool.noConfusion z⟩
      refine ⟨_, rfl, rfl, rfl, dd, _, v, rfl, hx, by simp [List.lookup], v, d, rfl, DpX.same s14 _ _ hv, sh.1, sh.2.1, sh.2.2, ?_⟩
      refine ⟨_, rfl, v, d, rfl, DpX.same s14 _ _ hv, sh.1, sh.2.1, sh.2.2, rfl, kk _ _ ?_⟩
      rw [decide_eq_true rfl]
      exact k _ s14
    exact go _ fun _ _ q => q
end
end SE
namespace SE
open PySem PySem.Spec PyProof.Rows L2
theorem full_eq (L : Int) (n : Nat) : decide (L ≤ (n : Int)) = fullB (some L) n := rfl
section
variable {P : Program} {w : World} {K : PySem.W.Frag} {mg : Str → Option Value} {base : Heap}
/-! ### _law_run -/
def resV (H : Hp) (v : V) : Option (List Str) → Prop
  | none => v = .non
  | some zs => ∃ t, v = .ref t ∧ H t = some (.tup (zs.map V.str))
theorem resV.same {H H' : Hp} {v : V} {o : Option (List Str)} (h : resV H v o) (s : Same H H') : resV H' v o := by
  cases o with
  | none => exact h
  | some zs =>
    obtain ⟨t, e, q⟩ := h
    exact ⟨t, e, s _ _ q⟩
def spRn (K : PySem.W.Frag) : Sp := fun vs H Q _ => ∃ (a b : Addr) (us : List V) (ss : List Stp) (st : List Str) (lim : Option Int), vs = [.ref a, .ref b, limV lim] ∧ SqL K H a us ∧ StepsV K H us ss ∧ ss.length ≤ 2000 ∧ SqT K H b (st.map V.str) ∧ st.length ≤ 2000 ∧ (∀ s ∈ ss, Item s.2) ∧ (∀ z ∈ st, Item z) ∧
  ∀ (v : V) (H' : Hp), Same H H' → resV H' v (runS lim ss st) → Q v H'
abbrev nRn : List Str := ["_law_steps_here", "_law_stack", "_law_bound", "_law_now", "_law_action", "_law_item"]
theorem scRn : FnScope nRn ["_law_steps_here", "_law_stack", "_law_bound"] (defScope sLawRun) := ⟨rfl, rfl, rfl, by decide +kernel, rfl, by decide +kernel, by decide +kernel⟩
theorem has_rn (D : Def K mg "_law_run" sLawRun) (B : Blt mg) : Has P w K mg base "_law_run" 1 ["_law_steps_here", "_law_stack", "_law_bound"] [] (spRn K) := by
  refine has_of D scRn (fun _ _ _ _ _ _ us hl => match us, hl with | [_, _, _], _ => rfl) (fun xs H Q E h => ?_) (fun f cv A out s H xs Q E hr h => ?_)
  · obtain ⟨a, b, us, ss, st, lim, rfl, _⟩ := h
    rfl
  · obtain ⟨a, b, us, ss, st, lim, rfl, hS, hV, l1, hT, l2, iS, iT, k⟩ := h
    have lu : us.length = ss.length := hV.length
    refine ⟨_, pss_cons (ps_set (i := 3) scRn.nd rfl (.inl rfl) (pe_revL (pe_callTy call_list_of (by rfl) B.lst (by decide +kernel) (pa_cons (pv 1) pa_nil))))
      (pss_cons (ps_if (PW.pt (pw_and (pt_cmpR op_notN (pv 2) pe_non (nomark _)) (pw_and1 (pt_cmpR op_gt (pe_callB call_len_seq (by rfl) B.len PySem.boot_len (pa_cons (pv 3) pa_nil)) (pv 2) (nomark _))))) (pss_one (ps_ret pe_non)) pss_nil)
      (pss_cons (ps_for PassesOwn.never rfl (pi_list (pv 0)) (pg_tup (by rfl) (pgs_cons (pg_name (i := 4) scRn.nd rfl (.inl rfl)) (pgs_cons (pg_name (i := 5) scRn.nd rfl (.inl rfl)) pgs_nil)))
        (pss_one (ps_if (pt_cmpR op_eq (pv 4) pe_str (nomark _))
          (pss_cons (ps_if (PW.pt (pw_and (pt_cmpR op_notN (pv 2) pe_non (nomark _)) (pw_and1 (pt_cmpR op_ge (pe_callB call_len_seq (by rfl) B.len PySem.boot_len (pa_cons (pv 3) pa_nil)) (pv 2) (nomark _))))) (pss_one (ps_ret pe_non)) pss_nil)
            (pss_one (ps_expr (pe_bm PySem.F.plainAttrs_list PySem.F.slot_list_append PySem.F.type_list_append mt_append (pv 3) (pa_cons (pv 5) pa_nil)))))
          (pss_cons (ps_if (PW.pt (pw_or (pt_cmpR (op_eqD hr.units) (pv 3) (pe_lst pa_nil) (nomark _)) (pw_or1 (pt_cmpR op_ne (pe_ix ix_list (pv 3) (pe_un un_neg pe_int) (fun _ _ => rfl)) (pv 5) (nomark _))))) (pss_one (ps_ret pe_non)) pss_nil)
            (pss_one (ps_expr (pe_bm0 PySem.F.plainAttrs_list PySem.F.slot_list_pop PySem.F.type_list_pop mt_pop (pv 3))))))))
      (pss_one (ps_ret (pe_callTy call_tuple_of (by rfl) B.tup (by decide +kernel) (pa_cons (pe_revL (pv 3)) pa_nil)))))), ?_⟩
    refine ⟨_, rfl, b, _, rfl, .inr hT, fun l1' h1' => ?_⟩
    have s1 : Same H (upd H l1' (.lst (st.map V.str))) := Same.new h1'
    have e1 : (upd H l1' (.lst (st.map V.str))) l1' = some (.lst (st.map V.str)) := upd_same
    generalize upd H l1' (.lst (st.map V.str)) = H1 at s1 e1
    refine ⟨l1', _, rfl, .of e1, fun L hL => ?_⟩
    rw [← List.map_reverse]
    have s2 : Same H1 (upd H1 L (.lst (st.reverse.map V.str))) := Same.new hL
    have e2 : (upd H1 L (.lst (st.reverse.map V.str))) L = some (.lst (st.reverse.map V.str)) := upd_same
    have nL : H L = none := s1.free hL
    have s02 := s1.trans s2
    generalize upd H1 L (.lst (st.reverse.map V.str)) = H2 at s2 e2 s02
    have stop : ∀ H3, Same H H3 → runS lim ss st = none → Q .non H3 := fun H3 s3 e => k .non H3 s3 (by rw [e]; rfl)
    cases lim with
    | none =>
      refine ⟨_, rfl, rfl, false, rfl, iteF (iteF ?_)⟩
      have o : runS none ss st = runL none ss st := rfl
      refine ⟨_, rfl, a, rfl, ⟨_, Same.seq s02 hS⟩, for_list (K := K) (a := a) (xs := us) (fun j σ H3 => ∃ (now : List Str) (y4 y5 : Option V), σ = [some (.ref a), some (.ref b), some .non, some (.ref L), y4, y5] ∧ H3 L = some (.lst (now.reverse.map V.str)) ∧ now.length ≤ st.length + j ∧ (∀ z ∈ now, Item z) ∧ runL none ss st = runL none (ss.drop j) now ∧ Same H H3) ⟨st, _, _, rfl, e2, by omega, iT, by rw [List.drop_zero], s02⟩ (fun j σ H3 _ q => ?_) ?_ ?_⟩
      · obtain ⟨_, _, _, _, _, _, _, _, s3⟩ := q
        exact Same.seq s3 hS
      · rintro j x σ H3 hx ⟨now, y4, y5, rfl, hN, ln, iN, er, s3⟩
        obtain ⟨⟨bo, z⟩, hst, t, rfl, hT'⟩ := StepsV.at hV hx
        have iz : Item z := iS (bo, z) (List.mem_of_getElem? hst)
        have jl := (List.getElem?_eq_some_iff.mp hst).1
        have hd : ss.drop j = (bo, z) :: ss.drop (j + 1) := by
          obtain ⟨hl, he⟩ := List.getElem?_eq_some_iff.mp hst
          rw [List.drop_eq_getElem_cons hl, he]
        rw [hd] at er
        refine ⟨t, _, rfl, Same.tup s3 hT', rfl, _, _, rfl, _, _, rfl, rfl, ?_⟩
        refine ⟨_, rfl, rfl, _, rfl, ?_⟩
        cases bo with
        | true =>
          rw [decide_eq_true (by rfl)]
          refine iteT ⟨_, rfl, rfl, false, rfl, iteF (iteF ?_)⟩
          refine ⟨.ref L, rfl, .inl ⟨rfl, _, .of hN⟩, _, rfl, L, _, _, rfl, rfl, hN, ?_, z :: now, _, _, rfl, ?_, ?_, ?_, er, Same.free2 s3 nL⟩
          · rw [List.length_map, List.length_reverse, sizeLine_eq]
            omega
          · rw [upd_same, List.reverse_cons, List.map_append]
            rfl
          · rw [List.length_cons]
            omega
          · intro y m
            rcases List.mem_cons.mp m with q | q
            · rw [q]; exact iz
            · exact iN y q
        | false =>
          have np : ¬ (act false = Str.ofString "push") := by decide +kernel
          rw [decide_eq_false (fun e => np (V.str.inj e))]
          refine iteF ⟨_, rfl, (by show 0 ≤ sizeLine; decide), fun M hM => ?_⟩
          have sM : Same H3 (upd H3 M (.lst [])) := Same.new hM
          have izs : ∀ y ∈ now.reverse, Item y := fun y m => iN y (List.mem_reverse.mp m)
          have hNM := sM _ _ hN
          refine ⟨.list (now.reverse.map .str), .list (([] : List Str).map .str), .lst (.of hNM) (dp_strs _), .lst (.of upd_same) .nil, (nice_list (nice_strs izs)).shaped (by decide), rfl, _, rfl, ?_⟩
          rw [eqv_listS]
          generalize upd H3 M (.lst []) = H4 at sM hNM
          have s4 := s3.trans sM
          cases now with
          | nil =>
            rw [show decide (([] : List Str).reverse = []) = true from rfl]
            exact iteT (iteT (stop _ s4 (by rw [o, er]; rfl)))
          | cons y r =>
            rw [decide_eq_false (by simp)]
            have hr' : (y :: r).reverse.map V.str = r.reverse.map V.str ++ [V.str y] := by
              rw [List.reverse_cons, List.map_append]
              rfl
            rw [hr'] at hNM
            refine iteF ⟨_, rfl, _, rfl, L, _, _, _, rfl, rfl, .of hNM, atI_last _ _, _, rfl, rfl, _, rfl, ?_⟩
            by_cases c : y = z
            · rw [decide_eq_true (by rw [c])]
              refine iteF ⟨.ref L, rfl, .inl ⟨rfl, _, .of hNM⟩, L, r.reverse.map V.str ++ [V.str y], .str y, rfl, rfl, hNM, ?_, ?_⟩
              · rw [List.length_append, List.length_singleton, Nat.add_sub_cancel, List.getElem?_append_right (Nat.le_refl _), Nat.sub_self]
                rfl
              · rw [List.dropLast_concat]
                refine ⟨r, _, _, rfl, upd_same, by rw [List.length_cons] at ln; omega, fun q m => iN q (List.mem_cons_of_mem _ m), ?_, Same.free2 s4 nL⟩
                rw [er]
                show (if y = z then _ else _) = _
                rw [if_pos c]
            · rw [decide_eq_false (fun e => c (V.str.inj e))]
              refine iteT (stop _ s4 ?_)
              rw [o, er]
              show (if y = z then _ else _) = _
              rw [if_neg c]
      · rintro σ H3 ⟨now, y4, y5, rfl, hN, ln, iN, er, s3⟩
        rw [lu, List.drop_length] at er
        refine ⟨_, rfl, L, _, rfl, .of hN, fun R hR => ?_⟩
        rw [← List.map_reverse, List.reverse_reverse]
        refine ⟨R, _, rfl, .inl ⟨.of upd_same, fun t ht => ?_⟩⟩
        refine k (.ref t) _ ((s3.trans (Same.new hR)).trans (Same.new ht)) ?_
        rw [o, er]
        exact ⟨t, rfl, upd_same⟩
    | some lm =>
      refine ⟨_, rfl, rfl, true, rfl, iteT ⟨_, rfl, L, _, rfl, .inl (.of e2), _, rfl, _, lm, rfl, rfl, _, rfl, ?_⟩⟩
      rw [List.length_map, List.length_reverse]
      cases o0 : overB (some lm) st.length with
      | true =>
        have q : decide (lm < (st.length : Int)) = true := o0
        rw [q]
        refine iteT (stop _ s02 ?_)
        unfold runS
        rw [o0, if_pos rfl]
      | false =>
        have q : decide (lm < (st.length : Int)) = false := o0
        rw [q]
        refine iteF ?_
        have o : runS (some lm) ss st = runL (some lm) ss st := by
          unfold runS
          rw [o0, if_neg Bool.false_ne_true]
        refine ⟨_, rfl, a, rfl, ⟨_, Same.seq s02 hS⟩, for_list (K := K) (a := a) (xs := us) (fun j σ H3 => ∃ (now : List Str) (y4 y5 : Option V), σ = [some (.ref a), some (.ref b), some (.int lm), some (.ref L), y4, y5] ∧ H3 L = some (.lst (now.reverse.map V.str)) ∧ now.length ≤ st.length + j ∧ (∀ z ∈ now, Item z) ∧ runL (some lm) ss st = runL (some lm) (ss.drop j) now ∧ Same H H3) ⟨st, _, _, rfl, e2, by omega, iT, by rw [List.drop_zero], s02⟩ (fun j σ H3 _ q => ?_) ?_ ?_⟩
        · obtain ⟨_, _, _, _, _, _, _, _, s3⟩ := q
          exact Same.seq s3 hS
        · rintro j x σ H3 hx ⟨now, y4, y5, rfl, hN, ln, iN, er, s3⟩
          obtain ⟨⟨bo, z⟩, hst, t, rfl, hT'⟩ := StepsV.at hV hx
          have iz : Item z := iS (bo, z) (List.mem_of_getElem? hst)
          have jl := (List.getElem?_eq_some_iff.mp hst).1
          have hd : ss.drop j = (bo, z) :: ss.drop (j + 1) := by
            obtain ⟨hl, he⟩ := List.getElem?_eq_some_iff.mp hst
            rw [List.drop_eq_getElem_cons hl, he]
          rw [hd] at er
          refine ⟨t, _, rfl, Same.tup s3 hT', rfl, _, _, rfl, _, _, rfl, rfl, ?_⟩
          refine ⟨_, rfl, rfl, _, rfl, ?_⟩
          cases bo with
          | true =>
            rw [decide_eq_true (by rfl)]
            refine iteT ⟨_, rfl, rfl, true, rfl, iteT ⟨_, rfl, L, _, rfl, .inl (.of hN), _, rfl, _, lm, rfl, rfl, _, rfl, ?_⟩⟩
            rw [List.length_map, List.length_reverse]
            cases f0 : fullB (some lm) now.length with
            | true =>
              have q : decide (lm ≤ (now.length : Int)) = true := f0
              rw [q]
              refine iteT (stop _ s3 ?_)
              rw [o, er]
              show (if fullB (some lm) now.length = true then none else _) = none
              rw [f0, if_pos rfl]
            | false =>
              have q : decide (lm ≤ (now.length : Int)) = false := f0
              rw [q]
              refine iteF ?_
              have er' : runL (some lm) ss st = runL (some lm) (ss.drop (j + 1)) (z :: now) := by
                rw [er]
                show (if fullB (some lm) now.length = true then none else _) = _
                rw [f0, if_neg Bool.false_ne_true]
              refine ⟨.ref L, rfl, .inl ⟨rfl, _, .of hN⟩, _, rfl, L, _, _, rfl, rfl, hN, ?_, z :: now, _, _, rfl, ?_, ?_, ?_, er', Same.free2 s3 nL⟩
              · rw [List.length_map, List.length_reverse, sizeLine_eq]
                omega
              · rw [upd_same, List.reverse_cons, List.map_append]
                rfl
              · rw [List.length_cons]
                omega
              · intro y m
                rcases List.mem_cons.mp m with q | q
                · rw [q]; exact iz
                · exact iN y q
          | false =>
            have np : ¬ (act false = Str.ofString "push") := by decide +kernel
            rw [decide_eq_false (fun e => np (V.str.inj e))]
            refine iteF ⟨_, rfl, (by show 0 ≤ sizeLine; decide), fun M hM => ?_⟩
            have sM : Same H3 (upd H3 M (.lst [])) := Same.new hM
            have izs : ∀ y ∈ now.reverse, Item y := fun y m => iN y (List.mem_reverse.mp m)
            have hNM := sM _ _ hN
            refine ⟨.list (now.reverse.map .str), .list (([] : List Str).map .str), .lst (.of hNM) (dp_strs _), .lst (.of upd_same) .nil, (nice_list (nice_strs izs)).shaped (by decide), rfl, _, rfl, ?_⟩
            rw [eqv_listS]
            generalize upd H3 M (.lst []) = H4 at sM hNM
            have s4 := s3.trans sM
            cases now with
            | nil =>
              rw [show decide (([] : List Str).reverse = []) = true from rfl]
              exact iteT (iteT (stop _ s4 (by rw [o, er]; rfl)))
            | cons y r =>
              rw [decide_eq_false (by simp)]
              have hr' : (y :: r).reverse.map V.str = r.reverse.map V.str ++ [V.str y] := by
                rw [List.reverse_cons, List.map_append]
                rfl
              rw [hr'] at hNM
              refine iteF ⟨_, rfl, _, rfl, L, _, _, _, rfl, rfl, .of hNM, atI_last _ _, _, rfl, rfl, _, rfl, ?_⟩
              by_cases c : y = z
              · rw [decide_eq_true (by rw [c])]
                refine iteF ⟨.ref L, rfl, .inl ⟨rfl, _, .of hNM⟩, L, r.reverse.map V.str ++ [V.str y], .str y, rfl, rfl, hNM, ?_, ?_⟩
                · rw [List.length_append, List.length_singleton, Nat.add_sub_cancel, List.getElem?_append_right (Nat.le_refl _), Nat.sub_self]
                  rfl
                · rw [List.dropLast_concat]
                  refine ⟨r, _, _, rfl, upd_same, by rw [List.length_cons] at ln; omega, fun q m => iN q (List.mem_cons_of_mem _ m), ?_, Same.free2 s4 nL⟩
                  rw [er]
                  show (if y = z then _ else _) = _
                  rw [if_pos c]
              · rw [decide_eq_false (fun e => c (V.str.inj e))]
                refine iteT (stop _ s4 ?_)
                rw [o, er]
                show (if y = z then _ else _) = _
                rw [if_neg c]
        · rintro σ H3 ⟨now, y4, y5, rfl, hN, ln, iN, er, s3⟩
          rw [lu, List.drop_length] at er
          refine ⟨_, rfl, L, _, rfl, .of hN, fun R hR => ?_⟩
          rw [← List.map_reverse, List.reverse_reverse]
          refine ⟨R, _, rfl, .inl ⟨.of upd_same, fun t ht => ?_⟩⟩
          refine k (.ref t) _ ((s3.trans (Same.new hR)).trans (Same.new ht)) ?_
          rw [o, er]
          exact ⟨t, rfl, upd_same⟩
end
end SE
namespace SE
open PySem PySem.Spec PyProof.Rows L2 SeqAt
theorem paired_app {α β : Type} {F : α → β → Prop} : ∀ {l₁ : List α} {l₂ : List β} {k₁ : List α} {k₂ : List β}, Paired F l₁ l₂ → Paired F k₁ k₂ → Paired F (l₁ ++ k₁) (l₂ ++ k₂)
  | _, _, _, _, .nil, q => q
  | _, _, _, _, .cons a r, q => .cons a (paired_app r q)
theorem eqv_ow : ∀ a b : Option (List Str), PyData.eqv (owD a) (owD b) = decide (a = b)
  | none, none => by simp [owD, PyData.eqv]
  | none, some _ => by simp [owD, PyData.eqv]
  | some _, none => by simp [owD, PyData.eqv]
  | some x, some y => by
    show PyData.eqv (.tuple (x.map .str)) (.tuple (y.map .str)) = _
    rw [eqv_tupS]
    exact decide_eq_decide.mpr ⟨fun e => by rw [e], fun e => Option.some.inj e⟩
theorem ow_shaped : ∀ {o : Option (List Str)}, (∀ zs, o = some zs → ∀ z ∈ zs, Item z) → SeqAt.shaped (owD o) = true
  | none, _ => rfl
  | some zs, h => tup_shaped (h zs rfl)
theorem run_items {lim : Option Int} {ss : List Stp} {st : List Str} (hI : ∀ s ∈ ss, Item s.2) (hS : ∀ z ∈ st, Item z) : ∀ zs, runS lim ss st = some zs → ∀ z ∈ zs, Item z := fun zs h z m => by
  rw [run_S hI] at h
  cases hE : effM ss with
  | none => rw [hE] at h; cases h
  | some E =>
    obtain ⟨xs, ys, p⟩ := E
    obtain ⟨ok, _, _⟩ := effM_ok hI hE
    rw [hE, apM_some] at h
    split at h
    · cases h
    · split at h
      · cases h
        rcases List.mem_append.mp m with q | q
        · exact ok.i2 z q
        · exact hS z (List.mem_of_mem_drop q)
      · cases h
theorem fs_len {lim : Option Int} {o : Eff} (h : EffOk o) : ∀ xs, fsM lim o = some xs → (∀ z ∈ xs, Item z) ∧ xs.length ≤ 1000 := fs_ok h
theorem dif_ok {lim : Option Int} {o1 o2 : Eff} (h1 : EffOk o1) (h2 : EffOk o2) (lo : LimOk lim) : ∀ zs, difM lim o1 o2 = some zs → (∀ z ∈ zs, Item z) ∧ zs.length ≤ 2000 := fun zs h => by
  have f1 := fs_ok (lim := lim) h1
  have f2 := fs_ok (lim := lim) h2
  have up : ∀ {xs : List Str}, (∀ z ∈ xs, Item z) ∧ xs.length ≤ 1000 → (∀ z ∈ xs, Item z) ∧ xs.length ≤ 2000 := fun q => ⟨q.1, by omega⟩
  cases q1 : fsM lim o1 with
  | none =>
    cases q2 : fsM lim o2 with
    | none =>
      unfold difM at h
      rw [q1, q2] at h
      cases h
    | some x2 =>
      unfold difM at h
      rw [q1, q2] at h
      cases h
      exact up (f2 _ q2)
  | some x1 =>
    cases q2 : fsM lim o2 with
    | none =>
      unfold difM at h
      rw [q1, q2] at h
      cases h
      exact up (f1 _ q1)
    | some x2 =>
      match o1, o2, q1, q2, h1, h2 with
      | some (xs, ys, p), some (us, vs, q), q1, q2, h1, h2 =>
        obtain ⟨rfl, _⟩ := fs_some q1
        obtain ⟨rfl, _⟩ := fs_some q2
        have g1 := f1 _ q1
        have g2 := f2 _ q2
        unfold difM at h
        rw [q1, q2] at h
        dsimp only at h
        split at h
        · cases lim with
          | none => cases h
          | some L =>
            obtain ⟨L0, L1⟩ := lo L rfl
            have p0 : 0 ≤ p := h1.2.2.2.2.1
            have r0 : 0 ≤ q := h2.2.2.2.2.1
            have m0 : 0 ≤ mxI p q := by
              unfold mxI
              split <;> omega
            unfold beyM at h
            dsimp only at h
            split at h
            · cases h
            · cases h
              refine ⟨fun z m => ?_, ?_⟩
              · rcases List.mem_append.mp m with w | w
                · exact g1.1 z w
                · rw [(List.mem_replicate.mp w).2]
                  exact ⟨by decide +kernel, by decide +kernel, by decide +kernel⟩
              · have := g1.2
                rw [List.length_append, List.length_replicate]
                omega
        · cases h
          split
          · exact up g2
          · exact up g1
section
variable {P : Program} {w : World} {K : PySem.W.Frag} {mg : Str → Option Value} {base : Heap} {C : Addr}
theorem resV_dp {H : Hp} {v : V} : ∀ {o : Option (List Str)}, resV H v o → Dp K H v (owD o)
  | none, h => by
    have e : v = .non := h
    rw [e]
    exact .non
  | some zs, h => by
    obtain ⟨t, e, q⟩ := h
    rw [e]
    exact .tup (.of q) (dp_strs _)
/-! ### _law_orders_differ -/
def spOd (K : PySem.W.Frag) : Sp := fun vs H Q _ => ∃ (a b c : Addr) (us1 us2 : List V) (s1 s2 : List Stp) (st : List Str) (lim : Option Int), vs = [.ref a, .ref b, .ref c, limV lim] ∧ H a = some (.lst us1) ∧ H b = some (.lst us2) ∧ StepsV K H us1 s1 ∧ StepsV K H us2 s2 ∧ s1.length ≤ 500 ∧ s2.length ≤ 500 ∧
  SqT K H c (st.map V.str) ∧ st.length ≤ 2000 ∧ (∀ s ∈ s1, Item s.2) ∧ (∀ s ∈ s2, Item s.2) ∧ (∀ z ∈ st, Item z) ∧ ∀ H', Same H H' → Q (.bl (!decide (runS lim (s1 ++ s2) st = runS lim (s2 ++ s1) st))) H'
abbrev pOd : List Str := ["_law_one", "_law_two", "_law_stack", "_law_bound"]
theorem scOd : FnScope pOd pOd (defScope sLawOrdersDiffer) := ⟨rfl, rfl, rfl, by decide +kernel, rfl, by decide +kernel, by decide +kernel⟩
theorem has_od (D : Def K mg "_law_orders_differ" sLawOrdersDiffer) (GR : Has P w K mg base "_law_run" 1 ["_law_steps_here", "_law_stack", "_law_bound"] [] (spRn K)) : Has P w K mg base "_law_orders_differ" 2 pOd [] (spOd K) := by
  refine has_of D scOd (fun _ _ _ _ _ _ us hl => match us, hl with | [_, _, _, _], _ => rfl) (fun xs H Q E h => ?_) (fun f cv A out s H xs Q E hr h => ?_)
  · obtain ⟨a, b, c, us1, us2, s1, s2, st, lim, rfl, _⟩ := h
    rfl
  · obtain ⟨a, b, c, us1, us2, s1, s2, st, lim, rfl, ha, hb, v1, v2, l1, l2, hc, lst, i1, i2, i3, k⟩ := h
    refine ⟨_, pss_one (ps_ret (pe_cmpR (op_neD hr.units) (pe_has GR hr (pa_cons (pe_op op_cat (pv 0) (pv 1)) (pa_cons (pv 2) (pa_cons (pv 3) pa_nil)))) (pe_has GR hr (pa_cons (pe_op op_cat (pv 1) (pv 0)) (pa_cons (pv 2) (pa_cons (pv 3) pa_nil)))) (nomark _))), ?_⟩
    have m1 := v1.length
    have m2 := v2.length
    have i12 : ∀ s ∈ s1 ++ s2, Item s.2 := fun s m => (List.mem_append.mp m).elim (i1 s) (i2 s)
    have i21 : ∀ s ∈ s2 ++ s1, Item s.2 := fun s m => (List.mem_append.mp m).elim (i2 s) (i1 s)
    refine ⟨_, rfl, _, rfl, a, b, us1, us2, rfl, rfl, ha, hb, by rw [sizeLine_eq]; omega, fun p hp => ?_⟩
    have t1 := Same.new (o := .lst (us1 ++ us2)) hp
    refine ⟨_, rfl, _, rfl, p, c, us1 ++ us2, s1 ++ s2, st, lim, rfl, .of upd_same, paired_app (StepsV.same v1 t1) (StepsV.same v2 t1), by rw [List.length_append]; omega, Same.tup t1 hc, lst, i12, i3, fun x H2 t2 hx => ?_⟩
    have t12 := t1.trans t2
    refine ⟨_, rfl, _, rfl, b, a, us2, us1, rfl, rfl, t12 _ _ hb, t12 _ _ ha, by rw [sizeLine_eq]; omega, fun q hq => ?_⟩
    have t3 := Same.new (o := .lst (us2 ++ us1)) hq
    have t13 := t12.trans t3
    refine ⟨_, rfl, _, rfl, q, c, us2 ++ us1, s2 ++ s1, st, lim, rfl, .of upd_same, paired_app (StepsV.same v2 t13) (StepsV.same v1 t13), by rw [List.length_append]; omega, Same.tup t13 hc, lst, i21, i3, fun y H4 t4 hy => ?_⟩
    refine ⟨_, _, resV_dp (resV.same hx (t3.trans t4)), resV_dp hy, ow_shaped (run_items i12 i3), ow_shaped (run_items i21 i3), ?_⟩
    rw [eqv_ow]
    exact k _ (t13.trans t4)
/-! ### _law_pair_right -/
def spPr (K : PySem.W.Frag) : Sp := fun vs H Q _ => ∃ (a b c : Addr) (us1 us2 ps : List V) (s1 s2 : List Stp) (ws : List (List Str)) (lim : Option Int), vs = [.ref a, .ref b, limV lim, .ref c] ∧ H a = some (.lst us1) ∧ H b = some (.lst us2) ∧ StepsV K H us1 s1 ∧ StepsV K H us2 s2 ∧ s1.length ≤ 20 ∧ s2.length ≤ 20 ∧
  H c = some (.lst ps) ∧ Paired (WdV K H) ps ws ∧ (∀ w' ∈ ws, w'.length ≤ 100 ∧ ∀ z ∈ w', Item z) ∧ (∀ s ∈ s1, Item s.2) ∧ (∀ s ∈ s2, Item s.2) ∧ LimOk lim ∧ ∀ H', Same H H' → Q (.bl true) H'
abbrev nPr : List Str := ["_law_one", "_law_two", "_law_bound", "_law_piles", "_law_first", "_law_second", "_law_stack", "_law_some"]
abbrev pPr : List Str := ["_law_one", "_law_two", "_law_bound", "_law_piles"]
theorem scPr : FnScope nPr pPr (defScope sLawPairRight) := ⟨rfl, rfl, rfl, by decide +kernel, rfl, by decide +kernel, by decide +kernel⟩
theorem sm_eff {ss : List Stp} (hI : ∀ s ∈ ss, Item s.2) (hl : ss.length ≤ 100) : EffSm (effM ss) := fun B e => by
  obtain ⟨a, b, c⟩ := effM_ok hI e
  exact ⟨a, by omega⟩
theorem then_pair {x y : List Stp} (hx : ∀ s ∈ x, Item s.2) (hy : ∀ s ∈ y, Item s.2) : thenM [effM x, effM y] = effM (x ++ y) := by
  have := then_eff (sss := [x, y]) (fun t m => by
    rcases List.mem_cons.mp m with q | q
    · rw [q]; exact hx
    · rw [List.mem_singleton.mp q]; exact hy)
  simpa using this
theorem has_pr (D : Def K mg "_law_pair_right" sLawPairRight) (T : EC K mg C) (TH : ThenHas P w K mg base C) (GE : Has P w K mg base "effect_of" 8 ["steps"] [] (spEffOf K C)) (GD : KHas P w K mg base CX0 "difference" sDifference 7 (spDf K C)) (GC : KHas P w K mg base CX0 "commute" sCommute 9 (spCm K C))
    (GO : Has P w K mg base "_law_orders_differ" 2 pOd [] (spOd K)) : Has P w K mg base "_law_pair_right" 10 pPr [] (spPr K) := by
  obtain ⟨ft, mt, Ft⟩ := TH
  obtain ⟨f0, fd0, F0, kb0, m0, kp0⟩ := GD.kb (fun D doc pm an cv ct us ws h1 h2 => match us, ws, h1, h2 with | [_, _], [_], _, _ => rfl)
  obtain ⟨f1, fd1, F1, kb1, m1, kp1⟩ := GC.kb (fun D doc pm an cv ct us ws h1 h2 => match us, ws, h1, h2 with | [_, _], [_], _, _ => rfl)
  refine has_of D scPr (fun _ _ _ _ _ _ us hl => match us, hl with | [_, _, _, _], _ => rfl) (fun xs H Q E h => ?_) (fun f cv A out s H xs Q E hr h => ?_)
  · obtain ⟨a, b, c, us1, us2, ps, s1, s2, ws, lim, rfl, _⟩ := h
    rfl
  · obtain ⟨a, b, c, us1, us2, ps, s1, s2, ws, lim, rfl, ha, hb, v1, v2, l1, l2, hc, hp, hw, i1, i2, lo, k⟩ := h
    have hr2 : Room 2 _ := hr.mono (by decide)
    have hr7 : Room 7 _ := hr.mono (by decide)
    have hr8 : Room 8 _ := hr.mono (by decide)
    refine ⟨_, pss_cons (ps_par (i := 4) (j := 5) rfl scPr.nd rfl rfl (by decide) rfl rfl (pa_cons (pe_has GE hr8 (pa_cons (pv 0) pa_nil)) (pa_cons (pe_has GE hr8 (pa_cons (pv 1) pa_nil)) pa_nil)) (by rfl))
      (pss_cons (ps_set (i := 6) scPr.nd rfl (.inl rfl) (pe_kwS (ex := fun _ => E0) F1 hr m1 kp1 kb1 (fun σ => pass0At) (pa_cons (pv 4) (pa_cons (pv 5) pa_nil)) (pk_cons (pv 2) pk_nil)))
      (pss_cons (ps_if (pt_cmpR (op_neD hr.units) (pv 6) (pe_kwS (ex := fun _ => E0) F0 hr7 m0 kp0 kb0 (fun σ => pass0At) (pa_cons (pe_methR (pv 4) T.cl mt Ft hr8 pass0 (pa_cons (pv 5) pa_nil)) (pa_cons (pe_methR (pv 5) T.cl mt Ft hr8 pass0 (pa_cons (pv 4) pa_nil)) pa_nil)) (pk_cons (pv 2) pk_nil)) (nomark _)) (pss_one (ps_ret pe_bl)) pss_nil)
      (pss_cons (ps_if (pt_cmpR op_isN (pv 6) pe_non (nomark _)) (pss_one (ps_ret (pe_cmpR (op_eqD hr.units)
        (pe_lc (own := [("_law_some", 7)]) (g := gName 7) (tt := tB (tCall (spOd K) [] E0 (tCons (tVar 0) (tCons (tVar 1) (tCons (tVar 7) (tCons (tVar 2) tNil)))))) (te := tVar 7) rfl scPr.nd (pi_list (pv 3)) (blkOk_by (own := [("_law_some", 7)]) (N := nPr) (sc := defScope sLawPairRight) (by decide +kernel))
          (fun _ _ _ _ _ => pg_name (i := 7) scPr.nd rfl (.inl rfl)) (fun _ _ _ _ _ => pts_one (pt_val (pe_has GO hr2 (pa_cons (pv 0) (pa_cons (pv 1) (pa_cons (pv 7) (pa_cons (pv 2) pa_nil))))))) (fun _ _ _ _ _ => pv 7)) (pe_lst pa_nil) (nomark _)))) pss_nil)
      (pss_one (ps_ret (pe_has GO hr2 (pa_cons (pv 0) (pa_cons (pv 1) (pa_cons (pv 6) (pa_cons (pv 2) pa_nil)))))))))), ?_⟩
    have m1' := v1.length
    have m2' := v2.length
    have i12 : ∀ s ∈ s1 ++ s2, Item s.2 := fun s m => (List.mem_append.mp m).elim (i1 s) (i2 s)
    have i21 : ∀ s ∈ s2 ++ s1, Item s.2 := fun s m => (List.mem_append.mp m).elim (i2 s) (i1 s)
    have k12 := effM_EffOk i12 (by rw [List.length_append]; omega)
    have k21 := effM_EffOk i21 (by rw [List.length_append]; omega)
    have e12 := then_pair i1 i2
    have e21 := then_pair i2 i1
    have n1 := sm_eff i1 (by omega)
    have n2 := sm_eff i2 (by omega)
    refine ⟨_, rfl, a, us1, s1, rfl, .of ha, by omega, v1, i1, fun x1 H1 t1 h1 => ⟨_, rfl, b, us2, s2, rfl, .of (t1 _ _ hb), by omega, StepsV.same v2 t1, i2, fun x2 H2 t2 h2 => ⟨_, _, rfl, ?_⟩⟩⟩
    have h1 := h1.same t2
    have t02 := t1.trans t2
    refine ⟨_, rfl, _, rfl, _, rfl, rfl, rfl, x1, x2, _, _, lim, rfl, h1, h2, n1, n2, by rw [e12]; exact k12, by rw [e21]; exact k21, lo, fun v H3 t3 hv => ?_⟩
    rw [e12, e21] at hv
    have h1 := h1.same t3
    have h2 := h2.same t3
    have t03 := t02.trans t3
    have dok := dif_ok k12 k21 lo
    obtain ⟨d1, g1, j1, _, q1⟩ := eff_lk h1
    refine ⟨_, rfl, _, rfl, x1, d1, g1, rfl, j1, q1, _, rfl, [.ref x1, .ref x2], [effM s1, effM s2], rfl, by simp, .cons ⟨x1, rfl, h1⟩ (.cons ⟨x2, rfl, h2⟩ .nil), two_sm n1 n2, by simp, fun r1 H4 t4 hr1 => ?_⟩
    obtain ⟨d2, g2, j2, _, q2⟩ := eff_lk (h2.same t4)
    refine ⟨_, rfl, x2, d2, g2, rfl, j2, q2, _, rfl, [.ref x2, .ref x1], [effM s2, effM s1], rfl, by simp, .cons ⟨x2, rfl, h2.same t4⟩ (.cons ⟨x1, rfl, h1.same t4⟩ .nil), two_sm n2 n1, by simp, fun r2 H5 t5 hr2' => ?_⟩
    rw [e12] at hr1
    rw [e21] at hr2'
    refine ⟨_, rfl, rfl, rfl, r1, r2, _, _, lim, rfl, hr1.same t5, hr2', k12, k21, lo, fun v' H6 t6 hv' => ?_⟩
    have t36 := (t4.trans t5).trans t6
    have hv6 := hv.same t36
    have osh : SeqAt.shaped (owD (difM lim (effM (s1 ++ s2)) (effM (s2 ++ s1)))) = true := ow_shaped fun zs e => (dok zs e).1
    refine ⟨_, _, owD_dp hv6, owD_dp hv', osh, osh, false, ?_, iteF ?_⟩
    · rw [eqv_ow, decide_eq_true rfl]
      rfl
    have t06 := t03.trans t36
    have ha6 := t06 _ _ ha
    have hb6 := t06 _ _ hb
    have hc6 := t06 _ _ hc
    have v16 := StepsV.same v1 t06
    have v26 := StepsV.same v2 t06
    cases hd : difM lim (effM (s1 ++ s2)) (effM (s2 ++ s1)) with
    | none =>
      rw [hd] at hv6
      have e : v = .non := hv6
      subst e
      refine ⟨_, rfl, rfl, true, rfl, iteT ?_⟩
      refine ⟨_, rfl, c, rfl, ⟨_, .of hc6⟩, fun D' hD' => lc_list (K := K) (a := c) (xs := ps) (fun j HX => HX D' = some (.lst []) ∧ Same H6 HX) ⟨upd_same, Same.new hD'⟩ (fun j HX _ q => .of (q.2 _ _ hc6)) ?_ ?_⟩
      · rintro j x HX hx ⟨gD, tX⟩
        obtain ⟨st, hst, q, rfl, hq⟩ := paired_at hp hx
        have t0X := t06.trans tX
        obtain ⟨w1, w2⟩ := hw st (List.mem_of_getElem? hst)
        refine ⟨rfl, _, rfl, _, rfl, _, rfl, _, rfl, a, b, q, us1, us2, s1, s2, st, lim, rfl, t0X _ _ ha, t0X _ _ hb, StepsV.same v1 t0X, StepsV.same v2 t0X, by omega, by omega, Same.tup t0X hq, by omega, i1, i2, w2, fun HY tY => ?_⟩
        have e : runS lim (s1 ++ s2) st = runS lim (s2 ++ s1) st := by
          rw [run_S i12, run_S i21]
          exact dif_none hd st
        rw [decide_eq_true e]
        exact ⟨false, rfl, iteF ⟨tY _ _ gD, tX.trans tY⟩⟩
      rintro HX ⟨gD, tX⟩
      refine ⟨Nat.zero_le _, fun N hN => ⟨.list [], .list [], .lst (.of ?_) .nil, .lst (.of upd_same) .nil, by decide, by decide, ?_⟩⟩
      · rw [upd_ne (ne_of_none gD hN)]
        exact gD
      · exact k _ ((t06.trans tX).trans (Same.new hN))
    | some st =>
      rw [hd] at hv6
      obtain ⟨q, rfl, hq⟩ := hv6
      obtain ⟨w2, w1⟩ := dok st hd
      refine ⟨_, rfl, rfl, false, rfl, iteF ?_⟩
      refine ⟨_, rfl, _, rfl, _, rfl, _, rfl, a, b, q, us1, us2, s1, s2, st, lim, rfl, ha6, hb6, v16, v26, by omega, by omega, hq, w1, i1, i2, w2, fun HY tY => ?_⟩
      have e : runS lim (s1 ++ s2) st ≠ runS lim (s2 ++ s1) st := by
        rw [run_S i12, run_S i21]
        exact dif_sound hd
      rw [decide_eq_false e]
      exact k _ (t06.trans tY)
end
end SE
namespace SE
open PySem PySem.Spec PyProof.Rows L2 SeqAt
theorem Same.but3 {H H3 H4 : Hp} {p : Addr} (s : Same H H3) (hp : H p = none) (b : But p H3 H4) : Same H H4 := fun c o e => b c o (ne_of_none e hp) (s c o e)
theorem StepsH.same {H H' : Hp} {xs : List V} {ss : List Stp} (h : StepsH H xs ss) (s : Same H H') : StepsH H' xs ss := Paired.mapP h fun _ _ q => by
  obtain ⟨t, e, z⟩ := q
  exact ⟨t, e, s _ _ z⟩
theorem paired_flat {α β : Type} {F : α → β → Prop} {l₁ : List α} {l₂ : List β} (h : Paired F l₁ l₂) : ∀ n : Nat, Paired F (List.replicate n l₁).flatten (List.replicate n l₂).flatten
  | 0 => .nil
  | n + 1 => by
    rw [List.replicate_succ, List.replicate_succ, List.flatten_cons, List.flatten_cons]
    exact paired_app h (paired_flat h n)
theorem flat_len {α : Type} (l : List α) : ∀ n : Nat, (List.replicate n l).flatten.length = n * l.length
  | 0 => by simp
  | n + 1 => by rw [List.replicate_succ, List.flatten_cons, List.length_append, flat_len l n, Nat.succ_mul, Nat.add_comm]
theorem flat_swap {α : Type} (l : List α) : ∀ n : Nat, l ++ (List.replicate n l).flatten = (List.replicate n l).flatten ++ l
  | 0 => by simp
  | n + 1 => by
    rw [List.replicate_succ, List.flatten_cons, List.append_assoc, ← flat_swap l n]
theorem flat_mem {α : Type} {l : List α} {x : α} : ∀ {n : Nat}, x ∈ (List.replicate n l).flatten → x ∈ l
  | 0, h => by simp at h
  | n + 1, h => by
    rw [List.replicate_succ, List.flatten_cons] at h
    exact (List.mem_append.mp h).elim id flat_mem
/-- two drawn lists of steps -/
structure TD2 (p : Addr) (zs : List Str) (a b : Addr) (us1 us2 : List V) (s1 s2 : List Stp) (H : Hp) : Prop where
  ha : H a = some (.lst us1)
  hb : H b = some (.lst us2)
  na : a ≠ p
  nb : b ≠ p
  h1 : StepsH H us1 s1
  h2 : StepsH H us2 s2
  l1 : s1.length ≤ 6
  l2 : s2.length ≤ 18
  z1 : ∀ s ∈ s1, s.2 ∈ zs
  z2 : ∀ s ∈ s2, s.2 ∈ zs
section
variable {p a b : Addr} {zs : List Str} {us1 us2 : List V} {s1 s2 : List Stp} {H H' : Hp}
theorem TD2.but (h : TD2 p zs a b us1 us2 s1 s2 H) (hp : Pool H p) (bt : But p H H') : TD2 p zs a b us1 us2 s1 s2 H' :=
  ⟨bt _ _ h.na h.ha, bt _ _ h.nb h.hb, h.na, h.nb, h.h1.but hp bt, h.h2.but hp bt, h.l1, h.l2, h.z1, h.z2⟩
theorem TD2.same (h : TD2 p zs a b us1 us2 s1 s2 H) (s : Same H H') : TD2 p zs a b us1 us2 s1 s2 H' :=
  ⟨s _ _ h.ha, s _ _ h.hb, h.na, h.nb, h.h1.same s, h.h2.same s, h.l1, h.l2, h.z1, h.z2⟩
theorem TD2.updL {D : Addr} {ws : List V} {o : HO} (h : TD2 p zs a b us1 us2 s1 s2 H) (hD : H D = some (.lst ws)) (na : a ≠ D) (nb : b ≠ D) : TD2 p zs a b us1 us2 s1 s2 (upd H D o) :=
  ⟨by rw [upd_ne na]; exact h.ha, by rw [upd_ne nb]; exact h.hb, h.na, h.nb, h.h1.upd (fun ys w => by rw [hD] at w; cases w), h.h2.upd (fun ys w => by rw [hD] at w; cases w), h.l1, h.l2, h.z1, h.z2⟩
end
def WpH (H : Hp) (v : V) (w : List Str) : Prop := ∃ t, v = .ref t ∧ H t = some (.tup (w.map V.str))
theorem WpH.but {H H' : Hp} {p : Addr} {v : V} {w : List Str} (h : WpH H v w) (hp : Pool H p) (bt : But p H H') : WpH H' v w := by
  obtain ⟨t, e, q⟩ := h
  exact ⟨t, e, bt _ _ (hp.ne q) q⟩
theorem WpH.same {H H' : Hp} {v : V} {w : List Str} (h : WpH H v w) (s : Same H H') : WpH H' v w := by
  obtain ⟨t, e, q⟩ := h
  exact ⟨t, e, s _ _ q⟩
theorem WpH.updL {H : Hp} {D : Addr} {ws : List V} {o : HO} {v : V} {w : List Str} (h : WpH H v w) (hD : H D = some (.lst ws)) : WpH (upd H D o) v w := by
  obtain ⟨t, e, q⟩ := h
  exact ⟨t, e, by rw [upd_ne (ne_of q hD (by intro z; cases z))]; exact q⟩
theorem odd_at {K : PySem.W.Frag} {H : Hp} {t q : Addr} {r : Int} (ht : H t = some (.tup [.int 1])) (hq : H q = some (.lst [.int 2])) (r0 : 0 ≤ r) (r1 : r < 6) :
    ∃ y d, atI [V.int (-1), .int 1001, .bl true, .str "3", .ref t, .ref q] r = some y ∧ DpX K H y d ∧ limD d = false ∧ ShD d := by
  have c : r = 0 ∨ r = 1 ∨ r = 2 ∨ r = 3 ∨ r = 4 ∨ r = 5 := by omega
  rcases c with rfl | rfl | rfl | rfl | rfl | rfl
  · exact ⟨_, _, rfl, .int _, by decide +kernel, by decide +kernel, by decide +kernel, by decide +kernel⟩
  · exact ⟨_, _, rfl, .int _, by decide +kernel, by decide +kernel, by decide +kernel, by decide +kernel⟩
  · exact ⟨_, _, rfl, .bl _, by decide +kernel, by decide +kernel, by decide +kernel, by decide +kernel⟩
  · exact ⟨_, _, rfl, .str _, by decide +kernel, by decide +kernel, by decide +kernel, by decide +kernel⟩
  · exact ⟨_, .tuple [.int 1], rfl, .tup (.of ht) (.cons (.int _) .nil), by decide +kernel, by decide +kernel, by decide +kernel, by decide +kernel⟩
  · exact ⟨_, .list [.int 2], rfl, .lst (.of hq) (.cons (.int _) .nil), by decide +kernel, by decide +kernel, by decide +kernel, by decide +kernel⟩
section
variable {P : Program} {w : World} {K : PySem.W.Frag} {mg : Str → Option Value} {base : Heap} {C : Addr}
theorem KHas.ds {x : Str} {st : Stmt} {k : Nat} {sp : Sp} (h : KHas P w K mg base CX0 x st k sp) (hb : ∀ (D : Addr) (doc pm : Value) (an : Option Addr) (cv ct : Value) (us ks : List Value), us.length = 2 → ks.length = 1 →
      KwChain D (([Str.ofString "limit"]).zip ks) (bindArgs (PySem.W.fnOf x x (defArgs st) (defBody st) (defScope st) .none (.ref D) doc pm an cv ct) ⟨us, []⟩) (pDf.zip (us ++ ks))) :
    ∃ f fd ds, FnOk P w K mg base CX0 k f fd pDf sp ∧ Vals [V.non] ds ∧ Binds K fd pDf ds ∧ mg x = some (.ref f) ∧ PySem.W.keepIn K (.ref f) = true := by
  obtain ⟨f, fd, F, FD, hm⟩ := h
  obtain ⟨ds, hd, hb'⟩ := FD.binds0 (ps := pDf) 2 (by simp) rfl hb
  exact ⟨f, fd, ds, F, hd, hb', hm, FD.kp⟩
/-! ### law -/
def spLaw (K : PySem.W.Frag) : Sp := fun xs H Q _ => ∃ (a : Addr) (ns : List Int), xs = [.ref a] ∧ SqL K H a (ns.map V.int) ∧ ns.length ≤ 63 ∧ ∀ H', Q (.bl true) H'
abbrev nLaw : List Str := ["_law_script", "_law_k", "_law_pool_here", "_law_items_here", "_law_turn", "_law_one", "_law_two", "_law_piles", "_law_bound", "_law_odd", "_law_some"]
theorem scLaw : FnScope nLaw ["_law_script"] (defScope sLaw) := ⟨rfl, rfl, rfl, by decide +kernel, rfl, by decide +kernel, by decide +kernel⟩
theorem ok_law {f : Addr} {fd : FuncData} (F : Fun K "law" "law" sLaw f fd) (T : EC K mg C)
    (GPl : Has P w K mg base "_law_pool" 1 ["_law_script", "_law_k"] [] (spPool K)) (GIt : Has P w K mg base "_law_items" 2 ["_law_pool_here", "_law_many"] [] spItems2) (GT : Has P w K mg base "_law_take" 1 ["_law_pool_here", "_law_many"] [] spTake)
    (GW : Has P w K mg base "_law_word" 2 ["_law_pool_here", "_law_items_here", "_law_most"] [] spWord) (GS : Has P w K mg base "_law_steps" 2 ["_law_pool_here", "_law_items_here", "_law_most"] [] spSteps2)
    (GE : Has P w K mg base "effect_of" 8 ["steps"] [] (spEffOf K C)) (GC : KHas P w K mg base CX0 "commute" sCommute 9 (spCm K C)) (GP : Has P w K mg base "_law_pair_right" 10 pPr [] (spPr K)) (GR : GHas P w K mg base "_law_refused" 10 pRf (spRf K))
    (B : Blt mg) (mr : mg "range" = none) (mx : mg "max" = none) (mn : mg "min" = none) : GOk P w K mg base 11 f fd ["_law_script"] (spLaw K) := by
  obtain ⟨fC, fdC, dsC, FC, hdC, hbC, mC, kpC⟩ := GC.ds (fun D doc pm an cv ct us ks h1 h2 => match us, ks, h1, h2 with | [_, _], [_], _, _ => ⟨_, _, _, _, _, _, rfl, rfl, rfl⟩)
  refine gok_mk F scLaw (fun xs H Q E h => ?_) (fun cv A out s H xs Q E hgu hr h => ?_)
  · obtain ⟨a, ns, rfl, _⟩ := h
    rfl
  · obtain ⟨a, ns, rfl, hS, hlen, k⟩ := h
    have hr1 : Room 1 _ := hr.mono (by decide)
    have hr2 : Room 2 _ := hr.mono (by decide)
    have hr8 : Room 8 _ := hr.mono (by decide)
    have hr9 : Room 9 _ := hr.mono (by decide)
    refine ⟨_, (pss_cons (ps_for PassesOwn.never rfl (pi_range1 (by rfl) mr (pa_cons (pe_callB (call_max2 rfl) (by rfl) mx (by decide +kernel) (pa_cons pe_int (pa_cons (pe_callB (call_min2 rfl) (by rfl) mn (by decide +kernel) (pa_cons (pe_callB call_len_seq (by rfl) B.len PySem.boot_len (pa_cons (pv 0) pa_nil)) (pa_cons pe_int pa_nil))) pa_nil))) pa_nil)) (pg_name (i := 1) scLaw.nd rfl (.inl rfl)) (pss_cons (ps_set (i := 2) scLaw.nd rfl (.inr rfl) (pe_has GPl hr1 (pa_cons (pv 0) (pa_cons (pv 1) pa_nil))))
      (pss_cons (ps_set (i := 3) scLaw.nd rfl (.inr rfl) (pe_has GIt hr2 (pa_cons (pv 2) (pa_cons pe_int pa_nil))))
      (pss_cons (ps_for PassesOwn.never rfl (pi_range1 (by rfl) mr (pa_cons pe_int pa_nil)) (pg_name (i := 4) scLaw.nd rfl (.inl rfl)) (pss_cons (ps_par (i := 5) (j := 6) rfl scLaw.nd rfl rfl (by decide) rfl rfl (pa_cons (pe_has GS hr2 (pa_cons (pv 2) (pa_cons (pe_slice sl_list (pv 3) po_none (po_some pe_int)) (pa_cons pe_int pa_nil)))) (pa_cons (pe_has GS hr2 (pa_cons (pv 2) (pa_cons (pe_slice sl_list (pv 3) po_none (po_some pe_int)) (pa_cons pe_int pa_nil)))) pa_nil)) (by rfl))
      (Evl.pss_cut (ps_if (pt_cmpR op_eq (pe_op op_mod (pv 4) pe_int) pe_int (nomark _)) (pss_one (ps_set (i := 6) scLaw.nd rfl (.inl rfl) (pe_op op_rep (pv 5) (pe_op op_add pe_int (pe_has GT hr1 (pa_cons (pv 2) (pa_cons pe_int pa_nil))))))) pss_nil)
      (Evl.pss_cut (ps_if (pt_cmpR op_eq (pe_op op_mod (pv 4) pe_int) pe_int (nomark _)) (pss_one (ps_set (i := 6) scLaw.nd rfl (.inl rfl) (pe_lst (pa_cons (pe_tup (pa_cons pe_str (pa_cons (pe_ix ix_list (pv 3) pe_int (fun _ _ => rfl)) pa_nil))) (pa_cons (pe_tup (pa_cons pe_str (pa_cons (pe_ix ix_list (pv 3) pe_int (fun _ _ => rfl)) pa_nil))) pa_nil))))) pss_nil)
      (pss_cons (ps_set (i := 7) scLaw.nd rfl (.inl rfl) (pe_op op_cat (pe_lc (own := [("_law_some", 10)]) (g := gName 10) (tt := tYes) (te := tCall spWord [] E0 (tCons (tVar 2) (tCons (tVar 3) (tCons (tC (.int 8)) tNil)))) rfl scLaw.nd (pi_range1 (by rfl) mr (pa_cons pe_int pa_nil)) (blkOk_by (own := [("_law_some", 10)]) (N := nLaw) (sc := defScope sLaw) (by decide +kernel))
          (fun _ _ _ _ _ => pg_name (i := 10) scLaw.nd rfl (.inl rfl)) (fun _ _ _ _ _ => pts_nil) (fun _ _ _ _ _ => (pe_has GW hr2 (pa_cons (pv 2) (pa_cons (pv 3) (pa_cons pe_int pa_nil)))))) (pe_lst (pa_cons (pe_tup pa_nil) pa_nil))))
      (pss_cons (ps_for PassesOwn.never rfl (pi_list (pe_lst (pa_cons pe_non (pa_cons (pe_has GT hr1 (pa_cons (pv 2) (pa_cons pe_int pa_nil))) pa_nil)))) (pg_name (i := 8) scLaw.nd rfl (.inl rfl)) (pss_one (ps_if (pt_not (pt_val (pe_has GP hr (pa_cons (pv 5) (pa_cons (pv 6) (pa_cons (pv 8) (pa_cons (pv 7) pa_nil))))))) (pss_one (ps_ret pe_bl)) pss_nil)))
      (pss_one (ps_if (PW.pt (pw_and (pt_cmpR op_eq (pe_op op_mod (pv 4) pe_int) pe_int (nomark _)) (pw_and1 (pt_cmpR op_notN (pe_call FC hr9 (by rfl) mC kpC hbC hdC pass0 (pa_cons (pe_has GE hr8 (pa_cons (pv 5) pa_nil)) (pa_cons (pe_has GE hr8 (pa_cons (pv 6) pa_nil)) pa_nil))) pe_non (nomark _))))) (pss_one (ps_ret pe_bl)) pss_nil))))))))
      (pss_cons (ps_set (i := 9) scLaw.nd rfl (.inl rfl) (pe_ix ix_list (pe_lst (pa_cons (pe_un un_neg pe_int) (pa_cons pe_int (pa_cons pe_bl (pa_cons pe_str (pa_cons (pe_tup (pa_cons pe_int pa_nil)) (pa_cons (pe_lst (pa_cons pe_int pa_nil)) pa_nil))))))) (pe_has GT hr1 (pa_cons (pv 2) (pa_cons pe_int pa_nil))) (fun _ _ => rfl)))
      (pss_one (ps_if (PW.pt (pw_or (pt_not (pt_val (pe_ghas GR hgu hr (pa_cons pe_int (pa_cons (pv 9) pa_nil))))) (pw_or1 (pt_not (pt_val (pe_ghas GR hgu hr (pa_cons pe_int (pa_cons (pv 9) pa_nil)))))))) (pss_one (ps_ret pe_bl)) pss_nil)))))))
      (pss_one (ps_ret pe_bl))), ?_⟩
    refine ⟨_, rfl, a, _, rfl, .inl hS, _, 5, rfl, 1, _, rfl, ?_⟩
    have hN : ∀ n : Nat, (1 : Int) ≤ (if (if (5 : Int) < (n : Int) then 5 else (n : Int)) > 1 then (if (5 : Int) < (n : Int) then 5 else (n : Int)) else 1) ∧ (if (if (5 : Int) < (n : Int) then 5 else (n : Int)) > 1 then (if (5 : Int) < (n : Int) then 5 else (n : Int)) else 1) ≤ 5 := by
      intro n
      split <;> split <;> omega
    have hN1 := hN (ns.map V.int).length
    generalize hM : (if (if (5 : Int) < ((ns.map V.int).length : Int) then 5 else ((ns.map V.int).length : Int)) > 1 then (if (5 : Int) < ((ns.map V.int).length : Int) then 5 else ((ns.map V.int).length : Int)) else 1) = N at hN1
    refine ⟨N, by rw [← hM], by omega, by omega, for_range (lo := 0) (n := N.toNat) (fun i σ H2 => ∃ (y1 y2 y3 y4 y5 y6 y7 y8 y9 yA : Option V), σ = [some (.ref a), y1, y2, y3, y4, y5, y6, y7, y8, y9, yA] ∧ Same H H2) ⟨_, _, _, _, _, _, _, _, _, _, rfl, Same.refl H⟩ ?_ ?_⟩
    rotate_left
    · rintro σ H2 ⟨y1, y2, y3, y4, y5, y6, y7, y8, y9, yA, rfl, s2⟩
      exact k _
    rintro i σ H2 hi ⟨y1, y2, y3, y4, y5, y6, y7, y8, y9, yA, rfl, s2⟩
    refine ⟨_, rfl, _, rfl, a, ns, 0 + i, rfl, Same.seq s2 hS, by omega, by omega, fun p H3 s3 hp p3 => ?_⟩
    have hpn : H p = none := s2.free hp
    refine ⟨_, rfl, p, 3, rfl, p3, by decide, by decide, fun l zs H5 b5 p5 hl lp' hl5 lz iz => ?_⟩
    have s5 : Same H H5 := Same.but3 (s2.trans s3) hpn b5
    have zl : zs.length = 3 := lz
    obtain ⟨z0, z1, z2, rfl⟩ : ∃ z0 z1 z2, zs = [z0, z1, z2] := by
      match zs, zl with
      | [x, y, z], _ => exact ⟨x, y, z, rfl⟩
    refine ⟨8, rfl, by decide, by decide, for_range (lo := 0) (n := 8) (fun j σ H6 => ∃ (y4 y5 y6 y7 y8 y9 yA : Option V), σ = [some (.ref a), some (.int (0 + i)), some (.ref p), some (.ref l), y4, y5, y6, y7, y8, y9, yA] ∧ Same H H6 ∧ Pool H6 p ∧ H6 l = some (.lst ([z0, z1, z2].map V.str))) ⟨_, _, _, _, _, _, _, rfl, s5, p5, hl5⟩ ?_ ?_⟩
    · rintro j σ H6 hj ⟨y4, y5, y6, y7, y8, y9, yA, rfl, s6, p6, hl6⟩
      -- the first sequence
      have iz' : ∀ z ∈ [z0, z1], Item z := fun z m => iz z (by
        rcases List.mem_cons.mp m with q | q
        · rw [q]; simp
        · rw [List.mem_singleton.mp q]; simp)
      have sub2 : ∀ {z : Str}, z ∈ [z0, z1] → z ∈ [z0, z1, z2] := fun m => by
        rcases List.mem_cons.mp m with q | q
        · rw [q]; simp
        · rw [List.mem_singleton.mp q]; simp
      refine ⟨_, rfl, _, rfl, _, rfl, l, _, rfl, .of hl6, fun q1 hq1 => ?_⟩
      have q1p : q1 ≠ p := p6.free hq1
      have tA := Same.new (o := .lst (cutV ([z0, z1, z2].map V.str) none (some 2))) hq1
      have p7 := p6.upd (o := .lst (cutV ([z0, z1, z2].map V.str) none (some 2))) q1p
      refine ⟨p, q1, 6, [z0, z1], rfl, p7, q1p, upd_same, by simp, by simp, iz', by decide, by decide, fun a1 us1 s1 H8 b8 p8 _ a1p ha1 hs1 ls1 zs1 => ?_⟩
      have s8 := Same.but3 (s6.trans tA) hpn b8
      have hl8 := b8 _ _ lp' (tA _ _ hl6)
      refine ⟨_, rfl, _, rfl, _, rfl, l, _, rfl, .of hl8, fun q2 hq2 => ?_⟩
      have q2p : q2 ≠ p := p8.free hq2
      have tB := Same.new (o := .lst (cutV ([z0, z1, z2].map V.str) none (some 2))) hq2
      have p9 := p8.upd (o := .lst (cutV ([z0, z1, z2].map V.str) none (some 2))) q2p
      refine ⟨p, q2, 6, [z0, z1], rfl, p9, q2p, upd_same, by simp, by simp, iz', by decide, by decide, fun a2 us2 s2' HA bA pA _ a2p ha2 hs2 ls2 zs2 => ⟨_, _, rfl, ?_⟩⟩
      have sA := Same.but3 (s8.trans tB) hpn bA
      have hlA := bA _ _ lp' (tB _ _ hl8)
      have TA : TD2 p [z0, z1, z2] a1 a2 us1 us2 s1 s2' HA := ⟨bA _ _ a1p (tB _ _ ha1), ha2, a1p, a2p, (hs1.same tB).but p9 bA, hs2, by omega, by omega, fun s m => sub2 (zs1 s m), fun s m => sub2 (zs2 s m)⟩
      -- powers
      refine ⟨fun σ HX => ∃ b us s2 y7 y8 y9 yA, σ = [some (.ref a), some (.int (0 + i)), some (.ref p), some (.ref l), some (.int (0 + (j : Nat))), some (.ref a1), some (.ref b), y7, y8, y9, yA] ∧ Same H HX ∧ Pool HX p ∧ HX l = some (.lst ([z0, z1, z2].map V.str)) ∧ TD2 p [z0, z1, z2] a1 b us1 us s1 s2 HX ∧ (((0 : Int) + (j : Nat)) % 4 = 1 → ∃ m, s2 = (List.replicate m s1).flatten), ?_, ?_⟩
      · refine ⟨_, rfl, _, 4, rfl, rfl, (by show (0 : Int) < 4; decide), rfl, decide (V.int (((0 : Int) + (j : Nat)) % 4) = V.int 1), rfl, ?_⟩
        by_cases c : ((0 : Int) + (j : Nat)) % 4 = 1
        · rw [decide_eq_true (congrArg V.int c)]
          refine iteT ⟨_, rfl, _, rfl, p, 3, rfl, pA, by decide, by decide, fun r HB bB pB r0 r1 => ⟨1, r, rfl, rfl, ?_⟩⟩
          have TB := TA.but pA bB
          have lu := TB.h1.v (K := K) |>.length
          have l6 := TB.l1
          refine ⟨a1, 1 + r, us1, rfl, rfl, TB.ha, by omega, by omega, ?_, fun q hq => ?_⟩
          · have h1 : us1.length ≤ 6 := by omega
            have h2 : (1 + r).toNat ≤ 3 := by omega
            exact Nat.le_trans (Nat.mul_le_mul h1 h2) (by decide)
          have tq := Same.new (o := .lst (List.replicate (1 + r).toNat us1).flatten) hq
          have qp : q ≠ p := pB.free hq
          have TC := TB.same tq
          refine ⟨q, _, (List.replicate (1 + r).toNat s1).flatten, _, _, _, _, rfl, (Same.but3 sA hpn bB).trans tq, pB.upd qp, tq _ _ (bB _ _ lp' hlA), ⟨TC.ha, upd_same, a1p, qp, TC.h1, paired_flat TC.h1 _, TC.l1, ?_, TC.z1, fun s m => TC.z1 s (flat_mem m)⟩, fun _ => ⟨_, rfl⟩⟩
          rw [flat_len]
          have h2 : (1 + r).toNat ≤ 3 := by omega
          exact Nat.le_trans (Nat.mul_le_mul h2 l6) (by decide)
        · rw [decide_eq_false (fun z => c (V.int.inj z))]
          exact iteF ⟨_, _, _, _, _, _, _, rfl, sA, pA, hlA, TA, fun z => absurd z c⟩
      rintro σ HB ⟨b, us2, s2, y7, y8, y9, yA, rfl, sB, pB, hlB, TB, cB⟩
      -- a pop and a push
      refine ⟨fun σ HX => ∃ b us s2 y7 y8 y9 yA, σ = [some (.ref a), some (.int (0 + i)), some (.ref p), some (.ref l), some (.int (0 + (j : Nat))), some (.ref a1), some (.ref b), y7, y8, y9, yA] ∧ Same H HX ∧ Pool HX p ∧ HX l = some (.lst ([z0, z1, z2].map V.str)) ∧ TD2 p [z0, z1, z2] a1 b us1 us s1 s2 HX ∧ (((0 : Int) + (j : Nat)) % 4 = 1 → ∃ m, s2 = (List.replicate m s1).flatten), ?_, ?_⟩
      · refine ⟨_, rfl, _, 4, rfl, rfl, (by show (0 : Int) < 4; decide), rfl, decide (V.int (((0 : Int) + (j : Nat)) % 4) = V.int 2), rfl, ?_⟩
        by_cases c : ((0 : Int) + (j : Nat)) % 4 = 2
        · rw [decide_eq_true (congrArg V.int c)]
          refine iteT ⟨_, rfl, l, _, 2, .str z2, rfl, rfl, .of hlB, rfl, by show 2 ≤ sizeLine; decide, fun t1 ht1 => ?_⟩
          have k1 := Same.new (o := .tup [V.str "pop", .str z2]) ht1
          refine ⟨_, rfl, l, _, 2, .str z2, rfl, rfl, .of (k1 _ _ hlB), rfl, by show 2 ≤ sizeLine; decide, fun t2 ht2 => ⟨by show 2 ≤ sizeLine; decide, fun q hq => ?_⟩⟩
          have k2 := Same.new (o := .tup [V.str "push", .str z2]) ht2
          have k3 := Same.new (o := .lst [V.ref t1, .ref t2]) hq
          have k13 := (k1.trans k2).trans k3
          have g1 := k3 _ _ (k2 _ _ (upd_same (H := HB) (a := t1) (o := .tup [V.str "pop", .str z2])))
          have g2 := k3 _ _ (upd_same (H := upd HB t1 (.tup [V.str "pop", .str z2])) (a := t2) (o := .tup [V.str "push", .str z2]))
          have qp : q ≠ p := (Pool.same pB (k1.trans k2)).free hq
          have TC := TB.same k13
          refine ⟨q, [.ref t1, .ref t2], [(false, z2), (true, z2)], _, _, _, _, rfl, sB.trans k13, Pool.same pB k13, k13 _ _ hlB, ⟨TC.ha, upd_same, a1p, qp, TC.h1, .cons ⟨t1, rfl, g1⟩ (.cons ⟨t2, rfl, g2⟩ .nil), TC.l1, by simp, TC.z1, fun s m => ?_⟩, fun z => by omega⟩
          simp only [List.mem_cons, List.not_mem_nil, or_false] at m
          rcases m with q | q
          · rw [q]; simp
          · rw [q]; simp
        · rw [decide_eq_false (fun z => c (V.int.inj z))]
          exact iteF ⟨_, _, _, _, _, _, _, rfl, sB, pB, hlB, TB, cB⟩
      clear cB TB hlB pB sB
      rintro σ HB ⟨b, us2, s2, y7, y8, y9, yA, rfl, sB, pB, hlB, TB, cB⟩
      -- the piles
      refine ⟨12, rfl, by decide, by decide, fun D hD => ?_⟩
      have Dp : D ≠ p := pB.free hD
      have lD : l ≠ D := ne_of_none hlB hD
      have aD : a1 ≠ D := ne_of_none TB.ha hD
      have bD : b ≠ D := ne_of_none TB.hb hD
      have hDn : H D = none := sB.free hD
      refine lc_range (lo := 0) (n := 12) (fun m HX => ∃ (vs : List V) (ws : List (List Str)), HX D = some (.lst vs) ∧ Paired (WpH HX) vs ws ∧ vs.length = m ∧ Pool HX p ∧ HX l = some (.lst ([z0, z1, z2].map V.str)) ∧ Same H HX ∧ TD2 p [z0, z1, z2] a1 b us1 us2 s1 s2 HX ∧ ∀ w ∈ ws, w.length ≤ 8 ∧ ∀ z ∈ w, Item z) ?_ ?_ ?_
      · have t0 := Same.new (o := .lst []) hD
        exact ⟨[], [], upd_same, .nil, rfl, pB.upd Dp, t0 _ _ hlB, sB.trans t0, TB.same t0, fun w m => by cases m⟩
      · rintro m HX hm ⟨vs, ws, hv, hP, lv, pX, hlX, sX, TX, hz⟩
        refine ⟨rfl, yes_in ⟨_, rfl, _, rfl, p, l, 8, [z0, z1, z2], rfl, pX, lp', hlX, by simp, by simp, by decide, by decide, fun t w HY bY pY tn ht lw iw => ?_⟩⟩
        have hvY := bY _ _ Dp hv
        refine ⟨vs, hvY, by rw [lv, sizeLine_eq]; omega, vs ++ [.ref t], ws ++ [w], upd_same, ?_, by rw [List.length_append, lv]; rfl, pY.upd Dp, by rw [upd_ne lD]; exact bY _ _ lp' hlX, Same.free2 (Same.but3 sX hpn bY) hDn, (TX.but pX bY).updL hvY aD bD, fun w' mw => ?_⟩
        · exact Paired.snoc2 (Paired.mapP hP fun v q r => (r.but pX bY).updL hvY) (WpH.updL ⟨t, rfl, ht⟩ hvY)
        · rcases List.mem_append.mp mw with q | q
          · exact hz w' q
          · rw [List.mem_singleton.mp q]
            exact ⟨by omega, fun z m => iz z (iw z m)⟩
      rintro HX ⟨vs, ws, hv, hP, lv, pX, hlX, sX, TX, hz⟩
      refine ⟨by show 0 ≤ sizeLine; decide, fun q3 hq3 => ⟨by show 1 ≤ sizeLine; decide, fun q4 hq4 => ?_⟩⟩
      have u1 := Same.new (o := .tup []) hq3
      have u2 := Same.new (o := .lst [V.ref q3]) hq4
      refine ⟨D, q4, vs, [.ref q3], rfl, rfl, u2 _ _ (u1 _ _ hv), upd_same, by rw [lv, sizeLine_eq]; show 12 + 1 ≤ _; omega, fun c hc => ?_⟩
      have u3 := Same.new (o := .lst (vs ++ [V.ref q3])) hc
      have u13 := (u1.trans u2).trans u3
      have cp : c ≠ p := (Pool.same pX (u1.trans u2)).free hc
      have g3 := u3 _ _ (u2 _ _ (upd_same (H := HX) (a := q3) (o := .tup [])))
      have gc : (upd (upd (upd HX q3 (.tup [])) q4 (.lst [.ref q3])) c (.lst (vs ++ [.ref q3]))) c = some (.lst (vs ++ [V.ref q3])) := upd_same
      have PW' : Paired (WpH (upd (upd (upd HX q3 (.tup [])) q4 (.lst [.ref q3])) c (.lst (vs ++ [.ref q3])))) (vs ++ [V.ref q3]) (ws ++ [[]]) := Paired.snoc2 (Paired.mapP hP fun v q r => r.same u13) ⟨q3, rfl, g3⟩
      have hz' : ∀ w ∈ ws ++ [[]], w.length ≤ 100 ∧ ∀ z ∈ w, Item z := fun w m => by
        rcases List.mem_append.mp m with q | q
        · obtain ⟨h1, h2⟩ := hz w q
          exact ⟨by omega, h2⟩
        · rw [List.mem_singleton.mp q]
          exact ⟨by decide, fun z m => by cases m⟩
      have pY := Pool.same pX u13
      have TY := TX.same u13
      have sY := sX.trans u13
      have hlY := u13 _ _ hlX
      generalize upd (upd (upd HX q3 (.tup [])) q4 (.lst [.ref q3])) c (.lst (vs ++ [.ref q3])) = HY at gc PW' pY TY sY hlY
      -- the bounds
      refine ⟨_, rfl, p, 13, rfl, pY, by decide, by decide, fun r HZ bZ pZ r0 r1 => ⟨by show 2 ≤ sizeLine; decide, fun L hL => ?_⟩⟩
      have w1 := Same.new (o := .lst [V.non, .int r]) hL
      have gL : (upd HZ L (.lst [V.non, .int r])) L = some (.lst [V.non, .int r]) := upd_same
      have TZ := (TY.but pY bZ).same w1
      have sZ := (Same.but3 sY hpn bZ).trans w1
      have pZ' := Pool.same pZ w1
      have hlZ := w1 _ _ (bZ _ _ lp' hlY)
      have gcZ := w1 _ _ (bZ _ _ cp gc)
      have PZ := Paired.mapP PW' fun v q r => (r.but pY bZ).same w1
      generalize upd HZ L (.lst [V.non, .int r]) = HW at gL TZ sZ pZ' hlZ gcZ PZ
      have i1 : ∀ s ∈ s1, Item s.2 := fun s m => iz _ (TZ.z1 s m)
      have i2 : ∀ s ∈ s2, Item s.2 := fun s m => iz _ (TZ.z2 s m)
      have n1 := TZ.l1
      have n2 := TZ.l2
      refine ⟨L, rfl, ⟨_, .of gL⟩, for_list (K := K) (a := L) (xs := [.non, .int r]) (fun _ σ HV => ∃ y8 y9 yA : Option V, σ = [some (.ref a), some (.int (0 + i)), some (.ref p), some (.ref l), some (.int (0 + (j : Nat))), some (.ref a1), some (.ref b), some (.ref c), y8, y9, yA] ∧ Same HW HV) ⟨_, _, _, rfl, Same.refl _⟩ (fun _ σ HV _ q => ?_) ?_ ?_⟩
      · obtain ⟨_, _, _, _, sV⟩ := q
        exact .of (sV _ _ gL)
      · rintro m x σ HV hx ⟨y8', y9', yA', rfl, sV⟩
        have lim : ∃ lim, x = limV lim ∧ LimOk lim := by
          match m, hx with
          | 0, hx =>
            cases hx
            exact ⟨none, rfl, fun L e => by cases e⟩
          | 1, hx =>
            cases hx
            exact ⟨some r, rfl, fun L e => by cases e; omega⟩
        obtain ⟨lim, rfl, lo⟩ := lim
        have TV := TZ.same sV
        refine ⟨_, rfl, _, rfl, _, rfl, _, rfl, a1, b, c, us1, us2, _, s1, s2, _, lim, rfl, TV.ha, TV.hb, TV.h1.v, TV.h2.v, by omega, by omega, sV _ _ gcZ, Paired.mapP PZ fun v w q => ?_, hz', i1, i2, lo, fun H' s' => ⟨true, rfl, iteF ⟨_, _, _, rfl, sV.trans s'⟩⟩⟩
        obtain ⟨t, e, z⟩ := q.same sV
        exact ⟨t, e, .of z⟩
      rintro σ HV ⟨y8', y9', yA', rfl, sV⟩
      have TV := TZ.same sV
      have sV0 := sZ.trans sV
      have pV := Pool.same pZ' sV
      have hlV := sV _ _ hlZ
      -- powers of one sequence commute
      refine ⟨_, rfl, _, 4, rfl, rfl, (by show (0 : Int) < 4; decide), rfl, decide (V.int (((0 : Int) + (j : Nat)) % 4) = V.int 1), rfl, ?_⟩
      by_cases c1 : ((0 : Int) + (j : Nat)) % 4 = 1
      · rw [decide_eq_true (congrArg V.int c1)]
        obtain ⟨m, em⟩ := cB c1
        have v1 := TV.h1.v (K := K)
        have v2 := TV.h2.v (K := K)
        have m1 := v1.length
        have m2 := v2.length
        have i12 : ∀ s ∈ s1 ++ s2, Item s.2 := fun s m => (List.mem_append.mp m).elim (i1 s) (i2 s)
        have i21 : ∀ s ∈ s2 ++ s1, Item s.2 := fun s m => (List.mem_append.mp m).elim (i2 s) (i1 s)
        have e12 := then_pair i1 i2
        have e21 := then_pair i2 i1
        have esw : s1 ++ s2 = s2 ++ s1 := by
          rw [em]
          exact flat_swap s1 m
        refine iteT ⟨_, rfl, a1, us1, s1, rfl, .of TV.ha, by omega, v1, i1, fun x1 H1 t1 h1 => ⟨_, rfl, b, us2, s2, rfl, .of (t1 _ _ TV.hb), by omega, StepsV.same v2 t1, i2, fun x2 H2 t2 h2 => ?_⟩⟩
        refine ⟨x1, x2, _, _, none, rfl, h1.same t2, h2, sm_eff i1 (by omega), sm_eff i2 (by omega), by rw [e12]; exact effM_EffOk i12 (by rw [List.length_append]; omega), by rw [e21]; exact effM_EffOk i21 (by rw [List.length_append]; omega), fun L e => (by cases e), fun v H3 t3 hv => ?_⟩
        rw [e12, e21, esw, dif_refl] at hv
        have ev : v = .non := hv
        subst ev
        exact ⟨rfl, false, rfl, iteF ⟨_, _, _, _, _, _, _, rfl, sV0.trans ((t1.trans t2).trans t3), Pool.same pV ((t1.trans t2).trans t3), ((t1.trans t2).trans t3) _ _ hlV⟩⟩
      · rw [decide_eq_false (fun z => c1 (V.int.inj z))]
        exact iteF ⟨_, _, _, _, _, _, _, rfl, sV0, pV, hlV⟩
    rintro σ H6 ⟨y4, y5, y6, y7, y8, y9, yA, rfl, s6, p6, hl6⟩
    refine ⟨1, rfl, by show 1 ≤ sizeLine; decide, fun t ht => ⟨by show 1 ≤ sizeLine; decide, fun q hq => ⟨by show 6 ≤ sizeLine; decide, fun L hL => ?_⟩⟩⟩
    have t1 := Same.new (o := .tup [.int 1]) ht
    have t2 := Same.new (o := .lst [V.int 2]) hq
    have t3 := Same.new (o := .lst [V.int (-1), .int 1001, .bl true, .str "3", .ref t, .ref q]) hL
    have gt := t3 _ _ (t2 _ _ (upd_same (H := H6) (a := t) (o := .tup [.int 1])))
    have gq := t3 _ _ (upd_same (H := upd H6 t (.tup [.int 1])) (a := q) (o := .lst [V.int 2]))
    have gL : (upd (upd (upd H6 t (.tup [.int 1])) q (.lst [V.int 2])) L (.lst [V.int (-1), .int 1001, .bl true, .str "3", .ref t, .ref q])) L = some (.lst [V.int (-1), .int 1001, .bl true, .str "3", .ref t, .ref q]) := upd_same
    have t13 := (t1.trans t2).trans t3
    have tp : t ≠ p := p6.free ht
    have qp : q ≠ p := (Pool.same p6 t1).free hq
    have Lp : L ≠ p := (Pool.same p6 (t1.trans t2)).free hL
    have p7 := Pool.same p6 t13
    generalize (upd (upd (upd H6 t (.tup [.int 1])) q (.lst [V.int 2])) L (.lst [V.int (-1), .int 1001, .bl true, .str "3", .ref t, .ref q])) = H7 at t13 gt gq gL p7
    refine ⟨_, rfl, p, 6, rfl, p7, by decide, by decide, fun r H8 b8 p8 r0 r1 => ?_⟩
    obtain ⟨y, d, hat, hy, hld, sh⟩ := odd_at (K := K) (b8 _ _ tp gt) (b8 _ _ qp gq) r0 r1
    refine ⟨L, _, r, y, rfl, rfl, .of (b8 _ _ Lp gL), hat, ?_⟩
    have s8 := Same.but3 (s6.trans t13) hpn b8
    refine ⟨_, rfl, 0, y, d, rfl, .inl rfl, hy, hld, sh, fun H9 s9 => ⟨true, rfl, iteF ?_⟩⟩
    refine ⟨_, rfl, 1, y, d, rfl, .inr rfl, DpX.same s9 _ _ hy, hld, sh, fun HA sA => ⟨true, rfl, iteF ?_⟩⟩
    exact ⟨_, _, _, _, _, _, _, _, _, _, rfl, (s8.trans s9).trans sA⟩
end
end SE
namespace SE
open PySem PySem.Spec PyProof.Rows L2
section
/-! ### what the top has left -/
theorem scI_InvalidNumber : FnScope ["self", "value"] ["self", "value"] (defScope (inClass sInvalidnumber 0)) := ⟨rfl, rfl, rfl, by decide +kernel, rfl, by decide +kernel, by decide +kernel⟩
theorem kit_below {K : PySem.W.Frag} {C S : Addr} (h1 : PySem.W.subIn K (.ref C) (.ref S) = some true) (h2 : PySem.W.typeIn K (.ref S) = some (.type "type")) (h3 : PySem.W.hasDictIn K S = true) : PySem.W.kitOne K (.ref C) (.ref S) = some true := by
  obtain ⟨cd, hc, _⟩ := PySem.W.any_some h3
  unfold PySem.W.kitOne
  split
  · rfl
  · show (if ((PySem.W.clsIn K S).isSome && PySem.W.typeIn K (.ref S) == some (.type "type")) = true then PySem.W.subIn K (.ref C) (.ref S) else none) = some true
    rw [if_pos (by rw [hc, h2]; rfl)]
    exact h1
theorem def_mk {K : PySem.W.Frag} {h : Heap} {mg : Str → Option Value} {x : Str} {st : Stmt} {f : Addr} {oc : Value} {od an : Option Addr} {osl : Array (Option Value)} {kV doc pm cdv ct : Value} (X : K.In h) (G : h.Ns mainGlobals mg)
    (a : PySem.W.nsIn K mainGlobals x = some (some (.ref f))) (l : K.lookup f = some ⟨oc, od, .func (PySem.W.fnOf x x (defArgs st) (defBody st) (defScope st) .none kV doc pm an cdv ct), osl⟩)
    (c : PySem.W.codeIn K cdv x = true) (k : PySem.W.keepIn K (.ref f) = true) : Def K mg x st := ⟨f, _, fun_mk l c k, PySem.W.mg_of X G a⟩
theorem defk_mk {K : PySem.W.Frag} {h : Heap} {mg : Str → Option Value} {x y : Str} {st : Stmt} {f d : Addr} {oc : Value} {od an : Option Addr} {osl : Array (Option Value)} {doc pm cdv ct : Value} (X : K.In h) (G : h.Ns mainGlobals mg)
    (a : PySem.W.nsIn K mainGlobals x = some (some (.ref f))) (l : K.lookup f = some ⟨oc, od, .func (PySem.W.fnOf x x (defArgs st) (defBody st) (defScope st) .none (.ref d) doc pm an cdv ct), osl⟩)
    (c : PySem.W.codeIn K cdv x = true) (k : PySem.W.keepIn K (.ref f) = true) (n : PySem.W.nsIn K d y = some (some .none)) : DefK K mg x st [(y, .non)] := by
  refine ⟨f, _, fun_mk l c k, ⟨⟨oc, od, .none, .ref d, doc, pm, an, cdv, ct, osl, rfl, l, c, .inl ⟨rfl, rfl⟩, .inr ⟨d, rfl, fun q hq => ?_⟩⟩, k⟩, PySem.W.mg_of X G a⟩
  rw [List.mem_singleton.mp hq]
  exact ⟨.none, n, rfl⟩
theorem init_mk {K : PySem.W.Frag} {x q y : Str} {st : Stmt} {f d : Addr} {oc : Value} {od an : Option Addr} {osl : Array (Option Value)} {doc pm cdv ct : Value}
    (l : K.lookup f = some ⟨oc, od, .func (PySem.W.fnOf x q (defArgs st) (defBody st) (defScope st) .none (.ref d) doc pm an cdv ct), osl⟩) (c : PySem.W.codeIn K cdv q = true) (k : PySem.W.keepIn K (.ref f) = true) (n : PySem.W.nsIn K d y = some (some .none)) :
    FunD K x q (defArgs st) (defBody st) (defScope st) [] [(y, .non)] f (PySem.W.fnOf x q (defArgs st) (defBody st) (defScope st) .none (.ref d) doc pm an cdv ct) := by
  refine ⟨⟨oc, od, .none, .ref d, doc, pm, an, cdv, ct, osl, rfl, l, c, .inl ⟨rfl, rfl⟩, .inr ⟨d, rfl, fun z hz => ?_⟩⟩, k⟩
  rw [List.mem_singleton.mp hz]
  exact ⟨.none, n, rfl⟩
theorem all_mk {l : PySem.W.OpenLaw} {w : World} {K : PySem.W.Frag} {h : Heap} {mg : Str → Option Value} {fa gI dI C D fL gP0 qP0 gP1 qP1 gP2 qP2 gP3 qP3 gM0 qM0 gM1 qM1 gT gA dA S CX0 gX0 NX0 : Addr} {tk1 tk2 tk3 tk4 tk5 : Tok} (X : K.In h) (G : h.Ns mainGlobals mg) (hfa : mg "law" = some (.ref fa))
    {odI anI : Option Addr} {slI : Array (Option Value)} {ocI dcI pmI cdI ctI : Value}
    {odP0 anP0 : Option Addr} {slP0 : Array (Option Value)} {ocP0 kVP0 dcP0 pmP0 cdP0 ctP0 : Value}
    {rP0 : List Value}
    {odP1 anP1 : Option Addr} {slP1 : Array (Option Value)} {ocP1 kVP1 dcP1 pmP1 cdP1 ctP1 : Value}
    {rP1 : List Value}
    {odP2 anP2 : Option Addr} {slP2 : Array (Option Value)} {ocP2 kVP2 dcP2 pmP2 cdP2 ctP2 : Value}
    {rP2 : List Value}
    {odP3 anP3 : Option Addr} {slP3 : Array (Option Value)} {ocP3 kVP3 dcP3 pmP3 cdP3 ctP3 : Value}
    {rP3 : List Value}
    {odM0 anM0 : Option Addr} {slM0 : Array (Option Value)} {ocM0 kVM0 dcM0 pmM0 cdM0 ctM0 : Value}
    {rM0 : List Value}
    {odM1 anM1 : Option Addr} {slM1 : Array (Option Value)} {ocM1 kVM1 dcM1 pmM1 cdM1 ctM1 : Value}
    {rM1 : List Value}
    {odT anT : Option Addr} {slT : Array (Option Value)} {ocT kVT dcT pmT cdT ctT : Value}
    {odA anA : Option Addr} {slA : Array (Option Value)} {ocA dcA pmA cdA ctA : Value}
    {nmX0 qX0 : Str} {bsX0 : List Value} {snX0 : List Str} {subX0 : List Value} {abX0 : Bool} {colX0 : Option Bool} {ddX0 odX0 anX0 : Option Addr} {m0X0 m1X0 m2X0 m3X0 m5X0 : Option Value} {slX0 : Array (Option Value)} {ocX0 kVX0 dcX0 pmX0 cdX0 ctX0 : Value}
    {odL anL : Option Addr} {slL : Array (Option Value)} {ocL kVL dcL pmL cdL ctL : Value} {es : Array DictEntry} {n : Nat} {uP uQ : Value}
    (d_is_whole : Def K mg "is_whole" sIsWhole)
    (d_is_between : Def K mg "is_between" sIsBetween)
    (d_is_item : Def K mg "is_item" sIsItem)
    (d_is_word : Def K mg "is_word" sIsWord)
    (d_is_step : Def K mg "is_step" sIsStep)
    (d_may_hold_steps : Def K mg "may_hold_steps" sMayHold)
    (d_is_limit : Def K mg "is_limit" sIsLimit)
    (d_check_steps : Def K mg "check_steps" sChkSteps)
    (d_check_word : Def K mg "check_word" sChkWord)
    (d_check_limit : Def K mg "check_limit" sChkLimit)
    (d_is_too_high : Def K mg "is_too_high" sTooHigh)
    (d_by_height : Def K mg "by_height" sByHeight)
    (d_first_success : Def K mg "first_success" sFirstSuccess)
    (d_first_beyond : Def K mg "first_beyond" sFirstBeyond)
    (d_least_peak : Def K mg "least_peak" sLeastPeak)
    (d_replaced : Def K mg "replaced" sReplaced)
    (d_joined : Def K mg "joined" sJoined)
    (d_parts_of_step : Def K mg "parts_of_step" sPartsOfStep)
    (d_effect_of : Def K mg "effect_of" sEffectOf)
    (d__law_pool : Def K mg "_law_pool" sPool)
    (d__law_take : Def K mg "_law_take" sTake)
    (d__law_items : Def K mg "_law_items" sItems)
    (d__law_word : Def K mg "_law_word" sWord)
    (d__law_steps : Def K mg "_law_steps" sSteps)
    (d__law_run : Def K mg "_law_run" sLawRun)
    (d__law_orders_differ : Def K mg "_law_orders_differ" sLawOrdersDiffer)
    (d__law_refused : Def K mg "_law_refused" sLawRefused)
    (d__law_pair_right : Def K mg "_law_pair_right" sLawPairRight)
    (d_difference : DefK K mg "difference" sDifference [("limit", .non)])
    (d_commute : DefK K mg "commute" sCommute [("limit", .non)])
    (z_isinstance : PySem.W.nsIn K mainGlobals "isinstance" = some none)
    (z_str : PySem.W.nsIn K mainGlobals "str" = some none)
    (z_len : PySem.W.nsIn K mainGlobals "len" = some none)
    (z_all : PySem.W.nsIn K mainGlobals "all" = some none)
    (z_tuple : PySem.W.nsIn K mainGlobals "tuple" = some none)
    (z_list : PySem.W.nsIn K mainGlobals "list" = some none)
    (z_enumerate : PySem.W.nsIn K mainGlobals "enumerate" = some none)
    (z_range : PySem.W.nsIn K mainGlobals "range" = some none)
    (z_abs : PySem.W.nsIn K mainGlobals "abs" = some none)
    (z_int : PySem.W.nsIn K mainGlobals "int" = some none)
    (z_bool : PySem.W.nsIn K mainGlobals "bool" = some none)
    (z_max : PySem.W.nsIn K mainGlobals "max" = some none)
    (z_min : PySem.W.nsIn K mainGlobals "min" = some none)
    (z_repr : PySem.W.nsIn K mainGlobals "repr" = some none)
    (z_any : PySem.W.nsIn K mainGlobals "any" = some none)
    (cL : PySem.W.nsIn K mainGlobals "LETTERS" = some (some (.str abc tk1)))
    (cM : PySem.W.nsIn K mainGlobals "MOST_LETTERS" = some (some (.int 8 tk2)))
    (cS : PySem.W.nsIn K mainGlobals "MOST_STEPS" = some (some (.int 1000 tk3)))
    (cLM : PySem.W.nsIn K mainGlobals "MOST_LIMIT" = some (some (.int 1000 tk4)))
    (cF : PySem.W.nsIn K mainGlobals "FIRST_ITEM" = some (some (.str "a" tk5)))
    (cO : PySem.W.nsIn K mainGlobals "OPPOSITES" = some (some (.ref D)))
    (lO : K.lookup D = some ⟨.type "dict", none, .dict es n, #[]⟩)
    (kO : PySem.W.KeysLit w.params es.toList)
    (wO : (D == sysModules) = false)
    (pO : PySem.W.nsIn K D "push" = some (some uP))
    (qO : PySem.W.nsIn K D "pop" = some (some uQ))
    (rP : RelV (.str "pop") uP)
    (rQ : RelV (.str "push") uQ)
    (aC : PySem.W.nsIn K mainGlobals "Effect" = some (some (.ref C)))
    (pg : PySem.W.plainGet K C Str.empty = true)
    (hd : PySem.W.hasDictIn K C = true)
    (po : PySem.W.plainOver K C = true)
    (sa : PySem.W.findIn K (.ref C) "__setattr__" = some (some (.builtin "object.__setattr__")))
    (nN : PySem.W.findIn K (.ref C) "needs" = some none)
    (nL : PySem.W.findIn K (.ref C) "leaves" = some none)
    (nH : PySem.W.findIn K (.ref C) "highest" = some none)
    (mkC : PySem.W.makesIn K C = true)
    (keC : PySem.W.keepIn K (.ref C) = true)
    (aI : PySem.W.findIn K (.ref C) "__init__" = some (some (.ref gI)))
    (iI : PySem.W.isFn K (.ref gI) = true)
    (lI : K.lookup gI = some ⟨ocI, odI, .func (PySem.W.fnOf "__init__" "Effect.__init__" (defArgs sInit) (defBody sInit) (defScope sInit) .none (.ref dI) dcI pmI anI cdI ctI), slI⟩)
    (cI : PySem.W.codeIn K cdI "Effect.__init__" = true)
    (kI : PySem.W.keepIn K (.ref gI) = true)
    (nI : PySem.W.nsIn K dI "peak" = some (some .none))
    (aP0 : PySem.W.findIn K (.ref C) "pops" = some (some (.ref qP0)))
    (bP0 : PySem.W.specialIn K (.ref qP0) "__get__" = some (some (.builtin "property.__get__")))
    (tP0 : PySem.W.takesIn K (.ref qP0) = some true)
    (uP0 : PySem.W.recIn K qP0 "property" = some (.ref gP0 :: rP0))
    (lP0 : K.lookup gP0 = some ⟨ocP0, odP0, .func (PySem.W.fnOf "pops" "Effect.pops" (defArgs sPops) (defBody sPops) (defScope sPops) .none kVP0 dcP0 pmP0 anP0 cdP0 ctP0), slP0⟩)
    (cP0 : PySem.W.codeIn K cdP0 "Effect.pops" = true)
    (kP0 : PySem.W.keepIn K (.ref gP0) = true)
    (aP1 : PySem.W.findIn K (.ref C) "pushes" = some (some (.ref qP1)))
    (bP1 : PySem.W.specialIn K (.ref qP1) "__get__" = some (some (.builtin "property.__get__")))
    (tP1 : PySem.W.takesIn K (.ref qP1) = some true)
    (uP1 : PySem.W.recIn K qP1 "property" = some (.ref gP1 :: rP1))
    (lP1 : K.lookup gP1 = some ⟨ocP1, odP1, .func (PySem.W.fnOf "pushes" "Effect.pushes" (defArgs sPushes) (defBody sPushes) (defScope sPushes) .none kVP1 dcP1 pmP1 anP1 cdP1 ctP1), slP1⟩)
    (cP1 : PySem.W.codeIn K cdP1 "Effect.pushes" = true)
    (kP1 : PySem.W.keepIn K (.ref gP1) = true)
    (aP2 : PySem.W.findIn K (.ref C) "is_never" = some (some (.ref qP2)))
    (bP2 : PySem.W.specialIn K (.ref qP2) "__get__" = some (some (.builtin "property.__get__")))
    (tP2 : PySem.W.takesIn K (.ref qP2) = some true)
    (uP2 : PySem.W.recIn K qP2 "property" = some (.ref gP2 :: rP2))
    (lP2 : K.lookup gP2 = some ⟨ocP2, odP2, .func (PySem.W.fnOf "is_never" "Effect.is_never" (defArgs sIsNever) (defBody sIsNever) (defScope sIsNever) .none kVP2 dcP2 pmP2 anP2 cdP2 ctP2), slP2⟩)
    (cP2 : PySem.W.codeIn K cdP2 "Effect.is_never" = true)
    (kP2 : PySem.W.keepIn K (.ref gP2) = true)
    (aP3 : PySem.W.findIn K (.ref C) "peak" = some (some (.ref qP3)))
    (bP3 : PySem.W.specialIn K (.ref qP3) "__get__" = some (some (.builtin "property.__get__")))
    (tP3 : PySem.W.takesIn K (.ref qP3) = some true)
    (uP3 : PySem.W.recIn K qP3 "property" = some (.ref gP3 :: rP3))
    (lP3 : K.lookup gP3 = some ⟨ocP3, odP3, .func (PySem.W.fnOf "peak" "Effect.peak" (defArgs sPeak) (defBody sPeak) (defScope sPeak) .none kVP3 dcP3 pmP3 anP3 cdP3 ctP3), slP3⟩)
    (cP3 : PySem.W.codeIn K cdP3 "Effect.peak" = true)
    (kP3 : PySem.W.keepIn K (.ref gP3) = true)
    (rdC : PySem.W.readsIn K C (.type "type") = true)
    (gaC : PySem.W.specialIn K (.ref C) "__getattribute__" = some (some (.builtin "type.__getattribute__")))
    (aM0 : PySem.W.findCls K (.ref C) (.type "type") "never" = some (.get (.builtin "classmethod.__get__") (.ref qM0) .none (.ref C)))
    (uM0 : PySem.W.recIn K qM0 "classmethod" = some (.ref gM0 :: rM0))
    (fM0 : PySem.W.fnIn K gM0 = true)
    (lM0 : K.lookup gM0 = some ⟨ocM0, odM0, .func (PySem.W.fnOf "never" "Effect.never" (defArgs sNever) (defBody sNever) (defScope sNever) .none kVM0 dcM0 pmM0 anM0 cdM0 ctM0), slM0⟩)
    (cM0 : PySem.W.codeIn K cdM0 "Effect.never" = true)
    (kM0 : PySem.W.keepIn K (.ref gM0) = true)
    (aM1 : PySem.W.findCls K (.ref C) (.type "type") "nothing" = some (.get (.builtin "classmethod.__get__") (.ref qM1) .none (.ref C)))
    (uM1 : PySem.W.recIn K qM1 "classmethod" = some (.ref gM1 :: rM1))
    (fM1 : PySem.W.fnIn K gM1 = true)
    (lM1 : K.lookup gM1 = some ⟨ocM1, odM1, .func (PySem.W.fnOf "nothing" "Effect.nothing" (defArgs sNothing) (defBody sNothing) (defScope sNothing) .none kVM1 dcM1 pmM1 anM1 cdM1 ctM1), slM1⟩)
    (cM1 : PySem.W.codeIn K cdM1 "Effect.nothing" = true)
    (kM1 : PySem.W.keepIn K (.ref gM1) = true)
    (aT : PySem.W.findIn K (.ref C) "then" = some (some (.ref gT)))
    (iT : PySem.W.isFn K (.ref gT) = true)
    (lT : K.lookup gT = some ⟨ocT, odT, .func (PySem.W.fnOf "then" "Effect.then" (defArgs sThen) (defBody sThen) (defScope sThen) .none kVT dcT pmT anT cdT ctT), slT⟩)
    (cT : PySem.W.codeIn K cdT "Effect.then" = true)
    (kT : PySem.W.keepIn K (.ref gT) = true)
    (aA : PySem.W.findIn K (.ref C) "apply" = some (some (.ref gA)))
    (iA : PySem.W.isFn K (.ref gA) = true)
    (lA : K.lookup gA = some ⟨ocA, odA, .func (PySem.W.fnOf "apply" "Effect.apply" (defArgs sApply) (defBody sApply) (defScope sApply) .none (.ref dA) dcA pmA anA cdA ctA), slA⟩)
    (cA : PySem.W.codeIn K cdA "Effect.apply" = true)
    (kA : PySem.W.keepIn K (.ref gA) = true)
    (nA : PySem.W.nsIn K dA "limit" = some (some .none))
    (aS : PySem.W.nsIn K mainGlobals "StackError" = some (some (.ref S)))
    (tS : PySem.W.typeIn K (.ref S) = some (.type "type"))
    (hS : PySem.W.hasDictIn K S = true)
    (cg : PySem.W.specialIn K (.builtin "object.__class__") "__get__" = some (some (.builtin "getset_descriptor.__get__")))
    (ct : PySem.W.takesIn K (.builtin "object.__class__") = some true)
    (aX0 : PySem.W.nsIn K mainGlobals "InvalidNumber" = some (some (.ref CX0)))
    (xX0 : K.lookup CX0 = some (excClassObj nmX0 qX0 CX0 NX0 bsX0 [.ref S, .type "ValueError", .type "Exception", .type "BaseException", .type "object"] true snX0 subX0 abX0 colX0 ddX0 m0X0 m1X0 m2X0 m3X0 m5X0 "ValueError.__new__"))
    (saX0 : PySem.W.findIn K (.ref CX0) "__setattr__" = some (some (.builtin "object.__setattr__")))
    (gaX0 : PySem.W.findIn K (.ref CX0) "__getattribute__" = some (some (.builtin "BaseException.__getattribute__")))
    (ggX0 : PySem.W.findIn K (.ref CX0) "__getattr__" = some none)
    (nfX0 : PySem.W.findIn K (.ref CX0) "value" = some none)
    (iiX0 : PySem.W.findIn K (.ref CX0) "__init__" = some (some (.ref gX0)))
    (tiX0 : PySem.W.typeIn K (.ref gX0) = some (.type "function"))
    (lX0 : K.lookup gX0 = some ⟨ocX0, odX0, .func (PySem.W.fnOf "__init__" "InvalidNumber.__init__" (defArgs (inClass sInvalidnumber 0)) (defBody (inClass sInvalidnumber 0)) (defScope (inClass sInvalidnumber 0)) .none kVX0 dcX0 pmX0 anX0 cdX0 ctX0), slX0⟩)
    (cX0 : PySem.W.codeIn K cdX0 "InvalidNumber.__init__" = true)
    (kX0 : PySem.W.keepIn K (.ref gX0) = true)
    (kCX0 : PySem.W.keepIn K (.ref CX0) = true)
    (eCX0 : PySem.W.subIn K (.ref CX0) (.type "BaseException") = some true)
    (tCX0 : PySem.W.typeIn K (.ref CX0) = some (.type "type"))
    (hCX0 : PySem.W.hasDictIn K CX0 = true)
    (sCX0 : PySem.W.subIn K (.ref CX0) (.ref CX0) = some true)
    (sSX0 : PySem.W.subIn K (.ref CX0) (.ref S) = some true)
    (ccX0 : PySem.W.findIn K (.ref CX0) "__class__" = some (some (.builtin "object.__class__")))
    (moX0 : PySem.W.mroIn K CX0 (.type "object") = some true)
    (aL : PySem.W.nsIn K mainGlobals "law" = some (some (.ref fL)))
    (lL : K.lookup fL = some ⟨ocL, odL, .func (PySem.W.fnOf "law" "law" (defArgs sLaw) (defBody sLaw) (defScope sLaw) .none kVL dcL pmL anL cdL ctL), slL⟩)
    (ckL : PySem.W.codeIn K cdL "law" = true)
    (kL : PySem.W.keepIn K (.ref fL) = true) :
    ∃ fd : FuncData, (∀ (s : Shared) (v : Value), BindsTo s fd ⟨[v], []⟩ [("_law_script", v)]) ∧ ∀ base : Heap, K.In base → base.Ns mainGlobals mg → GOk l.prog w K mg base 11 fa fd ["_law_script"] (spLaw K) := by
  have e := hfa.symm.trans (PySem.W.mg_of X G aL)
  cases e
  have F := fun_mk (st := sLaw) lL ckL kL
  have m_isinstance : mg "isinstance" = none := PySem.W.mg_none_of X G z_isinstance
  have m_str : mg "str" = none := PySem.W.mg_none_of X G z_str
  have m_len : mg "len" = none := PySem.W.mg_none_of X G z_len
  have m_all : mg "all" = none := PySem.W.mg_none_of X G z_all
  have m_tuple : mg "tuple" = none := PySem.W.mg_none_of X G z_tuple
  have m_list : mg "list" = none := PySem.W.mg_none_of X G z_list
  have m_enumerate : mg "enumerate" = none := PySem.W.mg_none_of X G z_enumerate
  have m_range : mg "range" = none := PySem.W.mg_none_of X G z_range
  have m_abs : mg "abs" = none := PySem.W.mg_none_of X G z_abs
  have m_int : mg "int" = none := PySem.W.mg_none_of X G z_int
  have m_bool : mg "bool" = none := PySem.W.mg_none_of X G z_bool
  have m_max : mg "max" = none := PySem.W.mg_none_of X G z_max
  have m_min : mg "min" = none := PySem.W.mg_none_of X G z_min
  have m_repr : mg "repr" = none := PySem.W.mg_none_of X G z_repr
  have m_any : mg "any" = none := PySem.W.mg_none_of X G z_any
  have B : Blt mg := ⟨m_isinstance, m_str, m_len, m_all, m_tuple, m_list, m_enumerate⟩
  have Co : Cons K w mg := ⟨⟨_, PySem.W.mg_of X G cL⟩, ⟨_, PySem.W.mg_of X G cM⟩, ⟨_, PySem.W.mg_of X G cS⟩, ⟨D, es, n, uP, uQ, PySem.W.mg_of X G cO, ⟨lO, kO, wO⟩, pO, rP, qO, rQ⟩⟩
  have T : EC K mg C := ⟨⟨pg, hd, po, sa⟩, nN, nL, nH, PySem.W.mg_of X G aC⟩
  refine ⟨PySem.W.fnOf "law" "law" (defArgs sLaw) (defBody sLaw) (defScope sLaw) .none kVL dcL pmL anL cdL ctL, fun s v => .of_eq rfl, fun base _ _ => ?_⟩
  have gTake := has_take (P := l.prog) (w := w) (base := base) d__law_take
  have gPool := has_pool (P := l.prog) (w := w) (base := base) d__law_pool m_len m_abs m_int
  have gItems := has_items2 d__law_items gTake
  have gWord := has_word d__law_word gTake m_range m_len m_tuple
  have gSteps := has_steps2 d__law_steps gTake m_range m_len
  have gItem := has_isItem (P := l.prog) (w := w) (base := base) d_is_item B Co
  have gIsWord := has_isWord d_is_word gItem B
  have gCw := has_chkWord d_check_word gIsWord
  have gIsStep := has_isStep d_is_step gItem B Co
  have gMay := has_may (P := l.prog) (w := w) (base := base) d_may_hold_steps B Co
  have gChk := has_chkSteps d_check_steps gMay gIsStep B
  have gWh := has_whole (P := l.prog) (w := w) (base := base) d_is_whole B m_int m_bool
  have gLe := has_least (P := l.prog) (w := w) (base := base) d_least_peak B m_max
  have gM := (⟨gI, _, ⟨mkC, aI, iI, keC⟩, ok_init (fun_mk lI cI kI) T gCw gLe gWh, init_mk lI cI kI nI⟩ : Makes l.prog w K mg base C)
  have gPo := (⟨qP0, gP0, _, ⟨aP0, bP0, tP0, rP0, uP0⟩, ok_pops (fun_mk lP0 cP0 kP0) T, (fun_mk lP0 cP0 kP0).binds (ps := ["self"]) fun _ _ _ _ _ _ us hl => match us, hl with | [_], _ => rfl⟩ : PropHas l.prog w K mg base C "pops" 1 _)
  have gPu := (⟨qP1, gP1, _, ⟨aP1, bP1, tP1, rP1, uP1⟩, ok_push (fun_mk lP1 cP1 kP1) T, (fun_mk lP1 cP1 kP1).binds (ps := ["self"]) fun _ _ _ _ _ _ us hl => match us, hl with | [_], _ => rfl⟩ : PropHas l.prog w K mg base C "pushes" 1 _)
  have gNv := (⟨qP2, gP2, _, ⟨aP2, bP2, tP2, rP2, uP2⟩, ok_isNev (fun_mk lP2 cP2 kP2) T, (fun_mk lP2 cP2 kP2).binds (ps := ["self"]) fun _ _ _ _ _ _ us hl => match us, hl with | [_], _ => rfl⟩ : PropHas l.prog w K mg base C "is_never" 1 _)
  have gPk := (⟨qP3, gP3, _, ⟨aP3, bP3, tP3, rP3, uP3⟩, ok_peak (fun_mk lP3 cP3 kP3) T, (fun_mk lP3 cP3 kP3).binds (ps := ["self"]) fun _ _ _ _ _ _ us hl => match us, hl with | [_], _ => rfl⟩ : PropHas l.prog w K mg base C "peak" 1 _)
  have fNe := ok_never (fun_mk lM0 cM0 kM0) T gM
  have bNe := (fun_mk (st := sNever) lM0 cM0 kM0).binds (ps := ["cls"]) fun _ _ _ _ _ _ us hl => match us, hl with | [_], _ => rfl
  have gNe := (⟨.type "type", qM0, gM0, ⟨rdC, gaC⟩, ⟨aM0, ⟨_, uM0⟩, fM0⟩, (fNe.raw bNe .nil).imp fun vs H Q E h => by rw [List.append_nil]; exact h⟩ : NeverHas l.prog w K mg base C)
  have fNo := ok_nothing (fun_mk lM1 cM1 kM1) gM
  have bNo := (fun_mk (st := sNothing) lM1 cM1 kM1).binds (ps := ["cls"]) fun _ _ _ _ _ _ us hl => match us, hl with | [_], _ => rfl
  have gNo := (⟨.type "type", qM1, gM1, ⟨rdC, gaC⟩, ⟨aM1, ⟨_, uM1⟩, fM1⟩, (fNo.raw bNo .nil).imp fun vs H Q E h => by rw [List.append_nil]; exact h⟩ : NothingHas l.prog w K mg base C)
  have gPart := has_part (P := l.prog) (w := w) (base := base) d_parts_of_step
  have gJn := has_join d_joined T gM gNe B m_max m_min
  have gE := has_effOf d_effect_of gChk gPart gJn
  have gTh := (⟨gT, ⟨aT, iT, kT⟩, ok_then (fun_mk lT cT kT) T gNe gNv gPo gPu gPk gJn m_any⟩ : ThenHas l.prog w K mg base C)
  have gS := PySem.W.mg_of X G aS
  have oeX0 := (⟨⟨_, _, _, _, _, _, _, _, _, _, _, _, _, _, _, xX0, rfl⟩, saX0, eCX0, tCX0, kCX0⟩ : OexC K CX0)
  have FX0 := fun_mk (st := inClass sInvalidnumber 0) lX0 cX0 kX0
  have TX0 := (⟨oeX0, PySem.W.mg_of X G aX0, ⟨gX0, _, iiX0, tiX0, init_ok FX0 scI_InvalidNumber oeX0 nfX0 rfl (.inl rfl) (.inl rfl) (by decide) (by decide), FX0.binds (ps := ["self", "value"]) fun _ _ _ _ _ _ us hl => match us, hl with | [_, _], _ => rfl⟩, ⟨gaX0, ggX0, eCX0, hCX0⟩, nfX0, ccX0, cg, ct, moX0, PySem.W.exm_ref eCX0 hCX0 tCX0 sCX0⟩ : XcC l.prog w K mg base "InvalidNumber" "value" CX0)
  have kiX0 := kit_below sSX0 tS hS
  have gWh2 := has_whole2 (P := l.prog) (w := w) (base := base) d_is_whole m_isinstance m_int m_bool
  have gBe2 := has_bet2 d_is_between gWh2
  have gLmX := has_limX d_is_limit gBe2 ⟨_, PySem.W.mg_of X G cLM⟩
  have gClX := hasX_cl d_check_limit gLmX TX0
  have gClV := has_clV d_check_limit gLmX
  have gThV := has_thV (P := l.prog) (w := w) (base := base) d_is_too_high
  have gRd0 := has_rd0 d_replaced T B gNv gPo gPu
  have gAp := (⟨gA, _, ⟨aA, iA, kA⟩, ok_applyP (fun_mk lA cA kA) T B gCw gClV gThV gRd0 gNv gPk, init_mk lA cA kA nA⟩ : ApplyP l.prog w K mg base C)
  have gFs := has_fs d_first_success T gAp gNv gPo
  have gFb := has_fb d_first_beyond T B gPo gPk m_max ⟨_, PySem.W.mg_of X G cF⟩
  have gBy := (by_of d_by_height B : ByHas l.prog w K mg base)
  have gDf := has_df d_difference T gClV gFs gFb gBy gPo gPu m_min
  have gCm := has_cm d_commute T gTh gDf
  have gDfX := hasX_df d_difference gClX
  have gCmX := hasX_cm d_commute T gTh gDfX
  have gRf := ghas_rf d__law_refused T gNo gNe TX0 gDfX gCmX m_repr
  have gRn := has_rn (P := l.prog) (w := w) (base := base) d__law_run B
  have gOd := has_od d__law_orders_differ gRn
  have gPr := has_pr d__law_pair_right T gTh gE gDf gCm gOd
  exact ok_law F T gPool gItems gTake gWord gSteps gE gCm gPr gRf B m_range m_max m_min
end
end SE
open PySem PySem.W PyProof.Rows
set_option maxHeartbeats 0 in
theorem PySem.Challenge.cw_stackeffect_k15_effects_that_commute_holds : PySem.Challenge.rw_stackeffect_k15_effects_that_commute.Holds := by
  w_on; o_law; k_head; (case hw => w_witness2)
  k_fill
  refine SE.walkG (l := PySem.Challenge.rw_stackeffect_k15_effects_that_commute) (n := 63) (k := 11) (x := "_law_script") (sp := SE.spLaw) rfl (by decide) rfl ⟨rfl, by decide, by decide⟩ (fun w h Y => PySem.W.kIn_of Y) ?F (fun _ _ a ns hl hS => ⟨a, ns, rfl, hS, hl, fun _ => rfl⟩)
  case F =>
    intro w mg fa h KX G hmg
    refine' SE.all_mk KX G hmg ?d_is_whole ?d_is_between ?d_is_item ?d_is_word ?d_is_step ?d_may_hold_steps ?d_is_limit ?d_check_steps ?d_check_word ?d_check_limit ?d_is_too_high ?d_by_height ?d_first_success ?d_first_beyond ?d_least_peak ?d_replaced ?d_joined ?d_parts_of_step ?d_effect_of ?d__law_pool ?d__law_take ?d__law_items ?d__law_word ?d__law_steps ?d__law_run ?d__law_orders_differ ?d__law_refused ?d__law_pair_right ?d_difference ?d_commute ?z_isinstance ?z_str ?z_len ?z_all ?z_tuple ?z_list ?z_enumerate ?z_range ?z_abs ?z_int ?z_bool ?z_max ?z_min ?z_repr ?z_any ?cL ?cM ?cS ?cLM ?cF ?cO ?lO ?kO ?wO ?pO ?qO ?rP ?rQ ?aC ?pg ?hd ?po ?sa ?nN ?nL ?nH ?mkC ?keC ?aI ?iI ?lI ?cI ?kI ?nI ?aP0 ?bP0 ?tP0 ?uP0 ?lP0 ?cP0 ?kP0 ?aP1 ?bP1 ?tP1 ?uP1 ?lP1 ?cP1 ?kP1 ?aP2 ?bP2 ?tP2 ?uP2 ?lP2 ?cP2 ?kP2 ?aP3 ?bP3 ?tP3 ?uP3 ?lP3 ?cP3 ?kP3 ?rdC ?gaC ?aM0 ?uM0 ?fM0 ?lM0 ?cM0 ?kM0 ?aM1 ?uM1 ?fM1 ?lM1 ?cM1 ?kM1 ?aT ?iT ?lT ?cT ?kT ?aA ?iA ?lA ?cA ?kA ?nA ?aS ?tS ?hS ?cg ?ct ?aX0 ?xX0 ?saX0 ?gaX0 ?ggX0 ?nfX0 ?iiX0 ?tiX0 ?lX0 ?cX0 ?kX0 ?kCX0 ?eCX0 ?tCX0 ?hCX0 ?sCX0 ?sSX0 ?ccX0 ?moX0 ?aL ?lL ?ckL ?kL
    (case d_is_whole => refine' SE.def_mk KX G ?a ?l ?c ?k; (case a => k_is); (case l => k_is); (case c => k_is); (case k => k_is))
    (case d_is_between => refine' SE.def_mk KX G ?a ?l ?c ?k; (case a => k_is); (case l => k_is); (case c => k_is); (case k => k_is))
    (case d_is_item => refine' SE.def_mk KX G ?a ?l ?c ?k; (case a => k_is); (case l => k_is); (case c => k_is); (case k => k_is))
    (case d_is_word => refine' SE.def_mk KX G ?a ?l ?c ?k; (case a => k_is); (case l => k_is); (case c => k_is); (case k => k_is))
    (case d_is_step => refine' SE.def_mk KX G ?a ?l ?c ?k; (case a => k_is); (case l => k_is); (case c => k_is); (case k => k_is))
    (case d_may_hold_steps => refine' SE.def_mk KX G ?a ?l ?c ?k; (case a => k_is); (case l => k_is); (case c => k_is); (case k => k_is))
    (case d_is_limit => refine' SE.def_mk KX G ?a ?l ?c ?k; (case a => k_is); (case l => k_is); (case c => k_is); (case k => k_is))
    (case d_check_steps => refine' SE.def_mk KX G ?a ?l ?c ?k; (case a => k_is); (case l => k_is); (case c => k_is); (case k => k_is))
    (case d_check_word => refine' SE.def_mk KX G ?a ?l ?c ?k; (case a => k_is); (case l => k_is); (case c => k_is); (case k => k_is))
    (case d_check_limit => refine' SE.def_mk KX G ?a ?l ?c ?k; (case a => k_is); (case l => k_is); (case c => k_is); (case k => k_is))
    (case d_is_too_high => refine' SE.def_mk KX G ?a ?l ?c ?k; (case a => k_is); (case l => k_is); (case c => k_is); (case k => k_is))
    (case d_by_height => refine' SE.def_mk KX G ?a ?l ?c ?k; (case a => k_is); (case l => k_is); (case c => k_is); (case k => k_is))
    (case d_first_success => refine' SE.def_mk KX G ?a ?l ?c ?k; (case a => k_is); (case l => k_is); (case c => k_is); (case k => k_is))
    (case d_first_beyond => refine' SE.def_mk KX G ?a ?l ?c ?k; (case a => k_is); (case l => k_is); (case c => k_is); (case k => k_is))
    (case d_least_peak => refine' SE.def_mk KX G ?a ?l ?c ?k; (case a => k_is); (case l => k_is); (case c => k_is); (case k => k_is))
    (case d_replaced => refine' SE.def_mk KX G ?a ?l ?c ?k; (case a => k_is); (case l => k_is); (case c => k_is); (case k => k_is))
    (case d_joined => refine' SE.def_mk KX G ?a ?l ?c ?k; (case a => k_is); (case l => k_is); (case c => k_is); (case k => k_is))
    (case d_parts_of_step => refine' SE.def_mk KX G ?a ?l ?c ?k; (case a => k_is); (case l => k_is); (case c => k_is); (case k => k_is))
    (case d_effect_of => refine' SE.def_mk KX G ?a ?l ?c ?k; (case a => k_is); (case l => k_is); (case c => k_is); (case k => k_is))
    (case d__law_pool => refine' SE.def_mk KX G ?a ?l ?c ?k; (case a => k_is); (case l => k_is); (case c => k_is); (case k => k_is))
    (case d__law_take => refine' SE.def_mk KX G ?a ?l ?c ?k; (case a => k_is); (case l => k_is); (case c => k_is); (case k => k_is))
    (case d__law_items => refine' SE.def_mk KX G ?a ?l ?c ?k; (case a => k_is); (case l => k_is); (case c => k_is); (case k => k_is))
    (case d__law_word => refine' SE.def_mk KX G ?a ?l ?c ?k; (case a => k_is); (case l => k_is); (case c => k_is); (case k => k_is))
    (case d__law_steps => refine' SE.def_mk KX G ?a ?l ?c ?k; (case a => k_is); (case l => k_is); (case c => k_is); (case k => k_is))
    (case d__law_run => refine' SE.def_mk KX G ?a ?l ?c ?k; (case a => k_is); (case l => k_is); (case c => k_is); (case k => k_is))
    (case d__law_orders_differ => refine' SE.def_mk KX G ?a ?l ?c ?k; (case a => k_is); (case l => k_is); (case c => k_is); (case k => k_is))
    (case d__law_refused => refine' SE.def_mk KX G ?a ?l ?c ?k; (case a => k_is); (case l => k_is); (case c => k_is); (case k => k_is))
    (case d__law_pair_right => refine' SE.def_mk KX G ?a ?l ?c ?k; (case a => k_is); (case l => k_is); (case c => k_is); (case k => k_is))
    (case d_difference => refine' SE.defk_mk KX G ?a ?l ?c ?k ?n; (case a => k_is); (case l => k_is); (case c => k_is); (case k => k_is); (case n => k_is))
    (case d_commute => refine' SE.defk_mk KX G ?a ?l ?c ?k ?n; (case a => k_is); (case l => k_is); (case c => k_is); (case k => k_is); (case n => k_is))
    (case z_isinstance => k_is)
    (case z_str => k_is)
    (case z_len => k_is)
    (case z_all => k_is)
    (case z_tuple => k_is)
    (case z_list => k_is)
    (case z_enumerate => k_is)
    (case z_range => k_is)
    (case z_abs => k_is)
    (case z_int => k_is)
    (case z_bool => k_is)
    (case z_max => k_is)
    (case z_min => k_is)
    (case z_repr => k_is)
    (case z_any => k_is)
    (case cL => k_is)
    (case cM => k_is)
    (case cS => k_is)
    (case cLM => k_is)
    (case cF => k_is)
    (case cO => k_is)
    (case lO => k_is)
    (case kO => exact ⟨⟨_, _, rfl, rfl⟩, ⟨_, _, rfl, rfl⟩, trivial⟩)
    (case wO => rfl)
    (case pO => k_is)
    (case qO => k_is)
    (case rP => exact ⟨_, rfl⟩)
    (case rQ => exact ⟨_, rfl⟩)
    (case aC => k_is)
    (case pg => k_is)
    (case hd => k_is)
    (case po => k_is)
    (case sa => k_is)
    (case nN => k_is)
    (case nL => k_is)
    (case nH => k_is)
    (case mkC => k_is)
    (case keC => k_is)
    (case aI => k_is)
    (case iI => k_is)
    (case lI => k_is)
    (case cI => k_is)
    (case kI => k_is)
    (case nI => k_is)
    (case aP0 => k_is)
    (case bP0 => k_is)
    (case tP0 => k_is)
    (case uP0 => k_is)
    (case lP0 => k_is)
    (case cP0 => k_is)
    (case kP0 => k_is)
    (case aP1 => k_is)
    (case bP1 => k_is)
    (case tP1 => k_is)
    (case uP1 => k_is)
    (case lP1 => k_is)
    (case cP1 => k_is)
    (case kP1 => k_is)
    (case aP2 => k_is)
    (case bP2 => k_is)
    (case tP2 => k_is)
    (case uP2 => k_is)
    (case lP2 => k_is)
    (case cP2 => k_is)
    (case kP2 => k_is)
    (case aP3 => k_is)
    (case bP3 => k_is)
    (case tP3 => k_is)
    (case uP3 => k_is)
    (case lP3 => k_is)
    (case cP3 => k_is)
    (case kP3 => k_is)
    (case rdC => k_is)
    (case gaC => k_is)
    (case aM0 => k_is)
    (case uM0 => k_is)
    (case fM0 => k_is)
    (case lM0 => k_is)
    (case cM0 => k_is)
    (case kM0 => k_is)
    (case aM1 => k_is)
    (case uM1 => k_is)
    (case fM1 => k_is)
    (case lM1 => k_is)
    (case cM1 => k_is)
    (case kM1 => k_is)
    (case aT => k_is)
    (case iT => k_is)
    (case lT => k_is)
    (case cT => k_is)
    (case kT => k_is)
    (case aA => k_is)
    (case iA => k_is)
    (case lA => k_is)
    (case cA => k_is)
    (case kA => k_is)
    (case nA => k_is)
    (case aS => k_is)
    (case tS => k_is)
    (case hS => k_is)
    (case cg => k_is)
    (case ct => k_is)
    (case aX0 => k_is)
    (case xX0 => k_is)
    (case saX0 => k_is)
    (case gaX0 => k_is)
    (case ggX0 => k_is)
    (case nfX0 => k_is)
    (case iiX0 => k_is)
    (case tiX0 => k_is)
    (case lX0 => k_is)
    (case cX0 => k_is)
    (case kX0 => k_is)
    (case kCX0 => k_is)
    (case eCX0 => k_is)
    (case tCX0 => k_is)
    (case hCX0 => k_is)
    (case sCX0 => first | rfl | k_is)
    (case sSX0 => first | rfl | k_is)
    (case ccX0 => k_is)
    (case moX0 => k_is)
    (case aL => k_is)
    (case lL => k_is)
    (case ckL => k_is)
    (case kL => k_is)
