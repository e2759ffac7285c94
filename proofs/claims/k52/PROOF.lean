import PyProof.Rows.All
import Wide.All
import OpenK.AllK
import Wide.FinOn
import PyProof.EqAt
import PyProof.EqKinds
import PyProof.TupleCall
import HandS.Base
import HandS.Call
import HandS.List
import HandS.Ends
import HandS.Words
import HandS.Comp
import HandS.Dict
import HandS.Iter
import HandS.Text
import HandS.WordsList
import HandS.Defaults
import PyProof.EnumMake
import PyProof.Draws
import KE.GoesMore
import KE.KRevSl
import PyProof.ReprLen
import PyProof.ReprText
import HandS.More
import HandS.Evl
import HandS.Walk
import HandS.IsInst
import HandS.TupAny
import HandS.Style
import HandS.SetKeys
import HandS.DictComp
import HandS.GenBody
import HandS.GenYield
import HandS.GenCall
import HandS.GenList
import PyProof.GenComp
import HandS.OwnEq
import KE.KEqDict
import HandS.Small
import HandS.Deep
import PyProof.ReprRoads
import PyProof.ReprDict
import PyProof.CallFns
import HandS.Exc
import HandS.ExcOwn
import HandS.ExcInit
import HandS.ExcField
import HandS.ExcIs
import HandS.WordsExc
import KE.KExcIs
import HandS.Zip
import HandS.Set
import HandS.Strs
import KE.KDictCopyH
import HandS.MakeKwOnly
import HandS.ClsMeth
import PyProof.ExcBaseAll.ValueError
import PyProof.ExcBaseAll.LookupError
import PyProof.ExcBaseAll.RuntimeError
import PyProof.ExcBaseAll.OverflowError
import HandS.TryMany
import HandS.TupMul
import HandS.Flow
import PySem.Challenge.RW_stackeffect_k52_several_stacks_run
set_option Elab.async false
set_option linter.all false
set_option maxRecDepth 100000
set_option maxHeartbeats 4000000
/-! Defs called where no repr is under way: their promise (GOk), their call, the law's head, and repr of plain data. -/
namespace SE
open PySem PySem.Spec PyProof.Rows L2

/-- the promise of a def whose caller has no repr under way -/
structure GOk (P : Program) (w : World) (K : PySem.W.Frag) (mg : Str → Option Value) (base : Heap) (k : Nat) (f : Addr) (fd : FuncData) (ps : List Str) (sp : Sp) : Prop where
  len : ∀ xs H Q E, sp xs H Q E → xs.length = ps.length
  run : ∀ (A : Around) (out : List Env) (s : Shared) (H : Hp) (args : Args) (us : List Value) (xs : List V) (Q : VK) (E : XK), A.guards = some [] → Room k A → Env0 P w K mg base A out s H →
    BindsTo s fd args (ps.zip us) → Vals xs us → sp xs H Q E → codeAny (model P w) A (.call (.ref f) args) (CR (fun _ _ _ _ _ _ => False) out P w H s Q E) s

section
variable {P : Program} {w : World} {K : PySem.W.Frag} {mg : Str → Option Value} {base : Heap}
theorem gok_of {k : Nat} {f : Addr} {nm ql : Str} {pars : Arguments} {bd : List Stmt} {sc : Scope} {dV kV doc pm cv ct oc : Value} {an od : Option Addr}
    {osl : Array (Option Value)} {N ps : List Str} {sp : Sp} (look : K.lookup f = some ⟨oc, od, .func (PySem.W.fnOf nm ql pars bd sc dV kV doc pm an cv ct), osl⟩) (hcode : PySem.W.codeIn K cv ql = true) (S : FnScope N ps sc)
    (len : ∀ xs H Q E, sp xs H Q E → xs.length = ps.length)
    (hbd : ∀ (A : Around) (out : List Env) (s : Shared) (H : Hp) (xs : List V) (Q : VK) (E : XK), A.guards = some [] → Room k (A.deeper (envOfC ql sc s.heap.objs.size f cv)) → sp xs H Q E →
      ∃ t, PSs (cxOf (fun _ _ _ _ _ _ => False) P w K mg base N ql sc f cv A out s H E) bd t ∧ t { nx := fun _ H2 => Q .non H2, rt := Q } (start N xs) H) :
    GOk P w K mg base (k + 1) f (PySem.W.fnOf nm ql pars bd sc dV kV doc pm an cv ct) ps sp := by
  constructor
  · exact len
  intro A out s H args us xs Q E hgu hroom env hbind hvals hpre
  have hlen := len _ _ _ _ hpre
  have kin : K.In s.heap := env.mod.kin.keeps fun b o z => (env.bs b o z).1
  have nolim : s.heap.NoLimit := env.mod.nolimit.keeps fun b o z => (env.bs b o z).1
  have kinds : ∀ y ∈ ps.zip us, sc.names.lookup y.1 = some .local ∨ (sc.names.lookup y.1 = some .cell ∧ ((cellsFrom (s.heap.objs.size + 1) sc.names []).lookup y.1).isSome = true) := by
    rintro ⟨n, v⟩ hy
    rcases S.par n (List.of_mem_zip hy).1 with q | q
    · exact .inl q
    · exact .inr ⟨q, PySem.W.cellsFrom_some _ _ _ (.inl q)⟩
  apply codeAny_call_function hroom.depth (kin _ _ look) rfl S.co S.gen rfl (PySem.W.codeRec_of kin hcode)
  apply hbind
  refine wpAny_newFunctionEnv_cells S.kind kinds fun ev hev s2 inc => ?_
  subst hev
  refine ⟨nolim.keeps inc.toInCall.keep, codeAny_func ?_⟩
  obtain ⟨t, der, rd⟩ := hbd A out s H xs Q E hgu (hroom.deeper _) hpre
  have J0 : Inv (cxOf (fun _ _ _ _ _ _ => False) P w K mg base N ql sc f cv A out s H E) [] (start N xs) H s2 := inv_start S hroom.hd env hlen hvals inc
  refine wpAny_mono (der.run [] s2 (start N xs) H _ J0 rd) (fun fl s3 hs => ?_) fun e s3 hs => hs
  cases fl with
  | ret u =>
    obtain ⟨v, σ3, H3, J, rv, q⟩ := hs
    exact ⟨v, H3, J.os, J.bare, J.base, J.hok, rv, q⟩
  | next =>
    obtain ⟨σ3, H3, J, q⟩ := hs
    exact ⟨V.non, H3, J.os, J.bare, J.base, J.hok, rfl, q⟩
  | brk => exact hs.elim fun _ z => z.elim fun _ z => z.2.elim
  | cont => exact hs.elim fun _ z => z.elim fun _ z => z.2.elim
theorem gok_mk {x ql : Str} {st : Stmt} {f : Addr} {fd : FuncData} {N ps : List Str} {k : Nat} {sp : Sp} (F : Fun K x ql st f fd) (S : FnScope N ps (defScope st)) (len : ∀ xs H Q E, sp xs H Q E → xs.length = ps.length)
    (hbd : ∀ (cv : Value) (A : Around) (out : List Env) (s : Shared) (H : Hp) (xs : List V) (Q : VK) (E : XK), A.guards = some [] → Room k (A.deeper (envOfC ql (defScope st) s.heap.objs.size f cv)) → sp xs H Q E →
      ∃ t, PSs (cxOf CX0 P w K mg base N ql (defScope st) f cv A out s H E).nox (defBody st) t ∧ t { nx := fun _ H2 => Q .non H2, rt := Q } (start N xs) H) : GOk P w K mg base (k + 1) f fd ps sp := by
  obtain ⟨oc, od, kV, doc, pm, an, cv, ct, osl, rfl, look, hcode⟩ := F.ex
  refine gok_of look hcode S len fun A out s H xs Q E hgu hr hpre => ?_
  obtain ⟨t, a, b⟩ := hbd cv A out s H xs Q E hgu hr hpre
  exact ⟨t, a.nox, b⟩
end

section
variable {X : Cx} {k : Nat} {f : Addr} {fd : FuncData} {ps : List Str} {sp : Sp} {x : Str} {p pos : Pos} {e : Expr} {es : List Expr} {t : TA}
theorem pe_callG (F : GOk X.prog X.w X.K X.mg X.base k f fd ps sp) (hgu : X.A.guards = some []) (hr : Room k X.A) (hg : Gl X x) (hm : X.mg x = some (.ref f)) (hk : PySem.W.keepIn X.K (.ref f) = true) (hb : Binds X.K fd ps [])
    (ha : PA X (e :: es) t) (hdb : (x == ("__debug__" : Str)) = false := by decide) (he : starEach (e :: es) X.env = (false, eval e X.env) :: starEach es X.env := by rfl) (hpl : (backTo pos (starEach es X.env)).any (·.1) = false := by rfl) :
    PE X (.Call (.Name x p) (e :: es) [] pos) (tCall sp [] (fun _ _ _ => False) t) := by
  constructor
  intro pins s σ H Q I h
  apply wpAny_Call_Name_kw
  apply ld_glob I hg hm _ hdb
  refine PySem.W.callWith_K (h₀ := X.base) I.ok.mod.kin hk (thn (ha.run pos pins s σ H _ I h) fun us s1 hh => ?_) he hpl
  obtain ⟨xs, H1, I1, r, q⟩ := hh
  refine ⟨I1.kIn, ?_⟩
  have q' : sp xs H1 Q (fun _ _ _ => False) := by rw [List.append_nil] at q; exact q
  have hl : us.length = ps.length := by rw [← r.length]; exact F.len _ _ _ _ q'
  have hb' := hb s1 us I1.kIn (by rw [List.append_nil]; exact hl)
  rw [List.append_nil] at hb'
  refine wpAny_call (codeAny_mono (F.run X.A X.stack s1 H1 ⟨us, []⟩ us xs Q _ hgu hr I1.env0 hb' r q') fun r2 s2 hq => ?_)
  cases r2 with
  | error _ => exact hq.elim
  | ok fl =>
    cases fl with
    | ret _ => exact I1.after hq
    | next => exact hq.elim
    | brk => exact hq.elim
    | cont => exact hq.elim
end

section
variable {X : Cx}
/-- repr(x), x plain data -/
def rRep (K : PySem.W.Frag) : List V → Hp → VK → Prop := fun xs H Q => ∃ (x : V) (d : PyData), xs = [x] ∧ Dp K H x d ∧ (∃ a, x = .ref a) ∧ d.showable = true ∧ d.hasDict = false ∧ d.depth ≤ 20 ∧ d.shown.length ≤ sizeLine ∧ Q (.str d.shown) H
theorem call_rep (hgu : X.A.guards = some []) (hu : X.A.units + 64 < cLine) : CallR X (.builtin "repr") (rRep X.K) := by
  intro pins s σ H xs us Q I r h
  obtain ⟨x, d, rfl, hd, ⟨a, rfl⟩, hs, hn, hdep, hz, q⟩ := h
  cases r with
  | cons r1 r2 =>
    cases r2
    cases r1
    obtain ⟨as, rd⟩ := Dp.reads I d (.ref a) (.ref a) hd rfl
    refine repr_of_reads' rd hs (PyData.noDict_hsm hn) hgu (by omega) (fun _ _ z => z) (fun h' u tk hk => ?_) hz
    exact ⟨.str d.shown, H, I.kept (t' := tk) hk, ⟨_, rfl⟩, q⟩
end
/-! ### the law's head -/
theorem lawG {P : Program} {w : World} {K : PySem.W.Frag} {mg mb : Str → Option Value} {k : Nat} {fa a : Addr} {fd : FuncData} {x : Str} {sp : Sp} {s1 : Shared} {vs : List Value} {ns : List Int}
    (kin : K.In s1.heap) (hns : s1.heap.Ns mainGlobals mg) (hbn : s1.heap.Ns builtinsNs mb) (hbb : ∀ x : Str, x ≠ "__name__" → mb x = bootBuiltins x) (nolim : s1.heap.NoLimit) (hg : s1.gens = #[])
    (hobj : s1.heap.get? a = some { cls := .type "list", data := .seq vs.toArray }) (hi : IntsAre vs ns) (hz : ns.length ≤ sizeLine) (hr : Room k callerA)
    (F : ∀ base : Heap, K.In base → base.Ns mainGlobals mg → GOk P w K mg base k fa fd [x] sp) (hbind : ∀ (s : Shared) (u : Value), BindsTo s fd ⟨[u], []⟩ [(x, u)])
    (hsp : ∀ H : Hp, SqL K H a (ns.map V.int) → sp [.ref a] H (fun v _ => v = .bl true) fun _ _ _ => False) :
    codeAny (model P w) callerA (.call (.ref fa) ⟨[.ref a], []⟩) (fun r s2 => r = .ok (.ret (.bool true)) ∧ OldK s1.heap s2.heap ∧ s2.os = s1.os ∧ AllBare s2.gens) s1 := by
  have rel := vals_ints hi
  have same := hi.length
  have go : ∀ H : Hp, (∀ b u, H b = some u → b = a ∧ K.lookup a = none ∧ ∃ o xs, u = .frz o (.lst xs)) → SqL K H a (ns.map V.int) → HOk P w H s1.heap →
      codeAny (model P w) callerA (.call (.ref fa) ⟨[.ref a], []⟩) (fun r s2 => r = .ok (.ret (.bool true)) ∧ OldK s1.heap s2.heap ∧ s2.os = s1.os ∧ AllBare s2.gens) s1 := by
    intro H only hS hok
    have free : ∀ {b : Addr}, b ≠ a → H b = none := fun {b} hb => by
      cases q : H b with
      | none => rfl
      | some u => exact absurd (only b u q).1 hb
    have freeD : ∀ {b : Addr} {o : Obj} {es : Array DictEntry} {ep : Nat}, s1.heap.get? b = some o → o.data = .dict es ep → H b = none := fun {b o es ep} e d => by
      by_cases hb : b = a
      · subst hb
        rw [hobj] at e
        cases e
        cases d
      · exact free hb
    have ns2 : ∀ {b : Addr} {m : Str → Option Value}, s1.heap.Ns b m → (hidT s1.heap H).Ns b m := by
      rintro b m ⟨o, es, ep, e, d, r⟩
      exact ⟨o, es, ep, hidT_get e (freeD e d), d, r⟩
    have kin2 : K.In (hidT s1.heap H) := by
      intro b o e
      refine hidT_get (kin b o e) ?_
      cases q : H b with
      | none => rfl
      | some u =>
        obtain ⟨eb, nk, _⟩ := only b u q
        subst eb
        rw [nk] at e
        cases e
    have mod : Mod K mg (hidT s1.heap H) := by
      refine ⟨kin2, ns2 hns, ⟨mb, ns2 hbn, hbb⟩, ?_⟩
      obtain ⟨mc, h1, h2⟩ := nolim
      exact ⟨mc, ns2 h1, h2⟩
    have env : Env0 P w K mg (hidT s1.heap H) callerA [] s1 H :=
      ⟨rfl, mod, fun b o e => of_hidT e, Nat.le_of_eq (hidT_size _ _), trivial, fun b hb => (by cases (show b ∈ ([] : List Addr) from hb)), hok, .of_eq hg⟩
    have runs := (F _ kin2 (ns2 hns)).run callerA [] s1 H ⟨[.ref a], []⟩ [.ref a] [.ref a] (fun v _ => v = .bl true) (fun _ _ _ => False) rfl hr env (hbind s1 (.ref a)) (.cons rfl .nil) (hsp H hS)
    refine codeAny_mono runs fun r s2 h => ?_
    cases r with
    | error _ => exact h.elim
    | ok fl =>
      cases fl with
      | next => exact h.elim
      | brk => exact h.elim
      | cont => exact h.elim
      | ret u =>
        obtain ⟨v, H2, os, bare, un, hok2, r2, q⟩ := h
        have q2 : v = .bl true := q
        subst q2
        obtain rfl : u = Value.bool true := r2
        refine ⟨rfl, OldK.of_keep fun b o e => ?_, os, bare⟩
        cases z : H b with
        | none => exact un.keep b o e z (fun m => by cases (show b ∈ ([] : List Addr) from m)) (fun m => by cases m)
        | some u2 =>
          obtain ⟨_, _, ob, ys, eu⟩ := only b u2 z
          subst eu
          obtain ⟨e1, _⟩ := hok b _ z
          obtain ⟨e2, _⟩ := hok2 b _ (un.frzs b ob _ z)
          rw [e] at e1
          cases e1
          exact e2
  cases hk : K.lookup a with
  | some o =>
    have e := kin a o hk
    rw [hobj] at e
    cases e
    refine go (fun _ => none) (fun b u z => nomatch z) (.inr ⟨_, vs.toArray, _, hk, rfl, rfl, rfl, by rw [List.size_toArray, same]; exact hz, by simpa using rel⟩) (fun b u z => nomatch z)
  | none =>
    have at1 : ∀ {b : Addr} {u : HO}, (if b = a then some (HO.frz { cls := .type "list", data := .seq vs.toArray } (.lst (ns.map V.int))) else none) = some u → b = a ∧ u = .frz { cls := .type "list", data := .seq vs.toArray } (.lst (ns.map V.int)) := fun {b u} z => by
      by_cases hb : b = a
      · rw [if_pos hb] at z
        cases z
        exact ⟨hb, rfl⟩
      · rw [if_neg hb] at z
        cases z
    refine go (fun b => if b = a then some (.frz { cls := .type "list", data := .seq vs.toArray } (.lst (ns.map V.int))) else none) (fun b u z => ?_) (.inl (.inr ⟨{ cls := .type "list", data := .seq vs.toArray }, if_pos rfl⟩)) (fun b u z => ?_)
    · obtain ⟨e1, e2⟩ := at1 z
      exact ⟨e1, hk, _, _, e2⟩
    · obtain ⟨e1, e2⟩ := at1 z
      subst e1
      subst e2
      exact ⟨hobj, by rw [List.length_map]; exact hz, vs, _, rel, hobj⟩
theorem walkG {l : PySem.W.OpenLaw} {n k : Nat} {q : Program} {loose : List Str} {XP : (Str → Option Value) → Heap → Prop} {YP : World → Heap → Prop} {d : DefRec} {K : Params → PySem.W.Frag} {sp : PySem.W.Frag → Sp} {x : Str}
    (hn : l.most = some n) (hn2 : n ≤ sizeLine) (hdf : d.params.defaults = []) (hr : Room k callerA) (hY : ∀ (w : World) (h : Heap), YP w h → (K w.params).In h)
    (F : ∀ (w : World) (mg : Str → Option Value) (fa : Addr) (h : Heap), (K w.params).In h → h.Ns mainGlobals mg → mg d.name = some (.ref fa) →
      ∃ fd : FuncData, (∀ (s : Shared) (u : Value), BindsTo s fd ⟨[u], []⟩ [(x, u)]) ∧ ∀ base : Heap, (K w.params).In base → base.Ns mainGlobals mg → GOk l.prog w (K w.params) mg base k fa fd [x] (sp (K w.params)))
    (hsp : ∀ (K : PySem.W.Frag) (H : Hp) (a : Addr) (ns : List Int), ns.length ≤ n → SqL K H a (ns.map V.int) → sp K [.ref a] H (fun v _ => v = .bl true) fun _ _ _ => False) :
    PySem.W.WalkO q loose XP YP l.row.toRowW d [] (fun f vs => PySem.call f vs) := by
  apply Att.attach_call hn hdf
  intro w s0 s1 mg mb fa o pm cd doc a vs ns G Y ho hd hcd hmg hobj hints hlen hg
  have kin := hY w _ Y
  obtain ⟨fd, hb, hF⟩ := F w mg fa _ kin G.T.g hmg
  exact lawG kin G.T.g G.T.b G.T.builtins G.T.nolimit hg hobj hints (Nat.le_trans hlen hn2) hr hF hb fun H hS => hsp _ H a ns hlen hS
end SE
/-! Defs by their names. -/
namespace SE
open PySem PySem.Spec PyProof.Rows L2
section
variable {P : Program} {w : World} {K : PySem.W.Frag} {mg : Str → Option Value} {base : Heap}
/-- the def st stands under its name -/
def Def (K : PySem.W.Frag) (mg : Str → Option Value) (x : Str) (st : Stmt) : Prop := ∃ f fd, Fun K x x st f fd ∧ mg x = some (.ref f)
/-- a def that keeps the promise sp stands under the name x; dvs: the values of its defaults -/
def Has (P : Program) (w : World) (K : PySem.W.Frag) (mg : Str → Option Value) (base : Heap) (x : Str) (k : Nat) (ps : List Str) (dvs : List V) (sp : Sp) : Prop :=
  ∃ f fd ds, FnOk P w K mg base CX0 k f fd ps sp ∧ mg x = some (.ref f) ∧ PySem.W.keepIn K (.ref f) = true ∧ Binds K fd ps ds ∧ Vals dvs ds ∧ ∃ st, Fun K x x st f fd
def GHas (P : Program) (w : World) (K : PySem.W.Frag) (mg : Str → Option Value) (base : Heap) (x : Str) (k : Nat) (ps : List Str) (sp : Sp) : Prop :=
  ∃ f fd, GOk P w K mg base k f fd ps sp ∧ mg x = some (.ref f) ∧ PySem.W.keepIn K (.ref f) = true ∧ Binds K fd ps []
abbrev Bx (P : Program) (w : World) (K : PySem.W.Frag) (mg : Str → Option Value) (base : Heap) (N : List Str) (x : Str) (st : Stmt) (f : Addr) (cv : Value) (A : Around) (out : List Env) (s : Shared) (H : Hp) (E : XK) : Cx :=
  (cxOf CX0 P w K mg base N x (defScope st) f cv A out s H E).nox
theorem has_of {x : Str} {st : Stmt} {N ps : List Str} {k : Nat} {sp : Sp} (D : Def K mg x st) (S : FnScope N ps (defScope st))
    (hb : ∀ (kV doc pm : Value) (an : Option Addr) (cv ct : Value) (us : List Value), us.length = ps.length → bindArgs (PySem.W.fnOf x x (defArgs st) (defBody st) (defScope st) .none kV doc pm an cv ct) ⟨us, []⟩ = pure (ps.zip us))
    (len : ∀ xs H Q E, sp xs H Q E → xs.length = ps.length)
    (hbd : ∀ (f : Addr) (cv : Value) (A : Around) (out : List Env) (s : Shared) (H : Hp) (xs : List V) (Q : VK) (E : XK), Room k (A.deeper (envOfC x (defScope st) s.heap.objs.size f cv)) → sp xs H Q E →
      ∃ t, PSs (Bx P w K mg base N x st f cv A out s H E) (defBody st) t ∧ t { nx := fun _ H2 => Q .non H2, rt := Q } (start N xs) H) : Has P w K mg base x (k + 1) ps [] sp := by
  obtain ⟨f, fd, F, hm⟩ := D
  exact ⟨f, fd, [], F.ok S len fun cv A out s H xs Q E hr h => hbd f cv A out s H xs Q E hr h, hm, F.kp, F.binds hb, .nil, st, F⟩
theorem ghas_of {x : Str} {st : Stmt} {N ps : List Str} {k : Nat} {sp : Sp} (D : Def K mg x st) (S : FnScope N ps (defScope st))
    (hb : ∀ (kV doc pm : Value) (an : Option Addr) (cv ct : Value) (us : List Value), us.length = ps.length → bindArgs (PySem.W.fnOf x x (defArgs st) (defBody st) (defScope st) .none kV doc pm an cv ct) ⟨us, []⟩ = pure (ps.zip us))
    (len : ∀ xs H Q E, sp xs H Q E → xs.length = ps.length)
    (hbd : ∀ (f : Addr) (cv : Value) (A : Around) (out : List Env) (s : Shared) (H : Hp) (xs : List V) (Q : VK) (E : XK), A.guards = some [] → Room k (A.deeper (envOfC x (defScope st) s.heap.objs.size f cv)) → sp xs H Q E →
      ∃ t, PSs (Bx P w K mg base N x st f cv A out s H E) (defBody st) t ∧ t { nx := fun _ H2 => Q .non H2, rt := Q } (start N xs) H) : GHas P w K mg base x (k + 1) ps sp := by
  obtain ⟨f, fd, F, hm⟩ := D
  exact ⟨f, fd, gok_mk F S len fun cv A out s H xs Q E hg hr h => hbd f cv A out s H xs Q E hg hr h, hm, F.kp, F.binds hb⟩
theorem Has.mono {x : Str} {j k : Nat} {ps : List Str} {dvs : List V} {sp : Sp} (h : Has P w K mg base x j ps dvs sp) (hk : j ≤ k) : Has P w K mg base x k ps dvs sp := by
  obtain ⟨f, fd, ds, F, r⟩ := h
  exact ⟨f, fd, ds, F.mono hk, r⟩
theorem Has.fun {x : Str} {k : Nat} {ps : List Str} {dvs : List V} {sp : Sp} {st : Stmt} (h : Has P w K mg base x k ps dvs sp) (D : Def K mg x st) : ∃ f fd, FnOk P w K mg base CX0 k f fd ps sp ∧ mg x = some (.ref f) ∧ PySem.W.keepIn K (.ref f) = true ∧ Fun K x x st f fd := by
  obtain ⟨f, fd, ds, G, hm, hk, hb, hd, st2, F2⟩ := h
  obtain ⟨g, fe, F, hg⟩ := D
  have e : f = g := by
    rw [hm] at hg
    cases hg
    rfl
  subst e
  have e2 : fd = fe := by
    obtain ⟨_, _, _, _, _, _, _, _, _, _, l1, _⟩ := F.ex
    obtain ⟨_, _, _, _, _, _, _, _, _, _, l2, _⟩ := F2.ex
    rw [l1] at l2
    cases l2
    rfl
  subst e2
  exact ⟨f, fd, G, hm, hk, F⟩
end
section
variable {X : Cx} {k : Nat} {ps : List Str} {sp : Sp} {x : Str} {p pos : Pos} {e : Expr} {es : List Expr} {t : TA} {dvs : List V}
theorem pe_has (h : Has X.prog X.w X.K X.mg X.base x k ps dvs sp) (hr : Room k X.A) (ha : PA X (e :: es) t) (hg : Gl X x := by rfl) (hdb : (x == ("__debug__" : Str)) = false := by decide)
    (he : starEach (e :: es) X.env = (false, eval e X.env) :: starEach es X.env := by rfl) (hpl : (backTo pos (starEach es X.env)).any (·.1) = false := by rfl) : PE X (.Call (.Name x p) (e :: es) [] pos) (tCall sp dvs E0 t) := by
  obtain ⟨f, fd, ds, F, hm, hk, hb, hd, _⟩ := h
  exact pe_call F hr hg hm hk hb hd pass0 ha hdb he hpl
theorem pe_ghas (h : GHas X.prog X.w X.K X.mg X.base x k ps sp) (hgu : X.A.guards = some []) (hr : Room k X.A) (ha : PA X (e :: es) t) (hg : Gl X x := by rfl) (hdb : (x == ("__debug__" : Str)) = false := by decide)
    (he : starEach (e :: es) X.env = (false, eval e X.env) :: starEach es X.env := by rfl) (hpl : (backTo pos (starEach es X.env)).any (·.1) = false := by rfl) : PE X (.Call (.Name x p) (e :: es) [] pos) (tCall sp [] E0 t) := by
  obtain ⟨f, fd, F, hm, hk, hb⟩ := h
  exact pe_callG F hgu hr hg hm hk hb ha hdb he hpl
end
/-! ### heaps -/
theorem Same.tup {K : PySem.W.Frag} {H H' : Hp} {a : Addr} {xs : List V} (e : Same H H') (h : SqT K H a xs) : SqT K H' a xs := by
  rcases h with (h | ⟨o, h⟩) | h
  · exact .inl (.inl (e _ _ h))
  · exact .inl (.inr ⟨o, e _ _ h⟩)
  · exact .inr h
theorem Same.new {H : Hp} {p : Addr} {o : HO} (h : H p = none) : Same H (upd H p o) := fun b u z => by
  rw [upd_ne (ne_of_none z h)]
  exact z
/-- all but what stands at p -/
def But (p : Addr) (H H' : Hp) : Prop := ∀ b o, b ≠ p → H b = some o → H' b = some o
theorem But.refl (p : Addr) (H : Hp) : But p H H := fun _ _ _ h => h
theorem But.trans {p : Addr} {H H1 H2 : Hp} (a : But p H H1) (b : But p H1 H2) : But p H H2 := fun c o n h => b c o n (a c o n h)
theorem But.of {p : Addr} {H H1 : Hp} (a : Same H H1) : But p H H1 := fun c o _ h => a c o h
theorem But.at {p : Addr} {H : Hp} {o : HO} : But p H (upd H p o) := fun c u n h => by
  rw [upd_ne n]
  exact h
/-- what H does not know may change -/
theorem But.free {p q : Addr} {H H1 : Hp} {o : HO} (a : But p H H1) (h : H q = none) : But p H (upd H1 q o) := fun c u n z => by
  rw [upd_ne (ne_of_none z h)]
  exact a c u n z
theorem Same.free2 {q : Addr} {H H1 : Hp} {o : HO} (a : Same H H1) (h : H q = none) : Same H (upd H1 q o) := fun c u z => by
  rw [upd_ne (ne_of_none z h)]
  exact a c u z
theorem But.none {p q : Addr} {H H1 : Hp} (a : But p H H1) (n : q ≠ p) (h : H1 q = Option.none) : H q = Option.none := by
  cases z : H q with
  | none => rfl
  | some o =>
    rw [a q o n z] at h
    cases h
/-! ### the drawn numbers -/
/-- a pool: two numbers -/
structure Pool (H : Hp) (p : Addr) : Prop where
  ex : ∃ m s : Int, H p = some (.lst [.int m, .int s]) ∧ 0 ≤ m ∧ 0 ≤ s ∧ s < 2147483647
theorem Pool.ne {H : Hp} {p t : Addr} {xs : List V} (h : Pool H p) (ht : H t = some (.tup xs)) : t ≠ p := by
  obtain ⟨m, s, e, _⟩ := h.ex
  intro z
  rw [z, e] at ht
  cases ht
theorem Pool.free {H : Hp} {p q : Addr} (h : Pool H p) (hq : H q = none) : q ≠ p := by
  obtain ⟨m, s, e, _⟩ := h.ex
  intro z
  rw [z, e] at hq
  cases hq
theorem Pool.same {H H' : Hp} {p : Addr} (h : Pool H p) (s : Same H H') : Pool H' p := by
  obtain ⟨m, n, e, r⟩ := h.ex
  exact ⟨m, n, s _ _ e, r⟩
theorem Pool.upd {H : Hp} {p q : Addr} {o : HO} (h : Pool H p) (n : q ≠ p) : Pool (L2.upd H q o) p := by
  obtain ⟨m, k, e, r⟩ := h.ex
  exact ⟨m, k, by rw [upd_ne (Ne.symm n)]; exact e, r⟩
end SE
/-! enumerate(t) and t[::-1] of a tuple. -/
namespace SE
open PySem PySem.Spec PyProof.Rows L2
section
open Sem (wp)
open AutoSeq1 (wpAny_loadPart')
theorem meets_enum_newT (t : Addr) (items : Array Value) (n : Nat) (dct : Option Addr) (sl : Array (Option Value)) :
    Meets (Builtin.«enumerate.__new__» ⟨[.type "enumerate", .ref t], []⟩) (fun _ R s => s.heap.get? t = some { cls := .type "tuple", dict := dct, data := .seq items n, slots := sl } ∧
      R (.ok (.ret (.ref (s.heap.push { cls := .type "tuple_iterator", data := .fields #[.ref t, .int 0 0] }).objs.size)))
        { s with heap := (s.heap.push { cls := .type "tuple_iterator", data := .fields #[.ref t, .int 0 0] }).push { cls := .type "enumerate", data := .fields #[.none, .bool false, .ref s.heap.objs.size, rawInt 0, .none, .none] } }) := by
  refine .of_wp fun prog w A R s h => ?_
  obtain ⟨hp, g, d, tk, os⟩ := s
  obtain ⟨ht, h⟩ := h
  have hsub := sub_enumerate
  have hT : Heap.IsTuple (Shared.heap ⟨hp, g, d, tk, os⟩) t items := ⟨_, ht, rfl, n, rfl⟩
  wp_walk using wpAny_loadPart' ht
  refine wpAny_stack_any fun st => wpAny_pure ?_
  split
  · rename_i c _ _ _ _ _
    cases (c == Value.type "enumerate")
    · wp_walk using wpAny_loadPart' ht, wpAny_pyIter_tuple hT
      exact ⟨_, rfl, h⟩
    · wp_walk using wpAny_loadPart' ht, wpAny_pyIter_tuple hT
      exact ⟨_, rfl, h⟩
  · wp_walk using wpAny_loadPart' ht, wpAny_pyIter_tuple hT
    exact ⟨_, rfl, h⟩
end
section
variable {prog : Program} {w : World} {A : Around} {E : Value → Shared → Prop} {s : Shared}
theorem call_enumT {t : Addr} {items : Array Value} {Q : Value → Shared → Prop} (hT : s.heap.IsTuple t items)
    (h : ∀ h', IsEnum h' (s.heap.objs.size + 1) s.heap.objs.size 0 .none → h'.IsTupleIter s.heap.objs.size t 0 → (∀ b o, s.heap.get? b = some o → h'.get? b = some o) → Q (.ref (s.heap.objs.size + 1)) { s with heap := h' }) :
    wpAny (model prog w) A (call (.type "enumerate") [.ref t]) Q E s := by
  obtain ⟨⟨c, dct, dt, sl⟩, ht, hc, n, hd⟩ := hT
  simp only at hc hd
  subst hc hd
  refine callType_new F.called_enumerate (by decide) (F.typeCall_enumerate_1 _) (F.newCall_enumerate_1 _) (fun obj => F.args_object_init_2 obj _) F.entry_enumerate_new (meets_enum_newT t items n dct sl) ⟨ht, ?_⟩
  have hz : (s.heap.push { cls := .type "tuple_iterator", data := .fields #[.ref t, .int 0 0] }).objs.size = s.heap.objs.size + 1 := Heap.size_push ..
  show _ ∧ _
  rw [hz]
  have he : IsEnum ((s.heap.push { cls := .type "tuple_iterator", data := .fields #[.ref t, .int 0 0] }).push
      { cls := .type "enumerate", data := .fields #[.none, .bool false, .ref s.heap.objs.size, rawInt 0, .none, .none] }) (s.heap.objs.size + 1) s.heap.objs.size 0 .none := by
    have z := Heap.get?_push_size (s.heap.push { cls := .type "tuple_iterator", data := .fields #[.ref t, .int 0 0] })
      (o := { cls := .type "enumerate", data := .fields #[.none, .bool false, .ref s.heap.objs.size, rawInt 0, .none, .none] }) rfl
    rw [hz] at z
    exact z
  exact ⟨⟨_, he, rfl⟩, h _ he ⟨_, Heap.get?_push_of_some _ (Heap.get?_push_size _ rfl), rfl, rfl⟩ fun b o x => Heap.get?_push_of_some _ (Heap.get?_push_of_some _ x)⟩
end
/-- the tuple at a, each item in a new pair -/
def ItE (K : PySem.W.Frag) (a : Addr) : It :=
  ⟨fun i H => ∃ (xs : List V) (x : V), SqT K H a xs ∧ xs[i]? = some x, fun i H v H' => ∃ T x, v = .ref T ∧ H T = none ∧ H' = upd H T (.tup [.int (i : Nat), x]) ∧ ∀ xs, SqT K H a xs → xs[i]? = some x, fun i H => ∃ xs : List V, SqT K H a xs ∧ xs.length ≤ i⟩
theorem turn_enumT {P : Program} {w : World} {K : PySem.W.Frag} {elts : List Expr} {kk : Nat} {tpos : Pos} (a e it : Addr) :
    Turn P w K (.Tuple elts kk tpos) (ItE K a) [e, it] e (fun i h => (∃ old, IsEnum h e it ((i : Nat) : Int) old) ∧ h.IsTupleIter it a i ∧ e ≠ it ∧ a ≠ it ∧ a ≠ e) where
  mem := by simp
  obj := fun i h st b hb => by
    obtain ⟨⟨old, he⟩, ⟨o, ho, hc, hd⟩, _⟩ := st
    have ee : b = e ∨ b = it := by simpa using hb
    rcases ee with z | z
    · rw [z]
      exact ⟨_, he, fun v q => nomatch q⟩
    · rw [z]
      exact ⟨o, ho, fun v q => by rw [hd] at q; cases q⟩
  keep := fun i h h' st k => by
    obtain ⟨⟨old, he⟩, hi, hne⟩ := st
    exact ⟨⟨old, k e (by simp) _ he⟩, (let ⟨o, ho, r⟩ := hi; ⟨o, k it (by simp) o ho, r⟩), hne⟩
  item := by
    intro X hP hw hK hc i pins s σ H E I hf st hg
    subst hP hw hK
    obtain ⟨⟨old, he⟩, hit, hne, hai, hae⟩ := st
    obtain ⟨xs, x, hq, hx⟩ := hg
    obtain ⟨its, rv, p, hz⟩ := I.tuple hq
    obtain ⟨u, hu, ru⟩ := rv.get hx
    have hel : e < s.heap.objs.size := Heap.lt_size he
    have hil : it < s.heap.objs.size := by
      obtain ⟨_, q, _⟩ := hit
      exact Heap.lt_size q
    have hlt : i < its.toArray.size := by
      rw [List.size_toArray, ← rv.length]
      exact (List.getElem?_eq_some_iff.mp hx).1
    have D : Draws X.prog X.w X.A.in1 it [it, a] its.toArray.size (fun j v => its.toArray[j]? = some v) (fun j h => h.IsTupleIter it a j ∧ h.IsTuple a its.toArray) := Draws.tuple (A := X.A.in1) (I.ok.hd hc) it a hai its.toArray
    refine wpAny_pyNext_enum_itemD D he ⟨hit, p⟩ hlt hne (by simp [Ne.symm hae, hne]) fun v h1 tk hv ho hit1 hT hsz hk => ?_
    have ev : v = u := by
      have z : some v = some u := by rw [← hv]; simpa using hu
      exact Option.some.inj z
    subst ev
    refine ⟨_, rfl, wpAny_letOwnedTupleGo_enum (s := { s with heap := h1, toks := tk + 1 }) ho fun h2 he2 sb => ?_⟩
    have hT2 : h2.get? s.heap.objs.size = some { cls := .type "tuple", data := .seq #[.int i tk, v] } := (sb.2 _ (Nat.ne_of_gt hel)).trans hT
    have new : ObjOk X.prog X.w (upd H s.heap.objs.size (.tup [.int (i : Nat), x])) h2 s.heap.objs.size (.tup [.int (i : Nat), x]) :=
      ⟨by show 2 ≤ sizeLine; decide, [.int i tk, v], .cons ⟨_, rfl⟩ (.cons ru .nil), ⟨_, hT2, rfl, _, rfl⟩⟩
    have J : Inv X pins σ (upd H s.heap.objs.size (.tup [.int (i : Nat), x])) { s with heap := h2, toks := tk + 1 } :=
      I.turnedNew (ch := [e, it]) (fun b ob hb q => (sb.2 b (fun z => hb (by simp [z]))).trans (hk b ob (fun z => hb (by simp [z])) (fun z => hb (by simp [z])) q)) hf (Nat.le_refl _) new
    refine ⟨.ref s.heap.objs.size, _, J, rfl, ⟨_, x, rfl, I.hok.fresh (Nat.le_refl _), rfl, fun ys hy => by rw [I.tuple_inj hy hq]; exact hx⟩, ⟨⟨v, ?_⟩, ?_, hne, hai, hae⟩, fun b hb => ?_⟩
    · have e1 : ((i + 1 : Nat) : Int) = (i : Int) + 1 := by omega
      rw [e1]
      exact he2
    · obtain ⟨o, ho2, r⟩ := hit1.1
      exact ⟨o, (sb.2 it (Ne.symm hne)).trans ho2, r⟩
    · have hb2 : b < s.heap.objs.size := by
        have ee : b = e ∨ b = it := by simpa using hb
        rcases ee with z | z
        · rw [z]; exact hel
        · rw [z]; exact hil
      rw [upd_ne (Nat.ne_of_lt hb2)]
      exact (hf b hb).1
  done := by
    intro X hP hw hK hc i pins s σ H E I hf st hg
    subst hP hw hK
    obtain ⟨⟨old, he⟩, hit, hne, hai, hae⟩ := st
    obtain ⟨xs, hq, hx⟩ := hg
    obtain ⟨its, rv, p, hz⟩ := I.tuple hq
    obtain ⟨f0, f1, f2, f3, f4, f5⟩ := hf it (by simp)
    have hl := rv.length
    have D : Draws X.prog X.w X.A.in1 it [it, a] i (fun j v => its.toArray[j]? = some v) (fun j h => j = i ∧ h.IsTupleIter it a i ∧ h.IsTuple a its.toArray ∧ its.toArray.size ≤ i) := by
      have D0 := Draws.tuple (prog := X.prog) (w := X.w) (A := X.A.in1) (I.ok.hd hc) it a hai its.toArray
      refine ⟨fun j h z => D0.live i h ⟨z.2.1, z.2.2.1⟩, fun j h h' z k => ⟨z.1, (D0.frame i h h' ⟨z.2.1, z.2.2.1⟩ k).1, (D0.frame i h h' ⟨z.2.1, z.2.2.1⟩ k).2, z.2.2.2⟩, fun j s Q E hj z k => ?_, fun s Q E z k => ?_⟩
      · exact absurd z.1 (Nat.ne_of_lt hj)
      · exact wpAny_nextOf_tuple_end (I.ok.hd hc) z.2.1 z.2.2.1 (Array.getElem?_eq_none z.2.2.2) k
    exact wpAny_pyNext_enum_endD D he ⟨rfl, hit, p, by rw [List.size_toArray]; omega⟩ fun h' eb => ⟨rfl, I.turned (t' := s.toks) (fun b o hb q => eb b o hb q) f0 f1 f3 f4 f5⟩
  self := fun A i s Q E st h => let ⟨⟨_, he⟩, _⟩ := st; wpAny_pyIter_enum he h
def iEnumT (K : PySem.W.Frag) (ta : TA) : TI := fun σ H R => ta σ H fun vs H1 => ∃ a xs, vs = [.ref a] ∧ SqT K H1 a xs ∧ R (ItE K a) H1
theorem pi_enumT {X : Cx} {e : Expr} {ta : TA} {p pos tpos : Pos} {elts : List Expr} {kk : Nat} (hg : Gl X "enumerate") (hm : X.mg "enumerate" = none) (ha : PA X [e] ta) (hs : starEach [e] X.env = [(false, eval e X.env)] := by rfl) :
    PI X (.Tuple elts kk tpos) (.Call (.Name "enumerate" p) [e] [] pos) (iEnumT X.K ta) := by
  constructor
  intro pins s σ H R I h
  refine Call_ (ld_blt I hg hm boot_enumerate (PyProof.Rows.callWith_type1 (thn (ha.run pos pins s σ H _ I h) fun us s1 hh => ?_) hs rfl))
  obtain ⟨vs, H1, I1, r1, a, xs, ex, hq, q⟩ := hh
  subst ex
  cases r1 with
  | cons r rr =>
    cases rr
    cases r
    obtain ⟨its, rv, p2, hz⟩ := I1.tuple hq
    refine call_enumT p2 fun h2 he hit hk => wpAny_pyIter_enum he ?_
    have I2 : Inv X pins σ H1 { s1 with heap := h2 } := I1.kept (t' := s1.toks) hk
    have hlt : a < s1.heap.objs.size := p2.lt
    refine ⟨s1.heap.objs.size + 1, [s1.heap.objs.size + 1, s1.heap.objs.size], _, _, H1, rfl, I2, turn_enumT a (s1.heap.objs.size + 1) s1.heap.objs.size, ⟨⟨.none, he⟩, hit, Nat.succ_ne_self _, Nat.ne_of_lt hlt, Nat.ne_of_lt (Nat.lt_succ_of_lt hlt)⟩, fun b hb => ?_, q⟩
    have ee : b = s1.heap.objs.size + 1 ∨ b = s1.heap.objs.size := by simpa using hb
    have hle : s1.heap.objs.size ≤ b := by
      rcases ee with z | z
      · rw [z]; exact Nat.le_add_right _ _
      · rw [z]; exact Nat.le_refl _
    exact I1.fpOk hle (I1.hok.fresh hle)
/-! ### t[::-1] -/
section
variable {prog : Program} {w : World} {A : Around} {E : Value → Shared → Prop} {s : Shared}
theorem back_pick (xs : Array Value) (n : Nat) (hn : n = xs.size) : (List.range n).filterMap (fun (m : Nat) => xs[(((n : Int) - 1) + (m : Int) * (-1)).toNat]?) = xs.toList.reverse := by
  subst hn
  have e : (fun (m : Nat) => xs[(((xs.size : Nat) : Int) - 1 + (m : Int) * (-1)).toNat]?) = fun m => xs[xs.size - 1 - m]? := by
    funext m
    have z : (((xs.size : Nat) : Int) - 1 + (m : Int) * (-1)).toNat = xs.size - 1 - m := by omega
    rw [z]
  rw [e]
  have a := PySem.W.krv_pick xs
  have b : PySem.slicePick xs none none (some (-1)) = ((List.range xs.size).filterMap fun m => xs[xs.size - 1 - m]?).toArray := by
    unfold PySem.slicePick
    rw [PySem.W.krv_bounds]
    show ((PySem.sliceRange ((xs.size : Int) - 1) (-1) (-1)).filterMap (xs[·]?)).toArray = _
    rw [PySem.W.krv_sliceRange, List.filterMap_map]
    rfl
  have c := a.symm.trans b
  have d := congrArg Array.toList c
  exact d.symm
theorem applied_back {sl : Addr} {vs : Value} {n : Nat} {Q : Int × Int × Nat → Shared → Prop} (hs : s.heap.IsSliceOf sl .none .none vs) (pv : IsPart vs (some (-1)))
    (h : Q ((n : Int) - 1, -1, n) s) : wpAny (model prog w) A (Builtin.Slice.sliceApplied (.ref sl) (pure (n : Int))) Q E s := by
  obtain ⟨os, hos, hcs, hds⟩ := id hs
  unfold Builtin.Slice.sliceApplied Builtin.Slice.sliceFields
  refine wpAny_bind (wpAny_bind (wpAny_field hos hds (x := .none) rfl (wpAny_bind (wpAny_field hos hds (x := .none) rfl (wpAny_bind (wpAny_field hos hds (x := vs) rfl (wpAny_pure ?_)))))))
  refine wpAny_bind (HT.slicePart_ pv ?_)
  show wpAny _ _ (if ((-1 : Int) == 0) = true then _ else _) _ _ s
  rw [if_neg (by decide)]
  refine wpAny_bind (HT.slicePart_ .none (wpAny_bind (HT.slicePart_ .none (wpAny_bind (wpAny_pure ?_)))))
  show wpAny _ _ (pure ((n : Int) - 1, (-1 : Int), Builtin.Slice.slicePlaces ((n : Int) - 1) (-1) (-1))) _ _ s
  have e : Builtin.Slice.slicePlaces ((n : Int) - 1) (-1) (-1) = n := by
    unfold Builtin.Slice.slicePlaces
    rw [if_neg (by decide)]
    by_cases hn : (n : Int) - 1 > -1
    · rw [if_pos hn, show (- -1 : Int) = 1 by decide, Int.ediv_one]
      omega
    · rw [if_neg hn]
      omega
  rw [e]
  exact wpAny_pure h
theorem item_back {t sl : Addr} {items : Array Value} {vs : Value} {Q : Value → Shared → Prop} (ht : IsTup s.heap t items) (hs : s.heap.IsSliceOf sl .none .none vs) (pv : IsPart vs (some (-1)))
    (h : Q (.ref s.heap.objs.size) { s with heap := s.heap.push { cls := .type "tuple", data := .seq items.toList.reverse.toArray } }) (hsz : items.size ≤ sizeLine) : wpAny (model prog w) A (getItem (.ref t) (.ref sl)) Q E s := by
  have hok : sizeOk (.seq items.toList.reverse.toArray) := by
    show items.toList.reverse.toArray.size ≤ sizeLine
    rw [List.size_toArray, List.length_reverse, Array.length_toList]
    exact hsz
  obtain ⟨os, hos, hcs, hds⟩ := id hs
  have hTs : s.TypeIs (.ref sl) "slice" := ⟨os, hos, hcs⟩
  unfold getItem
  try with_reducible refine wpAny_holding ?_
  first | refine wpAny_bind (wpAny_pure ?_) | skip
  refine wpAny_bind (wpAny_sequenceKey ht.typeIs (by decide) ?_)
  refine wpAny_bind (wpAny_callSpecial?_slot (name := Str.ofString "__getitem__") ht.typeIs PyProof.Rows.slot_tuple_getitem (wpAny_call_entry PyProof.Rows.slot_tuple_getitem ht.typeIs entry_tuple_getitem ?_ (args_tuple_getitem _ _)))
  show wpAny _ _ (Builtin.Tuple.tupleItemsOf (.ref t) >>= _) _ _ s
  refine wpAny_bind (tupleItemsOf_ ht ?_)
  refine wpAny_bind (wpAny_typeOf hTs ?_)
  rw [if_pos (by decide)]
  refine wpAny_bind (applied_back hs pv ?_)
  have hno : ¬ ((((items.size : Int) - 1) == 0 && (-1 : Int) == 1 && items.size == items.size) = true) := by
    intro q
    rw [Bool.and_eq_true, Bool.and_eq_true] at q
    exact absurd q.1.2 (by decide)
  show wpAny _ _ (if (((items.size : Int) - 1) == 0 && (-1 : Int) == 1 && items.size == items.size) = true then _ else _) _ _ s
  rw [if_neg hno, back_pick items items.size rfl]
  first
    | exact wpAny_bind (m := Builtin.Tuple.tupleExact _) (wpAny_newObj_type (wpAny_pure ⟨_, rfl, wpAny_pure h⟩) hok)
    | exact wpAny_bind (m := Builtin.Tuple.tupleExact _) (wpAny_newObj_type (wpAny_bind (wpAny_pure (wpAny_pure ⟨_, rfl, wpAny_pure h⟩))) hok)
    | exact wpAny_bind (wpAny_bind (m := Builtin.Tuple.tupleExact _) (wpAny_newObj_type (wpAny_pure (wpAny_pure ⟨_, rfl, wpAny_pure h⟩)) hok))
    | exact wpAny_bind (wpAny_bind (m := Builtin.Tuple.tupleExact _) (wpAny_newObj_type (wpAny_pure ⟨_, rfl, wpAny_pure h⟩) hok))
end
def tRevT (K : PySem.W.Frag) (te : TE) : TE := fun σ H Q => te σ H fun x H1 => ∃ a xs, x = .ref a ∧ SqT K H1 a xs ∧ ∀ p, H1 p = none → Q (.ref p) (upd H1 p (.tup xs.reverse))
theorem pe_revT {X : Cx} {e : Expr} {te : TE} {k : Nat} {p1 p2 p3 pos : Pos} (he : PE X e te) : PE X (.Subscript e (.Slice none none (some (.UnaryOp .USub (.Constant (.int 1) k p1) p2)) p3) pos) (tRevT X.K te) := by
  constructor
  intro pins s σ H Q I h
  refine Subscript_ (thn (he.run pins s σ H _ I h) fun v s1 hh => ?_)
  obtain ⟨x, H1, I1, r1, a, xs, ex, hx, q⟩ := hh
  subst ex
  cases r1
  have hst : PO X (some (.UnaryOp .USub (.Constant (.int 1) k p1) p2)) (tPart (tUn (rU fun i => .int (-i)) (tC (.int 1)))) := po_some (pe_un un_neg pe_int)
  refine wpAny_Slice (thn (po_none.run pins s1 σ H1 (fun o H2 => o = none ∧ H2 = H1) I1 ⟨rfl, rfl⟩) fun vl s2 hl => ?_)
  obtain ⟨l, H2, I2, pl, el, e2⟩ := hl
  subst el e2
  refine thn (po_none.run pins s2 σ H2 (fun o H3 => o = none ∧ H3 = H2) I2 ⟨rfl, rfl⟩) fun vu s3 hu => ?_
  obtain ⟨u, H3, I3, pu, eu, e3⟩ := hu
  subst eu e3
  refine thn (hst.run pins s3 σ H3 (fun o H4 => o = some (-1) ∧ H4 = H3) I3 ⟨1, rfl, -1, rfl, rfl, rfl⟩) fun vs s4 ho => ?_
  obtain ⟨o, H4, I4, ps, eo, e4⟩ := ho
  subst eo e4
  cases pl
  cases pu
  have I5 : Inv X pins σ H4 { s4 with heap := s4.heap.push { cls := .type "slice", data := .fields #[.none, .none, vs] } } := I4.kept (t' := s4.toks) fun b ob q => Heap.get?_push_of_some _ q
  obtain ⟨its, r, ht, hz⟩ := I5.tuple hx
  have hlen := r.length
  show wpAny (model X.prog X.w) X.A (subscriptTail e (.Slice none none (some (.UnaryOp .USub (.Constant (.int 1) k p1) p2)) p3) (.ref a) (.ref s4.heap.objs.size)) (EP X pins σ Q) X.xe { s4 with heap := s4.heap.push { cls := .type "slice", data := .fields #[.none, .none, vs] } }
  refine tail_any (ops := [.ref a, .ref s4.heap.objs.size]) ht.typeIs (PyProof.Rows.slot_tuple_getitem.lookup) ?_ (by with_unfolding_all rfl)
  refine item_back ht (Heap.IsSliceOf.new _ .none .none vs) ps ?_ (by rw [List.size_toArray]; omega)
  refine ⟨.ref _, _, I5.laid (t' := s4.toks) (o := .tup xs.reverse) (fun b ob q => Heap.get?_push_of_some _ q) (Nat.le_refl _) ?_, rfl, q _ (I5.hok.fresh (Nat.le_refl _))⟩
  exact ⟨by rw [List.length_reverse]; exact hz, _, r.reverse, IsTup.new _ _⟩
end SE
/-! Plain data: texts, steps; when they are equal, how they are shown. -/
namespace SE
open PySem PySem.Spec PyProof.Rows L2
/-- a text that is an item -/
structure Item (z : Str) : Prop where
  pos : 1 ≤ z.length
  most : z.length ≤ 8
  low : ∀ c ∈ z.cps.toList, 97 ≤ c ∧ c ≤ 122
/-- data that may be compared and shown: its depth, its weight -/
structure Nice (k B : Nat) (d : PyData) : Prop where
  lay : d.canLay0 = true
  dep : d.depth ≤ k
  sh : d.showable = true
  nd : d.hasDict = false
  ish : d.intsShort 13 = true
  wt : d.weight ≤ B
theorem Nice.mono {k j B C : Nat} {d : PyData} (h : Nice k B d) (hk : k ≤ j) (hB : B ≤ C) : Nice j C d := ⟨h.lay, Nat.le_trans h.dep hk, h.sh, h.nd, h.ish, Nat.le_trans h.wt hB⟩
theorem nice_str {z : Str} {B : Nat} (hc : ∀ c ∈ z.cps.toList, c < 0x110000) (hB : z.length ≤ B) : Nice 0 B (.str z) := by
  refine ⟨?_, ?_, ?_, ?_, ?_, ?_⟩
  · simp only [PyData.canLay0, PyData.strOk]
    rw [← Array.all_toList, List.all_eq_true]
    intro c h
    exact decide_eq_true (hc c h)
  · simp only [PyData.depth]
    exact Nat.le_refl _
  · simp only [PyData.showable]
  · simp only [PyData.hasDict]
  · simp only [PyData.intsShort]
  · simp only [PyData.weight]
    exact hB
theorem Item.nice {z : Str} (h : Item z) : Nice 0 8 (.str z) := nice_str (fun c hc => by have := (h.low c hc).2; omega) h.most
theorem nice_all {k B : Nat} : ∀ {ds : List PyData}, (∀ d ∈ ds, Nice k B d) → PyData.canLayAll0 ds = true ∧ PyData.depthAll ds ≤ k ∧ PyData.showableAll ds = true ∧ PyData.hasDictAll ds = false ∧ PyData.intsShortAll 13 ds = true ∧ PyData.weightAll ds ≤ ds.length * (B + 1)
  | [], _ => by
    refine ⟨?_, ?_, ?_, ?_, ?_, ?_⟩
    · simp only [PyData.canLayAll0]
    · simp only [PyData.depthAll]
      exact Nat.zero_le _
    · simp only [PyData.showableAll]
    · simp only [PyData.hasDictAll]
    · simp only [PyData.intsShortAll]
    · simp only [PyData.weightAll]
      exact Nat.zero_le _
  | d :: ds, h => by
    obtain ⟨a1, a2, a3, a4, a5, a6⟩ := nice_all (ds := ds) fun x hx => h x (List.mem_cons_of_mem _ hx)
    have q := h d List.mem_cons_self
    refine ⟨?_, ?_, ?_, ?_, ?_, ?_⟩
    · simp only [PyData.canLayAll0, q.lay, a1, Bool.and_self]
    · simp only [PyData.depthAll]
      exact Nat.max_le.mpr ⟨q.dep, a2⟩
    · simp only [PyData.showableAll, q.sh, a3, Bool.and_self]
    · simp only [PyData.hasDictAll, q.nd, a4, Bool.or_self]
    · simp only [PyData.intsShortAll, q.ish, a5, Bool.and_self]
    · simp only [PyData.weightAll, List.length_cons]
      have := q.wt
      rw [Nat.add_mul]
      omega
theorem nice_list {k B : Nat} {ds : List PyData} (h : ∀ d ∈ ds, Nice k B d) : Nice (k + 1) (ds.length * (B + 1)) (.list ds) := by
  obtain ⟨a1, a2, a3, a4, a5, a6⟩ := nice_all h
  exact ⟨by simp only [PyData.canLay0]; exact a1, by simp only [PyData.depth]; omega, by simp only [PyData.showable]; exact a3, by simp only [PyData.hasDict]; exact a4, by simp only [PyData.intsShort]; exact a5, by simp only [PyData.weight]; exact a6⟩
theorem nice_tuple {k B : Nat} {ds : List PyData} (h : ∀ d ∈ ds, Nice k B d) : Nice (k + 1) (ds.length * (B + 1)) (.tuple ds) := by
  obtain ⟨a1, a2, a3, a4, a5, a6⟩ := nice_all h
  exact ⟨by simp only [PyData.canLay0]; exact a1, by simp only [PyData.depth]; omega, by simp only [PyData.showable]; exact a3, by simp only [PyData.hasDict]; exact a4, by simp only [PyData.intsShort]; exact a5, by simp only [PyData.weight]; exact a6⟩
theorem Nice.shaped {k B : Nat} {d : PyData} (h : Nice k B d) (hk : k ≤ 64) : SeqAt.shaped d = true := by
  unfold SeqAt.shaped
  rw [h.lay, Bool.true_and]
  exact decide_eq_true (Nat.le_trans h.dep hk)
theorem Nice.shown {k B : Nat} {d : PyData} (h : Nice k B d) (hk : k ≤ 64) (hB : B ≤ 2 ^ 20) : d.shown.length ≤ sizeLine := by
  refine PyData.shown_fits_of_layable0 (B := 13) (by decide) (by decide) ?_ h.ish
  unfold PyData.layable0
  rw [h.lay, Bool.true_and, Bool.and_eq_true]
  exact ⟨decide_eq_true (Nat.le_trans h.dep hk), decide_eq_true (Nat.le_trans h.wt hB)⟩
theorem Nice.eqv {k B : Nat} {d : PyData} (h : Nice k B d) : PyData.eqv d d = true := SeqAt.eqv_refl d h.lay
/-! ### texts -/
theorem dp_strs {K : PySem.W.Frag} {H : Hp} : ∀ zs : List Str, DpAll K H (zs.map V.str) (zs.map PyData.str)
  | [] => .nil
  | z :: zs => .cons (.str z) (dp_strs zs)
theorem eqvAll_strs : ∀ a b : List Str, PyData.eqvAll (a.map .str) (b.map .str) = decide (a = b)
  | [], [] => by simp [PyData.eqvAll]
  | [], y :: b => by simp [PyData.eqvAll]
  | x :: a, [] => by simp [PyData.eqvAll]
  | x :: a, y :: b => by
    rw [List.map_cons, List.map_cons]
    unfold PyData.eqvAll
    rw [eqvAll_strs a b]
    unfold PyData.eqv
    by_cases e : x = y
    · subst e
      simp
    · simp [e]
theorem eqv_listS (a b : List Str) : PyData.eqv (.list (a.map .str)) (.list (b.map .str)) = decide (a = b) := by
  unfold PyData.eqv
  exact eqvAll_strs a b
theorem eqv_tupS (a b : List Str) : PyData.eqv (.tuple (a.map .str)) (.tuple (b.map .str)) = decide (a = b) := by
  unfold PyData.eqv
  exact eqvAll_strs a b
theorem nice_strs {zs : List Str} (h : ∀ z ∈ zs, Item z) : ∀ d ∈ zs.map PyData.str, Nice 0 8 d := by
  intro d hd
  obtain ⟨z, hz, rfl⟩ := List.mem_map.mp hd
  exact (h z hz).nice
/-! ### steps -/
abbrev Stp := Bool × Str
def act (b : Bool) : Str := if b then "push" else "pop"
theorem act_nice (b : Bool) : Nice 0 8 (.str (act b)) := by
  cases b
  · exact nice_str (by decide +kernel) (by decide +kernel)
  · exact nice_str (by decide +kernel) (by decide +kernel)
def stepD (s : Stp) : PyData := .tuple [.str (act s.1), .str s.2]
theorem stepD_nice {s : Stp} (h : Item s.2) : Nice 1 18 (stepD s) := by
  refine (nice_tuple (k := 0) (B := 8) (ds := [.str (act s.1), .str s.2]) ?_).mono (Nat.le_refl _) (by show 2 * 9 ≤ 18; decide)
  intro d hd
  rcases List.mem_cons.mp hd with q | q
  · rw [q]
    exact act_nice _
  · rw [List.mem_singleton.mp q]
    exact h.nice
/-- a step -/
def StepV (K : PySem.W.Frag) (H : Hp) (v : V) (s : Stp) : Prop := ∃ t, v = .ref t ∧ SqT K H t [.str (act s.1), .str s.2]
abbrev StepsV (K : PySem.W.Frag) (H : Hp) : List V → List Stp → Prop := Paired (StepV K H)
theorem StepV.same {K : PySem.W.Frag} {H H' : Hp} {v : V} {s : Stp} (h : StepV K H v s) (e : Same H H') : StepV K H' v s := by
  obtain ⟨t, rfl, q⟩ := h
  exact ⟨t, rfl, Same.tup e q⟩
theorem StepsV.same {K : PySem.W.Frag} {H H' : Hp} {xs : List V} {ss : List Stp} (h : StepsV K H xs ss) (e : Same H H') : StepsV K H' xs ss := Paired.mapP h fun _ _ q => q.same e
theorem StepsV.at {K : PySem.W.Frag} {H : Hp} : ∀ {xs : List V} {ss : List Stp} {i : Nat} {v : V}, StepsV K H xs ss → xs[i]? = some v → ∃ s, ss[i]? = some s ∧ StepV K H v s
  | _, _, _, _, .nil, h => by simp at h
  | _, _, 0, _, .cons a _, h => by
    have e := Option.some.inj h
    subst e
    exact ⟨_, rfl, a⟩
  | _, _, i + 1, _, .cons _ r, h => StepsV.at (i := i) r h
theorem dp_steps {K : PySem.W.Frag} {H : Hp} : ∀ {xs : List V} {ss : List Stp}, StepsV K H xs ss → DpAll K H xs (ss.map stepD)
  | _, _, .nil => .nil
  | _, _, .cons a r => by
    obtain ⟨t, rfl, q⟩ := a
    exact .cons (.tup q (.cons (.str _) (.cons (.str _) .nil))) (dp_steps r)
theorem nice_steps {ss : List Stp} (h : ∀ s ∈ ss, Item s.2) : ∀ d ∈ ss.map stepD, Nice 1 18 d := by
  intro d hd
  obtain ⟨s, hs, rfl⟩ := List.mem_map.mp hd
  exact stepD_nice (h s hs)
theorem StepsV.rev {K : PySem.W.Frag} {H : Hp} : ∀ {xs : List V} {ss : List Stp}, StepsV K H xs ss → StepsV K H xs.reverse ss.reverse
  | _, _, .nil => .nil
  | _, _, .cons a r => by
    rw [List.reverse_cons, List.reverse_cons]
    exact (StepsV.rev r).snoc a
/-- the exchange of push and pop -/
def flip1 (s : Stp) : Stp := (!s.1, s.2)
def revM (ss : List Stp) : List Stp := ss.reverse.map flip1
/-- what a step makes of a stack -/
def stepM (s : Stp) (zs : List Str) : Option (List Str) := if s.1 then some (s.2 :: zs) else match zs with
  | [] => none
  | z :: r => if z = s.2 then some r else none
def runM : List Stp → List Str → Option (List Str)
  | [], zs => some zs
  | s :: ss, zs => match stepM s zs with
    | none => none
    | some ws => runM ss ws
theorem runM_append : ∀ (a b : List Stp) (zs : List Str), runM (a ++ b) zs = (runM a zs).bind (runM b)
  | [], b, zs => rfl
  | s :: a, b, zs => by
    show (match stepM s zs with | none => none | some ws => runM (a ++ b) ws) = (match stepM s zs with | none => none | some ws => runM a ws).bind (runM b)
    cases stepM s zs with
    | none => rfl
    | some ws => exact runM_append a b ws
theorem stepM_flip {s : Stp} {zs ws : List Str} (h : stepM s zs = some ws) : stepM (flip1 s) ws = some zs := by
  obtain ⟨b, x⟩ := s
  cases b with
  | true =>
    have e : x :: zs = ws := by
      have q : some (x :: zs) = some ws := h
      exact Option.some.inj q
    subst e
    show (if x = x then some zs else none) = some zs
    rw [if_pos rfl]
  | false =>
    cases zs with
    | nil => exact absurd h (by intro q; cases q)
    | cons z r =>
      have q : (if z = x then some r else none) = some ws := h
      by_cases e : z = x
      · rw [if_pos e] at q
        have e2 := Option.some.inj q
        subst e2
        subst e
        rfl
      · rw [if_neg e] at q
        cases q
theorem runM_rev : ∀ (ss : List Stp) (zs ws : List Str), runM ss zs = some ws → runM (revM ss) ws = some zs
  | [], zs, ws, h => by
    have e : zs = ws := Option.some.inj h
    subst e
    rfl
  | s :: ss, zs, ws, h => by
    have h' : (match stepM s zs with | none => none | some ys => runM ss ys) = some ws := h
    cases e : stepM s zs with
    | none =>
      rw [e] at h'
      cases h'
    | some ys =>
      rw [e] at h'
      have ih := runM_rev ss ys ws h'
      show runM ((s :: ss).reverse.map flip1) ws = some zs
      rw [List.reverse_cons, List.map_append, runM_append]
      have ih' : runM (ss.reverse.map flip1) ws = some ys := ih
      rw [ih']
      show (match stepM (flip1 s) ys with | none => none | some ws => runM [] ws) = some zs
      rw [stepM_flip e]
      rfl
theorem revM_revM (ss : List Stp) : revM (revM ss) = ss := by
  unfold revM
  rw [← List.map_reverse, List.reverse_reverse, List.map_map]
  have e : flip1 ∘ flip1 = id := by
    funext s
    obtain ⟨b, x⟩ := s
    cases b <;> rfl
  rw [e, List.map_id]
theorem revM_items {ss : List Stp} (h : ∀ s ∈ ss, Item s.2) : ∀ s ∈ revM ss, Item s.2 := by
  intro s hs
  obtain ⟨t, ht, rfl⟩ := List.mem_map.mp hs
  exact h t (List.mem_reverse.mp ht)
theorem stepM_items {s : Stp} {zs ws : List Str} (h : stepM s zs = some ws) (hs : Item s.2) (hz : ∀ z ∈ zs, Item z) : ∀ z ∈ ws, Item z := by
  obtain ⟨b, x⟩ := s
  cases b with
  | true =>
    have e : x :: zs = ws := Option.some.inj (show some (x :: zs) = some ws from h)
    subst e
    intro z m
    rcases List.mem_cons.mp m with q | q
    · rw [q]
      exact hs
    · exact hz z q
  | false =>
    cases zs with
    | nil => exact absurd h (by intro q; cases q)
    | cons y r =>
      have q : (if y = x then some r else none) = some ws := h
      by_cases e : y = x
      · rw [if_pos e] at q
        have e2 := Option.some.inj q
        subst e2
        exact fun z m => hz z (List.mem_cons_of_mem _ m)
      · rw [if_neg e] at q
        cases q
theorem stepM_len {s : Stp} {zs ws : List Str} (h : stepM s zs = some ws) : ws.length ≤ zs.length + 1 := by
  obtain ⟨b, x⟩ := s
  cases b with
  | true =>
    have e : x :: zs = ws := Option.some.inj (show some (x :: zs) = some ws from h)
    subst e
    exact Nat.le_refl _
  | false =>
    cases zs with
    | nil => exact absurd h (by intro q; cases q)
    | cons y r =>
      have q : (if y = x then some r else none) = some ws := h
      by_cases e : y = x
      · rw [if_pos e] at q
        have e2 := Option.some.inj q
        subst e2
        rw [List.length_cons]
        omega
      · rw [if_neg e] at q
        cases q
end SE
namespace SE
open PySem PySem.Spec PyProof.Rows L2
def topS (i : Nat) : Stmt := PySem.Challenge.pw_stackeffect_k52_several_stacks_run.main.body.getD i (.Pass ⟨0, 0, 0, 0⟩)
abbrev sStackerror : Stmt := topS 1
abbrev sInvalidsteps : Stmt := topS 2
abbrev sInvalidstacks : Stmt := topS 3
abbrev sIsItem : Stmt := topS 9
abbrev sIsWord : Stmt := topS 10
abbrev sIsStep : Stmt := topS 11
abbrev sMayHold : Stmt := topS 12
abbrev sTooHigh : Stmt := topS 13
abbrev sAfter : Stmt := topS 14
abbrev sFollow : Stmt := topS 15
abbrev sIsNamedStep : Stmt := topS 17
abbrev sCheckNamedSteps : Stmt := topS 18
abbrev sAreStacks : Stmt := topS 19
abbrev sCheckStacks : Stmt := topS 20
abbrev sSplit : Stmt := topS 21
abbrev sRunAll : Stmt := topS 22
abbrev sPool : Stmt := topS 24
abbrev sTake : Stmt := topS 25
abbrev sName : Stmt := topS 26
abbrev sItems : Stmt := topS 27
abbrev sSteps : Stmt := topS 28
abbrev sWord : Stmt := topS 29
abbrev sLawNamed : Stmt := topS 30
abbrev sLawNamedWell : Stmt := topS 31
abbrev sLawParts : Stmt := topS 32
abbrev sLawEffect : Stmt := topS 33
abbrev sLawDue : Stmt := topS 34
abbrev sRight : Stmt := topS 35
abbrev sLawTold : Stmt := topS 36
abbrev sLaw : Stmt := topS 37
end SE
namespace SE
open PySem PySem.Spec PyProof.Rows L2
section
variable {P : Program} {w : World} {K : PySem.W.Frag} {mg : Str → Option Value} {base : Heap}
/-! ### _law_take -/
def spTake : Sp := fun xs H Q _ => ∃ (p : Addr) (n : Int), xs = [.ref p, .int n] ∧ Pool H p ∧ 1 ≤ n ∧ n ≤ 100000 ∧
  ∀ (r : Int) (H' : Hp), But p H H' → Pool H' p → 0 ≤ r → r < n → Q (.int r) H'
theorem scTake : FnScope ["_law_pool_here", "_law_many", "_law_found"] ["_law_pool_here", "_law_many"] (defScope sTake) := ⟨rfl, rfl, rfl, by decide +kernel, rfl, by decide +kernel, by decide +kernel⟩
theorem has_take (D : Def K mg "_law_take" sTake) : Has P w K mg base "_law_take" 1 ["_law_pool_here", "_law_many"] [] spTake := by
  refine has_of D scTake (fun _ _ _ _ _ _ us hl => match us, hl with | [_, _], _ => rfl) (fun xs H Q E h => ?_) (fun f cv A out s H xs Q E hr h => ?_)
  · obtain ⟨p, n, rfl, _⟩ := h
    rfl
  · obtain ⟨p, n, rfl, hp, h1, h2, k⟩ := h
    obtain ⟨m, z, e, hm, hz0, hz1⟩ := hp.ex
    have a0 : atI [V.int m, V.int z] 0 = some (.int m) := atI_nat (j := 0) rfl
    refine ⟨_, pss_cons (ps_if (pt_cmpR op_gt (pe_ix ix_list (pv 0) pe_int (fun _ _ => rfl)) pe_int (nomark _))
        (pss_cons (ps_set (i := 2) scTake.nd rfl (.inl rfl) (pe_op op_modN (pe_ix ix_list (pv 0) pe_int (fun _ _ => rfl)) (pv 1)))
        (pss_cons (ps_asg (pe_op op_fdivN (pe_ix ix_list (pv 0) pe_int (fun _ _ => rfl)) (pv 1)) (pg_sub (pv 0) pe_int set_list))
        (pss_one (ps_ret (pv 2))))) pss_nil)
      (pss_cons (ps_asg (pe_op op_mod (pe_op op_add (pe_op op_mul (pe_ix ix_list (pv 0) pe_int (fun _ _ => rfl)) pe_int) pe_int) pe_int) (pg_sub (pv 0) pe_int set_list))
      (pss_one (ps_ret (pe_op op_modN (pe_op op_fdiv (pe_op op_mod (pe_op op_mul (pe_ix ix_list (pv 0) pe_int (fun _ _ => rfl)) (pe_ix ix_list (pv 0) pe_int (fun _ _ => rfl))) pe_int) pe_int) (pv 1))))), ?_⟩
    refine ⟨.ref p, rfl, p, _, 0, _, rfl, rfl, .of e, a0, m, 0, rfl, rfl, _, rfl, ite2 (fun c => ?_) (fun c => ?_)⟩
    · refine ⟨.ref p, rfl, p, _, 0, _, rfl, rfl, .of e, a0, .int n, rfl, m, n, rfl, rfl, (by omega), ?_⟩
      refine ⟨.ref p, rfl, p, _, 0, _, rfl, rfl, .of e, a0, .int n, rfl, m, n, rfl, rfl, ⟨by omega, by omega⟩, .ref p, rfl, p, _, 0, 0, rfl, rfl, e, rfl, ?_⟩
      refine ⟨_, rfl, k _ _ .at ⟨m.fdiv n, z, upd_same, ?_, hz0, hz1⟩ ?_ ?_⟩
      · rw [Int.fdiv_eq_ediv_of_nonneg _ (by omega)]
        exact Int.ediv_nonneg hm (by omega)
      · rw [Int.fmod_eq_emod_of_nonneg _ (by omega)]
        exact Int.emod_nonneg _ (by omega)
      · rw [Int.fmod_eq_emod_of_nonneg _ (by omega)]
        exact Int.emod_lt_of_pos _ (by omega)
    · have a1 : atI [V.int m, V.int z] 1 = some (.int z) := atI_nat (j := 1) rfl
      refine ⟨.ref p, rfl, p, _, 1, _, rfl, rfl, .of e, a1, z, 48271, rfl, rfl, .inl ⟨by omega, by omega⟩, _, 11, rfl, rfl, _, 2147483647, rfl, rfl, (by show (0 : Int) < 2147483647; decide), .ref p, rfl, p, _, 1, 1, rfl, rfl, e, rfl, ?_⟩
      have q0 : 0 ≤ (z * 48271 + 11) % 2147483647 := Int.emod_nonneg _ (by omega)
      have q1 : (z * 48271 + 11) % 2147483647 < 2147483647 := Int.emod_lt_of_pos _ (by omega)
      have e' : (upd H p (.lst ([V.int m, V.int z].set 1 (.int ((z * 48271 + 11) % 2147483647))))) p = some (.lst [V.int m, .int ((z * 48271 + 11) % 2147483647)]) := upd_same
      have a1' : atI [V.int m, V.int ((z * 48271 + 11) % 2147483647)] 1 = some (.int ((z * 48271 + 11) % 2147483647)) := atI_nat (j := 1) rfl
      refine ⟨.ref p, rfl, p, _, 1, _, rfl, rfl, .of e', a1', .ref p, rfl, p, _, 1, _, rfl, rfl, .of e', a1', ((z * 48271 + 11) % 2147483647), ((z * 48271 + 11) % 2147483647), rfl, rfl, .inl ⟨by omega, by omega⟩, _, 2147483629, rfl, rfl, (by show (0 : Int) < 2147483629; decide), _, 64, rfl, rfl, ⟨by decide, by decide⟩, .int n, rfl, _, n, rfl, rfl, (by omega), ?_⟩
      refine k _ _ .at ⟨m, ((z * 48271 + 11) % 2147483647), upd_same, hm, q0, q1⟩ ?_ ?_
      · rw [Int.fmod_eq_emod_of_nonneg _ (by omega)]
        exact Int.emod_nonneg _ (by omega)
      · rw [Int.fmod_eq_emod_of_nonneg _ (by omega)]
        exact Int.emod_lt_of_pos _ (by omega)
/-! ### _law_pool -/
def spPool (K : PySem.W.Frag) : Sp := fun xs H Q _ => ∃ (a : Addr) (ns : List Int) (i : Int), xs = [.ref a, .int i] ∧ SqL K H a (ns.map V.int) ∧ 0 ≤ i ∧ i ≤ 63 ∧
  ∀ (p : Addr) (H' : Hp), Same H H' → H p = none → Pool H' p → Q (.ref p) H'
theorem scPool : FnScope ["_law_script", "_law_k", "_law_cell", "_law_size", "_law_seed"] ["_law_script", "_law_k"] (defScope sPool) := ⟨rfl, rfl, rfl, by decide +kernel, rfl, by decide +kernel, by decide +kernel⟩
theorem has_pool (D : Def K mg "_law_pool" sPool) (ml : mg "len" = none) (ma : mg "abs" = none) (mi : mg "int" = none) : Has P w K mg base "_law_pool" 1 ["_law_script", "_law_k"] [] (spPool K) := by
  refine has_of D scPool (fun _ _ _ _ _ _ us hl => match us, hl with | [_, _], _ => rfl) (fun xs H Q E h => ?_) (fun f cv A out s H xs Q E hr h => ?_)
  · obtain ⟨a, ns, i, rfl, _⟩ := h
    rfl
  · obtain ⟨a, ns, i, rfl, hS, h0, h1, k⟩ := h
    refine ⟨_, pss_cons (ps_set (i := 2) scPool.nd rfl (.inl rfl) pe_int)
      (Evl.pss_cut (ps_if (pt_cmpR op_lt (pv 1) (pe_callB call_len_seq (by rfl) ml PySem.boot_len (pa_cons (pv 0) pa_nil)) (nomark _))
        (pss_one (ps_set (i := 2) scPool.nd rfl (.inl rfl) (pe_ix ix_list (pv 0) (pv 1) (fun _ _ => rfl)))) pss_nil)
      (pss_cons (ps_set (i := 3) scPool.nd rfl (.inl rfl) (pe_callB call_abs (by rfl) ma (by decide +kernel) (pa_cons (pv 2) pa_nil)))
      (pss_cons (ps_set (i := 4) scPool.nd rfl (.inl rfl) (pe_op op_mod (pe_op op_pow (pe_op op_add (pe_op op_add (pe_op op_add (pe_op op_mod (pv 2) pe_int) (pe_op op_mul (pe_op op_mul pe_int (pv 1)) (pv 1))) (pe_op op_mul pe_int (pv 1))) pe_int) pe_int) pe_int))
      (pss_one (ps_ret (pe_lst (pa_cons (pe_op op_mul (pv 3) (pe_callTy call_int1 (by rfl) mi (by decide +kernel) (pa_cons (pe_cmpR op_ge (pv 3) (pe_op op_pow pe_int pe_int) (nomark _)) pa_nil))) (pa_cons (pv 4) pa_nil)))))))), ?_⟩
    refine ⟨fun σ H2 => H2 = H ∧ ∃ c : Int, σ = [some (.ref a), some (.int i), some (.int c), none, none], ?_, ?_⟩
    · refine ⟨_, rfl, .ref a, rfl, a, _, rfl, .inl hS, i, _, rfl, rfl, _, rfl, ite2 (fun c => ?_) (fun c => ?_)⟩
      · have hi : i < ((ns.map V.int).length : Int) := of_decide_eq_true c
        rw [List.length_map] at hi
        have hj : i.toNat < ns.length := by omega
        refine ⟨.ref a, rfl, .int i, rfl, a, _, i, .int ns[i.toNat], rfl, rfl, hS, at_of (j := i.toNat) (by omega) ?_, rfl, ns[i.toNat], rfl⟩
        rw [List.getElem?_map, List.getElem?_eq_getElem hj]
        rfl
      · exact ⟨rfl, 0, rfl⟩
    · rintro σ H2 ⟨rfl, c, rfl⟩
      refine ⟨_, rfl, c, rfl, ?_⟩
      refine ⟨_, rfl, c, 2147483629, rfl, rfl, (by show (0 : Int) < 2147483629; decide), _, rfl, 104729, i, rfl, rfl, .inl ⟨by decide, by decide⟩, _, rfl, _, i, rfl, rfl, .inr ⟨by omega, by omega⟩, _, _, rfl, rfl, _, rfl, 7919, i, rfl, rfl, .inl ⟨by decide, by decide⟩, _, _, rfl, rfl, _, 11, rfl, rfl, _, 3, rfl, rfl, ⟨by decide, by decide, ?_⟩, _, 2147483647, rfl, rfl, (by show (0 : Int) < 2147483647; decide), ?_⟩
      · have b0 : 0 ≤ c % 2147483629 := Int.emod_nonneg _ (by omega)
        have b1 : c % 2147483629 < 2147483629 := Int.emod_lt_of_pos _ (by omega)
        have b2 : 0 ≤ 104729 * i * i := Int.mul_nonneg (by omega) h0
        have b3 : 104729 * i * i ≤ 104729 * 63 * 63 := Int.mul_le_mul (by omega) h1 h0 (by omega)
        omega
      · have t0 : ∀ y : Int, 0 ≤ y ^ 3 % 2147483647 ∧ y ^ 3 % 2147483647 < 2147483647 := fun y => ⟨Int.emod_nonneg _ (by omega), Int.emod_lt_of_pos _ (by omega)⟩
        have u0 : 0 ≤ (if c < 0 then -c else c) := by
          split <;> omega
        refine ⟨_, rfl, _, rfl, 10, 18, rfl, rfl, ⟨by decide, by decide, by decide⟩, _, _, rfl, rfl, .inr ⟨_, rfl, ?_⟩⟩
        have b01 : ∀ b : Bool, (0 : Int) ≤ (if b = true then 1 else 0) ∧ (if b = true then (1 : Int) else 0) ≤ 1 := fun b => by cases b <;> decide
        have g := b01 (decide (10 ^ Int.toNat 18 ≤ if c < 0 then -c else c))
        refine ⟨_, _, rfl, rfl, .inr ⟨by omega, by omega⟩, _, rfl, (by show 2 ≤ sizeLine; decide), fun p hp => k p _ (Same.new hp) hp ⟨_, _, upd_same, Int.mul_nonneg u0 g.1, (t0 _).1, (t0 _).2⟩⟩
end
end SE
namespace SE
open PySem PySem.Spec PyProof.Rows L2
theorem len_add (x y : Str) : (x ++ y).length = x.length + y.length := by
  show (x.cps ++ y.cps).size = _
  rw [Array.size_append]
  rfl
theorem cps_add (x y : Str) : (x ++ y).cps.toList = x.cps.toList ++ y.cps.toList := by
  show (x.cps ++ y.cps).toList = _
  exact Array.toList_append
abbrev abc : Str := Str.ofString "abcdefghijklmnopqrstuvwxyz"
theorem abc_len : abc.length = 26 := by decide +kernel
theorem abc_at (i : Nat) (h : i < 26) : ∃ c, abc.cps[i]? = some c ∧ 97 ≤ c ∧ c ≤ 122 := by
  have q : ∀ j : Fin 26, (abc.cps[j.1]?).any (fun c => decide (97 ≤ c) && decide (c ≤ 122)) = true := by decide +kernel
  have z := q ⟨i, h⟩
  simp only [Option.any_eq_true, Bool.and_eq_true, decide_eq_true_eq] at z
  obtain ⟨c, h1, h2, h3⟩ := z
  exact ⟨c, h1, h2, h3⟩
section
variable {P : Program} {w : World} {K : PySem.W.Frag} {mg : Str → Option Value} {base : Heap}
/-! ### _law_name -/
def spName : Sp := fun xs H Q _ => ∃ (p : Addr), xs = [.ref p] ∧ Pool H p ∧ ∀ (z : Str) (H' : Hp), But p H H' → Pool H' p → Item z → Q (.str z) H'
theorem scName : FnScope ["_law_pool_here", "_law_letters", "_law_found", "_law_turn"] ["_law_pool_here"] (defScope sName) := ⟨rfl, rfl, rfl, by decide +kernel, rfl, by decide +kernel, by decide +kernel⟩
theorem has_name (D : Def K mg "_law_name" sName) (GT : Has P w K mg base "_law_take" 1 ["_law_pool_here", "_law_many"] [] spTake) (mr : mg "range" = none) : Has P w K mg base "_law_name" 2 ["_law_pool_here"] [] spName := by
  refine has_of D scName (fun _ _ _ _ _ _ us hl => match us, hl with | [_], _ => rfl) (fun xs H Q E h => ?_) (fun f cv A out s H xs Q E hr h => ?_)
  · obtain ⟨p, rfl, _⟩ := h
    rfl
  · obtain ⟨p, rfl, hp, k⟩ := h
    refine ⟨_, pss_cons (ps_set (i := 1) scName.nd rfl (.inl rfl) pe_str)
      (pss_cons (ps_set (i := 2) scName.nd rfl (.inl rfl) (pe_item_str (pv 1) (pe_has GT hr (pa_cons (pv 0) (pa_cons pe_int pa_nil))) (fun _ _ => rfl)))
      (pss_cons (ps_for PassesOwn.never rfl (pi_range1 (by rfl) mr (pa_cons (pe_has GT hr (pa_cons (pv 0) (pa_cons pe_int pa_nil))) pa_nil)) (pg_name (i := 3) scName.nd rfl (.inl rfl))
        (pss_one (ps_set (i := 2) scName.nd rfl (.inl rfl) (pe_op op_add_str (pv 2) (pe_item_str (pv 1) (pe_has GT hr (pa_cons (pv 0) (pa_cons pe_int pa_nil))) (fun _ _ => rfl))))))
      (pss_one (ps_ret (pv 2))))), ?_⟩
    refine ⟨_, rfl, _, rfl, p, 26, rfl, hp, by decide, by decide, fun r H1 b1 p1 r0 r1 => ?_⟩
    obtain ⟨c, hc, c0, c1⟩ := abc_at r.toNat (by omega)
    refine ⟨abc, r, c, rfl, rfl, r0, by omega, ?_, hc, ?_⟩
    · have := abc_len
      rw [this]
      omega
    refine ⟨_, rfl, p, 8, rfl, p1, by decide, by decide, fun n H2 b2 p2 n0 n1 => ?_⟩
    refine ⟨n, rfl, by omega, by omega, for_range (lo := 0) (n := n.toNat) (fun i σ H3 => ∃ (z : Str) (y : Option V), σ = [some (.ref p), some (.str abc), some (.str z), y] ∧ But p H H3 ∧ Pool H3 p ∧ z.length = i + 1 ∧ ∀ c ∈ z.cps.toList, 97 ≤ c ∧ c ≤ 122) ?_ ?_ ?_⟩
    · refine ⟨⟨#[c]⟩, none, rfl, b1.trans b2, p2, rfl, fun d hd => ?_⟩
      obtain rfl : d = c := by simpa using hd
      exact ⟨c0, c1⟩
    · rintro i σ H3 hi ⟨z, y, rfl, b3, p3, hz, hl⟩
      refine ⟨_, rfl, _, rfl, _, rfl, p, 26, rfl, p3, by decide, by decide, fun r2 H4 b4 p4 s0 s1 => ?_⟩
      obtain ⟨d, hd, d0, d1⟩ := abc_at r2.toNat (by omega)
      refine ⟨abc, r2, d, rfl, rfl, s0, by omega, ?_, hd, z, ⟨#[d]⟩, rfl, rfl, ?_, z ++ ⟨#[d]⟩, _, rfl, b3.trans b4, p4, ?_, fun e he => ?_⟩
      · have := abc_len
        rw [this]
        omega
      · rw [hz]
        exact Nat.le_of_lt (small1000 (show i + 1 + 1 ≤ 1000 by omega))
      · rw [len_add, hz]
        rfl
      · rw [cps_add] at he
        rcases List.mem_append.mp he with q | q
        · exact hl e q
        · obtain rfl : e = d := by simpa using q
          exact ⟨d0, d1⟩
    · rintro σ H3 ⟨z, y, rfl, b3, p3, hz, hl⟩
      exact ⟨_, rfl, k z H3 b3 p3 ⟨by omega, by omega, hl⟩⟩
end
end SE
namespace SE
open PySem PySem.Spec PyProof.Rows L2
theorem nodup_le {α : Type} [DecidableEq α] : ∀ {ys zs : List α}, ys.Nodup → (∀ y ∈ ys, y ∈ zs) → ys.length ≤ zs.length
  | [], _, _, _ => Nat.zero_le _
  | y :: ys, zs, nd, h => by
    obtain ⟨n1, n2⟩ := List.nodup_cons.mp nd
    have hy : y ∈ zs := h y List.mem_cons_self
    have ih := nodup_le (zs := zs.erase y) n2 fun x hx => (List.mem_erase_of_ne (fun e => n1 (by rw [← e]; exact hx))).mpr (h x (List.mem_cons_of_mem _ hx))
    rw [List.length_erase_of_mem hy] at ih
    have : 0 < zs.length := List.length_pos_of_mem hy
    rw [List.length_cons]
    omega
theorem yes_in {σ : L2.St} {H : Hp} {F G : Hp → Prop} (h : F H) : tYes σ H (fun b H3 => if b = true then F H3 else G H3) := by
  show if true = true then F H else G H
  exact iteT h
theorem eqV_str (a b : Str) : eqV (.str a) (.str b) = (a == b) := by
  unfold eqV
  rfl
theorem inV_str (z : Str) : ∀ zs : List Str, inV (.str z) (zs.map V.str) = decide (z ∈ zs)
  | [] => by simp [inV]
  | y :: zs => by
    have ih := inV_str z zs
    unfold inV at ih ⊢
    rw [List.map_cons, List.any_cons, ih, eqV_str]
    by_cases e : y = z
    · subst e
      simp
    · have e2 : ¬ z = y := fun q => e q.symm
      simp [e, e2]
theorem flat_strs : ∀ zs : List Str, (zs.map V.str).all flatV = true
  | [] => rfl
  | y :: zs => by
    rw [List.map_cons, List.all_cons, flat_strs zs]
    rfl
/-- the names that are taken where one is drawn twice -/
def spare : List Str := abc.cps.toList.map fun c => (⟨#[c]⟩ : Str) ++ "zz"
theorem spare_len : spare.length = 26 := by decide +kernel
theorem spare_nd : spare.Nodup := by decide +kernel
theorem spare_item {z : Str} (h : z ∈ spare) : Item z := by
  have q : ∀ y ∈ spare, (decide (1 ≤ y.length) && decide (y.length ≤ 8) && y.cps.toList.all fun c => decide (97 ≤ c) && decide (c ≤ 122)) = true := by decide +kernel
  have e := q z h
  simp only [Bool.and_eq_true, decide_eq_true_eq, List.all_eq_true] at e
  exact ⟨e.1.1, e.1.2, e.2⟩
theorem spare_at {i c : Nat} (h : abc.cps[i]? = some c) : spare[i]? = some ((⟨#[c]⟩ : Str) ++ "zz") := by
  unfold spare
  rw [List.getElem?_map, Array.getElem?_toList, h]
  rfl
theorem abc_size : abc.cps.size = 26 := by decide +kernel
section
variable {P : Program} {w : World} {K : PySem.W.Frag} {mg : Str → Option Value} {base : Heap}
/-! ### _law_items -/
def spItems : Sp := fun xs H Q _ => ∃ (p : Addr) (n : Int), xs = [.ref p, .int n] ∧ Pool H p ∧ 0 ≤ n ∧ n ≤ 20 ∧
  ∀ (l : Addr) (zs : List Str) (H' : Hp), But p H H' → Pool H' p → H l = none → l ≠ p → H' l = some (.lst (zs.map V.str)) → zs.length = n.toNat → (∀ z ∈ zs, Item z) → Q (.ref l) H'
theorem scItems : FnScope ["_law_pool_here", "_law_many", "_law_found", "_law_at", "_law_name_here", "_law_some", "_law_one"] ["_law_pool_here", "_law_many"] (defScope sItems) := ⟨rfl, rfl, rfl, by decide +kernel, rfl, by decide +kernel, by decide +kernel⟩
abbrev nItems : List Str := ["_law_pool_here", "_law_many", "_law_found", "_law_at", "_law_name_here", "_law_some", "_law_one"]
theorem has_items (D : Def K mg "_law_items" sItems) (GN : Has P w K mg base "_law_name" 2 ["_law_pool_here"] [] spName) (mr : mg "range" = none) : Has P w K mg base "_law_items" 3 ["_law_pool_here", "_law_many"] [] spItems := by
  refine has_of D scItems (fun _ _ _ _ _ _ us hl => match us, hl with | [_, _], _ => rfl) (fun xs H Q E h => ?_) (fun f cv A out s H xs Q E hr h => ?_)
  · obtain ⟨p, n, rfl, _⟩ := h
    rfl
  · obtain ⟨p, n, rfl, hp, h0, h1, k⟩ := h
    refine ⟨_, pss_cons (ps_set (i := 2) scItems.nd rfl (.inr rfl) (pe_lst pa_nil))
      (pss_cons (ps_for PassesOwn.never rfl (pi_range1 (by rfl) mr (pa_cons (pv 1) pa_nil)) (pg_name (i := 3) scItems.nd rfl (.inl rfl))
        (pss_cons (ps_set (i := 4) scItems.nd rfl (.inl rfl) (pe_has GN hr (pa_cons (pv 0) pa_nil)))
        (Evl.pss_cut (ps_if (pt_cmpR op_in_seq (pv 4) (pv 2) (by rfl))
          (pss_cons (ps_setLc (i := 5) (own := [("_law_one", 6)]) (g := gName 6) (tt := tYes) rfl scItems.nd rfl rfl (sw_true rfl rfl rfl (by decide +kernel)) (pi_str pe_str) (blkOk_by (own := [("_law_one", 6)]) (N := nItems) (sc := defScope sItems) (by decide +kernel))
              (fun _ _ _ _ _ => pg_name (i := 6) scItems.nd rfl (.inl rfl)) (fun _ _ _ _ _ => pts_nil) (fun _ _ _ _ _ => pe_op op_add_str (pv 6) pe_str))
          (pss_one (ps_set (i := 4) scItems.nd rfl (.inl rfl) (pe_ix ix_list (pe_lc (own := [("_law_one", 6)]) (g := gName 6) (tt := tTest (tOp (rIn K true) (tVar 6) (tVar 2))) (te := tVar 6) rfl scItems.nd (pi_list (pv 5)) (blkOk_by (own := [("_law_one", 6)]) (N := nItems) (sc := defScope sItems) (by decide +kernel))
              (fun _ _ _ _ _ => pg_name (i := 6) scItems.nd rfl (.inl rfl)) (fun _ _ _ _ _ => pts_one (pt_cmpR op_notIn_seq (pv 6) (pv 2) (by rfl))) (fun _ _ _ _ _ => pv 6)) pe_int (fun _ _ => rfl))))) pss_nil)
        (pss_one (ps_expr (pe_bm PySem.F.plainAttrs_list PySem.F.slot_list_append PySem.F.type_list_append mt_append (pv 2) (pa_cons (pv 4) pa_nil)))))))
      (pss_one (ps_ret (pv 2)))), ?_⟩
    refine ⟨Nat.zero_le _, fun l hl => ?_⟩
    have lp : l ≠ p := hp.free hl
    refine ⟨_, rfl, n, rfl, by omega, by omega, for_range (lo := 0) (n := n.toNat) (fun i σ H3 => ∃ (zs : List Str) (y3 y4 y5 y6 : Option V), σ = [some (.ref p), some (.int n), some (.ref l), y3, y4, y5, y6] ∧ But p H H3 ∧ Pool H3 p ∧ H3 l = some (.lst (zs.map V.str)) ∧ zs.length = i ∧ ∀ z ∈ zs, Item z) ?_ ?_ ?_⟩
    · exact ⟨[], none, none, none, none, rfl, .of (Same.new hl), hp.upd lp, upd_same, rfl, fun z h => nomatch h⟩
    · rintro i σ H3 hi ⟨zs, y3, y4, y5, y6, rfl, b3, p3, hl3, hz, hI⟩
      refine ⟨_, rfl, p, rfl, p3, fun z H4 b4 p4 iz => ?_⟩
      have hl4 : H4 l = some (.lst (zs.map V.str)) := b4 l _ lp hl3
      have bb := b3.trans b4
      refine ⟨fun σ H5 => ∃ (z : Str) (y5 y6 : Option V), σ = [some (.ref p), some (.int n), some (.ref l), some (.int (0 + i)), some (.str z), y5, y6] ∧ But p H H5 ∧ Pool H5 p ∧ H5 l = some (.lst (zs.map V.str)) ∧ Item z, ?_, ?_⟩
      · refine ⟨_, rfl, _, rfl, l, _, rfl, .inl (.of hl4), rfl, flat_strs _, _, rfl, ite2 (fun c => ?_) (fun c => ?_)⟩
        · refine ⟨abc, rfl, fun D hD => lc_it walk_str (fun j H5 => H5 D = some (.lst ((spare.take j).map V.str)) ∧ But p H H5 ∧ Pool H5 p ∧ H5 l = some (.lst (zs.map V.str))) ?_ (fun _ _ _ _ => trivial) ?_ ?_⟩
          · have Dp : D ≠ p := p4.free hD
            exact ⟨upd_same, bb.free (bb.none Dp hD), p4.upd Dp, by rw [upd_ne (ne_of_none hl4 hD)]; exact hl4⟩
          · rintro j x H5 H6 hj ⟨hD5, b5, p5, hl5⟩ ⟨rfl, d, hd, rfl⟩
            have Dp : D ≠ p := p4.free hD
            refine ⟨rfl, yes_in ⟨_, rfl, ⟨#[d]⟩, "zz", rfl, rfl, (by show 1 + 2 ≤ sizeLine; decide), _, hD5, ?_, ?_, b5.free (bb.none Dp hD), p5.upd Dp, ?_⟩⟩
            · rw [List.length_map, List.length_take, spare_len]
              exact small1000 (by omega)
            · rw [upd_same, List.take_add_one, spare_at hd, List.map_append]
              rfl
            · rw [upd_ne (ne_of_none hl4 hD)]
              exact hl5
          · rintro H5 ⟨hD5, b5, p5, hl5⟩
            have full : spare.take abc.cps.size = spare := List.take_of_length_le (by rw [spare_len, abc_size]; omega)
            rw [full] at hD5
            have Dp : D ≠ p := p4.free hD
            have Dl : l ≠ D := ne_of_none hl4 hD
            refine ⟨_, rfl, D, rfl, ⟨_, .of hD5⟩, fun E2 hE => lc_list (K := K) (a := D) (xs := spare.map V.str) (fun j H6 => H6 D = some (.lst (spare.map V.str)) ∧ H6 E2 = some (.lst (((spare.take j).filter fun y => !decide (y ∈ zs)).map V.str)) ∧ But p H H6 ∧ Pool H6 p ∧ H6 l = some (.lst (zs.map V.str))) ?_ (fun _ _ _ q => .of q.1) ?_ ?_⟩
            · have Ep : E2 ≠ p := p5.free hE
              refine ⟨?_, upd_same, b5.free (b5.none Ep hE), p5.upd Ep, ?_⟩
              · rw [upd_ne (ne_of_none hD5 hE)]
                exact hD5
              · rw [upd_ne (ne_of_none hl5 hE)]
                exact hl5
            · rintro j x H6 hj ⟨hD6, hE6, b6, p6, hl6⟩
              have Ep : E2 ≠ p := p5.free hE
              rw [List.getElem?_map] at hj
              obtain ⟨y, hy, rfl⟩ : ∃ y, spare[j]? = some y ∧ V.str y = x := by
                cases e : spare[j]? with
                | none => rw [e] at hj; cases hj
                | some y => rw [e] at hj; exact ⟨y, rfl, Option.some.inj hj⟩
              have tk : spare.take (j + 1) = spare.take j ++ [y] := by
                rw [List.take_add_one, hy]
                rfl
              refine ⟨rfl, _, rfl, _, rfl, l, _, rfl, .inl (.of hl6), rfl, flat_strs _, _, rfl, ?_⟩
              rw [if_pos rfl, inV_str]
              by_cases m : y ∈ zs
              · rw [decide_eq_true m]
                refine iteF ⟨hD6, ?_, b6, p6, hl6⟩
                rw [tk, List.filter_append, List.filter_cons_of_neg (by simp [m]), List.filter_nil, List.append_nil]
                exact hE6
              · rw [decide_eq_false m]
                refine iteT ⟨_, rfl, _, hE6, ?_, ?_, ?_, b6.free (b5.none Ep hE), p6.upd Ep, ?_⟩
                · rw [List.length_map]
                  have z1 := List.length_filter_le (fun y => !decide (y ∈ zs)) (spare.take j)
                  have z2 : (spare.take j).length ≤ 26 := by
                    rw [List.length_take, spare_len]
                    omega
                  exact small1000 (by omega)
                · rw [upd_ne (ne_of_none hD5 hE)]
                  exact hD6
                · rw [upd_same, tk, List.filter_append, List.filter_cons_of_pos (by simp [m]), List.filter_nil, List.map_append]
                  rfl
                · rw [upd_ne (ne_of_none hl5 hE)]
                  exact hl6
            · rintro H6 ⟨hD6, hE6, b6, p6, hl6⟩
              rw [List.length_map, List.take_length] at hE6
              have some1 : ∃ y0 r, (spare.filter fun y => !decide (y ∈ zs)) = y0 :: r := by
                cases e : spare.filter fun y => !decide (y ∈ zs) with
                | cons y0 r => exact ⟨y0, r, rfl⟩
                | nil =>
                  have all : ∀ y ∈ spare, y ∈ zs := fun y hy => by
                    by_cases m : y ∈ zs
                    · exact m
                    · have q : y ∈ spare.filter fun y => !decide (y ∈ zs) := List.mem_filter.mpr ⟨hy, by simp [m]⟩
                      rw [e] at q
                      cases q
                  have q := nodup_le spare_nd all
                  rw [spare_len] at q
                  omega
              obtain ⟨y0, r, e0⟩ := some1
              have y0s : y0 ∈ spare := (List.mem_filter.mp (show y0 ∈ spare.filter fun y => !decide (y ∈ zs) by rw [e0]; exact List.mem_cons_self)).1
              rw [e0] at hE6
              exact ⟨E2, _, 0, .str y0, rfl, rfl, .of hE6, atI_nat (j := 0) rfl, y0, _, _, rfl, b6, p6, hl6, spare_item y0s⟩
        · exact ⟨z, _, _, rfl, bb, p4, hl4, iz⟩
      · rintro σ H5 ⟨z, y5, y6, rfl, b5, p5, hl5, iz⟩
        refine ⟨.ref l, rfl, .inl ⟨rfl, _, .inl (.inl hl5)⟩, _, rfl, l, _, _, rfl, rfl, hl5, ?_, zs ++ [z], _, _, _, _, rfl, b5.free hl, p5.upd lp, ?_, ?_, ?_⟩
        · rw [List.length_map, hz]
          exact small1000 (by omega)
        · rw [upd_same, List.map_append]
          rfl
        · rw [List.length_append, hz]
          rfl
        · intro y hy
          rcases List.mem_append.mp hy with q | q
          · exact hI y q
          · rw [List.mem_singleton.mp q]
            exact iz
    · rintro σ H3 ⟨zs, y3, y4, y5, y6, rfl, b3, p3, hl3, hz, hI⟩
      exact ⟨_, rfl, k l zs H3 b3 p3 hl lp hl3 hz hI⟩
end
end SE
namespace SE
open PySem PySem.Spec PyProof.Rows L2
section
variable {P : Program} {w : World} {K : PySem.W.Frag} {mg : Str → Option Value} {base : Heap}
/-! ### _law_word -/
def spWord : Sp := fun xs H Q _ => ∃ (p l : Addr) (m : Int) (zs : List Str), xs = [.ref p, .ref l, .int m] ∧ Pool H p ∧ l ≠ p ∧ H l = some (.lst (zs.map V.str)) ∧ zs ≠ [] ∧ zs.length ≤ 100 ∧ 0 ≤ m ∧ m ≤ 900 ∧
  ∀ (t : Addr) (ws : List Str) (H' : Hp), But p H H' → Pool H' p → H t = none → H' t = some (.tup (ws.map V.str)) → (ws.length : Int) ≤ m → (∀ z ∈ ws, z ∈ zs) → Q (.ref t) H'
abbrev nWord : List Str := ["_law_pool_here", "_law_items_here", "_law_most", "_law_turn"]
theorem scWord : FnScope nWord ["_law_pool_here", "_law_items_here", "_law_most"] (defScope sWord) := ⟨rfl, rfl, rfl, by decide +kernel, rfl, by decide +kernel, by decide +kernel⟩
theorem pick_str {zs : List Str} {r : Int} (h0 : 0 ≤ r) (h1 : r < (zs.length : Int)) : ∃ z, z ∈ zs ∧ atI (zs.map V.str) r = some (.str z) := by
  have hj : r.toNat < zs.length := by omega
  refine ⟨zs[r.toNat], List.getElem_mem hj, at_of (j := r.toNat) (by omega) ?_⟩
  rw [List.getElem?_map, List.getElem?_eq_getElem hj]
  rfl
theorem has_word (D : Def K mg "_law_word" sWord) (GT : Has P w K mg base "_law_take" 1 ["_law_pool_here", "_law_many"] [] spTake) (mr : mg "range" = none) (ml : mg "len" = none) (mt : mg "tuple" = none) : Has P w K mg base "_law_word" 2 ["_law_pool_here", "_law_items_here", "_law_most"] [] spWord := by
  refine has_of D scWord (fun _ _ _ _ _ _ us hl => match us, hl with | [_, _, _], _ => rfl) (fun xs H Q E h => ?_) (fun f cv A out s H xs Q E hr h => ?_)
  · obtain ⟨p, l, m, zs, rfl, _⟩ := h
    rfl
  · obtain ⟨p, l, m, zs, rfl, hp, lp, hl, hne, hz, h0, h1, k⟩ := h
    refine ⟨_, pss_one (ps_ret (pe_callTy call_tuple_of (by rfl) mt (by decide +kernel) (pa_cons
      (pe_lc (own := [("_law_turn", 3)]) (g := gName 3) (tt := tYes) (te := tOp (rIxL K) (tVar 1) (tCall spTake [] E0 (tCons (tVar 0) (tCons (tCB (Evl.rLenS K) (tCons (tVar 1) tNil)) tNil)))) rfl scWord.nd
        (pi_range1 (by rfl) mr (pa_cons (pe_has GT hr (pa_cons (pv 0) (pa_cons (pe_op op_add (pv 2) pe_int) pa_nil))) pa_nil)) (blkOk_by (own := [("_law_turn", 3)]) (N := nWord) (sc := defScope sWord) (by decide +kernel))
        (fun _ _ _ _ _ => pg_name (i := 3) scWord.nd rfl (.inl rfl)) (fun _ _ _ _ _ => pts_nil)
        (fun _ _ _ _ _ => pe_ix ix_list (pv 1) (pe_has GT hr (pa_cons (pv 0) (pa_cons (pe_callB call_len_seq (by rfl) ml PySem.boot_len (pa_cons (pv 1) pa_nil)) pa_nil))) (fun _ _ => rfl))) pa_nil))), ?_⟩
    refine ⟨_, rfl, _, rfl, m, 1, rfl, rfl, p, m + 1, rfl, hp, by omega, by omega, fun n H1 b1 p1 n0 n1 => ?_⟩
    have hl1 : H1 l = some (.lst (zs.map V.str)) := b1 l _ lp hl
    refine ⟨n, rfl, by omega, by omega, fun D hD => lc_range (lo := 0) (n := n.toNat) (fun i H2 => ∃ ws : List Str, H2 D = some (.lst (ws.map V.str)) ∧ ws.length = i ∧ (∀ z ∈ ws, z ∈ zs) ∧ But p H H2 ∧ Pool H2 p ∧ H2 l = some (.lst (zs.map V.str))) ?_ ?_ ?_⟩
    · have Dp : D ≠ p := p1.free hD
      exact ⟨[], upd_same, rfl, fun z q => (by cases q), b1.free (b1.none Dp hD), p1.upd Dp, by rw [upd_ne (ne_of_none hl1 hD)]; exact hl1⟩
    · rintro i H2 hi ⟨ws, hw, wl, wz, b2, p2, hl2⟩
      have Dp : D ≠ p := p1.free hD
      have Dl : l ≠ D := ne_of_none hl1 hD
      have hzp : 0 < zs.length := List.length_pos_iff.mpr hne
      refine ⟨rfl, yes_in ⟨_, rfl, _, rfl, _, rfl, l, _, rfl, .inl (.of hl2), p, _, rfl, p2, ?_, ?_, fun r H3 b3 p3 r0 r1 => ?_⟩⟩
      · rw [List.length_map]
        omega
      · rw [List.length_map]
        omega
      · rw [List.length_map] at r1
        obtain ⟨z, zm, az⟩ := pick_str r0 r1
        have hl3 : H3 l = some (.lst (zs.map V.str)) := b3 l _ lp hl2
        have hD3 : H3 D = some (.lst (ws.map V.str)) := b3 D _ Dp hw
        refine ⟨l, _, r, _, rfl, rfl, .of hl3, az, _, hD3, ?_, ws ++ [z], ?_, ?_, ?_, (b2.trans b3).free (b1.none Dp hD), p3.upd Dp, ?_⟩
        · rw [List.length_map, wl]
          exact small1000 (by omega)
        · rw [upd_same, List.map_append]
          rfl
        · rw [List.length_append, wl]
          rfl
        · intro y hy
          rcases List.mem_append.mp hy with q | q
          · exact wz y q
          · rw [List.mem_singleton.mp q]
            exact zm
        · rw [upd_ne Dl]
          exact hl3
    · rintro H2 ⟨ws, hw, wl, wz, b2, p2, hl2⟩
      refine ⟨D, _, rfl, .inl ⟨.of hw, fun t ht => ?_⟩⟩
      have tp : t ≠ p := p2.free ht
      refine k t ws _ (b2.free (b2.none tp ht)) (p2.upd tp) (b2.none tp ht) upd_same ?_ wz
      omega
end
end SE
namespace SE
open PySem PySem.Spec PyProof.Rows L2
/-- a test whose ways meet -/
def tCutT (t : TT) : TT := fun σ H Q => ∃ M : Bool → Hp → Prop, t σ H M ∧ ∀ b H2, M b H2 → Q b H2
theorem pt_cut {X : Cx} {e : Expr} {t : TT} (h : PT X e t) : PT X e (tCutT t) := ⟨fun pins s σ H Q I hw => by
  obtain ⟨M, h1, h2⟩ := hw
  refine thn (h.run pins s σ H M I h1) fun b s2 z => ?_
  obtain ⟨H2, I2, q⟩ := z
  exact ⟨H2, I2, h2 b H2 q⟩⟩
theorem cut_map {α : Type} (f : α → V) (hs : List α) (lo hi : Option Int) : cutV (hs.map f) lo hi = ((hs.drop (HT.sIx hs.length 0 lo)).take (HT.sIx hs.length hs.length hi - HT.sIx hs.length 0 lo)).map f := by
  unfold cutV
  rw [List.length_map, List.map_take, List.map_drop]
theorem cut_mem {α : Type} {x : α} {hs : List α} {a b : Nat} (h : x ∈ (hs.drop a).take b) : x ∈ hs := List.mem_of_mem_drop (List.mem_of_mem_take h)
/-- steps whose tuples stand in the heap -/
abbrev StepsH (H : Hp) : List V → List Stp → Prop := Paired fun v s => ∃ t, v = .ref t ∧ H t = some (.tup [.str (act s.1), .str s.2])
theorem StepsH.v {K : PySem.W.Frag} {H : Hp} {xs : List V} {ss : List Stp} (h : StepsH H xs ss) : StepsV K H xs ss := Paired.mapP h fun _ _ q => by
  obtain ⟨t, e, z⟩ := q
  exact ⟨t, e, .of z⟩
theorem StepsH.but {H H' : Hp} {p : Addr} {xs : List V} {ss : List Stp} (h : StepsH H xs ss) (hp : Pool H p) (b : But p H H') : StepsH H' xs ss := Paired.mapP h fun _ _ q => by
  obtain ⟨t, e, z⟩ := q
  exact ⟨t, e, b t _ (hp.ne z) z⟩
theorem StepsH.upd {H : Hp} {q : Addr} {o : HO} {xs : List V} {ss : List Stp} (h : StepsH H xs ss) (hq : ∀ ys, H q ≠ some (.tup ys)) : StepsH (upd H q o) xs ss := Paired.mapP h fun _ _ r => by
  obtain ⟨t, e, z⟩ := r
  refine ⟨t, e, ?_⟩
  rw [upd_ne (fun w => hq _ (by rw [← w]; exact z))]
  exact z
structure SI (p l f h : Addr) (zs : List Str) (H H3 : Hp) (xs : List V) (ss : List Stp) (hs : List Str) : Prop where
  b : But p H H3
  pl : Pool H3 p
  it : H3 l = some (.lst (zs.map V.str))
  fl : H3 f = some (.lst xs)
  st : StepsH H3 xs ss
  sz : ∀ s ∈ ss, s.2 ∈ zs
  hl : H3 h = some (.lst (hs.map V.str))
  hz : ∀ z ∈ hs, z ∈ zs
  lp : l ≠ p
  fp : f ≠ p
  fn : H f = none
  hp : h ≠ p
  hn : H h = none
  hf : h ≠ f
  hnl : h ≠ l
  lf : l ≠ f
section
variable {p l f h : Addr} {zs : List Str} {H H3 : Hp} {xs : List V} {ss : List Stp} {hs : List Str}
theorem SI.new (a : SI p l f h zs H H3 xs ss hs) {q : Addr} {o : HO} (hq : H3 q = none) : SI p l f h zs H (upd H3 q o) xs ss hs := by
  have qp : q ≠ p := a.pl.free hq
  exact ⟨a.b.free (a.b.none qp hq), a.pl.upd qp, by rw [upd_ne (ne_of_none a.it hq)]; exact a.it, by rw [upd_ne (ne_of_none a.fl hq)]; exact a.fl, a.st.upd (fun ys z => by rw [hq] at z; cases z), a.sz,
    by rw [upd_ne (ne_of_none a.hl hq)]; exact a.hl, a.hz, a.lp, a.fp, a.fn, a.hp, a.hn, a.hf, a.hnl, a.lf⟩
theorem SI.draw (a : SI p l f h zs H H3 xs ss hs) {H4 : Hp} (b : But p H3 H4) (q : Pool H4 p) : SI p l f h zs H H4 xs ss hs :=
  ⟨a.b.trans b, q, b _ _ a.lp a.it, b _ _ a.fp a.fl, a.st.but a.pl b, a.sz, b _ _ a.hp a.hl, a.hz, a.lp, a.fp, a.fn, a.hp, a.hn, a.hf, a.hnl, a.lf⟩
theorem SI.app (a : SI p l f h zs H H3 xs ss hs) {t : Addr} {c : Bool} {z : Str} (ht : H3 t = some (.tup [.str (act c), .str z])) (hz : z ∈ zs) : SI p l f h zs H (upd H3 f (.lst (xs ++ [.ref t]))) (xs ++ [.ref t]) (ss ++ [(c, z)]) hs := by
  have tf : t ≠ f := ne_of ht a.fl (by intro w; cases w)
  refine ⟨a.b.free a.fn, a.pl.upd a.fp, by rw [upd_ne a.lf]; exact a.it, upd_same, (a.st.upd (fun ys w => by rw [a.fl] at w; cases w)).snoc ⟨t, rfl, by rw [upd_ne tf]; exact ht⟩, fun s hs' => ?_, by rw [upd_ne a.hf]; exact a.hl, a.hz, a.lp, a.fp, a.fn, a.hp, a.hn, a.hf, a.hnl, a.lf⟩
  rcases List.mem_append.mp hs' with q | q
  · exact a.sz s q
  · rw [List.mem_singleton.mp q]
    exact hz
theorem SI.hset (a : SI p l f h zs H H3 xs ss hs) {ys : List Str} (hy : ∀ z ∈ ys, z ∈ zs) : SI p l f h zs H (upd H3 h (.lst (ys.map V.str))) xs ss ys :=
  ⟨a.b.free a.hn, a.pl.upd a.hp, by rw [upd_ne (Ne.symm a.hnl)]; exact a.it, by rw [upd_ne (Ne.symm a.hf)]; exact a.fl, a.st.upd (fun us w => by rw [a.hl] at w; cases w), a.sz, upd_same, hy, a.lp, a.fp, a.fn, a.hp, a.hn, a.hf, a.hnl, a.lf⟩
theorem SI.hnew (a : SI p l f h zs H H3 xs ss hs) {q : Addr} {ys : List Str} (hq : H3 q = none) (hy : ∀ z ∈ ys, z ∈ zs) : SI p l f q zs H (upd H3 q (.lst (ys.map V.str))) xs ss ys := by
  have b := a.new (o := .lst (ys.map V.str)) hq
  have qp : q ≠ p := a.pl.free hq
  exact ⟨b.b, b.pl, b.it, b.fl, b.st, b.sz, upd_same, hy, a.lp, a.fp, a.fn, qp, a.b.none qp hq, Ne.symm (ne_of_none a.fl hq), Ne.symm (ne_of_none a.it hq), a.lf⟩
end
section
variable {P : Program} {w : World} {K : PySem.W.Frag} {mg : Str → Option Value} {base : Heap}
/-! ### _law_steps -/
def spSteps : Sp := fun xs H Q _ => ∃ (p l : Addr) (m : Int) (zs : List Str), xs = [.ref p, .ref l, .int m] ∧ Pool H p ∧ l ≠ p ∧ H l = some (.lst (zs.map V.str)) ∧ zs ≠ [] ∧ zs.length ≤ 100 ∧ (∀ z ∈ zs, Item z) ∧ 0 ≤ m ∧ m ≤ 100 ∧
  ∀ (t : Addr) (us : List V) (ss : List Stp) (H' : Hp), But p H H' → Pool H' p → H t = none → H' t = some (.lst us) → StepsH H' us ss → ss.length = m.toNat → (∀ s ∈ ss, s.2 ∈ zs) → Q (.ref t) H'
abbrev nSteps : List Str := ["_law_pool_here", "_law_items_here", "_law_many", "_law_found", "_law_held", "_law_turn", "_law_way", "_law_item"]
theorem scSteps : FnScope nSteps ["_law_pool_here", "_law_items_here", "_law_many"] (defScope sSteps) := ⟨rfl, rfl, rfl, by decide +kernel, rfl, by decide +kernel, by decide +kernel⟩
theorem has_steps (D : Def K mg "_law_steps" sSteps) (GT : Has P w K mg base "_law_take" 1 ["_law_pool_here", "_law_many"] [] spTake) (mr : mg "range" = none) (ml : mg "len" = none) : Has P w K mg base "_law_steps" 2 ["_law_pool_here", "_law_items_here", "_law_many"] [] spSteps := by
  refine has_of D scSteps (fun _ _ _ _ _ _ us hl => match us, hl with | [_, _, _], _ => rfl) (fun xs H Q E h => ?_) (fun f cv A out s H xs Q E hr h => ?_)
  · obtain ⟨p, l, m, zs, rfl, _⟩ := h
    rfl
  · obtain ⟨p, l, m, zs, rfl, hp, lp, hl, hne, hz, hI, h0, h1, k⟩ := h
    refine ⟨_, pss_cons (ps_par (i := 3) (j := 4) (by rfl) scSteps.nd rfl rfl (by decide) rfl rfl (pa_cons (pe_lst pa_nil) (pa_cons (pe_lst pa_nil) pa_nil)) (by rfl))
      (pss_cons (ps_for PassesOwn.never rfl (pi_range1 (by rfl) mr (pa_cons (pv 2) pa_nil)) (pg_name (i := 5) scSteps.nd rfl (.inl rfl))
        (pss_cons (ps_set (i := 6) scSteps.nd rfl (.inl rfl) (pe_has GT hr (pa_cons (pv 0) (pa_cons pe_int pa_nil))))
        (pss_cons (ps_set (i := 7) scSteps.nd rfl (.inl rfl) (pe_ix ix_list (pv 1) (pe_has GT hr (pa_cons (pv 0) (pa_cons (pe_callB call_len_seq (by rfl) ml PySem.boot_len (pa_cons (pv 1) pa_nil)) pa_nil))) (fun _ _ => rfl)))
        (pss_one (ps_if (pt_cut (PW.pt (pw_and (pt_cmpR op_lt (pv 6) pe_int (nomark _)) (pw_and1 (pt_cmpR (op_neD hr.units) (pv 4) (pe_lst pa_nil) (nomark _))))))
          (pss_cons (ps_set (i := 7) scSteps.nd rfl (.inl rfl) (pe_bm0 PySem.F.plainAttrs_list PySem.F.slot_list_pop PySem.F.type_list_pop mt_pop (pv 4)))
          (pss_one (ps_expr (pe_bm PySem.F.plainAttrs_list PySem.F.slot_list_append PySem.F.type_list_append mt_append (pv 3) (pa_cons (pe_tup (pa_cons pe_str (pa_cons (pv 7) pa_nil))) pa_nil)))))
          (pss_one (ps_if (pt_cut (PW.pt (pw_or (pt_cmpR op_eq (pv 6) pe_int (nomark _)) (pw_or1 (PW.pt (pw_and (pt_cmpR op_eq (pv 6) pe_int (nomark _)) (pw_and1 (pt_cmpR (op_eqD hr.units) (pv 4) (pe_lst pa_nil) (nomark _)))))))))
            (pss_cons (ps_expr (pe_bm PySem.F.plainAttrs_list PySem.F.slot_list_append PySem.F.type_list_append mt_append (pv 3) (pa_cons (pe_tup (pa_cons pe_str (pa_cons (pv 7) pa_nil))) pa_nil)))
            (pss_one (ps_set (i := 4) scSteps.nd rfl (.inl rfl) (pe_ifExp (pt_cut (pt_cmpR (op_eqD hr.units) (pe_slice sl_list (pv 4) (po_some (pe_un un_neg pe_int)) po_none) (pe_lst (pa_cons (pv 7) pa_nil)) (nomark _))) (pe_slice sl_list (pv 4) po_none (po_some (pe_un un_neg pe_int))) (pv 4)))))
            (pss_cons (ps_expr (pe_bm PySem.F.plainAttrs_list PySem.F.slot_list_append PySem.F.type_list_append mt_append (pv 3) (pa_cons (pe_tup (pa_cons pe_str (pa_cons (pv 7) pa_nil))) pa_nil)))
            (pss_one (ps_expr (pe_bm PySem.F.plainAttrs_list PySem.F.slot_list_append PySem.F.type_list_append mt_append (pv 4) (pa_cons (pv 7) pa_nil)))))))))))
      ) (pss_one (ps_ret (pv 3)))), ?_⟩
    refine ⟨Nat.zero_le _, fun g hg => ⟨Nat.zero_le _, fun h0' hh => ⟨_, _, rfl, ?_⟩⟩⟩
    have gp : g ≠ p := hp.free hg
    have hh0 : H h0' = none := (Same.new hg).free hh
    have hgne : g ≠ h0' := ne_of_none upd_same hh
    have ofz : ∀ {hs : List Str}, (∀ z ∈ hs, z ∈ zs) → SeqAt.shaped (.list (hs.map PyData.str)) = true := fun {hs} q => (nice_list (nice_strs fun z m => hI z (q z m))).shaped (by decide)
    refine ⟨_, rfl, m, rfl, by omega, by omega, for_range (lo := 0) (n := m.toNat) (fun i σ H3 => ∃ (h : Addr) (xs : List V) (ss : List Stp) (hs : List Str) (y5 y6 y7 : Option V), σ = [some (.ref p), some (.ref l), some (.int m), some (.ref g), some (.ref h), y5, y6, y7] ∧ SI p l g h zs H H3 xs ss hs ∧ ss.length = i ∧ xs.length = i ∧ hs.length ≤ i) ?_ ?_ ?_⟩
    · refine ⟨h0', [], [], [], none, none, none, rfl, ⟨(But.of (Same.new hg)).free hh0, (hp.upd gp).upd (hp.free hh0), ?_, ?_, .nil, fun s q => (by cases q), upd_same, fun z q => (by cases q), lp, gp, hg, hp.free hh0, hh0, Ne.symm hgne, Ne.symm (ne_of_none hl hh0), ne_of_none hl hg⟩, rfl, rfl, Nat.le_refl _⟩
      · rw [upd_ne (ne_of_none hl hh0), upd_ne (ne_of_none hl hg)]
        exact hl
      · rw [upd_ne hgne]
        exact upd_same
    · rintro i σ H3 hi ⟨h, xs, ss, hs, y5, y6, y7, rfl, a, hsl, hxl, hhl⟩
      refine ⟨_, rfl, p, 8, rfl, a.pl, by decide, by decide, fun r H4 b4 p4 r0 r1 => ?_⟩
      have a4 := a.draw b4 p4
      have hzp : 0 < zs.length := List.length_pos_iff.mpr hne
      refine ⟨_, rfl, _, rfl, _, rfl, l, _, rfl, .inl (.of a4.it), p, _, rfl, a4.pl, ?_, ?_, fun r2 H5 b5 p5 s0 s1 => ?_⟩
      · rw [List.length_map]
        omega
      · rw [List.length_map]
        omega
      rw [List.length_map] at s1
      obtain ⟨z, zm, az⟩ := pick_str s0 s1
      have a5 := a4.draw b5 p5
      refine ⟨l, _, r2, _, rfl, rfl, .of a5.it, az, ?_⟩
      -- way < 3 and held != []
      refine ⟨fun b H6 => SI p l g h zs H H6 xs ss hs ∧ (b = true → hs ≠ []), ?_, ?_⟩
      · refine ⟨_, rfl, r, 3, rfl, rfl, _, rfl, ite2 (fun c => ?_) (fun c => ?_)⟩
        · refine ⟨_, rfl, Nat.zero_le _, fun q hq => ⟨.list (hs.map .str), .list (([] : List Str).map .str), .lst (.of (a5.new hq).hl) (dp_strs hs), .lst (.of upd_same) .nil, ofz a5.hz, ofz (fun z w => (by cases w)), _, rfl, a5.new hq, fun e => ?_⟩⟩
          rw [eqv_listS] at e
          intro z
          rw [z] at e
          exact absurd e (by decide)
        · exact ⟨a5, fun e => (by cases e)⟩
      rintro b H6 ⟨a6, hb⟩
      cases b with
      | true =>
        have hs0 : hs ≠ [] := hb rfl
        refine iteT ?_
        have hlast : (hs.map V.str)[(hs.map V.str).length - 1]? = some (.str (hs.getLast hs0)) := by
          rw [List.length_map, List.getElem?_map, ← List.getLast?_eq_getElem?, List.getLast?_eq_getLast hs0]
          rfl
        have hmem : hs.getLast hs0 ∈ zs := a6.hz _ (List.getLast_mem hs0)
        have a7 : SI p l g h zs H (upd H6 h (.lst (hs.dropLast.map V.str))) xs ss hs.dropLast := a6.hset fun z m => a6.hz z ((List.dropLast_sublist hs).subset m)
        refine ⟨.ref h, rfl, .inl ⟨rfl, _, .of a6.hl⟩, h, _, _, rfl, rfl, a6.hl, hlast, ?_⟩
        rw [← List.map_dropLast]
        refine ⟨.ref g, rfl, .inl ⟨rfl, _, .of a7.fl⟩, _, rfl, (by show 2 ≤ sizeLine; decide), fun t ht => ⟨g, _, _, rfl, rfl, (a7.new ht).fl, ?_, ?_⟩⟩
        · rw [hxl]
          exact small1000 (by omega)
        · refine ⟨h, _, ss ++ [(false, hs.getLast hs0)], _, _, _, _, rfl, (a7.new ht).app (c := false) upd_same hmem, ?_, ?_, ?_⟩
          · rw [List.length_append, hsl]
            rfl
          · rw [List.length_append, hxl]
            rfl
          · rw [List.length_dropLast]
            omega
      | false =>
        refine iteF ?_
        -- the other ways
        refine ⟨fun b H7 => SI p l g h zs H H7 xs ss hs, ?_, ?_⟩
        · refine ⟨_, rfl, rfl, _, rfl, ite2 (fun c => ?_) (fun c => ?_)⟩
          · exact a6
          · refine ⟨_, rfl, rfl, _, rfl, ite2 (fun c2 => ?_) (fun c2 => ?_)⟩
            · exact ⟨_, rfl, Nat.zero_le _, fun q hq => ⟨.list (hs.map .str), .list (([] : List Str).map .str), .lst (.of (a6.new hq).hl) (dp_strs hs), .lst (.of upd_same) .nil, ofz a6.hz, ofz (fun z w => (by cases w)), _, rfl, a6.new hq⟩⟩
            · exact a6
        rintro b H7 a7
        cases b with
        | true =>
          refine iteT ?_
          refine ⟨.ref g, rfl, .inl ⟨rfl, _, .of a7.fl⟩, _, rfl, (by show 2 ≤ sizeLine; decide), fun t ht => ⟨g, _, _, rfl, rfl, (a7.new ht).fl, ?_, ?_⟩⟩
          · rw [hxl]
            exact small1000 (by omega)
          have a8 := (a7.new ht).app (c := false) upd_same zm
          have fin : ∀ (v : Addr) (H9 : Hp) (ks : List Str), SI p l g v zs H H9 (xs ++ [.ref t]) (ss ++ [(false, z)]) ks → ks.length ≤ i → ∃ (h : Addr) (xs : List V) (ss : List Stp) (hs : List Str) (y5 y6 y7 : Option V), [some (.ref p), some (.ref l), some (.int m), some (.ref g), some (.ref v), some (.int (0 + i)), some (.int r), some (.str z)] = [some (V.ref p), some (.ref l), some (.int m), some (.ref g), some (.ref h), y5, y6, y7] ∧ SI p l g h zs H H9 xs ss hs ∧ ss.length = i + 1 ∧ xs.length = i + 1 ∧ hs.length ≤ i + 1 := by
            intro v H9 ks a9 kl
            refine ⟨v, _, _, ks, _, _, _, rfl, a9, ?_, ?_, by omega⟩
            · rw [List.length_append, hsl]
              rfl
            · rw [List.length_append, hxl]
              rfl
          refine ⟨fun b H8 => SI p l g h zs H H8 (xs ++ [.ref t]) (ss ++ [(false, z)]) hs, ?_, ?_⟩
          · refine ⟨_, rfl, 1, rfl, -1, rfl, h, _, rfl, .of a8.hl, fun q hq => ⟨_, rfl, (by show 1 ≤ sizeLine; decide), fun q2 hq2 => ?_⟩⟩
            have a9 := (a8.new hq (o := .lst (cutV (hs.map V.str) (some (-1)) none))).new hq2 (o := .lst [.str z])
            have ne2 : q ≠ q2 := ne_of_none upd_same hq2
            refine ⟨.list (((hs.drop (HT.sIx hs.length 0 (some (-1)))).take (HT.sIx hs.length hs.length none - HT.sIx hs.length 0 (some (-1)))).map .str), .list ([z].map .str), .lst (.of ?_) (dp_strs _), .lst (.of upd_same) (dp_strs [z]), ofz (fun y m => a8.hz y (cut_mem m)), ofz (fun y m => (by rw [List.mem_singleton.mp m]; exact zm)), _, rfl, a9⟩
            rw [upd_ne ne2, upd_same, cut_map]
          rintro b H8 a9
          cases b with
          | true =>
            refine iteT ?_
            refine ⟨_, rfl, 1, rfl, -1, rfl, h, _, rfl, .of a9.hl, fun q hq => ?_⟩
            rw [cut_map]
            refine fin q _ _ (a9.hnew hq fun y m => a9.hz y (cut_mem m)) ?_
            rw [List.length_take, List.length_drop]
            omega
          | false =>
            refine iteF ?_
            exact ⟨_, rfl, fin h H8 hs a9 hhl⟩
        | false =>
          refine iteF ?_
          refine ⟨.ref g, rfl, .inl ⟨rfl, _, .of a7.fl⟩, _, rfl, (by show 2 ≤ sizeLine; decide), fun t ht => ⟨g, _, _, rfl, rfl, (a7.new ht).fl, ?_, ?_⟩⟩
          · rw [hxl]
            exact small1000 (by omega)
          have a8 := (a7.new ht).app (c := true) upd_same zm
          refine ⟨.ref h, rfl, .inl ⟨rfl, _, .of a8.hl⟩, _, rfl, h, _, _, rfl, rfl, a8.hl, ?_, ?_⟩
          · rw [List.length_map]
            exact small1000 (by omega)
          · have a9 : SI p l g h zs H (upd _ h (.lst ((hs ++ [z]).map V.str))) (xs ++ [.ref t]) (ss ++ [(true, z)]) (hs ++ [z]) := a8.hset fun y m => by
              rcases List.mem_append.mp m with q | q
              · exact a8.hz y q
              · rw [List.mem_singleton.mp q]
                exact zm
            rw [List.map_append] at a9
            refine ⟨h, _, _, _, _, _, _, rfl, a9, ?_, ?_, ?_⟩
            · rw [List.length_append, hsl]
              rfl
            · rw [List.length_append, hxl]
              rfl
            · rw [List.length_append]
              show hs.length + 1 ≤ i + 1
              omega
    · rintro σ H3 ⟨h, xs, ss, hs, y5, y6, y7, rfl, a, hsl, hxl, hhl⟩
      exact ⟨_, rfl, k g xs ss H3 a.b a.pl hg a.fl a.st hsl a.sz⟩
end
end SE
namespace SE
open PySem PySem.Spec PyProof.Rows L2
/-! ### what is never reached; types -/
theorem pe_never {X : Cx} {e : Expr} : PE X e (fun _ _ _ => False) := ⟨fun _ _ _ _ _ _ h => h.elim⟩
theorem ty_tup {K : PySem.W.Frag} {H : Hp} {a : Addr} {xs : List V} (h : SqT K H a xs) : TyX K H (.ref a) (.type "tuple") := by
  rcases h with (h | ⟨o, h⟩) | ⟨o, its, n, h1, h2, _⟩
  · exact .base (.tup h)
  · exact .fTuple h
  · exact .kTuple h1 h2
theorem ty_lst {K : PySem.W.Frag} {H : Hp} {a : Addr} {xs : List V} (h : SqL K H a xs) : TyX K H (.ref a) (.type "list") := by
  rcases h with (h | ⟨o, h⟩) | ⟨o, its, n, h1, h2, _⟩
  · exact .base (.lst h)
  · exact .base (.frz h)
  · exact .kList h1 h2
theorem bl_snoc (n : Nat) : (List.replicate n true).map V.bl ++ [V.bl true] = (List.replicate (n + 1) true).map V.bl := by
  rw [List.replicate_succ', List.map_append]
  rfl
theorem all_true (n : Nat) : (List.replicate n true).all id = true := by
  rw [List.all_eq_true]
  intro b hb
  rw [(List.mem_replicate.mp hb).2]
  rfl
theorem abc_has {c : Nat} (h : 97 ≤ c ∧ c ≤ 122) : c ∈ abc.cps.toList := by
  have q : ∀ j : Fin 26, (97 + j.1) ∈ abc.cps.toList := by decide +kernel
  have z := q ⟨c - 97, by omega⟩
  have e : 97 + (c - 97) = c := by omega
  rw [← e]
  exact z
/-- the module's constants -/
structure Cons (K : PySem.W.Frag) (w : World) (mg : Str → Option Value) : Prop where
  let_ : ∃ t, mg "LETTERS" = some (.str abc t)
  ml : ∃ t, mg "MOST_LETTERS" = some (.int 8 t)
  ms : ∃ t, mg "MOST_STEPS" = some (.int 1000 t)
  opp : ∃ (d : Addr) (es : Array DictEntry) (n : Nat) (u v : Value), mg "OPPOSITES" = some (.ref d) ∧ KDict K w d es n ∧ PySem.W.nsIn K d "push" = some (some u) ∧ RelV (.str "pop") u ∧ PySem.W.nsIn K d "pop" = some (some v) ∧ RelV (.str "push") v
/-- built-in names that the module leaves as they are -/
structure Blt (mg : Str → Option Value) : Prop where
  isi : mg "isinstance" = none
  str : mg "str" = none
  len : mg "len" = none
  all : mg "all" = none
  tup : mg "tuple" = none
  lst : mg "list" = none
  enu : mg "enumerate" = none
section
variable {P : Program} {w : World} {K : PySem.W.Frag} {mg : Str → Option Value} {base : Heap}
/-! ### is_item -/
def spIsItem : Sp := fun xs H Q _ => ∃ (z : Str), xs = [.str z] ∧ Item z ∧ ∀ H', Same H H' → Q (.bl true) H'
theorem scIsItem : FnScope ["value", "letter"] ["value"] (defScope sIsItem) := ⟨rfl, rfl, rfl, by decide +kernel, rfl, by decide +kernel, by decide +kernel⟩
theorem has_isItem (D : Def K mg "is_item" sIsItem) (B : Blt mg) (C : Cons K w mg) : Has P w K mg base "is_item" 1 ["value"] [] spIsItem := by
  obtain ⟨tl, hL⟩ := C.let_
  obtain ⟨tm, hM⟩ := C.ml
  refine has_of D scIsItem (fun _ _ _ _ _ _ us hl => match us, hl with | [_], _ => rfl) (fun xs H Q E h => ?_) (fun f cv A out s H xs Q E hr h => ?_)
  · obtain ⟨z, rfl, _⟩ := h
    rfl
  · obtain ⟨z, rfl, iz, k⟩ := h
    refine ⟨_, pss_cons (ps_if (PW.pt (pw_or (pt_not (pt_val (pe_callB call_isi (by rfl) B.isi (by decide +kernel) (pa_cons (pv 0) (pa_cons (pe_bltn (v := .ty "str") (by rfl) B.str (by decide +kernel) rfl) pa_nil)))))
        (pw_or1 (pt_not (pt_chain op_le op_le pe_int (pe_callB call_len_str (by rfl) B.len PySem.boot_len (pa_cons (pv 0) pa_nil)) (pe_glob (v := .int 8) rfl hM ⟨_, rfl⟩)))))) (pss_one (ps_ret pe_bl)) pss_nil)
      (pss_one (ps_ret (pe_callB (cr_all rfl) (by rfl) B.all (by decide +kernel) (pa_cons
        (pe_lc (own := [("letter", 1)]) (g := gName 1) (tt := tYes) rfl scIsItem.nd (pi_str (pv 0)) (blkOk_by (own := [("letter", 1)]) (N := ["value", "letter"]) (sc := defScope sIsItem) (by decide +kernel))
          (fun _ _ _ _ _ => pg_name (i := 1) scIsItem.nd rfl (.inl rfl)) (fun _ _ _ _ _ => pts_nil) (fun _ _ _ _ _ => pe_cmpR op_in_sign (pv 1) (pe_glob (v := .str abc) rfl hL ⟨_, rfl⟩) (by rfl))) pa_nil)))), ?_⟩
    refine ⟨_, rfl, _, .ty "str", .type "str", .type "str", true, rfl, .ty _, .base (.str z), kit_ty (by decide +kernel), true, rfl, iteF ?_⟩
    have p1 : (1 : Int) ≤ (z.length : Int) := by have := iz.pos; omega
    have p2 : (z.length : Int) ≤ 8 := by have := iz.most; omega
    refine ⟨_, rfl, z, rfl, Nat.le_of_lt (small1000 (by have := iz.most; omega)), 1, _, rfl, rfl, true, congrArg V.bl (decide_eq_true p1), iteT ⟨_, 8, rfl, rfl, true, congrArg V.bl (decide_eq_true p2), iteF ?_⟩⟩
    refine ⟨_, rfl, z, rfl, fun D hD => lc_it walk_str (fun j H2 => H2 D = some (.lst ((List.replicate j true).map V.bl)) ∧ Same H H2) ⟨upd_same, Same.new hD⟩ (fun _ _ _ _ => trivial) ?_ ?_⟩
    · rintro j x H2 H3 hj ⟨h2, s2⟩ ⟨rfl, c, hc, rfl⟩
      refine ⟨rfl, yes_in ⟨_, rfl, c, abc, rfl, rfl, _, h2, ?_, ?_, ?_⟩⟩
      · rw [List.length_map, List.length_replicate]
        have : j < z.length := hj
        have := iz.most
        exact small1000 (by omega)
      · have cm : c ∈ z.cps.toList := by
          have q : z.cps.toList[j]? = some c := by rw [Array.getElem?_toList]; exact hc
          exact List.mem_of_getElem? q
        rw [upd_same, decide_eq_true (abc_has (iz.low c cm)), bl_snoc]
      · exact Same.free2 s2 hD
    · rintro H2 ⟨h2, s2⟩
      refine ⟨D, _, rfl, .of h2, ?_⟩
      rw [all_true]
      exact k H2 s2
/-! ### is_word -/
def spIsWord (K : PySem.W.Frag) : Sp := fun xs H Q _ => ∃ (a : Addr) (zs : List Str), xs = [.ref a] ∧ SqT K H a (zs.map V.str) ∧ zs.length ≤ 5000 ∧ (∀ z ∈ zs, Item z) ∧ ∀ H', Same H H' → Q (.bl true) H'
theorem scIsWord : FnScope ["value", "item"] ["value"] (defScope sIsWord) := ⟨rfl, rfl, rfl, by decide +kernel, rfl, by decide +kernel, by decide +kernel⟩
theorem has_isWord (D : Def K mg "is_word" sIsWord) (G : Has P w K mg base "is_item" 1 ["value"] [] spIsItem) (B : Blt mg) : Has P w K mg base "is_word" 2 ["value"] [] (spIsWord K) := by
  refine has_of D scIsWord (fun _ _ _ _ _ _ us hl => match us, hl with | [_], _ => rfl) (fun xs H Q E h => ?_) (fun f cv A out s H xs Q E hr h => ?_)
  · obtain ⟨a, zs, rfl, _⟩ := h
    rfl
  · obtain ⟨a, zs, rfl, hT, hz, hI, k⟩ := h
    refine ⟨_, pss_one (ps_ret (pe_and (pe_callB call_isi (by rfl) B.isi (by decide +kernel) (pa_cons (pv 0) (pa_cons (pe_bltn (v := .ty "tuple") (by rfl) B.tup (by decide +kernel) rfl) pa_nil)))
      (pe_one (pe_callB (cr_all rfl) (by rfl) B.all (by decide +kernel) (pa_cons
        (pe_lc (own := [("item", 1)]) (g := gName 1) (tt := tYes) (te := tCall spIsItem [] E0 (tCons (tVar 1) tNil)) rfl scIsWord.nd (pi_tup (pv 0)) (blkOk_by (own := [("item", 1)]) (N := ["value", "item"]) (sc := defScope sIsWord) (by decide +kernel))
          (fun _ _ _ _ _ => pg_name (i := 1) scIsWord.nd rfl (.inl rfl)) (fun _ _ _ _ _ => pts_nil) (fun _ _ _ _ _ => pe_has G hr (pa_cons (pv 1) pa_nil))) pa_nil))))), ?_⟩
    refine ⟨_, rfl, _, .ty "tuple", .type "tuple", .type "tuple", true, rfl, .ty _, ty_tup hT, kit_ty (by decide +kernel), true, rfl, iteT ?_⟩
    refine ⟨_, rfl, a, rfl, ⟨_, hT⟩, fun D hD => lc_tup (K := K) (a := a) (xs := zs.map V.str) (fun j H2 => H2 D = some (.lst ((List.replicate j true).map V.bl)) ∧ Same H H2) ⟨upd_same, Same.new hD⟩ (fun _ _ _ q => Same.tup q.2 hT) ?_ ?_⟩
    · rintro j x H2 hj ⟨h2, s2⟩
      have jl : j < zs.length := by
        have := (List.getElem?_eq_some_iff.mp hj).1
        rwa [List.length_map] at this
      rw [List.getElem?_map, List.getElem?_eq_getElem jl] at hj
      have e := Option.some.inj hj
      subst e
      refine ⟨rfl, yes_in ⟨_, rfl, zs[j], rfl, hI _ (List.getElem_mem jl), fun H3 s3 => ⟨_, s3 _ _ h2, ?_, ?_, ?_⟩⟩⟩
      · rw [List.length_map, List.length_replicate]
        exact Nat.lt_of_lt_of_le jl (Nat.le_trans hz (by decide))
      · rw [upd_same, bl_snoc]
      · exact Same.free2 (s2.trans s3) hD
    · rintro H2 ⟨h2, s2⟩
      refine ⟨D, _, rfl, .of h2, ?_⟩
      rw [all_true]
      exact k H2 s2
/-! ### is_step -/
def spIsStep (K : PySem.W.Frag) : Sp := fun xs H Q _ => ∃ (v : V) (s : Stp), xs = [v] ∧ StepV K H v s ∧ Item s.2 ∧ ∀ H', Same H H' → Q (.bl true) H'
theorem scIsStep : FnScope ["value", "action", "item"] ["value"] (defScope sIsStep) := ⟨rfl, rfl, rfl, by decide +kernel, rfl, by decide +kernel, by decide +kernel⟩
theorem has_isStep (D : Def K mg "is_step" sIsStep) (G : Has P w K mg base "is_item" 1 ["value"] [] spIsItem) (B : Blt mg) (C : Cons K w mg) : Has P w K mg base "is_step" 2 ["value"] [] (spIsStep K) := by
  obtain ⟨d, es, n, u1, u2, hO, KD, n1, r1, n2, r2⟩ := C.opp
  refine has_of D scIsStep (fun _ _ _ _ _ _ us hl => match us, hl with | [_], _ => rfl) (fun xs H Q E h => ?_) (fun f cv A out s H xs Q E hr h => ?_)
  · obtain ⟨v, st, rfl, _⟩ := h
    rfl
  · obtain ⟨v, st, rfl, ⟨t, rfl, hT⟩, iz, k⟩ := h
    refine ⟨_, pss_cons (ps_if (PW.pt (pw_or (pt_not (pt_val (pe_callB call_isi (by rfl) B.isi (by decide +kernel) (pa_cons (pv 0) (pa_cons (pe_bltn (v := .ty "tuple") (by rfl) B.tup (by decide +kernel) rfl) pa_nil)))))
        (pw_or1 (pt_cmpR op_ne (pe_callB call_len_seq (by rfl) B.len PySem.boot_len (pa_cons (pv 0) pa_nil)) pe_int (nomark _))))) (pss_one (ps_ret pe_bl)) pss_nil)
      (pss_cons (ps_asg (pv 0) (pg_tup (by rfl) (pgs_cons (pg_name (i := 1) scIsStep.nd rfl (.inl rfl)) (pgs_cons (pg_name (i := 2) scIsStep.nd rfl (.inl rfl)) pgs_nil))))
      (pss_one (ps_ret (pe_and (pe_callB call_isi (by rfl) B.isi (by decide +kernel) (pa_cons (pv 1) (pa_cons (pe_bltn (v := .ty "str") (by rfl) B.str (by decide +kernel) rfl) pa_nil)))
        (pe_and (pe_cmpR (op_in_kd KD) (pv 1) (pe_glob (v := .ref d) rfl hO rfl) (by rfl)) (pe_one (pe_has G hr (pa_cons (pv 2) pa_nil)))))))), ?_⟩
    refine ⟨_, rfl, _, .ty "tuple", .type "tuple", .type "tuple", true, rfl, .ty _, ty_tup hT, kit_ty (by decide +kernel), true, rfl, iteF ?_⟩
    refine ⟨_, rfl, t, _, rfl, .inr hT, rfl, _, rfl, iteF ?_⟩
    refine ⟨_, rfl, t, _, rfl, hT, rfl, _, _, rfl, _, _, rfl, rfl, ?_⟩
    refine ⟨_, rfl, _, .ty "str", .type "str", .type "str", true, rfl, .ty _, .base (.str _), kit_ty (by decide +kernel), true, rfl, iteT ?_⟩
    have inO : ∃ r, PySem.W.nsIn K d (act st.1) = some r ∧ r.isSome = true := by
      cases e : st.1 with
      | true => exact ⟨some u1, n1, rfl⟩
      | false => exact ⟨some u2, n2, rfl⟩
    obtain ⟨r, hr1, hr2⟩ := inO
    refine ⟨_, rfl, act st.1, r, rfl, rfl, hr1, r.isSome, rfl, ?_⟩
    rw [hr2]
    exact iteT ⟨_, rfl, st.2, rfl, iz, k⟩
end
end SE
namespace SE
open PySem PySem.Spec PyProof.Rows L2
section
variable {P : Program} {w : World} {K : PySem.W.Frag} {mg : Str → Option Value} {base : Heap}
/-! ### may_hold_steps -/
def spMay (K : PySem.W.Frag) : Sp := fun xs H Q _ => ∃ (a : Addr) (ys : List V), xs = [.ref a] ∧ (SqL K H a ys ∨ SqT K H a ys) ∧ ys.length ≤ 1000 ∧ ∀ H', Same H H' → Q (.bl true) H'
theorem scMay : FnScope ["value"] ["value"] (defScope sMayHold) := ⟨rfl, rfl, rfl, by decide +kernel, rfl, by decide +kernel, by decide +kernel⟩
theorem has_may (D : Def K mg "may_hold_steps" sMayHold) (B : Blt mg) (C : Cons K w mg) : Has P w K mg base "may_hold_steps" 1 ["value"] [] (spMay K) := by
  obtain ⟨tm, hM⟩ := C.ms
  refine has_of D scMay (fun _ _ _ _ _ _ us hl => match us, hl with | [_], _ => rfl) (fun xs H Q E h => ?_) (fun f cv A out s H xs Q E hr h => ?_)
  · obtain ⟨a, ys, rfl, _⟩ := h
    rfl
  · obtain ⟨a, ys, rfl, hS, hl, k⟩ := h
    refine ⟨_, pss_one (ps_ret (pe_and (pe_callB call_isiT (by rfl) B.isi (by decide +kernel) (pa_cons (pv 0) (pa_cons (pe_tup (pa_cons (pe_bltn (v := .ty "list") (by rfl) B.lst (by decide +kernel) rfl) (pa_cons (pe_bltn (v := .ty "tuple") (by rfl) B.tup (by decide +kernel) rfl) pa_nil))) pa_nil)))
      (pe_one (pe_cmpR op_le (pe_callB call_len_seq (by rfl) B.len PySem.boot_len (pa_cons (pv 0) pa_nil)) (pe_glob (v := .int 1000) rfl hM ⟨_, rfl⟩) (nomark _))))), ?_⟩
    refine ⟨_, rfl, (by show 2 ≤ sizeLine; decide), fun t ht => ?_⟩
    have s1 : Same H (upd H t (.tup [.ty "list", .ty "tuple"])) := Same.new ht
    have p1 : (ys.length : Int) ≤ 1000 := by omega
    have ty : ∃ T, TyX K (upd H t (.tup [.ty "list", .ty "tuple"])) (.ref a) T ∧ PySem.W.kitAny K T [.type "list", .type "tuple"] = some true := by
      rcases hS with q | q
      · exact ⟨_, ty_lst (Same.seq s1 q), kitAny_cons (b := true) (kit_ty (by decide +kernel)) (fun z => (by cases z)) (fun _ => rfl)⟩
      · exact ⟨_, ty_tup (Same.tup s1 q), kitAny_cons (b := false) (kit_ty (by decide +kernel)) (fun _ => kitAny_cons (b := true) (kit_ty (by decide +kernel)) (fun z => (by cases z)) (fun _ => rfl)) (fun z => (by cases z))⟩
    obtain ⟨T, ty1, ty2⟩ := ty
    refine ⟨_, t, _, T, _, true, rfl, upd_same, .cons (.ty _) (.cons (.ty _) .nil), ty1, ty2, true, rfl, iteT ?_⟩
    refine ⟨_, rfl, a, ys, rfl, hS.imp (Same.seq s1) (Same.tup s1), _, 1000, rfl, rfl, ?_⟩
    show Q (V.bl (decide ((ys.length : Int) ≤ 1000))) _
    rw [decide_eq_true p1]
    exact k _ s1
theorem walk_enumT {K : PySem.W.Frag} {a : Addr} {xs : List V} : Walk (ItE K a) xs.length (fun H => SqT K H a xs) (YPair (fun i => some (.int (i : Nat))) (fun i => xs[i]?)) := by
  refine ⟨fun i _ hi q => ⟨xs, xs[i], q, by simp [hi]⟩, fun _ q => ⟨xs, q, Nat.le_refl _⟩, fun i H v H2 _ q y => ?_⟩
  obtain ⟨T, x, h1, h2, h3, h4⟩ := y
  exact ⟨T, .int (i : Nat), x, h1, h2, h3, rfl, h4 xs q⟩
end
end SE
namespace SE
open PySem PySem.Spec PyProof.Rows L2
/-- a def with keyword-only defaults alone -/
def DefK (K : PySem.W.Frag) (mg : Str → Option Value) (x : Str) (st : Stmt) (kws : List (Str × V)) : Prop := ∃ f fd, Fun K x x st f fd ∧ FunD K x x (defArgs st) (defBody st) (defScope st) [] kws f fd ∧ mg x = some (.ref f)
end SE
namespace SE
open PySem PySem.Spec PyProof.Rows L2
/-! ### limits -/
abbrev Lim := Option Nat
def limV : Lim → V
  | none => .non
  | some n => .int (n : Int)
def high : Lim → Nat → Bool
  | none, _ => false
  | some m, h => decide (m < h)
def LimOk (l : Lim) : Prop := ∀ n, l = some n → n ≤ 1000
def stepL (l : Lim) (s : Stp) (zs : List Str) : Option (List Str) := if (s.1 && high l (zs.length + 1)) = true then none else stepM s zs
def goL (l : Lim) : Nat → List Stp → List Str → Option Nat × List Str
  | _, [], zs => (none, zs)
  | i, s :: ss, zs => match stepL l s zs with
    | none => (some i, zs)
    | some ws => goL l (i + 1) ss ws
def followL (l : Lim) (ss : List Stp) (zs : List Str) : Option Int × List Str := if high l zs.length = true then (some (-1), zs) else ((goL l 0 ss zs).1.map fun (i : Nat) => (i : Int), (goL l 0 ss zs).2)
def runL (l : Lim) (ss : List Stp) (zs : List Str) : Option (List Str) := match (followL l ss zs).1 with
  | none => some (followL l ss zs).2
  | some _ => none
def stagesG (l : Lim) : List Stp → List Str → List (List Str)
  | [], _ => []
  | s :: ss, zs => match stepL l s zs with
    | none => []
    | some ws => ws :: stagesG l ss ws
def stagesL (l : Lim) (ss : List Stp) (zs : List Str) : List (List Str) := if high l zs.length = true then [] else zs :: stagesG l ss zs
def idxV : Option Int → V
  | none => .non
  | some i => .int i
theorem stepL_sub {l : Lim} {s : Stp} {zs ws : List Str} (h : stepL l s zs = some ws) : stepM s zs = some ws := by
  unfold stepL at h
  split at h
  · cases h
  · exact h
section
variable {P : Program} {w : World} {K : PySem.W.Frag} {mg : Str → Option Value} {base : Heap}
/-! ### is_whole, is_limit, check_limit, check_run, is_too_high -/
/-- valid arguments of a run -/
structure Args3 (K : PySem.W.Frag) (H : Hp) (a q : Addr) (ys : List V) (ss : List Stp) (zs : List Str) : Prop where
  l : SqL K H a ys
  n : ys.length ≤ 1000
  v : StepsV K H ys ss
  i : ∀ s ∈ ss, Item s.2
  t : SqT K H q (zs.map V.str)
  m : zs.length ≤ 3000
  z : ∀ z ∈ zs, Item z
theorem Args3.same {H H' : Hp} {a q : Addr} {ys : List V} {ss : List Stp} {zs : List Str} (h : Args3 K H a q ys ss zs) (e : Same H H') : Args3 K H' a q ys ss zs := ⟨Same.seq e h.l, h.n, h.v.same e, h.i, Same.tup e h.t, h.m, h.z⟩
def spHighL : Sp := fun xs H Q _ => ∃ (n : Nat) (l : Lim), xs = [.int (n : Int), limV l] ∧ Q (.bl (high l n)) H
theorem scHiL : FnScope ["height", "limit"] ["height", "limit"] (defScope sTooHigh) := ⟨rfl, rfl, rfl, by decide +kernel, rfl, by decide +kernel, by decide +kernel⟩
theorem has_highL (D : Def K mg "is_too_high" sTooHigh) : Has P w K mg base "is_too_high" 1 ["height", "limit"] [] spHighL := by
  refine has_of D scHiL (fun _ _ _ _ _ _ us hl => match us, hl with | [_, _], _ => rfl) (fun xs H Q E h => ?_) (fun f cv A out s H xs Q E hr h => ?_)
  · obtain ⟨n, l, rfl, _⟩ := h
    rfl
  · obtain ⟨n, l, rfl, k⟩ := h
    refine ⟨_, pss_one (ps_ret (pe_and (pe_cmpR op_notN (pv 1) pe_non (nomark _)) (pe_one (pe_cmpR op_gt (pv 0) (pv 1) (nomark _))))), ?_⟩
    cases l with
    | none => exact ⟨_, rfl, rfl, false, rfl, iteF k⟩
    | some m =>
      refine ⟨_, rfl, rfl, true, rfl, iteT ⟨_, rfl, _, rfl, (n : Int), (m : Int), rfl, rfl, ?_⟩⟩
      have e : high (some m) n = decide ((m : Int) < (n : Int)) := by
        show decide (m < n) = _
        by_cases c : m < n
        · rw [decide_eq_true c, decide_eq_true (by omega)]
        · rw [decide_eq_false c, decide_eq_false (by omega)]
      rw [e] at k
      exact k
end
end SE
namespace SE
open PySem PySem.Spec PyProof.Rows L2
theorem cutF_to {α : Type} (f : α → V) (xs : List α) (j : Nat) : cutV (xs.map f) none (some (j : Int)) = (xs.take j).map f := by
  unfold cutV
  rw [List.length_map]
  have e1 : HT.sIx xs.length 0 none = 0 := rfl
  rw [e1, HT.sIx_nat, List.drop_zero, Nat.sub_zero, ← List.map_take]
  congr 1
  by_cases c : j ≤ xs.length
  · rw [Nat.min_eq_left c]
  · rw [Nat.min_eq_right (by omega), List.take_length, List.take_of_length_le (by omega)]
theorem cutF_from {α : Type} (f : α → V) (xs : List α) (j : Nat) : cutV (xs.map f) (some (j : Int)) none = (xs.drop j).map f := by
  unfold cutV
  rw [List.length_map]
  have e1 : HT.sIx xs.length xs.length none = xs.length := rfl
  rw [e1, HT.sIx_nat, ← List.map_drop, ← List.map_take]
  congr 1
  by_cases c : j ≤ xs.length
  · rw [Nat.min_eq_left c, List.take_of_length_le (by rw [List.length_drop]; exact Nat.le_refl _)]
  · rw [Nat.min_eq_right (by omega), List.drop_of_length_le (Nat.le_refl _), List.drop_of_length_le (by omega), List.take_nil]
theorem paired_at {α β : Type} {F : α → β → Prop} : ∀ {l₁ : List α} {l₂ : List β} {i : Nat} {x : α}, Paired F l₁ l₂ → l₁[i]? = some x → ∃ y, l₂[i]? = some y ∧ F x y
  | _, _, _, _, .nil, h => by simp at h
  | _, _, 0, _, .cons r _, h => ⟨_, rfl, by cases h; exact r⟩
  | _, _, i + 1, _, .cons _ t, h => by
    obtain ⟨y, h1, h2⟩ := paired_at t (i := i) h
    exact ⟨y, h1, h2⟩
theorem paired_len {α β : Type} {F : α → β → Prop} : ∀ {l₁ : List α} {l₂ : List β}, Paired F l₁ l₂ → l₁.length = l₂.length
  | _, _, .nil => rfl
  | _, _, .cons _ t => congrArg Nat.succ (paired_len t)
theorem Paired.snoc2 {α β : Type} {F : α → β → Prop} : ∀ {l₁ : List α} {l₂ : List β} {x : α} {y : β}, Paired F l₁ l₂ → F x y → Paired F (l₁ ++ [x]) (l₂ ++ [y])
  | _, _, _, _, .nil, h => .cons h .nil
  | _, _, _, _, .cons r t, h => .cons r (Paired.snoc2 t h)
end SE
namespace SE
open PySem PySem.Spec PyProof.Rows L2
/-! ### named steps, and their parts by name -/
abbrev NSt := Bool × Str × Str
def NStV (K : PySem.W.Frag) (H : Hp) (v : V) (s : NSt) : Prop := ∃ t, v = .ref t ∧ SqT K H t [.str (act s.1), .str s.2.1, .str s.2.2]
abbrev NSV (K : PySem.W.Frag) (H : Hp) : List V → List NSt → Prop := Paired (NStV K H)
structure NOk (s : NSt) : Prop where
  n : Item s.2.1
  i : Item s.2.2
theorem NStV.same {K : PySem.W.Frag} {H H' : Hp} {v : V} {s : NSt} (h : NStV K H v s) (e : Same H H') : NStV K H' v s := by
  obtain ⟨t, q, z⟩ := h
  exact ⟨t, q, Same.tup e z⟩
theorem nsv_same {K : PySem.W.Frag} {H H' : Hp} {vs : List V} {ss : List NSt} (h : NSV K H vs ss) (e : Same H H') : NSV K H' vs ss := Paired.mapP h fun _ _ q => q.same e
abbrev Prts := List (Str × List Stp)
def addP (ps : Prts) (n : Str) (s : Stp) : Prts := if ps.any (fun p => decide (p.1 = n)) = true then ps.map (fun p => if p.1 = n then (p.1, p.2 ++ [s]) else p) else ps ++ [(n, [s])]
def prtM (ss : List NSt) : Prts := ss.foldl (fun ps s => addP ps s.2.1 (s.1, s.2.2)) []
theorem prtM_snoc (ss : List NSt) (s : NSt) : prtM (ss ++ [s]) = addP (prtM ss) s.2.1 (s.1, s.2.2) := by
  unfold prtM
  rw [List.foldl_append]
  rfl
theorem prtM_take {ss : List NSt} {j : Nat} {s : NSt} (h : ss[j]? = some s) : prtM (ss.take (j + 1)) = addP (prtM (ss.take j)) s.2.1 (s.1, s.2.2) := by
  rw [List.take_add_one, h]
  exact prtM_snoc _ _
/-- names that differ, names and items as they may be, few enough -/
structure PrOk (ps : Prts) (m : Nat) : Prop where
  nd : (ps.map (·.1)).Nodup
  ok : ∀ p ∈ ps, Item p.1 ∧ (∀ s ∈ p.2, Item s.2) ∧ p.2.length ≤ m
  len : ps.length ≤ m
theorem addP_fst (ps : Prts) (n : Str) (s : Stp) : (addP ps n s).map (·.1) = if ps.any (fun p => decide (p.1 = n)) = true then ps.map (·.1) else ps.map (·.1) ++ [n] := by
  unfold addP
  split
  · rw [List.map_map]
    refine List.map_congr_left fun p _ => ?_
    show (if p.1 = n then (p.1, p.2 ++ [s]) else p).1 = p.1
    split <;> rfl
  · rw [List.map_append]
    rfl
theorem addP_ok {ps : Prts} {m : Nat} {n : Str} {s : Stp} (h : PrOk ps m) (hn : Item n) (hs : Item s.2) : PrOk (addP ps n s) (m + 1) := by
  refine ⟨?_, fun p mp => ?_, ?_⟩
  · rw [addP_fst]
    split
    · exact h.nd
    · rename_i c
      rw [List.nodup_append]
      refine ⟨h.nd, by simp, fun x mx y my e => c ?_⟩
      rw [List.mem_singleton.mp my] at e
      obtain ⟨p, mp, ep⟩ := List.mem_map.mp mx
      exact List.any_eq_true.mpr ⟨p, mp, decide_eq_true (by rw [ep, e])⟩
  · unfold addP at mp
    split at mp
    · obtain ⟨q, mq, rfl⟩ := List.mem_map.mp mp
      obtain ⟨a, b, c⟩ := h.ok q mq
      split
      · refine ⟨a, fun x mx => ?_, by rw [List.length_append, List.length_singleton]; omega⟩
        rcases List.mem_append.mp mx with z | z
        · exact b x z
        · rw [List.mem_singleton.mp z]; exact hs
      · exact ⟨a, b, by omega⟩
    · rcases List.mem_append.mp mp with z | z
      · obtain ⟨a, b, c⟩ := h.ok p z
        exact ⟨a, b, by omega⟩
      · rw [List.mem_singleton.mp z]
        refine ⟨hn, fun x mx => ?_, by show 1 ≤ m + 1; omega⟩
        rw [List.mem_singleton.mp mx]; exact hs
  · unfold addP
    have := h.len
    split
    · rw [List.length_map]; omega
    · rw [List.length_append, List.length_singleton]; omega
theorem prtM_ok : ∀ {ss : List NSt} (j : Nat), (∀ s ∈ ss, NOk s) → PrOk (prtM (ss.take j)) j
  | _, 0, _ => ⟨by simp [prtM], fun p m => by simp [prtM] at m, by simp [prtM]⟩
  | ss, j + 1, h => by
    have ih := prtM_ok (ss := ss) j h
    cases e : ss[j]? with
    | none =>
      have le := List.getElem?_eq_none_iff.mp e
      rw [List.take_of_length_le (by omega)]
      rw [List.take_of_length_le le] at ih
      exact ⟨ih.nd, fun p m => ⟨(ih.ok p m).1, (ih.ok p m).2.1, by have := (ih.ok p m).2.2; omega⟩, by have := ih.len; omega⟩
    | some s =>
      rw [prtM_take e]
      have q := h s (List.mem_of_getElem? e)
      exact addP_ok ih q.n q.i
/-! ### a dict of lists of steps -/
abbrev Ent := Str × Addr × List Stp
def kvsE (es : List Ent) : List (Key × V) := es.map fun e => (Sum.inr e.1, V.ref e.2.1)
def pE (es : List Ent) : Prts := es.map fun e => (e.1, e.2.2)
def LsE (H : Hp) (es : List Ent) : Prop := ∀ e ∈ es, ∃ us, H e.2.1 = some (.lst us) ∧ StepsH H us e.2.2
theorem stepsH_sm {H H' : Hp} {xs : List V} {ss : List Stp} (h : StepsH H xs ss) (s : Same H H') : StepsH H' xs ss := Paired.mapP h fun _ _ q => by
  obtain ⟨t, e, z⟩ := q
  exact ⟨t, e, s _ _ z⟩
theorem LsE.same {H H' : Hp} {es : List Ent} (h : LsE H es) (s : Same H H') : LsE H' es := fun e m => by
  obtain ⟨us, a, b⟩ := h e m
  exact ⟨us, s _ _ a, stepsH_sm b s⟩
theorem valE (es : List Ent) (n : Str) : valV (kvsE es) (Sum.inr n) = (es.find? fun e => decide (e.1 = n)).map fun e => V.ref e.2.1 := by
  induction es with
  | nil => rfl
  | cons e es ih =>
    by_cases c : e.1 = n
    · rw [List.find?_cons_of_pos (by simpa using c)]
      exact valV_pos (show (Sum.inr e.1 : Key) = Sum.inr n by rw [c])
    · rw [List.find?_cons_of_neg (by simpa using c), ← ih]
      exact valV_neg (fun z => c (Sum.inr.inj z))
/-- one more step at an entry that stands -/
def appE (es : List Ent) (n : Str) (s : Stp) : List Ent := es.map fun e => if e.1 = n then (e.1, e.2.1, e.2.2 ++ [s]) else e
theorem appE_kvs (es : List Ent) (n : Str) (s : Stp) : kvsE (appE es n s) = kvsE es := by
  unfold kvsE appE
  rw [List.map_map]
  refine List.map_congr_left fun e _ => ?_
  show ((Sum.inr (if e.1 = n then (e.1, e.2.1, e.2.2 ++ [s]) else e).1 : Key), V.ref (if e.1 = n then (e.1, e.2.1, e.2.2 ++ [s]) else e).2.1) = _
  split <;> rfl
theorem appE_adr (es : List Ent) (n : Str) (s : Stp) : (appE es n s).map (·.2.1) = es.map (·.2.1) := by
  unfold appE
  rw [List.map_map]
  refine List.map_congr_left fun e _ => ?_
  show (if e.1 = n then (e.1, e.2.1, e.2.2 ++ [s]) else e).2.1 = _
  split <;> rfl
theorem appE_p (es : List Ent) (n : Str) (s : Stp) (h : ∃ e ∈ es, e.1 = n) : pE (appE es n s) = addP (pE es) n s := by
  have a : (pE es).any (fun p => decide (p.1 = n)) = true := by
    obtain ⟨e, m, q⟩ := h
    exact List.any_eq_true.mpr ⟨_, List.mem_map.mpr ⟨e, m, rfl⟩, decide_eq_true q⟩
  unfold addP
  rw [if_pos a]
  unfold pE appE
  rw [List.map_map, List.map_map]
  refine List.map_congr_left fun e _ => ?_
  show ((if e.1 = n then (e.1, e.2.1, e.2.2 ++ [s]) else e).1, (if e.1 = n then (e.1, e.2.1, e.2.2 ++ [s]) else e).2.2) = if e.1 = n then (e.1, e.2.2 ++ [s]) else (e.1, e.2.2)
  split <;> rfl
theorem newE_p (es : List Ent) (n : Str) (s : Stp) (L : Addr) (h : ∀ e ∈ es, e.1 ≠ n) : pE (es ++ [(n, L, [s])]) = addP (pE es) n s := by
  have a : ¬ (pE es).any (fun p => decide (p.1 = n)) = true := fun q => by
    obtain ⟨p, m, q⟩ := List.any_eq_true.mp q
    obtain ⟨e, me, rfl⟩ := List.mem_map.mp m
    exact h e me (of_decide_eq_true q)
  unfold addP
  rw [if_neg a]
  unfold pE
  rw [List.map_append]
  rfl
theorem newE_kvs (es : List Ent) (n : Str) (s : Stp) (L : Addr) (h : ∀ e ∈ es, e.1 ≠ n) : putK (kvsE es) (Sum.inr n) (.ref L) = kvsE (es ++ [(n, L, [s])]) := by
  unfold putK
  rw [if_neg]
  · unfold kvsE
    rw [List.map_append]
    rfl
  · intro q
    obtain ⟨p, m, q⟩ := List.any_eq_true.mp q
    obtain ⟨e, me, rfl⟩ := List.mem_map.mp m
    exact h e me (Sum.inr.inj (of_decide_eq_true q))
theorem find_name {es : List Ent} {n : Str} {e : Ent} (h : es.find? (fun e => decide (e.1 = n)) = some e) : e ∈ es ∧ e.1 = n := ⟨List.mem_of_find?_eq_some h, by
  have := List.find?_some (p := fun e : Ent => decide (e.1 = n)) h
  simpa using this⟩
theorem find_no {es : List Ent} {n : Str} (h : es.find? (fun e => decide (e.1 = n)) = none) : ∀ e ∈ es, e.1 ≠ n := fun e m q => by
  have := List.find?_eq_none.mp h e m
  exact this (decide_eq_true q)
section
variable {P : Program} {w : World} {K : PySem.W.Frag} {mg : Str → Option Value} {base : Heap}
/-! ### is_named_step, check_named_steps -/
def spIsN (K : PySem.W.Frag) : Sp := fun xs H Q _ => ∃ (v : V) (s : NSt), xs = [v] ∧ NStV K H v s ∧ NOk s ∧ ∀ H', Same H H' → Q (.bl true) H'
theorem scIn' : FnScope ["value", "action", "name", "item"] ["value"] (defScope sIsNamedStep) := ⟨rfl, rfl, rfl, by decide +kernel, rfl, by decide +kernel, by decide +kernel⟩
theorem has_isN (D : Def K mg "is_named_step" sIsNamedStep) (GI : Has P w K mg base "is_item" 1 ["value"] [] spIsItem) (GS : Has P w K mg base "is_step" 2 ["value"] [] (spIsStep K)) (B : Blt mg) : Has P w K mg base "is_named_step" 3 ["value"] [] (spIsN K) := by
  refine has_of D scIn' (fun _ _ _ _ _ _ us hl => match us, hl with | [_], _ => rfl) (fun xs H Q E h => ?_) (fun f cv A out s H xs Q E hr h => ?_)
  · obtain ⟨v, s, rfl, _⟩ := h
    rfl
  · obtain ⟨v, s, rfl, ⟨t, rfl, hT⟩, ok, k⟩ := h
    have hr1 : Room 1 _ := hr.mono (by decide)
    refine ⟨_, pss_cons (ps_if (PW.pt (pw_or (pt_not (pt_val (pe_callB call_isi (by rfl) B.isi (by decide +kernel) (pa_cons (pv 0) (pa_cons (pe_bltn (v := .ty "tuple") (by rfl) B.tup (by decide +kernel) rfl) pa_nil)))))
        (pw_or1 (pt_cmpR op_ne (pe_callB call_len_seq (by rfl) B.len PySem.boot_len (pa_cons (pv 0) pa_nil)) pe_int (nomark _))))) (pss_one (ps_ret pe_bl)) pss_nil)
      (pss_cons (ps_asg (pv 0) (pg_tup (by rfl) (pgs_cons (pg_name (i := 1) scIn'.nd rfl (.inl rfl)) (pgs_cons (pg_name (i := 2) scIn'.nd rfl (.inl rfl)) (pgs_cons (pg_name (i := 3) scIn'.nd rfl (.inl rfl)) pgs_nil)))))
      (pss_one (ps_ret (pe_and (pe_has GI hr1 (pa_cons (pv 2) pa_nil)) (pe_one (pe_has GS hr (pa_cons (pe_tup (pa_cons (pv 1) (pa_cons (pv 3) pa_nil))) pa_nil))))))), ?_⟩
    refine ⟨_, rfl, _, .ty "tuple", .type "tuple", .type "tuple", true, rfl, .ty _, ty_tup hT, kit_ty (by decide +kernel), true, rfl, iteF ?_⟩
    refine ⟨_, rfl, t, _, rfl, .inr hT, rfl, _, rfl, iteF ?_⟩
    refine ⟨_, rfl, t, _, rfl, hT, rfl, _, _, rfl, _, _, rfl, _, _, rfl, rfl, ?_⟩
    refine ⟨_, rfl, s.2.1, rfl, ok.n, fun H1 s1 => ⟨true, rfl, iteT ⟨_, rfl, _, rfl, (by show 2 ≤ sizeLine; decide), fun u hu => ⟨.ref u, (s.1, s.2.2), rfl, ⟨u, rfl, .of upd_same⟩, ok.i, fun H2 s2 => k H2 ((s1.trans (Same.new hu)).trans s2)⟩⟩⟩⟩
def spChkN (K : PySem.W.Frag) : Sp := fun xs H Q _ => ∃ (a : Addr) (ys : List V) (ss : List NSt), xs = [.ref a] ∧ (SqL K H a ys ∨ SqT K H a ys) ∧ ys.length ≤ 1000 ∧ NSV K H ys ss ∧ (∀ s ∈ ss, NOk s) ∧ ∀ H', Same H H' → Q .non H'
theorem scCn : FnScope ["steps", "index", "step"] ["steps"] (defScope sCheckNamedSteps) := ⟨rfl, rfl, rfl, by decide +kernel, rfl, by decide +kernel, by decide +kernel⟩
theorem has_chkN (D : Def K mg "check_named_steps" sCheckNamedSteps) (GM : Has P w K mg base "may_hold_steps" 1 ["value"] [] (spMay K)) (GS : Has P w K mg base "is_named_step" 3 ["value"] [] (spIsN K)) (B : Blt mg) : Has P w K mg base "check_named_steps" 4 ["steps"] [] (spChkN K) := by
  refine has_of D scCn (fun _ _ _ _ _ _ us hl => match us, hl with | [_], _ => rfl) (fun xs H Q E h => ?_) (fun f cv A out s H xs Q E hr h => ?_)
  · obtain ⟨a, ys, ss, rfl, _⟩ := h
    rfl
  · obtain ⟨a, ys, ss, rfl, hS, hl, hV, hI, k⟩ := h
    have hr1 : Room 1 _ := hr.mono (by decide)
    have one : ∀ {i : Nat} {y : V} {H2 : Hp}, ys[i]? = some y → Same H H2 → ∃ s, NStV K H2 y s ∧ NOk s := by
      intro i y H2 hy s2
      obtain ⟨st, h1, h2⟩ := paired_at hV hy
      exact ⟨st, h2.same s2, hI st (List.mem_of_getElem? h1)⟩
    rcases hS with hS | hS
    · refine ⟨_, pss_cons (ps_if (pt_not (pt_val (pe_has GM hr1 (pa_cons (pv 0) pa_nil)))) pss_never pss_nil)
        (pss_one (ps_for PassesOwn.never rfl (pi_enum (by rfl) B.enu (pa_cons (pv 0) pa_nil)) (pg_tup (by rfl) (pgs_cons (pg_name (i := 1) scCn.nd rfl (.inl rfl)) (pgs_cons (pg_name (i := 2) scCn.nd rfl (.inl rfl)) pgs_nil)))
          (pss_one (ps_if (pt_not (pt_val (pe_has GS hr (pa_cons (pv 2) pa_nil)))) pss_never pss_nil)))), ?_⟩
      refine ⟨_, rfl, a, ys, rfl, .inl hS, hl, fun H1 s1 => ⟨true, rfl, iteF ?_⟩⟩
      refine ⟨_, rfl, a, ys, rfl, Same.seq s1 hS, for_it (walk_enum (K := K) (a := a) (xs := ys)) (fun i σ H2 => ∃ y1 y2, σ = [some (.ref a), y1, y2] ∧ Same H H2) ⟨none, none, rfl, s1⟩ (fun i σ H2 _ q => ?_) ?_ ?_⟩
      · obtain ⟨_, _, _, s2⟩ := q
        exact Same.seq s2 hS
      · rintro i x σ H2 H3 hi ⟨y1, y2, rfl, s2⟩ ⟨T, p, y, rfl, nT, rfl, hp, hy⟩
        refine ⟨T, _, rfl, .of upd_same, rfl, _, _, rfl, _, _, rfl, rfl, ?_⟩
        have s3 : Same H (upd H2 T (.tup [p, y])) := Same.free2 s2 (s2.free nT)
        obtain ⟨st, h1, h2⟩ := one hy s3
        exact ⟨_, rfl, y, st, rfl, h1, h2, fun H4 s4 => ⟨true, rfl, iteF ⟨_, _, rfl, s3.trans s4⟩⟩⟩
      · rintro σ H2 ⟨y1, y2, rfl, s2⟩
        exact k H2 s2
    · refine ⟨_, pss_cons (ps_if (pt_not (pt_val (pe_has GM hr1 (pa_cons (pv 0) pa_nil)))) pss_never pss_nil)
        (pss_one (ps_for PassesOwn.never rfl (pi_enumT (by rfl) B.enu (pa_cons (pv 0) pa_nil)) (pg_tup (by rfl) (pgs_cons (pg_name (i := 1) scCn.nd rfl (.inl rfl)) (pgs_cons (pg_name (i := 2) scCn.nd rfl (.inl rfl)) pgs_nil)))
          (pss_one (ps_if (pt_not (pt_val (pe_has GS hr (pa_cons (pv 2) pa_nil)))) pss_never pss_nil)))), ?_⟩
      refine ⟨_, rfl, a, ys, rfl, .inr hS, hl, fun H1 s1 => ⟨true, rfl, iteF ?_⟩⟩
      refine ⟨_, rfl, a, ys, rfl, Same.tup s1 hS, for_it (walk_enumT (K := K) (a := a) (xs := ys)) (fun i σ H2 => ∃ y1 y2, σ = [some (.ref a), y1, y2] ∧ Same H H2) ⟨none, none, rfl, s1⟩ (fun i σ H2 _ q => ?_) ?_ ?_⟩
      · obtain ⟨_, _, _, s2⟩ := q
        exact Same.tup s2 hS
      · rintro i x σ H2 H3 hi ⟨y1, y2, rfl, s2⟩ ⟨T, p, y, rfl, nT, rfl, hp, hy⟩
        refine ⟨T, _, rfl, .of upd_same, rfl, _, _, rfl, _, _, rfl, rfl, ?_⟩
        have s3 : Same H (upd H2 T (.tup [p, y])) := Same.free2 s2 (s2.free nT)
        obtain ⟨st, h1, h2⟩ := one hy s3
        exact ⟨_, rfl, y, st, rfl, h1, h2, fun H4 s4 => ⟨true, rfl, iteF ⟨_, _, rfl, s3.trans s4⟩⟩⟩
      · rintro σ H2 ⟨y1, y2, rfl, s2⟩
        exact k H2 s2
end
end SE
namespace SE
open PySem PySem.Spec PyProof.Rows L2
/-- a dict from names to lists of steps -/
structure PD (H : Hp) (d : Addr) (es : List Ent) : Prop where
  at_ : H d = some (.dK (kvsE es))
  nd : (es.map (·.2.1)).Nodup
  ls : LsE H es
theorem pE_fst (es : List Ent) : (pE es).map (·.1) = es.map (·.1) := by
  unfold pE
  rw [List.map_map]
  rfl
/-- one step more, at an entry or at a new one; U: the list that is made for it -/
theorem PD.add {H : Hp} {d U t : Addr} {es : List Ent} {n : Str} {s : Stp} (h : PD H d es) (kn : ((pE es).map (·.1)).Nodup) (hU : H U = some (.lst [])) (nU : ∀ e ∈ es, e.2.1 ≠ U) (ht : H t = some (.tup [.str (act s.1), .str s.2])) :
    (∃ L us, valV (kvsE es) (Sum.inr n) = some (.ref L) ∧ H L = some (.lst us) ∧ us.length ≤ ((es.find? fun e => decide (e.1 = n)).map fun e => e.2.2.length).getD 0 ∧ ∃ es', PD (upd H L (.lst (us ++ [.ref t]))) d es' ∧ pE es' = addP (pE es) n s ∧ ∀ e ∈ es', ∃ e0 ∈ es, e.2.1 = e0.2.1) ∨
    (valV (kvsE es) (Sum.inr n) = none ∧ ∃ es', PD (upd (upd H d (.dK (putK (kvsE es) (Sum.inr n) (.ref U)))) U (.lst [.ref t])) d es' ∧ pE es' = addP (pE es) n s ∧ ∀ e ∈ es', e.2.1 = U ∨ ∃ e0 ∈ es, e.2.1 = e0.2.1) := by
  have td : t ≠ d := fun q => by rw [q, h.at_] at ht; cases ht
  cases hf : es.find? fun e => decide (e.1 = n) with
  | some e =>
    obtain ⟨em, en⟩ := find_name hf
    obtain ⟨us, hL, hs⟩ := h.ls e em
    have tL : t ≠ e.2.1 := fun q => by rw [q, hL] at ht; cases ht
    have dL : d ≠ e.2.1 := fun q => by rw [← q, h.at_] at hL; cases hL
    refine .inl ⟨e.2.1, us, by rw [valE, hf]; rfl, hL, ?_, appE es n s, ⟨?_, ?_, ?_⟩, appE_p es n s ⟨e, em, en⟩, fun x mx => ?_⟩
    · rw [Option.map_some, Option.getD_some]
      exact Nat.le_of_eq (Paired.length hs)
    · rw [upd_ne dL, appE_kvs]
      exact h.at_
    · rw [appE_adr]
      exact h.nd
    · intro x mx
      obtain ⟨y, my, rfl⟩ := List.mem_map.mp mx
      obtain ⟨vs, hy, hys⟩ := h.ls y my
      -- the tuples of an entry stay
      have keep : ∀ {xs : List V} {ss : List Stp}, StepsH H xs ss → StepsH (upd H e.2.1 (.lst (us ++ [.ref t]))) xs ss := fun q => Paired.mapP q fun _ _ z => by
        obtain ⟨u, eu, z⟩ := z
        exact ⟨u, eu, by rw [upd_ne (fun w => by rw [w, hL] at z; cases z)]; exact z⟩
      by_cases c : y.1 = n
      · have ey : y = e := by
          have inj : ∀ {l : List Ent}, ((pE l).map (·.1)).Nodup → ∀ a ∈ l, ∀ b ∈ l, a.1 = b.1 → a = b := by
            intro l
            induction l with
            | nil => intro _ a m; cases m
            | cons z l ih =>
              intro nd a ma b mb q
              rw [pE_fst, List.map_cons, List.nodup_cons] at nd
              rcases List.mem_cons.mp ma with rfl | ma'
              · rcases List.mem_cons.mp mb with rfl | mb'
                · rfl
                · exact absurd (List.mem_map.mpr ⟨b, mb', q.symm⟩) nd.1
              · rcases List.mem_cons.mp mb with rfl | mb'
                · exact absurd (List.mem_map.mpr ⟨a, ma', q⟩) nd.1
                · exact ih (by rw [pE_fst]; exact nd.2) a ma' b mb' q
          exact inj kn y my e em (c.trans en.symm)
        subst ey
        show ∃ us', (upd H y.2.1 _) (if y.1 = n then (y.1, y.2.1, y.2.2 ++ [s]) else y).2.1 = some (.lst us') ∧ StepsH _ us' (if y.1 = n then (y.1, y.2.1, y.2.2 ++ [s]) else y).2.2
        rw [if_pos c]
        exact ⟨_, upd_same, Paired.snoc2 (keep hs) ⟨t, rfl, by rw [upd_ne tL]; exact ht⟩⟩
      · show ∃ us', (upd H e.2.1 _) (if y.1 = n then (y.1, y.2.1, y.2.2 ++ [s]) else y).2.1 = some (.lst us') ∧ StepsH _ us' (if y.1 = n then (y.1, y.2.1, y.2.2 ++ [s]) else y).2.2
        rw [if_neg c]
        have ne : y.2.1 ≠ e.2.1 := by
          intro q
          have inj2 : ∀ {l : List Ent}, (l.map (·.2.1)).Nodup → ∀ a ∈ l, ∀ b ∈ l, a.2.1 = b.2.1 → a = b := by
            intro l
            induction l with
            | nil => intro _ a m; cases m
            | cons z l ih =>
              intro nd a ma b mb q
              rw [List.map_cons, List.nodup_cons] at nd
              rcases List.mem_cons.mp ma with rfl | ma'
              · rcases List.mem_cons.mp mb with rfl | mb'
                · rfl
                · exact absurd (List.mem_map.mpr ⟨b, mb', q.symm⟩) nd.1
              · rcases List.mem_cons.mp mb with rfl | mb'
                · exact absurd (List.mem_map.mpr ⟨a, ma', q⟩) nd.1
                · exact ih nd.2 a ma' b mb' q
          exact c (by rw [inj2 h.nd y my e em q]; exact en)
        exact ⟨vs, by rw [upd_ne ne]; exact hy, keep hys⟩
    · obtain ⟨y, my, rfl⟩ := List.mem_map.mp mx
      refine ⟨y, my, ?_⟩
      show (if y.1 = n then (y.1, y.2.1, y.2.2 ++ [s]) else y).2.1 = _
      split <;> rfl
  | none =>
    have no := find_no hf
    have dU : d ≠ U := fun q => by rw [← q, h.at_] at hU; cases hU
    have tU : t ≠ U := fun q => by rw [q, hU] at ht; cases ht
    refine .inr ⟨by rw [valE, hf]; rfl, es ++ [(n, U, [s])], ⟨?_, ?_, ?_⟩, newE_p es n s U no, fun x mx => ?_⟩
    · rw [upd_ne dU, upd_same, newE_kvs es n s U no]
    · rw [List.map_append, List.nodup_append]
      refine ⟨h.nd, by simp, fun x mx y my e => ?_⟩
      have ey : y = U := by simpa using my
      obtain ⟨z, mz, ez⟩ := List.mem_map.mp mx
      exact nU z mz (ez.trans (e.trans ey))
    · intro x mx
      rcases List.mem_append.mp mx with q | q
      · obtain ⟨vs, hy, hys⟩ := h.ls x q
        have xd : x.2.1 ≠ d := fun w => by rw [w, h.at_] at hy; cases hy
        refine ⟨vs, by rw [upd_ne (nU x q), upd_ne xd]; exact hy, Paired.mapP hys fun _ _ z => ?_⟩
        obtain ⟨u, eu, z⟩ := z
        exact ⟨u, eu, by rw [upd_ne (fun w => by rw [w, hU] at z; cases z), upd_ne (fun w => by rw [w, h.at_] at z; cases z)]; exact z⟩
      · rw [List.mem_singleton.mp q]
        exact ⟨_, upd_same, .cons ⟨t, rfl, by rw [upd_ne tU, upd_ne td]; exact ht⟩ .nil⟩
    · rcases List.mem_append.mp mx with q | q
      · exact .inr ⟨x, q, rfl⟩
      · rw [List.mem_singleton.mp q]
        exact .inl rfl
theorem upd_comm {H : Hp} {a b : Addr} {x y : HO} (h : b ≠ a) : upd (upd H a x) b y = upd (upd H b y) a x := by
  funext c
  by_cases e : c = a
  · subst e
    rw [upd_ne (Ne.symm h), upd_same, upd_same]
  · rw [upd_ne (a := a) e]
    by_cases e2 : c = b
    · subst e2
      rw [upd_same, upd_same]
    · rw [upd_ne e2, upd_ne e2, upd_ne e]
theorem hu_of {k : Nat} {A : Around} (hr : Room k A) : A.units + 1 < cLine := by
  have := hr.un
  omega
section
variable {P : Program} {w : World} {K : PySem.W.Frag} {mg : Str → Option Value} {base : Heap}
/-! ### split -/
def spSplit (K : PySem.W.Frag) : Sp := fun xs H Q _ => ∃ (a : Addr) (ys : List V) (ss : List NSt), xs = [.ref a] ∧ (SqL K H a ys ∨ SqT K H a ys) ∧ ys.length ≤ 1000 ∧ NSV K H ys ss ∧ (∀ s ∈ ss, NOk s) ∧
  ∀ (d : Addr) (es : List Ent) (H' : Hp), Same H H' → H d = none → PD H' d es → pE es = prtM ss → (∀ e ∈ es, H e.2.1 = none) → Q (.ref d) H'
abbrev nSp : List Str := ["steps", "found", "action", "name", "item"]
theorem scSp' : FnScope nSp ["steps"] (defScope sSplit) := ⟨rfl, rfl, rfl, by decide +kernel, rfl, by decide +kernel, by decide +kernel⟩
theorem has_split (D : Def K mg "split" sSplit) (GC : Has P w K mg base "check_named_steps" 4 ["steps"] [] (spChkN K)) : Has P w K mg base "split" 5 ["steps"] [] (spSplit K) := by
  refine has_of D scSp' (fun _ _ _ _ _ _ us hl => match us, hl with | [_], _ => rfl) (fun xs H Q E h => ?_) (fun f cv A out s H xs Q E hr h => ?_)
  · obtain ⟨a, ys, ss, rfl, _⟩ := h
    rfl
  · obtain ⟨a, ys, ss, rfl, hS, hl, hV, hI, k⟩ := h
    have hu := hu_of hr
    have ly : ys.length = ss.length := Paired.length hV
    -- a turn
    have go : ∀ {j : Nat} {x : V} {H2 : Hp} {d : Addr} {es : List Ent}, H d = none → ys[j]? = some x → Same H H2 → PD H2 d es → pE es = prtM (ss.take j) → (∀ e ∈ es, H e.2.1 = none) → ∃ (t : Addr) (s : NSt), x = .ref t ∧ SqT K H2 t [.str (act s.1), .str s.2.1, .str s.2.2] ∧
        ∀ (U : Addr), H2 U = none → (kvsE es).length < sizeLine ∧
          (∀ v, valV (kvsE es) (Sum.inr s.2.1) = some v → ∃ L us, v = .ref L ∧ (upd H2 U (.lst [])) L = some (.lst us) ∧ ∀ t', (upd H2 U (.lst [])) t' = none → us.length < sizeLine ∧ (upd (upd H2 U (.lst [])) t' (.tup [.str (act s.1), .str s.2.2])) L = some (.lst us) ∧
            ∃ es', PD (upd (upd (upd H2 U (.lst [])) t' (.tup [.str (act s.1), .str s.2.2])) L (.lst (us ++ [.ref t']))) d es' ∧ pE es' = prtM (ss.take (j + 1)) ∧ (∀ e ∈ es', H e.2.1 = none) ∧ Same H (upd (upd (upd H2 U (.lst [])) t' (.tup [.str (act s.1), .str s.2.2])) L (.lst (us ++ [.ref t'])))) ∧
          (valV (kvsE es) (Sum.inr s.2.1) = none → ∀ t', (upd (upd H2 U (.lst [])) d (.dK (putK (kvsE es) (Sum.inr s.2.1) (.ref U)))) t' = none → (upd (upd (upd H2 U (.lst [])) d (.dK (putK (kvsE es) (Sum.inr s.2.1) (.ref U)))) t' (.tup [.str (act s.1), .str s.2.2])) U = some (.lst []) ∧
            ∃ es', PD (upd (upd (upd (upd H2 U (.lst [])) d (.dK (putK (kvsE es) (Sum.inr s.2.1) (.ref U)))) t' (.tup [.str (act s.1), .str s.2.2])) U (.lst ([] ++ [.ref t']))) d es' ∧ pE es' = prtM (ss.take (j + 1)) ∧ (∀ e ∈ es', H e.2.1 = none) ∧
              Same H (upd (upd (upd (upd H2 U (.lst [])) d (.dK (putK (kvsE es) (Sum.inr s.2.1) (.ref U)))) t' (.tup [.str (act s.1), .str s.2.2])) U (.lst ([] ++ [.ref t'])))) := by
      intro j x H2 d es hd hj s2 pd pe fr
      obtain ⟨st, h1, t, e, h2⟩ := paired_at hV hj
      have pok := prtM_ok (ss := ss) j hI
      rw [← pe] at pok
      have jl := (List.getElem?_eq_some_iff.mp hj).1
      have dn2 : H2 d = some (.dK (kvsE es)) := pd.at_
      refine ⟨t, st, e, Same.tup s2 h2, fun U hU => ⟨?_, fun v hv => ?_, fun hv t' ht' => ?_⟩⟩
      · have q := pok.len
        unfold pE at q
        rw [List.length_map] at q
        unfold kvsE
        rw [List.length_map, sizeLine_eq]
        omega
      · have sU : Same H2 (upd H2 U (.lst [])) := Same.new hU
        have pd1 : PD (upd H2 U (.lst [])) d es := ⟨sU _ _ pd.at_, pd.nd, pd.ls.same sU⟩
        have nU : ∀ e ∈ es, e.2.1 ≠ U := fun e m q => by
          obtain ⟨us, a, _⟩ := pd.ls e m
          rw [q, hU] at a
          cases a
        rw [valE] at hv
        cases hf : es.find? (fun e => decide (e.1 = st.2.1)) with
        | none => rw [hf] at hv; cases hv
        | some e =>
          rw [hf] at hv
          cases hv
          obtain ⟨em, en⟩ := find_name hf
          obtain ⟨us, hL, hs⟩ := pd1.ls e em
          refine ⟨e.2.1, us, rfl, hL, fun t' ht' => ?_⟩
          have sT : Same (upd H2 U (.lst [])) (upd (upd H2 U (.lst [])) t' (.tup [.str (act st.1), .str st.2.2])) := Same.new ht'
          have pd2 : PD (upd (upd H2 U (.lst [])) t' (.tup [.str (act st.1), .str st.2.2])) d es := ⟨sT _ _ pd1.at_, pd.nd, pd1.ls.same sT⟩
          refine ⟨?_, sT _ _ hL, ?_⟩
          · have q := (pok.ok (e.1, e.2.2) (List.mem_map.mpr ⟨e, em, rfl⟩)).2.2
            have q2 : us.length = e.2.2.length := Paired.length hs
            rw [sizeLine_eq]
            have q3 : e.2.2.length ≤ j := q
            omega
          · rcases pd2.add (n := st.2.1) (s := (st.1, st.2.2)) (t := t') pok.nd (sT _ _ upd_same) nU upd_same with ⟨L, us', q1, q2, q3, es', q4, q5, q6⟩ | ⟨q1, _⟩
            · rw [valE, hf] at q1
              have eL : e.2.1 = L := V.ref.inj (Option.some.inj q1)
              subst eL
              rw [sT _ _ hL] at q2
              have eu : us = us' := HO.lst.inj (Option.some.inj q2)
              subst eu
              refine ⟨es', q4, by rw [q5, prtM_take h1, pe], fun x mx => ?_, ?_⟩
              · obtain ⟨e0, m0, z⟩ := q6 x mx
                rw [z]
                exact fr e0 m0
              · exact Same.free2 (s2.trans (sU.trans sT)) (fr e em)
            · rw [valE, hf] at q1
              cases q1
      · have sU : Same H2 (upd H2 U (.lst [])) := Same.new hU
        have nU : ∀ e ∈ es, e.2.1 ≠ U := fun e m q => by
          obtain ⟨us, a, _⟩ := pd.ls e m
          rw [q, hU] at a
          cases a
        have dU : d ≠ U := fun q => by rw [q, hU] at dn2; cases dn2
        have td : t' ≠ d := fun q => by rw [q, upd_same] at ht'; cases ht'
        have tU : t' ≠ U := fun q => by rw [q, upd_ne (Ne.symm dU), upd_same] at ht'; cases ht'
        have ht2 : (upd H2 U (.lst [])) t' = none := by
          rw [upd_ne td] at ht'
          exact ht'
        have sT : Same (upd H2 U (.lst [])) (upd (upd H2 U (.lst [])) t' (.tup [.str (act st.1), .str st.2.2])) := Same.new ht2
        have pd2 : PD (upd (upd H2 U (.lst [])) t' (.tup [.str (act st.1), .str st.2.2])) d es := ⟨sT _ _ (sU _ _ pd.at_), pd.nd, (pd.ls.same sU).same sT⟩
        refine ⟨by rw [upd_ne (Ne.symm tU), upd_ne (Ne.symm dU)]; exact upd_same, ?_⟩
        rcases pd2.add (n := st.2.1) (s := (st.1, st.2.2)) (t := t') pok.nd (sT _ _ upd_same) nU upd_same with ⟨L, us', q1, _⟩ | ⟨q1, es', q4, q5, q6⟩
        · rw [hv] at q1
          cases q1
        · have ec : upd (upd (upd H2 U (.lst [])) d (.dK (putK (kvsE es) (Sum.inr st.2.1) (.ref U)))) t' (.tup [.str (act st.1), .str st.2.2]) = upd (upd (upd H2 U (.lst [])) t' (.tup [.str (act st.1), .str st.2.2])) d (.dK (putK (kvsE es) (Sum.inr st.2.1) (.ref U))) := upd_comm td
          rw [ec]
          refine ⟨es', q4, by rw [q5, prtM_take h1, pe], fun x mx => ?_, ?_⟩
          · rcases q6 x mx with z | ⟨e0, m0, z⟩
            · rw [z]
              exact s2.free hU
            · rw [z]
              exact fr e0 m0
          · exact Same.free2 (Same.free2 (s2.trans (sU.trans sT)) hd) (s2.free hU)
    have pd0 : ∀ {H1 : Hp} {d : Addr}, PD (upd H1 d (.dK [])) d [] := ⟨upd_same, by simp, fun e m => by cases m⟩
    rcases hS with hS | hS
    · refine ⟨_, pss_cons (ps_expr (pe_has GC hr (pa_cons (pv 0) pa_nil)))
        (pss_cons (ps_set (i := 1) scSp'.nd rfl (.inl rfl) pe_dnewK)
        (pss_cons (ps_for PassesOwn.never rfl (pi_list (pv 0)) (pg_tup (by rfl) (pgs_cons (pg_name (i := 2) scSp'.nd rfl (.inl rfl)) (pgs_cons (pg_name (i := 3) scSp'.nd rfl (.inl rfl)) (pgs_cons (pg_name (i := 4) scSp'.nd rfl (.inl rfl)) pgs_nil))))
          (pss_one (ps_expr (pe_bm PySem.F.plainAttrs_list PySem.F.slot_list_append PySem.F.type_list_append mt_append (pe_dsetd (pv 1) (pv 3) (pe_lst pa_nil) ⟨rfl, rfl, rfl, rfl⟩) (pa_cons (pe_tup (pa_cons (pv 2) (pa_cons (pv 4) pa_nil))) pa_nil)))))
        (pss_one (ps_ret (pv 1))))), ?_⟩
      refine ⟨_, rfl, a, ys, ss, rfl, .inl hS, hl, hV, hI, fun H1 s1 => fun d hd => ?_⟩
      have hd0 : H d = none := s1.free hd
      have sd : Same H1 (upd H1 d (.dK [])) := Same.new hd
      refine ⟨_, rfl, a, rfl, ⟨_, Same.seq (s1.trans sd) hS⟩, for_list (K := K) (a := a) (xs := ys) (fun j σ H2 => ∃ (es : List Ent) (y2 y3 y4 : Option V), σ = [some (.ref a), some (.ref d), y2, y3, y4] ∧ PD H2 d es ∧ pE es = prtM (ss.take j) ∧ (∀ e ∈ es, H e.2.1 = none) ∧ Same H H2) ⟨[], _, _, _, rfl, pd0, rfl, fun e m => (by cases m), s1.trans sd⟩ (fun j σ H2 _ q => ?_) ?_ ?_⟩
      · obtain ⟨_, _, _, _, _, _, _, _, s2⟩ := q
        exact Same.seq s2 hS
      · rintro j x σ H2 hj ⟨es, y2, y3, y4, rfl, pd, pe, fr, s2⟩
        obtain ⟨t, st, rfl, hT, q⟩ := go hd0 hj s2 pd pe fr
        refine ⟨t, _, rfl, hT, rfl, _, _, rfl, _, _, rfl, _, _, rfl, rfl, ?_⟩
        refine ⟨_, rfl, d, rfl, .inl ⟨_, .inl pd.at_⟩, _, rfl, (by show 0 ≤ sizeLine; decide), fun U hU => ?_⟩
        obtain ⟨q1, q2, q3⟩ := q U hU
        refine ⟨kvsE es, Sum.inr st.2.1, Same.new hU _ _ pd.at_, rfl, q1, fun v hv => ?_, fun hv => ?_⟩
        · obtain ⟨L, us, rfl, hL, q4⟩ := q2 v hv
          refine ⟨.inl ⟨rfl, _, .of hL⟩, _, rfl, _, rfl, (by show 2 ≤ sizeLine; decide), fun t' ht' => ?_⟩
          obtain ⟨q5, q6, es', z1, z2, z3, z4⟩ := q4 t' ht'
          exact ⟨L, us, .ref t', rfl, rfl, q6, q5, es', _, _, _, rfl, z1, z2, z3, z4⟩
        · have dU : d ≠ U := fun q => by rw [← q, pd.at_] at hU; cases hU
          refine ⟨.inl ⟨rfl, _, .of (by rw [upd_ne (Ne.symm dU)]; exact upd_same)⟩, _, rfl, _, rfl, (by show 2 ≤ sizeLine; decide), fun t' ht' => ?_⟩
          obtain ⟨q6, es', z1, z2, z3, z4⟩ := q3 hv t' ht'
          exact ⟨U, [], .ref t', rfl, rfl, q6, (by show 0 < sizeLine; decide), es', _, _, _, rfl, z1, z2, z3, z4⟩
      · rintro σ H2 ⟨es, y2, y3, y4, rfl, pd, pe, fr, s2⟩
        rw [ly, List.take_length] at pe
        exact ⟨_, rfl, k d es H2 s2 hd0 pd pe fr⟩
    · refine ⟨_, pss_cons (ps_expr (pe_has GC hr (pa_cons (pv 0) pa_nil)))
        (pss_cons (ps_set (i := 1) scSp'.nd rfl (.inl rfl) pe_dnewK)
        (pss_cons (ps_for PassesOwn.never rfl (pi_tup (pv 0)) (pg_tup (by rfl) (pgs_cons (pg_name (i := 2) scSp'.nd rfl (.inl rfl)) (pgs_cons (pg_name (i := 3) scSp'.nd rfl (.inl rfl)) (pgs_cons (pg_name (i := 4) scSp'.nd rfl (.inl rfl)) pgs_nil))))
          (pss_one (ps_expr (pe_bm PySem.F.plainAttrs_list PySem.F.slot_list_append PySem.F.type_list_append mt_append (pe_dsetd (pv 1) (pv 3) (pe_lst pa_nil) ⟨rfl, rfl, rfl, rfl⟩) (pa_cons (pe_tup (pa_cons (pv 2) (pa_cons (pv 4) pa_nil))) pa_nil)))))
        (pss_one (ps_ret (pv 1))))), ?_⟩
      refine ⟨_, rfl, a, ys, ss, rfl, .inr hS, hl, hV, hI, fun H1 s1 => fun d hd => ?_⟩
      have hd0 : H d = none := s1.free hd
      have sd : Same H1 (upd H1 d (.dK [])) := Same.new hd
      refine ⟨_, rfl, a, rfl, ⟨_, Same.tup (s1.trans sd) hS⟩, for_tup (K := K) (a := a) (xs := ys) (fun j σ H2 => ∃ (es : List Ent) (y2 y3 y4 : Option V), σ = [some (.ref a), some (.ref d), y2, y3, y4] ∧ PD H2 d es ∧ pE es = prtM (ss.take j) ∧ (∀ e ∈ es, H e.2.1 = none) ∧ Same H H2) ⟨[], _, _, _, rfl, pd0, rfl, fun e m => (by cases m), s1.trans sd⟩ (fun j σ H2 _ q => ?_) ?_ ?_⟩
      · obtain ⟨_, _, _, _, _, _, _, _, s2⟩ := q
        exact Same.tup s2 hS
      · rintro j x σ H2 hj ⟨es, y2, y3, y4, rfl, pd, pe, fr, s2⟩
        obtain ⟨t, st, rfl, hT, q⟩ := go hd0 hj s2 pd pe fr
        refine ⟨t, _, rfl, hT, rfl, _, _, rfl, _, _, rfl, _, _, rfl, rfl, ?_⟩
        refine ⟨_, rfl, d, rfl, .inl ⟨_, .inl pd.at_⟩, _, rfl, (by show 0 ≤ sizeLine; decide), fun U hU => ?_⟩
        obtain ⟨q1, q2, q3⟩ := q U hU
        refine ⟨kvsE es, Sum.inr st.2.1, Same.new hU _ _ pd.at_, rfl, q1, fun v hv => ?_, fun hv => ?_⟩
        · obtain ⟨L, us, rfl, hL, q4⟩ := q2 v hv
          refine ⟨.inl ⟨rfl, _, .of hL⟩, _, rfl, _, rfl, (by show 2 ≤ sizeLine; decide), fun t' ht' => ?_⟩
          obtain ⟨q5, q6, es', z1, z2, z3, z4⟩ := q4 t' ht'
          exact ⟨L, us, .ref t', rfl, rfl, q6, q5, es', _, _, _, rfl, z1, z2, z3, z4⟩
        · have dU : d ≠ U := fun q => by rw [← q, pd.at_] at hU; cases hU
          refine ⟨.inl ⟨rfl, _, .of (by rw [upd_ne (Ne.symm dU)]; exact upd_same)⟩, _, rfl, _, rfl, (by show 2 ≤ sizeLine; decide), fun t' ht' => ?_⟩
          obtain ⟨q6, es', z1, z2, z3, z4⟩ := q3 hv t' ht'
          exact ⟨U, [], .ref t', rfl, rfl, q6, (by show 0 < sizeLine; decide), es', _, _, _, rfl, z1, z2, z3, z4⟩
      · rintro σ H2 ⟨es, y2, y3, y4, rfl, pd, pe, fr, s2⟩
        rw [ly, List.take_length] at pe
        exact ⟨_, rfl, k d es H2 s2 hd0 pd pe fr⟩
end
end SE
/-! Dicts: a comprehension over any walk; a value that is locked for good. -/
namespace SE
open PySem PySem.Spec PyProof.Rows L2
section
variable {J : It} {n : Nat} {G : Hp → Prop} {Y : Nat → Hp → V → Hp → Prop}
theorem dc_it (w : Walk J n G Y) {g : TG} {tt : TT} {tk tv : TE} {vs : List Nat} {σ : L2.St} {H1 : Hp} {D : Addr} {Qd : Hp → Prop} (Pv : Nat → Hp → Prop) (h0 : Pv 0 (upd H1 D (.dK []))) (hG : ∀ i H, i ≤ n → Pv i H → G H)
    (hs : ∀ i x H H', i < n → Pv i H → Y i H x H' → g x (wipe σ vs) H' fun σ2 H2 => wipe σ2 vs = wipe σ vs ∧ tt σ2 H2 fun b H3 =>
      if b = true then tk σ2 H3 fun y H4 => tv σ2 H4 fun z H5 => ∃ kvs k, y = kV k ∧ H5 D = some (.dK kvs) ∧ kvs.length < sizeLine ∧ Pv (i + 1) (upd H5 D (.dK (putK kvs k z))) else Pv (i + 1) H3) (hd : ∀ H, Pv n H → Qd H) :
    ∃ W : Nat → Nat → Hp → Prop, (∃ m, W 0 m (upd H1 D (.dK []))) ∧ ∀ i m H, W i m H →
      (J.stop i H ∧ Qd H) ∨ (J.go i H ∧ ∃ Nx : Hp → Prop, (∀ H', Nx H' → ∃ m', m' < m ∧ W (i + 1) m' H') ∧ ∀ x H', J.yld i H x H' → g x (wipe σ vs) H' fun σ2 H2 => wipe σ2 vs = wipe σ vs ∧ tt σ2 H2 fun b H3 =>
        if b = true then tk σ2 H3 fun y H4 => tv σ2 H4 fun z H5 => ∃ kvs k, y = kV k ∧ H5 D = some (.dK kvs) ∧ kvs.length < sizeLine ∧ Nx (upd H5 D (.dK (putK kvs k z))) else Nx H3) := by
  refine ⟨fun i m H => m = n - i ∧ i ≤ n ∧ Pv i H, ⟨n, by simp, Nat.zero_le _, h0⟩, ?_⟩
  rintro i m H ⟨rfl, hi, p⟩
  have q := hG i H hi p
  by_cases hlt : i < n
  · exact .inr ⟨w.goes i H hlt q, Pv (i + 1), fun H' p' => ⟨n - (i + 1), by omega, rfl, hlt, p'⟩, fun x H' y => hs i x H H' hlt p (w.yields i H x H' hlt q y)⟩
  · have e : i = n := by omega
    subst e
    exact .inl ⟨w.stops H q, hd H p⟩
end
/-- the value of e, from now on locked -/
def tFrz (te : TE) : TE := fun σ H Q => te σ H fun x H1 => ∃ d u, x = .ref d ∧ H1 d = some u ∧ Mut (some u) ∧ ∀ od, Q x (upd H1 d (.frz od u))
section
variable {X : Cx}
theorem pe_frz {e : Expr} {te : TE} (h : PE X e te) : PE X e (tFrz te) := by
  refine ⟨fun pins s σ H Q I hw => thn (h.run pins s σ H _ I hw) fun v s1 ⟨x, H1, I1, r, d, u, ex, hd, mu, q⟩ => ?_⟩
  obtain ⟨od, I2⟩ := I1.lock hd mu
  exact ⟨x, _, I2, r, q od⟩
end
/-! ### name = {.. for ..} on one line -/
section
variable {X : Cx}
theorem ps_setDc {i : Nat} {y : Str} {yp : Pos} {kx vx tgt itx : Expr} {cs : List Expr} {sco : Scope} {ow : List (Str × Nat)} {dp sp : Pos} {wi : TI} {g : TG} {tt : TT} {tk tv : TE} (calm : X.calm = true) (nod : X.N.Nodup) (hy : X.N[i]? = some y) (loc : X.env.scope.names.lookup y = some .local)
    (sw : swapsWith (.DictComp kx vx [⟨tgt, itx, cs, 0⟩] sco dp) (some (.Name y yp)) sp.line X.env = pure true) (hi : PI X tgt itx wi) (ok : BlkOk X.N X.env.scope sco ow)
    (hg : ∀ (s : Shared) (H : Hp) (U : Addr) (cl : List (Str × Addr)) (fp : List Addr), PG (X.blk s H sco (compEnvC sco cl U X.env) fp) tgt g) (ht : ∀ (s : Shared) (H : Hp) (U : Addr) (cl : List (Str × Addr)) (fp : List Addr), PTs (X.blk s H sco (compEnvC sco cl U X.env) fp) cs tt)
    (hk : ∀ (s : Shared) (H : Hp) (U : Addr) (cl : List (Str × Addr)) (fp : List Addr), PE (X.blk s H sco (compEnvC sco cl U X.env) fp) kx tk)
    (hv : ∀ (s : Shared) (H : Hp) (U : Addr) (cl : List (Str × Addr)) (fp : List Addr), PE (X.blk s H sco (compEnvC sco cl U X.env) fp) vx tv) (fold : ∀ x, foldedSetIterable itx X.env x = pure x := by intro _; rfl) :
    PS X (.Assign [.Name y yp] (.DictComp kx vx [⟨tgt, itx, cs, 0⟩] sco dp) sp) (tAsg (tDc wi g tt tk tv (ow.map (·.2))) (gName i)) := by
  constructor
  intro pins s σ H Dn I q
  rw [exec_Assign_Name_used _ _ _ _ sw]
  refine wpAny_bind (wpAny_standAt (wpAny_bind ?_))
  show wpAny _ X.A (do let _ ← comprehension (.DictComp kx vx [⟨tgt, itx, cs, 0⟩] sco dp) sco X.env (firstIterPos [⟨tgt, itx, cs, 0⟩] dp) newDict false (eval itx X.env) (some (assign (.Name y yp) X.env))) _ _ s
  have q : tDc wi g tt tk tv (ow.map (·.2)) σ H (fun x H1 => gName i x σ H1 Dn.nx) := q
  refine wpAny_bind (thn (dc_core (Qf := fun _ s' => SP X pins Dn .next s') calm nod I hi ok hg ht hk hv fold q fun L U s' m H' J r nm fp => ?_) fun _ s' z => wpAny_pure (wpAny_pure z))
  show wpAny _ _ (assign (.Name y yp) X.env (.ref L)) _ _ _
  obtain ⟨p0, p1, p2, p3, p4, p5⟩ := fp
  refine wpAny_assign_Name (store_ok2 (v := V.ref L) J nod hy (.inl loc) rfl (fun s2 J2 ⟨a, same, wh⟩ => ?_) (.inr loc))
  have ne : U ≠ a := by
    rcases wh with z | z
    · rw [z]; exact p1
    · exact fun e => p4 y a z e.symm
  refine ⟨m, nm.sameBut same ne, fun h3 z3 => ⟨_, H', J2.turned (t' := s2.toks) (fun b o hb e => (z3.2 b hb).trans e) p0 p1 p3 p4 p5, r⟩⟩
theorem swd_true {kx vx : Expr} {gs : List Comprehension} {sco : Scope} {dp yp : Pos} {y : Str} {l : Nat} {env : Env} (fn : env.scope.kind = .function) (loc : env.scope.names.lookup y = some .local) (ln : (yp.line == dp.line) = true)
    (own : (sco.names.any fun (n, k) => n == y && (k == .local || k == .cell)) = false) : swapsWith (.DictComp kx vx gs sco dp) (some (.Name y yp)) l env = pure true := by
  have k1 : env.kindOf y = some .local := loc
  have k2 : env.blockKind = .function := by unfold Env.blockKind; rw [fn]; rfl
  unfold swapsWith
  simp only [k2, k1, own, Expr.pos, ln]
  rfl
end
end SE
namespace SE
open PySem PySem.Spec PyProof.Rows L2
theorem mut_dK {kvs : List (Key × V)} : Mut (some (.dK kvs)) := trivial
/-- what stands elsewhere stays where a dict is locked or unlocked -/
theorem LsE.updD {H : Hp} {d : Addr} {es : List Ent} {o : HO} (h : LsE H es) (hd : ∀ us, H d ≠ some (.lst us)) (ht : ∀ us, H d ≠ some (.tup us)) : LsE (upd H d o) es := fun e m => by
  obtain ⟨us, a, b⟩ := h e m
  have ne : e.2.1 ≠ d := fun q => by rw [q] at a; exact hd us a
  refine ⟨us, by rw [upd_ne ne]; exact a, Paired.mapP b fun _ _ z => ?_⟩
  obtain ⟨t, et, z⟩ := z
  exact ⟨t, et, by rw [upd_ne (fun q => by rw [q] at z; exact ht _ z)]; exact z⟩
theorem find_at {es : List Ent} {e : Ent} (nd : ((pE es).map (·.1)).Nodup) (m : e ∈ es) : es.find? (fun x => decide (x.1 = e.1)) = some e := by
  rw [pE_fst] at nd
  induction es with
  | nil => cases m
  | cons x es ih =>
    rw [List.map_cons, List.nodup_cons] at nd
    rcases List.mem_cons.mp m with rfl | m'
    · exact List.find?_cons_of_pos (by simp)
    · rw [List.find?_cons_of_neg]
      · exact ih nd.2 m'
      · intro q
        exact nd.1 (List.mem_map.mpr ⟨e, m', (of_decide_eq_true q).symm⟩)
theorem take_fresh {l : List Str} {j : Nat} {n : Str} (nd : l.Nodup) (h : l[j]? = some n) : n ∉ l.take j := fun m => by
  obtain ⟨i, hi⟩ := List.getElem?_of_mem m
  have il := (List.getElem?_eq_some_iff.mp hi).1
  rw [List.length_take] at il
  rw [List.getElem?_take_of_lt (by omega)] at hi
  obtain ⟨a1, _⟩ := List.getElem?_eq_some_iff.mp hi
  have := (List.getElem?_inj a1 nd).mp (hi.trans h.symm)
  omega
end SE
namespace SE
open PySem PySem.Spec PyProof.Rows L2
/-! ### heaps without some objects -/
def hid (S : List Addr) (H : Hp) : Hp := fun b => if b ∈ S then none else H b
theorem hid_ne {S : List Addr} {b : Addr} {H : Hp} (h : b ∉ S) : hid S H b = H b := if_neg h
theorem hid_out (S : List Addr) (H : Hp) : Same (hid S H) H := fun b o h => by
  unfold hid at h
  by_cases c : b ∈ S
  · rw [if_pos c] at h
    cases h
  · rw [if_neg c] at h
    exact h
theorem hid_map {S T : List Addr} {H H' : Hp} (h : ∀ b o, b ∉ S → H b = some o → b ∉ T ∧ H' b = some o) : Same (hid S H) (hid T H') := fun b o q => by
  unfold hid at q
  by_cases c : b ∈ S
  · rw [if_pos c] at q
    cases q
  · rw [if_neg c] at q
    obtain ⟨h1, h2⟩ := h b o c q
    rw [hid_ne h1]
    exact h2
theorem hid_of {S : List Addr} {H H' : Hp} (h : Same H H') : Same (hid S H) (hid S H') := hid_map fun b o c q => ⟨c, h b o q⟩
theorem hid_but {S : List Addr} {p : Addr} {H H' : Hp} (h : But p H H') (hp : p ∈ S) : Same (hid S H) (hid S H') := hid_map fun b o c q => ⟨c, h b o (fun e => c (e ▸ hp)) q⟩
theorem hid_upd {S : List Addr} {D : Addr} {H : Hp} {o : HO} (hD : D ∈ S) : Same (hid S H) (hid S (upd H D o)) := hid_map fun b u c q => ⟨c, by
  have e : b ≠ D := fun e => c (by rw [e]; exact hD)
  rw [upd_ne e]
  exact q⟩
/-- what H does not know may be hidden too -/
theorem hid_free {S : List Addr} {D : Addr} {H : Hp} (hD : H D = none) : Same (hid S H) (hid (D :: S) H) := hid_map fun b o c q => ⟨fun m => by
  rcases List.mem_cons.mp m with e | m
  · rw [e, hD] at q
    cases q
  · exact c m, q⟩
theorem hid_less {S : List Addr} {D : Addr} {H : Hp} : Same (hid (D :: S) H) (hid S H) := hid_map fun b o c q => ⟨fun m => c (List.mem_cons_of_mem _ m), q⟩
theorem Same.but3 {H H3 H4 : Hp} {p : Addr} (s : Same H H3) (hp : H p = none) (b : But p H3 H4) : Same H H4 := fun c o e => b c o (ne_of_none e hp) (s c o e)
theorem SqT.same3 {K : PySem.W.Frag} {H H' : Hp} {u p : Addr} {xs : List V} (h : SqT K H u xs) (hp : Pool H p) (b : But p H H') : SqT K H' u xs := by
  rcases h with (h | ⟨o, h⟩) | h
  · exact .inl (.inl (b _ _ (fun e => by obtain ⟨m, s, q, _⟩ := hp.ex; rw [e, q] at h; cases h) h))
  · exact .inl (.inr ⟨o, b _ _ (fun e => by obtain ⟨m, s, q, _⟩ := hp.ex; rw [e, q] at h; cases h) h⟩)
  · exact .inr h
theorem ixN_nat {n j : Nat} (h : j < n) : ixN n (j : Int) = some j := by
  unfold ixN
  rw [if_pos (by omega), if_pos (by omega), Int.toNat_natCast]
def LstAll (S : List Addr) (H : Hp) : Prop := ∀ b ∈ S, ∃ us, H b = some (.lst us)
theorem LstAll.nil {H : Hp} : LstAll [] H := fun _ m => by cases m
theorem LstAll.cons {S : List Addr} {D : Addr} {us : List V} {H : Hp} (h : LstAll S H) (hD : H D = some (.lst us)) : LstAll (D :: S) H := fun b m => by
  rcases List.mem_cons.mp m with e | m
  · exact ⟨us, e ▸ hD⟩
  · exact h b m
theorem LstAll.pool {H : Hp} {p : Addr} (h : Pool H p) : LstAll [p] H := by
  obtain ⟨m, s, e, _⟩ := h.ex
  exact LstAll.nil.cons e
theorem hid_at {S : List Addr} {H : Hp} {b : Addr} {o : HO} (h : LstAll S H) (hb : H b = some o) (n : ∀ us, o ≠ .lst us) : hid S H b = some o := by
  rw [hid_ne fun m => ?_]
  · exact hb
  · obtain ⟨us, e⟩ := h b m
    rw [e] at hb
    cases hb
    exact n us rfl
theorem hid_tup {K : PySem.W.Frag} {S : List Addr} {H : Hp} {a : Addr} {xs : List V} (h : LstAll S H) (ha : SqT K H a xs) : SqT K (hid S H) a xs := by
  rcases ha with (h1 | ⟨o, h1⟩) | h1
  · exact .inl (.inl (hid_at h h1 fun us e => by cases e))
  · exact .inl (.inr ⟨o, hid_at h h1 fun us e => by cases e⟩)
  · exact .inr h1
theorem hid_steps {S : List Addr} {H : Hp} {us : List V} {ss : List Stp} (h : LstAll S H) (hs : StepsH H us ss) : StepsH (hid S H) us ss := Paired.mapP hs fun _ _ q => by
  obtain ⟨t, e, z⟩ := q
  exact ⟨t, e, hid_at h z fun us e => by cases e⟩
section
variable {K : PySem.W.Frag} {C : Addr} {S : List Addr} {H : Hp}
end
end SE
namespace SE
open PySem PySem.Spec PyProof.Rows L2
abbrev NStH (H : Hp) : List V → List NSt → Prop := Paired fun v s => ∃ t, v = .ref t ∧ H t = some (.tup [.str (act s.1), .str s.2.1, .str s.2.2])
theorem NStH.v {K : PySem.W.Frag} {H : Hp} {xs : List V} {ss : List NSt} (h : NStH H xs ss) : NSV K H xs ss := Paired.mapP h fun _ _ q => by
  obtain ⟨t, e, z⟩ := q
  exact ⟨t, e, .of z⟩
theorem nsth_same {H H' : Hp} {xs : List V} {ss : List NSt} (h : NStH H xs ss) (s : Same H H') : NStH H' xs ss := Paired.mapP h fun _ _ q => by
  obtain ⟨t, e, z⟩ := q
  exact ⟨t, e, s _ _ z⟩
section
variable {P : Program} {w : World} {K : PySem.W.Frag} {mg : Str → Option Value} {base : Heap}
/-! ### _law_named -/
def spNamed : Sp := fun xs H Q _ => ∃ (p nl il : Addr) (m : Int) (ns zs : List Str), xs = [.ref p, .ref nl, .ref il, .int m] ∧ Pool H p ∧ nl ≠ p ∧ H nl = some (.lst (ns.map V.str)) ∧ ns ≠ [] ∧ ns.length ≤ 100 ∧ (∀ z ∈ ns, Item z) ∧ il ≠ p ∧ H il = some (.lst (zs.map V.str)) ∧ zs ≠ [] ∧ zs.length ≤ 100 ∧ (∀ z ∈ zs, Item z) ∧ 0 ≤ m ∧ m ≤ 100 ∧
  ∀ (t : Addr) (us : List V) (ss : List NSt) (H' : Hp), But p H H' → Pool H' p → H t = none → t ≠ p → H' t = some (.lst us) → NStH H' us ss → (ss.length : Int) ≤ m → (∀ s ∈ ss, NOk s) → Q (.ref t) H'
abbrev nNa : List Str := ["_law_pool_here", "_law_names", "_law_items_here", "_law_many", "_law_found", "_law_step"]
theorem scNa : FnScope nNa ["_law_pool_here", "_law_names", "_law_items_here", "_law_many"] (defScope sLawNamed) := ⟨rfl, rfl, rfl, by decide +kernel, rfl, by decide +kernel, by decide +kernel⟩
theorem act_len (b : Bool) : (act b).length ≤ 4 := by cases b <;> decide +kernel
theorem has_named (D : Def K mg "_law_named" sLawNamed) (GT : Has P w K mg base "_law_take" 1 ["_law_pool_here", "_law_many"] [] spTake) (GS : Has P w K mg base "_law_steps" 2 ["_law_pool_here", "_law_items_here", "_law_many"] [] spSteps) (ml : mg "len" = none) : Has P w K mg base "_law_named" 3 ["_law_pool_here", "_law_names", "_law_items_here", "_law_many"] [] spNamed := by
  refine has_of D scNa (fun _ _ _ _ _ _ us hl => match us, hl with | [_, _, _, _], _ => rfl) (fun xs H Q E h => ?_) (fun f cv A out s H xs Q E hr h => ?_)
  · obtain ⟨p, nl, il, m, ns, zs, rfl, _⟩ := h
    rfl
  · obtain ⟨p, nl, il, m, ns, zs, rfl, hp, np, hn, nne, n1, nI, lp', hil, zne, z1, zI, m0, m1, k⟩ := h
    have hr1 : Room 1 _ := hr.mono (by decide)
    refine ⟨_, pss_cons (ps_set (i := 4) scNa.nd rfl (.inl rfl) (pe_lst pa_nil))
      (pss_cons (ps_for PassesOwn.never rfl (pi_list (pe_has GS hr (pa_cons (pv 0) (pa_cons (pv 2) (pa_cons (pv 3) pa_nil))))) (pg_name (i := 5) scNa.nd rfl (.inl rfl))
        (pss_one (ps_expr (pe_bm PySem.F.plainAttrs_list PySem.F.slot_list_append PySem.F.type_list_append mt_append (pv 4) (pa_cons (pe_tup (pa_cons (pe_ix ix_tup (pv 5) pe_int (fun _ _ => rfl)) (pa_cons (pe_ix ix_list (pv 1) (pe_has GT hr1 (pa_cons (pv 0) (pa_cons (pe_callB call_len_seq (by rfl) ml PySem.boot_len (pa_cons (pv 1) pa_nil)) pa_nil))) (fun _ _ => rfl)) (pa_cons (pe_ix ix_tup (pv 5) pe_int (fun _ _ => rfl)) pa_nil)))) pa_nil)))))
      (pss_one (ps_ret (pv 4)))), ?_⟩
    refine ⟨(by show 0 ≤ sizeLine; decide), fun g hg => ?_⟩
    have gp : g ≠ p := hp.free hg
    have sg : Same H (upd H g (.lst [])) := Same.new hg
    refine ⟨_, rfl, _, rfl, _, rfl, p, il, m, zs, rfl, hp.same sg, lp', sg _ _ hil, zne, by omega, zI, m0, m1, fun t us ss H1 b1 p1 t0 ht hs ls sz => ?_⟩
    have hg1 : H1 g = some (.lst []) := b1 _ _ gp upd_same
    have tg : t ≠ g := fun q => by rw [q, upd_same] at t0; cases t0
    have tp : t ≠ p := (hp.same sg).free t0
    have hn1 := b1 _ _ np (sg _ _ hn)
    have nlg : nl ≠ g := ne_of_none hn hg
    have la1 : LstAll [g, p] H1 := (LstAll.pool p1).cons hg1
    have hs1 := hid_steps la1 hs
    have ht1 : hid [g, p] H1 t = some (.lst us) := by rw [hid_ne (by simp [tg, tp])]; exact ht
    have hn1h : hid [g, p] H1 nl = some (.lst (ns.map V.str)) := by rw [hid_ne (by simp [nlg, np])]; exact hn1
    have lus : us.length = ss.length := Paired.length hs
    have gm : g ∈ [g, p] := by simp
    have pm : p ∈ [g, p] := by simp
    have bH1 : But p H H1 := fun c o n q => b1 c o n (sg c o q)
    refine ⟨t, rfl, ⟨_, .of ht⟩, for_list (K := K) (a := t) (xs := us) (fun j σ H2 => ∃ (us2 : List V) (ss2 : List NSt) (y5 : Option V), σ = [some (.ref p), some (.ref nl), some (.ref il), some (.int m), some (.ref g), y5] ∧ H2 g = some (.lst us2) ∧ NStH (hid [g, p] H2) us2 ss2 ∧ us2.length = j ∧ Pool H2 p ∧ Same (hid [g, p] H1) (hid [g, p] H2) ∧ But p H H2 ∧ ∀ s ∈ ss2, NOk s) ⟨[], [], _, rfl, hg1, .nil, rfl, p1, Same.refl _, bH1, fun s m => (by cases m)⟩ (fun j σ H2 _ q => ?_) ?_ ?_⟩
    · obtain ⟨_, _, _, _, _, _, _, _, s2, _⟩ := q
      exact .of (hid_out _ _ _ _ (s2 _ _ ht1))
    · rintro j x σ H2 hx ⟨us2, ss2, y5, rfl, hg2, hN2, l2, p2, s2, b2, ok2⟩
      obtain ⟨st, h1, u, rfl, hu⟩ := paired_at hs1 hx
      have hu2 := hid_out _ _ _ _ (s2 _ _ hu)
      have hn2 := hid_out _ _ _ _ (s2 _ _ hn1h)
      have jl := (List.getElem?_eq_some_iff.mp hx).1
      have lns : 0 < ns.length := List.length_pos_iff.mpr nne
      refine ⟨.ref g, rfl, .inl ⟨rfl, _, .of hg2⟩, _, rfl, u, _, 0, _, rfl, rfl, .of hu2, atI_nat (j := 0) rfl, ?_⟩
      refine ⟨_, rfl, _, rfl, _, rfl, nl, _, rfl, .inl (.of hn2), p, _, rfl, p2, ?_, ?_, fun r H3 b3 p3 r0 r1 => ?_⟩
      · rw [List.length_map]; omega
      · rw [List.length_map]; omega
      rw [List.length_map] at r1
      obtain ⟨z, zm, az⟩ := pick_str r0 r1
      have hg3 := b3 _ _ gp hg2
      have s3 := hid_but (S := [g, p]) b3 pm
      have hu3 := hid_out _ _ _ _ (s3 _ _ (s2 _ _ hu))
      refine ⟨nl, _, r, _, rfl, rfl, .of (b3 _ _ np hn2), az, _, rfl, u, _, 1, _, rfl, rfl, .of hu3, atI_nat (j := 1) rfl, (by show 3 ≤ sizeLine; decide), fun T hT => ?_⟩
      have sT : Same H3 (upd H3 T (.tup [.str (act st.1), .str z, .str st.2])) := Same.new hT
      have Tg : T ≠ g := Ne.symm (ne_of_none hg3 hT)
      have Tp : T ≠ p := p3.free hT
      have sx : Same (hid [g, p] H2) (hid [g, p] (upd (upd H3 T (.tup [.str (act st.1), .str z, .str st.2])) g (.lst (us2 ++ [.ref T])))) := (s3.trans (hid_of sT)).trans (hid_upd gm)
      refine ⟨g, us2, _, rfl, rfl, sT _ _ hg3, by rw [sizeLine_eq]; omega, us2 ++ [.ref T], ss2 ++ [(st.1, z, st.2)], _, rfl, upd_same, ?_, by rw [List.length_append, l2]; rfl, (p3.same sT).upd gp, s2.trans sx, ?_, fun q mq => ?_⟩
      · refine Paired.snoc2 (nsth_same hN2 sx) ⟨T, rfl, ?_⟩
        rw [hid_ne (by simp [Tg, Tp]), upd_ne Tg]
        exact upd_same
      · exact ((b2.trans b3).trans (But.of sT)).free hg
      · rcases List.mem_append.mp mq with z' | z'
        · exact ok2 q z'
        · rw [List.mem_singleton.mp z']
          exact ⟨nI z zm, zI _ (sz st (List.mem_of_getElem? h1))⟩
    · rintro σ H2 ⟨us2, ss2, y5, rfl, hg2, hN2, l2, p2, s2, b2, ok2⟩
      have := Paired.length hN2
      exact ⟨_, rfl, k g us2 ss2 H2 b2 p2 hg gp hg2 (nsth_same hN2 (hid_out _ _)) (by omega) ok2⟩
/-! ### _law_parts -/
def spParts (K : PySem.W.Frag) : Sp := fun xs H Q _ => ∃ (a : Addr) (ys : List V) (ss : List NSt), xs = [.ref a] ∧ (SqL K H a ys ∨ SqT K H a ys) ∧ ys.length ≤ 1000 ∧ NSV K H ys ss ∧ (∀ s ∈ ss, NOk s) ∧
  ∀ (d : Addr) (es : List Ent) (H' : Hp), Same H H' → H d = none → H' d = some (.dK (kvsE es)) → LsE H' es → pE es = prtM ss → Q (.ref d) H'
abbrev nPa : List Str := ["_law_steps_here", "_law_found", "_law_action", "_law_name_here", "_law_item"]
theorem scPa : FnScope nPa ["_law_steps_here"] (defScope sLawParts) := ⟨rfl, rfl, rfl, by decide +kernel, rfl, by decide +kernel, by decide +kernel⟩
/-- the entry n with a new list -/
def setE (es : List Ent) (n : Str) (W : Addr) (s : Stp) : List Ent := if es.any (fun e => decide (e.1 = n)) = true then es.map (fun e => if e.1 = n then (e.1, W, e.2.2 ++ [s]) else e) else es ++ [(n, W, [s])]
theorem setE_kvs (es : List Ent) (n : Str) (W : Addr) (s : Stp) : putK (kvsE es) (Sum.inr n) (.ref W) = kvsE (setE es n W s) := by
  unfold putK setE kvsE
  have e : ((es.map fun e => ((Sum.inr e.1 : Key), V.ref e.2.1)).any fun kv => decide (kv.1 = Sum.inr n)) = es.any (fun e => decide (e.1 = n)) := by
    rw [List.any_map]
    congr 1
    funext x
    show decide ((Sum.inr x.1 : Key) = Sum.inr n) = decide (x.1 = n)
    by_cases c : x.1 = n
    · rw [decide_eq_true c, decide_eq_true (by rw [c])]
    · rw [decide_eq_false c, decide_eq_false (fun q => c (Sum.inr.inj q))]
  rw [e]
  split
  · rw [List.map_map, List.map_map]
    refine List.map_congr_left fun x _ => ?_
    show (if (Sum.inr x.1 : Key) = Sum.inr n then ((Sum.inr x.1 : Key), V.ref W) else (Sum.inr x.1, V.ref x.2.1)) = (Sum.inr (if x.1 = n then (x.1, W, x.2.2 ++ [s]) else x).1, V.ref (if x.1 = n then (x.1, W, x.2.2 ++ [s]) else x).2.1)
    by_cases c : x.1 = n
    · rw [if_pos (by rw [c]), if_pos c]
    · rw [if_neg (fun q => c (Sum.inr.inj q)), if_neg c]
  · rw [List.map_append]
    rfl
theorem setE_p (es : List Ent) (n : Str) (W : Addr) (s : Stp) : pE (setE es n W s) = addP (pE es) n s := by
  unfold setE addP pE
  have e : ((es.map fun e => (e.1, e.2.2)).any fun p => decide (p.1 = n)) = es.any (fun e => decide (e.1 = n)) := by
    rw [List.any_map]
    rfl
  rw [e]
  split
  · rw [List.map_map, List.map_map]
    refine List.map_congr_left fun x _ => ?_
    show ((if x.1 = n then (x.1, W, x.2.2 ++ [s]) else x).1, (if x.1 = n then (x.1, W, x.2.2 ++ [s]) else x).2.2) = if x.1 = n then (x.1, x.2.2 ++ [s]) else (x.1, x.2.2)
    split <;> rfl
  · rw [List.map_append]
    rfl
theorem setE_ls {H : Hp} {es : List Ent} {n : Str} {W : Addr} {s : Stp} {ws : List V} (h : LsE H es) (hW : H W = some (.lst ws)) (old : ∀ e ∈ es, e.1 = n → StepsH H ws (e.2.2 ++ [s])) (new : (∀ e ∈ es, e.1 ≠ n) → StepsH H ws [s]) : LsE H (setE es n W s) := by
  intro e me
  unfold setE at me
  split at me
  · obtain ⟨x, mx, rfl⟩ := List.mem_map.mp me
    by_cases c : x.1 = n
    · rw [if_pos c]
      exact ⟨ws, hW, old x mx c⟩
    · rw [if_neg c]
      exact h x mx
  · rename_i c
    rcases List.mem_append.mp me with q | q
    · exact h e q
    · rw [List.mem_singleton.mp q]
      exact ⟨ws, hW, new fun x mx q => c (List.any_eq_true.mpr ⟨x, mx, decide_eq_true q⟩)⟩
theorem has_parts (D : Def K mg "_law_parts" sLawParts) : Has P w K mg base "_law_parts" 1 ["_law_steps_here"] [] (spParts K) := by
  refine has_of D scPa (fun _ _ _ _ _ _ us hl => match us, hl with | [_], _ => rfl) (fun xs H Q E h => ?_) (fun f cv A out s H xs Q E hr h => ?_)
  · obtain ⟨a, ys, ss, rfl, _⟩ := h
    rfl
  · obtain ⟨a, ys, ss, rfl, hS, hl, hV, hI, k⟩ := h
    have hu := hu_of hr
    have ly : ys.length = ss.length := Paired.length hV
    have go : ∀ {j : Nat} {x : V} {H2 : Hp} {d : Addr} {es : List Ent}, H d = none → ys[j]? = some x → Same H H2 → H2 d = some (.dK (kvsE es)) → LsE H2 es → pE es = prtM (ss.take j) → ∃ (t : Addr) (s : NSt), x = .ref t ∧ SqT K H2 t [.str (act s.1), .str s.2.1, .str s.2.2] ∧
        ∀ U, H2 U = none → ∃ L us, (valV (kvsE es) (Sum.inr s.2.1)).getD (.ref U) = .ref L ∧ (upd H2 U (.lst [])) L = some (.lst us) ∧ ∀ t', (upd H2 U (.lst [])) t' = none → ∀ M, (upd (upd H2 U (.lst [])) t' (.tup [.str (act s.1), .str s.2.2])) M = none →
          (upd (upd (upd H2 U (.lst [])) t' (.tup [.str (act s.1), .str s.2.2])) M (.lst [.ref t'])) L = some (.lst us) ∧ us.length + [V.ref t'].length ≤ sizeLine ∧ ∀ W, (upd (upd (upd H2 U (.lst [])) t' (.tup [.str (act s.1), .str s.2.2])) M (.lst [.ref t'])) W = none →
            (upd (upd (upd (upd H2 U (.lst [])) t' (.tup [.str (act s.1), .str s.2.2])) M (.lst [.ref t'])) W (.lst (us ++ [.ref t']))) d = some (.dK (kvsE es)) ∧ (kvsE es).length < sizeLine ∧
            LsE (upd (upd (upd (upd (upd H2 U (.lst [])) t' (.tup [.str (act s.1), .str s.2.2])) M (.lst [.ref t'])) W (.lst (us ++ [.ref t']))) d (.dK (putK (kvsE es) (Sum.inr s.2.1) (.ref W)))) (setE es s.2.1 W (s.1, s.2.2)) ∧ pE (setE es s.2.1 W (s.1, s.2.2)) = prtM (ss.take (j + 1)) ∧
            Same H (upd (upd (upd (upd (upd H2 U (.lst [])) t' (.tup [.str (act s.1), .str s.2.2])) M (.lst [.ref t'])) W (.lst (us ++ [.ref t']))) d (.dK (putK (kvsE es) (Sum.inr s.2.1) (.ref W)))) := by
      intro j x H2 d es hd hj s2 hdk hls pe
      obtain ⟨st, h1, t, e, h2⟩ := paired_at hV hj
      have pok := prtM_ok (ss := ss) j hI
      rw [← pe] at pok
      have jl := (List.getElem?_eq_some_iff.mp hj).1
      refine ⟨t, st, e, Same.tup s2 h2, fun U hU => ?_⟩
      have sU : Same H2 (upd H2 U (.lst [])) := Same.new hU
      -- the list as it was
      obtain ⟨L, us, eL, hL, o1, o2, o3⟩ : ∃ L us, (valV (kvsE es) (Sum.inr st.2.1)).getD (.ref U) = V.ref L ∧ (upd H2 U (.lst [])) L = some (.lst us) ∧ (∀ e ∈ es, e.1 = st.2.1 → StepsH (upd H2 U (.lst [])) us e.2.2) ∧ ((∀ e ∈ es, e.1 ≠ st.2.1) → us = []) ∧ us.length ≤ 1000 := by
        rw [valE]
        cases hf : es.find? (fun e => decide (e.1 = st.2.1)) with
        | none => exact ⟨U, [], rfl, upd_same, fun e m q => absurd q (find_no hf e m), fun _ => rfl, by decide⟩
        | some e =>
          obtain ⟨em, en⟩ := find_name hf
          obtain ⟨us, a1, a2⟩ := hls e em
          have ll : us.length = e.2.2.length := Paired.length a2
          have l2 := (pok.ok (e.1, e.2.2) (List.mem_map.mpr ⟨e, em, rfl⟩)).2.2
          have l2 : e.2.2.length ≤ j := l2
          refine ⟨e.2.1, us, rfl, sU _ _ a1, fun x mx q => ?_, fun q => absurd en (q e em), by omega⟩
          have z1 := find_at pok.nd mx
          rw [q, hf] at z1
          cases z1
          exact stepsH_sm a2 sU
      refine ⟨L, us, eL, hL, fun t' ht' M hM => ?_⟩
      have sT : Same (upd H2 U (.lst [])) (upd (upd H2 U (.lst [])) t' (.tup [.str (act st.1), .str st.2.2])) := Same.new ht'
      have sM : Same (upd (upd H2 U (.lst [])) t' (.tup [.str (act st.1), .str st.2.2])) (upd (upd (upd H2 U (.lst [])) t' (.tup [.str (act st.1), .str st.2.2])) M (.lst [.ref t'])) := Same.new hM
      refine ⟨sM _ _ (sT _ _ hL), by rw [sizeLine_eq, List.length_singleton]; omega, fun W hW => ?_⟩
      have sW : Same (upd (upd (upd H2 U (.lst [])) t' (.tup [.str (act st.1), .str st.2.2])) M (.lst [.ref t'])) (upd (upd (upd (upd H2 U (.lst [])) t' (.tup [.str (act st.1), .str st.2.2])) M (.lst [.ref t'])) W (.lst (us ++ [.ref t']))) := Same.new hW
      have s1 := (sT.trans sM).trans sW
      have sA := sU.trans s1
      have hW1 : (upd (upd (upd (upd H2 U (.lst [])) t' (.tup [.str (act st.1), .str st.2.2])) M (.lst [.ref t'])) W (.lst (us ++ [.ref t']))) W = some (.lst (us ++ [.ref t'])) := upd_same
      have ht1 : (upd (upd (upd (upd H2 U (.lst [])) t' (.tup [.str (act st.1), .str st.2.2])) M (.lst [.ref t'])) W (.lst (us ++ [.ref t']))) t' = some (.tup [.str (act st.1), .str st.2.2]) := sW _ _ (sM _ _ upd_same)
      generalize upd (upd (upd (upd H2 U (.lst [])) t' (.tup [.str (act st.1), .str st.2.2])) M (.lst [.ref t'])) W (.lst (us ++ [.ref t'])) = HB at s1 sA hW1 ht1 ⊢
      have hB := sA _ _ hdk
      refine ⟨hB, ?_, ?_, by rw [setE_p, prtM_take h1, pe], Same.free2 (s2.trans sA) hd⟩
      · have q := pok.len
        unfold pE at q
        rw [List.length_map] at q
        unfold kvsE
        rw [List.length_map, sizeLine_eq]
        omega
      · refine LsE.updD (setE_ls (hls.same sA) hW1 (fun e m q => Paired.snoc2 (stepsH_sm (o1 e m q) s1) ⟨t', rfl, ht1⟩) (fun q => ?_)) (fun us q => by rw [hB] at q; cases q) (fun us q => by rw [hB] at q; cases q)
        rw [o2 q]
        exact .cons ⟨t', rfl, ht1⟩ .nil
    rcases hS with hS | hS
    · refine ⟨_, pss_cons (ps_set (i := 1) scPa.nd rfl (.inl rfl) pe_dnewK)
        (pss_cons (ps_for PassesOwn.never rfl (pi_list (pv 0)) (pg_tup (by rfl) (pgs_cons (pg_name (i := 2) scPa.nd rfl (.inl rfl)) (pgs_cons (pg_name (i := 3) scPa.nd rfl (.inl rfl)) (pgs_cons (pg_name (i := 4) scPa.nd rfl (.inl rfl)) pgs_nil))))
          (pss_one (ps_dput hu (pv 1) (pv 3) (pe_op op_cat (pe_dget2 hu (pv 1) (pv 3) (pe_lst pa_nil) ⟨rfl, rfl, rfl, rfl⟩) (pe_lst (pa_cons (pe_tup (pa_cons (pv 2) (pa_cons (pv 4) pa_nil))) pa_nil))) rfl)))
        (pss_one (ps_ret (pv 1)))), ?_⟩
      refine fun d hd => ?_
      have sd : Same H (upd H d (.dK [])) := Same.new hd
      refine ⟨_, rfl, a, rfl, ⟨_, Same.seq sd hS⟩, for_list (K := K) (a := a) (xs := ys) (fun j σ H2 => ∃ (es : List Ent) (y2 y3 y4 : Option V), σ = [some (.ref a), some (.ref d), y2, y3, y4] ∧ H2 d = some (.dK (kvsE es)) ∧ LsE H2 es ∧ pE es = prtM (ss.take j) ∧ Same H H2) ⟨[], _, _, _, rfl, upd_same, fun e m => (by cases m), rfl, sd⟩ (fun j σ H2 _ q => ?_) ?_ ?_⟩
      · obtain ⟨_, _, _, _, _, _, _, _, s2⟩ := q
        exact Same.seq s2 hS
      · rintro j x σ H2 hj ⟨es, y2, y3, y4, rfl, hdk, hls, pe, s2⟩
        obtain ⟨t, st, rfl, hT, q⟩ := go hd hj s2 hdk hls pe
        refine ⟨t, _, rfl, hT, rfl, _, _, rfl, _, _, rfl, _, _, rfl, rfl, ?_⟩
        refine ⟨_, rfl, d, rfl, .inl ⟨_, .inl hdk⟩, _, rfl, (by show 0 ≤ sizeLine; decide), fun U hU => ?_⟩
        refine ⟨_, DGet.k (k := Sum.inr st.2.1) (Same.new hU _ _ hdk), ?_⟩
        obtain ⟨L, us, eL, hL, q2⟩ := q U hU
        rw [eL]
        refine ⟨_, rfl, _, rfl, (by show 2 ≤ sizeLine; decide), fun t' ht' => ⟨(by show 1 ≤ sizeLine; decide), fun M hM => ?_⟩⟩
        obtain ⟨q3, q4, q5⟩ := q2 t' ht' M hM
        refine ⟨L, M, us, [.ref t'], rfl, rfl, q3, upd_same, q4, fun W hW => ?_⟩
        obtain ⟨q6, q7, q8, q9, q10⟩ := q5 W hW
        exact ⟨_, rfl, _, rfl, d, _, rfl, .inl ⟨kvsE es, Sum.inr st.2.1, q6, rfl, q7, rfl⟩, setE es st.2.1 W (st.1, st.2.2), _, _, _, rfl, by rw [upd_same, setE_kvs], q8, q9, q10⟩
      · rintro σ H2 ⟨es, y2, y3, y4, rfl, hdk, hls, pe, s2⟩
        rw [ly, List.take_length] at pe
        exact ⟨_, rfl, k d es H2 s2 hd hdk hls pe⟩
    · refine ⟨_, pss_cons (ps_set (i := 1) scPa.nd rfl (.inl rfl) pe_dnewK)
        (pss_cons (ps_for PassesOwn.never rfl (pi_tup (pv 0)) (pg_tup (by rfl) (pgs_cons (pg_name (i := 2) scPa.nd rfl (.inl rfl)) (pgs_cons (pg_name (i := 3) scPa.nd rfl (.inl rfl)) (pgs_cons (pg_name (i := 4) scPa.nd rfl (.inl rfl)) pgs_nil))))
          (pss_one (ps_dput hu (pv 1) (pv 3) (pe_op op_cat (pe_dget2 hu (pv 1) (pv 3) (pe_lst pa_nil) ⟨rfl, rfl, rfl, rfl⟩) (pe_lst (pa_cons (pe_tup (pa_cons (pv 2) (pa_cons (pv 4) pa_nil))) pa_nil))) rfl)))
        (pss_one (ps_ret (pv 1)))), ?_⟩
      refine fun d hd => ?_
      have sd : Same H (upd H d (.dK [])) := Same.new hd
      refine ⟨_, rfl, a, rfl, ⟨_, Same.tup sd hS⟩, for_tup (K := K) (a := a) (xs := ys) (fun j σ H2 => ∃ (es : List Ent) (y2 y3 y4 : Option V), σ = [some (.ref a), some (.ref d), y2, y3, y4] ∧ H2 d = some (.dK (kvsE es)) ∧ LsE H2 es ∧ pE es = prtM (ss.take j) ∧ Same H H2) ⟨[], _, _, _, rfl, upd_same, fun e m => (by cases m), rfl, sd⟩ (fun j σ H2 _ q => ?_) ?_ ?_⟩
      · obtain ⟨_, _, _, _, _, _, _, _, s2⟩ := q
        exact Same.tup s2 hS
      · rintro j x σ H2 hj ⟨es, y2, y3, y4, rfl, hdk, hls, pe, s2⟩
        obtain ⟨t, st, rfl, hT, q⟩ := go hd hj s2 hdk hls pe
        refine ⟨t, _, rfl, hT, rfl, _, _, rfl, _, _, rfl, _, _, rfl, rfl, ?_⟩
        refine ⟨_, rfl, d, rfl, .inl ⟨_, .inl hdk⟩, _, rfl, (by show 0 ≤ sizeLine; decide), fun U hU => ?_⟩
        refine ⟨_, DGet.k (k := Sum.inr st.2.1) (Same.new hU _ _ hdk), ?_⟩
        obtain ⟨L, us, eL, hL, q2⟩ := q U hU
        rw [eL]
        refine ⟨_, rfl, _, rfl, (by show 2 ≤ sizeLine; decide), fun t' ht' => ⟨(by show 1 ≤ sizeLine; decide), fun M hM => ?_⟩⟩
        obtain ⟨q3, q4, q5⟩ := q2 t' ht' M hM
        refine ⟨L, M, us, [.ref t'], rfl, rfl, q3, upd_same, q4, fun W hW => ?_⟩
        obtain ⟨q6, q7, q8, q9, q10⟩ := q5 W hW
        exact ⟨_, rfl, _, rfl, d, _, rfl, .inl ⟨kvsE es, Sum.inr st.2.1, q6, rfl, q7, rfl⟩, setE es st.2.1 W (st.1, st.2.2), _, _, _, rfl, by rw [upd_same, setE_kvs], q8, q9, q10⟩
      · rintro σ H2 ⟨es, y2, y3, y4, rfl, hdk, hls, pe, s2⟩
        rw [ly, List.take_length] at pe
        exact ⟨_, rfl, k d es H2 s2 hd hdk hls pe⟩
end
end SE
namespace SE
open PySem PySem.Spec PyProof.Rows L2
theorem merge_has (B : Addr → Prop) : ∀ (es : List (Str × Addr)) (acc : List (Key × V)) (M : Str → Prop), (∀ n, M n → ∃ b, B b ∧ valV acc (Sum.inr n) = some (.ref b)) → (∀ e ∈ es, B e.2) → ∀ n, (M n ∨ n ∈ es.map (·.1)) → ∃ b, B b ∧ valV (mergeK acc (es.map fun e => ((Sum.inr e.1 : Key), V.ref e.2))) (Sum.inr n) = some (.ref b)
  | [], acc, M, h, _, n, hn => by
    rcases hn with q | q
    · exact h n q
    · cases q
  | e :: es, acc, M, h, hB, n, hn => by
    refine merge_has B es (putK acc (Sum.inr e.1) (.ref e.2)) (fun x => M x ∨ x = e.1) (fun x hx => ?_) (fun x m => hB x (List.mem_cons_of_mem _ m)) n ?_
    · rw [valV_put]
      by_cases c : x = e.1
      · rw [if_pos (by rw [c])]
        exact ⟨e.2, hB e List.mem_cons_self, rfl⟩
      · rw [if_neg (fun q => c (Sum.inr.inj q))]
        rcases hx with q | q
        · exact h x q
        · exact absurd q c
    · rcases hn with q | q
      · exact .inl (.inl q)
      · rw [List.map_cons] at q
        rcases List.mem_cons.mp q with q | q
        · exact .inl (.inr q)
        · exact .inr q
/-- what holds between two turns -/
structure WI (NS : List Str) (H3 : Hp) (p g : Addr) (B : List Addr) (j : Nat) (us : List V) (ss : List NSt) (Hx : Hp) : Prop where
  gp : g ≠ p
  gB : g ∉ B
  pB : p ∉ B
  at_ : Hx g = some (.lst us)
  n : NStH (hid (g :: p :: B) Hx) us ss
  pl : Pool Hx p
  s : Same (hid (g :: p :: B) H3) (hid (g :: p :: B) Hx)
  bs : ∀ b ∈ B, ∃ ws : List Str, Hx b = some (.lst (ws.map V.str)) ∧ (∀ z ∈ ws, Item z) ∧ ws.length ≤ j
  ok : ∀ s ∈ ss, NOk s ∧ s.2.1 ∈ NS
section
variable {NS : List Str} {H3 Hx Hy : Hp} {p g : Addr} {B : List Addr} {j : Nat} {us : List V} {ss : List NSt}
theorem WI.bp (a : WI NS H3 p g B j us ss Hx) {b : Addr} (hb : b ∈ B) : b ≠ p := fun e => a.pB (e ▸ hb)
theorem WI.bg (a : WI NS H3 p g B j us ss Hx) {b : Addr} (hb : b ∈ B) : b ≠ g := fun e => a.gB (e ▸ hb)
theorem WI.new (a : WI NS H3 p g B j us ss Hx) (e : Same Hx Hy) : WI NS H3 p g B j us ss Hy := ⟨a.gp, a.gB, a.pB, e _ _ a.at_, nsth_same a.n (hid_of e), a.pl.same e, a.s.trans (hid_of e), fun b hb => by
  obtain ⟨ws, h1, h2⟩ := a.bs b hb
  exact ⟨ws, e _ _ h1, h2⟩, a.ok⟩
theorem WI.draw (a : WI NS H3 p g B j us ss Hx) (e : But p Hx Hy) (q : Pool Hy p) : WI NS H3 p g B j us ss Hy :=
  have s : Same (hid (g :: p :: B) Hx) (hid (g :: p :: B) Hy) := hid_but e (by simp)
  ⟨a.gp, a.gB, a.pB, e _ _ a.gp a.at_, nsth_same a.n s, q, a.s.trans s, fun b hb => by
  obtain ⟨ws, h1, h2⟩ := a.bs b hb
  exact ⟨ws, e _ _ (a.bp hb) h1, h2⟩, a.ok⟩
theorem WI.pile (a : WI NS H3 p g B j us ss Hx) {b : Addr} (hb : b ∈ B) {ws : List Str} (hI : ∀ z ∈ ws, Item z) (hl : ws.length ≤ j + 1) : WI NS H3 p g B (j + 1) us ss (upd Hx b (.lst (ws.map V.str))) :=
  have s : Same (hid (g :: p :: B) Hx) (hid (g :: p :: B) (upd Hx b (.lst (ws.map V.str)))) := hid_upd (by simp [hb])
  ⟨a.gp, a.gB, a.pB, by rw [upd_ne (Ne.symm (a.bg hb))]; exact a.at_, nsth_same a.n s, a.pl.upd (a.bp hb), a.s.trans s, fun c hc => by
  by_cases e : c = b
  · subst e
    exact ⟨ws, upd_same, hI, hl⟩
  · obtain ⟨vs, h1, h2, h3⟩ := a.bs c hc
    exact ⟨vs, by rw [upd_ne e]; exact h1, h2, by omega⟩, a.ok⟩
theorem WI.up (a : WI NS H3 p g B j us ss Hx) : WI NS H3 p g B (j + 1) us ss Hx := ⟨a.gp, a.gB, a.pB, a.at_, a.n, a.pl, a.s, fun b hb => by
  obtain ⟨ws, h1, h2, h3⟩ := a.bs b hb
  exact ⟨ws, h1, h2, by omega⟩, a.ok⟩
theorem WI.app (a : WI NS H3 p g B j us ss Hx) {t : Addr} {s : NSt} (ht : Hx t = none) (hs : NOk s ∧ s.2.1 ∈ NS) : WI NS H3 p g B j (us ++ [.ref t]) (ss ++ [s]) (upd (upd Hx t (.tup [.str (act s.1), .str s.2.1, .str s.2.2])) g (.lst (us ++ [.ref t]))) := by
  have b := a.new (Same.new (o := .tup [.str (act s.1), .str s.2.1, .str s.2.2]) ht)
  have tg : t ≠ g := Ne.symm (ne_of_none a.at_ ht)
  have tp : t ≠ p := a.pl.free ht
  have tB : t ∉ B := fun m => by
    obtain ⟨ws, h1, _⟩ := a.bs t m
    rw [ht] at h1
    cases h1
  have s0 : Same (hid (g :: p :: B) (upd Hx t (.tup [.str (act s.1), .str s.2.1, .str s.2.2]))) (hid (g :: p :: B) (upd (upd Hx t (.tup [.str (act s.1), .str s.2.1, .str s.2.2])) g (.lst (us ++ [.ref t])))) := hid_upd (by simp)
  refine ⟨a.gp, a.gB, a.pB, upd_same, Paired.snoc2 (nsth_same b.n s0) ⟨t, rfl, ?_⟩, b.pl.upd a.gp, b.s.trans s0, fun c hc => ?_, fun q mq => ?_⟩
  · rw [hid_ne (by simp [tg, tp, tB]), upd_ne tg]
    exact upd_same
  · obtain ⟨ws, h1, h2⟩ := b.bs c hc
    exact ⟨ws, by rw [upd_ne (a.bg hc)]; exact h1, h2⟩
  · rcases List.mem_append.mp mq with z | z
    · exact a.ok q z
    · rw [List.mem_singleton.mp z]
      exact hs
theorem WI.len (a : WI NS H3 p g B j us ss Hx) : us.length = ss.length := Paired.length a.n
/-- what stands outside -/
theorem WI.out (a : WI NS H3 p g B j us ss Hx) {c : Addr} {o : HO} (h : H3 c = some o) (h1 : c ≠ g) (h2 : c ≠ p) (h3 : c ∉ B) : Hx c = some o := hid_out _ _ _ _ (a.s _ _ (by rw [hid_ne (by simp [h1, h2, h3])]; exact h))
end
section
variable {P : Program} {w : World} {K : PySem.W.Frag} {mg : Str → Option Value} {base : Heap}
/-! ### _law_named_well -/
def spNamedN : Sp := fun xs H Q _ => ∃ (p nl il : Addr) (m : Int) (ns zs : List Str), xs = [.ref p, .ref nl, .ref il, .int m] ∧ Pool H p ∧ nl ≠ p ∧ H nl = some (.lst (ns.map V.str)) ∧ ns ≠ [] ∧ ns.length ≤ 100 ∧ (∀ z ∈ ns, Item z) ∧ il ≠ p ∧ H il = some (.lst (zs.map V.str)) ∧ zs ≠ [] ∧ zs.length ≤ 100 ∧ (∀ z ∈ zs, Item z) ∧ 0 ≤ m ∧ m ≤ 100 ∧
  ∀ (t : Addr) (us : List V) (ss : List NSt) (H' : Hp), But p H H' → Pool H' p → H t = none → t ≠ p → H' t = some (.lst us) → NStH H' us ss → (ss.length : Int) ≤ m → (∀ s ∈ ss, NOk s ∧ s.2.1 ∈ ns) → Q (.ref t) H'
abbrev nNw : List Str := ["_law_pool_here", "_law_names", "_law_items_here", "_law_many", "_law_found", "_law_piles", "_law_name_here", "_law_turn", "_law_pile", "_law_item"]
theorem scNw : FnScope nNw ["_law_pool_here", "_law_names", "_law_items_here", "_law_many"] (defScope sLawNamedWell) := ⟨rfl, rfl, rfl, by decide +kernel, rfl, by decide +kernel, by decide +kernel⟩
theorem has_well (D : Def K mg "_law_named_well" sLawNamedWell) (GT : Has P w K mg base "_law_take" 1 ["_law_pool_here", "_law_many"] [] spTake) (ml : mg "len" = none) (md : mg "dict" = none) (mr : mg "range" = none) : Has P w K mg base "_law_named_well" 2 ["_law_pool_here", "_law_names", "_law_items_here", "_law_many"] [] spNamedN := by
  refine has_of D scNw (fun _ _ _ _ _ _ us hl => match us, hl with | [_, _, _, _], _ => rfl) (fun xs H Q E h => ?_) (fun f cv A out s H xs Q E hr h => ?_)
  · obtain ⟨p, nl, il, m, ns, zs, rfl, _⟩ := h
    rfl
  · obtain ⟨p, nl, il, m, ns, zs, rfl, hp, np, hn, nne, n1, nI, lp', hil, zne, z1, zI, m0, m1, k⟩ := h
    have hu := hu_of hr
    have hr1 : Room 1 _ := hr.mono (by decide)
    refine ⟨_, pss_cons (ps_par (i := 4) (j := 5) (by rfl) scNw.nd rfl rfl (by decide) rfl rfl (pa_cons (pe_lst pa_nil) (pa_cons (pe_callTy (call_dictP rfl) (by rfl) md (by decide +kernel) (pa_cons
        (pe_lc (own := [("_law_name_here", 6)]) (g := gName 6) (tt := tYes) (te := tTup (tCons (tVar 6) (tCons (tLst tNil) tNil))) rfl scNw.nd (pi_list (pv 1)) (blkOk_by (own := [("_law_name_here", 6)]) (N := nNw) (sc := defScope sLawNamedWell) (by decide +kernel))
          (fun _ _ _ _ _ => pg_name (i := 6) scNw.nd rfl (.inl rfl)) (fun _ _ _ _ _ => pts_nil) (fun _ _ _ _ _ => pe_tup (pa_cons (pv 6) (pa_cons (pe_lst pa_nil) pa_nil)))) pa_nil)) pa_nil)) (by rfl))
      (pss_cons (ps_for PassesOwn.never rfl (pi_range1 (by rfl) mr (pa_cons (pv 3) pa_nil)) (pg_name (i := 7) scNw.nd rfl (.inl rfl))
        (pss_cons (ps_set (i := 6) scNw.nd rfl (.inl rfl) (pe_ix ix_list (pv 1) (pe_has GT hr1 (pa_cons (pv 0) (pa_cons (pe_callB call_len_seq (by rfl) ml PySem.boot_len (pa_cons (pv 1) pa_nil)) pa_nil))) (fun _ _ => rfl)))
        (pss_cons (ps_set (i := 8) scNw.nd rfl (.inl rfl) (pe_dget hu (pv 5) (pv 6) (fun _ _ => rfl)))
        (pss_one (ps_if (pt_cut (PW.pt (pw_and (pt_cmpR (op_neD hr.units) (pv 8) (pe_lst pa_nil) (nomark _)) (pw_and1 (pt_cmpR op_lt (pe_has GT hr1 (pa_cons (pv 0) (pa_cons pe_int pa_nil))) pe_int (nomark _))))))
          (pss_one (ps_expr (pe_bm PySem.F.plainAttrs_list PySem.F.slot_list_append PySem.F.type_list_append mt_append (pv 4) (pa_cons (pe_tup (pa_cons pe_str (pa_cons (pv 6) (pa_cons (pe_bm0 PySem.F.plainAttrs_list PySem.F.slot_list_pop PySem.F.type_list_pop mt_pop (pv 8)) pa_nil)))) pa_nil))))
          (pss_one (ps_if (pt_cut (PW.pt (pw_and (pt_cmpR (op_eqD hr.units) (pv 8) (pe_lst pa_nil) (nomark _)) (pw_and1 (pt_cmpR op_eq (pe_has GT hr1 (pa_cons (pv 0) (pa_cons pe_int pa_nil))) pe_int (nomark _))))))
            (pss_one (ps_expr (pe_bm PySem.F.plainAttrs_list PySem.F.slot_list_append PySem.F.type_list_append mt_append (pv 4) (pa_cons (pe_tup (pa_cons pe_str (pa_cons (pv 6) (pa_cons (pe_ix ix_list (pv 2) (pe_has GT hr1 (pa_cons (pv 0) (pa_cons (pe_callB call_len_seq (by rfl) ml PySem.boot_len (pa_cons (pv 2) pa_nil)) pa_nil))) (fun _ _ => rfl)) pa_nil)))) pa_nil))))
            (pss_cons (ps_set (i := 9) scNw.nd rfl (.inl rfl) (pe_ix ix_list (pv 2) (pe_has GT hr1 (pa_cons (pv 0) (pa_cons (pe_callB call_len_seq (by rfl) ml PySem.boot_len (pa_cons (pv 2) pa_nil)) pa_nil))) (fun _ _ => rfl)))
            (pss_cons (ps_expr (pe_bm PySem.F.plainAttrs_list PySem.F.slot_list_append PySem.F.type_list_append mt_append (pv 8) (pa_cons (pv 9) pa_nil)))
            (pss_one (ps_expr (pe_bm PySem.F.plainAttrs_list PySem.F.slot_list_append PySem.F.type_list_append mt_append (pv 4) (pa_cons (pe_tup (pa_cons pe_str (pa_cons (pv 6) (pa_cons (pv 9) pa_nil)))) pa_nil)))))))))))))
      (pss_one (ps_ret (pv 4)))), ?_⟩
    refine ⟨(by show 0 ≤ sizeLine; decide), fun g hg => ?_⟩
    have gp : g ≠ p := hp.free hg
    have sg : Same H (upd H g (.lst [])) := Same.new hg
    have hg1 : upd H g (.lst []) g = some (.lst []) := upd_same
    generalize upd H g (.lst []) = H1 at sg hg1
    have hn1 := sg _ _ hn
    refine ⟨_, rfl, nl, rfl, ⟨_, .of hn1⟩, fun LL hLL => lc_list (K := K) (a := nl) (xs := ns.map V.str) (fun j H2 => ∃ (ps : List Addr) (es : List (Str × Addr)), H2 LL = some (.lst (ps.map V.ref)) ∧ Paired (fun (p : Addr) (e : Str × Addr) => (hid [LL] H2) p = some (.tup [.str e.1, .ref e.2])) ps es ∧ es.map (·.1) = ns.take j ∧ (∀ e ∈ es, (hid [LL] H2) e.2 = some (.lst []) ∧ H1 e.2 = none) ∧ Same H1 H2) ⟨[], [], upd_same, .nil, rfl, fun e m => (by cases m), Same.new hLL⟩ (fun j H2 _ q => ?_) ?_ ?_⟩
    · obtain ⟨_, _, _, _, _, _, s2⟩ := q
      exact .of (s2 _ _ hn1)
    · rintro j x H2 hx ⟨ps, es, hL, hP, he, hE, s2⟩
      rw [List.getElem?_map] at hx
      obtain ⟨n, hj, rfl⟩ : ∃ n, ns[j]? = some n ∧ x = V.str n := by
        cases hq : ns[j]? with
        | none =>
          rw [hq] at hx
          cases hx
        | some n =>
          rw [hq] at hx
          cases hx
          exact ⟨n, rfl, rfl⟩
      have jl := (List.getElem?_eq_some_iff.mp hj).1
      refine ⟨rfl, yes_in ⟨_, rfl, (by show 0 ≤ sizeLine; decide), fun b hb => ⟨(by show 2 ≤ sizeLine; decide), fun T hT => ?_⟩⟩⟩
      have sb : Same H2 (upd H2 b (.lst [])) := Same.new hb
      have sT : Same (upd H2 b (.lst [])) (upd (upd H2 b (.lst [])) T (.tup [.str n, .ref b])) := Same.new hT
      have bL : b ≠ LL := Ne.symm (ne_of_none hL hb)
      have TL : T ≠ LL := Ne.symm (ne_of_none (sb _ _ hL) hT)
      have TL' : b ≠ T := ne_of_none upd_same hT
      have hLx := sT _ _ (sb _ _ hL)
      have sx : Same (hid [LL] H2) (hid [LL] (upd (upd (upd H2 b (.lst [])) T (.tup [.str n, .ref b])) LL (.lst (ps.map V.ref ++ [.ref T])))) := (hid_of (sb.trans sT)).trans (hid_upd (by simp))
      refine ⟨_, hLx, ?_, ps ++ [T], es ++ [(n, b)], ?_, ?_, ?_, fun e m => ?_, Same.free2 (s2.trans (sb.trans sT)) hLL⟩
      · have l1 := paired_len hP
        have l2 : es.length = (ns.take j).length := by rw [← he, List.length_map]
        rw [List.length_take] at l2
        rw [List.length_map, sizeLine_eq]
        omega
      · rw [upd_same, List.map_append]
        rfl
      · refine Paired.snoc2 (Paired.mapP hP fun _ _ q => sx _ _ q) ?_
        rw [hid_ne (by simpa using TL), upd_ne TL]
        exact upd_same
      · rw [List.map_append, he, List.take_add_one, hj]
        rfl
      · rcases List.mem_append.mp m with q | q
        · exact ⟨sx _ _ (hE e q).1, (hE e q).2⟩
        · rw [List.mem_singleton.mp q]
          refine ⟨?_, s2.free hb⟩
          show hid [LL] _ b = _
          rw [hid_ne (by simpa using bL), upd_ne bL, upd_ne TL']
          exact upd_same
    rintro H2 ⟨ps, es, hL, hP, he, hE, s2⟩
    rw [List.length_map, List.take_length] at he
    refine ⟨LL, ps, es.map fun e => ((Sum.inr e.1 : Key), V.ref e.2), rfl, .of hL, ?_, fun d hd => ?_⟩
    · clear he hE hL
      induction hP with
      | nil => exact .nil
      | cons h t ih => exact .cons (.of (hid_out _ _ _ _ h)) ih
    refine ⟨_, _, rfl, ?_⟩
    have sd : Same H2 (upd H2 d (.dK (mergeK [] (es.map fun e => ((Sum.inr e.1 : Key), V.ref e.2))))) := Same.new hd
    have val : ∀ n ∈ ns, ∃ b, b ∈ es.map (·.2) ∧ valV (mergeK [] (es.map fun e => ((Sum.inr e.1 : Key), V.ref e.2))) (Sum.inr n) = some (.ref b) := fun n m => merge_has (fun b => b ∈ es.map (·.2)) es [] (fun _ => False) (fun _ q => q.elim) (fun e me => List.mem_map.mpr ⟨e, me, rfl⟩) n (.inr (by rw [he]; exact m))
    have hd3 : upd H2 d (.dK (mergeK [] (es.map fun e => ((Sum.inr e.1 : Key), V.ref e.2)))) d = some (.dK (mergeK [] (es.map fun e => ((Sum.inr e.1 : Key), V.ref e.2)))) := upd_same
    generalize mergeK [] (es.map fun e => ((Sum.inr e.1 : Key), V.ref e.2)) = kvs at sd val hd3
    have s3 : Same H (upd H2 d (.dK kvs)) := (sg.trans s2).trans sd
    have s13 : Same H1 (upd H2 d (.dK kvs)) := s2.trans sd
    have bs0 : ∀ b ∈ es.map (·.2), upd H2 d (.dK kvs) b = some (.lst []) ∧ H1 b = none := fun b m => by
      obtain ⟨e, me, rfl⟩ := List.mem_map.mp m
      exact ⟨sd _ _ (hid_out _ _ _ _ (hE e me).1), (hE e me).2⟩
    generalize upd H2 d (.dK kvs) = H3 at hd3 s3 s13 bs0
    generalize es.map (·.2) = B at val bs0
    have old : ∀ {c : Addr} {o : HO}, H1 c = some o → c ∉ B := fun h m => by
      rw [(bs0 _ m).2] at h
      cases h
    have hp1 : Pool H1 p := hp.same sg
    have hg3 := s13 _ _ hg1
    have gB : g ∉ B := old hg1
    have pB : p ∉ B := by
      obtain ⟨_, _, q, _⟩ := hp1.ex
      exact old q
    have nlg : nl ≠ g := ne_of_none hn hg
    have ilg : il ≠ g := ne_of_none hil hg
    have nB : nl ∉ B := old hn1
    have iB : il ∉ B := old (sg _ _ hil)
    have dg : d ≠ g := fun e => by rw [e, hg3] at hd3; cases hd3
    have dp : d ≠ p := fun e => by
      obtain ⟨_, _, q, _⟩ := (hp.same s3).ex
      rw [e, q] at hd3
      cases hd3
    have dB : d ∉ B := fun m => by
      rw [(bs0 _ m).1] at hd3
      cases hd3
    have w0 : WI ns H3 p g B 0 [] [] H3 := ⟨gp, gB, pB, hg3, .nil, hp.same s3, Same.refl _, fun b hb => ⟨[], (bs0 b hb).1, fun z m => (by cases m), Nat.le_refl _⟩, fun s m => by cases m⟩
    refine ⟨_, rfl, m, rfl, by omega, by omega, for_range (lo := 0) (n := m.toNat) (fun j σ Hx => ∃ (us : List V) (ss : List NSt) (y6 y7 y8 y9 : Option V), σ = [some (.ref p), some (.ref nl), some (.ref il), some (.int m), some (.ref g), some (.ref d), y6, y7, y8, y9] ∧ WI ns H3 p g B j us ss Hx ∧ us.length = j) ⟨[], [], _, _, _, _, rfl, w0, rfl⟩ ?_ ?_⟩
    · rintro j σ Hx hj ⟨us, ss, y6, y7, y8, y9, rfl, wi, lu⟩
      have lns : 0 < ns.length := List.length_pos_iff.mpr nne
      have lzs : 0 < zs.length := List.length_pos_iff.mpr zne
      refine ⟨_, rfl, _, rfl, _, rfl, nl, _, rfl, .inl (.of (wi.out (s3 _ _ hn) nlg np nB)), p, _, rfl, wi.pl, ?_, ?_, fun r H4 b4 p4 r0 r1 => ?_⟩
      · rw [List.length_map]; omega
      · rw [List.length_map]; omega
      rw [List.length_map] at r1
      obtain ⟨n, nm, an⟩ := pick_str r0 r1
      have w4 := wi.draw b4 p4
      obtain ⟨b, hb, hv⟩ := val n nm
      refine ⟨nl, _, r, _, rfl, rfl, .of (w4.out (s3 _ _ hn) nlg np nB), an, _, rfl, _, rfl, d, .ref b, rfl, .inl ⟨kvs, Sum.inr n, .inl (w4.out hd3 dg dp dB), rfl, hv.symm⟩, ?_⟩
      obtain ⟨ws, hw4, iw, lw⟩ := w4.bs b hb
      have bp := w4.bp hb
      have shw : SeqAt.shaped (.list (ws.map PyData.str)) = true := (nice_list (nice_strs iw)).shaped (by decide)
      clear wi b4 p4 r0 r1 an
      -- one step more
      have app : ∀ {c : Bool} {z : Str} {Hy : Hp} {us' : List V} {ss' : List NSt} {y6 y7 y8 y9 : Option V}, WI ns H3 p g B (j + 1) us' ss' Hy → us'.length = j → Item z → ∀ T, Hy T = none → ∃ (us2 : List V) (ss2 : List NSt) (z6 z7 z8 z9 : Option V), [some (.ref p), some (.ref nl), some (.ref il), some (.int m), some (.ref g), some (.ref d), y6, y7, y8, y9] = [some (V.ref p), some (.ref nl), some (.ref il), some (.int m), some (.ref g), some (.ref d), z6, z7, z8, z9] ∧ WI ns H3 p g B (j + 1) us2 ss2 (upd (upd Hy T (.tup [.str (act c), .str n, .str z])) g (.lst (us' ++ [.ref T]))) ∧ us2.length = j + 1 := fun {c z Hy us' ss' y6 y7 y8 y9} w5 l5 iz T hT => ⟨us' ++ [.ref T], ss' ++ [(c, n, z)], y6, y7, y8, y9, rfl, w5.app (s := (c, n, z)) hT ⟨⟨nI n nm, iz⟩, nm⟩, by rw [List.length_append, l5]; rfl⟩
      refine ⟨fun c H5 => (c = true → ws ≠ []) ∧ WI ns H3 p g B j us ss H5 ∧ H5 b = some (.lst (ws.map V.str)), ?_, ?_⟩
      · refine ⟨_, rfl, (by show 0 ≤ sizeLine; decide), fun M hM => ?_⟩
        have sM : Same H4 (upd H4 M (.lst [])) := Same.new hM
        refine ⟨.list (ws.map .str), .list (([] : List Str).map .str), .lst (.of (sM _ _ hw4)) (dp_strs _), .lst (.of upd_same) .nil, shw, rfl, _, rfl, ?_⟩
        rw [eqv_listS]
        have w5 := w4.new sM
        have h5 := sM _ _ hw4
        generalize upd H4 M (.lst []) = H5 at w5 h5
        cases ws with
        | nil => exact iteF ⟨fun q => (by cases q), w5, h5⟩
        | cons z r =>
          refine iteT ⟨_, rfl, p, 5, rfl, w5.pl, by decide, by decide, fun r H6 b6 p6 r0 r1 => ⟨_, _, rfl, rfl, _, rfl, fun _ q => (by cases q), w5.draw b6 p6, b6 _ _ bp h5⟩⟩
      · rintro c H5 ⟨cw, w5, h5⟩
        cases c with
        | true =>
          rcases List.eq_nil_or_concat ws with e | ⟨r, z, e⟩
          · exact absurd e (cw rfl)
          rw [List.concat_eq_append] at e
          subst e
          have iz : Item z := iw z (by simp)
          have h5' : H5 b = some (.lst (r.map V.str ++ [V.str z])) := by
            rw [h5, List.map_append]
            rfl
          refine iteT ⟨.ref g, rfl, .inl ⟨rfl, _, .of w5.at_⟩, _, rfl, .ref b, rfl, .inl ⟨rfl, _, .of h5⟩, b, r.map V.str ++ [V.str z], .str z, rfl, rfl, h5', ?_, ?_⟩
          · rw [List.length_append, List.length_singleton, Nat.add_sub_cancel, List.getElem?_append_right (Nat.le_refl _), Nat.sub_self]
            rfl
          · rw [List.dropLast_concat]
            have w6 := w5.pile hb (ws := r) (fun y m => iw y (by simp [m])) (by rw [List.length_append] at lw; omega)
            refine ⟨(by show 3 ≤ sizeLine; decide), fun T hT => ⟨g, us, _, rfl, rfl, ?_, by rw [lu, sizeLine_eq]; omega, app (c := false) w6 lu iz T hT⟩⟩
            rw [upd_ne (ne_of_none w6.at_ hT)]
            exact w6.at_
        | false =>
          refine iteF ?_
          refine ⟨fun c H6 => WI ns H3 p g B j us ss H6 ∧ H6 b = some (.lst (ws.map V.str)), ?_, ?_⟩
          · refine ⟨_, rfl, (by show 0 ≤ sizeLine; decide), fun M hM => ?_⟩
            have sM : Same H5 (upd H5 M (.lst [])) := Same.new hM
            refine ⟨.list (ws.map .str), .list (([] : List Str).map .str), .lst (.of (sM _ _ h5)) (dp_strs _), .lst (.of upd_same) .nil, shw, rfl, _, rfl, ?_⟩
            rw [eqv_listS]
            have w6 := w5.new sM
            have h6 := sM _ _ h5
            generalize upd H5 M (.lst []) = H6 at w6 h6
            cases ws with
            | cons z r => exact iteF ⟨w6, h6⟩
            | nil => exact iteT ⟨_, rfl, p, 4, rfl, w6.pl, by decide, by decide, fun r H7 b7 p7 r0 r1 => ⟨rfl, _, rfl, w6.draw b7 p7, b7 _ _ bp h6⟩⟩
          · rintro c H6 ⟨w6, h6⟩
            have hi6 := w6.out (s3 _ _ hil) ilg lp' iB
            cases c with
            | true =>
              refine iteT ⟨.ref g, rfl, .inl ⟨rfl, _, .of w6.at_⟩, _, rfl, _, rfl, _, rfl, _, rfl, il, _, rfl, .inl (.of hi6), p, _, rfl, w6.pl, ?_, ?_, fun r H7 b7 p7 r0 r1 => ?_⟩
              · rw [List.length_map]; omega
              · rw [List.length_map]; omega
              rw [List.length_map] at r1
              obtain ⟨z, zm, az⟩ := pick_str r0 r1
              have w7 := w6.draw b7 p7
              refine ⟨il, _, r, _, rfl, rfl, .of (b7 _ _ lp' hi6), az, (by show 3 ≤ sizeLine; decide), fun T hT => ⟨g, us, _, rfl, rfl, ?_, by rw [lu, sizeLine_eq]; omega, app (c := false) w7.up lu (zI z zm) T hT⟩⟩
              rw [upd_ne (ne_of_none w7.at_ hT)]
              exact w7.at_
            | false =>
              refine iteF ⟨_, rfl, _, rfl, _, rfl, il, _, rfl, .inl (.of hi6), p, _, rfl, w6.pl, ?_, ?_, fun r H7 b7 p7 r0 r1 => ?_⟩
              · rw [List.length_map]; omega
              · rw [List.length_map]; omega
              rw [List.length_map] at r1
              obtain ⟨z, zm, az⟩ := pick_str r0 r1
              have w7 := w6.draw b7 p7
              have h7 := b7 _ _ bp h6
              refine ⟨il, _, r, _, rfl, rfl, .of (b7 _ _ lp' hi6), az, .ref b, rfl, .inl ⟨rfl, _, .of h7⟩, _, rfl, b, _, _, rfl, rfl, h7, by rw [List.length_map, sizeLine_eq]; omega, ?_⟩
              have w8 := w7.pile hb (ws := ws ++ [z]) (fun y m => by
                rcases List.mem_append.mp m with q | q
                · exact iw y q
                · rw [List.mem_singleton.mp q]
                  exact zI z zm) (by rw [List.length_append]; simp only [List.length_singleton]; omega)
              rw [List.map_append] at w8
              refine ⟨.ref g, rfl, .inl ⟨rfl, _, .of w8.at_⟩, _, rfl, _, rfl, (by show 3 ≤ sizeLine; decide), fun T hT => ⟨g, us, _, rfl, rfl, ?_, by rw [lu, sizeLine_eq]; omega, app (c := true) w8 lu (zI z zm) T hT⟩⟩
              rw [upd_ne (ne_of_none w8.at_ hT)]
              exact w8.at_
    · rintro σ Hx ⟨us, ss, y6, y7, y8, y9, rfl, wi, lu⟩
      have ls := wi.len
      refine ⟨_, rfl, k g us ss Hx (fun c o cp hc => ?_) wi.pl hg gp wi.at_ (nsth_same wi.n (hid_out _ _)) (by omega) wi.ok⟩
      exact wi.out (s3 _ _ hc) (ne_of_none hc hg) cp (old (sg _ _ hc))
end
end SE
namespace SE
open PySem PySem.Spec PyProof.Rows L2
theorem act_push (b : Bool) : decide (V.str (act b) = V.str "push") = b := by
  cases b
  · exact decide_eq_false (fun e => absurd (V.str.inj e) (by decide +kernel))
  · exact decide_eq_true rfl
theorem stepM_pop (x : Str) (zs : List Str) : stepM (false, x) zs = if zs.take 1 = [x] then some (zs.drop 1) else none := by
  cases zs with
  | nil => rfl
  | cons z r =>
    show (if z = x then some r else none) = if [z] = [x] then some r else none
    by_cases e : z = x
    · rw [if_pos e, if_pos (by rw [e])]
    · rw [if_neg e, if_neg (by intro q; exact e (List.cons.inj q).1)]
section
variable {P : Program} {w : World} {K : PySem.W.Frag} {mg : Str → Option Value} {base : Heap}
/-! ### after_step -/
/-- a stack or None -/
def StkV (K : PySem.W.Frag) (H : Hp) (v : V) : Option (List Str) → Prop
  | none => v = .non
  | some zs => ∃ q, v = .ref q ∧ SqT K H q (zs.map V.str)
theorem StkV.same {H H' : Hp} {v : V} {o : Option (List Str)} (h : StkV K H v o) (e : Same H H') : StkV K H' v o := by
  cases o with
  | none => exact h
  | some zs =>
    obtain ⟨q, rfl, t⟩ := h
    exact ⟨q, rfl, Same.tup e t⟩
def spAfterL (K : PySem.W.Frag) : Sp := fun xs H Q _ => ∃ (v : V) (s : Stp) (q : Addr) (zs : List Str) (l : Lim), xs = [v, .ref q, limV l] ∧ StepV K H v s ∧ Item s.2 ∧ SqT K H q (zs.map V.str) ∧ zs.length ≤ 5000 ∧ (∀ z ∈ zs, Item z) ∧
  ∀ (u : V) (H' : Hp), Same H H' → StkV K H' u (stepL l s zs) → Q u H'
theorem scAfL : FnScope ["step", "stack", "limit", "action", "item"] ["step", "stack", "limit"] (defScope sAfter) := ⟨rfl, rfl, rfl, by decide +kernel, rfl, by decide +kernel, by decide +kernel⟩
theorem has_afterL (D : Def K mg "after_step" sAfter) (G : Has P w K mg base "is_too_high" 1 ["height", "limit"] [] spHighL) (B : Blt mg) : Has P w K mg base "after_step" 2 ["step", "stack", "limit"] [] (spAfterL K) := by
  refine has_of D scAfL (fun _ _ _ _ _ _ us hl => match us, hl with | [_, _, _], _ => rfl) (fun xs H Q E h => ?_) (fun f cv A out s H xs Q E hr h => ?_)
  · obtain ⟨v, st, q, zs, l, rfl, _⟩ := h
    rfl
  · obtain ⟨v, ⟨b, x⟩, q, zs, l, rfl, ⟨t, rfl, hT⟩, ix, hQ, hz, hI, k⟩ := h
    refine ⟨_, pss_cons (ps_asg (pv 0) (pg_tup (by rfl) (pgs_cons (pg_name (i := 3) scAfL.nd rfl (.inl rfl)) (pgs_cons (pg_name (i := 4) scAfL.nd rfl (.inl rfl)) pgs_nil))))
      (pss_cons (ps_if (pt_cmpR op_eq (pv 3) pe_str (nomark _))
        (pss_one (ps_ret (pe_ifExp (pt_val (pe_has G hr (pa_cons (pe_op op_add (pe_callB call_len_seq (by rfl) B.len PySem.boot_len (pa_cons (pv 1) pa_nil)) pe_int) (pa_cons (pv 2) pa_nil)))) pe_non (pe_op op_catA (pe_tup (pa_cons (pv 4) pa_nil)) (pv 1))))) pss_nil)
      (pss_one (ps_ret (pe_ifExp (pt_cmpR (op_eqD hr.units) (pe_slice sl_tupA (pv 1) po_none (po_some pe_int)) (pe_tup (pa_cons (pv 4) pa_nil)) (nomark _)) (pe_slice sl_tupA (pv 1) (po_some pe_int) po_none) pe_non)))), ?_⟩
    refine ⟨_, rfl, t, _, rfl, hT, rfl, _, _, rfl, _, _, rfl, rfl, ?_⟩
    refine ⟨_, rfl, rfl, _, rfl, ?_⟩
    show if decide (V.str (act b) = V.str "push") = true then _ else _
    rw [act_push]
    cases b with
    | true =>
      refine iteT ?_
      refine ⟨_, rfl, q, _, rfl, .inr hQ, _, 1, rfl, rfl, _, rfl, zs.length + 1, l, ?_, high l (zs.length + 1), rfl, ?_⟩
      · show [V.int (((zs.map V.str).length : Int) + 1), limV l] = _
        rw [List.length_map]
        rfl
      cases hh : high l (zs.length + 1) with
      | true =>
        refine iteT (k _ _ (Same.refl H) ?_)
        show StkV K H V.non (if (true && high l (zs.length + 1)) = true then none else _)
        rw [hh]
        rfl
      | false =>
        have st : stepL l (true, x) zs = some (x :: zs) := by
          show (if (true && high l (zs.length + 1)) = true then none else _) = _
          rw [hh]
          rfl
        rw [st] at k
        refine iteF ?_
        refine ⟨_, rfl, (by show 1 ≤ sizeLine; decide), fun a ha => ⟨_, rfl, a, q, [.str x], zs.map V.str, rfl, rfl, .of upd_same, Same.tup (Same.new ha) hQ, ?_, fun e => (by cases e), fun _ e => ?_, fun _ e p hp => ?_⟩⟩
        · rw [List.length_map]
          exact Nat.le_trans (show 1 + zs.length ≤ 5001 by omega) (by decide)
        · have e0 : zs = [] := List.map_eq_nil_iff.mp e
          subst e0
          exact k _ _ (Same.new ha) ⟨a, rfl, .of upd_same⟩
        · exact k _ _ ((Same.new ha).trans (Same.new hp)) ⟨p, rfl, .of upd_same⟩
    | false =>
      have st : stepL l (false, x) zs = stepM (false, x) zs := rfl
      rw [st] at k
      refine iteF ?_
      have e1 : HT.sIx zs.length zs.length (some 1) = min 1 zs.length := HT.sIx_nat zs.length zs.length 1
      have c1 : cutV (zs.map V.str) none (some 1) = (zs.take 1).map V.str := by
        rw [cut_map]
        show ((zs.drop 0).take (HT.sIx zs.length zs.length (some 1) - 0)).map V.str = _
        rw [e1, List.drop_zero, Nat.sub_zero]
        congr 1
        cases zs with
        | nil => rfl
        | cons z r => rw [show min 1 (z :: r).length = 1 by rw [List.length_cons]; omega]
      have c2 : cutV (zs.map V.str) (some 1) none = (zs.drop 1).map V.str := by
        rw [cut_map]
        have e2 : HT.sIx zs.length 0 (some 1) = min 1 zs.length := HT.sIx_nat zs.length 0 1
        rw [e2]
        show ((zs.drop (min 1 zs.length)).take (zs.length - min 1 zs.length)).map V.str = _
        cases zs with
        | nil => rfl
        | cons z r =>
          rw [show min 1 (z :: r).length = 1 by rw [List.length_cons]; omega]
          show ((r.take ((z :: r).length - 1))).map V.str = r.map V.str
          rw [List.length_cons, Nat.add_sub_cancel, List.take_length]
      have sh1 : ∀ {ws : List Str}, (∀ z ∈ ws, z ∈ zs) → SeqAt.shaped (.tuple (ws.map PyData.str)) = true := fun {ws} m => (nice_tuple (nice_strs fun z h => hI z (m z h))).shaped (by decide)
      have shx : SeqAt.shaped (.tuple ([x].map PyData.str)) = true := (nice_tuple (nice_strs (zs := [x]) fun z h => by rw [List.mem_singleton.mp h]; exact ix)).shaped (by decide)
      have go : ∀ (r : Addr) (H1 : Hp), Same H H1 → SqT K H1 r ((zs.take 1).map V.str) → ∀ a, H1 a = none →
          (∃ d e, Dp K (upd H1 a (.tup [.str x])) (.ref r) d ∧ Dp K (upd H1 a (.tup [.str x])) (.ref a) e ∧ SeqAt.shaped d = true ∧ SeqAt.shaped e = true ∧ PyData.eqv d e = decide (zs.take 1 = [x])) := by
        intro r H1 s1 hr1 a ha
        exact ⟨.tuple ((zs.take 1).map .str), .tuple ([x].map .str), .tup (Same.tup (Same.new ha) hr1) (dp_strs _), .tup (.of upd_same) (dp_strs [x]), sh1 (fun z m => List.mem_of_mem_take m), shx, eqv_tupS _ _⟩
      have fin : ∀ (H1 : Hp), Same H H1 → (if decide (zs.take 1 = [x]) = true then (tSl (rSlA K) (tVar 1) (tPart (tC (.int 1))) tNoPart) [some (.ref t), some (.ref q), some (limV l), some (.str (act false)), some (.str x)] H1 Q else (tC V.non) [some (.ref t), some (.ref q), some (limV l), some (.str (act false)), some (.str x)] H1 Q) := by
        intro H1 s1
        by_cases c : zs.take 1 = [x]
        · rw [decide_eq_true c]
          refine iteT ⟨_, rfl, 1, rfl, q, _, rfl, Same.tup s1 hQ, fun w => ?_, fun w p hp => ?_⟩
          · have hk : (HT.sIx (zs.map V.str).length 0 (some 1)) = min 1 (zs.map V.str).length := HT.sIx_nat _ 0 1
            have w1 := w.1
            rw [hk, List.length_map] at w1
            have z0 : zs.length = 0 := by omega
            have z1 : zs = [] := List.eq_nil_of_length_eq_zero z0
            rw [z1] at c
            cases c
          · refine k _ _ (s1.trans (Same.new hp)) ?_
            rw [stepM_pop, if_pos c]
            exact ⟨p, rfl, .of (by rw [upd_same, c2])⟩
        · rw [decide_eq_false c]
          refine iteF (k _ _ s1 ?_)
          rw [stepM_pop, if_neg c]
          rfl
      refine ⟨_, rfl, 1, rfl, q, _, rfl, hQ, fun w => ?_, fun w p hp => ?_⟩
      · have w2 := w.2
        have hk : (HT.sIx (zs.map V.str).length (zs.map V.str).length (some 1)) = min 1 (zs.map V.str).length := HT.sIx_nat _ _ 1
        rw [hk, List.length_map] at w2
        have t1 : zs.take 1 = zs := List.take_of_length_le (by omega)
        refine ⟨_, rfl, (by show 1 ≤ sizeLine; decide), fun a ha => ?_⟩
        obtain ⟨d, e, g1, g2, g3, g4, g5⟩ := go q H (Same.refl H) (by rw [t1]; exact hQ) a ha
        refine ⟨d, e, g1, g2, g3, g4, _, rfl, ?_⟩
        rw [g5]
        exact fin _ (Same.new ha)
      · refine ⟨_, rfl, (by show 1 ≤ sizeLine; decide), fun a ha => ?_⟩
        obtain ⟨d, e, g1, g2, g3, g4, g5⟩ := go p _ (Same.new hp) (.of (by rw [upd_same, c1])) a ha
        refine ⟨d, e, g1, g2, g3, g4, _, rfl, ?_⟩
        rw [g5]
        exact fin _ ((Same.new hp).trans (Same.new ha))
end
end SE
/-! A for in a generator's body; a generator def called with keywords. -/
namespace SE
open PySem PySem.Spec PyProof.Rows L2 GenW
section
variable {X : Cx}
def tGFor (wi : TI) (g : TG) (tb : TGn) : TGn := fun D ys σ H => wi σ H fun J H1 => ∃ W : Nat → Nat → List V → L2.St → Hp → Prop, (∃ m, W 0 m ys σ H1) ∧ ∀ i m ys σ H, W i m ys σ H →
  (J.stop i H ∧ D.nx ys σ H) ∨ (J.go i H ∧ ∃ N : List V → L2.St → Hp → Prop, (∀ zs σ2 H2, N zs σ2 H2 → ∃ j, j < m ∧ W (i + 1) j zs σ2 H2) ∧ ∀ x H2, J.yld i H x H2 → g x σ H2 fun σ3 H3 => tb { D with nx := N, ct := N, bk := D.nx } ys σ3 H3)
theorem gs_for {tg iter : Expr} {body : List Stmt} {pos : Pos} {wi : TI} {g : TG} {tb : TGn} (hp : PassesOwn (model X.prog X.w) X.A X.env X.xe) (hc : X.calm = true) (hi : PI X tg iter wi) (hg : PG X tg g) (hb : GSs X body tb)
    (hs : ∀ x, foldedSetIterable iter X.env x = pure x := by intro _; rfl) : GS X (.For tg iter body [] pos) (tGFor wi g tb) := by
  constructor
  intro A S ip R n ys s₀ c fs K J gd lv s σ H D gc hn k hI ht
  obtain ⟨acc, cc, r, I⟩ := hI
  rw [exec_For]
  refine seg_bind_wrap (wpAny_standAt ?_)
  refine seg_bind_wrap ?_
  rw [gc.over]
  refine wpAny_mono (hi.run _ s σ H _ I ht) (fun v s1 h1 => ?_) fun x s2 hx => k.exc n s₀ x s2 hx
  refine seg_bind_wrap (wpAny_of_eq (hs v) ?_)
  refine seg_bind_wrap (wpAny_standAt ?_)
  refine seg_bind_wrap (wpAny_holding ?_)
  rw [gc.over]
  refine wpAny_mono h1 (fun itv s2 h2 => ?_) fun x s3 hx => k.exc n s₀ x s3 hx
  obtain ⟨it, fp, tn, Jt, H2, e2, I2, T, st2, f2, W, ⟨m0, w0⟩, turn⟩ := h2
  subst e2
  refine seg_call fun p => ?_
  have gl := fun (kk : Result → Sem PySem.Fin) => gc_loop (X := X) (k := kk) (c' := .forLoop tg (.ref it) body [] X.env) (l := lv []) (kp := []) (p := p) gc rfl rfl
  have apart : ∀ b ∈ fp, b ≠ S := fun b hb z => by
    obtain ⟨_, _, _, _, _, q⟩ := f2 b hb
    exact q (S, lstObj acc cc) (List.mem_append_right _ List.mem_cons_self) z.symm
  have fpok : ∀ {acc2 : Array Value} {c2 : Nat} {H3 : Hp}, (∀ b ∈ fp, H3 b = none) → ∀ b ∈ fp, FpOk X ((S, lstObj acc2 c2) :: ip) H3 b := by
    intro acc2 c2 H3 hn3 b hb
    obtain ⟨_, a2, a3, a4, a5, a6⟩ := f2 b hb
    refine ⟨hn3 b hb, a2, a3, a4, a5, fun q hq => ?_⟩
    rcases List.mem_append.mp hq with z | z
    · exact a6 q (List.mem_append_left _ z)
    · rcases List.mem_cons.mp z with y | y
      · rw [y]
        exact Ne.symm (apart b hb)
      · exact a6 q (List.mem_append_right _ (List.mem_cons_of_mem _ y))
  have loop : ∀ (m n i : Nat) (ys : List V) (s₀ s : Shared) (σ : L2.St) (H : Hp), n + ys.length = sizeLine → W i m ys σ H → GI X S ip ys σ H s → tn i s.heap → (∀ b ∈ fp, H b = none) →
      Seg (model X.prog X.w) A R (GY X S) n s₀ (.forLoop tg (.ref it) body [] X.env) ((model X.prog X.w).den (.forLoop tg (.ref it) body [] X.env))
        (.ret (fun r => ((match r with | .ok f => (.pure f : Sem Flow) | .error e => .raise e).onRaise (cameBack X.env)).wrap K J gd lv) none (gd false) (lv []) c p [] :: fs) s := by
    intro m
    induction m using Nat.strongRecOn with
    | ind m ih =>
      intro n i ys s₀ s σ H hn w hI st fr
      have ee : ∀ (n : Nat) (s₀ : Shared) (x : Value) (s4 : Shared), X.xe x s4 → Seg (model X.prog X.w) A R (GY X S) n s₀ (.forLoop tg (.ref it) body [] X.env)
          ((do noteFrame x X.env; theTreesLotGoes x : Sem Unit).bind fun _ => .raise x)
          (.ret (fun r => ((match r with | .ok f => (.pure f : Sem Flow) | .error e => .raise e).onRaise (cameBack X.env)).wrap K J gd lv) none (gd false) (lv []) c p [] :: fs) s4 := fun n s₀ x s4 hx => by
        rw [Sem.bind_eq_wrap]
        refine seg_wrap ?_
        rw [(gl _).over]
        refine wpAny_bind (wpAny_mono (hp x s4 hx) (fun _ s5 hcb => wpAny_theTreesLotGoes ?_) fun y s5 hcb => ?_)
        · exact seg_leaf (.error x) (seg_cameBack gc k hcb)
        · exact seg_leaf (.error y) (seg_cameBack gc k hcb)
      show Seg _ A R _ n s₀ _ ((forTurn tg (.ref it) body [] X.env).onRaise (fun x => do noteFrame x X.env; theTreesLotGoes x)) _ s
      unfold forTurn
      rw [Sem.onRaise_eq_wrap]
      refine seg_bind_wrap (wpAny_standAt ?_)
      refine seg_bind_wrap ?_
      rw [(gl _).over]
      obtain ⟨acc3, c3, r3, I3⟩ := hI
      rcases turn i m ys σ H w with ⟨stop, qn⟩ | ⟨go, N, hN, step⟩
      · refine wpAny_onRaise (wpAny_mono (T.done X rfl rfl rfl hc i _ s σ H X.xe I3 (fpok fr) st stop) (fun rr s4 hh => ?_) fun x s4 hx => wpAny_standAt (ee n s₀ x s4 hx))
        obtain ⟨hr, I4⟩ := hh
        subst hr
        refine seg_again rfl ?_
        show Seg _ A R _ n s₀ _ (do return Fin.done (← (execs [] X.env).onRaise (fun x => do noteFrame x X.env; theTreesLotGoes x))) _ s4
        exact seg_leaf (.ok .next) (k.ok n ys s₀ s4 .next hn ⟨σ, H, ⟨acc3, c3, r3, I4⟩, qn⟩)
      · refine wpAny_onRaise (wpAny_mono (T.item X rfl rfl rfl hc i _ s σ H X.xe I3 (fpok fr) st go) (fun rr s4 hh => ?_) fun x s4 hx => wpAny_standAt (ee n s₀ x s4 hx))
        obtain ⟨u, hr, h4⟩ := hh
        subst hr
        refine seg_bind_wrap ?_
        rw [(gl _).over]
        refine wpAny_mono h4 (fun _ s5 hh => ?_) fun x s5 hx => ee n s₀ x s5 hx
        obtain ⟨x, H5, I5, r5, y5, st5, fr5⟩ := hh
        have I6 := I5.pinned (fpok fr5) (T.obj _ _ st5)
        refine seg_bind_wrap ?_
        rw [(gl _).over]
        refine wpAny_mono (hg.run _ s5 σ H5 x u _ I6 r5 (step x H5 y5)) (fun _ s6 hh => ?_) fun x s6 hx => ee n s₀ x s6 hx
        obtain ⟨σ6, H6, I7, q6⟩ := hh
        have gb : GC X S (ip ++ pinsAt fp s5.heap) A (.forLoop tg (.ref it) body [] X.env) (.ret (fun r => ((match r with | .ok f => (.pure f : Sem Flow) | .error e => .raise e).onRaise (cameBack X.env)).wrap K J gd lv) none (gd false) (lv []) c p [] :: fs) id := by
          have q := gl (fun r => ((match r with | .ok f => (.pure f : Sem Flow) | .error e => .raise e).onRaise (cameBack X.env)).wrap K J gd lv)
          refine ⟨q.pn, fun z hz => ?_, q.apart, q.over, q.split, q.guard, q.gd⟩
          rcases List.mem_append.mp hz with y | y
          · exact q.ip z y
          · exact apart z.1 (of_pinsAt y).1
        rw [Sem.bind_eq_wrap', Sem.wrap_wrap]
        refine hb.run A S (ip ++ pinsAt fp s5.heap) R n ys s₀ _ _ _ _ id id s6 σ6 H6 { D with nx := N, ct := N, bk := D.nx } gb hn ⟨fun n2 zs s7 s8 f hn2 hs8 => ?_, fun n2 s7 x s8 hx => ee n2 s7 x s8 hx⟩ ⟨acc3, c3, r3, I7⟩ q6
        have again : ∀ {σ8 : L2.St} {H8 : Hp}, GI X S (ip ++ pinsAt fp s5.heap) zs σ8 H8 s8 → N zs σ8 H8 → Seg (model X.prog X.w) A R (GY X S) n2 s7 (.forLoop tg (.ref it) body [] X.env) ((model X.prog X.w).den (.forLoop tg (.ref it) body [] X.env))
            (.ret (fun r => ((match r with | .ok f => (.pure f : Sem Flow) | .error e => .raise e).onRaise (cameBack X.env)).wrap K J gd lv) none (gd false) (lv []) c p [] :: fs) s8 := by
          intro σ8 H8 G8 n8
          obtain ⟨j, hj, w8⟩ := hN zs σ8 H8 n8
          obtain ⟨acc8, c8, r8, I8⟩ := G8
          have pin8 : ∀ b ∈ fp, ∀ o, s5.heap.get? b = some o → s8.heap.get? b = some o ∧ H8 b = none := fun b hb o e => by
            have q := I8.pin (b, o) (List.mem_append_right _ (List.mem_cons_of_mem _ (List.mem_append_right _ (mem_pinsAt hb e))))
            exact ⟨q.1, q.2.1⟩
          refine ih j hj n2 (i + 1) zs s7 s8 σ8 H8 hn2 w8 ⟨acc8, c8, r8, I8.pins_of fun q hq => I8.pin q (List.mem_append_right _ ?_)⟩ (T.keep _ _ _ st5 fun b hb o e => (pin8 b hb o e).1) fun b hb => ?_
          · rcases List.mem_cons.mp hq with y | y
            · rw [y]
              exact List.mem_cons_self
            · exact List.mem_cons_of_mem _ (List.mem_append_left _ y)
          · obtain ⟨o, e, _⟩ := T.obj _ _ st5 b hb
            exact (pin8 b hb o e).2
        have thin : ∀ {σ8 : L2.St} {H8 : Hp}, GI X S (ip ++ pinsAt fp s5.heap) zs σ8 H8 s8 → GI X S ip zs σ8 H8 s8 := by
          intro σ8 H8 G8
          obtain ⟨acc8, c8, r8, I8⟩ := G8
          refine ⟨acc8, c8, r8, I8.pins_of fun q hq => I8.pin q (List.mem_append_right _ ?_)⟩
          rcases List.mem_cons.mp hq with y | y
          · rw [y]
            exact List.mem_cons_self
          · exact List.mem_cons_of_mem _ (List.mem_append_left _ y)
        cases f with
        | next =>
          obtain ⟨σ8, H8, G8, n8⟩ := hs8
          exact seg_again rfl (again G8 n8)
        | cont =>
          obtain ⟨σ8, H8, G8, n8⟩ := hs8
          exact seg_again rfl (again G8 n8)
        | brk =>
          obtain ⟨σ8, H8, G8, n8⟩ := hs8
          exact seg_leaf (.ok .next) (k.ok n2 zs s7 s8 .next hn2 ⟨σ8, H8, thin G8, n8⟩)
        | ret v =>
          obtain ⟨x8, σ8, H8, G8, r8, n8⟩ := hs8
          exact seg_leaf (.ok (.ret v)) (k.ok n2 zs s7 s8 (.ret v) hn2 ⟨x8, σ8, H8, thin G8, r8, n8⟩)
  exact loop m0 n 0 ys s₀ s2 σ H2 hn w0 ⟨acc, cc, r, I2⟩ st2 fun b hb => (f2 b hb).1
end
end SE
/-! Calls by keywords. -/
namespace SE
open PySem PySem.Spec PyProof.Rows L2 GenW
section
variable {K : PySem.W.Frag} {x qual : Str} {params : Arguments} {body : List Stmt} {scope : Scope} {kws : List (Str × V)} {f : Addr} {fd : FuncData} {ps : List Str}
/-- keyword-only defaults alone; ms: those that lack -/
theorem kb_some (F : FunD K x qual params body scope [] kws f fd) (n : Nat) (ks : List Str) (ms : List (Str × V)) (g : {α : Type} → List α → List α → List α → List α) (hk : kws ≠ []) (hms : ∀ q ∈ ms, q ∈ kws)
    (hrel : ∀ {vs mz zs : List V} {us mv ws : List Value}, Vals vs us → Vals mz mv → Vals zs ws → Vals (g vs mz zs) (g us mv ws))
    (h : ∀ (D : Addr) (doc pm : Value) (an : Option Addr) (cv ct : Value) (us mv ws : List Value), us.length = n → mv.length = ms.length → ws.length = ks.length →
      KwChain D ((ms.map (·.1)).zip mv) (bindArgs (PySem.W.fnOf x qual params body scope .none (.ref D) doc pm an cv ct) ⟨us, ks.zip ws⟩) (ps.zip (g us mv ws))) :
    ∃ mv : List Value, KBn K fd ps n ks (fun us ws => g us mv ws) (fun vs zs => g vs (ms.map (·.2)) zs) := by
  obtain ⟨oc, od, dV, kV, doc, pm, an, cv, ct, osl, rfl, look, hc, hD, hK⟩ := F.ex
  rcases hD with ⟨_, rfl⟩ | ⟨e, _⟩
  · rcases hK with e | ⟨D, rfl, hq⟩
    · exact absurd e hk
    · obtain ⟨mv, hl, rk, hks⟩ := kwd_vals (ms := ms) fun q hm => hq q (hms q hm)
      exact ⟨mv, fun s us ws X l1 l2 => BindsTo.of_looks fun M => KwChain.looks X hks (h D doc pm an cv ct us mv ws l1 hl l2), fun r1 r2 => hrel r1 rk r2⟩
  · exact absurd rfl e
theorem kb_all {st : Stmt} (F : Fun K x qual st f fd) (n : Nat) (ks : List Str) (g : {α : Type} → List α → List α → List α)
    (hrel : ∀ {vs zs : List V} {us ws : List Value}, Vals vs us → Vals zs ws → Vals (g vs zs) (g us ws))
    (h : ∀ (kV doc pm : Value) (an : Option Addr) (cv ct : Value) (us ws : List Value), us.length = n → ws.length = ks.length → bindArgs (PySem.W.fnOf x qual (defArgs st) (defBody st) (defScope st) .none kV doc pm an cv ct) ⟨us, ks.zip ws⟩ = pure (ps.zip (g us ws))) :
    KBn K fd ps n ks (fun us ws => g us ws) (fun vs zs => g vs zs) := by
  obtain ⟨oc, od, kV, doc, pm, an, cv, ct, osl, rfl, look, hc⟩ := F.ex
  exact ⟨fun s us ws X l1 l2 => .of_eq (h kV doc pm an cv ct us ws l1 l2), fun r1 r2 => hrel r1 r2⟩
end
section
variable {X : Cx} {k n : Nat} {f : Addr} {fd : FuncData} {ps ks : List Str} {sp : Sp} {E : XK} {x : Str} {p pos : Pos} {e : Expr} {es : List Expr} {kws : List Keyword} {t tk : TA} {g : List Value → List Value → List Value} {gV : List V → List V → List V}
/-- f(k = v, ..) -/
theorem pe_kw0 (F : FnOk X.prog X.w X.K X.mg X.base CX0 k f fd ps sp) (hr : Room k X.A) (hg : Gl X x) (hm : X.mg x = some (.ref f)) (hk : PySem.W.keepIn X.K (.ref f) = true) (hb : KBn X.K fd ps 0 ks g gV)
    (hkw : PK X kws tk) (hall : (backToKw pos (keywordEach kws X.env)).all (·.1.isSome) = true := by rfl) (hks : (backToKw pos (keywordEach kws X.env)).filterMap (·.1) = ks := by rfl)
    (hdb : (x == ("__debug__" : Str)) = false := by decide) (hpl : ((backTo pos (starEach [] X.env)).any (·.1) || (backToKw pos (keywordEach kws X.env)).any (·.1.isNone)) = false := by rfl) :
    PE X (.Call (.Name x p) [] kws pos) (tCallN 0 ks.length sp gV E0 tNil tk) := by
  constructor
  intro pins s σ H Q I h
  apply wpAny_Call_Name_kw
  apply ld_glob I hg hm _ hdb
  refine PySem.W.callWith_KW0 (h₀ := X.base) I.ok.mod.kin hk hall (thn (hkw.run pos pins s σ H _ I h) fun ws s2 hh => ?_) hpl
  obtain ⟨zs, H2, I2, rz, l1, l2, q2⟩ := hh
  refine ⟨I2.kIn, ?_⟩
  rw [hks]
  exact run_fnN F hr hb pass0 I2 .nil rz l1 l2 q2
/-! ### generators -/
variable {sg : SpG}
theorem run_gkw {pins : List (Addr × Obj)} {σ : L2.St} {H : Hp} {s : Shared} {us ws : List Value} {vs zs : List V} {cont : List V → Hp → Prop} {E1 : Value → Shared → Prop} (F : GFn X.prog X.w X.K X.mg X.base k f fd ps sg) (hr : Room k X.A) (hb : KBn X.K fd ps n ks g gV)
    (I : Inv X pins σ H s) (r : Vals vs us) (rz : Vals zs ws) (l1 : vs.length = n) (l2 : zs.length = ks.length) (h : sg (gV vs zs) H cont E) :
    wpAny (model X.prog X.w) X.A (call (.ref f) us (ks.zip ws)) (fun u s2 => ∃ H1 sc ex, Inv X pins σ H1 sc ∧ ExOk X pins ex ∧ GMade X.prog X.w k X.stack H1 sc ex cont E u s2) E1 s := by
  have r2 := hb.rel r rz
  refine wpAny_call (codeAny_mono (F.run X.A X.stack s H ⟨us, ks.zip ws⟩ (g us ws) (gV vs zs) cont E hr I.env0 (hb.to s us ws I.kIn (r.length.symm.trans l1) (rz.length.symm.trans l2)) r2 h) fun rr s2 hq => ?_)
  cases rr with
  | error _ => exact hq.elim
  | ok fl =>
    cases fl with
    | ret u => exact ⟨H, s, [], I, .nil, hq⟩
    | next => exact hq.elim
    | brk => exact hq.elim
    | cont => exact hq.elim
def tGenN (n m : Nat) (sg : SpG) (gV : List V → List V → List V) (E : XK) (t tk : TA) : TGen := fun σ H cont => t σ H fun vs H1 => tk σ H1 fun zs H2 => vs.length = n ∧ zs.length = m ∧ sg (gV vs zs) H2 cont E
theorem pgen_kw (F : GFn X.prog X.w X.K X.mg X.base k f fd ps sg) (hr : Room k X.A) (hg : Gl X x) (hm : X.mg x = some (.ref f)) (hk : PySem.W.keepIn X.K (.ref f) = true) (hb : KBn X.K fd ps n ks g gV)
    (ha : PA X (e :: es) t) (hkw : PK X kws tk) (hall : (backToKw pos (keywordEach kws X.env)).all (·.1.isSome) = true := by rfl) (hks : (backToKw pos (keywordEach kws X.env)).filterMap (·.1) = ks := by rfl)
    (hdb : (x == ("__debug__" : Str)) = false := by decide) (he : starEach (e :: es) X.env = (false, eval e X.env) :: starEach es X.env := by rfl)
    (hpl : ((backTo pos (starEach (e :: es) X.env)).any (·.1) || (backToKw pos (keywordEach kws X.env)).any (·.1.isNone)) = false := by rfl) :
    PGen X k (.Call (.Name x p) (e :: es) kws pos) (tGenN n ks.length sg gV E t tk) E := by
  constructor
  intro pins s σ H cont I h
  apply wpAny_Call_Name_kw
  apply ld_glob I hg hm _ hdb
  refine PySem.W.callWith_KW (h₀ := X.base) I.ok.mod.kin hk hall (thn (ha.run pos pins s σ H _ I h) fun us s1 hh => ?_) hpl he
  obtain ⟨vs, H1, I1, r, q⟩ := hh
  refine thn (hkw.run pos pins s1 σ H1 _ I1 q) fun ws s2 hh => ?_
  obtain ⟨zs, H2, I2, rz, l1, l2, q2⟩ := hh
  refine ⟨I2.kIn, ?_⟩
  rw [hks]
  exact run_gkw F hr hb I2 r rz l1 l2 q2
theorem pgen_kw0 (F : GFn X.prog X.w X.K X.mg X.base k f fd ps sg) (hr : Room k X.A) (hg : Gl X x) (hm : X.mg x = some (.ref f)) (hk : PySem.W.keepIn X.K (.ref f) = true) (hb : KBn X.K fd ps 0 ks g gV)
    (hkw : PK X kws tk) (hall : (backToKw pos (keywordEach kws X.env)).all (·.1.isSome) = true := by rfl) (hks : (backToKw pos (keywordEach kws X.env)).filterMap (·.1) = ks := by rfl)
    (hdb : (x == ("__debug__" : Str)) = false := by decide) (hpl : ((backTo pos (starEach [] X.env)).any (·.1) || (backToKw pos (keywordEach kws X.env)).any (·.1.isNone)) = false := by rfl) :
    PGen X k (.Call (.Name x p) [] kws pos) (tGenN 0 ks.length sg gV E tNil tk) E := by
  constructor
  intro pins s σ H cont I h
  apply wpAny_Call_Name_kw
  apply ld_glob I hg hm _ hdb
  refine PySem.W.callWith_KW0 (h₀ := X.base) I.ok.mod.kin hk hall (thn (hkw.run pos pins s σ H _ I h) fun ws s2 hh => ?_) hpl
  obtain ⟨zs, H2, I2, rz, l1, l2, q2⟩ := hh
  refine ⟨I2.kIn, ?_⟩
  rw [hks]
  exact run_gkw F hr hb I2 .nil rz l1 l2 q2
/-- nothing is raised by a generator that raises nothing -/
theorem pass_gen : Passes (CX X.prog X.w) X E0 := by
  intro pins σ H s e s2 I h
  obtain ⟨a, B, H2, cls, d, _, _, _, _, _, _, _, q⟩ := h
  exact q.elim
theorem nostop0 {K : PySem.W.Frag} : NoStop K E0 := fun _ _ _ h => h.elim
end
end SE
namespace SE
open PySem PySem.Spec PyProof.Rows L2 GenW
theorem goL_step {l : Lim} {ss : List Stp} {i : Nat} {s : Stp} {zs : List Str} (hs : ss[i]? = some s) : goL l i (ss.drop i) zs = match stepL l s zs with | none => (some i, zs) | some ws => goL l (i + 1) (ss.drop (i + 1)) ws := by
  have hi : i < ss.length := (List.getElem?_eq_some_iff.mp hs).1
  have e : ss.drop i = s :: ss.drop (i + 1) := by
    rw [List.drop_eq_getElem_cons hi]
    rw [(List.getElem?_eq_some_iff.mp hs).2]
  rw [e]
  rfl
theorem stagesG_step {l : Lim} {ss : List Stp} {i : Nat} {s : Stp} {zs : List Str} (hs : ss[i]? = some s) : stagesG l (ss.drop i) zs = match stepL l s zs with | none => [] | some ws => ws :: stagesG l (ss.drop (i + 1)) ws := by
  have hi : i < ss.length := (List.getElem?_eq_some_iff.mp hs).1
  have e : ss.drop i = s :: ss.drop (i + 1) := by
    rw [List.drop_eq_getElem_cons hi]
    rw [(List.getElem?_eq_some_iff.mp hs).2]
  rw [e]
  rfl
/-- defs with keyword-only defaults kws, by name -/
def HasF (P : Program) (w : World) (K : PySem.W.Frag) (mg : Str → Option Value) (base : Heap) (x : Str) (st : Stmt) (k : Nat) (ps : List Str) (kws : List (Str × V)) (sp : Sp) : Prop :=
  ∃ f fd, FnOk P w K mg base CX0 k f fd ps sp ∧ mg x = some (.ref f) ∧ PySem.W.keepIn K (.ref f) = true ∧ Fun K x x st f fd ∧ FunD K x x (defArgs st) (defBody st) (defScope st) [] kws f fd
def HasG (P : Program) (w : World) (K : PySem.W.Frag) (mg : Str → Option Value) (base : Heap) (x : Str) (st : Stmt) (k : Nat) (ps : List Str) (kws : List (Str × V)) (sg : SpG) : Prop :=
  ∃ f fd, GFn P w K mg base k f fd ps sg ∧ mg x = some (.ref f) ∧ PySem.W.keepIn K (.ref f) = true ∧ Fun K x x st f fd ∧ FunD K x x (defArgs st) (defBody st) (defScope st) [] kws f fd
section
variable {P : Program} {w : World} {K : PySem.W.Frag} {mg : Str → Option Value} {base : Heap}
/-! ### follow -/
def spFollowL (K : PySem.W.Frag) : Sp := fun xs H Q _ => ∃ (a q : Addr) (ys : List V) (ss : List Stp) (zs : List Str) (l : Lim), xs = [.ref a, .ref q, limV l] ∧ Args3 K H a q ys ss zs ∧
  ∀ (p r : Addr) (H' : Hp), Same H H' → H' p = some (.tup [idxV (followL l ss zs).1, .ref r]) → SqT K H' r ((followL l ss zs).2.map V.str) → Q (.ref p) H'
theorem scFoL : FnScope ["steps", "stack", "limit", "index", "step", "after"] ["steps", "stack", "limit"] (defScope sFollow) := ⟨rfl, rfl, rfl, by decide +kernel, rfl, by decide +kernel, by decide +kernel⟩
theorem has_followL (D : Def K mg "follow" sFollow) (GH : Has P w K mg base "is_too_high" 1 ["height", "limit"] [] spHighL) (GA : Has P w K mg base "after_step" 2 ["step", "stack", "limit"] [] (spAfterL K)) (B : Blt mg) : Has P w K mg base "follow" 3 ["steps", "stack", "limit"] [] (spFollowL K) := by
  refine has_of D scFoL (fun _ _ _ _ _ _ us hl => match us, hl with | [_, _, _], _ => rfl) (fun xs H Q E h => ?_) (fun f cv A out s H xs Q E hr h => ?_)
  · obtain ⟨a, q, ys, ss, zs, l, rfl, _⟩ := h
    rfl
  · obtain ⟨a, q, ys, ss, zs, l, rfl, g, k⟩ := h
    have hr1 : Room 1 _ := hr.mono (by decide)
    have len2 : ys.length = ss.length := g.v.length
    refine ⟨_, pss_cons (ps_if (pt_val (pe_has GH hr1 (pa_cons (pe_callB call_len_seq (by rfl) B.len PySem.boot_len (pa_cons (pv 1) pa_nil)) (pa_cons (pv 2) pa_nil)))) (pss_one (ps_ret (pe_tup (pa_cons (pe_un un_neg pe_int) (pa_cons (pv 1) pa_nil))))) pss_nil)
      (pss_cons (ps_for PassesOwn.never rfl (pi_enum (by rfl) B.enu (pa_cons (pv 0) pa_nil)) (pg_tup (by rfl) (pgs_cons (pg_name (i := 3) scFoL.nd rfl (.inl rfl)) (pgs_cons (pg_name (i := 4) scFoL.nd rfl (.inl rfl)) pgs_nil)))
        (pss_cons (ps_set (i := 5) scFoL.nd rfl (.inl rfl) (pe_has GA hr (pa_cons (pv 4) (pa_cons (pv 1) (pa_cons (pv 2) pa_nil)))))
        (pss_cons (ps_if (pt_cmpR op_isN (pv 5) pe_non (nomark _)) (pss_one (ps_ret (pe_tup (pa_cons (pv 3) (pa_cons (pv 1) pa_nil))))) pss_nil)
        (pss_one (ps_set (i := 1) scFoL.nd rfl (.inl rfl) (pv 5))))))
      (pss_one (ps_ret (pe_tup (pa_cons pe_non (pa_cons (pv 1) pa_nil)))))), ?_⟩
    refine ⟨_, rfl, q, _, rfl, .inr g.t, _, rfl, zs.length, l, ?_, high l zs.length, rfl, ?_⟩
    · show [V.int (((zs.map V.str).length : Nat) : Int), limV l] = _
      rw [List.length_map]
    cases hh : high l zs.length with
    | true =>
      have ef : followL l ss zs = (some (-1), zs) := by
        unfold followL
        rw [if_pos hh]
      rw [ef] at k
      refine iteT ⟨1, rfl, _, rfl, (by show 2 ≤ sizeLine; decide), fun t ht => ?_⟩
      exact k t q _ (Same.new ht) upd_same (Same.tup (Same.new ht) g.t)
    | false =>
      have ef : followL l ss zs = ((goL l 0 ss zs).1.map fun (i : Nat) => (i : Int), (goL l 0 ss zs).2) := by
        unfold followL
        rw [if_neg (by rw [hh]; exact Bool.false_ne_true)]
      rw [ef] at k
      refine iteF ?_
      refine ⟨_, rfl, a, ys, rfl, g.l, for_it (walk_enum (K := K) (a := a) (xs := ys)) (fun i σ H2 => ∃ (r : Addr) (ws : List Str) (y3 y4 y5 : Option V), σ = [some (.ref a), some (.ref r), some (limV l), y3, y4, y5] ∧ Same H H2 ∧ SqT K H2 r (ws.map V.str) ∧ goL l 0 ss zs = goL l i (ss.drop i) ws ∧ ws.length ≤ zs.length + i ∧ ∀ z ∈ ws, Item z) ⟨q, zs, none, none, none, rfl, Same.refl H, g.t, rfl, Nat.le_refl _, g.z⟩ (fun i σ H2 _ q => ?_) ?_ ?_⟩
      · obtain ⟨_, _, _, _, _, _, s2, _⟩ := q
        exact Same.seq s2 g.l
      · rintro i x σ H2 H3 hi ⟨r, ws, y3, y4, y5, rfl, s2, hT, hR, hL, hI⟩ ⟨T, p, y, rfl, nT, rfl, hp, hy⟩
        refine ⟨T, _, rfl, .of upd_same, rfl, _, _, rfl, _, _, rfl, rfl, ?_⟩
        have s3 : Same H (upd H2 T (.tup [p, y])) := Same.free2 s2 (s2.free nT)
        have s23 : Same H2 (upd H2 T (.tup [p, y])) := Same.new nT
        obtain ⟨st, h1, h2⟩ := StepsV.at g.v hy
        have it := g.i st (List.mem_of_getElem? h1)
        have nx := hR.trans (goL_step (l := l) (zs := ws) h1)
        have gn := g.n
        have gm := g.m
        refine ⟨_, rfl, _, rfl, _, rfl, y, st, r, ws, l, rfl, h2.same s3, it, Same.tup s23 hT, by omega, hI, fun u H4 s4 hu => ?_⟩
        refine ⟨_, rfl, rfl, _, rfl, ?_⟩
        cases e : stepL l st ws with
        | none =>
          rw [e] at hu nx
          have hu' : u = .non := hu
          subst hu'
          refine iteT ⟨_, rfl, _, rfl, (by show 2 ≤ sizeLine; decide), fun t ht => ?_⟩
          rw [nx] at k
          have e2 : p = .int (i : Nat) := (Option.some.inj hp).symm
          subst e2
          exact k t r _ ((s3.trans s4).trans (Same.new ht)) upd_same (Same.tup ((s23.trans s4).trans (Same.new ht)) hT)
        | some us =>
          rw [e] at hu nx
          obtain ⟨r2, rfl, hT2⟩ := hu
          refine iteF ?_
          refine ⟨_, rfl, r2, us, _, _, _, rfl, s3.trans s4, hT2, nx, ?_, stepM_items (stepL_sub e) it hI⟩
          have := stepM_len (stepL_sub e)
          omega
      · rintro σ H2 ⟨r, ws, y3, y4, y5, rfl, s2, hT, hR, hL, hI⟩
        rw [len2, List.drop_length] at hR
        rw [hR] at k
        refine ⟨_, rfl, (by show 2 ≤ sizeLine; decide), fun t ht => ?_⟩
        exact k t r _ (s2.trans (Same.new ht)) upd_same (Same.tup (Same.new ht) hT)
/-! ### run, failing_index -/
end
end SE
namespace SE
open PySem PySem.Spec PyProof.Rows L2
/-! ### stacks by name -/
abbrev Sk := List (Str × List Str)
def EntS (K : PySem.W.Frag) (H : Hp) (kv : Key × V) (p : Str × List Str) : Prop := kv.1 = Sum.inr p.1 ∧ ∃ t, kv.2 = .ref t ∧ SqT K H t (p.2.map V.str)
abbrev SkH (K : PySem.W.Frag) (H : Hp) : List (Key × V) → Sk → Prop := Paired (EntS K H)
theorem skH_same {K : PySem.W.Frag} {H H' : Hp} {kvs : List (Key × V)} {ss : Sk} (h : SkH K H kvs ss) (s : Same H H') : SkH K H' kvs ss := Paired.mapP h fun _ _ q => ⟨q.1, q.2.elim fun t z => ⟨t, z.1, Same.tup s z.2⟩⟩
/-- what is told at D is no tuple: a tuple stays where D changes -/
def NoTup (H : Hp) (D : Addr) : Prop := ∀ xs, H D ≠ some (.tup xs) ∧ ∀ p, H D ≠ some (.frz p (.tup xs))
theorem NoTup.dK {H : Hp} {D : Addr} {kvs : List (Key × V)} (h : H D = some (.dK kvs)) : NoTup H D := fun xs => ⟨fun e => (by rw [h] at e; cases e), fun p e => (by rw [h] at e; cases e)⟩
theorem NoTup.dF {H : Hp} {D : Addr} {od : Obj} {kvs : List (Key × V)} (h : H D = some (.frz od (.dK kvs))) : NoTup H D := fun xs => ⟨fun e => (by rw [h] at e; cases e), fun p e => (by rw [h] at e; cases e)⟩
theorem NoTup.lst {H : Hp} {D : Addr} {us : List V} (h : H D = some (.lst us)) : NoTup H D := fun xs => ⟨fun e => (by rw [h] at e; cases e), fun p e => (by rw [h] at e; cases e)⟩
theorem NoTup.ins {H : Hp} {D C dx : Addr} {fs : List (Str × V)} (h : H D = some (.ins C dx fs)) : NoTup H D := fun xs => ⟨fun e => (by rw [h] at e; cases e), fun p e => (by rw [h] at e; cases e)⟩
theorem sqT_upd {K : PySem.W.Frag} {H : Hp} {D t : Addr} {xs : List V} {o : HO} (n : NoTup H D) (h : SqT K H t xs) : SqT K (upd H D o) t xs := by
  rcases h with (q | ⟨p, q⟩) | q
  · exact .inl (.inl (by rw [upd_ne (fun z => by rw [z] at q; exact (n xs).1 q)]; exact q))
  · exact .inl (.inr ⟨p, by rw [upd_ne (fun z => by rw [z] at q; exact (n xs).2 p q)]; exact q⟩)
  · exact .inr q
theorem skH_upd {K : PySem.W.Frag} {H : Hp} {D : Addr} {o : HO} {kvs : List (Key × V)} {ss : Sk} (n : NoTup H D) (h : SkH K H kvs ss) : SkH K (upd H D o) kvs ss := Paired.mapP h fun _ _ q => ⟨q.1, q.2.elim fun t z => ⟨t, z.1, sqT_upd n z.2⟩⟩
structure SkOk (ss : Sk) (m b : Nat) : Prop where
  nd : (ss.map (·.1)).Nodup
  ok : ∀ p ∈ ss, Item p.1 ∧ (∀ z ∈ p.2, Item z) ∧ p.2.length ≤ b
  len : ss.length ≤ m
theorem SkOk.mono {ss : Sk} {m b m' b' : Nat} (h : SkOk ss m b) (hm : m ≤ m') (hb : b ≤ b') : SkOk ss m' b' := ⟨h.nd, fun p q => ⟨(h.ok p q).1, (h.ok p q).2.1, Nat.le_trans (h.ok p q).2.2 hb⟩, Nat.le_trans h.len hm⟩
def hasS (n : Str) (p : Str × List Str) : Bool := decide (p.1 = n)
def getS (ss : Sk) (n : Str) : List Str := ((ss.find? (hasS n)).map (·.2)).getD []
def putS (ss : Sk) (n : Str) (st : List Str) : Sk := if ss.any (hasS n) = true then ss.map (fun p => if p.1 = n then (p.1, st) else p) else ss ++ [(n, st)]
def cleanS (ss : Sk) : Sk := ss.filter fun p => decide (p.2 ≠ [])
theorem findS_some {ss : Sk} {n : Str} {p : Str × List Str} (h : ss.find? (hasS n) = some p) : p ∈ ss ∧ p.1 = n := ⟨List.mem_of_find?_eq_some h, by simpa [hasS] using List.find?_some h⟩
theorem findS_at {ss : Sk} (nd : (ss.map (·.1)).Nodup) {p : Str × List Str} (m : p ∈ ss) : ss.find? (hasS p.1) = some p := by
  induction ss with
  | nil => cases m
  | cons x r ih =>
    rw [List.map_cons, List.nodup_cons] at nd
    rcases List.mem_cons.mp m with rfl | m'
    · exact List.find?_cons_of_pos (by simp [hasS])
    · rw [List.find?_cons_of_neg]
      · exact ih nd.2 m'
      · intro q
        exact nd.1 (List.mem_map.mpr ⟨p, m', (of_decide_eq_true q).symm⟩)
theorem getS_at {ss : Sk} (nd : (ss.map (·.1)).Nodup) {p : Str × List Str} (m : p ∈ ss) : getS ss p.1 = p.2 := by
  unfold getS
  rw [findS_at nd m]
  rfl
theorem SkOk.get {ss : Sk} {m b : Nat} (h : SkOk ss m b) (n : Str) : (∀ z ∈ getS ss n, Item z) ∧ (getS ss n).length ≤ b := by
  unfold getS
  cases e : ss.find? (hasS n) with
  | none => exact ⟨fun z q => (by cases q), Nat.zero_le _⟩
  | some p => exact (h.ok p (findS_some e).1).2
/-- how a name is looked up -/
theorem skH_val {K : PySem.W.Frag} {H : Hp} {n : Str} : ∀ {kvs : List (Key × V)} {ss : Sk}, SkH K H kvs ss → (ss.find? (hasS n) = none ∧ valV kvs (Sum.inr n) = none) ∨ ∃ p t, ss.find? (hasS n) = some p ∧ valV kvs (Sum.inr n) = some (.ref t) ∧ SqT K H t (p.2.map V.str)
  | _, _, .nil => .inl ⟨rfl, rfl⟩
  | kv :: kvs, p :: ss, .cons a r => by
    obtain ⟨e1, t, e2, q⟩ := a
    by_cases c : p.1 = n
    · exact .inr ⟨p, t, List.find?_cons_of_pos (by simp [hasS, c]), by rw [valV_pos (by rw [e1, c]), e2], q⟩
    · have c1 : ¬ hasS n p = true := fun z => c (of_decide_eq_true z)
      have c2 : ¬ kv.1 = Sum.inr n := fun z => c (Sum.inr.inj (e1.symm.trans z))
      rw [List.find?_cons_of_neg c1, valV_neg c2]
      exact skH_val r
theorem skH_any {K : PySem.W.Frag} {H : Hp} {n : Str} : ∀ {kvs : List (Key × V)} {ss : Sk}, SkH K H kvs ss → (kvs.any fun kv => decide (kv.1 = Sum.inr n)) = ss.any (hasS n)
  | _, _, .nil => rfl
  | kv :: kvs, p :: ss, .cons a r => by
    rw [List.any_cons, List.any_cons, skH_any r]
    congr 1
    rw [a.1]
    show decide ((Sum.inr p.1 : Key) = Sum.inr n) = decide (p.1 = n)
    by_cases c : p.1 = n
    · rw [decide_eq_true c, decide_eq_true (by rw [c])]
    · rw [decide_eq_false c, decide_eq_false (fun q => c (Sum.inr.inj q))]
theorem skH_map {K : PySem.W.Frag} {H : Hp} {n : Str} {t : Addr} {st : List Str} (ht : SqT K H t (st.map V.str)) : ∀ {kvs : List (Key × V)} {ss : Sk}, SkH K H kvs ss → SkH K H (kvs.map fun kv => if kv.1 = Sum.inr n then (kv.1, .ref t) else kv) (ss.map fun p => if p.1 = n then (p.1, st) else p)
  | _, _, .nil => .nil
  | kv :: kvs, p :: ss, .cons a r => by
    refine .cons ?_ (skH_map ht r)
    dsimp only
    by_cases c : p.1 = n
    · rw [if_pos (by rw [a.1, c]), if_pos c]
      exact ⟨a.1, t, rfl, ht⟩
    · rw [if_neg (fun z => c (Sum.inr.inj (a.1.symm.trans z))), if_neg c]
      exact a
theorem paired_snoc {α β : Type} {F : α → β → Prop} : ∀ {l₁ : List α} {l₂ : List β} {x : α} {y : β}, Paired F l₁ l₂ → F x y → Paired F (l₁ ++ [x]) (l₂ ++ [y])
  | _, _, _, _, .nil, h => .cons h .nil
  | _, _, _, _, .cons r t, h => .cons r (paired_snoc t h)
theorem skH_put {K : PySem.W.Frag} {H : Hp} {n : Str} {t : Addr} {st : List Str} {kvs : List (Key × V)} {ss : Sk} (h : SkH K H kvs ss) (ht : SqT K H t (st.map V.str)) : SkH K H (putK kvs (Sum.inr n) (.ref t)) (putS ss n st) := by
  unfold putK putS
  rw [skH_any h]
  split
  · exact skH_map ht h
  · exact paired_snoc h ⟨rfl, t, rfl, ht⟩
theorem putS_fst (ss : Sk) (n : Str) (st : List Str) : (putS ss n st).map (·.1) = if ss.any (hasS n) = true then ss.map (·.1) else ss.map (·.1) ++ [n] := by
  unfold putS
  split
  · rw [List.map_map]
    refine List.map_congr_left fun p _ => ?_
    show (if p.1 = n then (p.1, st) else p).1 = p.1
    split <;> rfl
  · rw [List.map_append]
    rfl
theorem putS_ok {ss : Sk} {m b c : Nat} {n : Str} {st : List Str} (h : SkOk ss m b) (hn : Item n) (hs : ∀ z ∈ st, Item z) (hl : st.length ≤ c) (hb : b ≤ c) : SkOk (putS ss n st) (m + 1) c := by
  refine ⟨?_, fun p mp => ?_, ?_⟩
  · rw [putS_fst]
    split
    · exact h.nd
    · rename_i q
      rw [List.nodup_append]
      refine ⟨h.nd, by simp, fun x mx y my e => q ?_⟩
      rw [List.mem_singleton.mp my] at e
      obtain ⟨p, mp, ep⟩ := List.mem_map.mp mx
      exact List.any_eq_true.mpr ⟨p, mp, decide_eq_true (by rw [ep, e])⟩
  · unfold putS at mp
    split at mp
    · obtain ⟨q, mq, rfl⟩ := List.mem_map.mp mp
      obtain ⟨a, d, e⟩ := h.ok q mq
      split
      · exact ⟨a, hs, hl⟩
      · exact ⟨a, d, by omega⟩
    · rcases List.mem_append.mp mp with z | z
      · obtain ⟨a, d, e⟩ := h.ok p z
        exact ⟨a, d, by omega⟩
      · rw [List.mem_singleton.mp z]
        exact ⟨hn, hs, hl⟩
  · have := h.len
    unfold putS
    split
    · rw [List.length_map]; omega
    · rw [List.length_append, List.length_singleton]; omega
theorem cleanS_ok {ss : Sk} {m b : Nat} (h : SkOk ss m b) : SkOk (cleanS ss) m b :=
  ⟨(List.filter_sublist.map _).nodup h.nd, fun p q => h.ok p (List.mem_filter.mp q).1, Nat.le_trans (List.length_filter_le _ _) h.len⟩
theorem clean_take {ss : Sk} {j : Nat} {p : Str × List Str} (h : ss[j]? = some p) : cleanS (ss.take (j + 1)) = if p.2 = [] then cleanS (ss.take j) else cleanS (ss.take j) ++ [p] := by
  unfold cleanS
  rw [List.take_add_one, h, List.filter_append]
  by_cases c : p.2 = []
  · rw [if_pos c, Option.toList_some, List.filter_cons, if_neg (by simp [c]), List.filter_nil, List.append_nil]
  · rw [if_neg c, Option.toList_some, List.filter_cons, if_pos (by simp [c]), List.filter_nil]
theorem skH_new {K : PySem.W.Frag} {H : Hp} {n : Str} {v : V} {kvs : List (Key × V)} {ss : Sk} (h : SkH K H kvs ss) (nn : n ∉ ss.map (·.1)) : putK kvs (Sum.inr n) v = kvs ++ [(Sum.inr n, v)] := by
  unfold putK
  rw [skH_any h, if_neg]
  intro q
  obtain ⟨p, mp, e⟩ := List.any_eq_true.mp q
  exact nn (List.mem_map.mpr ⟨p, mp, of_decide_eq_true e⟩)
theorem sk_fresh {ss : Sk} {j : Nat} {p : Str × List Str} (nd : (ss.map (·.1)).Nodup) (h : ss[j]? = some p) : p.1 ∉ (cleanS (ss.take j)).map (·.1) := by
  intro m
  obtain ⟨q, mq, e⟩ := List.mem_map.mp m
  obtain ⟨i, hi⟩ := List.getElem?_of_mem (List.mem_filter.mp mq).1
  have il := (List.getElem?_eq_some_iff.mp hi).1
  rw [List.length_take] at il
  rw [List.getElem?_take_of_lt (by omega)] at hi
  have h1 : (ss.map (·.1))[i]? = some p.1 := by rw [List.getElem?_map, hi]; exact congrArg some e
  have h2 : (ss.map (·.1))[j]? = some p.1 := by rw [List.getElem?_map, h]; rfl
  obtain ⟨a1, _⟩ := List.getElem?_eq_some_iff.mp h1
  have := (List.getElem?_inj a1 nd).mp (h1.trans h2.symm)
  omega
theorem valV_of {kvs : List (Key × V)} {j : Nat} {k : Key} {v : V} (h : kvs[j]? = some (k, v)) (nd : (kvs.map (·.1)).Nodup) : valV kvs k = some v := by
  induction kvs generalizing j with
  | nil => cases h
  | cons x r ih =>
    rw [List.map_cons, List.nodup_cons] at nd
    cases j with
    | zero =>
      cases h
      exact valV_pos rfl
    | succ j =>
      have m : (k, v) ∈ r := List.mem_of_getElem? (i := j) h
      rw [valV_neg (fun e => nd.1 (List.mem_map.mpr ⟨_, m, e.symm⟩))]
      exact ih h nd.2
theorem sF_nd {K : PySem.W.Frag} {H : Hp} : ∀ {kvs : List (Key × V)} {ss : Sk}, SkH K H kvs ss → (ss.map (·.1)).Nodup → (kvs.map (·.1)).Nodup
  | _, _, h, nd => by
    have e : ∀ {kvs : List (Key × V)} {ss : Sk}, SkH K H kvs ss → kvs.map (·.1) = (ss.map (·.1)).map Sum.inr := by
      intro kvs ss h
      induction h with
      | nil => rfl
      | cons a r ih =>
        rw [List.map_cons, List.map_cons, List.map_cons, ih, a.1]
    rw [e h]
    exact nd.map _ (fun a b n z => n (Sum.inr.inj z))
theorem room_u {k : Nat} {A : Around} (hr : Room k A) : A.units + 1 < cLine := by
  have := hr.un
  omega
theorem mutK {kvs : List (Key × V)} : Mut (some (.dK kvs)) := trivial
/-- a dict that was locked and is as before -/
theorem Same.back {H H1 H2 : Hp} {d : Addr} {o x : HO} (hd : H d = some o) (h1 : H1 = upd H d x) (s : Same H1 H2) : Same H (upd H2 d o) := fun b u e => by
  by_cases c : b = d
  · subst c
    rw [hd] at e
    cases e
    exact upd_same
  · rw [upd_ne c]
    exact s _ _ (by rw [h1, upd_ne c]; exact e)
section
variable {P : Program} {w : World} {K : PySem.W.Frag} {mg : Str → Option Value} {base : Heap}
/-! ### without_empty -/
end
end SE
namespace SE
open PySem PySem.Spec PyProof.Rows L2
section
variable {P : Program} {w : World} {K : PySem.W.Frag} {mg : Str → Option Value} {base : Heap}
/-! ### are_stacks, check_stacks, check_heights: valid dicts -/
/-- a dict of stacks by name -/
def SkD (K : PySem.W.Frag) (H : Hp) (d : Addr) (ss : Sk) : Prop := ∃ kvs, H d = some (.dK kvs) ∧ SkH K H kvs ss
theorem SkD.same {H H' : Hp} {d : Addr} {ss : Sk} (h : SkD K H d ss) (s : Same H H') : SkD K H' d ss := by
  obtain ⟨kvs, a, b⟩ := h
  exact ⟨kvs, s _ _ a, skH_same b s⟩
def spAre (K : PySem.W.Frag) : Sp := fun xs H Q _ => ∃ (d : Addr) (ss : Sk) (m b : Nat), xs = [.ref d] ∧ SkD K H d ss ∧ SkOk ss m b ∧ m ≤ 100000 ∧ b ≤ 5000 ∧ ∀ H', Same H H' → Q (.bl true) H'
abbrev nAr : List Str := ["value", "name", "stack"]
theorem scAr : FnScope nAr ["value"] (defScope sAreStacks) := ⟨rfl, rfl, rfl, by decide +kernel, rfl, by decide +kernel, by decide +kernel⟩
theorem has_are (D : Def K mg "are_stacks" sAreStacks) (GI : Has P w K mg base "is_item" 1 ["value"] [] spIsItem) (GW : Has P w K mg base "is_word" 2 ["value"] [] (spIsWord K)) (B : Blt mg) (md : mg "dict" = none) : Has P w K mg base "are_stacks" 3 ["value"] [] (spAre K) := by
  refine has_of D scAr (fun _ _ _ _ _ _ us hl => match us, hl with | [_], _ => rfl) (fun xs H Q E h => ?_) (fun f cv A out s H xs Q E hr h => ?_)
  · obtain ⟨d, ss, m, b, rfl, _⟩ := h
    rfl
  · obtain ⟨d, ss, m, b, rfl, ⟨kvs, hd, hS⟩, ok, hm, hb, k⟩ := h
    have hr1 : Room 1 _ := hr.mono (by decide)
    refine ⟨_, pss_cons (ps_if (pt_not (pt_val (pe_callB call_isi (by rfl) B.isi (by decide +kernel) (pa_cons (pv 0) (pa_cons (pe_bltn (v := .ty "dict") (by rfl) md (by decide +kernel) rfl) pa_nil))))) (pss_one (ps_ret pe_bl)) pss_nil)
      (pss_one (ps_ret (pe_callB (cr_all rfl) (by rfl) B.all (by decide +kernel) (pa_cons
        (pe_lock (pe_lc (own := [("name", 1), ("stack", 2)]) (g := gTup K 2 (gCons (gName 1) (gCons (gName 2) gNil))) (tt := tYes) (te := tAndV (tCall spIsItem [] E0 (tCons (tVar 1) tNil)) (tCall (spIsWord K) [] E0 (tCons (tVar 2) tNil))) rfl scAr.nd (pi_items (pv 0)) (blkOk_by (own := [("name", 1), ("stack", 2)]) (N := nAr) (sc := defScope sAreStacks) (by decide +kernel))
          (fun _ _ _ _ _ => pg_tup (by rfl) (pgs_cons (pg_name (i := 1) scAr.nd rfl (.inl rfl)) (pgs_cons (pg_name (i := 2) scAr.nd rfl (.inl rfl)) pgs_nil))) (fun _ _ _ _ _ => pts_nil) (fun _ _ _ _ _ => pe_and (pe_has GI hr1 (pa_cons (pv 1) pa_nil)) (pe_one (pe_has GW hr (pa_cons (pv 2) pa_nil)))))) pa_nil)))), ?_⟩
    refine ⟨_, rfl, _, .ty "dict", .type "dict", .type "dict", true, rfl, .ty _, .base (.dK hd), kit_ty (by decide +kernel), true, rfl, iteF ?_⟩
    refine ⟨d, .dK kvs, hd, mutK, fun od => ?_⟩
    have hF : upd H d (.frz od (.dK kvs)) d = some (.frz od (.dK kvs)) := upd_same
    have sF : SkH K (upd H d (.frz od (.dK kvs))) kvs ss := skH_upd (.dK hd) hS
    generalize eF : upd H d (.frz od (.dK kvs)) = HF at hF sF
    refine ⟨_, rfl, d, od, kvs, rfl, hF, fun DD hDD => lc_it walk_items (fun j H2 => H2 DD = some (.lst ((List.replicate j true).map V.bl)) ∧ Same HF H2) ⟨upd_same, Same.new hDD⟩ (fun j H2 _ q => q.2 _ _ hF) ?_ ?_⟩
    · rintro j x H2 H3 hj ⟨h2, s2⟩ ⟨T, pk, pv', rfl, nT, rfl, hk, hv⟩
      obtain ⟨kv, hkv⟩ : ∃ kv, kvs[j]? = some kv := ⟨_, List.getElem?_eq_getElem hj⟩
      dsimp only at hk hv
      rw [hkv] at hk hv
      obtain ⟨p, hp, e1, t, e2, hT⟩ := paired_at sF hkv
      have ek : pk = V.str p.1 := by
        have z : some (kV kv.1) = some pk := hk
        rw [e1] at z
        exact (Option.some.inj z).symm
      have ev : pv' = V.ref t := by
        have z : some kv.2 = some pv' := hv
        rw [e2] at z
        exact (Option.some.inj z).symm
      subst ek ev
      obtain ⟨q1, q2, q3⟩ := ok.ok p (List.mem_of_getElem? hp)
      have sT : Same H2 (upd H2 T (.tup [.str p.1, .ref t])) := Same.new nT
      refine ⟨T, _, rfl, .of upd_same, rfl, _, _, rfl, _, _, rfl, rfl, rfl, yes_in ⟨_, rfl, p.1, rfl, q1, fun H4 s4 => ⟨true, rfl, iteT ?_⟩⟩⟩
      refine ⟨_, rfl, t, p.2, rfl, Same.tup (s2.trans (sT.trans s4)) hT, by omega, q2, fun H5 s5 => ?_⟩
      have s25 := (sT.trans s4).trans s5
      refine ⟨_, s25 _ _ h2, ?_, by rw [upd_same, bl_snoc], Same.free2 (s2.trans s25) hDD⟩
      have jl := (List.getElem?_eq_some_iff.mp hp).1
      have := ok.len
      rw [List.length_map, List.length_replicate, sizeLine_eq]
      omega
    · rintro H2 ⟨h2, s2⟩
      have hF2 := s2 _ _ hF
      have dD : DD ≠ d := fun q => by rw [q, hF2] at h2; cases h2
      refine ⟨hF2, DD, _, rfl, .of (by rw [upd_ne dD]; exact h2), ?_⟩
      rw [all_true]
      exact k _ (Same.back hd eF.symm s2)
def spCkS (K : PySem.W.Frag) : Sp := fun xs H Q _ => ∃ (d : Addr) (ss : Sk) (m b : Nat), xs = [.ref d] ∧ SkD K H d ss ∧ SkOk ss m b ∧ m ≤ 100000 ∧ b ≤ 5000 ∧ ∀ H', Same H H' → Q .non H'
theorem scCkS : FnScope ["stacks"] ["stacks"] (defScope sCheckStacks) := ⟨rfl, rfl, rfl, by decide +kernel, rfl, by decide +kernel, by decide +kernel⟩
theorem has_cks (D : Def K mg "check_stacks" sCheckStacks) (G : Has P w K mg base "are_stacks" 3 ["value"] [] (spAre K)) : Has P w K mg base "check_stacks" 4 ["stacks"] [] (spCkS K) := by
  refine has_of D scCkS (fun _ _ _ _ _ _ us hl => match us, hl with | [_], _ => rfl) (fun xs H Q E h => ?_) (fun f cv A out s H xs Q E hr h => ?_)
  · obtain ⟨d, ss, m, b, rfl, _⟩ := h
    rfl
  · obtain ⟨d, ss, m, b, rfl, h1, h2, h3, h4, k⟩ := h
    refine ⟨_, pss_one (ps_if (pt_not (pt_val (pe_has G hr (pa_cons (pv 0) pa_nil)))) pss_never pss_nil), ?_⟩
    exact ⟨_, rfl, d, ss, m, b, rfl, h1, h2, h3, h4, fun H' s' => ⟨true, rfl, iteF (k _ s')⟩⟩
end
end SE
/-! == and != of two dicts (locked) whose values are compared by whatever ==, where all are equal. -/
namespace SE
open PySem PySem.Spec PyProof.Rows PyProof.V PySem.Calls L2
section
variable {prog : Program} {w : World} {κ : Type} [DecidableEq κ] {knd : KeyKind prog w κ} {A : Around} {E : Value → Shared → Prop}
open PySem.W
theorem find_toList (q : κ → Value → Bool) (k : κ) (es : Array DictEntry) : findBy q es k = (es.toList.find? fun e => q k e.key).map (·.val) := by
  obtain ⟨l⟩ := es
  simp [findBy]
theorem samePairsG {nm : String} {a b : Addr} {oa ob : Obj} {n : Nat} {Q : Bool → Shared → Prop} (ha : (a == sysModules) = false) (hb : (b == sysModules) = false) (I : Nat → Shared → Prop)
    (hI : ∀ i s, I i s → s.heap.get? a = some oa ∧ s.heap.get? b = some ob ∧ ∃ ka kb : List (κ × Value), s.heap.DictOf knd a ka ∧ s.heap.DictOf knd b kb ∧ ka.length = n ∧ kb.length = n ∧
      ∀ k v, ka[i]? = some (k, v) → ∃ y, valueAt kb k = some y ∧ wpAny (model prog w) A (eqBool v y) (fun r s' => r = true ∧ I (i + 1) s') E s)
    (fin : ∀ s, I n s → Q true s) {s : Shared} (h : I 0 s) : wpAny (model prog w) A (Builtin.Dict.samePairs nm a b) Q E s := by
  obtain ⟨ga, gb, ka, kb, da, db, la, lb, _⟩ := hI _ _ h
  obtain ⟨oa', es, ep, hoa, ca, hda, hka, hpa, _⟩ := id da
  obtain ⟨ob', es', ep', hob, cb, hdb, hkb, hpb, _⟩ := id db
  rw [ga] at hoa
  rw [gb] at hob
  obtain rfl := Option.some.inj hoa
  obtain rfl := Option.some.inj hob
  have hla : ka.length = es.size := by rw [← hpa.length]; exact Array.length_toList
  have hlb : kb.length = es'.size := by rw [← hpb.length]; exact Array.length_toList
  have hsz : es.size = es'.size := by omega
  unfold Builtin.Dict.samePairs Builtin.Dict.showsAll
  rw [if_neg (show ¬ (a == sysModules) = true by rw [ha]; exact Bool.false_ne_true), if_neg (show ¬ (b == sysModules) = true by rw [hb]; exact Bool.false_ne_true)]
  refine wpAny_bind (wpAny_pure (wpAny_bind (wpAny_pure ?_)))
  refine wpAny_bind (wpAny_dictEntries ga hda ?_)
  dsimp only
  refine wpAny_bind (wpAny_dictEntries gb hdb ?_)
  rw [if_neg (by rw [hsz]; simp)]
  refine wpAny_bind (wpAny_dictEpoch ga hda ?_)
  refine wpAny_bind ?_
  rw [Std.Legacy.Range.forIn_eq_forIn_range']
  simp only [Std.Legacy.Range.size, Nat.sub_zero, Nat.add_sub_cancel, Nat.div_one]
  refine wpAny_forIn_list _
    (fun rest q s' => q = (none, ()) ∧ ∃ i, rest = List.range' i (es.size - i) ∧ i ≤ es.size ∧ I i s')
    _ ?_ ?_ _ _ ⟨rfl, 0, by simp, Nat.zero_le _, h⟩
  · rintro x rest q s' ⟨rfl, i, hr, hi, hpre⟩
    have hlt : i < es.size := by
      rcases Nat.lt_or_ge i es.size with h | h
      · exact h
      · rw [Nat.sub_eq_zero_of_le h] at hr; simp at hr
    obtain ⟨rfl, hrest⟩ : x = i ∧ rest = List.range' (i + 1) (es.size - (i + 1)) := by
      have e : es.size - i = (es.size - (i + 1)) + 1 := by omega
      rw [e, List.range'_succ] at hr
      injection hr with h1 h2
      exact ⟨h1, h2⟩
    obtain ⟨ga, gb, ka, kb, da, db, la, lb, turn⟩ := hI _ _ hpre
    obtain ⟨oa', es1, ep1, hoa, _, hda1, hka, hpa, _⟩ := id da
    obtain ⟨ob', es1', ep1', hob, _, hdb1, hkb, hpb, _⟩ := id db
    rw [ga] at hoa
    rw [gb] at hob
    obtain rfl := Option.some.inj hoa
    obtain rfl := Option.some.inj hob
    rw [hda] at hda1
    rw [hdb] at hdb1
    injection hda1 with e1 e2
    injection hdb1 with e3 e4
    subst e1 e2 e3 e4
    have hla : ka.length = es.size := by rw [← hpa.length]; exact Array.length_toList
    have hfind : ∀ k, findBy knd.is es' k = valueAt kb k := fun k => by
      rw [← hpb.find k]
      exact find_toList knd.is k es'
    refine wpAny_bind (wpAny_dictEntries ga hda ?_)
    rw [Array.getElem?_eq_getElem hlt]
    have hlt' : x < ka.length := by rw [hla]; exact hlt
    obtain ⟨k, v, hkv⟩ : ∃ k v, ka[x] = (k, v) := ⟨_, _, rfl⟩
    obtain ⟨hkey, hval⟩ := hpa.get? (i := x) (e := es[x]) (k := k) (v := v) (by rw [Array.getElem?_toList]; exact Array.getElem?_eq_getElem hlt) (by rw [List.getElem?_eq_getElem hlt', hkv])
    obtain ⟨k', hk', hh⟩ := hka es[x] (Array.getElem_mem hlt)
    have ekk : k' = k := knd.inj _ _ _ hk' hkey
    rw [ekk] at hh
    obtain ⟨y, hy, run⟩ := turn k v (by rw [List.getElem?_eq_getElem hlt', hkv])
    show wpAny _ _ (holding [es[x].key, es[x].val] _ >>= _) _ _ _
    rw [hh]
    refine wpAny_bind (wpAny_holding (wpAny_bind (wpAny_dictFind_of hkey gb hdb hkb ?_)))
    cases hj : es'.findIdx? fun e => knd.is k e.key with
    | none =>
      have hn : valueAt kb k = none := by rw [← hfind k, findBy_of_findIdx?, hj]
      rw [hn] at hy
      exact nomatch hy
    | some j =>
      obtain ⟨hjlt, _, _⟩ := Array.findIdx?_eq_some_iff_getElem.mp hj
      have hv' : valueAt kb k = some es'[j].val := by
        rw [← hfind k, findBy_of_findIdx?, hj]
        simp [Array.getElem?_eq_getElem hjlt]
      refine wpAny_bind (wpAny_dictEntries gb hdb ?_)
      rw [Array.getElem?_eq_getElem hjlt]
      have ey : es'[j].val = y := Option.some.inj (hv'.symm.trans hy)
      rw [← ey, ← hval] at run
      refine wpAny_holding (wpAny_mono run (fun r s2 z => ?_) fun _ _ z => z)
      obtain ⟨rfl, I2⟩ := z
      show wpAny _ _ (if (!true) = true then _ else _) _ _ _
      rw [if_neg (by decide)]
      have ga2 := (hI _ _ I2).1
      refine wpAny_bind (wpAny_dictEpoch ga2 hda ?_)
      rw [if_neg (by simp)]
      exact wpAny_pure ⟨rfl, x + 1, hrest, hlt, I2⟩
  · rintro q s' ⟨rfl, i, hr, hi, hpre⟩
    have hin : i = es.size := by
      rcases Nat.lt_or_ge i es.size with h | h
      · have e : es.size - i = (es.size - (i + 1)) + 1 := by omega
        rw [e, List.range'_succ] at hr; exact nomatch hr
      · exact Nat.le_antisymm hi h
    refine wpAny_pure (fin _ ?_)
    rw [← la, hla, ← hin]
    exact hpre
theorem eq_dictG {a b : Addr} {oa ob : Obj} {n : Nat} {Q : Value → Shared → Prop} (ha : (a == sysModules) = false) (hb : (b == sysModules) = false) (hu : A.units < cLine) (I : Nat → Shared → Prop)
    (hI : ∀ i s, I i s → s.heap.get? a = some oa ∧ s.heap.get? b = some ob ∧ ∃ ka kb : List (κ × Value), s.heap.DictOf knd a ka ∧ s.heap.DictOf knd b kb ∧ ka.length = n ∧ kb.length = n ∧
      ∀ k v, ka[i]? = some (k, v) → ∃ y, valueAt kb k = some y ∧ wpAny (model prog w) A.in1 (eqBool v y) (fun r s' => r = true ∧ I (i + 1) s') E s)
    (fin : ∀ s, I n s → Q (.bool true) s) {s : Shared} (h : I 0 s) : wpAny (model prog w) A (richCompare .Eq (.ref a) (.ref b)) Q E s := by
  obtain ⟨ga, gb, ka, kb, da, db, la, lb, _⟩ := hI _ _ h
  refine wpAny_richCompare_same_room (op := .Eq) da.typeIs db.typeIs PySem.F.slot_dict_eq (wpAny_call_entry PySem.F.slot_dict_eq da.typeIs PySem.F.entry_dict_eq ?_ (PySem.F.args_dict_eq_2 _ _)) hu
  show wpAny _ _ (Builtin.Dict.dictSlotArgs "__eq__" ⟨[.ref a, .ref b], []⟩ >>= _) _ _ s
  refine wpAny_bind ?_
  unfold Builtin.Dict.dictSlotArgs
  refine wpAny_bind (wpAny_notOrdered_dict da.typeIs ?_)
  show wpAny _ _ (pure (Value.ref a, Value.ref b)) _ _ s
  refine wpAny_pure ?_
  refine wpAny_bind (wpAny_isInstance (T := "dict") db.typeIs PySem.F.sub_dict_dict ?_)
  simp only [Bool.not_true, Bool.false_eq_true, if_false]
  refine wpAny_bind (wpAny_pure (wpAny_bind (wpAny_pure ?_)))
  refine wpAny_bind (samePairsG ha hb I hI (fun s' q => ?_) h)
  refine wpAny_pure ⟨_, rfl, ?_, ?_⟩
  · exact fun x => nomatch x
  · simpa using fin s' q
theorem ne_dictG {a b : Addr} {oa ob : Obj} {n : Nat} {Q : Value → Shared → Prop} (ha : (a == sysModules) = false) (hb : (b == sysModules) = false) (hu : A.units < cLine) (I : Nat → Shared → Prop)
    (hI : ∀ i s, I i s → s.heap.get? a = some oa ∧ s.heap.get? b = some ob ∧ ∃ ka kb : List (κ × Value), s.heap.DictOf knd a ka ∧ s.heap.DictOf knd b kb ∧ ka.length = n ∧ kb.length = n ∧
      ∀ k v, ka[i]? = some (k, v) → ∃ y, valueAt kb k = some y ∧ wpAny (model prog w) A.in1 (eqBool v y) (fun r s' => r = true ∧ I (i + 1) s') E s)
    (fin : ∀ s, I n s → Q (.bool false) s) {s : Shared} (h : I 0 s) : wpAny (model prog w) A (richCompare .NotEq (.ref a) (.ref b)) Q E s := by
  obtain ⟨ga, gb, ka, kb, da, db, la, lb, _⟩ := hI _ _ h
  refine wpAny_richCompare_same_room (op := .NotEq) da.typeIs db.typeIs PySem.F.slot_dict_ne (wpAny_call_entry PySem.F.slot_dict_ne da.typeIs PySem.F.entry_dict_ne ?_ (PySem.F.args_dict_ne_2 _ _)) hu
  show wpAny _ _ (Builtin.Dict.dictSlotArgs "__ne__" ⟨[.ref a, .ref b], []⟩ >>= _) _ _ s
  refine wpAny_bind ?_
  unfold Builtin.Dict.dictSlotArgs
  refine wpAny_bind (wpAny_notOrdered_dict da.typeIs ?_)
  show wpAny _ _ (pure (Value.ref a, Value.ref b)) _ _ s
  refine wpAny_pure ?_
  refine wpAny_bind (wpAny_isInstance (T := "dict") db.typeIs PySem.F.sub_dict_dict ?_)
  simp only [Bool.not_true, Bool.false_eq_true, if_false]
  refine wpAny_bind (wpAny_pure (wpAny_bind (wpAny_pure ?_)))
  refine wpAny_bind (samePairsG ha hb I hI (fun s' q => ?_) h)
  refine wpAny_pure ⟨_, rfl, ?_, ?_⟩
  · exact fun x => nomatch x
  · simpa using fin s' q
end
/-! ### by the abstract heap -/
theorem paired_get {α β : Type} {R : α → β → Prop} : ∀ {xs : List α} {ys : List β}, Paired R xs ys → ∀ {i : Nat} {x : α}, xs[i]? = some x → ∃ y, ys[i]? = some y ∧ R x y
  | _, _, .nil, i, x, h => by simp at h
  | _, _, .cons (a := a) (b := b) r t, i, x, h => by
    cases i with
    | zero =>
      simp at h
      subst h
      exact ⟨b, rfl, r⟩
    | succ i =>
      simp at h
      obtain ⟨y, h1, h2⟩ := paired_get t h
      exact ⟨y, by simpa using h1, h2⟩
def DDict (D : Eqv) : Eqv := fun x y H => ∃ a b oa ob ks ls, x = .ref a ∧ y = .ref b ∧ H a = some (.frz oa (.dK ks)) ∧ H b = some (.frz ob (.dK ls)) ∧ ks.length = ls.length ∧ ∀ p ∈ ks, ∃ y, valV ls p.1 = some y ∧ D p.2 y H
theorem mon_dict {D : Eqv} (hD : Mon D) : Mon (DDict D) := fun x y H H' e d => by
  obtain ⟨a, b, oa, ob, ks, ls, hx, hy, h1, h2, hl, p⟩ := d
  exact ⟨a, b, oa, ob, ks, ls, hx, hy, e _ _ h1, e _ _ h2, hl, fun q m => let ⟨y, h3, h4⟩ := p q m; ⟨y, h3, hD _ _ _ _ e h4⟩⟩
section
variable {X : Cx} {n : Nat} {D : Eqv}
theorem dict_turn (hD : Mon D) (h : EqG X n D) {A : Around} (sb : Sub X (n + 1) A) {pins : List (Addr × Obj)} {σ : L2.St} {H : Hp} {a b : Addr} {oa ob : Obj} {ks ls : List (Key × V)} (h1 : H a = some (.frz oa (.dK ks))) (h2 : H b = some (.frz ob (.dK ls))) (hl : ks.length = ls.length)
    (p : ∀ q ∈ ks, ∃ y, valV ls q.1 = some y ∧ D q.2 y H) (i : Nat) (s' : Shared) (l : LoopI X pins σ H s') :
    s'.heap.get? a = some oa ∧ s'.heap.get? b = some ob ∧ ∃ ka kb : List (Key × Value), s'.heap.DictOf (mixKind X.prog X.w) a ka ∧ s'.heap.DictOf (mixKind X.prog X.w) b kb ∧ ka.length = ks.length ∧ kb.length = ks.length ∧
      ∀ k v, ka[i]? = some (k, v) → ∃ y, valueAt kb k = some y ∧ wpAny (model X.prog X.w) A.in1 (eqBool v y) (fun r s2 => r = true ∧ LoopI X pins σ H s2) X.xe s' := by
  obtain ⟨H1, I1, e1⟩ := l
  obtain ⟨g1, z1, y1, va, ra, da⟩ := (show ObjOk X.prog X.w H1 s'.heap a (.frz oa (.dK ks)) from I1.hok a _ (e1 _ _ h1))
  obtain ⟨g2, z2, y2, vb, rb, db⟩ := (show ObjOk X.prog X.w H1 s'.heap b (.frz ob (.dK ls)) from I1.hok b _ (e1 _ _ h2))
  refine ⟨g1, g2, va, vb, da, db, ra.length.symm, by rw [← rb.length, hl], fun k v e => ?_⟩
  have li : i < ks.length := by
    rw [ra.length]
    exact (List.getElem?_eq_some_iff.mp e).1
  obtain ⟨q, hq, rq⟩ : ∃ q, ks[i]? = some q ∧ (q.1 = k ∧ RelV q.2 v) := by
    obtain ⟨q', hq', r'⟩ := paired_get ra (List.getElem?_eq_getElem li)
    rw [e] at hq'
    cases hq'
    exact ⟨_, List.getElem?_eq_getElem li, r'⟩
  obtain ⟨rfl, rv⟩ := rq
  obtain ⟨y, hy, d⟩ := p q (List.mem_of_getElem? hq)
  have ro := rb.val q.1
  rw [hy] at ro
  cases hv : valueAt vb q.1 with
  | none =>
    rw [hv] at ro
    exact ro.elim
  | some y' =>
    rw [hv] at ro
    refine ⟨y', rfl, wpAny_mono (h A.in1 pins s' σ H1 _ _ _ _ sb.in1 I1 rv ro (hD _ _ _ _ e1 d)) (fun r s2 z => ?_) fun _ _ z => z⟩
    obtain ⟨hr, H2, I2, e2⟩ := z
    exact ⟨hr, H2, I2, e1.trans e2⟩
theorem dict_sys {pins : List (Addr × Obj)} {σ : L2.St} {H : Hp} {s : Shared} {a : Addr} {oa : Obj} {ks : List (Key × V)} (I : Inv X pins σ H s) (h1 : H a = some (.frz oa (.dK ks))) : (a == sysModules) = false :=
  (show ObjOk X.prog X.w H s.heap a (.frz oa (.dK ks)) from I.hok a _ h1).2.2.1
theorem rcG_dict (hD : Mon D) (h : EqG X n D) : RcG X (n + 1) (DDict D) := by
  intro A pins s σ H x y u v sb I rx ry d
  obtain ⟨a, b, oa, ob, ks, ls, rfl, rfl, ha, hb, hl, p⟩ := d
  cases rx
  cases ry
  exact eq_dictG (knd := mixKind X.prog X.w) (dict_sys I ha) (dict_sys I hb) sb.room.units0 (fun _ s' => LoopI X pins σ H s') (fun i s' q => dict_turn hD h sb ha hb hl p i s' q) (fun s' q => ⟨rfl, q⟩) ⟨H, I, Ext.rfl'⟩
theorem eqG_dict (hD : Mon D) (h : EqG X n D) : EqG X (n + 1) (DDict D) := (rcG_dict hD h).eqG fun _ _ _ d => let ⟨a, b, _, _, _, _, hx, hy, _⟩ := d; ⟨a, b, hx, hy⟩
/-- x != y, where they are equal -/
def rNeG (D : Eqv) : R2 := fun x y H Q => D x y H ∧ ∀ H', Ext H H' → Q (.bl false) H'
theorem op_neDict (hD : Mon D) (h : EqG X n D) (hr : Room (n + 1) X.A) : OpR X (compareOp .NotEq) (rNeG (DDict D)) := by
  intro pins s σ H x y v u Q I rx ry hq
  obtain ⟨⟨a, b, oa, ob, ks, ls, rfl, rfl, ha, hb, hl, p⟩, q⟩ := hq
  cases rx
  cases ry
  show wpAny (model X.prog X.w) X.A (richCompare .NotEq (.ref a) (.ref b)) (EP X pins σ Q) X.xe s
  refine ne_dictG (knd := mixKind X.prog X.w) (dict_sys I ha) (dict_sys I hb) hr.units0 (fun _ s' => LoopI X pins σ H s') (fun i s' z => dict_turn hD h ⟨hr, rfl⟩ ha hb hl p i s' z) (fun s' z => ?_) ⟨H, I, Ext.rfl'⟩
  obtain ⟨H', I', e⟩ := z
  exact ⟨.bl false, H', I', rfl, q H' e⟩
end
end SE
namespace SE
open PySem PySem.Spec PyProof.Rows L2
/-! ### the mathematics of interleaved steps -/
/-- what one step does to the stacks -/
def perfS (l : Lim) : List NSt → Sk → Option Sk
  | [], ss => some ss
  | s :: r, ss => match stepL l (s.1, s.2.2) (getS ss s.2.1) with
    | none => none
    | some st => perfS l r (putS ss s.2.1 st)
theorem find_put {n n' : Str} {st : List Str} : ∀ {ss : Sk}, ((ss.map fun p => if p.1 = n then (p.1, st) else p).find? (hasS n')).map (·.2) = if n' = n ∧ ss.any (hasS n) = true then some st else (ss.find? (hasS n')).map (·.2)
  | [] => by simp
  | p :: r => by
    have ih := find_put (n := n) (n' := n') (st := st) (ss := r)
    rw [List.map_cons, List.find?_cons, List.find?_cons, List.any_cons]
    by_cases c : p.1 = n
    · rw [if_pos c]
      by_cases d : n' = n
      · subst d
        have h1 : hasS n' (p.1, st) = true := decide_eq_true c
        have h2 : hasS n' p = true := decide_eq_true c
        rw [h1, h2]
        simp
      · have h1 : hasS n' (p.1, st) = false := decide_eq_false (fun q => d (by rw [← c, q]))
        have h2 : hasS n' p = false := decide_eq_false (fun q => d (by rw [← c, q]))
        rw [h1, h2]
        dsimp only
        rw [ih, if_neg (fun q => d q.1), if_neg (fun q => d q.1)]
    · rw [if_neg c]
      have h2 : hasS n p = false := decide_eq_false c
      rw [h2, Bool.false_or]
      cases e : hasS n' p with
      | true =>
        dsimp only
        rw [if_neg]
        rintro ⟨q, _⟩
        exact c (by rw [← q]; exact of_decide_eq_true e)
      | false =>
        dsimp only
        exact ih
theorem getS_put (ss : Sk) (n n' : Str) (st : List Str) : getS (putS ss n st) n' = if n' = n then st else getS ss n' := by
  unfold getS putS
  by_cases c : ss.any (hasS n) = true
  · rw [if_pos c, find_put]
    by_cases d : n' = n
    · rw [if_pos ⟨d, c⟩, if_pos d]
      rfl
    · rw [if_neg (fun q => d q.1), if_neg d]
  · rw [if_neg c, List.find?_append]
    by_cases d : n' = n
    · subst d
      have z : ss.find? (hasS n') = none := by
        rw [List.find?_eq_none]
        intro p mp q
        exact c (List.any_eq_true.mpr ⟨p, mp, q⟩)
      rw [z, if_pos rfl]
      have h1 : hasS n' (n', st) = true := decide_eq_true rfl
      simp [List.find?_cons, h1]
    · rw [if_neg d]
      have h1 : hasS n' (n, st) = false := decide_eq_false (fun q => d q.symm)
      simp [List.find?_cons, h1]
theorem getS_clean {ss : Sk} (nd : (ss.map (·.1)).Nodup) (n : Str) : getS (cleanS ss) n = getS ss n := by
  induction ss with
  | nil => rfl
  | cons p r ih =>
    rw [List.map_cons, List.nodup_cons] at nd
    have ih := ih nd.2
    unfold getS cleanS at ih ⊢
    rw [List.filter_cons]
    cases e : hasS n p with
    | true =>
      by_cases c : p.2 = []
      · rw [if_neg (by simp [c]), List.find?_cons, e]
        have z : r.find? (hasS n) = none := by
          rw [List.find?_eq_none]
          intro q mq z
          exact nd.1 (List.mem_map.mpr ⟨q, mq, by rw [of_decide_eq_true z, of_decide_eq_true e]⟩)
        rw [z] at ih
        rw [ih]
        show [] = p.2
        rw [c]
      · rw [if_pos (by simp [c]), List.find?_cons, List.find?_cons, e]
    | false =>
      rw [List.find?_cons (a := p) (as := r), e]
      split
      · rw [List.find?_cons, e]
        exact ih
      · exact ih
theorem putS_nd {ss : Sk} {n : Str} {st : List Str} (nd : (ss.map (·.1)).Nodup) : ((putS ss n st).map (·.1)).Nodup := by
  rw [putS_fst]
  split
  · exact nd
  · rename_i q
    rw [List.nodup_append]
    refine ⟨nd, by simp, fun x mx y my e => q ?_⟩
    rw [List.mem_singleton.mp my] at e
    obtain ⟨p, mp, ep⟩ := List.mem_map.mp mx
    exact List.any_eq_true.mpr ⟨p, mp, decide_eq_true (by rw [ep, e])⟩

/-- the steps of one name -/
def ofN (ns : List NSt) (n : Str) : List Stp := (ns.filter fun s => decide (s.2.1 = n)).map fun s => (s.1, s.2.2)
theorem ofN_cons (s : NSt) (r : List NSt) (n : Str) : ofN (s :: r) n = if s.2.1 = n then (s.1, s.2.2) :: ofN r n else ofN r n := by
  unfold ofN
  by_cases c : s.2.1 = n
  · rw [List.filter_cons_of_pos (by simpa using c), if_pos c]; rfl
  · rw [List.filter_cons_of_neg (by simpa using c), if_neg c]
theorem ofN_app (a b : List NSt) (n : Str) : ofN (a ++ b) n = ofN a n ++ ofN b n := by
  unfold ofN
  rw [List.filter_append, List.map_append]
theorem ofN_snoc (a : List NSt) (s : NSt) (n : Str) : ofN (a ++ [s]) n = if s.2.1 = n then ofN a n ++ [(s.1, s.2.2)] else ofN a n := by
  rw [ofN_app, ofN_cons]
  by_cases c : s.2.1 = n
  · rw [if_pos c, if_pos c]; rfl
  · rw [if_neg c, if_neg c]
    show ofN a n ++ [] = _
    rw [List.append_nil]
def lookP : Prts → Str → List Stp
  | [], _ => []
  | p :: r, n => if p.1 = n then p.2 else lookP r n
theorem look_map (m n : Str) (s : Stp) : ∀ ps : Prts, lookP (ps.map (fun p => if p.1 = m then (p.1, p.2 ++ [s]) else p)) n = if m = n ∧ ps.any (fun p => decide (p.1 = m)) = true then lookP ps n ++ [s] else lookP ps n
  | [] => by simp [lookP]
  | p :: r => by
    rw [List.map_cons]
    show (if (if p.1 = m then (p.1, p.2 ++ [s]) else p).1 = n then _ else lookP (r.map _) n) = _
    rw [look_map m n s r]
    by_cases c : p.1 = m
    · by_cases d : m = n
      · subst d
        simp [c, lookP]
      · have e : ¬ p.1 = n := fun q => d (c.symm.trans q)
        simp [c, d, lookP, e]
    · by_cases d : p.1 = n
      · have e : ¬ m = n := fun q => c (d.trans q.symm)
        rw [if_neg c, if_pos d, if_neg (fun q => e q.1)]
        show p.2 = if p.1 = n then p.2 else lookP r n
        rw [if_pos d]
      · rw [if_neg c, if_neg d, List.any_cons, decide_eq_false c, Bool.false_or]
        have z : lookP (p :: r) n = lookP r n := if_neg d
        rw [z]
theorem look_no (n : Str) : ∀ ps : Prts, ¬ ps.any (fun p => decide (p.1 = n)) = true → lookP ps n = []
  | [], _ => rfl
  | p :: r, h => by
    rw [List.any_cons, Bool.or_eq_true, not_or] at h
    show (if p.1 = n then p.2 else lookP r n) = []
    rw [if_neg (fun q => h.1 (decide_eq_true q)), look_no n r h.2]
theorem look_app (n m : Str) (l : List Stp) : ∀ ps : Prts, lookP (ps ++ [(m, l)]) n = if ps.any (fun p => decide (p.1 = n)) = true then lookP ps n else if m = n then l else []
  | [] => by simp [lookP]
  | p :: r => by
    show (if p.1 = n then p.2 else lookP (r ++ [(m, l)]) n) = _
    rw [look_app n m l r, List.any_cons]
    by_cases c : p.1 = n
    · simp [c, lookP]
    · rw [if_neg c, decide_eq_false c, Bool.false_or]
      have z : lookP (p :: r) n = lookP r n := if_neg c
      rw [z]
theorem look_add (ps : Prts) (m n : Str) (s : Stp) : lookP (addP ps m s) n = if m = n then lookP ps n ++ [s] else lookP ps n := by
  unfold addP
  by_cases c : ps.any (fun p => decide (p.1 = m)) = true
  · rw [if_pos c, look_map]
    by_cases d : m = n
    · rw [if_pos ⟨d, c⟩, if_pos d]
    · rw [if_neg (fun q => d q.1), if_neg d]
  · rw [if_neg c, look_app]
    by_cases d : m = n
    · subst d
      rw [if_neg c, if_pos rfl, if_pos rfl, look_no _ _ c]
      rfl
    · rw [if_neg d, if_neg d]
      split
      · rfl
      · rename_i q
        rw [look_no _ _ q]
theorem snoc_ind {α : Type} {F : List α → Prop} (h0 : F []) (hs : ∀ l x, F l → F (l ++ [x])) (l : List α) : F l := by
  have e : ∀ r : List α, F r.reverse := by
    intro r
    induction r with
    | nil => exact h0
    | cons x r ih =>
      rw [List.reverse_cons]
      exact hs _ _ ih
  have := e l.reverse
  rwa [List.reverse_reverse] at this
theorem prt_look (ns : List NSt) (n : Str) : lookP (prtM ns) n = ofN ns n := by
  induction ns using snoc_ind with
  | h0 => rfl
  | hs l x ih => rw [prtM_snoc, look_add, ofN_snoc, ih]
theorem prt_ne (ns : List NSt) : ∀ p ∈ prtM ns, p.2 ≠ [] := by
  induction ns using snoc_ind with
  | h0 => intro p m; cases m
  | hs l x ih =>
    intro p m
    rw [prtM_snoc] at m
    unfold addP at m
    split at m
    · obtain ⟨q, mq, rfl⟩ := List.mem_map.mp m
      split
      · simp
      · exact ih q mq
    · rcases List.mem_append.mp m with z | z
      · exact ih p z
      · rw [List.mem_singleton.mp z]
        simp
theorem prt_nd (ns : List NSt) : ((prtM ns).map (·.1)).Nodup := by
  induction ns using snoc_ind with
  | h0 => exact List.nodup_nil
  | hs l x ih =>
    rw [prtM_snoc, addP_fst]
    split
    · exact ih
    · rename_i c
      rw [List.nodup_append]
      refine ⟨ih, by simp, fun y my z mz e => c ?_⟩
      rw [List.mem_singleton.mp mz] at e
      obtain ⟨p, mp, ep⟩ := List.mem_map.mp my
      exact List.any_eq_true.mpr ⟨p, mp, decide_eq_true (by rw [ep, e])⟩
theorem look_at : ∀ {ps : Prts} {p : Str × List Stp}, (ps.map (·.1)).Nodup → p ∈ ps → lookP ps p.1 = p.2
  | q :: r, p, nd, m => by
    rw [List.map_cons, List.nodup_cons] at nd
    show (if q.1 = p.1 then q.2 else lookP r p.1) = _
    rcases List.mem_cons.mp m with e | m
    · rw [e, if_pos rfl]
    · rw [if_neg (fun e => nd.1 (List.mem_map.mpr ⟨p, m, e.symm⟩)), look_at nd.2 m]
theorem look_mem : ∀ {ps : Prts} {n : Str}, lookP ps n ≠ [] → (n, lookP ps n) ∈ ps
  | [], n, h => absurd rfl h
  | q :: r, n, h => by
    unfold lookP at h ⊢
    split
    · rename_i c
      rw [← c]
      exact List.mem_cons_self
    · rename_i c
      rw [if_neg c] at h
      exact List.mem_cons_of_mem _ (look_mem h)
theorem prt_mem (ns : List NSt) (p : Str × List Stp) : p ∈ prtM ns ↔ p.2 = ofN ns p.1 ∧ p.2 ≠ [] := by
  constructor
  · intro m
    exact ⟨by rw [← prt_look, look_at (prt_nd ns) m], prt_ne ns p m⟩
  · rintro ⟨e, h⟩
    have z : lookP (prtM ns) p.1 ≠ [] := by rw [prt_look, ← e]; exact h
    have y := look_mem z
    rw [prt_look, ← e] at y
    exact y
theorem nd_of_fst {α β : Type} {l : List (α × β)} (h : (l.map (·.1)).Nodup) : l.Nodup := by
  induction l with
  | nil => exact List.nodup_nil
  | cons x r ih =>
    rw [List.map_cons, List.nodup_cons] at h
    exact List.nodup_cons.mpr ⟨fun m => h.1 (List.mem_map.mpr ⟨x, m, rfl⟩), ih h.2⟩
/-! ### performing -/
theorem stepL_none (s : Stp) (zs : List Str) : stepL none s zs = stepM s zs := by
  unfold stepL
  rw [if_neg]
  show ¬ ((s.1 && false) = true)
  rw [Bool.and_false]
  exact Bool.false_ne_true
theorem goL_none : ∀ (ss : List Stp) (i : Nat) (zs : List Str), (∀ ws, runM ss zs = some ws → goL none i ss zs = (none, ws)) ∧ (runM ss zs = none → ∃ j ws, goL none i ss zs = (some j, ws))
  | [], i, zs => ⟨fun ws e => by cases e; rfl, fun e => by cases e⟩
  | s :: ss, i, zs => by
    unfold goL runM
    rw [stepL_none]
    cases stepM s zs with
    | none => exact ⟨fun ws e => (by cases e), fun _ => ⟨i, zs, rfl⟩⟩
    | some ws => exact goL_none ss (i + 1) ws
theorem follow_none (ss : List Stp) (zs : List Str) : (∀ ws, runM ss zs = some ws → followL none ss zs = (none, ws)) ∧ (runM ss zs = none → ∃ j ws, followL none ss zs = (some j, ws)) := by
  have e : followL none ss zs = ((goL none 0 ss zs).1.map fun (i : Nat) => (i : Int), (goL none 0 ss zs).2) := by
    unfold followL
    rw [if_neg (by show ¬ (false = true); exact Bool.false_ne_true)]
  rw [e]
  obtain ⟨h1, h2⟩ := goL_none ss 0 zs
  refine ⟨fun ws q => by rw [h1 ws q]; rfl, fun q => ?_⟩
  obtain ⟨j, ws, z⟩ := h2 q
  rw [z]
  exact ⟨j, ws, rfl⟩
theorem perf_get : ∀ (ns : List NSt) (ss ss2 : Sk), perfS none ns ss = some ss2 → ∀ n, runM (ofN ns n) (getS ss n) = some (getS ss2 n)
  | [], ss, ss2, h, n => by cases h; rfl
  | s :: r, ss, ss2, h, n => by
    unfold perfS at h
    rw [stepL_none] at h
    cases e : stepM (s.1, s.2.2) (getS ss s.2.1) with
    | none => rw [e] at h; cases h
    | some st =>
      rw [e] at h
      have ih := perf_get r _ _ h n
      rw [getS_put] at ih
      rw [ofN_cons]
      by_cases c : s.2.1 = n
      · rw [if_pos c]
        rw [if_pos c.symm] at ih
        unfold runM
        rw [← c, e]
        rw [c]
        exact ih
      · rw [if_neg c]
        rw [if_neg (fun q => c q.symm)] at ih
        exact ih
theorem perf_fail : ∀ (ns : List NSt) (ss : Sk), perfS none ns ss = none → ∃ n, runM (ofN ns n) (getS ss n) = none
  | [], ss, h => by cases h
  | s :: r, ss, h => by
    unfold perfS at h
    rw [stepL_none] at h
    cases e : stepM (s.1, s.2.2) (getS ss s.2.1) with
    | none =>
      refine ⟨s.2.1, ?_⟩
      rw [ofN_cons, if_pos rfl]
      unfold runM
      rw [e]
    | some st =>
      rw [e] at h
      obtain ⟨n, ih⟩ := perf_fail r _ h
      rw [getS_put] at ih
      refine ⟨n, ?_⟩
      rw [ofN_cons]
      by_cases c : s.2.1 = n
      · rw [if_pos c]
        rw [if_pos c.symm] at ih
        unfold runM
        rw [← c, e]
        rw [c]
        exact ih
      · rw [if_neg c]
        rw [if_neg (fun q => c q.symm)] at ih
        exact ih
/-- what all the steps make of stacks -/
structure RunAll (ns : List NSt) (ss rs : Sk) : Prop where
  nd : (rs.map (·.1)).Nodup
  keys : ∀ n, n ∈ rs.map (·.1) ↔ n ∈ ss.map (·.1) ∨ ofN ns n ≠ []
  at_ : ∀ n, runM (ofN ns n) (getS ss n) = some (getS rs n)
theorem getS_no {ss : Sk} {n : Str} (h : n ∉ ss.map (·.1)) : getS ss n = [] := by
  unfold getS
  have z : ss.find? (hasS n) = none := by
    rw [List.find?_eq_none]
    intro p mp q
    exact h (List.mem_map.mpr ⟨p, mp, of_decide_eq_true q⟩)
  rw [z]
  rfl
theorem dd_of {K : PySem.W.Frag} {H : Hp} {ks ls : List (Key × V)} {s1 s2 : Sk} (h1 : SkH K H ks s1) (h2 : SkH K H ls s2) (n1 : (s1.map (·.1)).Nodup) (n2 : (s2.map (·.1)).Nodup) (hk : ∀ n, n ∈ s1.map (·.1) ↔ n ∈ s2.map (·.1)) (hg : ∀ n, n ∈ s1.map (·.1) → getS s1 n = getS s2 n) :
    ks.length = ls.length ∧ ∀ p ∈ ks, ∃ y, valV ls p.1 = some y ∧ DTup K DFlat p.2 y H := by
  have pm := (List.perm_ext_iff_of_nodup n1 n2).mpr hk
  have l := pm.length_eq
  rw [List.length_map, List.length_map] at l
  refine ⟨(paired_len h1).trans (l.trans (paired_len h2).symm), fun kv m => ?_⟩
  obtain ⟨j, hj⟩ := List.getElem?_of_mem m
  obtain ⟨p, hp, e1, t, e2, hT⟩ := paired_at h1 hj
  have pm1 := List.mem_of_getElem? hp
  have m1 : p.1 ∈ s1.map (·.1) := List.mem_map.mpr ⟨p, pm1, rfl⟩
  have g := hg p.1 m1
  rw [getS_at n1 pm1] at g
  rw [e1]
  obtain ⟨q, mq, eq⟩ := List.mem_map.mp ((hk _).mp m1)
  rcases skH_val (n := p.1) h2 with ⟨z, _⟩ | ⟨p2, t2, z1, z2, z3⟩
  · have z4 := findS_at n2 mq
    rw [eq, z] at z4
    cases z4
  · have g2 : getS s2 p.1 = p2.2 := by
      unfold getS
      rw [z1]
      rfl
    rw [g2] at g
    refine ⟨_, z2, t, t2, _, _, e2, rfl, hT, z3, ?_⟩
    rw [g]
    refine ⟨rfl, fun i x y hx hy => ?_⟩
    rw [hx] at hy
    cases hy
    rw [List.getElem?_map] at hx
    cases e : p2.2[i]? with
    | none => rw [e] at hx; cases hx
    | some z =>
      rw [e] at hx
      cases hx
      exact ⟨rfl, rfl, by simp [eqV]⟩
theorem skD_keys {K : PySem.W.Frag} {H : Hp} {kvs : List (Key × V)} {ss : Sk} (h : SkH K H kvs ss) : kvs.map (·.1) = (ss.map (·.1)).map Sum.inr := by
  induction h with
  | nil => rfl
  | cons a r ih => rw [List.map_cons, List.map_cons, List.map_cons, ih, a.1]
end SE
namespace SE
open PySem PySem.Spec PyProof.Rows L2
section
variable {P : Program} {w : World} {K : PySem.W.Frag} {mg : Str → Option Value} {base : Heap}
/-! ### run_all -/
def spRa (K : PySem.W.Frag) : Sp := fun xs H Q _ => ∃ (a d : Addr) (ys : List V) (ns : List NSt) (kvs : List (Key × V)) (ss : Sk), xs = [.ref a, .ref d] ∧ (SqL K H a ys ∨ SqT K H a ys) ∧ ys.length ≤ 1000 ∧ NSV K H ys ns ∧ (∀ s ∈ ns, NOk s) ∧ H d = some (.dK kvs) ∧ SkH K H kvs ss ∧ SkOk ss 60 3000 ∧
  ((∃ n, runM (ofN ns n) (getS ss n) = none) → ∀ H', Same H H' → Q .non H') ∧
  ((∀ n, runM (ofN ns n) (getS ss n) ≠ none) → ∀ (r : Addr) (kvs2 : List (Key × V)) (rs : Sk) (H' : Hp), Same H H' → H r = none → H' r = some (.dK kvs2) → SkH K H' kvs2 rs → RunAll ns ss rs → Q (.ref r) H')
abbrev nRa : List Str := ["steps", "stacks", "parts", "name", "results", "failed"]
theorem scRa : FnScope nRa ["steps", "stacks"] (defScope sRunAll) := ⟨rfl, rfl, rfl, by decide +kernel, rfl, by decide +kernel, by decide +kernel⟩
theorem dget_s {K : PySem.W.Frag} {H : Hp} {d : Addr} {kvs : List (Key × V)} {ss : Sk} {n : Str} (hd : H d = some (.dK kvs)) (h : SkH K H kvs ss) (m : n ∈ ss.map (·.1)) : ∃ t, DGet H d (.str n) (some (.ref t)) ∧ SqT K H t ((getS ss n).map V.str) := by
  rcases skH_val (n := n) h with ⟨z, _⟩ | ⟨p, t, z1, z2, z3⟩
  · obtain ⟨p, mp, e⟩ := List.mem_map.mp m
    have := List.find?_eq_none.mp z p mp
    exact absurd (decide_eq_true e) this
  · refine ⟨t, by rw [← z2]; exact DGet.k (k := Sum.inr n) hd, ?_⟩
    unfold getS
    rw [z1]
    exact z3
theorem has_ra (D : Def K mg "run_all" sRunAll) (GS : Has P w K mg base "split" 5 ["steps"] [] (spSplit K)) (GC : Has P w K mg base "check_stacks" 4 ["stacks"] [] (spCkS K)) (GF : Has P w K mg base "follow" 3 ["steps", "stack", "limit"] [] (spFollowL K)) (ms : mg "sorted" = none) : Has P w K mg base "run_all" 6 ["steps", "stacks"] [] (spRa K) := by
  refine has_of D scRa (fun _ _ _ _ _ _ us hl => match us, hl with | [_, _], _ => rfl) (fun xs H Q E h => ?_) (fun f cv A out s H xs Q E hr h => ?_)
  · obtain ⟨a, d, ys, ns, kvs, ss, rfl, _⟩ := h
    rfl
  · obtain ⟨a, d, ys, ns, kvs, ss, rfl, hS, hl, hV, hI, hd, hK, ok, kN, kS⟩ := h
    have hu := room_u hr
    have hr3 : Room 3 _ := hr.mono (by decide)
    have hr4 : Room 4 _ := hr.mono (by decide)
    refine ⟨_, pss_cons (ps_set (i := 2) scRa.nd rfl (.inl rfl) (pe_has GS hr (pa_cons (pv 0) pa_nil)))
      (pss_cons (ps_expr (pe_has GC hr4 (pa_cons (pv 1) pa_nil)))
      (pss_cons (ps_setDc (i := 4) (ow := [("name", 3)]) (g := gName 3) (tt := tYes) (tk := tVar 3) (tv := tDGet (tVar 1) (tVar 3)) rfl scRa.nd rfl rfl (swd_true rfl rfl rfl (by decide +kernel)) (pi_list (pe_callB (call_sortedD rfl) (by rfl) ms (by decide +kernel) (pa_cons (pv 1) pa_nil))) (blkOk_by (own := [("name", 3)]) (N := nRa) (sc := defScope sRunAll) (by decide +kernel))
        (fun _ _ _ _ _ => pg_name (i := 3) scRa.nd rfl (.inl rfl)) (fun _ _ _ _ _ => pts_nil) (fun _ _ _ _ _ => pv 3) (fun _ _ _ _ _ => pe_dget hu (pv 1) (pv 3) (fun _ _ => rfl)))
      (pss_cons (ps_lock (ps_for PassesOwn.never rfl (pi_keys (pv 2)) (pg_name (i := 3) scRa.nd rfl (.inl rfl))
        (pss_cons (ps_asg (pe_has GF hr3 (pa_cons (pe_dget hu (pv 2) (pv 3) (fun _ _ => rfl)) (pa_cons (pe_dget2 hu (pv 4) (pv 3) (pe_tup pa_nil) ⟨rfl, rfl, rfl, rfl⟩) (pa_cons pe_non pa_nil)))) (pg_tup (by rfl) (pgs_cons (pg_name (i := 5) scRa.nd rfl (.inl rfl)) (pgs_cons (pg_sub (pv 4) (pv 3) (set_dict hu)) pgs_nil))))
        (pss_one (ps_if (pt_cmpR op_notN (pv 5) pe_non (nomark _)) (pss_one (ps_ret pe_non)) pss_nil)))))
      (pss_one (ps_ret (pv 4)))))), ?_⟩
    refine ⟨_, rfl, a, ys, ns, rfl, hS, hl, hV, hI, fun d1 es H1 s1 hd1 pd pe fr => ?_⟩
    have ly : ys.length = ns.length := Paired.length hV
    have pok : PrOk (prtM ns) ns.length := by
      have := prtM_ok (ss := ns) ns.length hI
      rwa [List.take_length] at this
    have nd : ((pE es).map (·.1)).Nodup := by rw [pe]; exact pok.nd
    have les : es.length = (prtM ns).length := by rw [← pe]; unfold pE; rw [List.length_map]
    have ls := ok.len
    refine ⟨_, rfl, d, ss, 60, 3000, rfl, ⟨kvs, s1 _ _ hd, skH_same hK s1⟩, ok, by decide, by decide, fun H2 s2 => ?_⟩
    have s12 := s1.trans s2
    refine ⟨_, rfl, d, kvs, ss.map (·.1), rfl, .inl (s12 _ _ hd), skD_keys hK, by rw [List.length_map]; omega, fun nm p hp hs hn => ?_⟩
    have nmd : nm.Nodup := hp.nodup_iff.mpr ok.nd
    have lnm : nm.length = ss.length := by rw [hp.length_eq, List.length_map]
    have sP : Same H2 (upd H2 p (.lst (nm.map V.str))) := Same.new hn
    have hpp : upd H2 p (.lst (nm.map V.str)) p = some (.lst (nm.map V.str)) := upd_same
    generalize upd H2 p (.lst (nm.map V.str)) = H3 at sP hpp ⊢
    have s13 := s12.trans sP
    have hd3 := s13 _ _ hd
    have hK3 := skH_same hK s13
    have keyD : ∀ {n : Str} {H4 : Hp}, n ∈ nm → Same H3 H4 → ∃ t, DGet H4 d (.str n) (some (.ref t)) ∧ SqT K H4 t ((getS ss n).map V.str) := fun {n H4} m s4 => dget_s (s4 _ _ hd3) (skH_same hK3 s4) (hp.mem_iff.mp m)
    refine ⟨p, rfl, ⟨_, .of hpp⟩, fun DD hDD => dc_it (walk_list (K := K) (a := p) (xs := nm.map V.str)) (fun j H4 => ∃ kvs2, H4 DD = some (.dK kvs2) ∧ SkH K H4 kvs2 ((nm.take j).map fun n => (n, getS ss n)) ∧ Same H3 H4) ⟨[], upd_same, .nil, Same.new hDD⟩ (fun j H4 _ q => ?_) ?_ ?_⟩
    · obtain ⟨_, _, _, s4⟩ := q
      exact .of (s4 _ _ hpp)
    · rintro j x H4 H5 hj ⟨kvs2, h2, hP, s4⟩ ⟨rfl, hx⟩
      rw [List.getElem?_map] at hx
      cases hn' : nm[j]? with
      | none => rw [hn'] at hx; cases hx
      | some n =>
        rw [hn'] at hx
        cases hx
        have mn := List.mem_of_getElem? hn'
        obtain ⟨t, g, hT⟩ := keyD mn s4
        have jl := (List.getElem?_eq_some_iff.mp hn').1
        refine ⟨rfl, yes_in ⟨_, rfl, _, rfl, _, rfl, d, _, rfl, g, kvs2, Sum.inr n, rfl, h2, ?_, ?_⟩⟩
        · have l1 := paired_len hP
          rw [List.length_map, List.length_take] at l1
          rw [sizeLine_eq]
          omega
        · have nin : n ∉ ((nm.take j).map fun n => (n, getS ss n)).map (·.1) := by
            rw [List.map_map]
            have e : ((fun x : Str × List Str => x.1) ∘ fun n => (n, getS ss n)) = id := rfl
            rw [e, List.map_id]
            exact take_fresh nmd hn'
          rw [skH_new hP nin]
          refine ⟨_, upd_same, ?_, Same.free2 s4 hDD⟩
          rw [List.take_add_one, hn', List.map_append]
          exact paired_snoc (skH_upd (.dK h2) hP) ⟨rfl, t, rfl, sqT_upd (.dK h2) hT⟩
    rintro H4 ⟨kvs2, h2, hP, s4⟩
    rw [List.length_map, List.take_length] at hP
    have s14 := s13.trans s4
    have nDD : H DD = none := s13.free hDD
    have dd1 : d1 ≠ DD := fun q => by
      have z : H3 d1 = some (.dK (kvsE es)) := (s2.trans sP) _ _ pd.at_
      rw [q, hDD] at z
      cases z
    have hd14 : H4 d1 = some (.dK (kvsE es)) := ((s2.trans sP).trans s4) _ _ pd.at_
    have ls4 : LsE H4 es := pd.ls.same ((s2.trans sP).trans s4)
    refine ⟨d1, .dK (kvsE es), hd14, mut_dK, fun od => ?_⟩
    have hF : upd H4 d1 (.frz od (.dK (kvsE es))) d1 = some (.frz od (.dK (kvsE es))) := upd_same
    have lsF : LsE (upd H4 d1 (.frz od (.dK (kvsE es)))) es := ls4.updD (fun us q => by rw [hd14] at q; cases q) (fun us q => by rw [hd14] at q; cases q)
    have sF : Same H (upd H4 d1 (.frz od (.dK (kvsE es)))) := Same.free2 s14 hd1
    have hDF : upd H4 d1 (.frz od (.dK (kvsE es))) DD = some (.dK kvs2) := by rw [upd_ne (Ne.symm dd1)]; exact h2
    have hPF : SkH K (upd H4 d1 (.frz od (.dK (kvsE es)))) kvs2 (nm.map fun n => (n, getS ss n)) := skH_upd (.dK hd14) hP
    generalize upd H4 d1 (.frz od (.dK (kvsE es))) = HF at hF lsF sF hDF hPF
    have n0 : ((nm.map fun n => (n, getS ss n)).map (·.1)) = nm := by
      rw [List.map_map]
      exact List.map_id nm
    have g0 : ∀ n, getS (nm.map fun n => (n, getS ss n)) n = getS ss n := fun n => by
      by_cases m : n ∈ nm
      · have := getS_at (ss := nm.map fun n => (n, getS ss n)) (by rw [n0]; exact nmd) (List.mem_map.mpr ⟨n, m, rfl⟩)
        exact this
      · rw [getS_no (by rw [n0]; exact m), getS_no (fun q => m (hp.mem_iff.mpr q))]
    refine ⟨_, rfl, d1, od, rfl, .inl ⟨kvsE es, hF, for_it walk_keys (fun j σ H5 => ∃ (kv3 : List (Key × V)) (rs : Sk) (y3 y5 : Option V), σ = [some (.ref a), some (.ref d), some (.ref d1), y3, some (.ref DD), y5] ∧ H5 DD = some (.dK kv3) ∧ SkH K H5 kv3 rs ∧ (rs.map (·.1)).Nodup ∧ (∀ n, n ∈ rs.map (·.1) ↔ n ∈ ss.map (·.1) ∨ n ∈ ((prtM ns).take j).map (·.1)) ∧ rs.length ≤ ss.length + j ∧
        (∀ n, if n ∈ ((prtM ns).take j).map (·.1) then runM (ofN ns n) (getS ss n) = some (getS rs n) else getS rs n = getS ss n) ∧ H5 d1 = some (.frz od (.dK (kvsE es))) ∧ LsE H5 es ∧ Same H H5) ⟨kvs2, _, _, _, rfl, hDF, hPF, by rw [n0]; exact nmd, fun n => ?_, ?_, fun n => ?_, hF, lsF, sF⟩ (fun j σ H5 _ q => ?_) ?_ ?_⟩⟩
    · rw [n0, hp.mem_iff]
      simp
    · rw [List.length_map, lnm]; omega
    · rw [if_neg (by simp)]
      exact g0 n
    · obtain ⟨_, _, _, _, _, _, _, _, _, _, _, q, _⟩ := q
      exact q
    · rintro j x σ HX H5 hj ⟨kv3, rs, y3, y5, rfl, h3, hP3, rnd, rk, rl, rg, hF5, lsF5, s5⟩ ⟨rfl, k', v', hkv, rfl⟩
      unfold kvsE at hkv
      rw [List.getElem?_map] at hkv
      cases he : es[j]? with
      | none => rw [he] at hkv; cases hkv
      | some e =>
        rw [he] at hkv
        cases hkv
        have em := List.mem_of_getElem? he
        obtain ⟨us, hL, hs⟩ := lsF5 e em
        have lu : us.length = e.2.2.length := Paired.length hs
        have pj : (prtM ns)[j]? = some (e.1, e.2.2) := by
          rw [← pe]
          unfold pE
          rw [List.getElem?_map, he]
          rfl
        have pm := List.mem_of_getElem? pj
        obtain ⟨q1, q2, q3⟩ := pok.ok _ pm
        have q3 : e.2.2.length ≤ ns.length := q3
        have eo : ofN ns e.1 = e.2.2 := ((prt_mem ns _).mp pm).1.symm
        have nin : e.1 ∉ ((prtM ns).take j).map (·.1) := by
          rw [List.map_take]
          exact take_fresh pok.nd (by rw [List.getElem?_map, pj]; rfl)
        have gr : getS rs e.1 = getS ss e.1 := by
          have := rg e.1
          rwa [if_neg nin] at this
        obtain ⟨gi, gl⟩ := ok.get e.1
        refine ⟨_, rfl, _, rfl, d1, .ref e.2.1, rfl, .inl ⟨kvsE es, Sum.inr e.1, .inr ⟨od, hF5⟩, rfl, by rw [valE, find_at nd em]; rfl⟩, ?_⟩
        refine ⟨_, rfl, DD, rfl, .inl ⟨_, .inl h3⟩, _, rfl, (by show 0 ≤ sizeLine; decide), fun U hU => ?_⟩
        have sU : Same H5 (upd H5 U (.tup [])) := Same.new hU
        have hUU : upd H5 U (.tup []) U = some (.tup []) := upd_same
        generalize upd H5 U (.tup []) = H6 at sU hUU ⊢
        refine ⟨_, DGet.k (k := Sum.inr e.1) (sU _ _ h3), ?_⟩
        have sk6 := skH_same hP3 sU
        obtain ⟨q, eq, hq⟩ : ∃ q, (valV kv3 (Sum.inr e.1)).getD (V.ref U) = V.ref q ∧ SqT K H6 q ((getS rs e.1).map V.str) := by
          unfold getS
          rcases skH_val (n := e.1) sk6 with ⟨z1, z2⟩ | ⟨p, t2, z1, z2, z3⟩
          · rw [z1, z2]
            exact ⟨U, rfl, .of hUU⟩
          · rw [z1, z2]
            exact ⟨t2, rfl, z3⟩
        rw [eq]
        rw [gr] at hq
        refine ⟨e.2.1, q, us, e.2.2, getS ss e.1, none, rfl, ⟨.of (sU _ _ hL), by omega, (stepsH_sm hs sU).v, q2, hq, by omega, gi⟩, fun p' r' H7 s7 hp7 hr7 => ?_⟩
        have s57 := sU.trans s7
        have h37 := s57 _ _ h3
        have hF7 := s57 _ _ hF5
        have sk7 := skH_same hP3 s57
        have ls7 := lsF5.same s57
        have lk := paired_len hP3
        have lj : j < (prtM ns).length := (List.getElem?_eq_some_iff.mp pj).1
        have lpr := pok.len
        obtain ⟨f1, f2⟩ := follow_none e.2.2 (getS ss e.1)
        have fin : ∀ (w : V) (zs : List Str), SqT K H7 r' (zs.map V.str) → ∃ H8, DPut H7 DD (.str e.1) (.ref r') H8 ∧ H8 DD = some (.dK (putK kv3 (Sum.inr e.1) (.ref r'))) ∧ SkH K H8 (putK kv3 (Sum.inr e.1) (.ref r')) (putS rs e.1 zs) ∧ H8 d1 = some (.frz od (.dK (kvsE es))) ∧ LsE H8 es ∧ Same H H8 := by
          intro w zs hz
          refine ⟨_, .inl ⟨kv3, Sum.inr e.1, h37, rfl, ?_, rfl⟩, upd_same, skH_upd (.dK h37) (skH_put sk7 hz), ?_, ls7.updD (fun us q => by rw [h37] at q; cases q) (fun us q => by rw [h37] at q; cases q), Same.free2 (s5.trans s57) nDD⟩
          · rw [sizeLine_eq]
            omega
          · rw [upd_ne dd1]
            exact hF7
        cases hrun : runM e.2.2 (getS ss e.1) with
        | none =>
          obtain ⟨i, ws, ef⟩ := f2 hrun
          rw [ef] at hp7 hr7
          obtain ⟨H8, g1, g2, g3, g4, g5, g6⟩ := fin (.int i) ws hr7
          refine ⟨p', _, rfl, .of hp7, rfl, _, _, rfl, _, _, rfl, ⟨_, rfl, _, rfl, DD, H8, rfl, g1, rfl, ?_⟩⟩
          refine ⟨_, rfl, rfl, _, rfl, iteT ⟨g4, ?_⟩⟩
          exact kN ⟨e.1, by rw [eo]; exact hrun⟩ _ (Same.free2 g6 hd1)
        | some ws =>
          have ef := f1 ws hrun
          rw [ef] at hp7 hr7
          obtain ⟨H8, g1, g2, g3, g4, g5, g6⟩ := fin .non ws hr7
          refine ⟨p', _, rfl, .of hp7, rfl, _, _, rfl, _, _, rfl, ⟨_, rfl, _, rfl, DD, H8, rfl, g1, rfl, ?_⟩⟩
          have tk : ((prtM ns).take (j + 1)).map (·.1) = ((prtM ns).take j).map (·.1) ++ [e.1] := by
            rw [List.take_add_one, pj, List.map_append]
            rfl
          refine ⟨_, rfl, rfl, _, rfl, iteF ⟨_, putS rs e.1 ws, _, _, rfl, g2, g3, putS_nd rnd, fun n => ?_, ?_, fun n => ?_, g4, g5, g6⟩⟩
          · rw [tk, putS_fst, List.mem_append, List.mem_singleton]
            split
            · rename_i c
              rw [rk]
              constructor
              · rintro (z | z)
                · exact .inl z
                · exact .inr (.inl z)
              · rintro (z | z | z)
                · exact .inl z
                · exact .inr z
                · obtain ⟨p2, mp2, ep2⟩ := List.any_eq_true.mp c
                  have := (rk p2.1).mp (List.mem_map.mpr ⟨p2, mp2, rfl⟩)
                  rw [z, ← of_decide_eq_true ep2]
                  exact this
            · rw [List.mem_append, List.mem_singleton, rk, or_assoc]
          · have l2 : (putS rs e.1 ws).length ≤ rs.length + 1 := by
              unfold putS
              split
              · rw [List.length_map]; omega
              · rw [List.length_append]; exact Nat.le_refl _
            omega
          · rw [tk, getS_put]
            by_cases c : n = e.1
            · subst c
              rw [if_pos (by simp), if_pos rfl, eo]
              exact hrun
            · rw [if_neg c]
              have z := rg n
              by_cases m : n ∈ ((prtM ns).take j).map (·.1)
              · rw [if_pos m] at z
                rw [if_pos (List.mem_append.mpr (.inl m))]
                exact z
              · rw [if_neg m] at z
                rw [if_neg (fun q => (List.mem_append.mp q).elim m (fun q => c (List.mem_singleton.mp q)))]
                exact z
    · rintro σ H5 ⟨kv3, rs, y3, y5, rfl, h3, hP3, rnd, rk, rl, rg, hF5, lsF5, s5⟩
      have lk : (kvsE es).length = (prtM ns).length := by unfold kvsE; rw [List.length_map]; exact les
      rw [lk, List.take_length] at rk rg
      have mem : ∀ n, n ∈ (prtM ns).map (·.1) ↔ ofN ns n ≠ [] := fun n => by
        constructor
        · intro m
          obtain ⟨p2, mp2, e2⟩ := List.mem_map.mp m
          obtain ⟨z1, z2⟩ := (prt_mem ns p2).mp mp2
          rw [← e2, ← z1]
          exact z2
        · intro m
          exact List.mem_map.mpr ⟨(n, ofN ns n), (prt_mem ns _).mpr ⟨rfl, m⟩, rfl⟩
      have rg2 : ∀ n, runM (ofN ns n) (getS ss n) = some (getS rs n) := fun n => by
        have z := rg n
        by_cases m : n ∈ (prtM ns).map (·.1)
        · rwa [if_pos m] at z
        · rw [if_neg m] at z
          have z2 : ofN ns n = [] := Classical.byContradiction fun q => m ((mem n).mpr q)
          rw [z2, z]
          rfl
      have hD6 : upd H5 d1 (.dK (kvsE es)) DD = some (.dK kv3) := by rw [upd_ne (Ne.symm dd1)]; exact h3
      refine ⟨hF5, _, rfl, kS (fun n => by rw [rg2 n]; exact fun q => by cases q) DD kv3 rs _ (Same.free2 s5 hd1) nDD hD6 (skH_upd (.dF hF5) hP3) ⟨rnd, fun n => ?_, rg2⟩⟩
      rw [rk, mem]
end
end SE
/-! Plain data in which empty dicts may stand: its kinds, ==, in, and repr of every kind. -/
namespace SE
open PySem PySem.Spec PyProof.Rows L2
mutual
inductive DpX (K : PySem.W.Frag) (H : Hp) : V → PyData → Prop
  | non : DpX K H .non .none
  | bl (b : Bool) : DpX K H (.bl b) (.bool b)
  | int (i : Int) : DpX K H (.int i) (.int i)
  | str (x : Str) : DpX K H (.str x) (.str x)
  | lst {a : Addr} {xs : List V} {ds : List PyData} : SqL K H a xs → DpXs K H xs ds → DpX K H (.ref a) (.list ds)
  | tup {a : Addr} {xs : List V} {ds : List PyData} : SqT K H a xs → DpXs K H xs ds → DpX K H (.ref a) (.tuple ds)
  | emp {a : Addr} : H a = some (.dK []) → DpX K H (.ref a) (.dict [])
inductive DpXs (K : PySem.W.Frag) (H : Hp) : List V → List PyData → Prop
  | nil : DpXs K H [] []
  | cons {v : V} {vs : List V} {d : PyData} {ds : List PyData} : DpX K H v d → DpXs K H vs ds → DpXs K H (v :: vs) (d :: ds)
end
section
variable {K : PySem.W.Frag} {H H' : Hp}
mutual
theorem DpX.same (s : Same H H') : ∀ (d : PyData) (v : V), DpX K H v d → DpX K H' v d
  | .none, _, h => by cases h; exact .non
  | .bool b, _, h => by cases h; exact .bl b
  | .int i, _, h => by cases h; exact .int i
  | .str x, _, h => by cases h; exact .str x
  | .list ds, _, h => by
    cases h with
    | lst a b => exact .lst (Same.seq s a) (DpXs.same s ds _ b)
  | .tuple ds, _, h => by
    cases h with
    | tup a b => exact .tup (Same.tup s a) (DpXs.same s ds _ b)
  | .dict kvs, _, h => by
    cases h with
    | emp a => exact .emp (s _ _ a)
theorem DpXs.same (s : Same H H') : ∀ (ds : List PyData) (vs : List V), DpXs K H vs ds → DpXs K H' vs ds
  | [], _, h => by cases h; exact .nil
  | d :: ds, _, h => by
    cases h with
    | cons a b => exact .cons (DpX.same s d _ a) (DpXs.same s ds _ b)
end
theorem DpXs.at : ∀ {vs : List V} {ds : List PyData} {i : Nat} {v : V}, DpXs K H vs ds → vs[i]? = some v → ∃ d, ds[i]? = some d ∧ DpX K H v d
  | _, _, 0, v, .cons a b, h => by cases h; exact ⟨_, rfl, a⟩
  | _, _, i + 1, v, .cons a b, h => by
    obtain ⟨d, h1, h2⟩ := DpXs.at b h
    exact ⟨d, h1, h2⟩
theorem DpXs.len : ∀ {vs : List V} {ds : List PyData}, DpXs K H vs ds → vs.length = ds.length
  | _, _, .nil => rfl
  | _, _, .cons a b => by rw [List.length_cons, List.length_cons, DpXs.len b]
end
section
variable {X : Cx} {pins : List (Addr × Obj)} {σ : L2.St} {H : Hp} {s : Shared}
theorem emp_obj (I : Inv X pins σ H s) {a : Addr} (e : H a = some (.dK [])) : (a == sysModules) = false ∧ ∃ o n, s.heap.get? a = some o ∧ o.cls = .type "dict" ∧ o.data = .dict #[] n := by
  obtain ⟨_, hd, vs, rel, o, es, ep, h1, h2, h3, h4, h5, h6⟩ := dk_of I.hok e
  cases rel
  have : es = #[] := by
    have q : es.toList = [] := by
      cases hq : es.toList with
      | nil => rfl
      | cons x r => rw [hq] at h5; cases h5
    exact Array.toList_eq_nil_iff.mp q
  subst this
  exact ⟨hd, o, ep, h1, h2.1, h3⟩
mutual
theorem DpX.reads (I : Inv X pins σ H s) : ∀ (d : PyData) (v : V) (u : Value), DpX X.K H v d → RelV v u → ∃ as, Reads s.heap u d as
  | .none, _, _, h, r => by
    cases h
    cases r
    exact ⟨_, Reads.none⟩
  | .bool b, _, _, h, r => by
    cases h
    cases r
    exact ⟨_, Reads.bool b⟩
  | .int i, _, _, h, r => by
    cases h
    obtain ⟨t, rfl⟩ := r
    exact ⟨_, Reads.int i t⟩
  | .str x, _, _, h, r => by
    cases h
    obtain ⟨t, rfl⟩ := r
    exact ⟨_, Reads.str x t⟩
  | .list ds, _, _, h, r => by
    cases h with
    | lst hs ha =>
      cases r
      obtain ⟨its, rv, ⟨o, n, ho, hc, _, hd⟩, _⟩ := I.list hs
      obtain ⟨as, hr⟩ := DpXs.reads I ds _ its ha rv
      exact ⟨_, Reads.list ho hc hd hr⟩
  | .tuple ds, _, _, h, r => by
    cases h with
    | tup hs ha =>
      cases r
      obtain ⟨its, rv, ⟨o, ho, hc, n, hd⟩, _⟩ := I.tuple hs
      obtain ⟨as, hr⟩ := DpXs.reads I ds _ its ha rv
      exact ⟨_, Reads.tuple ho hc hd hr⟩
  | .dict _, _, _, h, r => by
    cases h with
    | emp e =>
      cases r
      obtain ⟨_, o, n, h1, h2, h3⟩ := emp_obj I e
      exact ⟨_, Reads.dict (kvs := []) h1 h2 h3 .nil .nil⟩
theorem DpXs.reads (I : Inv X pins σ H s) : ∀ (ds : List PyData) (vs : List V) (us : List Value), DpXs X.K H vs ds → Vals vs us → ∃ as, ReadsAll s.heap us ds as
  | [], _, _, h, r => by
    cases h
    cases r
    exact ⟨_, ReadsAll.nil⟩
  | d :: ds, _, _, h, r => by
    cases h with
    | cons h1 h2 =>
      cases r with
      | cons r1 r2 =>
        obtain ⟨as, q1⟩ := DpX.reads I d _ _ h1 r1
        obtain ⟨bs, q2⟩ := DpXs.reads I ds _ _ h2 r2
        exact ⟨_, ReadsAll.cons q1 q2⟩
end
mutual
theorem DpX.reprK (I : Inv X pins σ H s) : ∀ (d : PyData) (v : V) (u : Value), DpX X.K H v d → RelV v u → d.showable = true → d.shown.length ≤ sizeLine → ∃ bs, ReadAtMost s.heap d.depth bs ∧ ReprK X.prog X.w bs s.heap d.depth u d.shown
  | .none, _, _, h, r, _, _ => by
    cases h
    cases r
    exact ⟨[], (fun _ h => nomatch h), by simp only [PyData.shown]; exact .of_is ReprIs.none _ _ _⟩
  | .bool b, _, _, h, r, _, _ => by
    cases h
    cases r
    exact ⟨[], (fun _ h => nomatch h), by simp only [PyData.shown]; exact .of_is (ReprIs.bool b) _ _ _⟩
  | .int i, _, _, h, r, hs, _ => by
    cases h
    obtain ⟨t, rfl⟩ := r
    exact ⟨[], (fun _ h => nomatch h), by simp only [PyData.shown]; exact .of_is (ReprIs.int t (by simpa [PyData.showable] using hs)) _ _ _⟩
  | .str x, _, _, h, r, _, hz => by
    cases h
    obtain ⟨t, rfl⟩ := r
    exact ⟨[], (fun _ h => nomatch h), by simp only [PyData.shown]; exact .of_is (ReprIs.str x t (by simpa only [PyData.shown] using hz)) _ _ _⟩
  | .list ds, _, _, h, r, hs, hz => by
    cases h with
    | @lst a xs _ hs' ha =>
      cases r
      obtain ⟨its, rv, ⟨o, n, ho, hc, _, hd⟩, _⟩ := I.list hs'
      obtain ⟨as, hr⟩ := DpXs.reads I ds _ its ha rv
      have hz' : (listText (PyData.shownAll ds)).length ≤ sizeLine := by simpa only [PyData.shown] using hz
      obtain ⟨bs, hb, hk⟩ := DpXs.reprK I ds _ its ha rv (by simpa [PyData.showable] using hs) (fun t ht => Nat.le_trans (listText_mem_le ht) hz')
      have rr : Reads s.heap (.ref a) (.list ds) _ := .list ho hc hd hr
      have hna : a ∉ bs := not_mem_of_deeper rr (by simp only [PyData.depth]; omega) hb
      refine ⟨a :: bs, ReadAtMost.cons rr (by simp only [PyData.depth]; omega) hb, ?_⟩
      simp only [PyData.depth, PyData.shown]
      cases its with
      | nil =>
        cases hr
        simp only [PyData.shownAll, listText_nil]
        exact ReprK.listEmpty ho hc hd
      | cons x l => exact ReprK.list ho hc hd hna (by simpa using hk.length_eq) (fun i y e => hk.item i y (by simpa using e))
  | .tuple ds, _, _, h, r, hs, hz => by
    cases h with
    | @tup a xs _ hs' ha =>
      cases r
      obtain ⟨its, rv, ⟨o, ho, hc, n, hd⟩, _⟩ := I.tuple hs'
      obtain ⟨as, hr⟩ := DpXs.reads I ds _ its ha rv
      have hz' : (tupleText (PyData.shownAll ds)).length ≤ sizeLine := by simpa only [PyData.shown] using hz
      obtain ⟨bs, hb, hk⟩ := DpXs.reprK I ds _ its ha rv (by simpa [PyData.showable] using hs) (fun t ht => Nat.le_trans (tupleText_mem_le ht) hz')
      have rr : Reads s.heap (.ref a) (.tuple ds) _ := .tuple ho hc hd hr
      have hna : a ∉ bs := not_mem_of_deeper rr (by simp only [PyData.depth]; omega) hb
      refine ⟨a :: bs, ReadAtMost.cons rr (by simp only [PyData.depth]; omega) hb, ?_⟩
      simp only [PyData.depth, PyData.shown]
      exact ReprK.tuple ho hc hd hna hk
  | .dict _, _, _, h, r, _, hz => by
    cases h with
    | @emp a e =>
      cases r
      obtain ⟨hsys, o, n, h1, h2, h3⟩ := emp_obj I e
      have rr : Reads s.heap (.ref a) (.dict []) _ := .dict (kvs := []) h1 h2 h3 .nil .nil
      have h0 : ReadAtMost s.heap 0 [] := fun _ h => nomatch h
      refine ⟨[a], ReadAtMost.cons rr (by simp only [PyData.depth]; omega) h0, ?_⟩
      simp only [PyData.depth, PyData.shown, PyData.depthKv, PyData.shownKv]
      exact ReprK.dict h1 h2 h3 hsys (by simp) .nil
theorem DpXs.reprK (I : Inv X pins σ H s) : ∀ (ds : List PyData) (vs : List V) (us : List Value), DpXs X.K H vs ds → Vals vs us → PyData.showableAll ds = true → (∀ t ∈ PyData.shownAll ds, t.length ≤ sizeLine) →
    ∃ bs, ReadAtMost s.heap (PyData.depthAll ds) bs ∧ ReprAllK X.prog X.w bs s.heap (PyData.depthAll ds) us (PyData.shownAll ds)
  | [], _, _, h, r, _, _ => by
    cases h
    cases r
    exact ⟨[], (fun _ h => nomatch h), by simp only [PyData.shownAll]; exact .nil⟩
  | d :: ds, _, _, h, r, hs, hz => by
    cases h with
    | cons h1 h2 =>
      cases r with
      | cons r1 r2 =>
        have hs' : d.showable = true ∧ PyData.showableAll ds = true := by simpa [PyData.showableAll] using hs
        obtain ⟨b1, hb1, k1⟩ := DpX.reprK I d _ _ h1 r1 hs'.1 (hz _ (by simp only [PyData.shownAll]; exact List.mem_cons_self ..))
        obtain ⟨b2, hb2, k2⟩ := DpXs.reprK I ds _ _ h2 r2 hs'.2 (fun t ht => hz t (by simp only [PyData.shownAll]; exact List.mem_cons_of_mem _ ht))
        refine ⟨b1 ++ b2, ?_, ?_⟩
        · intro b hm
          simp only [PyData.depthAll]
          rcases List.mem_append.mp hm with hm | hm
          · obtain ⟨d', as', r', hd'⟩ := hb1 b hm
            exact ⟨d', as', r', Nat.le_trans hd' (Nat.le_max_left _ _)⟩
          · obtain ⟨d', as', r', hd'⟩ := hb2 b hm
            exact ⟨d', as', r', Nat.le_trans hd' (Nat.le_max_right _ _)⟩
        · simp only [PyData.depthAll, PyData.shownAll]
          exact .cons ((k1.more fun b hb => List.mem_append_left _ hb).level_le (Nat.le_max_left _ _)) (k2.more_le (fun b hb => List.mem_append_right _ hb) (Nat.le_max_right _ _))
end
end
section
variable {X : Cx}
def rEqX (K : PySem.W.Frag) : R2 := fun x y H Q => ∃ d e, DpX K H x d ∧ DpX K H y e ∧ SeqAt.shaped d = true ∧ SeqAt.shaped e = true ∧ Q (.bl (PyData.eqv d e)) H
def rNeX (K : PySem.W.Frag) : R2 := fun x y H Q => ∃ d e, DpX K H x d ∧ DpX K H y e ∧ SeqAt.shaped d = true ∧ SeqAt.shaped e = true ∧ Q (.bl (!PyData.eqv d e)) H
def rInX (K : PySem.W.Frag) : R2 := fun x y H Q => ∃ d ds, DpX K H x d ∧ DpX K H y (.list ds) ∧ SeqAt.shaped d = true ∧ SeqAt.shaped (.list ds) = true ∧ Q (.bl (ds.any fun z => PyData.eqv z d)) H
theorem op_eqX (hu : X.A.units + 64 < cLine) : OpR X (compareOp .Eq) (rEqX X.K) := by
  intro pins s σ H x y v u Q I rx ry h
  obtain ⟨d, e, hd, he, sd, se, q⟩ := h
  obtain ⟨as, r1⟩ := DpX.reads I d x v hd rx
  obtain ⟨bs, r2⟩ := DpX.reads I e y u he ry
  exact SeqAt.compareEq_shaped r1 r2 sd se hu ⟨.bl _, H, I, rfl, q⟩
theorem op_neX (hu : X.A.units + 64 < cLine) : OpR X (compareOp .NotEq) (rNeX X.K) := by
  intro pins s σ H x y v u Q I rx ry h
  obtain ⟨d, e, hd, he, sd, se, q⟩ := h
  obtain ⟨as, r1⟩ := DpX.reads I d x v hd rx
  obtain ⟨bs, r2⟩ := DpX.reads I e y u he ry
  exact SeqAt.compareNe_shaped r1 r2 sd se hu ⟨.bl _, H, I, rfl, q⟩
theorem op_inX (hu : X.A.units + 65 < cLine) : OpR X (compareOp .In) (rInX X.K) := by
  intro pins s σ H x y v u Q I rx ry h
  obtain ⟨d, ds, hd, he, sd, se, q⟩ := h
  obtain ⟨as, r1⟩ := DpX.reads I d x v hd rx
  obtain ⟨bs, r2⟩ := DpX.reads I (.list ds) y u he ry
  exact SeqAt.in_list_reads r2 r1 (SeqAt.canLay_of_shaped se) (SeqAt.canLay_of_shaped sd) (room_in_shaped sd hu) ⟨.bl _, H, I, rfl, q⟩
/-- the kind of such data -/
def tyD : PyData → String
  | .none => "NoneType"
  | .bool _ => "bool"
  | .int _ => "int"
  | .str _ => "str"
  | .list _ => "list"
  | .tuple _ => "tuple"
  | .dict _ => "dict"
theorem DpX.ty {K : PySem.W.Frag} {H : Hp} {v : V} {d : PyData} (h : DpX K H v d) : TyX K H v (.type (tyD d)) := by
  cases h with
  | non => exact .base .non
  | bl b => exact .base (.bl b)
  | int i => exact .base (.int i)
  | str x => exact .base (.str x)
  | lst h _ =>
    rcases h with (h | ⟨o, h⟩) | ⟨o, its, n, h1, h2, _⟩
    · exact .base (.lst h)
    · exact .base (.frz h)
    · exact .kList h1 h2
  | tup h _ =>
    rcases h with (h | ⟨o, h⟩) | ⟨o, its, n, h1, h2, _⟩
    · exact .base (.tup h)
    · exact .fTuple h
    · exact .kTuple h1 h2
  | emp h => exact .base (.dK h)
def isStr : PyData → Bool
  | .str _ => true
  | _ => false
def isTup : PyData → Bool
  | .tuple _ => true
  | _ => false
def isLst : PyData → Bool
  | .list _ => true
  | _ => false
theorem kit_str {K : PySem.W.Frag} : ∀ d : PyData, PySem.W.kitOne K (.type (tyD d)) (.type "str") = some (isStr d)
  | .none => kit_ty (show kitB "NoneType" "str" = some false by decide +kernel)
  | .bool _ => kit_ty (show kitB "bool" "str" = some false by decide +kernel)
  | .int _ => kit_ty (show kitB "int" "str" = some false by decide +kernel)
  | .str _ => kit_ty (show kitB "str" "str" = some true by decide +kernel)
  | .list _ => kit_ty (show kitB "list" "str" = some false by decide +kernel)
  | .tuple _ => kit_ty (show kitB "tuple" "str" = some false by decide +kernel)
  | .dict _ => kit_ty (show kitB "dict" "str" = some false by decide +kernel)
theorem kit_tup {K : PySem.W.Frag} : ∀ d : PyData, PySem.W.kitOne K (.type (tyD d)) (.type "tuple") = some (isTup d)
  | .none => kit_ty (show kitB "NoneType" "tuple" = some false by decide +kernel)
  | .bool _ => kit_ty (show kitB "bool" "tuple" = some false by decide +kernel)
  | .int _ => kit_ty (show kitB "int" "tuple" = some false by decide +kernel)
  | .str _ => kit_ty (show kitB "str" "tuple" = some false by decide +kernel)
  | .list _ => kit_ty (show kitB "list" "tuple" = some false by decide +kernel)
  | .tuple _ => kit_ty (show kitB "tuple" "tuple" = some true by decide +kernel)
  | .dict _ => kit_ty (show kitB "dict" "tuple" = some false by decide +kernel)
theorem kit_lst {K : PySem.W.Frag} : ∀ d : PyData, PySem.W.kitOne K (.type (tyD d)) (.type "list") = some (isLst d)
  | .none => kit_ty (show kitB "NoneType" "list" = some false by decide +kernel)
  | .bool _ => kit_ty (show kitB "bool" "list" = some false by decide +kernel)
  | .int _ => kit_ty (show kitB "int" "list" = some false by decide +kernel)
  | .str _ => kit_ty (show kitB "str" "list" = some false by decide +kernel)
  | .list _ => kit_ty (show kitB "list" "list" = some true by decide +kernel)
  | .tuple _ => kit_ty (show kitB "tuple" "list" = some false by decide +kernel)
  | .dict _ => kit_ty (show kitB "dict" "list" = some false by decide +kernel)
/-- repr(x), x such data of any kind -/
def rRepX (K : PySem.W.Frag) : List V → Hp → VK → Prop := fun xs H Q => ∃ (x : V) (d : PyData), xs = [x] ∧ DpX K H x d ∧ d.showable = true ∧ d.depth ≤ 20 ∧ d.shown.length ≤ sizeLine ∧ Q (.str d.shown) H
theorem call_repX (hgu : X.A.guards = some []) (hu : X.A.units + 64 < cLine) : CallR X (.builtin "repr") (rRepX X.K) := by
  intro pins s σ H xs us Q I r h
  obtain ⟨x, d, rfl, hd, hs, hdep, hz, q⟩ := h
  cases r with
  | cons r1 r2 =>
    cases r2
    rename_i u
    cases hd with
    | non =>
      cases r1
      simp only [PyData.shown] at q
      exact PySem.P.repr_of_none ⟨.str _, H, I.tok _, ⟨_, rfl⟩, q⟩
    | bl b =>
      cases r1
      simp only [PyData.shown] at q
      exact PySem.P.repr_of_bool ⟨.str _, H, I.tok _, ⟨_, rfl⟩, q⟩
    | int i =>
      obtain ⟨t, rfl⟩ := r1
      simp only [PyData.shown] at q
      exact PySem.P.repr_of_int (by simpa [PyData.showable] using hs) ⟨.str _, H, I.tok _, ⟨_, rfl⟩, q⟩
    | str z =>
      obtain ⟨t, rfl⟩ := r1
      simp only [PyData.shown] at q hz
      exact PySem.P.repr_of_str ⟨.str _, H, I.tok _, ⟨_, rfl⟩, q⟩ hz
    | @lst a xs ds hs' ha =>
      cases r1
      obtain ⟨its, rv, ⟨o, n, ho, hc, _, hdd⟩, _⟩ := I.list hs'
      obtain ⟨as, hr⟩ := DpXs.reads I ds _ its ha rv
      have hz' : (listText (PyData.shownAll ds)).length ≤ sizeLine := by simpa only [PyData.shown] using hz
      obtain ⟨bs, hb, hk⟩ := DpXs.reprK I ds _ its ha rv (by simpa [PyData.showable] using hs) (fun t ht => Nat.le_trans (listText_mem_le ht) hz')
      have rr : Reads s.heap (.ref a) (.list ds) _ := .list ho hc hdd hr
      have hna : a ∉ bs := not_mem_of_deeper rr (by simp only [PyData.depth]; omega) hb
      simp only [PyData.depth] at hdep
      simp only [PyData.shown] at q
      refine call_repr_slot (T := "list") (by omega) ⟨o, ho, hc⟩ PySem.F.slot_list_repr.toG ?_
      cases its with
      | nil =>
        cases hr
        simp only [PyData.shownAll, listText_nil] at q
        exact call_list_repr_empty ⟨o, ho, hc⟩ ho hdd ⟨_, _, rfl, .str _, H, I.tok _, ⟨_, rfl⟩, q⟩
      | cons y l =>
        exact call_list_reprK ho hc hdd hna (by simpa using hk.length_eq) (fun i y e => hk.item i y (by simpa using e)) (A := X.A.in1) hgu (fun b _ => Clear.nil b) (by show X.A.units + 1 + _ < cLine; omega) (fun _ _ z => z) (fun h' u tk keep => ⟨_, _, rfl, .str _, H, I.kept (t' := tk) keep, ⟨_, rfl⟩, q⟩) hz'
    | @tup a xs ds hs' ha =>
      cases r1
      obtain ⟨its, rv, ⟨o, ho, hc, n, hdd⟩, _⟩ := I.tuple hs'
      obtain ⟨as, hr⟩ := DpXs.reads I ds _ its ha rv
      have hz' : (tupleText (PyData.shownAll ds)).length ≤ sizeLine := by simpa only [PyData.shown] using hz
      obtain ⟨bs, hb, hk⟩ := DpXs.reprK I ds _ its ha rv (by simpa [PyData.showable] using hs) (fun t ht => Nat.le_trans (tupleText_mem_le ht) hz')
      have rr : Reads s.heap (.ref a) (.tuple ds) _ := .tuple ho hc hdd hr
      have hna : a ∉ bs := not_mem_of_deeper rr (by simp only [PyData.depth]; omega) hb
      simp only [PyData.depth] at hdep
      simp only [PyData.shown] at q
      refine call_repr_slot (T := "tuple") (by omega) ⟨o, ho, hc⟩ PySem.F.slot_tuple_repr ?_
      exact call_tuple_reprK ho hc hdd hna hk (A := X.A.in1) hgu (fun b _ => Clear.nil b) (by show X.A.units + 1 + _ < cLine; omega) (fun _ _ z => z) (fun h' u tk keep => ⟨_, _, rfl, .str _, H, I.kept (t' := tk) keep, ⟨_, rfl⟩, q⟩) hz'
    | @emp a e =>
      cases r1
      obtain ⟨hsys, o, n, h1, h2, h3⟩ := emp_obj I e
      have hz' : (dictText []).length ≤ sizeLine := by simpa only [PyData.shown, PyData.shownKv] using hz
      simp only [PyData.shown, PyData.shownKv] at q
      refine call_repr_slot (T := "dict") (by omega) ⟨o, h1, h2⟩ PySem.F.slot_dict_repr ?_
      exact call_dict_reprK (as := []) (d := 0) h1 h2 h3 hsys (by simp) .nil (A := X.A.in1) hgu (fun b _ => Clear.nil b) (by show X.A.units + 1 + _ < cLine; omega) (fun _ _ z => z) (fun h' u tk keep => ⟨_, _, rfl, .str _, H, I.kept (t' := tk) keep, ⟨_, rfl⟩, q⟩) hz'
end
end SE
namespace SE
open PySem PySem.Spec PyProof.Rows L2
/-! ### data whose dicts are empty -/
mutual
def layE : PyData → Bool
  | .none | .bool _ | .int _ => true
  | .str x => PyData.strOk x
  | .list xs | .tuple xs => layEAll xs
  | .dict kvs => kvs.isEmpty
def layEAll : List PyData → Bool
  | [] => true
  | x :: xs => layE x && layEAll xs
end
mutual
theorem layE_of : ∀ d : PyData, d.canLay0 = true → layE d = true
  | .none, _ => by simp only [layE]
  | .bool _, _ => by simp only [layE]
  | .int _, _ => by simp only [layE]
  | .str x, h => by simpa only [layE, PyData.canLay0] using h
  | .list xs, h => by
    simp only [layE]
    exact layEAll_of xs (by simpa only [PyData.canLay0] using h)
  | .tuple xs, h => by
    simp only [layE]
    exact layEAll_of xs (by simpa only [PyData.canLay0] using h)
  | .dict _, h => by simp only [PyData.canLay0] at h; exact nomatch h
theorem layEAll_of : ∀ xs : List PyData, PyData.canLayAll0 xs = true → layEAll xs = true
  | [], _ => by simp only [layEAll]
  | x :: xs, h => by
    have h' : x.canLay0 = true ∧ PyData.canLayAll0 xs = true := by simpa only [PyData.canLayAll0, Bool.and_eq_true] using h
    simp only [layEAll, Bool.and_eq_true]
    exact ⟨layE_of x h'.1, layEAll_of xs h'.2⟩
end
mutual
theorem leavesShort_of_layE : ∀ d : PyData, layE d = true → d.intsShort 13 = true → d.leavesShort 13 = true
  | .none, _, _ => rfl
  | .bool _, _, _ => rfl
  | .int i, _, h => by simpa only [PyData.leavesShort, PyData.intsShort] using h
  | .str x, hc, _ => PyData.leavesShort_of_canLay0 13 (.str x) (by simpa only [layE, PyData.canLay0] using hc) rfl
  | .list xs, hc, h => by
    simp only [PyData.leavesShort]
    exact leavesShortAll_of_layE xs (by simpa only [layE] using hc) (by simpa only [PyData.intsShort] using h)
  | .tuple xs, hc, h => by
    simp only [PyData.leavesShort]
    exact leavesShortAll_of_layE xs (by simpa only [layE] using hc) (by simpa only [PyData.intsShort] using h)
  | .dict kvs, hc, _ => by
    simp only [layE, List.isEmpty_iff] at hc
    rw [hc]
    rfl
theorem leavesShortAll_of_layE : ∀ xs : List PyData, layEAll xs = true → PyData.intsShortAll 13 xs = true → PyData.leavesShortAll 13 xs = true
  | [], _, _ => rfl
  | x :: xs, hc, h => by
    have hc' : layE x = true ∧ layEAll xs = true := by simpa only [layEAll, Bool.and_eq_true] using hc
    have h' : x.intsShort 13 = true ∧ PyData.intsShortAll 13 xs = true := by simpa only [PyData.intsShortAll, Bool.and_eq_true] using h
    simp only [PyData.leavesShortAll, Bool.and_eq_true]
    exact ⟨leavesShort_of_layE x hc'.1 h'.1, leavesShortAll_of_layE xs hc'.2 h'.2⟩
end
/-! ### small data -/
structure NX (k B : Nat) (d : PyData) : Prop where
  lay : layE d = true
  dep : d.depth ≤ k
  sh : d.showable = true
  ish : d.intsShort 13 = true
  wt : d.weight ≤ B
theorem NX.mono {k j B C : Nat} {d : PyData} (h : NX k B d) (hk : k ≤ j) (hB : B ≤ C) : NX j C d := ⟨h.lay, Nat.le_trans h.dep hk, h.sh, h.ish, Nat.le_trans h.wt hB⟩
theorem Nice.nx {k B : Nat} {d : PyData} (h : Nice k B d) : NX k B d := ⟨layE_of _ h.lay, h.dep, h.sh, h.ish, h.wt⟩
theorem nx_all {k B : Nat} : ∀ {ds : List PyData}, (∀ d ∈ ds, NX k B d) → layEAll ds = true ∧ PyData.depthAll ds ≤ k ∧ PyData.showableAll ds = true ∧ PyData.intsShortAll 13 ds = true ∧ PyData.weightAll ds ≤ ds.length * (B + 1)
  | [], _ => by
    refine ⟨?_, ?_, ?_, ?_, ?_⟩
    · simp only [layEAll]
    · simp only [PyData.depthAll]
      exact Nat.zero_le _
    · simp only [PyData.showableAll]
    · simp only [PyData.intsShortAll]
    · simp only [PyData.weightAll]
      exact Nat.zero_le _
  | d :: ds, h => by
    obtain ⟨a1, a2, a3, a5, a6⟩ := nx_all (ds := ds) fun x hx => h x (List.mem_cons_of_mem _ hx)
    have q := h d List.mem_cons_self
    refine ⟨?_, ?_, ?_, ?_, ?_⟩
    · simp only [layEAll, q.lay, a1, Bool.and_self]
    · simp only [PyData.depthAll]
      exact Nat.max_le.mpr ⟨q.dep, a2⟩
    · simp only [PyData.showableAll, q.sh, a3, Bool.and_self]
    · simp only [PyData.intsShortAll, q.ish, a5, Bool.and_self]
    · simp only [PyData.weightAll, List.length_cons]
      have := q.wt
      rw [Nat.add_mul]
      omega
theorem nx_list {k B : Nat} {ds : List PyData} (h : ∀ d ∈ ds, NX k B d) : NX (k + 1) (ds.length * (B + 1)) (.list ds) := by
  obtain ⟨a1, a2, a3, a5, a6⟩ := nx_all h
  exact ⟨by simp only [layE]; exact a1, by simp only [PyData.depth]; omega, by simp only [PyData.showable]; exact a3, by simp only [PyData.intsShort]; exact a5, by simp only [PyData.weight]; exact a6⟩
theorem nx_tuple {k B : Nat} {ds : List PyData} (h : ∀ d ∈ ds, NX k B d) : NX (k + 1) (ds.length * (B + 1)) (.tuple ds) := by
  obtain ⟨a1, a2, a3, a5, a6⟩ := nx_all h
  exact ⟨by simp only [layE]; exact a1, by simp only [PyData.depth]; omega, by simp only [PyData.showable]; exact a3, by simp only [PyData.intsShort]; exact a5, by simp only [PyData.weight]; exact a6⟩
theorem all_elem {k B : Nat} : ∀ {ds : List PyData}, layEAll ds = true → PyData.depthAll ds ≤ k → PyData.showableAll ds = true → PyData.intsShortAll 13 ds = true → PyData.weightAll ds ≤ B → (∀ d ∈ ds, NX k B d) ∧ ds.length ≤ B
  | [], _, _, _, _, _ => ⟨fun d m => (by cases m), Nat.zero_le _⟩
  | d :: ds, h1, h2, h3, h4, h5 => by
    simp only [layEAll, Bool.and_eq_true] at h1
    simp only [PyData.depthAll] at h2
    simp only [PyData.showableAll, Bool.and_eq_true] at h3
    simp only [PyData.intsShortAll, Bool.and_eq_true] at h4
    simp only [PyData.weightAll] at h5
    have m2 := Nat.max_le.mp h2
    obtain ⟨q1, q2⟩ := all_elem (k := k) (B := B - 1) h1.2 m2.2 h3.2 h4.2 (by omega)
    refine ⟨fun x m => ?_, by rw [List.length_cons]; omega⟩
    rcases List.mem_cons.mp m with e | e
    · rw [e]
      exact ⟨h1.1, m2.1, h3.1, h4.1, by omega⟩
    · exact (q1 x e).mono (Nat.le_refl _) (by omega)
theorem NX.list {k B : Nat} {ds : List PyData} (h : NX k B (.list ds)) : (∀ d ∈ ds, NX k B d) ∧ ds.length ≤ B := by
  obtain ⟨a, b, c, d, e⟩ := h
  simp only [layE] at a
  simp only [PyData.depth] at b
  simp only [PyData.showable] at c
  simp only [PyData.intsShort] at d
  simp only [PyData.weight] at e
  exact all_elem a (by omega) c d e
theorem NX.tuple {k B : Nat} {ds : List PyData} (h : NX k B (.tuple ds)) : (∀ d ∈ ds, NX k B d) ∧ ds.length ≤ B := by
  obtain ⟨a, b, c, d, e⟩ := h
  simp only [layE] at a
  simp only [PyData.depth] at b
  simp only [PyData.showable] at c
  simp only [PyData.intsShort] at d
  simp only [PyData.weight] at e
  exact all_elem a (by omega) c d e
theorem NX.str {k B : Nat} {z : Str} (h : NX k B (.str z)) : z.length ≤ B := by
  have := h.wt
  simp only [PyData.weight] at this
  exact this
theorem NX.shown {k B : Nat} {d : PyData} (h : NX k B d) (hk : k ≤ 64) (hB : B ≤ 2 ^ 20) : d.shown.length ≤ sizeLine :=
  PyData.shown_fits (B := 13) (by decide) (by decide) (leavesShort_of_layE d h.lay h.ish) (Nat.le_trans h.wt hB)
/-- the data that the functions are asked about -/
abbrev OkD (d : PyData) : Prop := NX 20 100000 d
theorem big100 {n : Nat} (h : n ≤ 100001) : n ≤ sizeLine := by
  rw [sizeLine_eq]
  omega
/-! ### what the functions answer -/
def itemD : PyData → Bool
  | .str z => decide (1 ≤ z.length ∧ z.length ≤ 8) && (z.cps.toList.map fun c => decide (c ∈ abc.cps.toList)).all id
  | _ => false
def wordD : PyData → Bool
  | .tuple ds => (ds.map itemD).all id
  | _ => false
def actD : PyData → Bool
  | .str z => decide (z = "push" ∨ z = "pop")
  | _ => false
def stpD : PyData → Bool
  | .tuple [a, b] => actD a && itemD b
  | _ => false
def seqD : PyData → Bool
  | .list ds => decide (ds.length ≤ 1000) && (ds.map stpD).all id
  | .tuple ds => decide (ds.length ≤ 1000) && (ds.map stpD).all id
  | _ => false
end SE
namespace SE
open PySem PySem.Spec PyProof.Rows L2
theorem bl_take {α : Type} {f : α → Bool} {l : List α} {j : Nat} {x : α} (h : l[j]? = some x) : ((l.take j).map f).map V.bl ++ [V.bl (f x)] = ((l.take (j + 1)).map f).map V.bl := by
  rw [List.take_add_one, h, List.map_append, List.map_append]
  rfl
theorem itemD_str (z : Str) : itemD (.str z) = (decide (1 ≤ z.length ∧ z.length ≤ 8) && (z.cps.toList.map fun c => decide (c ∈ abc.cps.toList)).all id) := rfl
section
variable {P : Program} {w : World} {K : PySem.W.Frag} {mg : Str → Option Value} {base : Heap}
/-! ### is_item, is_word -/
def spX (K : PySem.W.Frag) (f : PyData → Bool) : Sp := fun xs H Q _ => ∃ (v : V) (d : PyData), xs = [v] ∧ DpX K H v d ∧ OkD d ∧ ∀ H', Same H H' → Q (.bl (f d)) H'
theorem has_itemX (D : Def K mg "is_item" sIsItem) (B : Blt mg) (C : Cons K w mg) : Has P w K mg base "is_item" 1 ["value"] [] (spX K itemD) := by
  obtain ⟨tl, hL⟩ := C.let_
  obtain ⟨tm, hM⟩ := C.ml
  refine has_of D scIsItem (fun _ _ _ _ _ _ us hl => match us, hl with | [_], _ => rfl) (fun xs H Q E h => ?_) (fun f cv A out s H xs Q E hr h => ?_)
  · obtain ⟨v, d, rfl, _⟩ := h
    rfl
  · obtain ⟨v, d, rfl, hd, ok, k⟩ := h
    refine ⟨_, pss_cons (ps_if (PW.pt (pw_or (pt_not (pt_val (pe_callB call_isi (by rfl) B.isi (by decide +kernel) (pa_cons (pv 0) (pa_cons (pe_bltn (v := .ty "str") (by rfl) B.str (by decide +kernel) rfl) pa_nil)))))
        (pw_or1 (pt_not (pt_chain op_le op_le pe_int (pe_callB call_len_str (by rfl) B.len PySem.boot_len (pa_cons (pv 0) pa_nil)) (pe_glob (v := .int 8) rfl hM ⟨_, rfl⟩)))))) (pss_one (ps_ret pe_bl)) pss_nil)
      (pss_one (ps_ret (pe_callB (cr_all rfl) (by rfl) B.all (by decide +kernel) (pa_cons
        (pe_lc (own := [("letter", 1)]) (g := gName 1) (tt := tYes) rfl scIsItem.nd (pi_str (pv 0)) (blkOk_by (own := [("letter", 1)]) (N := ["value", "letter"]) (sc := defScope sIsItem) (by decide +kernel))
          (fun _ _ _ _ _ => pg_name (i := 1) scIsItem.nd rfl (.inl rfl)) (fun _ _ _ _ _ => pts_nil) (fun _ _ _ _ _ => pe_cmpR op_in_sign (pv 1) (pe_glob (v := .str abc) rfl hL ⟨_, rfl⟩) (by rfl))) pa_nil)))), ?_⟩
    refine ⟨_, rfl, _, .ty "str", .type (tyD d), .type "str", isStr d, rfl, .ty _, hd.ty, kit_str d, _, rfl, ?_⟩
    cases hd with
    | non => exact iteT (iteT (k H (Same.refl H)))
    | bl b => exact iteT (iteT (k H (Same.refl H)))
    | int i => exact iteT (iteT (k H (Same.refl H)))
    | lst _ _ => exact iteT (iteT (k H (Same.refl H)))
    | tup _ _ => exact iteT (iteT (k H (Same.refl H)))
    | emp _ => exact iteT (iteT (k H (Same.refl H)))
    | str z =>
      refine iteF ?_
      have zl : z.length ≤ 100000 := ok.str
      refine ⟨_, rfl, z, rfl, big100 (by omega), 1, _, rfl, rfl, _, rfl, ?_⟩
      by_cases p1 : 1 ≤ z.length
      · have e1 : decide ((1 : Int) ≤ (z.length : Int)) = true := decide_eq_true (by omega)
        rw [e1]
        refine iteT ⟨_, 8, rfl, rfl, _, rfl, ?_⟩
        by_cases p2 : z.length ≤ 8
        · have e2 : decide ((z.length : Int) ≤ 8) = true := decide_eq_true (by omega)
          rw [e2]
          refine iteF ?_
          have e3 : itemD (.str z) = (z.cps.toList.map fun c => decide (c ∈ abc.cps.toList)).all id := by
            rw [itemD_str, decide_eq_true ⟨p1, p2⟩, Bool.true_and]
          rw [e3] at k
          refine ⟨_, rfl, z, rfl, fun D hD => lc_it walk_str (fun j H2 => H2 D = some (.lst (((z.cps.toList.take j).map fun c => decide (c ∈ abc.cps.toList)).map V.bl)) ∧ Same H H2) ⟨upd_same, Same.new hD⟩ (fun _ _ _ _ => trivial) ?_ ?_⟩
          · rintro j x H2 H3 hj ⟨h2, s2⟩ ⟨rfl, c, hc, rfl⟩
            have q : z.cps.toList[j]? = some c := by rw [Array.getElem?_toList]; exact hc
            refine ⟨rfl, yes_in ⟨_, rfl, c, abc, rfl, rfl, _, h2, ?_, ?_, Same.free2 s2 hD⟩⟩
            · rw [List.length_map, List.length_map, List.length_take]
              exact small1000 (by have : j < z.length := hj; omega)
            · rw [upd_same, bl_take (f := fun c => decide (c ∈ abc.cps.toList)) q]
          · rintro H2 ⟨h2, s2⟩
            rw [List.take_of_length_le (by rw [Array.length_toList]; exact Nat.le_refl _)] at h2
            exact ⟨D, _, rfl, .of h2, k H2 s2⟩
        · have e2 : decide ((z.length : Int) ≤ 8) = false := decide_eq_false (by omega)
          rw [e2]
          have e3 : itemD (.str z) = false := by
            rw [itemD_str, decide_eq_false (fun q => p2 q.2), Bool.false_and]
          rw [e3] at k
          exact iteT (k H (Same.refl H))
      · have e1 : decide ((1 : Int) ≤ (z.length : Int)) = false := decide_eq_false (by omega)
        rw [e1]
        have e3 : itemD (.str z) = false := by
          rw [itemD_str, decide_eq_false (fun q => p1 q.1), Bool.false_and]
        rw [e3] at k
        exact iteF ⟨false, rfl, iteT (k H (Same.refl H))⟩
theorem has_wordX (D : Def K mg "is_word" sIsWord) (G : Has P w K mg base "is_item" 1 ["value"] [] (spX K itemD)) (B : Blt mg) : Has P w K mg base "is_word" 2 ["value"] [] (spX K wordD) := by
  refine has_of D scIsWord (fun _ _ _ _ _ _ us hl => match us, hl with | [_], _ => rfl) (fun xs H Q E h => ?_) (fun f cv A out s H xs Q E hr h => ?_)
  · obtain ⟨v, d, rfl, _⟩ := h
    rfl
  · obtain ⟨v, d, rfl, hd, ok, k⟩ := h
    refine ⟨_, pss_one (ps_ret (pe_and (pe_callB call_isi (by rfl) B.isi (by decide +kernel) (pa_cons (pv 0) (pa_cons (pe_bltn (v := .ty "tuple") (by rfl) B.tup (by decide +kernel) rfl) pa_nil)))
      (pe_one (pe_callB (cr_all rfl) (by rfl) B.all (by decide +kernel) (pa_cons
        (pe_lc (own := [("item", 1)]) (g := gName 1) (tt := tYes) (te := tCall (spX K itemD) [] E0 (tCons (tVar 1) tNil)) rfl scIsWord.nd (pi_tup (pv 0)) (blkOk_by (own := [("item", 1)]) (N := ["value", "item"]) (sc := defScope sIsWord) (by decide +kernel))
          (fun _ _ _ _ _ => pg_name (i := 1) scIsWord.nd rfl (.inl rfl)) (fun _ _ _ _ _ => pts_nil) (fun _ _ _ _ _ => pe_has G hr (pa_cons (pv 1) pa_nil))) pa_nil))))), ?_⟩
    refine ⟨_, rfl, _, .ty "tuple", .type (tyD d), .type "tuple", isTup d, rfl, .ty _, hd.ty, kit_tup d, _, rfl, ?_⟩
    cases hd with
    | non => exact iteF (k H (Same.refl H))
    | bl b => exact iteF (k H (Same.refl H))
    | int i => exact iteF (k H (Same.refl H))
    | str z => exact iteF (k H (Same.refl H))
    | lst _ _ => exact iteF (k H (Same.refl H))
    | emp _ => exact iteF (k H (Same.refl H))
    | @tup a xs ds hT ha =>
      refine iteT ?_
      obtain ⟨oks, ln⟩ := ok.tuple
      have le := ha.len
      refine ⟨_, rfl, a, rfl, ⟨_, hT⟩, fun D hD => lc_tup (K := K) (a := a) (xs := xs) (fun j H2 => H2 D = some (.lst (((ds.take j).map itemD).map V.bl)) ∧ Same H H2) ⟨upd_same, Same.new hD⟩ (fun _ _ _ q => Same.tup q.2 hT) ?_ ?_⟩
      · rintro j x H2 hj ⟨h2, s2⟩
        obtain ⟨e, he, hx⟩ := ha.at hj
        refine ⟨rfl, yes_in ⟨_, rfl, x, e, rfl, DpX.same s2 e x hx, oks e (List.mem_of_getElem? he), fun H3 s3 => ⟨_, s3 _ _ h2, ?_, ?_, Same.free2 (s2.trans s3) hD⟩⟩⟩
        · rw [List.length_map, List.length_map, List.length_take, sizeLine_eq]
          omega
        · rw [upd_same, bl_take he]
      · rintro H2 ⟨h2, s2⟩
        rw [le, List.take_length] at h2
        exact ⟨D, _, rfl, .of h2, k H2 s2⟩
end
end SE
namespace SE
open PySem PySem.Spec PyProof.Rows L2
def OppKeys : List DictEntry → Prop
  | [] => True
  | e :: r => (∃ x t, e.key = .str x t ∧ (x = ("push" : Str) ∨ x = ("pop" : Str))) ∧ OppKeys r
theorem opp_none {z : Str} (h1 : z ≠ "push") (h2 : z ≠ "pop") : ∀ {l : List DictEntry}, OppKeys l → l.find? (fun e => e.key.isStr z) = none ∧ l.any (fun e => e.refKey) = false
  | [], _ => ⟨rfl, rfl⟩
  | e :: r, ⟨⟨x, t, hk, hx⟩, q⟩ => by
    obtain ⟨q1, q2⟩ := opp_none h1 h2 q
    have e1 : e.key.isStr z = false := by
      rw [hk]
      have ne : x ≠ z := by
        rcases hx with hx | hx
        · rw [hx]; exact fun w => h1 w.symm
        · rw [hx]; exact fun w => h2 w.symm
      simpa [Value.isStr] using ne
    have e2 : e.refKey = false := by
      unfold DictEntry.refKey
      rw [hk]
    rw [List.find?_cons, e1, List.any_cons, e2]
    exact ⟨q1, q2⟩
/-- OPPOSITES and all its keys -/
def Opp2 (K : PySem.W.Frag) (w : World) (mg : Str → Option Value) : Prop := ∃ (d : Addr) (es : Array DictEntry) (n : Nat) (u v : Value), mg "OPPOSITES" = some (.ref d) ∧ KDict K w d es n ∧ PySem.W.nsIn K d "push" = some (some u) ∧ PySem.W.nsIn K d "pop" = some (some v) ∧ OppKeys es.toList
theorem opp_in {K : PySem.W.Frag} {w : World} {d : Addr} {es : Array DictEntry} {n : Nat} {u v : Value} (KD : KDict K w d es n) (n1 : PySem.W.nsIn K d "push" = some (some u)) (n2 : PySem.W.nsIn K d "pop" = some (some v)) (ok : OppKeys es.toList) (z : Str) :
    ∃ r, PySem.W.nsIn K d z = some r ∧ r.isSome = actD (.str z) := by
  by_cases h1 : z = "push"
  · subst h1
    exact ⟨_, n1, show true = actD (.str "push") by decide +kernel⟩
  by_cases h2 : z = "pop"
  · subst h2
    exact ⟨_, n2, show true = actD (.str "pop") by decide +kernel⟩
  obtain ⟨q1, q2⟩ := opp_none h1 h2 ok
  refine ⟨none, ?_, ?_⟩
  · unfold PySem.W.nsIn
    rw [KD.at_]
    dsimp only
    rw [q1]
    dsimp only
    rw [q2]
    rfl
  · show false = decide (z = "push" ∨ z = "pop")
    rw [decide_eq_false (fun q => q.elim h1 h2)]
section
variable {P : Program} {w : World} {K : PySem.W.Frag} {mg : Str → Option Value} {base : Heap}
/-! ### is_step -/
theorem has_stepX (D : Def K mg "is_step" sIsStep) (G : Has P w K mg base "is_item" 1 ["value"] [] (spX K itemD)) (B : Blt mg) (C : Opp2 K w mg) : Has P w K mg base "is_step" 2 ["value"] [] (spX K stpD) := by
  obtain ⟨d, es, n, u1, u2, hO, KD, n1, n2, okO⟩ := C
  refine has_of D scIsStep (fun _ _ _ _ _ _ us hl => match us, hl with | [_], _ => rfl) (fun xs H Q E h => ?_) (fun f cv A out s H xs Q E hr h => ?_)
  · obtain ⟨v, dd, rfl, _⟩ := h
    rfl
  · obtain ⟨v, dd, rfl, hd, ok, k⟩ := h
    refine ⟨_, pss_cons (ps_if (PW.pt (pw_or (pt_not (pt_val (pe_callB call_isi (by rfl) B.isi (by decide +kernel) (pa_cons (pv 0) (pa_cons (pe_bltn (v := .ty "tuple") (by rfl) B.tup (by decide +kernel) rfl) pa_nil)))))
        (pw_or1 (pt_cmpR op_ne (pe_callB call_len_seq (by rfl) B.len PySem.boot_len (pa_cons (pv 0) pa_nil)) pe_int (nomark _))))) (pss_one (ps_ret pe_bl)) pss_nil)
      (pss_cons (ps_asg (pv 0) (pg_tup (by rfl) (pgs_cons (pg_name (i := 1) scIsStep.nd rfl (.inl rfl)) (pgs_cons (pg_name (i := 2) scIsStep.nd rfl (.inl rfl)) pgs_nil))))
      (pss_one (ps_ret (pe_and (pe_callB call_isi (by rfl) B.isi (by decide +kernel) (pa_cons (pv 1) (pa_cons (pe_bltn (v := .ty "str") (by rfl) B.str (by decide +kernel) rfl) pa_nil)))
        (pe_and (pe_cmpR (op_in_kd KD) (pv 1) (pe_glob (v := .ref d) rfl hO rfl) (by rfl)) (pe_one (pe_has G hr (pa_cons (pv 2) pa_nil)))))))), ?_⟩
    refine ⟨_, rfl, _, .ty "tuple", .type (tyD dd), .type "tuple", isTup dd, rfl, .ty _, hd.ty, kit_tup dd, _, rfl, ?_⟩
    cases hd with
    | non => exact iteT (iteT (k H (Same.refl H)))
    | bl b => exact iteT (iteT (k H (Same.refl H)))
    | int i => exact iteT (iteT (k H (Same.refl H)))
    | str z => exact iteT (iteT (k H (Same.refl H)))
    | lst _ _ => exact iteT (iteT (k H (Same.refl H)))
    | emp _ => exact iteT (iteT (k H (Same.refl H)))
    | @tup t xs ds hT ha =>
      refine iteF ?_
      obtain ⟨oks, ln⟩ := ok.tuple
      have le := ha.len
      refine ⟨_, rfl, t, _, rfl, .inr hT, rfl, _, rfl, ?_⟩
      match ds, xs, ha, le, oks, k, hT with
      | [], _, .nil, _, _, k, _ => exact iteT (k H (Same.refl H))
      | [_], _, .cons _ .nil, _, _, k, _ => exact iteT (k H (Same.refl H))
      | [e1, e2], [x1, x2], .cons h1 (.cons h2 .nil), _, oks, k, hT =>
        refine iteF ?_
        refine ⟨_, rfl, t, _, rfl, hT, rfl, _, _, rfl, _, _, rfl, rfl, ?_⟩
        refine ⟨_, rfl, _, .ty "str", .type (tyD e1), .type "str", isStr e1, rfl, .ty _, h1.ty, kit_str e1, _, rfl, ?_⟩
        have k' : ∀ H', Same H H' → Q (.bl (actD e1 && itemD e2)) H' := k
        cases h1 with
        | non => exact iteF (k' H (Same.refl H))
        | bl b => exact iteF (k' H (Same.refl H))
        | int i => exact iteF (k' H (Same.refl H))
        | lst _ _ => exact iteF (k' H (Same.refl H))
        | tup _ _ => exact iteF (k' H (Same.refl H))
        | emp _ => exact iteF (k' H (Same.refl H))
        | str z =>
          refine iteT ?_
          obtain ⟨r, hr1, hr2⟩ := opp_in KD n1 n2 okO z
          refine ⟨_, rfl, z, r, rfl, rfl, hr1, r.isSome, rfl, ?_⟩
          rw [hr2]
          cases hz : actD (.str z) with
          | false =>
            rw [hz] at k'
            exact iteF (k' H (Same.refl H))
          | true =>
            rw [hz] at k'
            exact iteT ⟨_, rfl, x2, e2, rfl, h2, oks e2 (by simp), fun H' s' => k' H' s'⟩
      | _ :: _ :: _ :: ds, x1 :: x2 :: x3 :: xs, .cons _ (.cons _ (.cons _ _)), _, _, k, _ =>
        have hne : decide (V.int (((x1 :: x2 :: x3 :: xs).length : Nat) : Int) = V.int 2) = false := decide_eq_false (by
          intro q
          have q2 := V.int.inj q
          simp only [List.length_cons] at q2
          omega)
        rw [hne]
        exact iteT (k H (Same.refl H))
/-! ### may_hold_steps, is_sequence -/
def mayD : PyData → Bool
  | .list ds => decide (ds.length ≤ 1000)
  | .tuple ds => decide (ds.length ≤ 1000)
  | _ => false
theorem kit_lt {K : PySem.W.Frag} (d : PyData) : PySem.W.kitAny K (.type (tyD d)) [.type "list", .type "tuple"] = some (isLst d || isTup d) := by
  have a := kit_lst (K := K) d
  have b := kit_tup (K := K) d
  cases d with
  | list ds => exact kitAny_cons (b := true) a (fun z => (by cases z)) (fun _ => rfl)
  | tuple ds => exact kitAny_cons (b := false) a (fun _ => kitAny_cons (b := true) b (fun z => (by cases z)) (fun _ => rfl)) (fun z => (by cases z))
  | _ => exact kitAny_cons (b := false) a (fun _ => kitAny_cons (b := false) b (fun _ => rfl) (fun z => (by cases z))) (fun z => (by cases z))
theorem has_mayX (D : Def K mg "may_hold_steps" sMayHold) (B : Blt mg) (C : Cons K w mg) : Has P w K mg base "may_hold_steps" 1 ["value"] [] (spX K mayD) := by
  obtain ⟨tm, hM⟩ := C.ms
  refine has_of D scMay (fun _ _ _ _ _ _ us hl => match us, hl with | [_], _ => rfl) (fun xs H Q E h => ?_) (fun f cv A out s H xs Q E hr h => ?_)
  · obtain ⟨v, d, rfl, _⟩ := h
    rfl
  · obtain ⟨v, d, rfl, hd, ok, k⟩ := h
    refine ⟨_, pss_one (ps_ret (pe_and (pe_callB call_isiT (by rfl) B.isi (by decide +kernel) (pa_cons (pv 0) (pa_cons (pe_tup (pa_cons (pe_bltn (v := .ty "list") (by rfl) B.lst (by decide +kernel) rfl) (pa_cons (pe_bltn (v := .ty "tuple") (by rfl) B.tup (by decide +kernel) rfl) pa_nil))) pa_nil)))
      (pe_one (pe_cmpR op_le (pe_callB call_len_seq (by rfl) B.len PySem.boot_len (pa_cons (pv 0) pa_nil)) (pe_glob (v := .int 1000) rfl hM ⟨_, rfl⟩) (nomark _))))), ?_⟩
    refine ⟨_, rfl, (by show 2 ≤ sizeLine; decide), fun t ht => ?_⟩
    have s1 : Same H (upd H t (.tup [.ty "list", .ty "tuple"])) := Same.new ht
    have hd1 := DpX.same s1 d v hd
    refine ⟨_, t, _, .type (tyD d), _, isLst d || isTup d, rfl, upd_same, .cons (.ty _) (.cons (.ty _) .nil), hd1.ty, kit_lt d, _, rfl, ?_⟩
    have fin : ∀ (n : Nat), (V.bl (decide ((n : Int) ≤ 1000)) : V) = V.bl (decide (n ≤ 1000)) := fun n => by
      by_cases q : n ≤ 1000
      · rw [decide_eq_true q, decide_eq_true (by omega)]
      · rw [decide_eq_false q, decide_eq_false (by omega)]
    cases hd with
    | non => exact iteF (k _ s1)
    | bl b => exact iteF (k _ s1)
    | int i => exact iteF (k _ s1)
    | str z => exact iteF (k _ s1)
    | emp _ => exact iteF (k _ s1)
    | @tup a xs ds hT ha =>
      refine iteT ⟨_, rfl, a, xs, rfl, .inr (Same.tup s1 hT), _, 1000, rfl, rfl, ?_⟩
      show Q (V.bl (decide ((xs.length : Int) ≤ 1000))) _
      rw [fin, ha.len]
      exact k _ s1
    | @lst a xs ds hT ha =>
      refine iteT ⟨_, rfl, a, xs, rfl, .inl (Same.seq s1 hT), _, 1000, rfl, rfl, ?_⟩
      show Q (V.bl (decide ((xs.length : Int) ≤ 1000))) _
      rw [fin, ha.len]
      exact k _ s1
end
end SE
/-! Exceptions of own classes below ValueError, each with one field. -/
namespace SE
open PySem PySem.Spec PyProof.Rows L2
section
variable {P : Program} {w : World} {K : PySem.W.Frag} {mg : Str → Option Value} {base : Heap}
/-- a def that may raise keeps the promise sp -/
def HasX (P : Program) (w : World) (K : PySem.W.Frag) (mg : Str → Option Value) (base : Heap) (x : Str) (k : Nat) (ps : List Str) (dvs : List V) (sp : Sp) : Prop :=
  ∃ f fd ds, FnOk P w K mg base (L2.CX P w) k f fd ps sp ∧ mg x = some (.ref f) ∧ PySem.W.keepIn K (.ref f) = true ∧ Binds K fd ps ds ∧ Vals dvs ds ∧ ∃ st, Fun K x x st f fd
abbrev BxX (P : Program) (w : World) (K : PySem.W.Frag) (mg : Str → Option Value) (base : Heap) (N : List Str) (x : Str) (st : Stmt) (f : Addr) (cv : Value) (A : Around) (out : List Env) (s : Shared) (H : Hp) (E : XK) : Cx :=
  cxOf (L2.CX P w) P w K mg base N x (defScope st) f cv A out s H E
theorem hasX_of {x : Str} {st : Stmt} {N ps : List Str} {k : Nat} {sp : Sp} (D : Def K mg x st) (S : FnScope N ps (defScope st))
    (hb : ∀ (kV doc pm : Value) (an : Option Addr) (cv ct : Value) (us : List Value), us.length = ps.length → bindArgs (PySem.W.fnOf x x (defArgs st) (defBody st) (defScope st) .none kV doc pm an cv ct) ⟨us, []⟩ = pure (ps.zip us))
    (len : ∀ xs H Q E, sp xs H Q E → xs.length = ps.length)
    (hbd : ∀ (f : Addr) (cv : Value) (A : Around) (out : List Env) (s : Shared) (H : Hp) (xs : List V) (Q : VK) (E : XK), Room k (A.deeper (envOfC x (defScope st) s.heap.objs.size f cv)) → sp xs H Q E →
      ∃ t, PSs (BxX P w K mg base N x st f cv A out s H E) (defBody st) t ∧ t { nx := fun _ H2 => Q .non H2, rt := Q } (start N xs) H) : HasX P w K mg base x (k + 1) ps [] sp := by
  obtain ⟨f, fd, F, hm⟩ := D
  exact ⟨f, fd, [], F.okX S len fun cv A out s H xs Q E hr h => hbd f cv A out s H xs Q E hr h, hm, F.kp, F.binds hb, .nil, st, F⟩
/-- what stands in a def that may raise: its own way out -/
theorem tkX {N : List Str} {x : Str} {st : Stmt} {f : Addr} {cv : Value} {A : Around} {out : List Env} {s : Shared} {H : Hp} {E : XK} : Takes (BxX P w K mg base N x st f cv A out s H E) (fun cls d _ H => E cls d H) := takes_of rfl rfl rfl rfl
end
section
variable {X : Cx} {k : Nat} {ps : List Str} {sp : Sp} {x : Str} {p pos : Pos} {e : Expr} {es : List Expr} {t : TA} {dvs : List V} {E : XK} {W : WX}
/-- a call whose exceptions leave the def that calls -/
theorem pe_hasX (h : HasX X.prog X.w X.K X.mg X.base x k ps dvs sp) (hr : Room k X.A) (tk : Takes X (fun cls d _ H => E cls d H)) (ha : PA X (e :: es) t) (hg : Gl X x := by rfl) (hdb : (x == ("__debug__" : Str)) = false := by decide)
    (he : starEach (e :: es) X.env = (false, eval e X.env) :: starEach es X.env := by rfl) (hpl : (backTo pos (starEach es X.env)).any (·.1) = false := by rfl) : PE X (.Call (.Name x p) (e :: es) [] pos) (tCall sp dvs E t) := by
  obtain ⟨f, fd, ds, F, hm, hk, hb, hd, _⟩ := h
  exact pe_call F hr hg hm hk hb hd (passes_call tk fun _ _ _ _ z => z) ha hdb he hpl
/-- a call within a try -/
theorem pe_hasS (h : HasX X.prog X.w X.K X.mg X.base x k ps [] sp) (hr : Room k X.A) (tk : Takes X W) (ha : PA X (e :: es) t) (hg : Gl X x := by rfl) (hdb : (x == ("__debug__" : Str)) = false := by decide)
    (he : starEach (e :: es) X.env = (false, eval e X.env) :: starEach es X.env := by rfl) (hpl : (backTo pos (starEach es X.env)).any (·.1) = false := by rfl) : PE X (.Call (.Name x p) (e :: es) [] pos) (tCallS sp (WE W) t) := by
  obtain ⟨f, fd, ds, F, hm, hk, hb, hd, _⟩ := h
  cases hd
  exact pe_callS F hr hg hm hk hb (fun σ => passAt tk σ) ha hdb he hpl
end
/-! ### a class of exceptions -/
def spXI (K : PySem.W.Frag) (C : Addr) (f : Str) : Sp := fun xs H Q _ => ∃ (a : Addr) (v : V), xs = [.ref a, v] ∧ H a = some (exo a C none) ∧ ∀ dx, H dx = none → dx ≠ a → Q .non (upd (upd H dx (exd dx [(f, v)])) a (exo a C (some dx)))
/-- what the written part says of the class at C, whose __init__ sets the field f -/
structure XcC (P : Program) (w : World) (K : PySem.W.Frag) (mg : Str → Option Value) (base : Heap) (x f : Str) (C : Addr) : Prop where
  oex : OexC K C
  gC : mg x = some (.ref C)
  init : ∃ fI fd, PySem.W.findIn K (.ref C) "__init__" = some (some (.ref fI)) ∧ PySem.W.typeIn K (.ref fI) = some (.type "function") ∧ FnOk P w K mg base CX0 1 fI fd ["self", f] (spXI K C f) ∧ Binds K fd ["self", f] []
  xf : XfC K C
  noF : PySem.W.findIn K (.ref C) f = some none
  ha : PySem.W.findIn K (.ref C) "__class__" = some (some (.builtin "object.__class__"))
  hn : PySem.W.specialIn K (.builtin "object.__class__") "__get__" = some (some (.builtin "getset_descriptor.__get__"))
  ht : PySem.W.takesIn K (.builtin "object.__class__") = some true
  hm : PySem.W.mroIn K C (.type "object") = some true
  te : PySem.W.exmOne K (.ref C) (.ref C) = some true
/-- __init__ -/
theorem init_ok {P : Program} {w : World} {K : PySem.W.Frag} {mg : Str → Option Value} {base : Heap} {q f : Str} {C : Addr} {st : Stmt} {fI : Addr} {fd : FuncData} {p1 p2 p3 p4 : Pos} (F : Fun K "__init__" q st fI fd) (S : FnScope ["self", f] ["self", f] (defScope st)) (T : OexC K C) (noF : PySem.W.findIn K (.ref C) f = some none)
    (hb : defBody st = [.Assign [.Attribute (.Name "self" p1) f p2] (.Name f p3) p4])
    (v0 : Vis (defScope st) "self") (v1 : Vis (defScope st) f) (hdb : (f == ("__debug__" : Str)) = false) (hcd : (f == ("__classdict__" : Str)) = false) : FnOk P w K mg base CX0 1 fI fd ["self", f] (spXI K C f) := by
  refine F.ok S (fun xs H Q E h => ?_) (fun cv A out s H xs Q E hr h => ?_)
  · obtain ⟨a, v, rfl, _⟩ := h
    rfl
  · obtain ⟨a, v, rfl, ha, k⟩ := h
    rw [hb]
    refine ⟨_, pss_one (ps_ost (pe_var (i := 0) rfl v0) (pe_var (i := 1) rfl v1 (hd := hdb) (hcd := hcd))), ?_⟩
    exact ⟨_, rfl, _, rfl, a, C, rfl, T, noF, .inl ⟨ha, fun dx nd ne => k dx nd ne⟩⟩
section
variable {X : Cx} {C : Addr} {x f : Str}
theorem mk_heap {H1 : Hp} {a d C : Addr} {f : Str} {v : V} (na : H1 a = none) (nd : d ≠ a) : upd (del (upd (upd (upd H1 a (exo a C none)) d (exd d [(f, v)])) a (exo a C (some d))) a) d (.xd [(f, v)]) = upd H1 d (.xd [(f, v)]) := by
  funext b
  by_cases e : b = d
  · subst e
    rw [upd_same, upd_same]
  · rw [upd_ne e, upd_ne e]
    by_cases e2 : b = a
    · subst e2
      rw [del_same, na]
    · rw [del_ne e2, upd_ne e2, upd_ne e, upd_ne e2]
theorem mk_red {K : PySem.W.Frag} {H1 : Hp} {v : V} {Q : XK} (h : ∀ d, H1 d = none → Q (.ref C) (some d) (upd H1 d (.xd [(f, v)]))) :
    ([v] : List V).length ≤ 1000 ∧ ∀ a, H1 a = none → spXI K C f (.ref a :: ([v] ++ [])) (upd H1 a (exo a C none))
      (fun u H2 => u = .non ∧ ∃ (d : Addr) (fs : List (Str × V)), H2 a = some (exo a C (some d)) ∧ H2 d = some (exd d fs) ∧ H1 d = none ∧ Q (.ref C) (some d) (upd (del H2 a) d (.xd fs))) (fun _ _ _ => False) := by
  refine ⟨(by decide : 1 ≤ 1000), fun a na => ⟨a, v, rfl, upd_same, fun d nd ne => ⟨rfl, d, [(f, v)], upd_same, ?_, ?_, ?_⟩⟩⟩
  · rw [upd_ne ne]
    exact upd_same
  · rw [upd_ne ne] at nd
    exact nd
  · rw [mk_heap na ne]
    rw [upd_ne ne] at nd
    exact h d nd
/-- C(e): behind the argument mk_red -/
theorem pmk_x {e : Expr} {ta : TA} {p pos : Pos} (T : XcC X.prog X.w X.K X.mg X.base x f C) (hr : Room 2 X.A) (ha : PA X [e] ta) (hg : Gl X x := by rfl)
    (hdb : (x == ("__debug__" : Str)) = false := by decide) (he : starEach (e :: []) X.env = (false, eval e X.env) :: starEach [] X.env := by rfl) (hpl : (backTo pos (starEach [] X.env)).any (·.1) = false := by rfl) :
    PMk X (.Call (.Name x p) [e] [] pos) (tMkO C (spXI X.K C f) [] ta) := by
  obtain ⟨fI, fd, i1, i2, i3, i4⟩ := T.init
  exact pmk_oex (CX := CX0) T.oex i1 i2 i3 hr i4 .nil pass0 hg T.gC ha hdb he hpl
theorem ps_raiseX {W : WX} {e : Expr} {ta : TA} {p pos pos2 : Pos} (hc : X.calm = true) (T : XcC X.prog X.w X.K X.mg X.base x f C) (hr : Room 2 X.A) (tk : Takes X W) (ha : PA X [e] ta) (hg : Gl X x := by rfl)
    (hdb : (x == ("__debug__" : Str)) = false := by decide) (he : starEach (e :: []) X.env = (false, eval e X.env) :: starEach [] X.env := by rfl) (hpl : (backTo pos (starEach [] X.env)).any (·.1) = false := by rfl) :
    PS X (.Raise (some (.Call (.Name x p) [e] [] pos)) none pos2) (fun _ σ H => tMkO C (spXI X.K C f) [] ta σ H fun cls d H' => W cls d σ H') := ps_raise hc tk (pmk_x T hr ha hg hdb he hpl)
/-- isinstance(e, c), e the exception that the suite holds -/
def rIsX (K : PySem.W.Frag) (C a : Addr) (cls : Value) (d : Option Addr) : List V → Hp → VK → Prop := fun xs H Q => ∃ (c : V) (cv : Value) (b : Bool) (dd : Addr) (fs : List (Str × V)), xs = [.ref a, c] ∧ cls = .ref C ∧ (∀ u, RelV c u → u = cv) ∧ PySem.W.kitOne K (.ref C) cv = some b ∧ d = some dd ∧ H dd = some (.xd fs) ∧ Q (.bl b) H
theorem call_isX {a : Addr} {oe : Obj} {cls : Value} {d : Option Addr} {pn : List (Addr × Obj)} (T : XcC X.prog X.w X.K X.mg X.base x f C) (hz : Zc cls d oe) (hf : ∃ vs, oe.data = .fields vs) : CallR (X.suite a ((a, oe) :: pn)) (.builtin "isinstance") (rIsX X.K C a cls d) := by
  intro pins s σ H xs us Q I r h
  obtain ⟨c, cv, b, dd, fs, rfl, rfl, hcv, e, rfl, hH, q⟩ := h
  cases r with
  | cons rx rr =>
    cases rr with
    | cons rt rr =>
      cases rr
      cases rx
      have ec := hcv _ rt
      subst ec
      obtain ⟨hget, _⟩ := I.pin (a, oe) (List.mem_append.mpr (.inl List.mem_cons_self))
      obtain ⟨vs, hv⟩ := hf
      have hx : ObjOk X.prog X.w H s.heap dd (.xd fs) := I.hok dd _ hH
      obtain ⟨mA, hns, hr⟩ := hx
      obtain ⟨od, ho, hl⟩ := lookIn_ns hns
      have J : PySem.W.InstAt s.heap a oe C (some od) := ⟨hget, hz.1, by unfold PySem.W.notCls; rw [hv] <;> rfl, by rw [hz.2]; exact ho⟩
      have hcl : (PySem.W.clsIn X.K C).isSome = true := by
        obtain ⟨cd, hc, _⟩ := PySem.W.any_some T.xf.hdC
        rw [hc]
        rfl
      exact PySem.W.kia_one (PySem.W.kitx_exc hcl T.xf.ga T.xf.gg T.xf.exC T.ha T.hn T.ht T.hm) I.kIn J e (fun z => nomatch z) fun tk => ⟨.bl b, H, I.kept (t' := tk) fun _ _ z => z, rfl, q⟩
end
end SE
namespace SE
open PySem PySem.Spec PyProof.Rows L2
def nstB : PyData → Bool
  | .tuple [a, n, i] => itemD n && (actD a && itemD i)
  | _ => false
/-- steps that are refused, and what the refusal names -/
def BadN (d : PyData) (r : V) : Prop := (mayD d = false ∧ r = .non) ∨
  ∃ ds j x, (d = .list ds ∨ d = .tuple ds) ∧ ds.length ≤ 1000 ∧ ds[j]? = some x ∧ nstB x = false ∧ (∀ i y, i < j → ds[i]? = some y → nstB y = true) ∧ (∀ i y, i ≤ j → ds[i]? = some y → NX 10 1000 y) ∧ r = .int (j : Nat)
def badI (C : Addr) (H : Hp) (v : V) (E : XK) : Prop := ∀ (dd : Addr) (H' : Hp), Same H H' → H dd = none → H' dd = some (.xd [("index", v)]) → E (.ref C) (some dd) H'
theorem badI.go {C : Addr} {H H1 : Hp} {v : V} {E : XK} (h : badI C H v E) (s : Same H H1) : badI C H1 v E := fun dd H' s' n e => h dd H' (s.trans s') (s.free n) e
section
variable {P : Program} {w : World} {K : PySem.W.Frag} {mg : Str → Option Value} {base : Heap}
def spNX (K : PySem.W.Frag) : Sp := fun xs H Q _ => ∃ (v : V) (d : PyData), xs = [v] ∧ DpX K H v d ∧ NX 10 1000 d ∧ ∀ H', Same H H' → Q (.bl (nstB d)) H'
theorem has_isNX (D : Def K mg "is_named_step" sIsNamedStep) (GI : Has P w K mg base "is_item" 1 ["value"] [] (spX K itemD)) (GS : Has P w K mg base "is_step" 2 ["value"] [] (spX K stpD)) (B : Blt mg) : Has P w K mg base "is_named_step" 3 ["value"] [] (spNX K) := by
  refine has_of D scIn' (fun _ _ _ _ _ _ us hl => match us, hl with | [_], _ => rfl) (fun xs H Q E h => ?_) (fun f cv A out s H xs Q E hr h => ?_)
  · obtain ⟨v, d, rfl, _⟩ := h
    rfl
  · obtain ⟨v, d, rfl, hd, ok, k⟩ := h
    have hr1 : Room 1 _ := hr.mono (by decide)
    refine ⟨_, pss_cons (ps_if (PW.pt (pw_or (pt_not (pt_val (pe_callB call_isi (by rfl) B.isi (by decide +kernel) (pa_cons (pv 0) (pa_cons (pe_bltn (v := .ty "tuple") (by rfl) B.tup (by decide +kernel) rfl) pa_nil)))))
        (pw_or1 (pt_cmpR op_ne (pe_callB call_len_seq (by rfl) B.len PySem.boot_len (pa_cons (pv 0) pa_nil)) pe_int (nomark _))))) (pss_one (ps_ret pe_bl)) pss_nil)
      (pss_cons (ps_asg (pv 0) (pg_tup (by rfl) (pgs_cons (pg_name (i := 1) scIn'.nd rfl (.inl rfl)) (pgs_cons (pg_name (i := 2) scIn'.nd rfl (.inl rfl)) (pgs_cons (pg_name (i := 3) scIn'.nd rfl (.inl rfl)) pgs_nil)))))
      (pss_one (ps_ret (pe_and (pe_has GI hr1 (pa_cons (pv 2) pa_nil)) (pe_one (pe_has GS hr (pa_cons (pe_tup (pa_cons (pv 1) (pa_cons (pv 3) pa_nil))) pa_nil))))))), ?_⟩
    refine ⟨_, rfl, _, .ty "tuple", .type (tyD d), .type "tuple", isTup d, rfl, .ty _, hd.ty, kit_tup d, _, rfl, ?_⟩
    cases hd with
    | non => exact iteT (iteT (k H (Same.refl H)))
    | bl b => exact iteT (iteT (k H (Same.refl H)))
    | int i => exact iteT (iteT (k H (Same.refl H)))
    | str z => exact iteT (iteT (k H (Same.refl H)))
    | lst _ _ => exact iteT (iteT (k H (Same.refl H)))
    | emp _ => exact iteT (iteT (k H (Same.refl H)))
    | @tup t xs ds hT ha =>
      refine iteF ?_
      obtain ⟨oks, ln⟩ := ok.tuple
      have le := ha.len
      refine ⟨_, rfl, t, _, rfl, .inr hT, rfl, _, rfl, ?_⟩
      match ds, xs, ha, le, oks, k, hT with
      | [], _, .nil, _, _, k, _ => exact iteT (k H (Same.refl H))
      | [_], _, .cons _ .nil, _, _, k, _ => exact iteT (k H (Same.refl H))
      | [_, _], _, .cons _ (.cons _ .nil), _, _, k, _ => exact iteT (k H (Same.refl H))
      | [e1, e2, e3], [x1, x2, x3], .cons h1 (.cons h2 (.cons h3 .nil)), _, oks, k, hT =>
        refine iteF ?_
        refine ⟨_, rfl, t, _, rfl, hT, rfl, _, _, rfl, _, _, rfl, _, _, rfl, rfl, ?_⟩
        have k' : ∀ H', Same H H' → Q (.bl (itemD e2 && (actD e1 && itemD e3))) H' := k
        refine ⟨_, rfl, x2, e2, rfl, h2, (oks e2 (by simp)).mono (by decide) (by decide), fun H1 s1 => ⟨itemD e2, rfl, ?_⟩⟩
        cases hz : itemD e2 with
        | false =>
          rw [hz] at k'
          exact iteF (k' H1 s1)
        | true =>
          rw [hz] at k'
          refine iteT ⟨_, rfl, _, rfl, (by show 2 ≤ sizeLine; decide), fun u hu => ?_⟩
          have su := s1.trans (Same.new (o := .tup [x1, x3]) hu)
          have nx : NX 11 2002 (.tuple [e1, e3]) := nx_tuple (k := 10) (B := 1000) (ds := [e1, e3]) fun z m => by
            rcases List.mem_cons.mp m with q | q
            · rw [q]; exact oks e1 (by simp)
            · rw [List.mem_singleton.mp q]; exact oks e3 (by simp)
          exact ⟨.ref u, .tuple [e1, e3], rfl, .tup (.of upd_same) (.cons (DpX.same su _ _ h1) (.cons (DpX.same su _ _ h3) .nil)), nx.mono (by decide) (by decide), fun H2 s2 => k' H2 (su.trans s2)⟩
      | _ :: _ :: _ :: _ :: ds, x1 :: x2 :: x3 :: x4 :: xs, .cons _ (.cons _ (.cons _ (.cons _ _))), _, _, k, _ =>
        have hne : decide (V.int (((x1 :: x2 :: x3 :: x4 :: xs).length : Nat) : Int) = V.int 3) = false := decide_eq_false (by
          intro q
          have q2 := V.int.inj q
          simp only [List.length_cons] at q2
          omega)
        rw [hne]
        exact iteT (k H (Same.refl H))
/-! ### check_named_steps, of what is refused -/
def spBadS (K : PySem.W.Frag) (C : Addr) : Sp := fun xs H Q E => ∃ (v : V) (d : PyData) (r : V), xs = [v] ∧ DpX K H v d ∧ OkD d ∧ BadN d r ∧ badI C H r E
theorem hasX_chkN {C : Addr} (D : Def K mg "check_named_steps" sCheckNamedSteps) (GM : Has P w K mg base "may_hold_steps" 1 ["value"] [] (spX K mayD)) (GS : Has P w K mg base "is_named_step" 3 ["value"] [] (spNX K)) (T : XcC P w K mg base "InvalidSteps" "index" C) (B : Blt mg) : HasX P w K mg base "check_named_steps" 4 ["steps"] [] (spBadS K C) := by
  refine hasX_of D scCn (fun _ _ _ _ _ _ us hl => match us, hl with | [_], _ => rfl) (fun xs H Q E h => ?_) (fun f cv A out s H xs Q E hr h => ?_)
  · obtain ⟨v, d, r, rfl, _⟩ := h
    rfl
  · obtain ⟨v, d, r, rfl, hd, ok, hb, k⟩ := h
    have hr1 : Room 1 _ := hr.mono (by decide)
    have hr2 : Room 2 _ := hr.mono (by decide)
    have tail : ∀ {ds : List PyData} {ys : List V} {j : Nat} {x : PyData}, DpXs K H ys ds → ds[j]? = some x → nstB x = false → (∀ i y, i < j → ds[i]? = some y → nstB y = true) → (∀ i y, i ≤ j → ds[i]? = some y → NX 10 1000 y) → ∀ {i : Nat} {y : V} {H2 : Hp}, ys[i]? = some y → i ≤ j → Same H H2 → ∃ e, DpX K H2 y e ∧ NX 10 1000 e ∧ (i < j → nstB e = true) ∧ (i = j → nstB e = false) := by
      intro ds ys j x hV hj hx hg hn i y H2 hy hi s2
      obtain ⟨e, he, hD⟩ := hV.at hy
      refine ⟨e, DpX.same s2 _ _ hD, hn i e hi he, fun q => hg i e q he, fun q => ?_⟩
      rw [q, hj] at he
      cases he
      exact hx
    rcases hb with ⟨hm, rfl⟩ | ⟨ds, j, x, hds, hl, hj, hx, hg, hn, rfl⟩
    · refine ⟨_, pss_cons (ps_if (pt_not (pt_val (pe_has GM hr1 (pa_cons (pv 0) pa_nil)))) (pss_one (ps_raiseX rfl T hr2 tkX (pa_cons pe_non pa_nil))) pss_nil) pss_never, ?_⟩
      refine ⟨_, rfl, v, d, rfl, hd, ok, fun H1 s1 => ⟨mayD d, rfl, ?_⟩⟩
      rw [hm]
      exact iteT (mk_red fun dd hdd => k dd _ (s1.trans (Same.new hdd)) (s1.free hdd) upd_same)
    · have hm : mayD d = true := by
        rcases hds with q | q
        · rw [q]; exact decide_eq_true hl
        · rw [q]; exact decide_eq_true hl
      have jl := (List.getElem?_eq_some_iff.mp hj).1
      rcases hds with rfl | rfl
      · refine ⟨_, pss_cons (ps_if (pt_not (pt_val (pe_has GM hr1 (pa_cons (pv 0) pa_nil)))) (pss_one (ps_raiseX rfl T hr2 tkX (pa_cons pe_non pa_nil))) pss_nil)
          (pss_one (ps_for (passes_of rfl) rfl (pi_enum (by rfl) B.enu (pa_cons (pv 0) pa_nil)) (pg_tup (by rfl) (pgs_cons (pg_name (i := 1) scCn.nd rfl (.inl rfl)) (pgs_cons (pg_name (i := 2) scCn.nd rfl (.inl rfl)) pgs_nil)))
            (pss_one (ps_if (pt_not (pt_val (pe_has GS hr (pa_cons (pv 2) pa_nil)))) (pss_one (ps_raiseX rfl T hr2 tkX (pa_cons (pv 1) pa_nil))) pss_nil)))), ?_⟩
        refine ⟨_, rfl, v, _, rfl, hd, ok, fun H1 s1 => ⟨mayD (.list ds), rfl, ?_⟩⟩
        rw [hm]
        cases hd with
        | @lst a ys _ hS hV =>
        have ly := hV.len
        refine iteF ⟨_, rfl, a, ys, rfl, Same.seq s1 hS, for_it (walk_enum (K := K) (a := a) (xs := ys)) (fun i σ H2 => ∃ y1 y2, σ = [some (.ref a), y1, y2] ∧ Same H H2 ∧ i ≤ j) ⟨none, none, rfl, s1, Nat.zero_le _⟩ (fun i σ H2 _ q => ?_) ?_ ?_⟩
        · obtain ⟨_, _, _, s2, _⟩ := q
          exact Same.seq s2 hS
        · rintro i x σ H2 H3 hi ⟨y1, y2, rfl, s2, ij⟩ ⟨T', p, y, rfl, nT, rfl, hp, hy⟩
          cases Option.some.inj hp
          refine ⟨T', _, rfl, .of upd_same, rfl, _, _, rfl, _, _, rfl, rfl, ?_⟩
          have s3 : Same H (upd H2 T' (.tup [.int (i : Nat), y])) := Same.free2 s2 (s2.free nT)
          obtain ⟨e, h1, h2, h3, h4⟩ := tail hV hj hx hg hn hy ij s3
          refine ⟨_, rfl, y, e, rfl, h1, h2, fun H4 s4 => ⟨nstB e, rfl, ?_⟩⟩
          have s5 := s3.trans s4
          by_cases c : i = j
          · rw [h4 c]
            refine iteT ⟨_, rfl, mk_red fun dd hdd => ?_⟩
            rw [c] at *
            exact k dd _ (s5.trans (Same.new hdd)) (s5.free hdd) upd_same
          · rw [h3 (by omega)]
            exact iteF ⟨_, _, rfl, s5, by omega⟩
        · rintro σ H2 ⟨y1, y2, rfl, s2, ij⟩
          omega
      · refine ⟨_, pss_cons (ps_if (pt_not (pt_val (pe_has GM hr1 (pa_cons (pv 0) pa_nil)))) (pss_one (ps_raiseX rfl T hr2 tkX (pa_cons pe_non pa_nil))) pss_nil)
          (pss_one (ps_for (passes_of rfl) rfl (pi_enumT (by rfl) B.enu (pa_cons (pv 0) pa_nil)) (pg_tup (by rfl) (pgs_cons (pg_name (i := 1) scCn.nd rfl (.inl rfl)) (pgs_cons (pg_name (i := 2) scCn.nd rfl (.inl rfl)) pgs_nil)))
            (pss_one (ps_if (pt_not (pt_val (pe_has GS hr (pa_cons (pv 2) pa_nil)))) (pss_one (ps_raiseX rfl T hr2 tkX (pa_cons (pv 1) pa_nil))) pss_nil)))), ?_⟩
        refine ⟨_, rfl, v, _, rfl, hd, ok, fun H1 s1 => ⟨mayD (.tuple ds), rfl, ?_⟩⟩
        rw [hm]
        cases hd with
        | @tup a ys _ hS hV =>
        have ly := hV.len
        refine iteF ⟨_, rfl, a, ys, rfl, Same.tup s1 hS, for_it (walk_enumT (K := K) (a := a) (xs := ys)) (fun i σ H2 => ∃ y1 y2, σ = [some (.ref a), y1, y2] ∧ Same H H2 ∧ i ≤ j) ⟨none, none, rfl, s1, Nat.zero_le _⟩ (fun i σ H2 _ q => ?_) ?_ ?_⟩
        · obtain ⟨_, _, _, s2, _⟩ := q
          exact Same.tup s2 hS
        · rintro i x σ H2 H3 hi ⟨y1, y2, rfl, s2, ij⟩ ⟨T', p, y, rfl, nT, rfl, hp, hy⟩
          cases Option.some.inj hp
          refine ⟨T', _, rfl, .of upd_same, rfl, _, _, rfl, _, _, rfl, rfl, ?_⟩
          have s3 : Same H (upd H2 T' (.tup [.int (i : Nat), y])) := Same.free2 s2 (s2.free nT)
          obtain ⟨e, h1, h2, h3, h4⟩ := tail hV hj hx hg hn hy ij s3
          refine ⟨_, rfl, y, e, rfl, h1, h2, fun H4 s4 => ⟨nstB e, rfl, ?_⟩⟩
          have s5 := s3.trans s4
          by_cases c : i = j
          · rw [h4 c]
            refine iteT ⟨_, rfl, mk_red fun dd hdd => ?_⟩
            rw [c] at *
            exact k dd _ (s5.trans (Same.new hdd)) (s5.free hdd) upd_same
          · rw [h3 (by omega)]
            exact iteF ⟨_, _, rfl, s5, by omega⟩
        · rintro σ H2 ⟨y1, y2, rfl, s2, ij⟩
          omega
/-! ### the four doors -/
theorem hasX_split {C : Addr} (D : Def K mg "split" sSplit) (GC : HasX P w K mg base "check_named_steps" 4 ["steps"] [] (spBadS K C)) : HasX P w K mg base "split" 5 ["steps"] [] (spBadS K C) := by
  refine hasX_of D scSp' (fun _ _ _ _ _ _ us hl => match us, hl with | [_], _ => rfl) (fun xs H Q E h => ?_) (fun f cv A out s H xs Q E hr h => ?_)
  · obtain ⟨v, d, r, rfl, _⟩ := h
    rfl
  · obtain ⟨v, d, r, rfl, hd, ok, hb, k⟩ := h
    exact ⟨_, pss_cons (ps_expr (pe_hasX GC hr tkX (pa_cons (pv 0) pa_nil))) pss_never, ⟨_, rfl, v, d, r, rfl, hd, ok, hb, k⟩⟩
def spBadR (K : PySem.W.Frag) (C : Addr) : Sp := fun xs H Q E => ∃ (v : V) (d : PyData) (r u : V), xs = [v, u] ∧ DpX K H v d ∧ OkD d ∧ BadN d r ∧ badI C H r E
theorem scRa5 : FnScope ["steps", "stacks", "parts", "name", "results", "failed"] ["steps", "stacks"] (defScope sRunAll) := ⟨rfl, rfl, rfl, by decide +kernel, rfl, by decide +kernel, by decide +kernel⟩
theorem hasX_rall {C : Addr} (D : Def K mg "run_all" sRunAll) (GC : HasX P w K mg base "split" 5 ["steps"] [] (spBadS K C)) : HasX P w K mg base "run_all" 6 ["steps", "stacks"] [] (spBadR K C) := by
  refine hasX_of D scRa5 (fun _ _ _ _ _ _ us hl => match us, hl with | [_, _], _ => rfl) (fun xs H Q E h => ?_) (fun f cv A out s H xs Q E hr h => ?_)
  · obtain ⟨v, d, r, u, rfl, _⟩ := h
    rfl
  · obtain ⟨v, d, r, u, rfl, hd, ok, hb, k⟩ := h
    exact ⟨_, pss_cons (ps_set (i := 2) scRa5.nd rfl (.inl rfl) (pe_hasX GC hr tkX (pa_cons (pv 0) pa_nil))) pss_never, ⟨_, rfl, v, d, r, rfl, hd, ok, hb, k⟩⟩
end
end SE
/-! Small data with great ints; its kinds; len(set(ints)) with duplicates. -/
namespace SE
open PySem PySem.Spec PyProof.Rows L2
/-- a text of signs -/
def okA (x : Str) : Bool := x.cps.toList.all fun c => decide (c < 0x110000)
theorem okA_app {a b : Str} (ha : okA a = true) (hb : okA b = true) : okA (a ++ b) = true := by
  show ((a.cps ++ b.cps).toList.all fun c => decide (c < 0x110000)) = true
  rw [Array.toList_append, List.all_append, Bool.and_eq_true]
  exact ⟨ha, hb⟩
theorem okA_from : ∀ (ts : List Str) (k : Nat) (acc : Str), okA acc = true → (∀ t ∈ ts, okA t = true) → okA (textFrom k acc ts) = true
  | [], k, acc, h, _ => h
  | t :: r, k, acc, h, hs => by
    refine okA_from r (k + 1) _ (okA_app (okA_app h ?_) (hs t List.mem_cons_self)) fun x m => hs x (List.mem_cons_of_mem _ m)
    split <;> decide +kernel
theorem okA_list {ts : List Str} (h : ∀ t ∈ ts, okA t = true) : okA (listText ts) = true := okA_app (okA_from ts 0 "[" (by decide +kernel) h) (by decide +kernel)
theorem okA_join : ∀ (ts : List Str), (∀ t ∈ ts, okA t = true) → okA (Str.join ", " ts) = true
  | [], _ => by decide +kernel
  | [x], h => h x List.mem_cons_self
  | x :: y :: r, h => okA_app (okA_app (h x List.mem_cons_self) (by decide +kernel)) (okA_join (y :: r) fun t m => h t (List.mem_cons_of_mem _ m))
theorem okA_tuple {ts : List Str} (h : ∀ t ∈ ts, okA t = true) : okA (tupleText ts) = true := by
  refine okA_app (okA_app (by decide +kernel) (okA_join ts h)) ?_
  split <;> decide +kernel
structure SD (k B : Nat) (d : PyData) : Prop where
  dep : d.depth ≤ k
  sh : d.showable = true
  lf : d.leavesShort 45 = true
  wt : d.weight ≤ B
  so : okA d.shown = true
theorem SD.mono {k j B C : Nat} {d : PyData} (h : SD k B d) (hk : k ≤ j) (hB : B ≤ C) : SD j C d := ⟨Nat.le_trans h.dep hk, h.sh, h.lf, Nat.le_trans h.wt hB, h.so⟩
theorem sd_all {k B : Nat} : ∀ {ds : List PyData}, (∀ d ∈ ds, SD k B d) → PyData.depthAll ds ≤ k ∧ PyData.showableAll ds = true ∧ PyData.leavesShortAll 45 ds = true ∧ PyData.weightAll ds ≤ ds.length * (B + 1) ∧ ∀ t ∈ PyData.shownAll ds, okA t = true
  | [], _ => by
    refine ⟨?_, ?_, ?_, ?_, fun t m => by cases m⟩
    · simp only [PyData.depthAll]
      exact Nat.zero_le _
    · simp only [PyData.showableAll]
    · simp only [PyData.leavesShortAll]
    · simp only [PyData.weightAll]
      exact Nat.zero_le _
  | d :: ds, h => by
    obtain ⟨a2, a3, a5, a6, a7⟩ := sd_all (ds := ds) fun x hx => h x (List.mem_cons_of_mem _ hx)
    have q := h d List.mem_cons_self
    refine ⟨?_, ?_, ?_, ?_, fun t m => ?_⟩
    · simp only [PyData.depthAll]
      exact Nat.max_le.mpr ⟨q.dep, a2⟩
    · simp only [PyData.showableAll, q.sh, a3, Bool.and_self]
    · simp only [PyData.leavesShortAll, q.lf, a5, Bool.and_self]
    · simp only [PyData.weightAll, List.length_cons]
      have := q.wt
      rw [Nat.add_mul]
      omega
    · rcases List.mem_cons.mp (show t ∈ d.shown :: PyData.shownAll ds from m) with e | e
      · rw [e]; exact q.so
      · exact a7 t e
theorem sd_list {k B : Nat} {ds : List PyData} (h : ∀ d ∈ ds, SD k B d) : SD (k + 1) (ds.length * (B + 1)) (.list ds) := by
  obtain ⟨a2, a3, a5, a6, a7⟩ := sd_all h
  exact ⟨by simp only [PyData.depth]; omega, by simp only [PyData.showable]; exact a3, by simp only [PyData.leavesShort]; exact a5, by simp only [PyData.weight]; exact a6, by simp only [PyData.shown]; exact okA_list a7⟩
theorem sd_tuple {k B : Nat} {ds : List PyData} (h : ∀ d ∈ ds, SD k B d) : SD (k + 1) (ds.length * (B + 1)) (.tuple ds) := by
  obtain ⟨a2, a3, a5, a6, a7⟩ := sd_all h
  exact ⟨by simp only [PyData.depth]; omega, by simp only [PyData.showable]; exact a3, by simp only [PyData.leavesShort]; exact a5, by simp only [PyData.weight]; exact a6, by simp only [PyData.shown]; exact okA_tuple a7⟩
theorem SD.shown {k B : Nat} {d : PyData} (h : SD k B d) (hB : B ≤ 300000) : d.shown.length ≤ sizeLine := by
  have q := PyData.shown_le 45 (by decide) d h.lf
  have := h.wt
  have m : (45 + 2) * d.weight ≤ 47 * 300000 := Nat.mul_le_mul (by decide) (by omega)
  rw [sizeLine_eq]
  omega
/-! ### kinds -/
def isInt : PyData → Bool
  | .int _ | .bool _ => true
  | _ => false
def isBoo : PyData → Bool
  | .bool _ => true
  | _ => false
theorem kit_int {K : PySem.W.Frag} : ∀ d : PyData, PySem.W.kitOne K (.type (tyD d)) (.type "int") = some (isInt d)
  | .none => kit_ty (show kitB "NoneType" "int" = some false by decide +kernel)
  | .bool _ => kit_ty (show kitB "bool" "int" = some true by decide +kernel)
  | .int _ => kit_ty (show kitB "int" "int" = some true by decide +kernel)
  | .str _ => kit_ty (show kitB "str" "int" = some false by decide +kernel)
  | .list _ => kit_ty (show kitB "list" "int" = some false by decide +kernel)
  | .tuple _ => kit_ty (show kitB "tuple" "int" = some false by decide +kernel)
  | .dict _ => kit_ty (show kitB "dict" "int" = some false by decide +kernel)
theorem kit_boo {K : PySem.W.Frag} : ∀ d : PyData, PySem.W.kitOne K (.type (tyD d)) (.type "bool") = some (isBoo d)
  | .none => kit_ty (show kitB "NoneType" "bool" = some false by decide +kernel)
  | .bool _ => kit_ty (show kitB "bool" "bool" = some true by decide +kernel)
  | .int _ => kit_ty (show kitB "int" "bool" = some false by decide +kernel)
  | .str _ => kit_ty (show kitB "str" "bool" = some false by decide +kernel)
  | .list _ => kit_ty (show kitB "list" "bool" = some false by decide +kernel)
  | .tuple _ => kit_ty (show kitB "tuple" "bool" = some false by decide +kernel)
  | .dict _ => kit_ty (show kitB "dict" "bool" = some false by decide +kernel)
/-! ### len(set(xs)) of ints -/
theorem firstMet_len (f : Nat → Int) : ∀ i, (PyProof.Rows.firstMet f i).length ≤ i
  | 0 => Nat.le_refl _
  | i + 1 => by
    have ih := firstMet_len f i
    rw [PyProof.Rows.firstMet_succ]
    unfold PyProof.Rows.step_dedup
    split
    · omega
    · rw [List.length_append, List.length_singleton]
      omega
theorem firstMet_mem (f : Nat → Int) : ∀ i j, j < i → f j ∈ PyProof.Rows.firstMet f i
  | 0, j, h => absurd h (Nat.not_lt_zero _)
  | i + 1, j, h => by
    rw [PyProof.Rows.firstMet_succ]
    unfold PyProof.Rows.step_dedup
    by_cases e : j = i
    · subst e
      split
      · rename_i q
        obtain ⟨x, mx, ex⟩ := List.any_eq_true.mp q
        rw [← beq_iff_eq.mp ex]
        exact mx
      · exact List.mem_append.mpr (.inr (List.mem_singleton.mpr rfl))
    · have ih := firstMet_mem f i j (by omega)
      split
      · exact ih
      · exact List.mem_append.mpr (.inl ih)
theorem firstMet_full (f : Nat → Int) : ∀ i, (PyProof.Rows.firstMet f i).length = i → ∀ a b, a < b → b < i → f a ≠ f b
  | 0, _, _, _, _, h => absurd h (Nat.not_lt_zero _)
  | i + 1, hl, a, b, hab, hb => by
    have l1 := firstMet_len f i
    rw [PyProof.Rows.firstMet_succ] at hl
    unfold PyProof.Rows.step_dedup at hl
    by_cases q : (PyProof.Rows.firstMet f i).any (· == f i) = true
    · rw [if_pos q] at hl
      omega
    · rw [if_neg q, List.length_append, List.length_singleton] at hl
      have ih := firstMet_full f i (by omega)
      by_cases e : b = i
      · subst e
        intro z
        exact q (List.any_eq_true.mpr ⟨f a, firstMet_mem f b a hab, by rw [z]; exact beq_self_eq_true _⟩)
      · exact ih a b hab (by omega)
theorem firstMet_iff (ns : List Int) : (PyProof.Rows.firstMet (fun i => ns.getD i 0) ns.length).length = ns.length ↔ ns.Nodup := by
  constructor
  · intro h
    rw [List.nodup_iff_pairwise_ne, List.pairwise_iff_getElem]
    intro i j hi hj hij
    have q := firstMet_full _ _ h i j hij hj
    rw [List.getD_eq_getElem?_getD, List.getD_eq_getElem?_getD, List.getElem?_eq_getElem hi, List.getElem?_eq_getElem hj] at q
    exact q
  · intro h
    rw [RZ.firstMet_nodup h ns.length (Nat.le_refl _), List.take_length]
def tLenSetJ (K : PySem.W.Frag) (ta : TE) : TE := fun σ H Q => ta σ H fun x H1 => ∃ (l : Addr) (ns : List Int), x = .ref l ∧ SqL K H1 l (ns.map V.int) ∧ ns.length ≤ 4000 ∧ ∀ m : Nat, (m = ns.length ↔ ns.Nodup) → Q (.int (m : Nat)) H1
theorem pe_lenSetJ {X : Cx} {a : Expr} {ta : TE} {p p2 q pos : Pos} (hg : Gl X "len") (hm : X.mg "len" = none) (hg2 : Gl X "set") (hm2 : X.mg "set" = none) (ha : PE X a ta) (hc : X.calm = true := by rfl)
    (na : starEach [a] X.env = (false, eval a X.env) :: starEach [] X.env := by rfl) : PE X (.Call (.Name "len" p) [.Call (.Name "set" p2) [a] [] q] [] pos) (tLenSetJ X.K ta) := by
  constructor
  intro pins s σ H Q I h
  refine Call_ (ld_blt I hg hm boot_len (PyProof.Rows.callWith_builtin1 (PyProof.Rows.args_cons (Call_ (ld_blt I hg2 hm2 boot_set ?_)) rfl) rfl rfl))
  refine PyProof.Rows.callWith_type1 (PyProof.Rows.args_cons (thn (ha.run pins s σ H _ I h) fun v s1 hh => PyProof.Rows.args_nil ?_) na) na rfl
  obtain ⟨x, H1, I1, r1, l, ns, rfl, hq, hl, q1⟩ := hh
  cases r1
  obtain ⟨its, r, pl, hz⟩ := I1.list hq
  have sz : its.toArray.size = ns.length := by rw [List.size_toArray, ← r.length, List.length_map]
  refine call_set_list (I1.ok.hd hc) pl.isList (by simpa using RZ.intsAre_vals r) (by rw [sz]; unfold scanBound; omega) fun h2 tk hS keep => PyProof.Rows.args_nil ?_
  rw [sz] at hS
  have l2 := firstMet_len (fun i => ns.getD i 0) ns.length
  obtain ⟨o, es, ep, tb, ho, hx, dd, _, _, _, hf, hn⟩ := hS
  have J : Inv X pins σ H1 { s1 with heap := h2, toks := tk } := I1.kept fun b u e => keep b u (Heap.lt_size e) e
  exact call_len_set ho hx dd hf (by rw [hn]; omega) ⟨.int ((PyProof.Rows.firstMet (fun i => ns.getD i 0) ns.length).length : Nat), H1, J.tok _, ⟨_, by rw [hn]⟩, q1 _ (firstMet_iff ns)⟩
end SE
/-! Displays of data: whatever a display of constants (and of values that are data already) allocates, in the end the data stand there. -/
namespace SE
open PySem PySem.Spec PyProof.Rows L2
mutual
/-- t is the reading of a display of the data d, in a heap that goes on from H0, with the slots σ -/
inductive TD (K : PySem.W.Frag) (H0 : Hp) (σ : L2.St) : TE → PyData → Prop
  | non : TD K H0 σ (tC .non) .none
  | bl (b : Bool) : TD K H0 σ (tC (.bl b)) (.bool b)
  | int (i : Int) : TD K H0 σ (tC (.int i)) (.int i)
  | neg (i : Int) : TD K H0 σ (tUn (rU fun i => .int (-i)) (tC (.int i))) (.int (-i))
  | str (z : Str) : TD K H0 σ (tC (.str z)) (.str z)
  | emp : TD K H0 σ tDNewK (.dict [])
  | lst {t : TA} {ds : List PyData} (h : TDs K H0 σ t ds) (l : ds.length ≤ 1000) : TD K H0 σ (tLst t) (.list ds)
  | tup {t : TA} {ds : List PyData} (h : TDs K H0 σ t ds) (l : ds.length ≤ 1000) : TD K H0 σ (tTup t) (.tuple ds)
  | var {i : Nat} {v : V} {d : PyData} (e : σ[i]? = some (some v)) (h : DpX K H0 v d) : TD K H0 σ (tVar i) d
  | any {t : TE} {d : PyData} (h : ∀ (H : Hp) (Q : VK), Same H0 H → (∀ v H', Same H H' → DpX K H' v d → Q v H') → t σ H Q) : TD K H0 σ t d
inductive TDs (K : PySem.W.Frag) (H0 : Hp) (σ : L2.St) : TA → List PyData → Prop
  | nil : TDs K H0 σ tNil []
  | cons {t : TE} {ts : TA} {d : PyData} {ds : List PyData} (h : TD K H0 σ t d) (r : TDs K H0 σ ts ds) : TDs K H0 σ (tCons t ts) (d :: ds)
end
mutual
theorem TD.run {K : PySem.W.Frag} {H0 : Hp} {σ : L2.St} : ∀ {t : TE} {d : PyData}, TD K H0 σ t d → ∀ {H : Hp} {Q : VK}, Same H0 H → (∀ v H', Same H H' → DpX K H' v d → Q v H') → t σ H Q
  | _, _, .non, H, Q, s, k => k _ H (Same.refl H) .non
  | _, _, .bl b, H, Q, s, k => k _ H (Same.refl H) (.bl b)
  | _, _, .int i, H, Q, s, k => k _ H (Same.refl H) (.int i)
  | _, _, .neg i, H, Q, s, k => ⟨i, rfl, k _ H (Same.refl H) (.int (-i))⟩
  | _, _, .str z, H, Q, s, k => k _ H (Same.refl H) (.str z)
  | _, _, .emp, H, Q, s, k => fun p hp => k _ _ (Same.new hp) (.emp upd_same)
  | _, _, .lst h l, H, Q, s, k => TDs.run h s fun vs H1 s1 hv => ⟨by rw [hv.len, sizeLine_eq]; omega, fun p hp => k _ _ (s1.trans (Same.new hp)) (.lst (.of upd_same) (DpXs.same (Same.new hp) _ _ hv))⟩
  | _, _, .tup h l, H, Q, s, k => TDs.run h s fun vs H1 s1 hv => ⟨by rw [hv.len, sizeLine_eq]; omega, fun p hp => k _ _ (s1.trans (Same.new hp)) (.tup (.of upd_same) (DpXs.same (Same.new hp) _ _ hv))⟩
  | _, _, .var e h, H, Q, s, k => ⟨_, e, k _ H (Same.refl H) (DpX.same s _ _ h)⟩
  | _, _, .any h, H, Q, s, k => h H Q s k
theorem TDs.run {K : PySem.W.Frag} {H0 : Hp} {σ : L2.St} : ∀ {t : TA} {ds : List PyData}, TDs K H0 σ t ds → ∀ {H : Hp} {Q : List V → Hp → Prop}, Same H0 H → (∀ vs H', Same H H' → DpXs K H' vs ds → Q vs H') → t σ H Q
  | _, _, .nil, H, Q, s, k => k _ H (Same.refl H) .nil
  | _, _, .cons h r, H, Q, s, k => TD.run h s fun v H1 s1 hv => TDs.run r (s.trans s1) fun vs H2 s2 hvs => k _ H2 (s1.trans s2) (.cons (DpX.same s2 _ _ hv) hvs)
end
/-- the display's own list -/
theorem TDs.list {K : PySem.W.Frag} {H0 : Hp} {σ : L2.St} {t : TA} {ds : List PyData} (h : TDs K H0 σ t ds) (l : ds.length ≤ 1000) {H : Hp} {Q : VK} (s : Same H0 H) (k : ∀ (p : Addr) (vs : List V) (H' : Hp), Same H H' → H' p = some (.lst vs) → DpXs K H' vs ds → Q (.ref p) H') : tLst t σ H Q :=
  h.run s fun vs H1 s1 hv => ⟨by rw [hv.len, sizeLine_eq]; omega, fun p hp => k p vs _ (s1.trans (Same.new hp)) upd_same (DpXs.same (Same.new hp) _ _ hv)⟩
/-- for x in a display -/
theorem TDs.forL {K : PySem.W.Frag} {H0 : Hp} {σ : L2.St} {t : TA} {ds : List PyData} {g : TG} {tb : TS} {D : Ends} {H : Hp} (h : TDs K H0 σ t ds) (l : ds.length ≤ 1000) (s : Same H0 H)
    (k : ∀ (p : Addr) (vs : List V) (H' : Hp), Same H H' → H' p = some (.lst vs) → DpXs K H' vs ds → tFor (fun _ H2 R => R (Itl K p) H2) g tb D σ H') : tFor (iList K (tLst t)) g tb D σ H := by
  unfold tFor iList
  exact h.list l s fun p vs H' s' hp hv => ⟨p, rfl, ⟨_, .of hp⟩, k p vs H' s' hp hv⟩
/-! ### data without dicts, for == -/
mutual
theorem dp_of {K : PySem.W.Frag} {H : Hp} : ∀ (d : PyData) {v : V}, PyData.canLay0 d = true → DpX K H v d → Dp K H v d
  | .none, _, _, h => by cases h; exact .non
  | .bool b, _, _, h => by cases h; exact .bl b
  | .int i, _, _, h => by cases h; exact .int i
  | .str z, _, _, h => by cases h; exact .str z
  | .list ds, _, c, h => by
    cases h with
    | lst h1 h2 => exact .lst h1 (dps_of ds (by simpa [PyData.canLay0] using c) h2)
  | .tuple ds, _, c, h => by
    cases h with
    | tup h1 h2 => exact .tup h1 (dps_of ds (by simpa [PyData.canLay0] using c) h2)
  | .dict kvs, _, c, h => by simp [PyData.canLay0] at c
theorem dps_of {K : PySem.W.Frag} {H : Hp} : ∀ (ds : List PyData) {vs : List V}, PyData.canLayAll0 ds = true → DpXs K H vs ds → DpAll K H vs ds
  | [], _, _, h => by cases h; exact .nil
  | d :: ds, _, c, h => by
    cases h with
    | cons h1 h2 =>
      have c : PyData.canLay0 d = true ∧ PyData.canLayAll0 ds = true := by simpa [PyData.canLayAll0] using c
      exact .cons (dp_of d c.1 h1) (dps_of ds c.2 h2)
end
/-- the same data on both sides of != -/
theorem ne_data {K : PySem.W.Frag} {H : Hp} {x y : V} {d : PyData} {Q : VK} (lay : PyData.canLay0 d = true) (sh : SeqAt.shaped d = true) (hx : DpX K H x d) (hy : DpX K H y d) (q : Q (.bl false) H) : rNeD K x y H Q := by
  refine ⟨d, d, dp_of d lay hx, dp_of d lay hy, sh, sh, ?_⟩
  rw [SeqAt.eqv_refl d lay]
  exact q
end SE
/-! Data with dicts whose keys are ints and texts, and the dict {None: t}: reads, repr, isinstance. -/
namespace SE
open PySem PySem.Spec PyProof.Rows L2
def keyD : Key → PyData
  | .inl i => .int i
  | .inr z => .str z
theorem dpx_key {K : PySem.W.Frag} {H : Hp} (k : Key) : DpX K H (kV k) (keyD k) := by
  cases k with
  | inl i => exact .int i
  | inr z => exact .str z
/-- at a stands a dict of these data -/
def SqD (K : PySem.W.Frag) (H : Hp) (a : Addr) (kvs : List (PyData × PyData)) : Prop := ∃ ks : List (Key × V), H a = some (.dK ks) ∧ Paired (fun (kv : Key × V) (p : PyData × PyData) => keyD kv.1 = p.1 ∧ DpX K H kv.2 p.2) ks kvs
theorem SqD.same {K : PySem.W.Frag} {H H' : Hp} {a : Addr} {kvs : List (PyData × PyData)} (h : SqD K H a kvs) (s : Same H H') : SqD K H' a kvs := by
  obtain ⟨ks, e, p⟩ := h
  exact ⟨ks, s _ _ e, Paired.mapP p fun _ _ q => ⟨q.1, DpX.same s _ _ q.2⟩⟩
/-- the dict {None: t} -/
def nonO (P : Program) (w : World) (d t : Addr) : HO := .ext fun h => (d == sysModules) = false ∧ h.DictOf (leafKind P w) d [(Leaf.none, .ref t)]
theorem nonO_ok {P : Program} {w : World} {H : Hp} {h : Heap} {d t : Addr} (hs : (d == sysModules) = false) (m : h.DictOf (leafKind P w) d [(Leaf.none, .ref t)]) : ObjOk P w H h d (nonO P w d t) := by
  have ⟨o, _, _, e, _⟩ := m
  refine ⟨⟨hs, m⟩, ⟨o, e⟩, fun h1 h2 q k => ?_⟩
  obtain ⟨q1, o1, es, ep, e1, r⟩ := q
  exact ⟨q1, o1, es, ep, k _ e1, r⟩
/-- plain data, a dict of data, {None: ()} -/
inductive RpZ (P : Program) (w : World) (K : PySem.W.Frag) (H : Hp) : V → PyData → Prop
  | pl {v : V} {d : PyData} (h : DpX K H v d) : RpZ P w K H v d
  | dic {a : Addr} {kvs : List (PyData × PyData)} (h : SqD K H a kvs) : RpZ P w K H (.ref a) (.dict kvs)
  | non {a t : Addr} (h : H a = some (nonO P w a t)) (ht : SqT K H t []) : RpZ P w K H (.ref a) (.dict [(.none, .tuple [])])
theorem RpZ.same {P : Program} {w : World} {K : PySem.W.Frag} {H H' : Hp} {v : V} {d : PyData} (h : RpZ P w K H v d) (s : Same H H') : RpZ P w K H' v d := by
  cases h with
  | pl h => exact .pl (DpX.same s _ _ h)
  | dic h => exact .dic (h.same s)
  | non h ht => exact .non (s _ _ h) (Same.tup s ht)
section
variable {X : Cx} {pins : List (Addr × Obj)} {σ : L2.St} {H : Hp} {s : Shared}
theorem vals_kv {P : Program} {w : World} : ∀ {ks : List (Key × V)} {vs : List (Key × Value)} {el : List DictEntry}, KV ks vs → Pairs (mixKind P w) el vs → Vals (ks.map fun kv => kV kv.1) (el.map (·.key)) ∧ Vals (ks.map (·.2)) (el.map (·.val))
  | _, _, _, .nil, .nil => ⟨.nil, .nil⟩
  | _, _, _, .cons a r, .cons b1 b2 br => by
    obtain ⟨h1, h2⟩ := vals_kv r br
    obtain ⟨a1, a2⟩ := a
    refine ⟨.cons ?_ h1, .cons ?_ h2⟩
    · dsimp only
      rw [a1]
      exact relV_key b1
    · dsimp only
      rw [b2]
      exact a2
theorem dpxs_kv {K : PySem.W.Frag} : ∀ {ks : List (Key × V)} {kvs : List (PyData × PyData)}, Paired (fun (kv : Key × V) (p : PyData × PyData) => keyD kv.1 = p.1 ∧ DpX K H kv.2 p.2) ks kvs → DpXs K H (ks.map fun kv => kV kv.1) (kvs.map (·.1)) ∧ DpXs K H (ks.map (·.2)) (kvs.map (·.2))
  | _, _, .nil => ⟨.nil, .nil⟩
  | _, _, .cons a r => by
    obtain ⟨h1, h2⟩ := dpxs_kv r
    refine ⟨.cons ?_ h1, .cons a.2 h2⟩
    dsimp only
    rw [← a.1]
    exact dpx_key _
theorem kv_repr {a : Addr} {o : Obj} {es : Array DictEntry} {n : Nat} {kvs : List (PyData × PyData)} {k1 k2 : List V} (I : Inv X pins σ H s) (ho : s.heap.get? a = some o) (hc : o.cls = .type "dict") (hd : o.data = .dict es n) (v1 : Vals k1 (es.toList.map (·.key))) (v2 : Vals k2 (es.toList.map (·.val))) (d1 : DpXs X.K H k1 (kvs.map (·.1))) (d2 : DpXs X.K H k2 (kvs.map (·.2)))
    (hs : PyData.showable (.dict kvs) = true) (hz : (PyData.shown (.dict kvs)).length ≤ sizeLine) : ∃ as bs, Reads s.heap (.ref a) (.dict kvs) as ∧ ReadAtMost s.heap (PyData.depthKv kvs) bs ∧ a ∉ bs ∧ ReprEntriesK X.prog X.w bs s.heap (PyData.depthKv kvs) es.toList (PyData.shownKv kvs) := by
  obtain ⟨a1, r1⟩ := DpXs.reads I _ _ _ d1 v1
  obtain ⟨a2, r2⟩ := DpXs.reads I _ _ _ d2 v2
  have hz' : (dictText (PyData.shownKv kvs)).length ≤ sizeLine := by simpa only [PyData.shown] using hz
  obtain ⟨hs1, hs2⟩ := PyData.showableKv_split kvs (by simpa [PyData.showable] using hs)
  obtain ⟨b1, hb1, q1⟩ := DpXs.reprK I _ _ _ d1 v1 hs1 fun t ht => let ⟨p, hp, hl⟩ := PyData.shownKv_key_le kvs t ht; Nat.le_trans hl (Nat.le_trans (dictText_mem_le hp) hz')
  obtain ⟨b2, hb2, q2⟩ := DpXs.reprK I _ _ _ d2 v2 hs2 fun t ht => let ⟨p, hp, hl⟩ := PyData.shownKv_val_le kvs t ht; Nat.le_trans hl (Nat.le_trans (dictText_mem_le hp) hz')
  have rr : Reads s.heap (.ref a) (.dict kvs) _ := .dict ho hc hd r1 r2
  have hb : ReadAtMost s.heap (PyData.depthKv kvs) (b1 ++ b2) := (hb1.mono (PyData.depthAll_keys_le kvs)).append (hb2.mono (PyData.depthAll_vals_le kvs))
  refine ⟨_, b1 ++ b2, rr, hb, not_mem_of_deeper rr (by simp only [PyData.depth]; omega) hb, ?_⟩
  rw [PyData.shownKv_eq]
  exact ReprEntriesK.of_two es.toList _ _ (q1.more_le (fun b m => List.mem_append_left _ m) (PyData.depthAll_keys_le kvs)) (q2.more_le (fun b m => List.mem_append_right _ m) (PyData.depthAll_vals_le kvs))
/-- a dict of the two kinds: its object, its entries -/
theorem RpZ.dict_obj {v : V} {kvs : List (PyData × PyData)} (I : Inv X pins σ H s) (h : RpZ X.prog X.w X.K H v (.dict kvs)) (hs : PyData.showable (.dict kvs) = true) (hz : (PyData.shown (.dict kvs)).length ≤ sizeLine) :
    ∃ a o es n as bs, v = .ref a ∧ s.heap.get? a = some o ∧ o.cls = .type "dict" ∧ o.data = .dict es n ∧ (a == sysModules) = false ∧ Reads s.heap (.ref a) (.dict kvs) as ∧ ReadAtMost s.heap (PyData.depthKv kvs) bs ∧ a ∉ bs ∧ ReprEntriesK X.prog X.w bs s.heap (PyData.depthKv kvs) es.toList (PyData.shownKv kvs) := by
  cases h with
  | pl h =>
    cases h with
    | @emp a e =>
      obtain ⟨_, hsys, vs, rel, o, es, ep, h1, h2, h3, h4, h5, h6⟩ := dk_of I.hok e
      obtain ⟨v1, v2⟩ := vals_kv rel h5
      obtain ⟨as, bs, q1, q2, q3, q4⟩ := kv_repr (kvs := []) I h1 h2.1 h3 v1 v2 .nil .nil hs hz
      exact ⟨a, o, es, ep, as, bs, rfl, h1, h2.1, h3, hsys, q1, q2, q3, q4⟩
  | @dic a _ h =>
    obtain ⟨ks, e, p⟩ := h
    obtain ⟨_, hsys, vs, rel, o, es, ep, h1, h2, h3, h4, h5, h6⟩ := dk_of I.hok e
    obtain ⟨v1, v2⟩ := vals_kv rel h5
    obtain ⟨d1, d2⟩ := dpxs_kv p
    obtain ⟨as, bs, q1, q2, q3, q4⟩ := kv_repr I h1 h2.1 h3 v1 v2 d1 d2 hs hz
    exact ⟨a, o, es, ep, as, bs, rfl, h1, h2.1, h3, hsys, q1, q2, q3, q4⟩
  | @non a t h ht =>
    obtain ⟨⟨hsys, o, es, ep, h1, h2, h3, h4, h5, h6⟩, _⟩ := I.hok a _ h
    have v12 : Vals [V.non] (es.toList.map (·.key)) ∧ Vals [V.ref t] (es.toList.map (·.val)) := by
      generalize es.toList = l at h5
      cases h5 with
      | @cons e _ _ _ b1 b2 b3 =>
        cases b3
        refine ⟨.cons ?_ .nil, .cons ?_ .nil⟩
        · show RelV .non e.key
          have b1 : Leaf.isOf .none e.key = true := b1
          cases q : e.key with
          | none => rfl
          | _ => rw [q] at b1; exact absurd b1 Bool.false_ne_true
        · show RelV (.ref t) e.val
          rw [b2]
          rfl
    obtain ⟨as, bs, q1, q2, q3, q4⟩ := kv_repr (kvs := [(.none, .tuple [])]) I h1 h2.1 h3 v12.1 v12.2 (.cons .non .nil) (.cons (.tup ht .nil) .nil) hs hz
    exact ⟨a, o, es, ep, as, bs, rfl, h1, h2.1, h3, hsys, q1, q2, q3, q4⟩
theorem RpZ.reprK {v : V} {d : PyData} {u : Value} (I : Inv X pins σ H s) (h : RpZ X.prog X.w X.K H v d) (r : RelV v u) (hs : d.showable = true) (hz : d.shown.length ≤ sizeLine) : ∃ bs, ReadAtMost s.heap d.depth bs ∧ ReprK X.prog X.w bs s.heap d.depth u d.shown := by
  cases d with
  | dict kvs =>
    obtain ⟨a, o, es, n, as, bs, rfl, h1, h2, h3, h4, h5, h6, h7, h8⟩ := h.dict_obj I hs hz
    cases r
    refine ⟨a :: bs, ReadAtMost.cons h5 (by simp only [PyData.depth]; omega) h6, ?_⟩
    simp only [PyData.depth, PyData.shown]
    exact ReprK.dict h1 h2 h3 h4 h7 h8
  | _ =>
    cases h with
    | pl h => exact DpX.reprK I _ _ _ h r hs hz
theorem RpZ.reads {v : V} {d : PyData} {u : Value} (I : Inv X pins σ H s) (h : RpZ X.prog X.w X.K H v d) (r : RelV v u) (hs : d.showable = true) (hz : d.shown.length ≤ sizeLine) : ∃ as, Reads s.heap u d as := by
  cases d with
  | dict kvs =>
    obtain ⟨a, o, es, n, as, bs, rfl, h1, h2, h3, h4, h5, _⟩ := h.dict_obj I hs hz
    cases r
    exact ⟨as, h5⟩
  | _ =>
    cases h with
    | pl h => exact DpX.reads I _ _ _ h r
end
def rRepZ (P : Program) (w : World) (K : PySem.W.Frag) : List V → Hp → VK → Prop := fun xs H Q => ∃ (x : V) (d : PyData), xs = [x] ∧ RpZ P w K H x d ∧ d.showable = true ∧ d.depth ≤ 20 ∧ d.shown.length ≤ sizeLine ∧ Q (.str d.shown) H
section
variable {X : Cx}
theorem call_reprZ (hgu : X.A.guards = some []) (hu : X.A.units + 64 < cLine) : CallR X (.builtin "repr") (rRepZ X.prog X.w X.K) := by
  intro pins s σ H xs us Q I r h
  obtain ⟨x, d, rfl, hd, hs, hdep, hz, q⟩ := h
  cases d with
  | dict kvs =>
    obtain ⟨a, o, es, n, as, bs, rfl, h1, h2, h3, h4, h5, h6, h7, h8⟩ := hd.dict_obj I hs hz
    cases r with
    | cons r1 r2 =>
      cases r2
      cases r1
      simp only [PyData.depth] at hdep
      simp only [PyData.shown] at q hz
      refine call_repr_slot (T := "dict") (by omega) ⟨o, h1, h2⟩ PySem.F.slot_dict_repr ?_
      exact call_dict_reprK h1 h2 h3 h4 h7 h8 (A := X.A.in1) hgu (fun b _ => Clear.nil b) (by show X.A.units + 1 + _ < cLine; omega) (fun _ _ z => z) (fun h' u tk keep => ⟨_, _, rfl, .str _, H, I.kept (t' := tk) keep, ⟨_, rfl⟩, q⟩) hz
  | _ =>
    cases hd with
    | pl hd => exact call_repX hgu hu pins s σ H _ us Q I r ⟨x, _, rfl, hd, hs, hdep, hz, q⟩
/-- repr of a list of two such data -/
def rRep2 (P : Program) (w : World) (K : PySem.W.Frag) : List V → Hp → VK → Prop := fun xs H Q => ∃ (l : Addr) (v1 v2 : V) (d1 d2 : PyData), xs = [.ref l] ∧ H l = some (.lst [v1, v2]) ∧ RpZ P w K H v1 d1 ∧ RpZ P w K H v2 d2 ∧ PyData.showable (.list [d1, d2]) = true ∧ PyData.depth (.list [d1, d2]) ≤ 20 ∧ (PyData.shown (.list [d1, d2])).length ≤ sizeLine ∧ Q (.str (PyData.shown (.list [d1, d2]))) H
theorem call_repr2 (hgu : X.A.guards = some []) (hu : X.A.units + 64 < cLine) : CallR X (.builtin "repr") (rRep2 X.prog X.w X.K) := by
  intro pins s σ H xs us Q I r h
  obtain ⟨l, v1, v2, d1, d2, rfl, hl, z1, z2, hs, hdep, hz, q⟩ := h
  cases r with
  | cons r1 r2 =>
    cases r2
    cases r1
    obtain ⟨its, rv, ⟨o, n, ho, hc, _, hdd⟩, _⟩ := I.list (SqL.of (K := X.K) hl)
    obtain ⟨u1, u2, rfl, w1, w2⟩ := vals2 rv
    have hz' : (listText (PyData.shownAll [d1, d2])).length ≤ sizeLine := by simpa only [PyData.shown] using hz
    have hs' : d1.showable = true ∧ d2.showable = true := by simpa [PyData.showable, PyData.showableAll] using hs
    have m1 : d1.shown.length ≤ sizeLine := Nat.le_trans (listText_mem_le (by simp only [PyData.shownAll]; exact List.mem_cons_self)) hz'
    have m2 : d2.shown.length ≤ sizeLine := Nat.le_trans (listText_mem_le (by simp only [PyData.shownAll]; exact List.mem_cons_of_mem _ List.mem_cons_self)) hz'
    obtain ⟨b1, hb1, k1⟩ := z1.reprK I w1 hs'.1 m1
    obtain ⟨b2, hb2, k2⟩ := z2.reprK I w2 hs'.2 m2
    obtain ⟨a1, q1⟩ := z1.reads I w1 hs'.1 m1
    obtain ⟨a2, q2⟩ := z2.reads I w2 hs'.2 m2
    have rr : Reads s.heap (.ref l) (.list [d1, d2]) _ := .list ho hc hdd (.cons q1 (.cons q2 .nil))
    have hb : ReadAtMost s.heap (PyData.depthAll [d1, d2]) (b1 ++ b2) := (hb1.mono (by simp only [PyData.depthAll]; omega)).append (hb2.mono (by simp only [PyData.depthAll]; omega))
    have hna : l ∉ b1 ++ b2 := not_mem_of_deeper rr (by simp only [PyData.depth]; omega) hb
    have hk : ReprAllK X.prog X.w (b1 ++ b2) s.heap (PyData.depthAll [d1, d2]) [u1, u2] (PyData.shownAll [d1, d2]) := by
      simp only [PyData.shownAll]
      exact .cons ((k1.more fun b hb => List.mem_append_left _ hb).level_le (by simp only [PyData.depthAll]; omega)) (.cons ((k2.more fun b hb => List.mem_append_right _ hb).level_le (by simp only [PyData.depthAll]; omega)) .nil)
    simp only [PyData.depth] at hdep
    simp only [PyData.shown] at q
    refine call_repr_slot (T := "list") (by omega) ⟨o, ho, hc⟩ PySem.F.slot_list_repr.toG ?_
    exact call_list_reprK ho hc hdd hna (by simpa using hk.length_eq) (fun i y e => hk.item i y (by simpa using e)) (A := X.A.in1) hgu (fun b _ => Clear.nil b) (by show X.A.units + 1 + _ < cLine; omega) (fun _ _ z => z) (fun h' u tk keep => ⟨_, _, rfl, .str _, H, I.kept (t' := tk) keep, ⟨_, rfl⟩, q⟩) hz'
/-- isinstance(x, dict) where x is {None: t} -/
def rIsN (P : Program) (w : World) : List V → Hp → VK → Prop := fun xs H Q => ∃ (d t : Addr), xs = [.ref d, .ty "dict"] ∧ H d = some (nonO P w d t) ∧ Q (.bl true) H
theorem call_isN : CallR X (.builtin "isinstance") (rIsN X.prog X.w) := by
  intro pins s σ H xs us Q I r h
  obtain ⟨d, t, rfl, hd, q⟩ := h
  obtain ⟨u1, u2, rfl, r1, r2⟩ := vals2 r
  cases (show u1 = Value.ref d from r1)
  have e2 := (ClsV.ty "dict").eq r2
  subst e2
  obtain ⟨⟨hsys, o, es, ep, h1, h2, _⟩, _⟩ := I.hok d _ hd
  have e : PySem.W.kitOne X.K (.type "dict") (.type "dict") = some true := kit_ty (show kitB "dict" "dict" = some true by decide +kernel)
  exact PySem.W.kia_one PySem.W.kitx_dict I.kIn ⟨o, h1, h2.1⟩ e (fun z => nomatch z) fun tk => ⟨.bl true, H, I.tok tk, rfl, q⟩
end
end SE
/-! The dict {None: t}: its display, its items. -/
namespace SE
open PySem PySem.Spec PyProof.Rows L2
def tNonD (P : Program) (w : World) (tk tv : TE) : TE := fun σ H Q => ∀ p, H p = none → tPairs [(tk, tv)] σ (upd H p (.dK [])) fun ps H2 => H2 p = some (.dK []) ∧ ∃ t : Addr, ps = [(.non, .ref t)] ∧ Q (.ref p) (upd H2 p (nonO P w p t))
theorem leaf_nil {P : Program} {w : World} {h : Heap} {a : Addr} (m : h.DictOf (mixKind P w) a []) : h.DictOf (leafKind P w) a [] := by
  obtain ⟨o, es, ep, h1, h2, h3, h4, h5, h6⟩ := m
  have e : es.toList = [] := by
    generalize es.toList = l at h5
    cases h5
    rfl
  refine ⟨o, es, ep, h1, h2, h3, fun x mx => ?_, by rw [e]; exact .nil, List.nodup_nil⟩
  have : x ∈ es.toList := Array.mem_toList_iff.mpr mx
  rw [e] at this
  cases this
theorem pe_nonD {X : Cx} {pos : Pos} {k v : Expr} {tk tv : TE} (h : PPs X pos [some k] [v] [(tk, tv)]) : PE X (.Dict [some k] [v] pos) (tNonD X.prog X.w tk tv) := by
  refine ⟨fun pins s σ H Q I q => ?_⟩
  have new := I.hok.fresh (Nat.le_refl s.heap.objs.size)
  have J := I.laid (a := s.heap.objs.size) (o := .dK []) (h' := s.heap.push { cls := .type "dict", data := .dict #[] }) (t' := s.toks) (fun _ _ z => Heap.get?_push_of_some _ z) (Nat.le_refl _) (dk_empty s.heap I.big)
  refine wpAny_Dict_walk (knd := leafKind X.prog X.w) rfl rfl (by simp) (by show 1 ≤ 15; decide) (thn (h.run pins _ σ _ _ J (q _ new)) fun ws s2 ⟨ps, H2, J2, rel, e, t, ep, q2⟩ => ?_)
  subst ep
  obtain ⟨_, hsys, vs0, r0, dd⟩ := dk_of J2.hok e
  cases r0
  cases rel with
  | @cons _ q0 _ _ c r =>
    cases r
    obtain ⟨k0, v0⟩ := q0
    obtain ⟨c1, c2⟩ := c
    cases (show k0 = Value.none from c1)
    cases (show v0 = Value.ref t from c2)
    refine ⟨[(Leaf.none, .ref t)], ⟨rfl, rfl, True.intro⟩, leaf_nil dd, fun h' d2 sb => ⟨.ref s.heap.objs.size, _, ?_, rfl, q2⟩⟩
    have there : ∃ ob, h'.get? s.heap.objs.size = some ob := let ⟨ob, _, _, z, _⟩ := d2; ⟨ob, z⟩
    exact d_write J2 (by rw [e]; exact True.intro) sb there (nonO_ok hsys d2)
/-! ### for k, v in {None: t}.items() -/
def ItN (P : Program) (w : World) (d : Addr) (o : Obj) (t : Addr) : It :=
  ⟨fun i H => H d = some (.frz o (nonO P w d t)) ∧ i < 1, fun i H x H' => ∃ T, x = .ref T ∧ H T = none ∧ H' = upd H T (.tup [.non, .ref t]), fun i H => H d = some (.frz o (nonO P w d t)) ∧ 1 ≤ i⟩
theorem walk_N {P : Program} {w : World} {d : Addr} {o : Obj} {t : Addr} : Walk (ItN P w d o t) 1 (fun H => H d = some (.frz o (nonO P w d t))) (fun i H x H' => ∃ T, x = .ref T ∧ H T = none ∧ H' = upd H T (.tup [.non, .ref t])) :=
  ⟨fun i _ hi q => ⟨q, hi⟩, fun _ q => ⟨q, Nat.le_refl _⟩, fun _ _ _ _ _ q y => y⟩
section
variable {X : Cx} {pins : List (Addr × Obj)} {σ : L2.St} {H : Hp} {s : Shared} {d t : Addr} {o : Obj}
theorem frzN (I : Inv X pins σ H s) (h : H d = some (.frz o (nonO X.prog X.w d t))) : (d == sysModules) = false ∧ ∃ (es : Array DictEntry) (ep : Nat), o.data = .dict es ep ∧ s.heap.DictAt (leafKind X.prog X.w) d [(Leaf.none, .ref t)] ep := by
  obtain ⟨hd, ⟨hs, o', es, ep, ho, hx, hdt, r⟩, _⟩ := I.hok d _ h
  rw [hd] at ho
  cases ho
  exact ⟨hs, es, ep, hdt, o, es, hd, hx, hdt, r⟩
end
section
variable {P : Program} {w : World} {K : PySem.W.Frag} {d t : Addr} {o : Obj} {es : Array DictEntry} {ep : Nat}
theorem turn_N {elts : List Expr} {kk : Nat} {tpos : Pos} (it : Addr) (hod : o.data = .dict es ep) : Turn P w K (.Tuple elts kk tpos) (ItN P w d o t) [it] it (fun i h => ∃ ok ov, IsItemIter h it d i 1 ep ok ov) where
  mem := by simp
  obj := fun i h st b hb => by
    obtain rfl : b = it := by simpa using hb
    obtain ⟨ok, ov, e⟩ := st
    exact ⟨_, e, fun v z => nomatch z⟩
  keep := fun i h h' st k => let ⟨ok, ov, e⟩ := st; ⟨ok, ov, k it (by simp) _ e⟩
  item := by
    intro X hP hw hK hc i pins s σ H E I hf st hg
    subst hP hw hK
    obtain ⟨hd, hi⟩ := hg
    obtain ⟨hs, es2, ep2, hdt, hm⟩ := frzN I hd
    obtain ⟨rfl, rfl⟩ := dict_ep hod hdt
    obtain rfl : i = 0 := by omega
    obtain ⟨ok, ov, he⟩ := st
    have lt : it < s.heap.objs.size := Heap.lt_size he
    refine wpAny_pyNext_items_item (kvs := [(Leaf.none, .ref t)]) he hm (k := Leaf.none) (v := .ref t) rfl fun key h' hkey ho hT hz hk => ?_
    refine ⟨_, rfl, wpAny_letOwnedTupleGo_items (s := { s with heap := h' }) ho fun h2 he2 sb => ?_⟩
    have T2 : h2.get? s.heap.objs.size = some { cls := .type "tuple", data := .seq #[key, .ref t] } := (sb.2 _ (Nat.ne_of_gt lt)).trans hT
    have ek : RelV .non key := by
      have q : Leaf.isOf .none key = true := hkey
      cases z : key with
      | none => rfl
      | _ => rw [z] at q; exact absurd q Bool.false_ne_true
    have nw : ObjOk X.prog X.w (upd H s.heap.objs.size (.tup [.non, .ref t])) h2 s.heap.objs.size (.tup [.non, .ref t]) :=
      ⟨by show 2 ≤ sizeLine; decide, [key, .ref t], .cons ek (.cons rfl .nil), ⟨_, T2, rfl, _, rfl⟩⟩
    have J : Inv X pins σ (upd H s.heap.objs.size (.tup [.non, .ref t])) { s with heap := h2 } :=
      I.turnedNew (t' := s.toks) (ch := [it]) (fun b ob hb e => (sb.2 b (by simpa using hb)).trans (hk b ob (by simpa using hb) e)) hf (Nat.le_refl _) nw
    refine ⟨.ref s.heap.objs.size, _, J, rfl, ⟨_, rfl, I.hok.fresh (Nat.le_refl _), rfl⟩, ⟨key, .ref t, he2⟩, fun b hb => ?_⟩
    obtain rfl : b = it := by simpa using hb
    rw [upd_ne (Nat.ne_of_lt lt)]
    exact (hf b (by simp)).1
  done := by
    intro X hP hw hK hc i pins s σ H E I hf st hg
    subst hP hw hK
    obtain ⟨hd, hi⟩ := hg
    obtain ⟨f0, f1, f2, f3, f4, f5⟩ := hf it (by simp)
    obtain ⟨hs, es2, ep2, hdt, hm⟩ := frzN I hd
    obtain ⟨rfl, rfl⟩ := dict_ep hod hdt
    obtain ⟨ok, ov, he⟩ := st
    exact wpAny_pyNext_items_end (kvs := [(Leaf.none, .ref t)]) (I.ok.hd hc) he hm (List.getElem?_eq_none hi) fun h' eb => ⟨rfl, I.turned (t' := s.toks) (fun b ob hb e => eb b ob hb e) f0 f1 f3 f4 f5⟩
  self := fun A i s Q E st h => let ⟨_, _, e⟩ := st; PySem.W.kcp_self e h
end
def iItemsN (P : Program) (w : World) (td : TE) : TI := fun σ H R => td σ H fun x H1 => ∃ d o t, x = .ref d ∧ H1 d = some (.frz o (nonO P w d t)) ∧ R (ItN P w d o t) H1
theorem pi_itemsN {X : Cx} {e : Expr} {td : TE} {apos cpos tpos : Pos} {elts : List Expr} {kk : Nat} (he : PE X e td) (hbase : attributeBase e "items" X.env (eval e X.env) = eval e X.env := by rfl) (hline : (apos.endLine == cpos.line) = true := by rfl) :
    PI X (.Tuple elts kk tpos) (.Call (.Attribute e "items" apos) [] [] cpos) (iItemsN X.prog X.w td) := by
  refine ⟨fun pins s σ H R I h => ?_⟩
  refine wpAny_Call_method (T := "dict") (id := "dict.items") hbase rfl hline PySem.F.plainAttrs_dict PySem.F.slot_dict_items PySem.F.type_dict_items (thn (he.run pins s σ H _ I h) fun u s1 ⟨x, H1, I1, rx, d, o, t, ex, hd, q⟩ => ?_)
  subst ex
  obtain rfl : u = Value.ref d := rx
  obtain ⟨hs, es, ep, hdt, hm⟩ := frzN I1 hd
  refine ⟨hm.dictOf.typeIs, hm.dictOf.mapOf.noDict, ?_⟩
  have J : Inv X pins σ H1 { s1 with heap := s1.heap.push { cls := .type "dict_items", data := .fields #[.ref d] } } := I1.kept (t' := s1.toks) fun b ob z => Heap.get?_push_of_some _ z
  have fin : wpAny (model X.prog X.w) X.A (pyIter (.ref s1.heap.objs.size)) (PIE X pins σ (.Tuple elts kk tpos) R) X.xe { s1 with heap := s1.heap.push { cls := .type "dict_items", data := .fields #[.ref d] } } := by
    refine wpAny_pyIter_items (d := d) (knd := leafKind X.prog X.w) ⟨_, Heap.get?_push_size _ rfl, rfl, rfl⟩ (hm.push _) (pi_one (tk := s1.toks) J _ (turn_N _ hdt) ⟨.none, .none, ?_⟩ q)
    exact Heap.get?_push_size _ rfl
  show wpAny _ _ (callWith cpos (.builtin "dict.items") [.ref d] [] []) _ X.xe s1
  exact method_meetsIn PySem.F.slot_dict_items PySem.F.entry_dict_items rfl (PySem.evalArgs_none ⟨rfl, hm.dictOf.typeIs, PySem.F.args_dict_items_1 _, _, meets_dict_items (leafKind X.prog X.w) d hs, ⟨_, hm.dictOf⟩, fin⟩)
end SE
/-! Classes and methods called by keyword where exceptions may come, also within a try. -/
namespace SE
open PySem PySem.Spec PyProof.Rows L2
section
variable {X : Cx} {CT : CXT} {k n : Nat} {f C : Addr} {fd : FuncData} {ps ks : List Str} {sp : Sp} {x m : Str} {p pos apos : Pos} {e o : Expr} {es : List Expr} {kws : List Keyword} {te : TE} {t tk : TA} {ex : L2.St → XK}
  {g : List Value → List Value → List Value} {gV : List V → List V → List V}
/-- a def called with some arguments by keyword; ex σ is what is wished of its exceptions -/
theorem run_kwS {pins : List (Addr × Obj)} {σ : L2.St} {H : Hp} {s : Shared} {Q : VK} {us ws : List Value} {vs zs : List V} (F : FnOk X.prog X.w X.K X.mg X.base CT k f fd ps sp) (room : Room k X.A) (bd : KBn X.K fd ps n ks g gV)
    (out : PassesAt CT X σ (ex σ)) (I : Inv X pins σ H s) (r1 : Vals vs us) (r2 : Vals zs ws) (l1 : vs.length = n) (l2 : zs.length = ks.length) (h : sp (gV vs zs) H Q (ex σ)) :
    wpAny (model X.prog X.w) X.A (call (.ref f) us (ks.zip ws)) (EP X pins σ Q) X.xe s := by
  have to := bd.to s us ws I.kIn (r1.length.symm.trans l1) (r2.length.symm.trans l2)
  have run := F.run X.A X.stack s H ⟨us, ks.zip ws⟩ (g us ws) (gV vs zs) Q (ex σ) room I.env0 to (bd.rel r1 r2) h
  refine wpAny_call (codeAny_mono run fun res s2 done => ?_)
  match res, done with
  | .error ev, done => exact out pins H s ev s2 I done
  | .ok (.ret u), done => exact I.after done
  | .ok .next, done => exact done.elim
  | .ok .brk, done => exact done.elim
  | .ok .cont, done => exact done.elim
/-- a class called with some arguments by keyword -/
theorem run_mkS {pins : List (Addr × Obj)} {σ : L2.St} {H : Hp} {s : Shared} {Q : VK} {us ws : List Value} {vs zs : List V} (M : Mk X.K C f) (F : FnOk X.prog X.w X.K X.mg X.base CT k f fd ps sp) (room : Room (k + 1) X.A) (bd : KBn X.K fd ps (n + 1) ks g gV)
    (out : PassesAt CT X σ (ex σ)) (I : Inv X pins σ H s) (r1 : Vals vs us) (r2 : Vals zs ws) (l1 : vs.length = n) (l2 : zs.length = ks.length)
    (h : ∀ b db, H b = none → H db = none → db ≠ b → sp (gV (.ref b :: vs) zs) (upd (upd H db (.own b)) b (.ins C db [])) (fun v H2 => v = .non ∧ Q (.ref b) H2) (ex σ)) :
    wpAny (model X.prog X.w) X.A (call (.ref C) us (ks.zip ws)) (EP X pins σ Q) X.xe s := by
  have new := h (s.heap.objs.size + 1) s.heap.objs.size (I.hok.fresh (Nat.le_succ _)) (I.hok.fresh (Nat.le_refl _)) (Nat.ne_of_lt (Nat.lt_succ_self _))
  have made := Inv.made (C := C) I
  have rs : Vals (V.ref (s.heap.objs.size + 1) :: vs) (Value.ref (s.heap.objs.size + 1) :: us) := .cons rfl r1
  have len : (Value.ref (s.heap.objs.size + 1) :: us).length = n + 1 := congrArg (· + 1) (r1.length.symm.trans l1)
  have to := bd.to _ (Value.ref (s.heap.objs.size + 1) :: us) ws made.kIn len (r2.length.symm.trans l2)
  have run := F.run _ X.stack _ _ ⟨Value.ref (s.heap.objs.size + 1) :: us, ks.zip ws⟩ (g (Value.ref (s.heap.objs.size + 1) :: us) ws) _ _ (ex σ) (room.make C us (ks.zip ws)) (made.env0.make C us (ks.zip ws)) to (bd.rel rs r2) new
  refine wpAny_call (make_map (f := f) I.kIn M.makes M.init (beq_iff_eq.mp M.fn) (codeAny_mono run fun res s2 done => ?_))
  match res, done with
  | .error ev, done => exact out pins _ _ ev s2 made done
  | .ok (.ret u), done =>
    obtain ⟨v, H2, I2, rel, ev, q⟩ := made.after done
    subst ev
    exact ⟨rel, V.ref (s.heap.objs.size + 1), H2, I2, rfl, q⟩
  | .ok .next, done => exact done.elim
  | .ok .brk, done => exact done.elim
  | .ok .cont, done => exact done.elim
/-- C(e, .., k = v, ..) -/
def tMkS (C : Addr) (n m : Nat) (sp : Sp) (gV : List V → List V → List V) (ex : L2.St → XK) (t tk : TA) : TE := fun σ H Q => t σ H fun vs H1 => tk σ H1 fun zs H2 => vs.length = n ∧ zs.length = m ∧
  ∀ b db, H2 b = none → H2 db = none → db ≠ b → sp (gV (.ref b :: vs) zs) (upd (upd H2 db (.own b)) b (.ins C db [])) (fun v H3 => v = .non ∧ Q (.ref b) H3) (ex σ)
theorem pe_mkS (M : Mk X.K C f) (F : FnOk X.prog X.w X.K X.mg X.base CT k f fd ps sp) (room : Room (k + 1) X.A) (hm : X.mg x = some (.ref C)) (bd : KBn X.K fd ps (n + 1) ks g gV) (out : ∀ σ, PassesAt CT X σ (ex σ)) (ha : PA X (e :: es) t) (hk : PK X kws tk)
    (hks : (backToKw pos (keywordEach kws X.env)).filterMap (·.1) = ks := by rfl) (hall : (backToKw pos (keywordEach kws X.env)).all (·.1.isSome) = true := by rfl) (hg : Gl X x := by rfl) (hd : (x == ("__debug__" : Str)) = false := by decide)
    (he : starEach (e :: es) X.env = (false, eval e X.env) :: starEach es X.env := by rfl) (hpl : ((backTo pos (starEach (e :: es) X.env)).any (·.1) || (backToKw pos (keywordEach kws X.env)).any (·.1.isNone)) = false := by rfl) :
    PE X (.Call (.Name x p) (e :: es) kws pos) (tMkS C n ks.length sp gV ex t tk) := by
  constructor
  intro pins s σ H Q I w
  refine wpAny_Call_Name_kw (ld_glob I hg hm ?_ hd)
  refine PySem.W.callWith_KW (h₀ := X.base) I.ok.mod.kin M.kp hall (thn (ha.run pos pins s σ H _ I w) fun us s1 z => ?_) hpl he
  obtain ⟨vs, H1, I1, r1, w1⟩ := z
  refine thn (hk.run pos pins s1 σ H1 _ I1 w1) fun ws s2 z => ?_
  obtain ⟨zs, H2, I2, r2, l1, l2, w2⟩ := z
  rw [hks]
  exact ⟨I2.kIn, run_mkS M F room bd (out σ) I2 r1 r2 l1 l2 w2⟩
/-- o.m(e, .., k = v, ..) -/
def tMethS (C : Addr) (m : Str) (n j : Nat) (sp : Sp) (gV : List V → List V → List V) (ex : L2.St → XK) (te : TE) (t tk : TA) : TE := fun σ H Q => te σ H fun y H1 => ∃ b db fs, y = .ref b ∧ H1 b = some (.ins C db fs) ∧ fs.lookup m = none ∧
  t σ H1 fun vs H2 => tk σ H2 fun zs H3 => vs.length = n ∧ zs.length = j ∧ sp (gV (.ref b :: vs) zs) H3 Q (ex σ)
theorem pe_methS {pl : Sem Bool} (ho : PE X o te) (c : Cls X.K C) (hm : Meth X.K C m f) (F : FnOk X.prog X.w X.K X.mg X.base CT k f fd ps sp) (room : Room k X.A) (bd : KBn X.K fd ps (n + 1) ks g gV) (out : ∀ σ, PassesAt CT X σ (ex σ)) (ha : PA X (e :: es) t) (hk : PK X kws tk)
    (hks : (backToKw pos (keywordEach kws X.env)).filterMap (·.1) = ks := by rfl) (hall : (backToKw pos (keywordEach kws X.env)).all (·.1.isSome) = true := by rfl)
    (he : starEach (e :: es) X.env = (false, eval e X.env) :: starEach es X.env := by rfl) (hpl : ((backTo pos (starEach (e :: es) X.env)).any (·.1) || (backToKw pos (keywordEach kws X.env)).any (·.1.isNone)) = false := by rfl)
    (hev : eval (.Call (.Attribute o m apos) (e :: es) kws pos) X.env = (do
      let ov ← eval o X.env
      standAt apos.atName
      let (f, first) ← holding [ov] (getMethod ov m pl)
      callWith pos f first (backTo pos (starEach (e :: es) X.env)) (backToKw pos (keywordEach kws X.env))) := by rfl) :
    PE X (.Call (.Attribute o m apos) (e :: es) kws pos) (tMethS C m n ks.length sp gV ex te t tk) := by
  constructor
  intro pins s σ H Q I w
  refine PySem.W.methodCall_KW (pl := pl) (thn (ho.run pins s σ H _ I w) fun u s1 z => ?_) hev
  obtain ⟨y, H1, I1, ry, b, db, fs, ey, hb, lk, w1⟩ := z
  subst ey
  obtain rfl : u = Value.ref b := ry
  refine getmeth_ok I1 hb c hm lk ?_
  refine PySem.W.callWith_KW (first := [.ref b]) (h₀ := X.base) I.ok.mod.kin hm.kp hall (thn (ha.run pos pins s1 σ H1 _ I1 w1) fun us s2 z => ?_) hpl he
  obtain ⟨vs, H2, I2, r1, w2⟩ := z
  refine thn (hk.run pos pins s2 σ H2 _ I2 w2) fun ws s3 z => ?_
  obtain ⟨zs, H3, I3, r2, l1, l2, w3⟩ := z
  rw [hks]
  exact ⟨I3.kIn, run_kwS (n := n + 1) (us := .ref b :: us) (vs := .ref b :: vs) F room bd (out σ) I3 (.cons rfl r1) r2 (congrArg (· + 1) l1) l2 w3⟩
/-! ### a static method of a class -/
/-- C.m is a staticmethod: its record at p, its def at f -/
structure SMet (K : PySem.W.Frag) (C : Addr) (mc : Value) (m : Str) (p f : Addr) : Prop where
  at_ : PySem.W.findCls K (.ref C) mc m = some (.get (.builtin "staticmethod.__get__") (.ref p) .none (.ref C))
  rc : ∃ rest, PySem.W.recIn K p "staticmethod" = some (.ref f :: rest)
  kp : PySem.W.keepIn K (.ref f) = true
/-- a def by its promise on positional values, exceptions as ex σ wishes -/
theorem run_rS {pins : List (Addr × Obj)} {σ : L2.St} {H : Hp} {s : Shared} {Q : VK} {us : List Value} {vs : List V} (F : FnR X.prog X.w X.K X.mg X.base CT k f sp) (room : Room k X.A) (out : PassesAt CT X σ (ex σ)) (I : Inv X pins σ H s) (r : Vals vs us) (h : sp vs H Q (ex σ)) :
    wpAny (model X.prog X.w) X.A (call (.ref f) us) (EP X pins σ Q) X.xe s := by
  refine wpAny_call (codeAny_mono (F X.A X.stack s H us vs Q (ex σ) room I.env0 r h) fun res s2 done => ?_)
  match res, done with
  | .error ev, done => exact out pins H s ev s2 I done
  | .ok (.ret u), done => exact I.after done
  | .ok .next, done => exact done.elim
  | .ok .brk, done => exact done.elim
  | .ok .cont, done => exact done.elim
/-- C.m(e, ..) of a staticmethod -/
def tSMeth (C : Addr) (sp : Sp) (ex : L2.St → XK) (te : TE) (t : TA) : TE := fun σ H Q => te σ H fun y H1 => y = .ref C ∧ t σ H1 fun vs H2 => sp vs H2 Q (ex σ)
theorem pe_smeth {pl : Sem Bool} {mc : Value} {q : Addr} (ho : PE X o te) (rd : ClX.CRead X.K C mc) (c : SMet X.K C mc m q f) (F : FnR X.prog X.w X.K X.mg X.base CT k f sp) (room : Room k X.A) (out : ∀ σ, PassesAt CT X σ (ex σ)) (ha : PA X (e :: es) t)
    (he : starEach (e :: es) X.env = (false, eval e X.env) :: starEach es X.env := by rfl) (hpl : (backTo pos (starEach es X.env)).any (·.1) = false := by rfl)
    (hev : eval (.Call (.Attribute o m apos) (e :: es) [] pos) X.env = (do
      let ov ← eval o X.env
      standAt apos.atName
      let (f, first) ← holding [ov] (getMethod ov m pl)
      callWith pos f first (backTo pos (starEach (e :: es) X.env)) (backToKw pos (keywordEach [] X.env))) := by rfl) :
    PE X (.Call (.Attribute o m apos) (e :: es) [] pos) (tSMeth C sp ex te t) := by
  constructor
  intro pins s σ H Q I w
  refine PySem.W.methodCall_KW (pl := pl) (thn (ho.run pins s σ H _ I w) fun u s1 z => ?_) hev
  obtain ⟨y, H1, I1, ry, ey, w1⟩ := z
  subst ey
  obtain rfl : u = Value.ref C := ry
  obtain ⟨rest, rec⟩ := c.rc
  refine PySem.W.method_cls I1.kIn rd.ga (PySem.W.cls_bind I1.kIn rd.rd c.at_ ?_)
  refine wpAny_call (PySem.W.sm_get (s := { s1 with toks := s1.toks + 1 }) I1.kIn rec (PySem.W.handed_on rfl ?_))
  have I2 : Inv X pins σ H1 { s1 with toks := s1.toks + 1 } := I1.tok _
  refine PySem.W.callWith_K (first := []) (h₀ := X.base) I.ok.mod.kin c.kp (thn (ha.run pos pins _ σ H1 _ I2 w1) fun us s3 z => ?_) he hpl
  obtain ⟨vs, H3, I3, r3, w3⟩ := z
  exact ⟨I3.kIn, run_rS F room (out σ) I3 r3 w3⟩
end
end SE
/-! Exceptions of own classes as values, below any built-in class, made by position or by keyword. -/
namespace PySem
namespace XV
open PySem.W PySem.Calls PyProof.Rows PySem.HandSPX
open Builtin Builtin.ObjectAttr
/-- what lies behind an own class: the maker and the built-in classes -/
structure Tail (newId : String) (bm : List Value) : Prop where
  maker : ∃ B initId bmB, ExcBaseFacts B newId initId bmB ∧ bm.contains (.type B) = true
  nA : bm.contains (.type "AttributeError") = false
  nN : bm.contains (.type "NameError") = false
  ob : bm.contains (.type "object") = true
  ps : ∀ self : Value, refuseLoop self "__setattr__" bm = pure ()
section
variable {M : Model} {A : Around} {E : Value → Shared → Prop} {h : Heap} {g : Array GenState} {d : Drawn} {t : Nat} {os : OsState}
variable {nm q : Str} {C N : Addr} {bs bm bmB : List Value} {hdct : Bool} {sn : List Str} {sub : List Value} {ab : Bool} {col : Option Bool} {dd : Option Addr} {k0 k1 k2 k3 k5 : Option Value} {B newId initId : String}
theorem chk_new (F : ExcBaseFacts B newId initId bmB) (hB : bm.contains (.type B) = true) {rest : List Value} {kw : List (Str × Value)} {Q : Unit → Shared → Prop}
    (hC : h.get? C = some (excClassObj nm q C N bs bm hdct sn sub ab col dd k0 k1 k2 k3 k5 newId)) (hq : Q () ⟨h, g, d, t, os⟩) : wpAny M A (checkBuiltinCall newId ⟨.ref C :: rest, kw⟩) Q E ⟨h, g, d, t, os⟩ := by
  have hcont : (Value.ref C :: bm).contains (.type B) = true := by rw [List.contains_cons, hB, Bool.or_true]
  have hstar := F.noStar
  simp only [checkBuiltinCall, F.newKind, F.newSplit, F.newRow]
  repeat (first | refine wpAny_loadPart_at hC ?_ | (refine wpAny_isSubtype_exc hC ?_; rw [hcont]) | refine wpAny_staticBase_exc hC ?_ | refine wpAny_madeBy_exc hC ?_ | simp only [bne_self_eq_false, Bool.false_eq_true, if_false] | wp_step)
  exact hq
theorem typ_call (hC : h.get? C = some (excClassObj nm q C N bs bm hdct sn sub ab col dd k0 k1 k2 k3 k5 newId)) : W.Looks M h (isInstance (.ref C) (.type "type")) true := by
  have L : W.Looks M h (typeOf (.ref C)) (.type "type") := (W.Looks.ld hC).andThen .now
  exact L.andThen (W.Looks.of_pure tc_sub)
theorem chk_call {rest : List Value} {kw : List (Str × Value)} {Q : Unit → Shared → Prop} (hC : h.get? C = some (excClassObj nm q C N bs bm hdct sn sub ab col dd k0 k1 k2 k3 k5 newId))
    (hq : Q () ⟨h, g, d, t, os⟩) : wpAny M A (checkBuiltinCall "type.__call__" ⟨.ref C :: rest, kw⟩) Q E ⟨h, g, d, t, os⟩ :=
  @W.check_slot M _ _ ⟨h, g, d, t, os⟩ "type.__call__" "type" "__call__" (.ref C) rest kw _ tc_kind tc_split (typ_call hC) (tc_args _ _ _) hq
end
section
variable {prog : Program} {w : World} {A : Around} {E : Value → Shared → Prop} {R : Result → Shared → Prop} {h : Heap} {g : Array GenState} {d : Drawn} {t : Nat} {os : OsState}
variable {nm q : Str} {C N : Addr} {bs bm : List Value} {hdct : Bool} {sn : List Str} {sub : List Value} {ab : Bool} {col : Option Bool} {dd : Option Addr} {k0 k1 k2 k3 k5 : Option Value} {newId : String}
theorem new_ex (T : Tail newId bm) {rest : List Value} {kw : List (Str × Value)} (hC : h.get? C = some (excClassObj nm q C N bs bm hdct sn sub ab col dd k0 k1 k2 k3 k5 newId))
    (hq : R (.ok (.ret (.ref (h.objs.size + 1)))) ⟨(h.push (W.kdv_tup rest)).push (excO C h.objs.size), g, d, t, os⟩) (hrest : rest.length ≤ sizeLine) :
    codeAny (model prog w) A (.builtin newId ⟨.ref C :: rest, kw⟩) R ⟨h, g, d, t, os⟩ := by
  obtain ⟨B, initId, bmB, F, hB⟩ := T.maker
  have hends := F.ends
  have hcB : (Value.ref C :: bm).contains (.type B) = true := by rw [List.contains_cons, hB, Bool.or_true]
  have hcA : (Value.ref C :: bm).contains (.type "AttributeError") = false := by rw [List.contains_cons, T.nA]; rfl
  have hcN : (Value.ref C :: bm).contains (.type "NameError") = false := by rw [List.contains_cons, T.nN]; rfl
  refine codeAny_builtinAt F.entry ?_
  unfold Builtin.«BaseException.__new__»
  refine wpAt_bind ?_
  show wpAt _ _ _ (stack >>= _) _ _ _
  refine wpAt_bind (wpAt_stack fun p below => wpAt_of_wpAny ?_)
  wp_walk
  refine wpAt_of_wpAny ?_
  rw [F.owner]
  repeat (first | with_reducible refine wpAny_madeHere_exc F.canon hC ?_ | with_reducible refine wpAny_loadPart_at hC ?_ | (with_reducible refine wpAny_isSubtype_exc hC ?_; first | rw [hcB] | rw [hcA] | rw [hcN]) | wp_step)
  show R _ _
  rw [Heap.size_push]
  exact hq
theorem tcall (T : Tail newId bm) {rest : List Value} {kw : List (Str × Value)} {fI : Addr} {Q : Fin → Shared → Prop} (hC : h.get? C = some (excClassObj nm q C N bs bm hdct sn sub ab col dd k0 k1 k2 k3 k5 newId))
    (hi : W.Looks (model prog w) h (typeLookup (.ref C) "__init__") (some (.ref fI))) (hb : ∀ self, W.Looks (model prog w) h (bindSpecial (.ref fI) self) (.ref fI, [self])) (hrest : rest.length ≤ sizeLine)
    (hq : codeAny (model prog w) A (.call (.ref fI) ⟨.ref (h.objs.size + 1) :: rest, kw⟩)
      (fun r s' => match r with | .ok (.ret v) => v = .none ∧ Q (.done (.ret (.ref (h.objs.size + 1)))) s' | .ok _ => False | .error e => E e s')
      ⟨(h.push (W.kdv_tup rest)).push (excO C h.objs.size), g, d, t, os⟩) :
    wpAny (model prog w) A (Builtin.«type.__call__» ⟨.ref C :: rest, kw⟩) Q E ⟨h, g, d, t, os⟩ := by
  obtain ⟨B, initId, bmB, F, hB⟩ := T.maker
  repeat (first | with_reducible refine wpAny_loadPart_at hC ?_ | with_reducible refine wpAny_madeBy_exc hC ?_ | wp_step)
  refine codeAny_call_builtin_code (Code.quiet_builtin _ F.quiet) (chk_new F hB hC ?_)
  refine new_ex T hC ?_ hrest
  show wpAny _ _ _ _ _ _
  have k : ∀ b o, h.get? b = some o → ((h.push (W.kdv_tup rest)).push (excO C h.objs.size)).get? b = some o := fun b o e => Heap.get?_push_of_some _ (Heap.get?_push_of_some _ e)
  have hC₁ := k _ _ hC
  have hget : ((h.push (W.kdv_tup rest)).push (excO C h.objs.size)).get? (h.objs.size + 1) = some (excO C h.objs.size) := by heap_get
  have hcC : (Value.ref C :: bm).contains (.ref C) = true := by simp
  have i1 := hi.keeps k
  have b1 := (hb (.ref (h.objs.size + 1))).keeps k
  unfold isInstance
  repeat (first | with_reducible refine wpAny_loadPart_at hget ?_ | (with_reducible refine wpAny_isSubtype_exc hC₁ ?_; rw [hcC]) | wp_step)
  show wpAny _ _ (typeLookup (.ref C) _) _ _ _
  refine i1.at ?_
  refine wpAny_holding (wpAny_bind (b1.at ?_))
  refine wpAny_bind (wpAny_call (codeAny_mono hq fun r s' z => ?_))
  rcases r with e | (v | _ | _ | _) <;> first | exact z | exact z.elim | skip
  obtain ⟨rfl, z⟩ := z
  first
    | exact wpAny_pure (wpAny_pure z)
    | (wp_walk; exact z)
theorem call_ex (T : Tail newId bm) {rest : List Value} {kw : List (Str × Value)} {fI : Addr} (hC : h.get? C = some (excClassObj nm q C N bs bm hdct sn sub ab col dd k0 k1 k2 k3 k5 newId))
    (hi : W.Looks (model prog w) h (typeLookup (.ref C) "__init__") (some (.ref fI))) (hb : ∀ self, W.Looks (model prog w) h (bindSpecial (.ref fI) self) (.ref fI, [self])) (hrest : rest.length ≤ sizeLine)
    (hq : codeAny (model prog w) (A.under (.builtin "type.__call__" ⟨.ref C :: rest, kw⟩)) (.call (.ref fI) ⟨.ref (h.objs.size + 1) :: rest, kw⟩) (W.InitBack (h.objs.size + 1) R)
      ⟨(h.push (W.kdv_tup rest)).push (excO C h.objs.size), g, d, t, os⟩) :
    codeAny (model prog w) A (.call (.ref C) ⟨rest, kw⟩) R ⟨h, g, d, t, os⟩ := by
  have f1 := tc_lookup
  have f2 := tc_bind (.ref C)
  have hTy : (⟨h, g, d, t, os⟩ : Shared).TypeIs (.ref C) "type" := ⟨_, hC, rfl⟩
  refine codeAny_of_tree ?_
  show wpAny _ _ (callAny (.ref C) _) _ _ _
  repeat (any_goals (first | assumption | with_reducible refine wpAny_loadPart_at hC ?_ | wp_step))
  refine ⟨rfl, ?_⟩
  refine codeAny_call_builtin_at (Code.quiet_builtin _ (by decide +kernel)) entry_typeCall (chk_call hC (tcall T hC hi hb hrest ?_))
  refine codeAny_mono hq fun r s' z => ?_
  rcases r with e | (v | _ | _ | _) <;> exact z
/-- self.name = v, the first one -/
theorem put_ex {K : W.Frag} {name : Str} {tk : Tok} {v : Value} {x C : Addr} {fv : Array Value} {cd : ClassData}
    (X : K.In h) (hx : h.get? x = some { cls := .ref C, data := .fields fv }) (hcd : W.clsIn K C = some cd) (ne : cd.mro.isEmpty = false) (hob : cd.mro.contains (.type "object") = true) (pass : ∀ self : Value, refuseLoop self "__setattr__" cd.mro = pure ()) (hh : cd.hasDict = true) (ha : W.findIn K (.ref C) name = some none)
    (hq : ∀ h' tk' dx, (∀ b o, b ≠ x → h.get? b = some o → h'.get? b = some o) → h.objs.size ≤ dx → dx ≠ x → h'.get? x = some { cls := .ref C, dict := some dx, data := .fields fv } →
      h'.Ns1 dx (fun y => if y = name then some v else none) → R (.ok (.ret .none)) ⟨h', g, d, tk', os⟩) :
    codeAny (model prog w) A (.call (.builtin "object.__setattr__") ⟨[.ref x, .str name tk, v], []⟩) R ⟨h, g, d, t, os⟩ := by
  have I : W.InstAt h x { cls := .ref C, data := .fields fv } C none := ⟨hx, rfl, rfl, trivial⟩
  have SF := F.store_object
  have hxs : x ≠ h.objs.size := Nat.ne_of_lt (Heap.lt_size hx)
  have sub : W.Looks (model prog w) h (isInstance (.ref x) (.type "object")) true := I.type.andThen (W.looks_mroIn X (by unfold W.mroIn; rw [hcd, Option.bind_some, if_neg (by rw [ne]; decide), hob]))
  refine codeAny_call_builtin SF.slot.plain SF.entry (@W.check_slot (model prog w) _ _ ⟨h, g, d, t, os⟩ "object.__setattr__" "object" "__setattr__" (.ref x) [.str name tk, v] [] _ SF.kind SF.split sub (SF.args (.ref x) (.str name tk) v) ?_)
  have hmr : W.Looks (model prog w) h (mroOf (.ref C)) cd.mro := (W.looks_clsIn X hcd).andThen .now
  have L3 : W.Looks (model prog w) h (storeTaker? none) none := .now
  have hcls : W.Looks (model prog w) h (classData C) cd := W.looks_clsIn X hcd
  rw [W.osa_eq, refuse_eq]
  refine wpAny_bind (wpAny_bind (I.type.at (wpAny_bind (hmr.at ?_))))
  rw [pass]
  refine wpAny_pure (wpAny_bind (I.type.at (wpAny_bind ((W.looks_findIn X ha).at (wpAny_bind (L3.at ?_))))))
  show wpAny _ _ (storeInOwnDict (.ref x) (.ref C) (.str name tk) name v false) _ _ _
  obtain ⟨nm, bs, mro, ns, qn, hd, sn, sb, ab, col, del⟩ := cd
  dsimp only at hh
  subst hh
  unfold storeInOwnDict ownDictForStores
  repeat (first | with_reducible refine store_in_new ?_ ?_ | with_reducible refine wpAny_loadPart_at hx ?_ | with_reducible refine hcls.at ?_ | wp_step)
  · exact ⟨_, #[], _, (Heap.get?_update_ne _ _ _ _ hxs.symm).trans (Heap.get?_push_at rfl rfl), rfl, fun e he => absurd he (by simp), fun _ => rfl⟩
  · intro h' tk' hn' hs
    have hx₁ : (h.push { cls := .type "dict", data := .dict #[] }).get? x = some { cls := .ref C, data := .fields fv } := Heap.get?_push_of_some _ hx
    refine hq h' tk' h.objs.size (fun b o hb ho => ?_) (Nat.le_refl _) hxs.symm ?_ hn'
    · exact (hs.2 b (Nat.ne_of_lt (Heap.lt_size ho))).trans ((Heap.get?_update_ne _ _ _ _ hb).trans (Heap.get?_push_of_some _ ho))
    · exact (hs.2 x hxs).trans (Heap.get?_update_self _ hx₁ rfl)
end
end XV
end PySem

namespace SE
open PySem PySem.Spec PyProof.Rows L2
/-- what the written part says of a class of exceptions -/
structure OexV (K : PySem.W.Frag) (C : Addr) : Prop where
  cls : ∃ nm q N bs bm sn sub ab col dd k0 k1 k2 k3 k5 newId, K.lookup C = some (excClassObj nm q C N bs bm true sn sub ab col dd k0 k1 k2 k3 k5 newId) ∧ XV.Tail newId bm
  sa : PySem.W.findIn K (.ref C) "__setattr__" = some (some (.builtin "object.__setattr__"))
  kC : PySem.W.keepIn K (.ref C) = true
theorem tail_VE {bm : List Value} (h : PySem.HandSPX.refsVE bm = true) : XV.Tail "ValueError.__new__" bm :=
  ⟨⟨_, _, _, F.excBase_ValueError, by rw [PySem.HandSPX.refsVE_contains _ _ h]; decide +kernel⟩, by rw [PySem.HandSPX.refsVE_contains _ _ h]; decide +kernel, by rw [PySem.HandSPX.refsVE_contains _ _ h]; decide +kernel,
    by rw [PySem.HandSPX.refsVE_contains _ _ h]; decide +kernel, fun self => PySem.HandSPX.refsVE_pass self _ h⟩
theorem tail_LE : XV.Tail "LookupError.__new__" [.type "LookupError", .type "Exception", .type "BaseException", .type "object"] := ⟨⟨_, _, _, F.excBase_LookupError, by decide +kernel⟩, by decide +kernel, by decide +kernel, by decide +kernel, fun self => F.store_LookupError.passes self⟩
theorem tail_RE : XV.Tail "RuntimeError.__new__" [.type "RuntimeError", .type "Exception", .type "BaseException", .type "object"] := ⟨⟨_, _, _, F.excBase_RuntimeError, by decide +kernel⟩, by decide +kernel, by decide +kernel, by decide +kernel, fun self => F.store_RuntimeError.passes self⟩
theorem tail_OE : XV.Tail "OverflowError.__new__" [.type "OverflowError", .type "ArithmeticError", .type "Exception", .type "BaseException", .type "object"] := ⟨⟨_, _, _, F.excBase_OverflowError, by decide +kernel⟩, by decide +kernel, by decide +kernel, by decide +kernel, fun self => F.store_OverflowError.passes self⟩
theorem tail_KE : XV.Tail "LookupError.__new__" [.type "KeyError", .type "LookupError", .type "Exception", .type "BaseException", .type "object"] := ⟨⟨_, _, _, F.excBase_LookupError, by decide +kernel⟩, by decide +kernel, by decide +kernel, by decide +kernel, fun self => by kernel_rfl⟩
section
variable {X : Cx} {pins : List (Addr × Obj)} {σ : L2.St} {H : Hp} {s : Shared} {a C dx : Addr} {f : Str} {y : V} {u : Value} {fs : List (Str × V)} {Q : Unit → Shared → Prop} {E : Value → Shared → Prop} {A : Around}
theorem ost_newV (T : OexV X.K C) (I : Inv X pins σ H s) (e : H a = some (exo a C none)) (hno : PySem.W.findIn X.K (.ref C) f = some none) (ry : RelV y u)
    (h : ∀ dx s', H dx = none → dx ≠ a → Inv X pins σ (upd (upd H dx (exd dx [(f, y)])) a (exo a C (some dx))) s' → Q () s') : wpAny (model X.prog X.w) A (setAttr (.ref a) f u) Q E s := by
  obtain ⟨nm, q, N, bs, bm, sn, sub, ab, col, dd, k0, k1, k2, k3, k5, newId, hC, hT⟩ := T.cls
  have hcl : PySem.W.clsIn X.K C = some { name := nm, bases := bs, mro := .ref C :: bm, ns := N, qualname := q, hasDict := true, slotNames := sn, subclasses := sub, abstract := ab, collection := col, hasDel := false } := by unfold PySem.W.clsIn; rw [hC] <;> rfl
  obtain ⟨t1, ho⟩ := exo_at I.hok e
  obtain ⟨hp, g, d, t, os⟩ := s
  refine PySem.W.set_plain I.kIn (ox := { cls := .ref C, dict := none, data := .fields #[.ref t1, .none, .none, .none, .bool false, .none] }) (od := none) ⟨ho, rfl, rfl, trivial⟩ T.sa ?_
  refine PySem.XV.put_ex I.kIn ho hcl rfl (by show List.contains (Value.ref C :: bm) _ = true; rw [List.contains_cons, hT.ob, Bool.or_true]) (fun self => by rw [refuseLoop_ref]; exact hT.ps self) rfl hno (fun h' tk' dx k dn dne hx hn => ?_)
  have hnd : H dx = none := I.hok.fresh dn
  have nd : ∀ {b : Addr} {o : Obj}, hp.get? b = some o → b ≠ dx := fun {b o} q => Nat.ne_of_lt (Nat.lt_of_lt_of_le (Heap.lt_size q) dn)
  have na : ∀ {b : Addr}, H b = none → b ≠ a := fun {b} n z => by
    rw [z, e] at n
    cases n
  have Un1 : Un X.fs [] H (upd (upd H dx (exd dx [(f, y)])) a (exo a C (some dx))) hp h' := {
    keep := fun b o q n _ _ => k b o (na n) q
    slot := fun b o q n _ _ => ⟨o.slots, k b o (na n) q⟩
    free := fun b o q n _ => by rw [upd_ne (na n), upd_ne (nd q)]; exact n
    there := fun b o q _ => by
      by_cases hb : b = a
      · exact ⟨_, by rw [hb]; exact hx⟩
      · exact ⟨o, k b o hb q⟩
    tups := fun b xs q => by rw [upd_ne (at_ne e q exo_tup), upd_ne (ne_of_none q hnd)]; exact q
    frzs := fun b o v q => by rw [upd_ne (at_ne e q exo_frz), upd_ne (ne_of_none q hnd)]; exact q
    tbls := fun b ps q => ⟨#[], by rw [upd_ne (at_ne e q exo_tbl), upd_ne (ne_of_none q hnd), q]; simp⟩ }
  refine h dx _ hnd dne (I.un (t' := tk') Un1 fun b o q => ?_)
  by_cases hb : b = a
  · subst hb
    rw [upd_same] at q
    cases q
    exact exo_ok hx
  · rw [upd_ne hb] at q
    by_cases hd : b = dx
    · subst hd
      rw [upd_same] at q
      cases q
      exact exd_ok hn (relO_put (fs := []) ry fun g => True.intro)
    · rw [upd_ne hd] at q
      exact (I.hok b o q).stay (fun c v hc z => k c v (by
          rcases hc with hc | hc
          · rw [hc]
            exact hb
          · exact at_ne e hc exo_own) z)
        (fun c hc => by rw [upd_ne (at_ne e hc exo_own), upd_ne (ne_of_none hc hnd)]; exact hc) (fun c xs hc => by rw [upd_ne (at_ne e hc exo_tup), upd_ne (ne_of_none hc hnd)]; exact hc)
def tOstV (K : PySem.W.Frag) (f : Str) (to te : TE) : TS := fun D σ H => te σ H fun y H1 => to σ H1 fun x H2 => ∃ a C : Addr, x = .ref a ∧ OexV K C ∧ PySem.W.findIn K (.ref C) f = some none ∧
  H2 a = some (exo a C none) ∧ ∀ dx, H2 dx = none → dx ≠ a → D.nx σ (upd (upd H2 dx (exd dx [(f, y)])) a (exo a C (some dx)))
theorem ps_ostV {o e : Expr} {to te : TE} {p' pos : Pos} (ho : PE X o to) (he : PE X e te) (hs : swapsWith e (some (.Attribute o f p')) pos.line X.env = pure false := by rfl) : PS X (.Assign [.Attribute o f p'] e pos) (tOstV X.K f to te) := by
  refine ⟨fun pins s σ H D I h => ?_⟩
  refine plainObj_wpAny_Assign_Attribute (thn (he.run pins s σ H _ I h) fun v s1 ⟨y, H1, I1, r1, q1⟩ => thn (ho.run pins s1 σ H1 _ I1 q1) fun u s2 ⟨x, H2, I2, r2, a, C, ex, T, hno, ea, q⟩ => ?_) hs
  subst ex
  obtain rfl : u = Value.ref a := r2
  exact ost_newV T I2 ea hno r1 fun dx s' n ne J => ⟨σ, _, J, q dx n ne⟩
end
theorem init_okV {P : Program} {w : World} {K : PySem.W.Frag} {mg : Str → Option Value} {base : Heap} {q f : Str} {C : Addr} {st : Stmt} {fI : Addr} {fd : FuncData} {p1 p2 p3 p4 : Pos} (F : Fun K "__init__" q st fI fd) (S : FnScope ["self", f] ["self", f] (defScope st)) (T : OexV K C) (noF : PySem.W.findIn K (.ref C) f = some none)
    (hb : defBody st = [.Assign [.Attribute (.Name "self" p1) f p2] (.Name f p3) p4])
    (v0 : Vis (defScope st) "self") (v1 : Vis (defScope st) f) (hdb : (f == ("__debug__" : Str)) = false) (hcd : (f == ("__classdict__" : Str)) = false) : FnOk P w K mg base CX0 1 fI fd ["self", f] (spXI K C f) := by
  refine F.ok S (fun xs H Q E h => ?_) (fun cv A out s H xs Q E hr h => ?_)
  · obtain ⟨a, v, rfl, _⟩ := h
    rfl
  · obtain ⟨a, v, rfl, ha, k⟩ := h
    rw [hb]
    refine ⟨_, pss_one (ps_ostV (pe_var (i := 0) rfl v0) (pe_var (i := 1) rfl v1 (hd := hdb) (hcd := hcd))), ?_⟩
    exact ⟨_, rfl, _, rfl, a, C, rfl, T, noF, ha, fun dx nd ne => k dx nd ne⟩
/-- the class x at C stands under its name; its __init__ (q) sets f; bm: what its mro holds behind it -/
structure XvC (P : Program) (w : World) (K : PySem.W.Frag) (mg : Str → Option Value) (base : Heap) (x q f : Str) (C : Addr) (bm : List Value) : Prop where
  oex : OexV K C
  gC : mg x = some (.ref C)
  init : ∃ (fI : Addr) (fd : FuncData) (st : Stmt), PySem.W.findIn K (.ref C) "__init__" = some (some (.ref fI)) ∧ PySem.W.typeIn K (.ref fI) = some (.type "function") ∧ FnOk P w K mg base CX0 1 fI fd ["self", f] (spXI K C f) ∧ (∃ g, KBn K fd ["self", f] 2 [] g (fun vs _ => vs)) ∧ (∃ g, KBn K fd ["self", f] 1 [f] g (fun vs zs => vs ++ zs)) ∧ Fun K "__init__" q st fI fd
  xf : XfC K C
  noF : PySem.W.findIn K (.ref C) f = some none
  ha : PySem.W.findIn K (.ref C) "__class__" = some (some (.builtin "object.__class__"))
  mr : ∃ cd, PySem.W.clsIn K C = some cd ∧ cd.mro = .ref C :: bm
  tC : PySem.W.typeIn K (.ref C) = some (.type "type")
theorem sub_mr {K : PySem.W.Frag} {C : Addr} {bm : List Value} (h : ∃ cd, PySem.W.clsIn K C = some cd ∧ cd.mro = .ref C :: bm) (b : Value) : PySem.W.subIn K (.ref C) b = some ((Value.ref C :: bm).contains b) := by
  obtain ⟨cd, h1, h2⟩ := h
  show PySem.W.mroIn K C b = _
  unfold PySem.W.mroIn
  rw [h1, Option.bind_some, h2]
  rfl
theorem xv_mk {P : Program} {w : World} {K : PySem.W.Frag} {mg : Str → Option Value} {base : Heap} {x q f : Str} {C : Addr} {st : Stmt} {fI : Addr} {fd : FuncData} {p1 p2 p3 p4 : Pos} {nm qn : Str} {N : Addr} {bs bm : List Value} {sn : List Str} {sub : List Value} {ab : Bool} {col : Option Bool} {dd : Option Addr} {k0 k1 k2 k3 k5 : Option Value} {newId : String}
    (gC : mg x = some (.ref C)) (xl : K.lookup C = some (excClassObj nm qn C N bs bm true sn sub ab col dd k0 k1 k2 k3 k5 newId)) (T : XV.Tail newId bm) (hB : bm.contains (.type "BaseException") = true)
    (sa : PySem.W.findIn K (.ref C) "__setattr__" = some (some (.builtin "object.__setattr__"))) (ga : PySem.W.findIn K (.ref C) "__getattribute__" = some (some (.builtin "BaseException.__getattribute__"))) (gg : PySem.W.findIn K (.ref C) "__getattr__" = some none)
    (nf : PySem.W.findIn K (.ref C) f = some none) (ii : PySem.W.findIn K (.ref C) "__init__" = some (some (.ref fI))) (ti : PySem.W.typeIn K (.ref fI) = some (.type "function")) (kC : PySem.W.keepIn K (.ref C) = true) (cc : PySem.W.findIn K (.ref C) "__class__" = some (some (.builtin "object.__class__")))
    (F : Fun K "__init__" q st fI fd) (S : FnScope ["self", f] ["self", f] (defScope st)) (hb : defBody st = [.Assign [.Attribute (.Name "self" p1) f p2] (.Name f p3) p4])
    (v0 : Vis (defScope st) "self") (v1 : Vis (defScope st) f) (hdb : (f == ("__debug__" : Str)) = false) (hcd : (f == ("__classdict__" : Str)) = false)
    (b1 : ∀ (kV doc pm : Value) (an : Option Addr) (cv ct : Value) (us ws : List Value), us.length = 2 → ws.length = ([] : List Str).length → bindArgs (PySem.W.fnOf "__init__" q (defArgs st) (defBody st) (defScope st) .none kV doc pm an cv ct) ⟨us, ([] : List Str).zip ws⟩ = pure (([("self" : Str), f] : List Str).zip us))
    (b2 : ∀ (kV doc pm : Value) (an : Option Addr) (cv ct : Value) (us ws : List Value), us.length = 1 → ws.length = [f].length → bindArgs (PySem.W.fnOf "__init__" q (defArgs st) (defBody st) (defScope st) .none kV doc pm an cv ct) ⟨us, [f].zip ws⟩ = pure (([("self" : Str), f] : List Str).zip (us ++ ws))) :
    XvC P w K mg base x q f C bm := by
  have hcl : PySem.W.clsIn K C = some { name := nm, bases := bs, mro := .ref C :: bm, ns := N, qualname := qn, hasDict := true, slotNames := sn, subclasses := sub, abstract := ab, collection := col, hasDel := false } := by unfold PySem.W.clsIn; rw [xl] <;> rfl
  have mr : ∃ cd, PySem.W.clsIn K C = some cd ∧ cd.mro = .ref C :: bm := ⟨_, hcl, rfl⟩
  have oe : OexV K C := ⟨⟨_, _, _, _, _, _, _, _, _, _, _, _, _, _, _, _, xl, T⟩, sa, kC⟩
  have hd : PySem.W.hasDictIn K C = true := by
    unfold PySem.W.hasDictIn
    rw [hcl]
    rfl
  refine ⟨oe, gC, ⟨fI, fd, st, ii, ti, init_okV F S oe nf hb v0 v1 hdb hcd, ⟨_, kb_all F 2 [] (fun us _ => us) (fun r _ => r) b1⟩, ⟨_, kb_all F 1 [f] (fun us ws => us ++ ws) (fun r z => r.append z) b2⟩, F⟩,
    ⟨ga, gg, ?_, hd⟩, nf, cc, mr, ?_⟩
  · rw [sub_mr mr, List.contains_cons, hB, Bool.or_true]
  · show (K.lookup C).map (·.cls) = _
    rw [xl]
    rfl
theorem XvC.ne {P : Program} {w : World} {K : PySem.W.Frag} {mg : Str → Option Value} {base : Heap} {x x2 q q2 f f2 : Str} {C C2 : Addr} {bm bm2 : List Value} (h : XvC P w K mg base x q f C bm) (h2 : XvC P w K mg base x2 q2 f2 C2 bm2) (hq : q ≠ q2) : C ≠ C2 := fun e => by
  subst e
  obtain ⟨fI, fd, st, i1, _, _, _, _, F⟩ := h.init
  obtain ⟨fI2, fd2, st2, i2, _, _, _, _, F2⟩ := h2.init
  rw [i1] at i2
  cases i2
  obtain ⟨_, _, _, _, _, _, _, _, _, _, l1, _⟩ := F.ex
  obtain ⟨_, _, _, _, _, _, _, _, _, _, l2, _⟩ := F2.ex
  obtain ⟨oc, od, kV, doc, pm, an, cv, ct, osl, e1, l1, _⟩ := F.ex
  obtain ⟨oc2, od2, kV2, doc2, pm2, an2, cv2, ct2, osl2, e2, l2, _⟩ := F2.ex
  rw [l1] at l2
  cases e1
  cases e2
  have := Option.some.inj l2
  injection this with _ _ z _
  injection z with z
  injection z with _ z
  exact hq z
/-- an exception of the class at C whose field f is v -/
def ExH (H : Hp) (C : Addr) (f : Str) (v : V) (a : Addr) : Prop := ∃ d, H a = some (exo a C (some d)) ∧ H d = some (exd d [(f, v)])
theorem ExH.same {H H' : Hp} {C : Addr} {f : Str} {v : V} {a : Addr} (s : Same H H') (h : ExH H C f v a) : ExH H' C f v a := by
  obtain ⟨d, h1, h2⟩ := h
  exact ⟨d, s _ _ h1, s _ _ h2⟩
section
variable {X : Cx} {pins : List (Addr × Obj)} {σ : L2.St} {H : Hp} {s : Shared} {C fI : Addr} {fd : FuncData} {f x : Str} {g : List Value → List Value → List Value} {gV : List V → List V → List V} {Q : VK} {n : Nat} {ks : List Str}
theorem run_mkV {us ws : List Value} {vs zs : List V} (T : OexV X.K C) (iC : PySem.W.findIn X.K (.ref C) "__init__" = some (some (.ref fI))) (tI : PySem.W.typeIn X.K (.ref fI) = some (.type "function"))
    (F : FnOk X.prog X.w X.K X.mg X.base CX0 1 fI fd ["self", f] (spXI X.K C f)) (room : Room 2 X.A) (bd : KBn X.K fd ["self", f] (n + 1) ks g gV) (I : Inv X pins σ H s) (r1 : Vals vs us) (r2 : Vals zs ws) (l1 : vs.length = n) (l2 : zs.length = ks.length) (hz : n ≤ 1000)
    (h : ∀ a, H a = none → spXI X.K C f (gV (.ref a :: vs) zs) (upd H a (exo a C none)) (fun v H2 => v = .non ∧ Q (.ref a) H2) E0) :
    wpAny (model X.prog X.w) X.A (call (.ref C) us (ks.zip ws)) (EP X pins σ Q) X.xe s := by
  obtain ⟨nm, q, N, bs, bm, sn, sub, ab, col, dd, k0, k1, k2, k3, k5, newId, hC, hT⟩ := T.cls
  obtain ⟨hp, gg, dr, tk, os⟩ := s
  have hsz : hp.objs.size ≤ hp.objs.size + 1 := Nat.le_succ _
  have hn : H (hp.objs.size + 1) = none := I.hok.fresh hsz
  have hq := h (hp.objs.size + 1) hn
  have kk : ∀ b o, hp.get? b = some o → ((hp.push (PySem.W.kdv_tup us)).push (PySem.HandSPX.excO C hp.objs.size)).get? b = some o := fun b o e => Heap.get?_push_of_some _ (Heap.get?_push_of_some _ e)
  have hget : ((hp.push (PySem.W.kdv_tup us)).push (PySem.HandSPX.excO C hp.objs.size)).get? (hp.objs.size + 1) = some (PySem.HandSPX.excO C hp.objs.size) := by heap_get
  have made : Inv X pins σ (upd H (hp.objs.size + 1) (exo (hp.objs.size + 1) C none)) ⟨(hp.push (PySem.W.kdv_tup us)).push (PySem.HandSPX.excO C hp.objs.size), gg, dr, tk, os⟩ :=
    I.laid (t' := tk) (a := hp.objs.size + 1) (o := exo (hp.objs.size + 1) C none) (h' := (hp.push (PySem.W.kdv_tup us)).push (PySem.HandSPX.excO C hp.objs.size)) kk hsz (exo_ok hget)
  have rs : Vals (V.ref (hp.objs.size + 1) :: vs) (Value.ref (hp.objs.size + 1) :: us) := .cons rfl r1
  have len : (Value.ref (hp.objs.size + 1) :: us).length = n + 1 := congrArg (· + 1) (r1.length.symm.trans l1)
  have to := bd.to _ (Value.ref (hp.objs.size + 1) :: us) ws made.kIn len (r2.length.symm.trans l2)
  have run := F.run _ X.stack _ _ ⟨Value.ref (hp.objs.size + 1) :: us, ks.zip ws⟩ (g (Value.ref (hp.objs.size + 1) :: us) ws) _ _ E0 (room.make C us (ks.zip ws)) (made.env0.make C us (ks.zip ws)) to (bd.rel rs r2) hq
  have hus : us.length ≤ sizeLine := by
    rw [← r1.length, l1, sizeLine_eq]
    omega
  refine wpAny_call (PySem.XV.call_ex hT (I.kIn _ _ hC) (PySem.W.looks_findIn I.kIn iC) (fun self => PySem.W.bind_fn I.kIn self tI) hus (codeAny_mono run fun res s2 done => ?_))
  match res, done with
  | .error ev, done => exact done.elim
  | .ok (.ret u), done =>
    obtain ⟨v, H2, I2, rel, ev, q⟩ := made.after done
    subst ev
    exact ⟨rel, V.ref (hp.objs.size + 1), H2, I2, rfl, q⟩
  | .ok .next, done => exact done.elim
  | .ok .brk, done => exact done.elim
  | .ok .cont, done => exact done.elim
/-- C(e), C(f = e): a new exception -/
def tMkV (C : Addr) (f : Str) (ta : TA) : TE := fun σ H Q => ta σ H fun vs H1 => ∃ v, vs = [v] ∧ ∀ a H2, H1 a = none → Same H1 H2 → ExH H2 C f v a → Q (.ref a) H2
theorem mk_sp {H1 : Hp} {a : Addr} {v : V} {Q : VK} (na : H1 a = none) (h : ∀ a H2, H1 a = none → Same H1 H2 → ExH H2 C f v a → Q (.ref a) H2) :
    spXI X.K C f [.ref a, v] (upd H1 a (exo a C none)) (fun v H2 => v = .non ∧ Q (.ref a) H2) E0 := by
  refine ⟨a, v, rfl, upd_same, fun dx nd ne => ⟨rfl, h a _ na (fun b o z => ?_) ⟨dx, upd_same, ?_⟩⟩⟩
  · rw [upd_ne ne] at nd
    have e1 : b ≠ a := fun e => by rw [e, na] at z; cases z
    have e2 : b ≠ dx := fun e => by rw [e, nd] at z; cases z
    rw [upd_ne e1, upd_ne e2, upd_ne e1]
    exact z
  · rw [upd_ne ne]
    exact upd_same
theorem pe_mkV1 {q0 : Str} {bm : List Value} {e : Expr} {ta : TA} {p pos : Pos} (T : XvC X.prog X.w X.K X.mg X.base x q0 f C bm) (room : Room 2 X.A) (ha : PA X [e] ta) (hg : Gl X x := by rfl)
    (hdb : (x == ("__debug__" : Str)) = false := by decide) (he : starEach (e :: []) X.env = (false, eval e X.env) :: starEach [] X.env := by rfl) (hpl : (backTo pos (starEach [] X.env)).any (·.1) = false := by rfl) :
    PE X (.Call (.Name x p) [e] [] pos) (tMkV C f ta) := by
  refine ⟨fun pins s σ H Q I w => ?_⟩
  obtain ⟨fI, fd, _, iC, tI, F, ⟨g, b1⟩, _⟩ := T.init
  refine wpAny_Call_Name_kw (ld_glob I hg T.gC ?_ hdb)
  refine PySem.W.callWith_K (h₀ := X.base) I.ok.mod.kin T.oex.kC (thn (ha.run pos pins s σ H _ I w) fun us s1 z => ?_) he hpl
  obtain ⟨vs, H1, I1, r1, v, ev, q⟩ := z
  subst ev
  exact ⟨I1.kIn, run_mkV (n := 1) (ks := []) (ws := []) (zs := []) T.oex iC tI F room b1 I1 r1 .nil rfl rfl (by omega) fun a na => mk_sp na q⟩
theorem pe_mkV2 {q0 : Str} {bm : List Value} {kws : List Keyword} {tk : TA} {p pos : Pos} (T : XvC X.prog X.w X.K X.mg X.base x q0 f C bm) (room : Room 2 X.A) (hkw : PK X kws tk) (hg : Gl X x := by rfl)
    (hks : (backToKw pos (keywordEach kws X.env)).filterMap (·.1) = [f] := by rfl) (hall : (backToKw pos (keywordEach kws X.env)).all (·.1.isSome) = true := by rfl)
    (hdb : (x == ("__debug__" : Str)) = false := by decide) (hpl : ((backTo pos (starEach [] X.env)).any (·.1) || (backToKw pos (keywordEach kws X.env)).any (·.1.isNone)) = false := by rfl) :
    PE X (.Call (.Name x p) [] kws pos) (tMkV C f tk) := by
  refine ⟨fun pins s σ H Q I w => ?_⟩
  obtain ⟨fI, fd, _, iC, tI, F, _, ⟨g, b2⟩, _⟩ := T.init
  apply wpAny_Call_Name_kw
  apply ld_glob I hg T.gC _ hdb
  refine PySem.W.callWith_KW0 (h₀ := X.base) I.ok.mod.kin T.oex.kC hall (thn (hkw.run pos pins s σ H _ I w) fun ws s2 hh => ?_) hpl
  obtain ⟨zs, H2, I2, rz, v, ev, q⟩ := hh
  subst ev
  refine ⟨I2.kIn, ?_⟩
  rw [hks]
  exact run_mkV (n := 0) (ks := [f]) (us := []) (vs := []) T.oex iC tI F room b2 I2 .nil rz rfl rfl (by omega) fun a na => mk_sp na q
/-- e.f -/
def tFldV (K : PySem.W.Frag) (n : Str) (te : TE) : TE := fun σ H Q => te σ H fun x H1 => ∃ a C v, x = .ref a ∧ XfC K C ∧ PySem.W.findIn K (.ref C) n = some none ∧ ExH H1 C n v a ∧ Q v H1
theorem inst_of {a C d : Addr} {n : Str} {v : V} (I : Inv X pins σ H s) (ea : H a = some (exo a C (some d))) (ed : H d = some (exd d [(n, v)])) :
    ∃ (oe od : Obj) (mA : Str → Option Value), PySem.W.InstAt s.heap a oe C (some od) ∧ (∀ y, PySem.W.lookIn y od = some (mA y)) ∧ ∀ g, RelO ([(n, v)].lookup g) (mA g) := by
  obtain ⟨t1, ho⟩ := exo_at I.hok ea
  obtain ⟨mA, hns, rel⟩ := exd_at I.hok ed
  obtain ⟨od, hd, hl⟩ := lookIn_ns hns
  exact ⟨_, od, mA, ⟨ho, rfl, rfl, hd⟩, hl, rel⟩
theorem pe_fldV {e : Expr} {te : TE} {pos : Pos} {n : Str} (he : PE X e te) (hb : attributeBase e n X.env (eval e X.env) = eval e X.env := by rfl) : PE X (.Attribute e n pos) (tFldV X.K n te) := by
  refine ⟨fun pins s σ H Q I h => ?_⟩
  refine attr_of hb (thn (he.run pins s σ H _ I h) fun u s1 hh => ?_)
  obtain ⟨x, H1, I1, rx, a, C, v, ex, T, hno, ⟨d, ea, ed⟩, q⟩ := hh
  subst ex
  obtain rfl : u = Value.ref a := rx
  obtain ⟨oe, od, mA, J, hl, hr⟩ := inst_of I1 ea ed
  have l : [(n, v)].lookup n = some v := by simp
  obtain ⟨u, hu, ru⟩ := RelO.some_of (v := v) (o := mA n) (by rw [← l]; exact hr n)
  exact HandSPX.exc_get I1.kIn J T.ga T.gg T.exC (PySem.W.findObj_own T.hdC hno rfl (by rw [hl, hu])) (handed_of ru) ⟨v, H1, I1.tok _, ru, q⟩
/-- isinstance(e, c) -/
def rIsV (K : PySem.W.Frag) : List V → Hp → VK → Prop := fun xs H Q => ∃ (a C : Addr) (n : Str) (v c : V) (cv : Value) (b : Bool), xs = [.ref a, c] ∧ ExH H C n v a ∧ XfC K C ∧ PySem.W.findIn K (.ref C) "__class__" = some (some (.builtin "object.__class__")) ∧
  PySem.W.specialIn K (.builtin "object.__class__") "__get__" = some (some (.builtin "getset_descriptor.__get__")) ∧ PySem.W.takesIn K (.builtin "object.__class__") = some true ∧ PySem.W.mroIn K C (.type "object") = some true ∧
  (∀ u, RelV c u → u = cv) ∧ PySem.W.kitOne K (.ref C) cv = some b ∧ Q (.bl b) H
theorem call_isV : CallR X (.builtin "isinstance") (rIsV X.K) := by
  intro pins s σ H xs us Q I r h
  obtain ⟨a, C, n, v, c, cv, b, rfl, ⟨d, ea, ed⟩, T, h1, h2, h3, h4, hcv, e, q⟩ := h
  cases r with
  | cons rx rr =>
    cases rr with
    | cons rt rr =>
      cases rr
      cases rx
      have ec := hcv _ rt
      subst ec
      obtain ⟨oe, od, mA, J, hl, hr⟩ := inst_of I ea ed
      have hcl : (PySem.W.clsIn X.K C).isSome = true := by
        obtain ⟨cd, hc, _⟩ := PySem.W.any_some T.hdC
        rw [hc]
        rfl
      exact PySem.W.kia_one (PySem.W.kitx_exc hcl T.ga T.gg T.exC h1 h2 h3 h4) I.kIn J e (fun z => nomatch z) fun tk => ⟨.bl b, H, I.kept (t' := tk) fun _ _ z => z, rfl, q⟩
end
end SE
/-! Raising exceptions of own classes below any built-in class; methods that may raise. -/
namespace SE
open PySem PySem.Spec PyProof.Rows L2
section
variable {X : Cx} {C : Addr} {x q0 f : Str} {bm : List Value}
/-- C(e), to be raised -/
theorem pmk_xv {e : Expr} {ta : TA} {p pos : Pos} (T : XvC X.prog X.w X.K X.mg X.base x q0 f C bm) (hr : Room 2 X.A) (ha : PA X [e] ta) (hg : Gl X x := by rfl)
    (hdb : (x == ("__debug__" : Str)) = false := by decide) (he : starEach (e :: []) X.env = (false, eval e X.env) :: starEach [] X.env := by rfl) (hpl : (backTo pos (starEach [] X.env)).any (·.1) = false := by rfl) :
    PMk X (.Call (.Name x p) [e] [] pos) (tMkO C (spXI X.K C f) [] ta) := by
  intro pins s σ H Q I h
  obtain ⟨fI, fd, _, iC, tI, F1, ⟨g, bd⟩, _⟩ := T.init
  obtain ⟨nm, q, N, bs, bm', sn, sub, ab, col, dd, k0, k1, k2, k3, k5, newId, hC, hT⟩ := T.oex.cls
  refine wpAny_Call_Name_kw (ld_glob I hg T.gC ?_ hdb)
  refine PySem.W.callWith_K (h₀ := X.base) I.ok.mod.kin T.oex.kC (thn (ha.run pos pins s σ H _ I h) fun us s1 ⟨vs, H1, I1, r1, hz, q1⟩ => ⟨I1.kIn, ?_⟩) he hpl
  show wpAny _ _ (call (.ref C) us) _ _ _
  obtain ⟨hp, gg, dr, tk, os⟩ := s1
  have hsz : hp.objs.size ≤ hp.objs.size + 1 := Nat.le_succ _
  have hn : H1 (hp.objs.size + 1) = none := I1.hok.fresh hsz
  have hq := q1 (hp.objs.size + 1) hn
  rw [List.append_nil] at hq
  have l1 : vs.length = 1 := by
    obtain ⟨a, v, e, _⟩ := hq
    have := congrArg List.length e
    simp at this
    exact this
  have kk : ∀ b o, hp.get? b = some o → ((hp.push (PySem.W.kdv_tup us)).push (PySem.HandSPX.excO C hp.objs.size)).get? b = some o := fun b o e => Heap.get?_push_of_some _ (Heap.get?_push_of_some _ e)
  have hget : ((hp.push (PySem.W.kdv_tup us)).push (PySem.HandSPX.excO C hp.objs.size)).get? (hp.objs.size + 1) = some (PySem.HandSPX.excO C hp.objs.size) := by heap_get
  have I2 : Inv X pins σ (upd H1 (hp.objs.size + 1) (exo (hp.objs.size + 1) C none)) ⟨(hp.push (PySem.W.kdv_tup us)).push (PySem.HandSPX.excO C hp.objs.size), gg, dr, tk, os⟩ :=
    I1.laid (t' := tk) (a := hp.objs.size + 1) (o := exo (hp.objs.size + 1) C none) (h' := (hp.push (PySem.W.kdv_tup us)).push (PySem.HandSPX.excO C hp.objs.size)) kk hsz (exo_ok hget)
  have r2 : Vals (V.ref (hp.objs.size + 1) :: vs) (Value.ref (hp.objs.size + 1) :: us) := .cons rfl r1
  have hus : us.length ≤ sizeLine := by
    rw [← Paired.length r1, sizeLine_eq]
    omega
  have to := bd.to _ (Value.ref (hp.objs.size + 1) :: us) [] I2.kIn (congrArg (· + 1) (r1.length.symm.trans l1)) rfl
  have run := F1.run _ X.stack _ _ ⟨Value.ref (hp.objs.size + 1) :: us, ([] : List Str).zip []⟩ (g (Value.ref (hp.objs.size + 1) :: us) []) _ _ E0 (hr.make C us (([] : List Str).zip [])) (I2.env0.make C us (([] : List Str).zip [])) to (bd.rel r2 .nil) hq
  refine wpAny_call (PySem.XV.call_ex hT (I1.kIn _ _ hC) (PySem.W.looks_findIn I1.kIn iC) (fun self => PySem.W.bind_fn I1.kIn self tI) hus (codeAny_mono run fun res s2 done => ?_))
  match res, done with
  | .error ev, done => exact done.elim
  | .ok (.ret u), done =>
    obtain ⟨v, H2, os2, bare2, un2, hok2, rv, ev, d, fs, ea, ed, hd1, q2⟩ := done
    subst ev
    obtain ⟨h2, g2, d2, t2, os'⟩ := s2
    exact ⟨rv, mk_end (raises_own T.xf.exC T.tC) I1 hsz kk un2 hok2 os2 bare2 ea ed hd1 q2⟩
  | .ok .next, done => exact done.elim
  | .ok .brk, done => exact done.elim
  | .ok .cont, done => exact done.elim
theorem ps_raiseV {W : WX} {e : Expr} {ta : TA} {p pos pos2 : Pos} (hc : X.calm = true) (T : XvC X.prog X.w X.K X.mg X.base x q0 f C bm) (hr : Room 2 X.A) (tk : Takes X W) (ha : PA X [e] ta) (hg : Gl X x := by rfl)
    (hdb : (x == ("__debug__" : Str)) = false := by decide) (he : starEach (e :: []) X.env = (false, eval e X.env) :: starEach [] X.env := by rfl) (hpl : (backTo pos (starEach [] X.env)).any (·.1) = false := by rfl) :
    PS X (.Raise (some (.Call (.Name x p) [e] [] pos)) none pos2) (fun _ σ H => tMkO C (spXI X.K C f) [] ta σ H fun cls d H' => W cls d σ H') := ps_raise hc tk (pmk_xv T hr ha hg hdb he hpl)
end
/-- a method that may raise -/
def MethHasX (P : Program) (w : World) (K : PySem.W.Frag) (mg : Str → Option Value) (base : Heap) (C : Addr) (m : Str) (k : Nat) (ps : List Str) (sp : Sp) : Prop := ∃ f fd, Meth K C m f ∧ FnOk P w K mg base (L2.CX P w) k f fd ps sp ∧ Binds K fd ps []
def tMethX (C : Addr) (m : Str) (sp : Sp) (ex : L2.St → XK) (ta : TE) (t : TA) : TE := fun σ H Q => ta σ H fun x H1 => ∃ a dx fs, x = .ref a ∧ H1 a = some (.ins C dx fs) ∧ fs.lookup m = none ∧
  t σ H1 fun vs H2 => sp (x :: vs) H2 Q (ex σ)
section
variable {X : Cx} {C : Addr} {m : Str} {k : Nat} {ps : List Str} {sp : Sp} {o e : Expr} {es : List Expr} {ta : TE} {t : TA} {ex : L2.St → XK} {apos pos : Pos} {pl : Sem Bool}
/-- o.m(e, ..), its exceptions as ex wishes: WE W in a try, fun _ => E in a def that may raise -/
theorem pe_mX (h : MethHasX X.prog X.w X.K X.mg X.base C m k ps sp) (out : ∀ σ, PassesAt (L2.CX X.prog X.w) X σ (ex σ)) (he : PE X o ta) (c : Cls X.K C) (hr : Room k X.A) (ha : PA X (e :: es) t)
    (hst : starEach (e :: es) X.env = (false, eval e X.env) :: starEach es X.env := by rfl) (hpl : (backTo pos (starEach es X.env)).any (·.1) = false := by rfl)
    (ht : eval (.Call (.Attribute o m apos) (e :: es) [] pos) X.env = (do
      let ov ← eval o X.env
      standAt apos.atName
      let (f, first) ← holding [ov] (getMethod ov m pl)
      callWith pos f first (backTo pos (starEach (e :: es) X.env)) (backToKw pos (keywordEach [] X.env))) := by rfl) : PE X (.Call (.Attribute o m apos) (e :: es) [] pos) (tMethX C m sp ex ta t) := by
  obtain ⟨f, fd, hm, F, hb⟩ := h
  refine ⟨fun pins s σ H Q I h => ?_⟩
  refine PySem.W.methodCall_KW (pl := pl) (thn (he.run pins s σ H _ I h) fun u s1 ⟨x, H1, I1, rx, a, dx, fs, ex, ea, l, q⟩ => ?_) ht
  subst ex
  obtain rfl : u = Value.ref a := rx
  refine getmeth_ok I1 ea c hm l ?_
  refine PySem.W.callWith_K (first := [.ref a]) (h₀ := X.base) I.ok.mod.kin hm.kp (thn (ha.run pos pins s1 σ H1 _ I1 q) fun us s2 ⟨vs, H2, I2, r, q2⟩ => ⟨I2.kIn, ?_⟩) hst hpl
  exact run_fnS (us := .ref a :: us) (vs := .ref a :: vs) F hr hb (out σ) I2 (.cons rfl r) q2
/-- o.m() -/
theorem pe_mX0 (h : MethHasX X.prog X.w X.K X.mg X.base C m k ps sp) (out : ∀ σ, PassesAt (L2.CX X.prog X.w) X σ (ex σ)) (he : PE X o ta) (c : Cls X.K C) (hr : Room k X.A)
    (ht : eval (.Call (.Attribute o m apos) [] [] pos) X.env = (do
      let ov ← eval o X.env
      standAt apos.atName
      let (f, first) ← holding [ov] (getMethod ov m pl)
      callWith pos f first (backTo pos (starEach [] X.env)) (backToKw pos (keywordEach [] X.env))) := by rfl) : PE X (.Call (.Attribute o m apos) [] [] pos) (tMethX C m sp ex ta tNil) := by
  obtain ⟨f, fd, hm, F, hb⟩ := h
  refine ⟨fun pins s σ H Q I h => ?_⟩
  refine PySem.W.methodCall_KW (pl := pl) (thn (he.run pins s σ H _ I h) fun u s1 ⟨x, H1, I1, rx, a, dx, fs, ex, ea, l, q⟩ => ?_) ht
  subst ex
  obtain rfl : u = Value.ref a := rx
  refine getmeth_ok I1 ea c hm l ?_
  exact PySem.W.callWith_K0 (first := [.ref a]) I1.kIn hm.kp (run_fnS (us := [.ref a]) (vs := [.ref a]) F hr hb (out σ) I1 (.cons rfl .nil) q)
end
end SE
namespace SE
open PySem PySem.Spec PyProof.Rows L2
theorem pe_either {X : Cx} {e : Expr} {t1 t2 : TE} (h1 : PE X e t1) (h2 : PE X e t2) : PE X e (fun σ H Q => t1 σ H Q ∨ t2 σ H Q) := ⟨fun pins s σ H Q I h => h.elim (h1.run pins s σ H Q I) (h2.run pins s σ H Q I)⟩
theorem call_either {X : Cx} {f : Value} {r1 r2 : List V → Hp → VK → Prop} (h1 : CallR X f r1) (h2 : CallR X f r2) : CallR X f (fun xs H Q => r1 xs H Q ∨ r2 xs H Q) := fun pins s σ H xs us Q I rv h => h.elim (h1 pins s σ H xs us Q I rv) (h2 pins s σ H xs us Q I rv)
def bad (C : Addr) (H : Hp) (v : V) (E : XK) : Prop := ∀ (dd : Addr) (H' : Hp), Same H H' → H dd = none → H' dd = some (.xd [("value", v)]) → E (.ref C) (some dd) H'
theorem bad.go {C : Addr} {H H1 : Hp} {v : V} {E : XK} (h : bad C H v E) (s : Same H H1) : bad C H1 v E := fun dd H' s' n e => h dd H' (s.trans s') (s.free n) e
def rowB (p : PyData × PyData) : Bool := itemD p.1 && wordD p.2
def isDct : PyData → Bool
  | .dict _ => true
  | _ => false
/-- whether it is a dict from names to stacks -/
def areD : PyData → Bool
  | .dict kvs => (kvs.map rowB).all id
  | _ => false
def ZOk : PyData → Prop
  | .dict kvs => kvs ≠ [] ∧ kvs.length ≤ 10 ∧ ∀ p ∈ kvs, OkD p.1 ∧ OkD p.2
  | _ => True
theorem kit_dct {K : PySem.W.Frag} : ∀ d : PyData, PySem.W.kitOne K (.type (tyD d)) (.type "dict") = some (isDct d)
  | .none => kit_ty (show kitB "NoneType" "dict" = some false by decide +kernel)
  | .bool _ => kit_ty (show kitB "bool" "dict" = some false by decide +kernel)
  | .int _ => kit_ty (show kitB "int" "dict" = some false by decide +kernel)
  | .str _ => kit_ty (show kitB "str" "dict" = some false by decide +kernel)
  | .list _ => kit_ty (show kitB "list" "dict" = some false by decide +kernel)
  | .tuple _ => kit_ty (show kitB "tuple" "dict" = some false by decide +kernel)
  | .dict _ => kit_ty (show kitB "dict" "dict" = some true by decide +kernel)
section
variable {K : PySem.W.Frag} {H : Hp} {d : Addr} {kvs : List (Key × V)} {o : HO}
theorem seqL_upd {a : Addr} {xs : List V} (hd : ∀ us, H d ≠ some (.lst us)) (hf : ∀ p us, H d ≠ some (.frz p us)) (h : SqL K H a xs) : SqL K (upd H d o) a xs := by
  rcases h with (q | ⟨p, q⟩) | q
  · exact .inl (.inl (by rw [upd_ne (fun z => hd xs (by rw [← z]; exact q))]; exact q))
  · exact .inl (.inr ⟨p, by rw [upd_ne (fun z => hf p _ (by rw [← z]; exact q))]; exact q⟩)
  · exact .inr q
theorem seqT_upd {a : Addr} {xs : List V} (hd : ∀ us, H d ≠ some (.tup us)) (hf : ∀ p us, H d ≠ some (.frz p us)) (h : SqT K H a xs) : SqT K (upd H d o) a xs := by
  rcases h with (q | ⟨p, q⟩) | q
  · exact .inl (.inl (by rw [upd_ne (fun z => hd xs (by rw [← z]; exact q))]; exact q))
  · exact .inl (.inr ⟨p, by rw [upd_ne (fun z => hf p _ (by rw [← z]; exact q))]; exact q⟩)
  · exact .inr q
/-- what stands at d is none of the parts of data -/
structure NoD (H : Hp) (d : Addr) : Prop where
  l : ∀ us, H d ≠ some (.lst us)
  t : ∀ us, H d ≠ some (.tup us)
  e : H d ≠ some (.dK [])
  f : ∀ p us, H d ≠ some (.frz p us)
mutual
theorem dpx_upd (n : NoD H d) : ∀ (y : PyData) (v : V), DpX K H v y → DpX K (upd H d o) v y
  | .none, _, h => by cases h; exact .non
  | .bool b, _, h => by cases h; exact .bl b
  | .int i, _, h => by cases h; exact .int i
  | .str z, _, h => by cases h; exact .str z
  | .list ds, _, h => by
    cases h with
    | lst h1 h2 => exact .lst (seqL_upd n.l n.f h1) (dpxs_upd n ds _ h2)
  | .tuple ds, _, h => by
    cases h with
    | tup h1 h2 => exact .tup (seqT_upd n.t n.f h1) (dpxs_upd n ds _ h2)
  | .dict _, _, h => by
    cases h with
    | emp h1 => exact .emp (by rw [upd_ne (fun z => n.e (by rw [← z]; exact h1))]; exact h1)
theorem dpxs_upd (n : NoD H d) : ∀ (ds : List PyData) (vs : List V), DpXs K H vs ds → DpXs K (upd H d o) vs ds
  | [], _, h => by cases h; exact .nil
  | y :: ds, _, h => by
    cases h with
    | cons h1 h2 => exact .cons (dpx_upd n y _ h1) (dpxs_upd n ds _ h2)
end
end
section
variable {P : Program} {w : World} {K : PySem.W.Frag} {mg : Str → Option Value} {base : Heap}
/-! ### are_stacks, check_stacks: what is refused -/
def spAreZ (P : Program) (w : World) (K : PySem.W.Frag) : Sp := fun xs H Q _ => ∃ (v : V) (d : PyData), xs = [v] ∧ RpZ P w K H v d ∧ ZOk d ∧ areD d = false ∧ ∀ H', Same H H' → Q (.bl false) H'
abbrev teAr (K : PySem.W.Frag) : TE := tAndV (tCall (spX K itemD) [] E0 (tCons (tVar 1) tNil)) (tCall (spX K wordD) [] E0 (tCons (tVar 2) tNil))
/-- one row of the dict -/
theorem row_te {σ : L2.St} {H : Hp} {Q : VK} {k v : V} {p : PyData × PyData} (h1 : σ[1]? = some (some k)) (h2 : σ[2]? = some (some v)) (d1 : DpX K H k p.1) (d2 : DpX K H v p.2) (o1 : OkD p.1) (o2 : OkD p.2) (q : ∀ H', Same H H' → Q (.bl (rowB p)) H') : teAr K σ H Q := by
  refine ⟨_, h1, k, p.1, rfl, d1, o1, fun H1 s1 => ⟨itemD p.1, rfl, ?_⟩⟩
  cases hi : itemD p.1 with
  | true =>
    refine iteT ⟨_, h2, v, p.2, rfl, DpX.same s1 _ _ d2, o2, fun H2 s2 => ?_⟩
    have := q _ (s1.trans s2)
    unfold rowB at this
    rw [hi] at this
    exact this
  | false =>
    refine iteF ?_
    have := q _ s1
    unfold rowB at this
    rw [hi] at this
    exact this
theorem has_areZ (D : Def K mg "are_stacks" sAreStacks) (GI : Has P w K mg base "is_item" 1 ["value"] [] (spX K itemD)) (GW : Has P w K mg base "is_word" 2 ["value"] [] (spX K wordD)) (B : Blt mg) (md : mg "dict" = none) : Has P w K mg base "are_stacks" 3 ["value"] [] (spAreZ P w K) := by
  refine has_of D scAr (fun _ _ _ _ _ _ us hl => match us, hl with | [_], _ => rfl) (fun xs H Q E h => ?_) (fun f cv A out s H xs Q E hr h => ?_)
  · obtain ⟨v, d, rfl, _⟩ := h
    rfl
  · obtain ⟨v, d, rfl, hz, zok, ha, k⟩ := h
    have hr1 : Room 1 _ := hr.mono (by decide)
    refine ⟨_, pss_cons (ps_if (pt_not (pt_val (pe_callB (call_either call_isi call_isN) (by rfl) B.isi (by decide +kernel) (pa_cons (pv 0) (pa_cons (pe_bltn (v := .ty "dict") (by rfl) md (by decide +kernel) rfl) pa_nil))))) (pss_one (ps_ret pe_bl)) pss_nil)
      (pss_one (ps_ret (pe_callB (cr_all rfl) (by rfl) B.all (by decide +kernel) (pa_cons
        (pe_either
        (pe_lock (pe_lc (own := [("name", 1), ("stack", 2)]) (g := gTup K 2 (gCons (gName 1) (gCons (gName 2) gNil))) (tt := tYes) (te := teAr K) rfl scAr.nd (pi_items (pv 0)) (blkOk_by (own := [("name", 1), ("stack", 2)]) (N := nAr) (sc := defScope sAreStacks) (by decide +kernel))
          (fun _ _ _ _ _ => pg_tup (by rfl) (pgs_cons (pg_name (i := 1) scAr.nd rfl (.inl rfl)) (pgs_cons (pg_name (i := 2) scAr.nd rfl (.inl rfl)) pgs_nil))) (fun _ _ _ _ _ => pts_nil) (fun _ _ _ _ _ => pe_and (pe_has GI hr1 (pa_cons (pv 1) pa_nil)) (pe_one (pe_has GW hr (pa_cons (pv 2) pa_nil))))))
        (pe_lock (pe_lc (own := [("name", 1), ("stack", 2)]) (g := gTup K 2 (gCons (gName 1) (gCons (gName 2) gNil))) (tt := tYes) (te := teAr K) rfl scAr.nd (pi_itemsN (pv 0)) (blkOk_by (own := [("name", 1), ("stack", 2)]) (N := nAr) (sc := defScope sAreStacks) (by decide +kernel))
          (fun _ _ _ _ _ => pg_tup (by rfl) (pgs_cons (pg_name (i := 1) scAr.nd rfl (.inl rfl)) (pgs_cons (pg_name (i := 2) scAr.nd rfl (.inl rfl)) pgs_nil))) (fun _ _ _ _ _ => pts_nil) (fun _ _ _ _ _ => pe_and (pe_has GI hr1 (pa_cons (pv 1) pa_nil)) (pe_one (pe_has GW hr (pa_cons (pv 2) pa_nil))))))) pa_nil)))), ?_⟩
    cases hz with
    | pl hd =>
      refine ⟨_, rfl, .inl ⟨_, .ty "dict", .type (tyD d), .type "dict", isDct d, rfl, .ty _, hd.ty, kit_dct d, _, rfl, ?_⟩⟩
      cases d with
      | dict kvs =>
        cases hd with
        | emp _ => exact absurd rfl zok.1
      | _ => exact iteT (k H (Same.refl H))
    | @dic a kvs h =>
      obtain ⟨ks, hd, pr⟩ := h
      obtain ⟨kne, kl, kok⟩ := zok
      have ksne : ks ≠ [] := fun e => by
        rw [e] at pr
        cases pr
        exact kne rfl
      have nd : NoD H a := ⟨fun us q => (by rw [hd] at q; cases q), fun us q => (by rw [hd] at q; cases q), fun q => (by rw [hd] at q; cases q; exact ksne rfl), fun p us q => (by rw [hd] at q; cases q)⟩
      refine ⟨_, rfl, .inl ⟨_, .ty "dict", .type "dict", .type "dict", true, rfl, .ty _, .base (.dK hd), kit_ty (by decide +kernel), true, rfl, iteF ?_⟩⟩
      refine .inl ⟨a, .dK ks, hd, mutK, fun od => ?_⟩
      have hF : upd H a (.frz od (.dK ks)) a = some (.frz od (.dK ks)) := upd_same
      have prF : Paired (fun (kv : Key × V) (p : PyData × PyData) => keyD kv.1 = p.1 ∧ DpX K (upd H a (.frz od (.dK ks))) kv.2 p.2) ks kvs := Paired.mapP pr fun _ _ q => ⟨q.1, dpx_upd nd _ _ q.2⟩
      generalize eF : upd H a (.frz od (.dK ks)) = HF at hF prF
      have lk : ks.length = kvs.length := paired_len pr
      refine ⟨_, rfl, a, od, ks, rfl, hF, fun DD hDD => lc_it walk_items (fun j H2 => H2 DD = some (.lst (((kvs.take j).map rowB).map V.bl)) ∧ Same HF H2) ⟨upd_same, Same.new hDD⟩ (fun j H2 _ q => q.2 _ _ hF) ?_ ?_⟩
      · rintro j x H2 H3 hj ⟨h2, s2⟩ ⟨T, pk, pv', rfl, nT, rfl, hk, hv2⟩
        obtain ⟨kv, hkv⟩ : ∃ kv, ks[j]? = some kv := ⟨_, List.getElem?_eq_getElem hj⟩
        dsimp only at hk hv2
        rw [hkv] at hk hv2
        cases hk
        cases hv2
        obtain ⟨p, hp, e1, e2⟩ := paired_at prF hkv
        have pm := List.mem_of_getElem? hp
        have sT : Same H2 (upd H2 T (.tup [kV kv.1, kv.2])) := Same.new nT
        refine ⟨T, _, rfl, .of upd_same, rfl, _, _, rfl, _, _, rfl, rfl, rfl, yes_in (row_te (k := kV kv.1) (v := kv.2) (p := p) rfl rfl (by rw [← e1]; exact dpx_key _) (DpX.same (s2.trans sT) _ _ e2) (kok p pm).1 (kok p pm).2 fun H5 s5 => ?_)⟩
        have s25 := sT.trans s5
        refine ⟨_, s25 _ _ h2, ?_, ?_, Same.free2 (s2.trans s25) hDD⟩
        · rw [List.length_map, List.length_map, List.length_take, sizeLine_eq]
          omega
        · rw [upd_same, List.take_add_one, hp, List.map_append, List.map_append]
          rfl
      · rintro H2 ⟨h2, s2⟩
        rw [lk, List.take_length] at h2
        have hF2 := s2 _ _ hF
        have dD : DD ≠ a := fun q => by rw [q, hF2] at h2; cases h2
        refine ⟨hF2, DD, _, rfl, .of (by rw [upd_ne dD]; exact h2), ?_⟩
        have ha : (kvs.map rowB).all id = false := ha
        rw [ha]
        exact k _ (Same.back hd eF.symm s2)
    | @non a t hd ht =>
      have nd : NoD H a := ⟨fun us q => (by rw [hd] at q; cases q), fun us q => (by rw [hd] at q; cases q), fun q => (by rw [hd] at q; cases q), fun p us q => (by rw [hd] at q; cases q)⟩
      refine ⟨_, rfl, .inr ⟨a, t, rfl, hd, true, rfl, iteF ?_⟩⟩
      refine .inr ⟨a, nonO P w a t, hd, trivial, fun od => ?_⟩
      have hF : upd H a (.frz od (nonO P w a t)) a = some (.frz od (nonO P w a t)) := upd_same
      have tF : DpX K (upd H a (.frz od (nonO P w a t))) (.ref t) (.tuple []) := dpx_upd nd _ _ (.tup ht .nil)
      generalize eF : upd H a (.frz od (nonO P w a t)) = HF at hF tF
      refine ⟨_, rfl, a, od, t, rfl, hF, fun DD hDD => lc_it walk_N (fun j H2 => H2 DD = some (.lst ((List.replicate j false).map V.bl)) ∧ Same HF H2) ⟨upd_same, Same.new hDD⟩ (fun j H2 _ q => q.2 _ _ hF) ?_ ?_⟩
      · rintro j x H2 H3 hj ⟨h2, s2⟩ ⟨T, rfl, nT, rfl⟩
        obtain rfl : j = 0 := by omega
        have sT : Same H2 (upd H2 T (.tup [.non, .ref t])) := Same.new nT
        refine ⟨T, _, rfl, .of upd_same, rfl, _, _, rfl, _, _, rfl, rfl, rfl, yes_in (row_te (k := .non) (v := .ref t) (p := (.none, .tuple [])) rfl rfl .non (DpX.same (s2.trans sT) _ _ tF) ⟨by decide +kernel, by decide +kernel, by decide +kernel, by decide +kernel, by decide +kernel⟩ ⟨by decide +kernel, by decide +kernel, by decide +kernel, by decide +kernel, by decide +kernel⟩ fun H5 s5 => ?_)⟩
        have s25 := sT.trans s5
        refine ⟨_, s25 _ _ h2, by rw [sizeLine_eq]; show 0 < 16777216; decide, by rw [upd_same]; rfl, Same.free2 (s2.trans s25) hDD⟩
      · rintro H2 ⟨h2, s2⟩
        have hF2 := s2 _ _ hF
        have dD : DD ≠ a := fun q => by rw [q, hF2] at h2; cases h2
        refine ⟨hF2, DD, _, rfl, .of (by rw [upd_ne dD]; exact h2), ?_⟩
        exact k _ (Same.back hd eF.symm s2)
def spCkZ (P : Program) (w : World) (K : PySem.W.Frag) (C : Addr) : Sp := fun xs H Q E => ∃ (v : V) (d : PyData), xs = [v] ∧ RpZ P w K H v d ∧ ZOk d ∧ areD d = false ∧ bad C H v E
theorem hasX_ckZ {C : Addr} (D : Def K mg "check_stacks" sCheckStacks) (G : Has P w K mg base "are_stacks" 3 ["value"] [] (spAreZ P w K)) (T : XcC P w K mg base "InvalidStacks" "value" C) : HasX P w K mg base "check_stacks" 4 ["stacks"] [] (spCkZ P w K C) := by
  refine hasX_of D scCkS (fun _ _ _ _ _ _ us hl => match us, hl with | [_], _ => rfl) (fun xs H Q E h => ?_) (fun f cv A out s H xs Q E hr h => ?_)
  · obtain ⟨v, d, rfl, _⟩ := h
    rfl
  · obtain ⟨v, d, rfl, hz, zok, ha, k⟩ := h
    have hr2 : Room 2 _ := hr.mono (by decide)
    refine ⟨_, pss_one (ps_if (pt_not (pt_val (pe_has G hr (pa_cons (pv 0) pa_nil)))) (pss_one (ps_raiseX rfl T hr2 tkX (pa_cons (pv 0) pa_nil))) pss_nil), ?_⟩
    refine ⟨_, rfl, v, d, rfl, hz, zok, ha, fun H1 s1 => ⟨false, rfl, iteT ⟨_, rfl, mk_red fun dd hdd => k dd _ (s1.trans (Same.new hdd)) (s1.free hdd) upd_same⟩⟩⟩
/-- run_all of valid steps beside stacks that are refused -/
def spRaZ (P : Program) (w : World) (K : PySem.W.Frag) (C : Addr) : Sp := fun xs H Q E => ∃ (a : Addr) (ys : List V) (ns : List NSt) (v : V) (d : PyData), xs = [.ref a, v] ∧ (SqL K H a ys ∨ SqT K H a ys) ∧ ys.length ≤ 1000 ∧ NSV K H ys ns ∧ (∀ s ∈ ns, NOk s) ∧ RpZ P w K H v d ∧ ZOk d ∧ areD d = false ∧ bad C H v E
theorem hasX_raZ {C : Addr} (D : Def K mg "run_all" sRunAll) (GS : Has P w K mg base "split" 5 ["steps"] [] (spSplit K)) (GC : HasX P w K mg base "check_stacks" 4 ["stacks"] [] (spCkZ P w K C)) : HasX P w K mg base "run_all" 6 ["steps", "stacks"] [] (spRaZ P w K C) := by
  refine hasX_of D scRa5 (fun _ _ _ _ _ _ us hl => match us, hl with | [_, _], _ => rfl) (fun xs H Q E h => ?_) (fun f cv A out s H xs Q E hr h => ?_)
  · obtain ⟨a, ys, ns, v, d, rfl, _⟩ := h
    rfl
  · obtain ⟨a, ys, ns, v, d, rfl, hS, hl, hV, hI, hz, zok, ha, k⟩ := h
    have hr4 : Room 4 _ := hr.mono (by decide)
    refine ⟨_, pss_cons (ps_set (i := 2) scRa5.nd rfl (.inl rfl) (pe_has GS hr (pa_cons (pv 0) pa_nil))) (pss_cons (ps_expr (pe_hasX GC hr4 tkX (pa_cons (pv 1) pa_nil))) pss_never), ?_⟩
    refine ⟨_, rfl, a, ys, ns, rfl, hS, hl, hV, hI, fun d1 es H1 s1 hd1 pd pe fr => ?_⟩
    exact ⟨_, rfl, v, d, rfl, hz.same s1, zok, ha, k.go s1⟩
end
end SE
/-! Several clauses 'except C as e', all with the same name e. -/
namespace SE
open PySem PySem.Spec PyProof.Rows L2
abbrev Clause := Value × (Addr → Value → Option Addr → TS)
/-- the clauses' wishes: each passes on to the next what is not its own -/
def wAsL (K : PySem.W.Frag) (i : Nat) (out : WX) (D : Ends) : List Clause → WX
  | [] => out
  | (c, ts) :: more => wAs K c i ts (wAsL K i out D more) D
/-- each clause names its class and has its suite -/
inductive AsOk (X : Cx) (n : Str) : List ExceptHandler → List Clause → Prop
  | nil : AsOk X n [] []
  | cons {y : Str} {c : Value} {ts : Addr → Value → Option Addr → TS} {first : Stmt} {rest : List Stmt} {p1 p2 : Pos} {more : List ExceptHandler} {cl : List Clause} (name : Names X y c)
      (suite : ∀ (b : Addr) (ob : Obj) (cv : Value) (fld : Option Addr) (kept : List (Addr × Obj)),
        Zc cv fld ob → (∃ fs, ob.data = .fields fs) → PSs (X.suite b ((b, ob) :: kept)) (first :: rest) (ts b cv fld))
      (tail : AsOk X n more cl) :
      AsOk X n (.ExceptHandler (some (.Name y p1)) (some n) (first :: rest) p2 :: more) ((c, ts) :: cl)
section
variable {X : Cx} {n : Str} {i : Nat} {main : List Stmt} {top : ExceptHandler} {more : List ExceptHandler} {cl : List Clause} {at_ : Pos} {tm : WX → TS} {out : WX}
theorem ps_try_asL (e1 : X.stack = X.env :: X.outer) (e2 : X.env.frame = some X.env.locals) (nod : X.N.Nodup) (slot : X.N[i]? = some n) (lo : X.env.kindOf n = some .local) (up : Takes X out)
    (hm : ∀ (W : WX) (kept : List (Addr × Obj)) (x2 : Value → Shared → Prop),
      Takes (X.tr kept x2) W → PassesOwn (model X.prog X.w) X.A X.env x2 → PSs (X.tr kept x2) main (tm W))
    (ok : AsOk X n (top :: more) cl) : PS X (.Try main (top :: more) [] [] at_) (fun D σ H => tm (wAsL X.K i out D cl) D σ H) := by
  constructor
  intro pins s0 σ0 H0 D I0 w0
  have inv := I0.ok
  have frames : X.A.frames = some (X.env :: X.outer) := inv.frames.trans (by rw [e1])
  apply wpAny_Try_except
  have big := (hm (wAsL X.K i out D cl) (X.pn ++ pins)
    (fun ev t1 => wpAny (model X.prog X.w) X.A (noteFrame ev X.env)
      (fun _ t2 => wpAny (model X.prog X.w) X.A (setFlight ev none)
        (fun _ t3 => wpAny (model X.prog X.w) X.A
          (handleBy ev X.env (top :: more)) (SP X pins D) X.xe t3) X.xe t2) X.xe t1) ?takes PassesOwn.looking).run [] s0 σ0 H0 D (I0.toTry _) w0
  case takes =>
    rintro u t ⟨b, B, sB, pb, σ, H, cv, fld, rfl, Jt, nb, grow, sky, free, os, ag, wish⟩
    have J : Inv X pins σ H sB := Jt.ofTry inv
    rw [e1] at sky
    show wpAny (model X.prog X.w) X.A (noteFrame (.ref b) X.env) _ _ _
    refine Sky.land Zc.steady frames e2 sky (fun h5 land grow5 => ?_)
    have J5 : Inv X pins σ H { t with heap := h5 } := J.landed nb land.1 (grow.trans grow5) os ag
    obtain ⟨ob5, fs5, there5, zc5, data5⟩ := land.there
    have apart : b ∉ frs (X.env :: X.outer) := fun hin => by
      obtain ⟨_, o2, at2, no⟩ := land.2.2.1.mem hin
      rw [there5] at at2
      cases at2
      exact no _ data5
    have ne1 : b ≠ X.env.locals := fun e => apart (List.mem_filterMap.mpr ⟨X.env, List.mem_cons_self, by rw [e2, e]⟩)
    have ne2 : b ∉ X.fs := fun hin => by
      obtain ⟨v, hv, hq⟩ := List.mem_filterMap.mp hin
      exact apart (List.mem_filterMap.mpr ⟨v, List.mem_cons_of_mem _ hv, hq⟩)
    have S5 := J5.suite there5 data5 free ne1 ne2
    -- clause by clause
    suffices walk : ∀ {hs : List ExceptHandler} {cs : List Clause}, AsOk X n hs cs → wAsL X.K i out D cs cv fld σ H →
        wpAny (model X.prog X.w) X.A (handleBy (.ref b) X.env hs) (SP X pins D) X.xe { t with heap := h5 } from walk ok wish
    intro hs cs good
    induction good with
    | nil =>
      intro wish
      refine wpAny_handleBy_nil ?_
      obtain ⟨k1, k2, k3, o6, f6, T6, oT6, ts6, at6, z6, d6, first6, rest6⟩ := id land
      unfold PySem.passOn
      refine wpAny_bind (wpAny_field at6 d6 first6 ?_)
      rw [if_neg (show ¬ ((Value.ref T6 == Value.none) = true) from by simp)]
      have leave : wpAny (model X.prog X.w) X.A (setFlight (.ref b) X.env.frame)
          (fun _ t7 => wpAny (model X.prog X.w) X.A (throw (.ref b) : Sem Flow) (SP X pins D) X.xe t7) X.xe { t with heap := h5 } := by
        rw [e2]
        refine HandSPX.setFlight_upZ land fun h7 land7 grow7 => wpAny_throw (up _ _ ?_)
        refine ⟨b, B, sB, pins, σ, H, cv, fld, rfl, J, nb, (grow.trans grow5).trans grow7, .inr (.inr ?_), free, os, ag, wish⟩
        rw [e1]
        exact land7
      first
        | exact wpAny_bind (wpAny_pure (wpAny_bind leave))
        | exact wpAny_bind leave
    | @cons y c ts first rest p1 p2 more2 cl2 name suite tail ih =>
      intro wish
      obtain ⟨hit, match1, yes, no⟩ := wish
      refine wpAny_handleBy_cons (codeAny_handlers_test ?_) (fun q => by cases q)
      have kind : PySem.W.Looks (model X.prog X.w) h5 (typeOf (.ref b)) cv := fun A Q E s k q => by
        refine wpAny_typeOf_ref (k _ _ there5) ?_
        rw [zc5.1]
        exact q
      have found := PySem.W.exm_one (M := model X.prog X.w) J5.kIn kind match1
      have look : ∀ {Q E : Value → Shared → Prop}, Q c { t with heap := h5 } →
          wpAny (model X.prog X.w) (X.A.mark (some (.ref b))) (eval (.Name y p1) X.env) Q E { t with heap := h5 } := fun q => by
        obtain ⟨g1, g2, own | ⟨g3, g4, g5⟩⟩ := name
        · exact ld_glob (X := X.suite b ((b, ob5) :: (X.pn ++ pins))) S5 g1 own q g2
        · exact ld_blt (X := X.suite b ((b, ob5) :: (X.pn ++ pins))) S5 g1 g3 g4 q g5 g2
      refine look (found.here ?_)
      cases hit with
      | false => exact ih (no rfl)
      | true =>
        refine codeAny_handlers_suite_as (HandSPX.lands_againZ land fun h8 land8 grow8 => ?_)
        have J8 : Inv X pins σ H { t with heap := h8 } := J.landed nb land8.1 ((grow.trans grow5).trans grow8) os ag
        obtain ⟨ob8, fs8, there8, zc8, data8⟩ := land8.there
        have S8 := J8.suite there8 data8 free ne1 ne2
        refine store_ok (X := X.suite b ((b, ob8) :: (X.pn ++ pins))) (v := .ref b) S8 nod slot (.inl lo) rfl (fun t9 S9 => ?_) (.inr lo)
        have run := (suite b ob8 cv fld (X.pn ++ pins) zc8 ⟨_, data8⟩).run [] t9 _ H _ S9 (yes rfl b free)
        refine wpAny_mono run (fun fl tA done => ?_) (fun _ _ z => z.elim)
        have clear : ∀ {σA : L2.St} {HA : Hp} {Q : Shared → Prop}, Inv (X.suite b ((b, ob8) :: (X.pn ++ pins))) [] σA HA tA →
            (∀ tB, Inv X pins (σA.set i none) HA tB → Q tB) →
            wpAny (model X.prog X.w) X.A (do bindName X.env n .none; unbindBehindTheSuite X.env n p2) (fun _ tB => Q tB) X.xe tA :=
          fun SA goal => gone_ok (SA.unsuite inv) nod slot lo goal
        match fl, done with
        | .next, ⟨_, _, SA, q⟩ => exact clear SA fun tB JB => ⟨_, _, JB, q⟩
        | .brk, ⟨_, _, SA, q⟩ => exact clear SA fun tB JB => ⟨_, _, JB, q⟩
        | .cont, ⟨_, _, SA, q⟩ => exact clear SA fun tB JB => ⟨_, _, JB, q⟩
        | .ret u, ⟨_, _, _, SA, rel, q⟩ => exact clear SA fun tB JB => ⟨_, _, _, JB, rel, q⟩
  refine wpAny_mono big (fun fl t done => ?_) (fun _ _ z => z)
  match fl, done with
  | .next, ⟨_, _, J, q⟩ => exact wpAny_execs_nil ⟨_, _, J.ofTry inv, q⟩
  | .brk, ⟨_, _, J, q⟩ => exact ⟨_, _, J.ofTry inv, q⟩
  | .cont, ⟨_, _, J, q⟩ => exact ⟨_, _, J.ofTry inv, q⟩
  | .ret u, ⟨_, _, _, J, rel, q⟩ => exact ⟨_, _, _, J.ofTry inv, rel, q⟩
end
end SE
namespace SE
open PySem PySem.Spec PyProof.Rows L2
theorem HasX.two {P : Program} {w : World} {K : PySem.W.Frag} {mg : Str → Option Value} {base : Heap} {x : Str} {k : Nat} {ps : List Str} {dvs dvs2 : List V} {sp1 sp2 : Sp} (h1 : HasX P w K mg base x k ps dvs sp1) (h2 : HasX P w K mg base x k ps dvs2 sp2) :
    HasX P w K mg base x k ps dvs (fun vs H Q E => sp1 vs H Q E ∨ sp2 vs H Q E) := by
  obtain ⟨f1, fd1, ds1, F1, m1, kp1, b1, v1, st1, U1⟩ := h1
  obtain ⟨f2, fd2, ds2, F2, m2, kp2, b2, v2, st2, U2⟩ := h2
  obtain rfl : f1 = f2 := Value.ref.inj (Option.some.inj (m1.symm.trans m2))
  have ef : fd1 = fd2 := by
    obtain ⟨_, _, _, _, _, _, _, _, _, _, l1, _⟩ := U1.ex
    obtain ⟨_, _, _, _, _, _, _, _, _, _, l2, _⟩ := U2.ex
    have := Option.some.inj (l1.symm.trans l2)
    simp only [Obj.mk.injEq, Data.func.injEq] at this
    first
      | exact this.2.2.1
      | (injection this with _ _ q; exact Data.func.inj q)
  subst ef
  exact ⟨f1, fd1, ds1, ⟨fun vs H Q E h => h.elim (F1.len vs H Q E) (F2.len vs H Q E), fun A outer s H args us vs Q E hr he hb hv h => h.elim (F1.run A outer s H args us vs Q E hr he hb hv) (F2.run A outer s H args us vs Q E hr he hb hv)⟩, m1, kp1, b1, v1, st1, U1⟩
def ShD (d : PyData) : Prop := d.showable = true ∧ d.depth ≤ 20 ∧ d.shown.length ≤ sizeLine
/-- a new list of these -/
def outL (Q : VK) (H : Hp) (vs : List V) : Prop := ∀ (l : Addr) (H' : Hp), Same H H' → H l = none → H' l = some (.lst vs) → Q (.ref l) H'
theorem outL.go {Q : VK} {H H' : Hp} {vs : List V} (h : outL Q H vs) (s : Same H H') : outL Q H' vs := fun l H2 s2 n e => h l H2 (s.trans s2) (s.free n) e
theorem outL.new {Q : VK} {H : Hp} {vs : List V} (h : outL Q H vs) {l : Addr} (n : H l = none) : Q (.ref l) (upd H l (.lst vs)) := h l _ (Same.new n) n upd_same
structure To52 (P : Program) (w : World) (K : PySem.W.Frag) (mg : Str → Option Value) (base : Heap) (CI CK : Addr) : Prop where
  xi : XcC P w K mg base "InvalidSteps" "index" CI
  xk : XcC P w K mg base "InvalidStacks" "value" CK
  ki : PySem.W.exmOne K (.ref CK) (.ref CI) = some false
  kv : PySem.W.kitOne K (.ref CK) (.type "ValueError") = some true
  mv : mg "ValueError" = none
section
variable {P : Program} {w : World} {K : PySem.W.Frag} {mg : Str → Option Value} {base : Heap} {CI CK : Addr}
/-! ### _law_told -/
abbrev nTo : List Str := ["_law_steps_here", "_law_heaps", "e"]
abbrev pTo : List Str := ["_law_steps_here", "_law_heaps"]
theorem scTo : FnScope nTo pTo (defScope sLawTold) := ⟨rfl, rfl, rfl, by decide +kernel, rfl, by decide +kernel, by decide +kernel⟩
def spRa2 (P : Program) (w : World) (K : PySem.W.Frag) (CI CK : Addr) : Sp := fun vs H Q E => spBadR K CI vs H Q E ∨ spRaZ P w K CK vs H Q E
def tsI (C : Addr) : Addr → Value → Option Addr → TS := fun a cls d => tRet (tLst (tCons (tC (.str "steps")) (tCons (tXf a cls d C "index" (tVar 2)) tNil)))
def tsK (P : Program) (w : World) (K : PySem.W.Frag) (C : Addr) : Addr → Value → Option Addr → TS := fun a cls d => tRet (tLst (tCons (tC (.str "stacks")) (tCons (tCB (rRepZ P w K) (tCons (tXf a cls d C "value" (tVar 2)) tNil)) (tCons (tCB (rIsX K C a cls d) (tCons (tVar 2) (tCons (tC (.ty "ValueError")) tNil))) tNil))))
def tbTo (P : Program) (w : World) (K : PySem.W.Frag) (CI CK : Addr) (W : WX) : TS := tDrop (tCallS (spRa2 P w K CI CK) (WE W) (tCons (tVar 0) (tCons (tVar 1) tNil)))
def spTo (P : Program) (w : World) (K : PySem.W.Frag) : Sp := fun vs H Q _ =>
  (∃ (v u : V) (d : PyData) (r : V), vs = [v, u] ∧ DpX K H v d ∧ OkD d ∧ BadN d r ∧ outL Q H [.str "steps", r]) ∨
  (∃ (a : Addr) (ys : List V) (ns : List NSt) (v : V) (d : PyData), vs = [.ref a, v] ∧ (SqL K H a ys ∨ SqT K H a ys) ∧ ys.length ≤ 1000 ∧ NSV K H ys ns ∧ (∀ s ∈ ns, NOk s) ∧ RpZ P w K H v d ∧ ZOk d ∧ areD d = false ∧ ShD d ∧ outL Q H [.str "stacks", .str d.shown, .bl true])
theorem ghas_to (D : Def K mg "_law_told" sLawTold) (RX : To52 P w K mg base CI CK) (GR : HasX P w K mg base "run_all" 6 ["steps", "stacks"] [] (spRa2 P w K CI CK)) (B : Blt mg) (mp : mg "repr" = none) : GHas P w K mg base "_law_told" 7 pTo (spTo P w K) := by
  refine ghas_of D scTo (fun _ _ _ _ _ _ us hl => match us, hl with | [_, _], _ => rfl) (fun xs H Q E h => ?_) (fun f cv A out s H xs Q E hgu hr h => ?_)
  · rcases h with ⟨v, u, d, r, rfl, _⟩ | ⟨a, ys, ns, v, d, rfl, _⟩ <;> rfl
  · obtain ⟨x0, x1, rfl⟩ : ∃ x0 x1, xs = [x0, x1] := by
      rcases h with ⟨v, u, d, r, rfl, _⟩ | ⟨a, ys, ns, v, d, rfl, _⟩
      · exact ⟨_, _, rfl⟩
      · exact ⟨_, _, rfl⟩
    refine ⟨_, pss_cons (ps_try_asL (i := 2) (tm := tbTo P w K CI CK) (cl := [(.ref CI, tsI CI), (.ref CK, tsK P w K CK)]) (out := fun _ _ _ _ => False) rfl rfl scTo.nd rfl rfl takes0
        (fun W pn xe tk _ => pss_one (ps_expr (pe_hasS GR hr tk (pa_cons (pv 0) (pa_cons (pv 1) pa_nil)))))
        (.cons ⟨rfl, by decide, .inl RX.xi.gC⟩ (fun a oe cls d pn hz hf => pss_one (ps_ret (pe_lst (pa_cons pe_str (pa_cons (pe_xf RX.xi.xf RX.xi.noF hz hf (pv 2)) pa_nil)))))
        (.cons ⟨rfl, by decide, .inl RX.xk.gC⟩ (fun a oe cls d pn hz hf => pss_one (ps_ret (pe_lst (pa_cons pe_str (pa_cons (pe_callB (call_reprZ hgu hr.units) (by rfl) mp (by decide +kernel) (pa_cons (pe_xf RX.xk.xf RX.xk.noF hz hf (pv 2)) pa_nil)) (pa_cons (pe_callB (call_isX RX.xk hz hf) (by rfl) B.isi (by decide +kernel) (pa_cons (pv 2) (pa_cons (pe_bltn (v := .ty "ValueError") (by rfl) RX.mv (by decide +kernel) rfl) pa_nil))) pa_nil)))))) .nil)))
      (pss_one (ps_ret (pe_lst (pa_cons pe_str pa_nil)))), ?_⟩
    have go : ∀ (D : Ends), (∀ x H', Q x H' → D.rt x H') → tbTo P w K CI CK (wAsL K 2 (fun _ _ _ _ => False) D [(.ref CI, tsI CI), (.ref CK, tsK P w K CK)]) D [some x0, some x1, none] H := by
      intro D kk
      rcases h with ⟨v, u, d, r, e, hd, ok, hb, q⟩ | ⟨a, ys, ns, v, d, e, hS, hl, hV, hI, hz, zok, ha, sk, q⟩
      · cases e
        refine ⟨_, rfl, _, rfl, .inl ⟨x0, d, r, x1, rfl, hd, ok, hb, fun dd H' s' n hx => ?_⟩⟩
        refine ⟨true, RX.xi.te, fun _ a na => ?_, fun z => Bool.noConfusion z⟩
        exact ⟨_, rfl, rfl, rfl, dd, _, r, rfl, hx, by simp [List.lookup], (by show 2 ≤ sizeLine; decide), fun l hl => kk _ _ ((q.go s').new hl)⟩
      · cases e
        refine ⟨_, rfl, _, rfl, .inr ⟨a, ys, ns, x1, d, rfl, hS, hl, hV, hI, hz, zok, ha, fun dd H' s' n hx => ?_⟩⟩
        refine ⟨false, RX.ki, fun z => Bool.noConfusion z, fun _ => ⟨true, RX.xk.te, fun _ a na => ?_, fun z => Bool.noConfusion z⟩⟩
        refine ⟨_, rfl, rfl, rfl, dd, _, x1, rfl, hx, by simp [List.lookup], x1, d, rfl, hz.same s', sk.1, sk.2.1, sk.2.2, ?_⟩
        exact ⟨_, rfl, .ty "ValueError", .type "ValueError", true, dd, _, rfl, rfl, fun u r => r, RX.kv, rfl, hx, (by show 3 ≤ sizeLine; decide), fun l hl => kk _ _ ((q.go s').new hl)⟩
    exact go _ (fun x H' q => q)
end
end SE
/-! (x,) * n for n up to 5000. -/
namespace SE
open PySem PySem.Spec PyProof.Rows L2
def rRepB (K : PySem.W.Frag) : R2 := fun x y H Q => ∃ (l : Addr) (k : Int) (v : V), x = .ref l ∧ y = .int k ∧ SqT K H l [v] ∧ 2 ≤ k ∧ k ≤ 5000 ∧ ∀ p, H p = none → Q (.ref p) (upd H p (.tup (List.replicate k.toNat v)))
theorem op_repB {X : Cx} : OpR X (binaryOp .Mult) (rRepB X.K) := by
  intro pins s σ H x y a u Q I rx ry h
  obtain ⟨l, k, v, rfl, rfl, hT, h1, h2, q⟩ := h
  cases rx
  obtain ⟨t, rfl⟩ := ry
  obtain ⟨its, r, ⟨⟨cls, dd, data, sl⟩, ho, hc, n, hd⟩, hs⟩ := I.tuple hT
  simp only at hc hd
  subst hc hd
  obtain ⟨w, rfl⟩ : ∃ w, its = [w] := by
    cases r with
    | cons r1 r2 =>
      cases r2
      exact ⟨_, rfl⟩
  have sz : (([w] : List Value).toArray.size : Int) * k = k := by
    show ((1 : Nat) : Int) * k = k
    omega
  have rep : ∀ {α : Type} (z : α), (List.replicate k.toNat [z]).flatten = List.replicate k.toNat z := fun z => List.flatten_replicate_singleton
  have big : k.toNat ≤ sizeLine := by
    rw [sizeLine_eq]
    omega
  refine wpAny_binaryOp_repeat_ref (T := "tuple") (U := "int") (by decide) ⟨_, ho, rfl⟩ (fun s2 => typeIs_int s2 k t) noFill_tuple_mul F.fills_int_mul F.slot_int_rmul repeat_tuple F.slot_int_index.lookup ?_
  refine call_meets F.slot_int_rmul (typeIs_int s k t) F.entry_int_rmul (F.args_int_rmul_2 _ _) (int_rmul_tuple k t l _ n dd sl) ⟨ho, rfl, ⟨_, ho, rfl⟩, ?_⟩
  refine call_meets F.slot_tuple_mul ⟨_, ho, rfl⟩ F.entry_tuple_mul (F.args_tuple_mul_2 _ _) (tuple_mulW l _ n dd sl k t ?_ ?_ ?_ ?_ ?_ ?_) ⟨ho, ?_⟩
  · rw [decide_eq_false (by omega), decide_eq_false (by omega)]
    rfl
  · show (false || k == 1) = false
    rw [Bool.false_or]
    exact beq_eq_false_iff_ne.mpr (by omega)
  · show (decide (k ≤ 0) || false) = false
    rw [Bool.or_false]
    exact decide_eq_false (by omega)
  · rw [sz]
    omega
  · rw [sz]
    unfold Builtin.Tuple.tupleTooMany
    rw [sizeLine_eq]
    exact decide_eq_false (by omega)
  · rw [size_rep, List.size_toArray, rep, List.length_replicate]
    exact big
  · rw [size_rep, rep]
    refine ⟨.ref s.heap.objs.size, _, I.laid (t' := s.toks) (o := .tup (List.replicate k.toNat v)) (fun b ob e => Heap.get?_push_of_some _ e) (Nat.le_refl _) ?_, rfl, q _ (I.hok.fresh (Nat.le_refl _))⟩
    refine ⟨by rw [List.length_replicate]; exact big, _, ?_, IsTup.new _ _⟩
    have z := r.rep k.toNat
    rw [rep, rep] at z
    exact z
end SE
/-! Tuples: t * n, t + u, t[a:b] whichever object comes out; len(set(t)) of texts. -/
namespace SE
open PySem PySem.Spec PyProof.Rows L2
section
variable {X : Cx}
theorem tmul_one (l : Addr) (w : Value) (n : Nat) (dd : Option Addr) (sl : Array (Option Value)) (u : Tok) :
    Meets (Builtin.«tuple.__mul__» ⟨[.ref l, .int 1 u], []⟩) (fun _ R s => s.heap.get? l = some { cls := .type "tuple", dict := dd, data := .seq #[w] n, slots := sl } ∧ R (.ok (.ret (Value.ref l))) s) :=
  .of_wp fun prog wd A R s h => by
    obtain ⟨hp, g, d, tk, os⟩ := s
    obtain ⟨hl, h⟩ := h
    have f1 := AutoSeq1.idx_int
    wp_walk using AutoSeq1.wpAny_loadPart' hl
    exact ⟨_, rfl, h⟩
theorem tmul_none (l : Addr) (w : Value) (n : Nat) (dd : Option Addr) (sl : Array (Option Value)) (k : Int) (u : Tok) (h0 : -1000000 ≤ k) (h1 : k ≤ 0) :
    Meets (Builtin.«tuple.__mul__» ⟨[.ref l, .int k u], []⟩) (fun _ R s => s.heap.get? l = some { cls := .type "tuple", dict := dd, data := .seq #[w] n, slots := sl } ∧
      R (.ok (.ret (Value.ref s.heap.objs.size))) { s with heap := s.heap.push { cls := .type "tuple", data := .seq #[] } }) :=
  .of_wp fun prog wd A R s h => by
    obtain ⟨hp, g, d, tk, os⟩ := s
    obtain ⟨hl, h⟩ := h
    have f1 := AutoSeq1.idx_int
    have c0 : (decide (k < -(2 ^ 63)) || decide (k ≥ 2 ^ 63)) = false := by
      rw [decide_eq_false (by omega), decide_eq_false (by omega)]
      rfl
    have c1 : ((#[w] : Array Value).isEmpty || k == 1) = false := by
      show (false || k == 1) = false
      rw [Bool.false_or]
      exact beq_eq_false_iff_ne.mpr (by omega)
    have c2 : (decide (k ≤ 0) || (#[w] : Array Value).isEmpty) = true := by
      rw [decide_eq_true h1]
      rfl
    wp_walk using AutoSeq1.wpAny_loadPart' hl
    repeat (first
      | (refine wpAny_ite_false (decide_eq_false (by rw [c0]; exact Bool.false_ne_true)) ?_; wp_walk using AutoSeq1.wpAny_loadPart' hl)
      | (refine wpAny_ite_false (decide_eq_false (by rw [c1]; exact Bool.false_ne_true)) ?_; wp_walk using AutoSeq1.wpAny_loadPart' hl)
      | (refine wpAny_ite_true (decide_eq_true (by rw [c2])) ?_; wp_walk using AutoSeq1.wpAny_loadPart' hl))
    exact ⟨_, rfl, h⟩
/-- (x,) * k, any k -/
def rRepS (K : PySem.W.Frag) : R2 := fun x y H Q => ∃ (l : Addr) (k : Int) (v : V), x = .ref l ∧ y = .int k ∧ SqT K H l [v] ∧ -1000000 ≤ k ∧ k ≤ 5000 ∧ ∀ (p : Addr) (H' : Hp), Same H H' → SqT K H' p (List.replicate k.toNat v) → Q (.ref p) H'
theorem op_repS : OpR X (binaryOp .Mult) (rRepS X.K) := by
  intro pins s σ H x y a u Q I rx ry h
  obtain ⟨l, k, v, rfl, rfl, hT, h1, h2, q⟩ := h
  by_cases c : 2 ≤ k
  · exact op_repB pins s σ H _ _ a u Q I rx ry ⟨l, k, v, rfl, rfl, hT, c, h2, fun p hp => q p _ (Same.new hp) (.of upd_same)⟩
  cases rx
  obtain ⟨t, rfl⟩ := ry
  obtain ⟨its, r, ⟨⟨cls, dd, data, sl⟩, ho, hc, n, hd⟩, hs⟩ := I.tuple hT
  simp only at hc hd
  subst hc hd
  obtain ⟨w, rfl⟩ : ∃ w, its = [w] := by
    cases r with
    | cons r1 r2 =>
      cases r2
      exact ⟨_, rfl⟩
  refine wpAny_binaryOp_repeat_ref (T := "tuple") (U := "int") (by decide) ⟨_, ho, rfl⟩ (fun s2 => typeIs_int s2 k t) noFill_tuple_mul F.fills_int_mul F.slot_int_rmul repeat_tuple F.slot_int_index.lookup ?_
  refine call_meets F.slot_int_rmul (typeIs_int s k t) F.entry_int_rmul (F.args_int_rmul_2 _ _) (int_rmul_tuple k t l _ n dd sl) ⟨ho, rfl, ⟨_, ho, rfl⟩, ?_⟩
  by_cases c1 : k = 1
  · subst c1
    refine call_meets F.slot_tuple_mul ⟨_, ho, rfl⟩ F.entry_tuple_mul (F.args_tuple_mul_2 _ _) (tmul_one l w n dd sl t) ⟨ho, ?_⟩
    exact ⟨.ref l, H, I, rfl, q l H (Same.refl H) hT⟩
  · have k0 : k ≤ 0 := by omega
    refine call_meets F.slot_tuple_mul ⟨_, ho, rfl⟩ F.entry_tuple_mul (F.args_tuple_mul_2 _ _) (tmul_none l w n dd sl k t h1 k0) ⟨ho, ?_⟩
    refine ⟨.ref s.heap.objs.size, _, I.laid (t' := s.toks) (o := .tup []) (fun b ob e => Heap.get?_push_of_some _ e) (Nat.le_refl _) ?_, rfl, q _ _ (Same.new (I.hok.fresh (Nat.le_refl _))) ?_⟩
    · exact ⟨Nat.zero_le _, [], .nil, IsTup.new _ _⟩
    · rw [show k.toNat = 0 by omega]
      exact .of upd_same
/-- t + u -/
def rCatS (K : PySem.W.Frag) : R2 := fun x y H Q => ∃ (a b : Addr) (xs ys : List V), x = .ref a ∧ y = .ref b ∧ SqT K H a xs ∧ SqT K H b ys ∧ xs.length + ys.length ≤ sizeLine ∧ ∀ (p : Addr) (H' : Hp), Same H H' → SqT K H' p (xs ++ ys) → Q (.ref p) H'
theorem op_catS : OpR X (binaryOp .Add) (rCatS X.K) := by
  intro pins s σ H x y v u Q I rx ry h
  obtain ⟨a, b, xs, ys, rfl, rfl, ha, hb, hz, q⟩ := h
  refine op_catA pins s σ H _ _ v u Q I rx ry ⟨a, b, xs, ys, rfl, rfl, ha, hb, hz, fun e => ?_, fun _ e => ?_, fun _ _ p hp => q p _ (Same.new hp) (.of upd_same)⟩
  · subst e
    exact q b H (Same.refl H) hb
  · subst e
    exact q a H (Same.refl H) (by rw [List.append_nil]; exact ha)
/-- t[lo:hi] -/
def rSlS (K : PySem.W.Frag) : V → Option Int → Option Int → Hp → VK → Prop := fun x lo hi H Q => ∃ (a : Addr) (xs : List V), x = .ref a ∧ SqT K H a xs ∧ ∀ (p : Addr) (H' : Hp), Same H H' → SqT K H' p (cutV xs lo hi) → Q (.ref p) H'
theorem sl_tupS : SlR X (rSlS X.K) := by
  intro pins s σ H x v vl vu lo hi sl Q I rx hs pl pu h
  obtain ⟨a, xs, rfl, hx, q⟩ := h
  refine sl_tupA pins s σ H _ v vl vu lo hi sl Q I rx hs pl pu ⟨a, xs, rfl, hx, fun e => q a H (Same.refl H) ?_, fun _ p hp => q p _ (Same.new hp) (.of upd_same)⟩
  have e2 : cutV xs lo hi = xs := by
    unfold cutV
    rw [e.1, e.2, List.drop_zero, Nat.sub_zero, List.take_length]
  rw [e2]
  exact hx
end
end SE
namespace SE
open PySem PySem.Spec PyProof.Rows L2
theorem pi_or {X : Cx} {tg e : Expr} {t1 t2 : TI} (h1 : PI X tg e t1) (h2 : PI X tg e t2) : PI X tg e (fun σ H R => t1 σ H R ∨ t2 σ H R) := ⟨fun pins s σ H R I h => h.elim (h1.run pins s σ H R I) (h2.run pins s σ H R I)⟩
theorem perfS_app (l : Lim) : ∀ (a b : List NSt) (ss : Sk), perfS l (a ++ b) ss = (perfS l a ss).bind (perfS l b)
  | [], b, ss => rfl
  | s :: a, b, ss => by
    show (match stepL l (s.1, s.2.2) (getS ss s.2.1) with
      | none => none
      | some st => perfS l (a ++ b) (putS ss s.2.1 st)) = _
    cases h : stepL l (s.1, s.2.2) (getS ss s.2.1) with
    | none =>
      show none = (perfS l (s :: a) ss).bind _
      unfold perfS
      rw [h]
      rfl
    | some st =>
      show perfS l (a ++ b) _ = (perfS l (s :: a) ss).bind _
      rw [perfS_app l a b]
      conv => rhs; unfold perfS
      rw [h]
theorem perf_take {ns : List NSt} {ss sj : Sk} {j : Nat} {c : Bool} {n z : Str} (hst : ns[j]? = some (c, n, z)) (hp : perfS none (ns.take j) ss = some sj) : perfS none (ns.take (j + 1)) ss = (stepM (c, z) (getS sj n)).map fun st => putS sj n st := by
  rw [List.take_add_one, hst, perfS_app, hp]
  show perfS none [(c, n, z)] sj = _
  unfold perfS
  rw [stepL_none]
  cases stepM (c, z) (getS sj n) <;> rfl
theorem perf_stop {ns : List NSt} {ss : Sk} {j : Nat} (h : perfS none (ns.take j) ss = none) : perfS none ns ss = none := by
  have e : perfS none (ns.take j ++ ns.drop j) ss = none := by rw [perfS_app, h]; rfl
  rwa [List.take_append_drop] at e
section
variable {P : Program} {w : World} {K : PySem.W.Frag} {mg : Str → Option Value} {base : Heap}
/-! ### _law_due -/
def spDue (K : PySem.W.Frag) : Sp := fun vs H Q _ => ∃ (a d : Addr) (ys : List V) (ns : List NSt) (ks : List (Key × V)) (ss : Sk) (m b : Nat), vs = [.ref a, .ref d] ∧ (SqL K H a ys ∨ SqT K H a ys) ∧ ys.length ≤ 1000 ∧ NSV K H ys ns ∧ (∀ s ∈ ns, NOk s) ∧ H d = some (.dK ks) ∧ SkH K H ks ss ∧ SkOk ss m b ∧ m ≤ 60 ∧ b ≤ 3000 ∧
  (perfS none ns ss = none → ∀ H', Same H H' → Q .non H') ∧ (∀ rs, perfS none ns ss = some rs → ∀ (r : Addr) (kv2 : List (Key × V)) (H' : Hp), Same H H' → H r = none → H' r = some (.dK kv2) → SkH K H' kv2 rs → SkOk rs (m + 1000) (b + 1000) → Q (.ref r) H')
abbrev nDu : List Str := ["_law_steps_here", "_law_heaps", "_law_found", "_law_action", "_law_name_here", "_law_item", "_law_pile"]
theorem scDu : FnScope nDu ["_law_steps_here", "_law_heaps"] (defScope sLawDue) := ⟨rfl, rfl, rfl, by decide +kernel, rfl, by decide +kernel, by decide +kernel⟩
theorem has_due (D : Def K mg "_law_due" sLawDue) (B : Blt mg) (md : mg "dict" = none) : Has P w K mg base "_law_due" 1 ["_law_steps_here", "_law_heaps"] [] (spDue K) := by
  refine has_of D scDu (fun _ _ _ _ _ _ us hl => match us, hl with | [_, _], _ => rfl) (fun xs H Q E h => ?_) (fun f cv A out s H xs Q E hr h => ?_)
  · obtain ⟨a, d, ys, ns, ks, ss, m, b, rfl, _⟩ := h
    rfl
  · obtain ⟨a, d, ys, ns, ks, ss, m, b, rfl, hS, hl, hV, hI, hd, hK, ok, hm, hb, kN, kS⟩ := h
    have hu := room_u hr
    refine ⟨_, pss_cons (ps_set (i := 2) scDu.nd rfl (.inl rfl) (pe_callTy call_dictD (by rfl) md (by decide +kernel) (pa_cons (pv 1) pa_nil)))
      (pss_cons (ps_for PassesOwn.never rfl (pi_or (pi_list (pv 0)) (pi_tup (pv 0))) (pg_tup (by rfl) (pgs_cons (pg_name (i := 3) scDu.nd rfl (.inl rfl)) (pgs_cons (pg_name (i := 4) scDu.nd rfl (.inl rfl)) (pgs_cons (pg_name (i := 5) scDu.nd rfl (.inl rfl)) pgs_nil))))
        (pss_cons (ps_set (i := 6) scDu.nd rfl (.inl rfl) (pe_dget2 hu (pv 2) (pv 4) (pe_tup pa_nil) ⟨rfl, rfl, rfl, rfl⟩))
        (pss_one (ps_if (pt_cmpR op_eq (pv 3) pe_str (nomark _))
          (pss_one (ps_dput hu (pv 2) (pv 4) (pe_op op_catS (pe_tup (pa_cons (pv 5) pa_nil)) (pv 6)) rfl))
          (pss_one (ps_if (PW.pt (pw_and (pt_cmpR (op_neD hr.units) (pv 6) (pe_tup pa_nil) (nomark _)) (pw_and1 (pt_cmpR op_eq (pe_ix ix_tup (pv 6) pe_int (fun _ _ => rfl)) (pv 5) (nomark _)))))
            (pss_one (ps_dput hu (pv 2) (pv 4) (pe_slice sl_tupS (pv 6) (po_some pe_int) po_none) rfl))
            (pss_one (ps_ret pe_non))))))))
      (pss_one (ps_ret (pv 2)))), ?_⟩
    refine ⟨_, rfl, d, ks, rfl, .inl hd, fun D hD => ?_⟩
    have sD : Same H (upd H D (.dK ks)) := Same.new hD
    have nD : H D = none := hD
    have hDD : upd H D (.dK ks) D = some (.dK ks) := upd_same
    have sk0 : SkH K (upd H D (.dK ks)) ks ss := skH_same hK sD
    generalize upd H D (.dK ks) = H1 at sD hDD sk0 ⊢
    have ln : ys.length = ns.length := Paired.length hV
    have fin : ∀ {σ : L2.St} {H2 : Hp} {kv2 : List (Key × V)} {sj : Sk}, H2 D = some (.dK kv2) → SkH K H2 kv2 sj → SkOk sj (m + ys.length) (b + ys.length) → perfS none (ns.take ys.length) ss = some sj → Same H H2 → Q (.ref D) H2 := fun {σ H2 kv2 sj} h1 h2 h3 h4 h5 => by
      rw [ln, List.take_length] at h4
      exact kS sj h4 D kv2 H2 h5 nD h1 h2 (h3.mono (by omega) (by omega))
    rcases hS with hq0 | hq0
    · refine .inl ⟨_, rfl, a, rfl, ⟨_, Same.seq sD hq0⟩, for_list (K := K) (a := a) (xs := ys) (fun j σ H2 => ∃ (kv2 : List (Key × V)) (sj : Sk) (y3 y4 y5 y6 : Option V), σ = [some (.ref a), some (.ref d), some (.ref D), y3, y4, y5, y6] ∧ H2 D = some (.dK kv2) ∧ SkH K H2 kv2 sj ∧ SkOk sj (m + j) (b + j) ∧ perfS none (ns.take j) ss = some sj ∧ Same H H2) ⟨ks, ss, _, _, _, _, rfl, hDD, sk0, ok, rfl, sD⟩ (fun j σ H2 _ q => by obtain ⟨_, _, _, _, _, _, _, _, _, _, _, s3⟩ := q; exact Same.seq s3 hq0) ?_ ?_⟩
      · rintro j x σ H2 hj ⟨kv2, sj, y3, y4, y5, y6, rfl, hD2, sk2, ok2, hp2, s2⟩
        obtain ⟨st, hst, t, rfl, hT⟩ := paired_at hV hj
        have j1 : j < ys.length := (List.getElem?_eq_some_iff.mp hj).1
        obtain ⟨c, n, z⟩ := st
        have nok := hI (c, n, z) (List.mem_of_getElem? hst)
        have tk := perf_take hst hp2
        obtain ⟨g1, g2⟩ := ok2.get n
        refine ⟨t, _, rfl, Same.tup s2 hT, rfl, _, _, rfl, _, _, rfl, _, _, rfl, rfl, ?_⟩
        refine ⟨_, rfl, D, rfl, .inl ⟨_, .inl hD2⟩, _, rfl, by show 0 ≤ sizeLine; decide, fun U hU => ?_⟩
        have sU : Same H2 (upd H2 U (.tup [])) := Same.new hU
        have hUU : upd H2 U (.tup []) U = some (.tup []) := upd_same
        generalize upd H2 U (.tup []) = H3 at sU hUU ⊢
        have hD3 := sU _ _ hD2
        have sk3 := skH_same sk2 sU
        refine ⟨_, DGet.k (k := Sum.inr n) hD3, ?_⟩
        obtain ⟨q, eq, hq⟩ : ∃ q, (valV kv2 (Sum.inr n)).getD (V.ref U) = V.ref q ∧ SqT K H3 q ((getS sj n).map V.str) := by
          unfold getS
          rcases skH_val (n := n) sk3 with ⟨z1, z2⟩ | ⟨p, t2, z1, z2, z3⟩
          · rw [z1, z2]
            exact ⟨U, rfl, .of hUU⟩
          · rw [z1, z2]
            exact ⟨t2, rfl, z3⟩
        rw [eq]
        have s3 := s2.trans sU
        have put : ∀ {r : Addr} {zs : List Str} {H5 : Hp}, Same H3 H5 → SqT K H5 r (zs.map V.str) → (∀ y ∈ zs, Item y) → zs.length ≤ b + (j + 1) → perfS none (ns.take (j + 1)) ss = some (putS sj n zs) → ∃ H6, DPut H5 D (.str n) (.ref r) H6 ∧ ∃ kv3 s3, H6 D = some (.dK kv3) ∧ SkH K H6 kv3 s3 ∧ SkOk s3 (m + (j + 1)) (b + (j + 1)) ∧ perfS none (ns.take (j + 1)) ss = some s3 ∧ Same H H6 := fun {r zs H5} s5 hr5 iz lz hp => by
          have hD5 := s5 _ _ hD3
          have sk5 := skH_same sk3 s5
          have lk := paired_len sk5
          have l2 := ok2.len
          exact ⟨_, .inl ⟨kv2, Sum.inr n, hD5, rfl, by rw [sizeLine_eq]; omega, rfl⟩, _, _, upd_same, skH_upd (.dK hD5) (skH_put sk5 hr5), putS_ok ok2 nok.n iz lz (by omega), hp, Same.free2 (s3.trans s5) nD⟩
        cases c with
        | true =>
          refine ⟨_, rfl, rfl, true, congrArg V.bl (decide_eq_true rfl), iteT ?_⟩
          refine ⟨_, rfl, by show 1 ≤ sizeLine; decide, fun t1 ht1 => ?_⟩
          have s4 : Same H3 (upd H3 t1 (.tup [.str z])) := Same.new ht1
          have h4 : upd H3 t1 (.tup [.str z]) t1 = some (.tup (([z] : List Str).map V.str)) := upd_same
          generalize upd H3 t1 (.tup [.str z]) = H4 at s4 h4 ⊢
          refine ⟨_, rfl, t1, q, _, _, rfl, rfl, .of h4, Same.tup s4 hq, by rw [List.length_map, List.length_map, sizeLine_eq, List.length_singleton]; omega, fun r H5 s5 hr5 => ?_⟩
          rw [← List.map_append] at hr5
          obtain ⟨H6, p6, kv3, s6, f1, f2, f3, f4, f5⟩ := put (s4.trans s5) hr5 (fun y my => by
            rcases List.mem_append.mp my with e | e
            · rw [List.mem_singleton.mp e]; exact nok.i
            · exact g1 y e) (by rw [List.length_append, List.length_singleton]; omega) (by rw [tk]; rfl)
          exact ⟨_, rfl, _, rfl, D, H6, rfl, p6, kv3, s6, _, _, _, _, rfl, f1, f2, f3, f4, f5⟩
        | false =>
          refine ⟨_, rfl, rfl, false, congrArg V.bl (decide_eq_false (fun e => absurd (V.str.inj e) (show ¬ (("pop" : Str) = "push") by decide))), iteF ?_⟩
          refine ⟨_, rfl, by show 0 ≤ sizeLine; decide, fun t1 ht1 => ?_⟩
          have s4 : Same H3 (upd H3 t1 (.tup [])) := Same.new ht1
          have h4 : upd H3 t1 (.tup []) t1 = some (.tup (([] : List Str).map V.str)) := upd_same
          generalize upd H3 t1 (.tup []) = H4 at s4 h4 ⊢
          have shp : ∀ {zs : List Str}, (∀ y ∈ zs, Item y) → SeqAt.shaped (.tuple (zs.map PyData.str)) = true := fun {zs} q => (nice_tuple (nice_strs q)).shaped (by decide)
          refine ⟨.tuple ((getS sj n).map .str), .tuple (([] : List Str).map .str), .tup (Same.tup s4 hq) (dp_strs _), .tup (.of h4) .nil, shp g1, shp (fun y my => by cases my), decide (getS sj n ≠ []), congrArg V.bl (by rw [eqv_tupS, decide_not]), ?_⟩
          have stop : stepM (false, z) (getS sj n) = none → ∀ H5, Same H4 H5 → Q .non H5 := fun e H5 s5 => kN (perf_stop (j := j + 1) (by rw [tk, e]; rfl)) H5 ((s3.trans s4).trans s5)
          cases eg : getS sj n with
          | nil =>
            rw [eg] at stop
            rw [decide_eq_false (fun e => e rfl)]
            exact iteF (iteF (stop rfl H4 (Same.refl _)))
          | cons y rest =>
            rw [eg] at hq g1 g2 tk stop
            rw [decide_eq_true (List.cons_ne_nil _ _)]
            refine iteT ⟨_, rfl, q, _, 0, _, rfl, rfl, Same.tup s4 hq, atI_nat (j := 0) rfl, _, rfl, rfl, ?_⟩
            by_cases e : y = z
            · subst e
              refine ⟨true, congrArg V.bl (decide_eq_true rfl), iteT ?_⟩
              refine ⟨_, rfl, _, rfl, q, _, rfl, Same.tup s4 hq, fun r H5 s5 hr5 => ?_⟩
              have ec : cutV ((y :: rest).map V.str) (some 1) none = rest.map V.str := cutF_from V.str (y :: rest) 1
              rw [ec] at hr5
              obtain ⟨H6, p6, kv3, s6, f1, f2, f3, f4, f5⟩ := put (s4.trans s5) hr5 (fun x mx => g1 x (List.mem_cons_of_mem _ mx)) (by rw [List.length_cons] at g2; omega) (by
                rw [tk]
                show (stepM (false, y) (y :: rest)).map _ = _
                have e2 : stepM (false, y) (y :: rest) = some rest := if_pos rfl
                rw [e2]
                rfl)
              exact ⟨_, rfl, _, rfl, D, H6, rfl, p6, kv3, s6, _, _, _, _, rfl, f1, f2, f3, f4, f5⟩
            · refine ⟨false, congrArg V.bl (decide_eq_false (fun q => e (V.str.inj q))), iteF ?_⟩
              exact stop (if_neg e) H4 (Same.refl _)
      · rintro σ H2 ⟨kv2, sj, y3, y4, y5, y6, rfl, hD2, sk2, ok2, hp2, s2⟩
        exact ⟨_, rfl, fin (σ := []) hD2 sk2 ok2 hp2 s2⟩
    · refine .inr ⟨_, rfl, a, rfl, ⟨_, Same.tup sD hq0⟩, for_tup (K := K) (a := a) (xs := ys) (fun j σ H2 => ∃ (kv2 : List (Key × V)) (sj : Sk) (y3 y4 y5 y6 : Option V), σ = [some (.ref a), some (.ref d), some (.ref D), y3, y4, y5, y6] ∧ H2 D = some (.dK kv2) ∧ SkH K H2 kv2 sj ∧ SkOk sj (m + j) (b + j) ∧ perfS none (ns.take j) ss = some sj ∧ Same H H2) ⟨ks, ss, _, _, _, _, rfl, hDD, sk0, ok, rfl, sD⟩ (fun j σ H2 _ q => by obtain ⟨_, _, _, _, _, _, _, _, _, _, _, s3⟩ := q; exact Same.tup s3 hq0) ?_ ?_⟩
      · rintro j x σ H2 hj ⟨kv2, sj, y3, y4, y5, y6, rfl, hD2, sk2, ok2, hp2, s2⟩
        obtain ⟨st, hst, t, rfl, hT⟩ := paired_at hV hj
        have j1 : j < ys.length := (List.getElem?_eq_some_iff.mp hj).1
        obtain ⟨c, n, z⟩ := st
        have nok := hI (c, n, z) (List.mem_of_getElem? hst)
        have tk := perf_take hst hp2
        obtain ⟨g1, g2⟩ := ok2.get n
        refine ⟨t, _, rfl, Same.tup s2 hT, rfl, _, _, rfl, _, _, rfl, _, _, rfl, rfl, ?_⟩
        refine ⟨_, rfl, D, rfl, .inl ⟨_, .inl hD2⟩, _, rfl, by show 0 ≤ sizeLine; decide, fun U hU => ?_⟩
        have sU : Same H2 (upd H2 U (.tup [])) := Same.new hU
        have hUU : upd H2 U (.tup []) U = some (.tup []) := upd_same
        generalize upd H2 U (.tup []) = H3 at sU hUU ⊢
        have hD3 := sU _ _ hD2
        have sk3 := skH_same sk2 sU
        refine ⟨_, DGet.k (k := Sum.inr n) hD3, ?_⟩
        obtain ⟨q, eq, hq⟩ : ∃ q, (valV kv2 (Sum.inr n)).getD (V.ref U) = V.ref q ∧ SqT K H3 q ((getS sj n).map V.str) := by
          unfold getS
          rcases skH_val (n := n) sk3 with ⟨z1, z2⟩ | ⟨p, t2, z1, z2, z3⟩
          · rw [z1, z2]
            exact ⟨U, rfl, .of hUU⟩
          · rw [z1, z2]
            exact ⟨t2, rfl, z3⟩
        rw [eq]
        have s3 := s2.trans sU
        have put : ∀ {r : Addr} {zs : List Str} {H5 : Hp}, Same H3 H5 → SqT K H5 r (zs.map V.str) → (∀ y ∈ zs, Item y) → zs.length ≤ b + (j + 1) → perfS none (ns.take (j + 1)) ss = some (putS sj n zs) → ∃ H6, DPut H5 D (.str n) (.ref r) H6 ∧ ∃ kv3 s3, H6 D = some (.dK kv3) ∧ SkH K H6 kv3 s3 ∧ SkOk s3 (m + (j + 1)) (b + (j + 1)) ∧ perfS none (ns.take (j + 1)) ss = some s3 ∧ Same H H6 := fun {r zs H5} s5 hr5 iz lz hp => by
          have hD5 := s5 _ _ hD3
          have sk5 := skH_same sk3 s5
          have lk := paired_len sk5
          have l2 := ok2.len
          exact ⟨_, .inl ⟨kv2, Sum.inr n, hD5, rfl, by rw [sizeLine_eq]; omega, rfl⟩, _, _, upd_same, skH_upd (.dK hD5) (skH_put sk5 hr5), putS_ok ok2 nok.n iz lz (by omega), hp, Same.free2 (s3.trans s5) nD⟩
        cases c with
        | true =>
          refine ⟨_, rfl, rfl, true, congrArg V.bl (decide_eq_true rfl), iteT ?_⟩
          refine ⟨_, rfl, by show 1 ≤ sizeLine; decide, fun t1 ht1 => ?_⟩
          have s4 : Same H3 (upd H3 t1 (.tup [.str z])) := Same.new ht1
          have h4 : upd H3 t1 (.tup [.str z]) t1 = some (.tup (([z] : List Str).map V.str)) := upd_same
          generalize upd H3 t1 (.tup [.str z]) = H4 at s4 h4 ⊢
          refine ⟨_, rfl, t1, q, _, _, rfl, rfl, .of h4, Same.tup s4 hq, by rw [List.length_map, List.length_map, sizeLine_eq, List.length_singleton]; omega, fun r H5 s5 hr5 => ?_⟩
          rw [← List.map_append] at hr5
          obtain ⟨H6, p6, kv3, s6, f1, f2, f3, f4, f5⟩ := put (s4.trans s5) hr5 (fun y my => by
            rcases List.mem_append.mp my with e | e
            · rw [List.mem_singleton.mp e]; exact nok.i
            · exact g1 y e) (by rw [List.length_append, List.length_singleton]; omega) (by rw [tk]; rfl)
          exact ⟨_, rfl, _, rfl, D, H6, rfl, p6, kv3, s6, _, _, _, _, rfl, f1, f2, f3, f4, f5⟩
        | false =>
          refine ⟨_, rfl, rfl, false, congrArg V.bl (decide_eq_false (fun e => absurd (V.str.inj e) (show ¬ (("pop" : Str) = "push") by decide))), iteF ?_⟩
          refine ⟨_, rfl, by show 0 ≤ sizeLine; decide, fun t1 ht1 => ?_⟩
          have s4 : Same H3 (upd H3 t1 (.tup [])) := Same.new ht1
          have h4 : upd H3 t1 (.tup []) t1 = some (.tup (([] : List Str).map V.str)) := upd_same
          generalize upd H3 t1 (.tup []) = H4 at s4 h4 ⊢
          have shp : ∀ {zs : List Str}, (∀ y ∈ zs, Item y) → SeqAt.shaped (.tuple (zs.map PyData.str)) = true := fun {zs} q => (nice_tuple (nice_strs q)).shaped (by decide)
          refine ⟨.tuple ((getS sj n).map .str), .tuple (([] : List Str).map .str), .tup (Same.tup s4 hq) (dp_strs _), .tup (.of h4) .nil, shp g1, shp (fun y my => by cases my), decide (getS sj n ≠ []), congrArg V.bl (by rw [eqv_tupS, decide_not]), ?_⟩
          have stop : stepM (false, z) (getS sj n) = none → ∀ H5, Same H4 H5 → Q .non H5 := fun e H5 s5 => kN (perf_stop (j := j + 1) (by rw [tk, e]; rfl)) H5 ((s3.trans s4).trans s5)
          cases eg : getS sj n with
          | nil =>
            rw [eg] at stop
            rw [decide_eq_false (fun e => e rfl)]
            exact iteF (iteF (stop rfl H4 (Same.refl _)))
          | cons y rest =>
            rw [eg] at hq g1 g2 tk stop
            rw [decide_eq_true (List.cons_ne_nil _ _)]
            refine iteT ⟨_, rfl, q, _, 0, _, rfl, rfl, Same.tup s4 hq, atI_nat (j := 0) rfl, _, rfl, rfl, ?_⟩
            by_cases e : y = z
            · subst e
              refine ⟨true, congrArg V.bl (decide_eq_true rfl), iteT ?_⟩
              refine ⟨_, rfl, _, rfl, q, _, rfl, Same.tup s4 hq, fun r H5 s5 hr5 => ?_⟩
              have ec : cutV ((y :: rest).map V.str) (some 1) none = rest.map V.str := cutF_from V.str (y :: rest) 1
              rw [ec] at hr5
              obtain ⟨H6, p6, kv3, s6, f1, f2, f3, f4, f5⟩ := put (s4.trans s5) hr5 (fun x mx => g1 x (List.mem_cons_of_mem _ mx)) (by rw [List.length_cons] at g2; omega) (by
                rw [tk]
                show (stepM (false, y) (y :: rest)).map _ = _
                have e2 : stepM (false, y) (y :: rest) = some rest := if_pos rfl
                rw [e2]
                rfl)
              exact ⟨_, rfl, _, rfl, D, H6, rfl, p6, kv3, s6, _, _, _, _, rfl, f1, f2, f3, f4, f5⟩
            · refine ⟨false, congrArg V.bl (decide_eq_false (fun q => e (V.str.inj q))), iteF ?_⟩
              exact stop (if_neg e) H4 (Same.refl _)
      · rintro σ H2 ⟨kv2, sj, y3, y4, y5, y6, rfl, hD2, sk2, ok2, hp2, s2⟩
        exact ⟨_, rfl, fin (σ := []) hD2 sk2 ok2 hp2 s2⟩
end
end SE
namespace SE
open PySem PySem.Spec PyProof.Rows L2
def nstD (s : NSt) : PyData := .tuple [.str (act s.1), .str s.2.1, .str s.2.2]
theorem nstD_nice {s : NSt} (h : NOk s) : NX 1 27 (nstD s) := by
  refine ((nice_tuple (k := 0) (B := 8) (ds := [.str (act s.1), .str s.2.1, .str s.2.2]) ?_).mono (Nat.le_refl 1) (show 3 * 9 ≤ 27 by decide)).nx
  intro d hd
  rcases List.mem_cons.mp hd with q | q
  · rw [q]
    exact act_nice _
  · rcases List.mem_cons.mp q with q | q
    · rw [q]
      exact h.n.nice
    · rw [List.mem_singleton.mp q]
      exact h.i.nice
theorem dpx_nsv {K : PySem.W.Frag} {H : Hp} : ∀ {xs : List V} {ss : List NSt}, NSV K H xs ss → DpXs K H xs (ss.map nstD)
  | _, _, .nil => .nil
  | _, _, .cons a r => by
    obtain ⟨t, rfl, q⟩ := a
    exact .cons (.tup q (.cons (.str _) (.cons (.str _) (.cons (.str _) .nil)))) (dpx_nsv r)
theorem dpx_strs {K : PySem.W.Frag} {H : Hp} : ∀ zs : List Str, DpXs K H (zs.map V.str) (zs.map PyData.str)
  | [] => .nil
  | z :: zs => .cons (.str z) (dpx_strs zs)
/-! ### stacks as data -/
def skD (ss : Sk) : List (PyData × PyData) := ss.map fun p => (PyData.str p.1, PyData.tuple (p.2.map .str))
theorem sk_sq {K : PySem.W.Frag} {H : Hp} {d : Addr} {ks : List (Key × V)} {ss : Sk} (hd : H d = some (.dK ks)) (h : SkH K H ks ss) : SqD K H d (skD ss) := by
  refine ⟨ks, hd, ?_⟩
  clear hd
  induction h with
  | nil => exact .nil
  | cons a r ih =>
    obtain ⟨e, t, e2, hT⟩ := a
    refine .cons ⟨by rw [e]; rfl, ?_⟩ ih
    rw [e2]
    exact .tup hT (dpx_strs _)
theorem nx_strs {zs : List Str} {b : Nat} (h : ∀ z ∈ zs, Item z) (l : zs.length ≤ b) : NX 1 (b * 9) (.tuple (zs.map .str)) := (nx_tuple (k := 0) (B := 8) (ds := zs.map .str) fun e me => by
    obtain ⟨z, mz, rfl⟩ := List.mem_map.mp me
    exact (h z mz).nice.nx).mono (by decide) (by rw [List.length_map]; exact Nat.mul_le_mul_right 9 l)
theorem sk_data {b : Nat} : ∀ {ss : Sk}, (∀ p ∈ ss, Item p.1 ∧ (∀ z ∈ p.2, Item z) ∧ p.2.length ≤ b) → PyData.showableKv (skD ss) = true ∧ PyData.depthKv (skD ss) ≤ 1 ∧ PyData.leavesShortKv 13 (skD ss) = true ∧ PyData.weightKv (skD ss) ≤ ss.length * (10 + b * 9)
  | [], _ => ⟨by simp only [skD, List.map_nil, PyData.showableKv], by simp only [skD, List.map_nil, PyData.depthKv]; exact Nat.zero_le _, by simp only [skD, List.map_nil, PyData.leavesShortKv], by simp only [skD, List.map_nil, PyData.weightKv]; exact Nat.zero_le _⟩
  | p :: r, h => by
    obtain ⟨h1, h2, h3, h4⟩ := sk_data (ss := r) fun q m => h q (List.mem_cons_of_mem _ m)
    obtain ⟨g1, g2, g3⟩ := h p List.mem_cons_self
    have q1 := g1.nice.nx
    have q2 := nx_strs g2 g3
    have e : skD (p :: r) = (PyData.str p.1, PyData.tuple (p.2.map .str)) :: skD r := rfl
    rw [e]
    refine ⟨?_, ?_, ?_, ?_⟩
    · simp only [PyData.showableKv, q1.sh, q2.sh, h1, Bool.and_self]
    · simp only [PyData.depthKv]
      have := q1.dep
      have := q2.dep
      omega
    · simp only [PyData.leavesShortKv, leavesShort_of_layE _ q1.lay q1.ish, leavesShort_of_layE _ q2.lay q2.ish, h3, Bool.and_self]
    · simp only [PyData.weightKv, List.length_cons]
      have := q1.wt
      have := q2.wt
      rw [Nat.add_mul]
      omega
/-- what the law's repr shows -/
def keptD (d : PyData) (ss : Sk) : PyData := .list [d, .dict (skD ss)]
theorem kept_ok {d : PyData} {ss : Sk} {m b : Nat} (h : NX 3 20000 d) (ok : SkOk ss m b) (hm : m ≤ 30) (hb : b ≤ 100) : ShD (keptD d ss) := by
  obtain ⟨h1, h2, h3, h4⟩ := sk_data (b := b) fun p mp => ok.ok p mp
  have l := ok.len
  have w1 := h.wt
  have w4 : ss.length * (10 + b * 9) ≤ 30 * 910 := Nat.mul_le_mul (by omega) (by omega)
  refine ⟨?_, ?_, PyData.shown_fits (B := 13) (by decide) (by decide) ?_ ?_⟩
  · simp only [keptD, PyData.showable, PyData.showableAll, h.sh, h1, Bool.and_self]
  · simp only [keptD, PyData.depth, PyData.depthAll]
    have := h.dep
    omega
  · simp only [keptD, PyData.leavesShort, PyData.leavesShortAll, leavesShort_of_layE _ h.lay h.ish, h3, Bool.and_self]
  · simp only [keptD, PyData.weight, PyData.weightAll]
    omega
/-! ### the names after steps -/
theorem neSelf {v : V} : (!decide (v = v)) = false := by rw [decide_eq_true rfl]; rfl
theorem run_len {ns : List NSt} {ss rs : Sk} (h : RunAll ns ss rs) : rs.length ≤ ss.length + ns.length := by
  have q := nodup_le (zs := ss.map (·.1) ++ ns.map (·.2.1)) h.nd fun n mn => by
    rcases (h.keys n).mp mn with z | z
    · exact List.mem_append_left _ z
    · refine List.mem_append_right _ ?_
      cases e : ns.filter fun s => decide (s.2.1 = n) with
      | nil =>
        unfold ofN at z
        rw [e] at z
        exact absurd rfl z
      | cons s r =>
        have ms : s ∈ ns.filter fun s => decide (s.2.1 = n) := by rw [e]; exact List.mem_cons_self
        obtain ⟨m1, m2⟩ := List.mem_filter.mp ms
        exact List.mem_map.mpr ⟨s, m1, of_decide_eq_true m2⟩
  rw [List.length_append, List.length_map, List.length_map, List.length_map] at q
  exact q
theorem putS_mem {ss : Sk} {n n' : Str} {st : List Str} : n' ∈ (putS ss n st).map (·.1) ↔ n' ∈ ss.map (·.1) ∨ n' = n := by
  rw [putS_fst]
  split
  · rename_i c
    constructor
    · exact .inl
    · rintro (z | z)
      · exact z
      · obtain ⟨p, mp, ep⟩ := List.any_eq_true.mp c
        rw [z, ← of_decide_eq_true ep]
        exact List.mem_map.mpr ⟨p, mp, rfl⟩
  · rw [List.mem_append, List.mem_singleton]
theorem perf_keys : ∀ {ns : List NSt} {ss rs : Sk}, perfS none ns ss = some rs → ∀ n, n ∈ rs.map (·.1) ↔ n ∈ ss.map (·.1) ∨ ofN ns n ≠ []
  | [], ss, rs, h, n => by
    cases h
    constructor
    · exact .inl
    · rintro (z | z)
      · exact z
      · exact absurd rfl z
  | s :: r, ss, rs, h, n => by
    unfold perfS at h
    rw [stepL_none] at h
    cases e : stepM (s.1, s.2.2) (getS ss s.2.1) with
    | none => rw [e] at h; cases h
    | some st =>
      rw [e] at h
      rw [perf_keys h n, putS_mem, ofN_cons]
      by_cases c : s.2.1 = n
      · rw [if_pos c]
        constructor
        · exact fun _ => .inr (List.cons_ne_nil _ _)
        · exact fun _ => .inl (.inr c.symm)
      · rw [if_neg c]
        constructor
        · rintro ((z | z) | z)
          · exact .inl z
          · exact absurd z.symm c
          · exact .inr z
        · rintro (z | z)
          · exact .inl (.inl z)
          · exact .inr z
/-- the value of e, if it is no None from now on locked -/
def tFrzN (te : TE) : TE := fun σ H Q => te σ H fun x H1 => (x = .non ∧ Q .non H1) ∨ ∃ d u, x = .ref d ∧ H1 d = some u ∧ Mut (some u) ∧ ∀ od, Q x (upd H1 d (.frz od u))
theorem pe_frzN {X : Cx} {e : Expr} {te : TE} (h : PE X e te) : PE X e (tFrzN te) := by
  refine ⟨fun pins s σ H Q I hw => thn (h.run pins s σ H _ I hw) fun v s1 ⟨x, H1, I1, r, q⟩ => ?_⟩
  rcases q with ⟨rfl, q⟩ | ⟨d, u, ex, hd, mu, q⟩
  · exact ⟨_, _, I1, r, q⟩
  · obtain ⟨od, I2⟩ := I1.lock hd mu
    exact ⟨x, _, I2, r, q od⟩
/-- a test while a thing is locked; a test that is read in one of two ways -/
def tLockT (t : TT) : TT := fun σ H Q => ∃ d u, H d = some u ∧ Mut (some u) ∧ ∀ od, t σ (upd H d (.frz od u)) fun c H1 => H1 d = some (.frz od u) ∧ Q c (upd H1 d u)
theorem pt_lock {X : Cx} {e : Expr} {t : TT} (h : PT X e t) : PT X e (tLockT t) := by
  refine ⟨fun pins s σ H Q I hw => ?_⟩
  obtain ⟨d, u, hd, mu, hw⟩ := hw
  obtain ⟨od, I1⟩ := I.lock hd mu
  refine thn (h.run pins s σ _ _ I1 (hw od)) fun v s1 ⟨H1, I2, e2, q⟩ => ?_
  exact ⟨_, I2.unlock e2 (I.nofrz hd mu), q⟩
theorem pt_either {X : Cx} {e : Expr} {t1 t2 : TT} (h1 : PT X e t1) (h2 : PT X e t2) : PT X e (fun σ H Q => t1 σ H Q ∨ t2 σ H Q) := ⟨fun pins s σ H Q I h => h.elim (h1.run pins s σ H Q I) (h2.run pins s σ H Q I)⟩
section
variable {P : Program} {w : World} {K : PySem.W.Frag} {mg : Str → Option Value} {base : Heap}
/-- the due stacks, locked -/
def DueL (K : PySem.W.Frag) (H : Hp) (v : V) (ns : List NSt) (ss : Sk) : Prop := (v = .non ∧ perfS none ns ss = none) ∨ ∃ d od ks rs, v = .ref d ∧ H d = some (.frz od (.dK ks)) ∧ SkH K H ks rs ∧ (rs.map (·.1)).Nodup ∧ perfS none ns ss = some rs
theorem DueL.same {H H' : Hp} {v : V} {ns : List NSt} {ss : Sk} (h : DueL K H v ns ss) (s : Same H H') : DueL K H' v ns ss := by
  rcases h with h | ⟨d, od, ks, rs, h1, h2, h3, h4⟩
  · exact .inl h
  · exact .inr ⟨d, od, ks, rs, h1, s _ _ h2, skH_same h3 s, h4⟩
/-! ### _law_right -/
def spRi (K : PySem.W.Frag) : Sp := fun vs H Q _ => ∃ (a d : Addr) (ys : List V) (ns : List NSt) (ks : List (Key × V)) (ss : Sk) (m b : Nat), vs = [.ref a, .ref d] ∧ (SqL K H a ys ∨ SqT K H a ys) ∧ NSV K H ys ns ∧ (∀ s ∈ ns, NOk s) ∧ ns.length ≤ 100 ∧ H d = some (.dK ks) ∧ SkH K H ks ss ∧ SkOk ss m b ∧ m ≤ 30 ∧ b ≤ 100 ∧ ∀ H', Same H H' → Q (.bl true) H'
abbrev nRi : List Str := ["_law_steps_here", "_law_heaps", "_law_due_here", "_law_kept", "_law_turn", "_law_found"]
theorem scRi : FnScope nRi ["_law_steps_here", "_law_heaps"] (defScope sRight) := ⟨rfl, rfl, rfl, by decide +kernel, rfl, by decide +kernel, by decide +kernel⟩
theorem ghas_ri (D : Def K mg "_law_right" sRight) (GD : Has P w K mg base "_law_due" 1 ["_law_steps_here", "_law_heaps"] [] (spDue K)) (GR : Has P w K mg base "run_all" 6 ["steps", "stacks"] [] (spRa K)) (mp : mg "repr" = none) (mr : mg "range" = none) : GHas P w K mg base "_law_right" 7 ["_law_steps_here", "_law_heaps"] (spRi K) := by
  refine ghas_of D scRi (fun _ _ _ _ _ _ us hl => match us, hl with | [_, _], _ => rfl) (fun xs H Q E h => ?_) (fun f cv A out s H xs Q E hgu hr h => ?_)
  · obtain ⟨a, d, ys, ns, ks, ss, m, b, rfl, _⟩ := h
    rfl
  · obtain ⟨a, d, ys, ns, ks, ss, m, b, rfl, hS, hV, hI, hl, hd, hK, ok, hm, hb, k⟩ := h
    have hu := room_u hr
    have hr1 : Room 1 _ := hr.mono (by decide)
    have hr2 : Room 2 _ := hr.mono (by decide)
    refine ⟨_, pss_cons (ps_par (i := 2) (j := 3) (by rfl) scRi.nd rfl rfl (by decide) rfl rfl (pa_cons (pe_frzN (pe_has GD hr1 (pa_cons (pv 0) (pa_cons (pv 1) pa_nil)))) (pa_cons (pe_callB (call_repr2 hgu hr.units) (by rfl) mp (by decide +kernel) (pa_cons (pe_lst (pa_cons (pv 0) (pa_cons (pv 1) pa_nil))) pa_nil)) pa_nil)) (by rfl))
      (pss_cons (ps_for PassesOwn.never rfl (pi_range1 (by rfl) mr (pa_cons pe_int pa_nil)) (pg_name (i := 4) scRi.nd rfl (.inl rfl))
        (pss_cons (ps_set (i := 5) scRi.nd rfl (.inl rfl) (pe_has GR hr (pa_cons (pv 0) (pa_cons (pv 1) pa_nil))))
        (pss_cons (ps_if (PW.pt (pw_or (pt_either (pt_cmpR (op_neD hr.units) (pv 5) (pv 2) (nomark _)) (pt_lock (pt_cmpR (op_neDict (mon_tup (K := K) mon_flat) (eqG_tup mon_flat eqG_flat) hr2) (pv 5) (pv 2) (nomark _)))) (pw_or1 (pt_cmpR op_ne (pe_callB (call_repr2 hgu hr.units) (by rfl) mp (by decide +kernel) (pa_cons (pe_lst (pa_cons (pv 0) (pa_cons (pv 1) pa_nil))) pa_nil)) (pv 3) (nomark _))))) (pss_one (ps_ret pe_bl)) pss_nil)
        (pss_one (ps_if (pt_cmpR op_notN (pv 5) pe_non (nomark _)) (pss_one (ps_dput hu (pv 5) pe_str pe_non rfl)) pss_nil)))))
      (pss_one (ps_ret pe_bl))), ?_⟩
    have lus : ys.length = ns.length := Paired.length hV
    have nst : ∀ e ∈ ns.map nstD, NX 1 27 e := fun e me => by
      obtain ⟨s', ms, rfl⟩ := List.mem_map.mp me
      exact nstD_nice (hI s' ms)
    obtain ⟨sd, hsd, nsd⟩ : ∃ sd, (∀ H', Same H H' → DpX K H' (.ref a) sd) ∧ NX 3 20000 sd := by
      rcases hS with h | h
      · exact ⟨.list (ns.map nstD), fun H' s => .lst (Same.seq s h) (dpx_nsv (nsv_same hV s)), (nx_list nst).mono (by decide) (by rw [List.length_map]; omega)⟩
      · exact ⟨.tuple (ns.map nstD), fun H' s => .tup (Same.tup s h) (dpx_nsv (nsv_same hV s)), (nx_tuple nst).mono (by decide) (by rw [List.length_map]; omega)⟩
    have kept := kept_ok nsd ok hm hb
    refine ⟨_, rfl, _, rfl, a, d, ys, ns, ks, ss, m, b, rfl, hS, by omega, hV, hI, hd, hK, ok, by omega, by omega, fun pe H1 s1 => .inl ⟨rfl, ?_⟩, fun rs pe r kv2 H1 s1 nr hr kk okr => .inr ⟨r, .dK kv2, rfl, hr, mut_dK, fun od0 => ?_⟩⟩
    · have due : DueL K H1 .non ns ss := .inl ⟨rfl, pe⟩
      refine ⟨_, rfl, _, rfl, by show 2 ≤ sizeLine; decide, fun l1 hl1 => ?_⟩
      have s2 := Same.new (o := .lst [V.ref a, .ref d]) hl1
      have s12 := s1.trans s2
      refine ⟨l1, .ref a, .ref d, sd, .dict (skD ss), rfl, upd_same, .pl (hsd _ s12), .dic (sk_sq (s12 _ _ hd) (skH_same hK s12)), kept.1, kept.2.1, kept.2.2, ?_⟩
      have due2 := due.same s2
      generalize upd H1 l1 (.lst [V.ref a, .ref d]) = H2 at s12 due2 ⊢
      refine ⟨_, _, rfl, ?_⟩
      refine ⟨2, rfl, by decide, by decide, for_range (lo := 0) (n := 2) (fun j σ Hx => ∃ (y4 y5 : Option V), σ = [some (.ref a), some (.ref d), some V.non, some (.str (keptD sd ss).shown), y4, y5] ∧ Same H Hx ∧ DueL K Hx V.non ns ss) ⟨_, _, rfl, s12, due2⟩ ?_ ?_⟩
      · rintro j σ Hx hj ⟨y4, y5, rfl, sx, dx⟩
        refine ⟨_, rfl, _, rfl, a, d, ys, ns, ks, ss, rfl, hS.imp (Same.seq sx) (Same.tup sx), by omega, nsv_same hV sx, hI, sx _ _ hd, skH_same hK sx, ok.mono (by omega) (by omega), fun ⟨n, en⟩ H3 s3 => ?_, fun en r3 kv3 rs3 H3 s3 n3 h3 k3 ra => ?_⟩
        · have dz := dx.same s3
          have sz := sx.trans s3
          have pn : perfS none ns ss = none := by
            cases e : perfS none ns ss with
            | none => rfl
            | some rs => rw [perf_get _ _ _ e n] at en; cases en
          have ev : Dp K H3 V.non .none := by
            rcases dz with ⟨e, _⟩ | ⟨d4, od4, ks4, rs4, e, _, _, _, e5⟩
            · rw [e]; exact .non
            · rw [pn] at e5; cases e5
          refine .inl ⟨_, rfl, _, rfl, .none, .none, .non, ev, rfl, rfl, false, rfl, iteF ?_⟩
          refine ⟨_, rfl, _, rfl, by show 2 ≤ sizeLine; decide, fun l6 hl6 => ?_⟩
          have s7 := Same.new (o := .lst [V.ref a, .ref d]) hl6
          have sz7 := sz.trans s7
          refine ⟨l6, .ref a, .ref d, sd, .dict (skD ss), rfl, upd_same, .pl (hsd _ sz7), .dic (sk_sq (sz7 _ _ hd) (skH_same hK sz7)), kept.1, kept.2.1, kept.2.2, _, rfl, rfl, false, congrArg V.bl neSelf, iteF ?_⟩
          exact ⟨_, rfl, rfl, false, rfl, iteF ⟨_, _, rfl, sz7, dz.same s7⟩⟩
        · have dz := dx.same s3
          rcases dz with ⟨_, e⟩ | ⟨d4, od4, ks4, rs4, ev, h4, k4, nd4, e4⟩
          · obtain ⟨n, q⟩ := perf_fail _ _ e
            exact absurd q (en n)
          have ne : d4 ≠ r3 := fun e => by rw [e, h3] at h4; cases h4
          refine .inr ⟨r3, .dK kv3, h3, mut_dK, fun od => ?_⟩
          have hF : upd H3 r3 (.frz od (.dK kv3)) r3 = some (.frz od (.dK kv3)) := upd_same
          have kF := skH_upd (o := .frz od (.dK kv3)) (.dK h3) k3
          have k4F := skH_upd (o := .frz od (.dK kv3)) (.dK h3) k4
          have h4F : upd H3 r3 (.frz od (.dK kv3)) d4 = some (.frz od4 (.dK ks4)) := by rw [upd_ne ne]; exact h4
          generalize eF : upd H3 r3 (.frz od (.dK kv3)) = HF at hF kF k4F h4F
          have g34 : ∀ n, getS rs3 n = getS rs4 n := fun n => by
            have q := ra.at_ n
            rw [perf_get _ _ _ e4 n] at q
            exact (Option.some.inj q).symm
          obtain ⟨q1, q2⟩ := dd_of kF k4F ra.nd nd4 (fun n => by rw [ra.keys, perf_keys e4]) (fun n _ => g34 n)
          refine ⟨_, rfl, _, rfl, ⟨r3, d4, od, od4, kv3, ks4, rfl, ev, hF, h4F, q1, q2⟩, fun H5 s5 => ⟨false, rfl, s5 _ _ hF, iteF ?_⟩⟩
          have s36 : Same H3 (upd H5 r3 (.dK kv3)) := Same.back h3 eF.symm s5
          have h6 : upd H5 r3 (.dK kv3) r3 = some (.dK kv3) := upd_same
          generalize upd H5 r3 (.dK kv3) = H6 at s36 h6 ⊢
          have s6 := s3.trans s36
          have sz := sx.trans s6
          refine ⟨_, rfl, _, rfl, by show 2 ≤ sizeLine; decide, fun l6 hl6 => ?_⟩
          have s7 := Same.new (o := .lst [V.ref a, .ref d]) hl6
          have sz7 := sz.trans s7
          refine ⟨l6, .ref a, .ref d, sd, .dict (skD ss), rfl, upd_same, .pl (hsd _ sz7), .dic (sk_sq (sz7 _ _ hd) (skH_same hK sz7)), kept.1, kept.2.1, kept.2.2, _, rfl, rfl, false, congrArg V.bl neSelf, iteF ?_⟩
          refine ⟨_, rfl, rfl, true, rfl, iteT ⟨_, rfl, r3, _, rfl, .inl ⟨kv3, Sum.inr "zz", s7 _ _ h6, rfl, ?_, rfl⟩, _, _, rfl, Same.free2 sz7 (sx.free n3), dx.same (Same.free2 (s6.trans s7) n3)⟩⟩
          have l1 := paired_len k3
          have l2 := run_len ra
          have l3 := ok.len
          rw [sizeLine_eq]
          omega
      · rintro σ Hx ⟨y4, y5, rfl, sx, dx⟩
        exact k _ sx
    · have hF0 : upd H1 r (.frz od0 (.dK kv2)) r = some (.frz od0 (.dK kv2)) := upd_same
      have kF0 := skH_upd (o := .frz od0 (.dK kv2)) (.dK hr) kk
      have s1F : Same H (upd H1 r (.frz od0 (.dK kv2))) := Same.free2 s1 nr
      generalize upd H1 r (.frz od0 (.dK kv2)) = HA at hF0 kF0 s1F ⊢
      have due : DueL K HA (.ref r) ns ss := .inr ⟨r, od0, kv2, rs, rfl, hF0, kF0, okr.nd, pe⟩
      clear s1 hr kk
      refine ⟨_, rfl, _, rfl, by show 2 ≤ sizeLine; decide, fun l1 hl1 => ?_⟩
      have s2 := Same.new (o := .lst [V.ref a, .ref d]) hl1
      have s12 := s1F.trans s2
      refine ⟨l1, .ref a, .ref d, sd, .dict (skD ss), rfl, upd_same, .pl (hsd _ s12), .dic (sk_sq (s12 _ _ hd) (skH_same hK s12)), kept.1, kept.2.1, kept.2.2, ?_⟩
      have due2 := due.same s2
      generalize upd HA l1 (.lst [V.ref a, .ref d]) = H2 at s12 due2 ⊢
      refine ⟨_, _, rfl, ?_⟩
      refine ⟨2, rfl, by decide, by decide, for_range (lo := 0) (n := 2) (fun j σ Hx => ∃ (y4 y5 : Option V), σ = [some (.ref a), some (.ref d), some (V.ref r), some (.str (keptD sd ss).shown), y4, y5] ∧ Same H Hx ∧ DueL K Hx (V.ref r) ns ss) ⟨_, _, rfl, s12, due2⟩ ?_ ?_⟩
      · rintro j σ Hx hj ⟨y4, y5, rfl, sx, dx⟩
        refine ⟨_, rfl, _, rfl, a, d, ys, ns, ks, ss, rfl, hS.imp (Same.seq sx) (Same.tup sx), by omega, nsv_same hV sx, hI, sx _ _ hd, skH_same hK sx, ok.mono (by omega) (by omega), fun ⟨n, en⟩ H3 s3 => ?_, fun en r3 kv3 rs3 H3 s3 n3 h3 k3 ra => ?_⟩
        · have dz := dx.same s3
          have sz := sx.trans s3
          have pn : perfS none ns ss = none := by
            cases e : perfS none ns ss with
            | none => rfl
            | some rs => rw [perf_get _ _ _ e n] at en; cases en
          have ev : Dp K H3 (V.ref r) .none := by
            rcases dz with ⟨e, _⟩ | ⟨d4, od4, ks4, rs4, e, _, _, _, e5⟩
            · rw [e]; exact .non
            · rw [pn] at e5; cases e5
          refine .inl ⟨_, rfl, _, rfl, .none, .none, .non, ev, rfl, rfl, false, rfl, iteF ?_⟩
          refine ⟨_, rfl, _, rfl, by show 2 ≤ sizeLine; decide, fun l6 hl6 => ?_⟩
          have s7 := Same.new (o := .lst [V.ref a, .ref d]) hl6
          have sz7 := sz.trans s7
          refine ⟨l6, .ref a, .ref d, sd, .dict (skD ss), rfl, upd_same, .pl (hsd _ sz7), .dic (sk_sq (sz7 _ _ hd) (skH_same hK sz7)), kept.1, kept.2.1, kept.2.2, _, rfl, rfl, false, congrArg V.bl neSelf, iteF ?_⟩
          exact ⟨_, rfl, rfl, false, rfl, iteF ⟨_, _, rfl, sz7, dz.same s7⟩⟩
        · have dz := dx.same s3
          rcases dz with ⟨_, e⟩ | ⟨d4, od4, ks4, rs4, ev, h4, k4, nd4, e4⟩
          · obtain ⟨n, q⟩ := perf_fail _ _ e
            exact absurd q (en n)
          have ne : d4 ≠ r3 := fun e => by rw [e, h3] at h4; cases h4
          refine .inr ⟨r3, .dK kv3, h3, mut_dK, fun od => ?_⟩
          have hF : upd H3 r3 (.frz od (.dK kv3)) r3 = some (.frz od (.dK kv3)) := upd_same
          have kF := skH_upd (o := .frz od (.dK kv3)) (.dK h3) k3
          have k4F := skH_upd (o := .frz od (.dK kv3)) (.dK h3) k4
          have h4F : upd H3 r3 (.frz od (.dK kv3)) d4 = some (.frz od4 (.dK ks4)) := by rw [upd_ne ne]; exact h4
          generalize eF : upd H3 r3 (.frz od (.dK kv3)) = HF at hF kF k4F h4F
          have g34 : ∀ n, getS rs3 n = getS rs4 n := fun n => by
            have q := ra.at_ n
            rw [perf_get _ _ _ e4 n] at q
            exact (Option.some.inj q).symm
          obtain ⟨q1, q2⟩ := dd_of kF k4F ra.nd nd4 (fun n => by rw [ra.keys, perf_keys e4]) (fun n _ => g34 n)
          refine ⟨_, rfl, _, rfl, ⟨r3, d4, od, od4, kv3, ks4, rfl, ev, hF, h4F, q1, q2⟩, fun H5 s5 => ⟨false, rfl, s5 _ _ hF, iteF ?_⟩⟩
          have s36 : Same H3 (upd H5 r3 (.dK kv3)) := Same.back h3 eF.symm s5
          have h6 : upd H5 r3 (.dK kv3) r3 = some (.dK kv3) := upd_same
          generalize upd H5 r3 (.dK kv3) = H6 at s36 h6 ⊢
          have s6 := s3.trans s36
          have sz := sx.trans s6
          refine ⟨_, rfl, _, rfl, by show 2 ≤ sizeLine; decide, fun l6 hl6 => ?_⟩
          have s7 := Same.new (o := .lst [V.ref a, .ref d]) hl6
          have sz7 := sz.trans s7
          refine ⟨l6, .ref a, .ref d, sd, .dict (skD ss), rfl, upd_same, .pl (hsd _ sz7), .dic (sk_sq (sz7 _ _ hd) (skH_same hK sz7)), kept.1, kept.2.1, kept.2.2, _, rfl, rfl, false, congrArg V.bl neSelf, iteF ?_⟩
          refine ⟨_, rfl, rfl, true, rfl, iteT ⟨_, rfl, r3, _, rfl, .inl ⟨kv3, Sum.inr "zz", s7 _ _ h6, rfl, ?_, rfl⟩, _, _, rfl, Same.free2 sz7 (sx.free n3), dx.same (Same.free2 (s6.trans s7) n3)⟩⟩
          have l1 := paired_len k3
          have l2 := run_len ra
          have l3 := ok.len
          rw [sizeLine_eq]
          omega
      · rintro σ Hx ⟨y4, y5, rfl, sx, dx⟩
        exact k _ sx
end
end SE
namespace SE
open PySem PySem.Spec PyProof.Rows L2
section
variable {P : Program} {w : World} {K : PySem.W.Frag} {mg : Str → Option Value} {base : Heap}
/-! ### _law_effect -/
def spLEff (K : PySem.W.Frag) : Sp := fun xs H Q _ => ∃ (a : Addr) (ys : List V) (ss : List Stp), xs = [.ref a] ∧ SqL K H a ys ∧ StepsV K H ys ss ∧ (∀ s ∈ ss, Item s.2) ∧ ss.length ≤ 1000 ∧ (∀ H', Same H H' → Q .non H') ∧
  (∀ (xs : List Str) (z p : V) (t u : Addr) (H' : Hp), Same H H' → H' t = some (.tup [.ref u, z, p]) → H' u = some (.tup (xs.map V.str)) → (∀ z ∈ xs, Item z) → xs.length ≤ ss.length → Q (.ref t) H')
abbrev nLe : List Str := ["_law_steps_here", "_law_pops", "_law_own", "_law_top", "_law_action", "_law_item"]
theorem scLe' : FnScope nLe ["_law_steps_here"] (defScope sLawEffect) := ⟨rfl, rfl, rfl, by decide +kernel, rfl, by decide +kernel, by decide +kernel⟩
theorem has_leff (D : Def K mg "_law_effect" sLawEffect) (mx : mg "max" = none) (ml : mg "len" = none) (mt : mg "tuple" = none) : Has P w K mg base "_law_effect" 1 ["_law_steps_here"] [] (spLEff K) := by
  refine has_of D scLe' (fun _ _ _ _ _ _ us hl => match us, hl with | [_], _ => rfl) (fun xs H Q E h => ?_) (fun f cv A out s H xs Q E hr h => ?_)
  · obtain ⟨a, ys, ss, rfl, _⟩ := h
    rfl
  · obtain ⟨a, ys, ss, rfl, hS, hV, hI, hl, kN, kS⟩ := h
    have ly : ys.length = ss.length := hV.length
    refine ⟨_, pss_cons (ps_par3 (i := 1) (j := 2) (l := 3) (by rfl) scLe'.nd rfl rfl rfl (by decide) (by decide) (by decide) rfl rfl rfl (pa_cons (pe_lst pa_nil) (pa_cons (pe_lst pa_nil) (pa_cons pe_int pa_nil))) (by rfl))
      (pss_cons (ps_for PassesOwn.never rfl (pi_list (pv 0)) (pg_tup (by rfl) (pgs_cons (pg_name (i := 4) scLe'.nd rfl (.inl rfl)) (pgs_cons (pg_name (i := 5) scLe'.nd rfl (.inl rfl)) pgs_nil)))
        (Evl.pss_cut (ps_if (pt_cmpR op_eq (pv 4) pe_str (nomark _))
          (pss_one (ps_expr (pe_bm PySem.F.plainAttrs_list PySem.F.slot_list_append PySem.F.type_list_append mt_append (pv 2) (pa_cons (pv 5) pa_nil))))
          (pss_one (ps_if (pt_cmpR (op_eqD hr.units) (pv 2) (pe_lst pa_nil) (nomark _))
            (pss_one (ps_expr (pe_bm PySem.F.plainAttrs_list PySem.F.slot_list_append PySem.F.type_list_append mt_append (pv 1) (pa_cons (pv 5) pa_nil))))
            (pss_one (ps_if (pt_cmpR op_ne (pe_bm0 PySem.F.plainAttrs_list PySem.F.slot_list_pop PySem.F.type_list_pop mt_pop (pv 2)) (pv 5) (nomark _)) (pss_one (ps_ret pe_non)) pss_nil)))))
        (pss_one (ps_set (i := 3) scLe'.nd rfl (.inl rfl) (pe_callB (call_max2 rfl) (by rfl) mx (by decide +kernel) (pa_cons (pv 3) (pa_cons (pe_op op_sub (pe_callB call_len_seq (by rfl) ml PySem.boot_len (pa_cons (pv 2) pa_nil)) (pe_callB call_len_seq (by rfl) ml PySem.boot_len (pa_cons (pv 1) pa_nil))) pa_nil)))))))
      (pss_one (ps_ret (pe_tup (pa_cons (pe_callTy call_tuple_of (by rfl) mt (by decide +kernel) (pa_cons (pv 1) pa_nil)) (pa_cons (pe_callTy call_tuple_of (by rfl) mt (by decide +kernel) (pa_cons (pe_revL (pv 2)) pa_nil)) (pa_cons (pv 3) pa_nil))))))), ?_⟩
    refine ⟨(by show 0 ≤ sizeLine; decide), fun L1 h1 => ⟨(by show 0 ≤ sizeLine; decide), fun L2 h2 => ⟨_, _, _, rfl, ?_⟩⟩⟩
    have s1 : Same H (upd H L1 (.lst [])) := Same.new h1
    have s2 : Same (upd H L1 (.lst [])) (upd (upd H L1 (.lst [])) L2 (.lst [])) := Same.new h2
    have ne : L1 ≠ L2 := ne_of_none upd_same h2
    have n2 : H L2 = none := s1.free h2
    refine ⟨_, rfl, a, rfl, ⟨_, Same.seq (s1.trans s2) hS⟩, for_list (K := K) (a := a) (xs := ys) (fun j σ H2 => ∃ (xs zs : List Str) (p : Int) (y4 y5 : Option V), σ = [some (.ref a), some (.ref L1), some (.ref L2), some (.int p), y4, y5] ∧ (∀ y ∈ xs, Item y) ∧ (∀ y ∈ zs, Item y) ∧ xs.length + zs.length ≤ j ∧ H2 L1 = some (.lst (xs.map V.str)) ∧ H2 L2 = some (.lst (zs.reverse.map V.str)) ∧ Same H H2) ⟨[], [], 0, _, _, rfl, fun y m => (by cases m), fun y m => (by cases m), Nat.le_refl _, s2 _ _ upd_same, upd_same, s1.trans s2⟩ (fun j σ H2 _ q => ?_) ?_ ?_⟩
    · obtain ⟨_, _, _, _, _, _, _, _, _, _, _, s3⟩ := q
      exact Same.seq s3 hS
    · rintro j x σ H2 hx ⟨xs, zs, p, y4, y5, rfl, ix, izz, hE, hP, hO, s3⟩
      obtain ⟨⟨b, z⟩, hst, t, rfl, hT⟩ := StepsV.at hV hx
      have iz : Item z := hI (b, z) (List.mem_of_getElem? hst)
      have jl := (List.getElem?_eq_some_iff.mp hx).1
      refine ⟨t, _, rfl, Same.tup s3 hT, rfl, _, _, rfl, _, _, rfl, rfl, ?_⟩
      refine ⟨fun σ H3 => ∃ (xs' zs' : List Str), σ = [some (.ref a), some (.ref L1), some (.ref L2), some (.int p), some (.str (act b)), some (.str z)] ∧ ((∀ y ∈ xs', Item y) ∧ (∀ y ∈ zs', Item y) ∧ xs'.length + zs'.length ≤ j + 1) ∧ H3 L1 = some (.lst (xs'.map V.str)) ∧ H3 L2 = some (.lst (zs'.reverse.map V.str)) ∧ Same H H3, ?_, ?_⟩
      · refine ⟨_, rfl, rfl, _, rfl, ?_⟩
        cases b with
        | true =>
          rw [decide_eq_true (by rfl)]
          refine iteT ⟨.ref L2, rfl, .inl ⟨rfl, _, .of hO⟩, _, rfl, L2, _, _, rfl, rfl, hO, ?_, xs, z :: zs, rfl, ⟨ix, fun y m => (by rcases List.mem_cons.mp m with e | e; (· rw [e]; exact iz); exact izz y e), by rw [List.length_cons]; omega⟩, ?_, ?_, Same.free2 s3 n2⟩
          · rw [List.length_map, List.length_reverse, sizeLine_eq]
            omega
          · rw [upd_ne ne]
            exact hP
          · rw [upd_same, List.reverse_cons, List.map_append]
            rfl
        | false =>
          have np : ¬ (act false = Str.ofString "push") := by decide +kernel
          rw [decide_eq_false (fun e => np (V.str.inj e))]
          refine iteF ⟨_, rfl, (by show 0 ≤ sizeLine; decide), fun M hM => ?_⟩
          have sM : Same H2 (upd H2 M (.lst [])) := Same.new hM
          have izs : ∀ y ∈ zs.reverse, Item y := fun y m => izz y (List.mem_reverse.mp m)
          refine ⟨.list (zs.reverse.map .str), .list (([] : List Str).map .str), .lst (.of (sM _ _ hO)) (dp_strs _), .lst (.of upd_same) .nil, (nice_list (nice_strs izs)).shaped (by decide), rfl, _, rfl, ?_⟩
          rw [eqv_listS]
          have hPM := sM _ _ hP
          have hOM := sM _ _ hO
          cases zs with
          | nil =>
            rw [show decide (([] : List Str).reverse = []) = true from rfl]
            refine iteT ⟨.ref L1, rfl, .inl ⟨rfl, _, .of hPM⟩, _, rfl, L1, _, _, rfl, rfl, hPM, ?_, xs ++ [z], [], rfl, ⟨fun y m => (by rcases List.mem_append.mp m with e | e; (· exact ix y e); rw [List.mem_singleton.mp e]; exact iz), fun y m => (by cases m), by rw [List.length_append, List.length_singleton]; simp only [List.length_nil] at hE ⊢; omega⟩, ?_, ?_, Same.free2 (s3.trans sM) h1⟩
            · rw [List.length_map, sizeLine_eq]
              omega
            · rw [upd_same, List.map_append]
              rfl
            · rw [upd_ne (Ne.symm ne)]
              exact hOM
          | cons y r =>
            rw [decide_eq_false (by simp)]
            have hr' : (y :: r).reverse.map V.str = r.reverse.map V.str ++ [V.str y] := by
              rw [List.reverse_cons, List.map_append]
              rfl
            rw [hr'] at hOM
            refine iteF ⟨.ref L2, rfl, .inl ⟨rfl, _, .of hOM⟩, L2, r.reverse.map V.str ++ [V.str y], .str y, rfl, rfl, hOM, ?_, ?_⟩
            · rw [List.length_append, List.length_singleton, Nat.add_sub_cancel, List.getElem?_append_right (Nat.le_refl _), Nat.sub_self]
              rfl
            · rw [List.dropLast_concat]
              refine ⟨_, rfl, rfl, _, rfl, ?_⟩
              rw [List.length_cons] at hE
              by_cases c : y = z
              · rw [decide_eq_true (by rw [c])]
                exact iteF ⟨xs, r, rfl, ⟨ix, fun y' m => izz y' (List.mem_cons_of_mem _ m), by omega⟩, by rw [upd_ne ne]; exact hPM, upd_same, Same.free2 (s3.trans sM) n2⟩
              · rw [decide_eq_false (fun e => c (V.str.inj e))]
                exact iteT (kN _ (Same.free2 (s3.trans sM) n2))
      · rintro σ H3 ⟨xs', zs', rfl, hc, hP3, hO3, s4⟩
        refine ⟨_, rfl, _, rfl, L2, _, rfl, .inl (.of hO3), _, rfl, L1, _, rfl, .inl (.of hP3), _, _, rfl, rfl, p, _, rfl, xs', zs', _, some (.str (act b)), some (.str z), rfl, hc.1, hc.2.1, hc.2.2, hP3, hO3, s4⟩
    · rintro σ H2 ⟨xs, zs, p, y4, y5, rfl, ix, izz, hE, hP, hO, s3⟩
      refine ⟨_, rfl, L1, _, rfl, .inl ⟨.of hP, fun u hu => ?_⟩⟩
      have su : Same H2 (upd H2 u (.tup (xs.map V.str))) := Same.new hu
      refine ⟨_, rfl, L2, _, rfl, .of (su _ _ hO), fun R hR => ?_⟩
      have sR : Same (upd H2 u (.tup (xs.map V.str))) (upd (upd H2 u (.tup (xs.map V.str))) R (.lst (zs.reverse.map V.str).reverse)) := Same.new hR
      refine ⟨R, _, rfl, .inl ⟨.of upd_same, fun v hv => ?_⟩⟩
      have sv := Same.new (o := .tup (zs.reverse.map V.str).reverse) hv
      refine ⟨_, rfl, (by show 3 ≤ sizeLine; decide), fun t ht => ?_⟩
      have st := Same.new (o := .tup [.ref u, .ref v, .int p]) ht
      exact kS xs _ _ t u _ ((((s3.trans su).trans sR).trans sv).trans st) upd_same (st _ _ (sv _ _ (sR _ _ upd_same))) ix (by omega)
end
end SE
namespace SE
open PySem PySem.Spec PyProof.Rows L2
/-! ### heaps where few things change -/
def Chg (S : List Addr) (H H' : Hp) : Prop := ∀ b u, b ∉ S → H b = some u → H' b = some u
theorem Chg.of {S : List Addr} {H H' : Hp} (s : Same H H') : Chg S H H' := fun b u _ h => s b u h
theorem Chg.trans {S : List Addr} {H H1 H2 : Hp} (a : Chg S H H1) (b : Chg S H1 H2) : Chg S H H2 := fun c u n h => b c u n (a c u n h)
theorem Chg.but {p : Addr} {H H' : Hp} (b : But p H H') : Chg [p] H H' := fun c u n h => b c u (fun e => n (by rw [e]; exact List.mem_cons_self)) h
theorem Chg.upd {g : Addr} {H : Hp} {o : HO} : Chg [g] H (upd H g o) := fun c u n h => by rw [upd_ne (fun e => n (by rw [e]; exact List.mem_cons_self))]; exact h
theorem Chg.mono {S S' : List Addr} {H H' : Hp} (a : Chg S H H') (h : ∀ b ∈ S, b ∈ S') : Chg S' H H' := fun c u n q => a c u (fun m => n (h c m)) q
theorem Chg.same {S : List Addr} {H0 H H' : Hp} (a : Chg S H H') (s : Same H0 H) (n : ∀ b ∈ S, H0 b = none) : Same H0 H' := fun b u h => a b u (fun m => by rw [n b m] at h; cases h) (s b u h)
theorem Same.but3' {H H3 H4 : Hp} {p : Addr} (s : Same H H3) (hp : H p = none) (b : But p H3 H4) : Same H H4 := fun c o e => b c o (ne_of_none e hp) (s c o e)
/-- the drawn things of a turn -/
structure B52 (H2 : Hp) (p la nl il : Addr) (us : List V) (ns : List NSt) (nms zs : List Str) (H : Hp) : Prop where
  s2 : Same H2 H
  pl : Pool H p
  hl : H la = some (.lst us)
  hn : NStH H us ns
  nn : H nl = some (.lst (nms.map V.str))
  hi : H il = some (.lst (zs.map V.str))
section
variable {H2 H H' : Hp} {p la nl il : Addr} {us : List V} {ns : List NSt} {nms zs : List Str} {S : List Addr}
theorem B52.same (h : B52 H2 p la nl il us ns nms zs H) (s : Same H H') : B52 H2 p la nl il us ns nms zs H' := ⟨h.s2.trans s, h.pl.same s, s _ _ h.hl, nsth_same h.hn s, s _ _ h.nn, s _ _ h.hi⟩
theorem B52.but (h : B52 H2 p la nl il us ns nms zs H) (b : But p H H') (pl : Pool H' p) (n : H2 p = none) (n1 : la ≠ p) (n2 : nl ≠ p) (n3 : il ≠ p) : B52 H2 p la nl il us ns nms zs H' :=
  ⟨Same.but3' h.s2 n b, pl, b _ _ n1 h.hl, Paired.mapP h.hn fun _ _ q => (by obtain ⟨t, e, z⟩ := q; exact ⟨t, e, b t _ (h.pl.ne z) z⟩), b _ _ n2 h.nn, b _ _ n3 h.hi⟩
theorem B52.upd {g : Addr} {o : HO} (h : B52 H2 p la nl il us ns nms zs H) (n : H2 g = none) (n0 : g ≠ p) (n1 : g ≠ la) (n2 : g ≠ nl) (n3 : g ≠ il) (nt : ∀ xs, H g ≠ some (.tup xs)) : B52 H2 p la nl il us ns nms zs (upd H g o) := by
  obtain ⟨m, s, e, r⟩ := h.pl.ex
  exact ⟨Same.free2 h.s2 n, ⟨m, s, by rw [upd_ne (Ne.symm n0)]; exact e, r⟩, by rw [upd_ne (Ne.symm n1)]; exact h.hl, Paired.mapP h.hn fun _ _ q => (by obtain ⟨t, e, z⟩ := q; exact ⟨t, e, by rw [upd_ne (fun q => nt _ (by rw [← q]; exact z))]; exact z⟩), by rw [upd_ne (Ne.symm n2)]; exact h.nn, by rw [upd_ne (Ne.symm n3)]; exact h.hi⟩
end
/-! ### dicts made of pairs -/
def mergeS (ss more : Sk) : Sk := more.foldl (fun acc p => putS acc p.1 p.2) ss
theorem skH_merge {K : PySem.W.Frag} {H : Hp} : ∀ {more : Sk} {ks kvs : List (Key × V)} {ss : Sk}, SkH K H kvs ss → SkH K H ks more → SkH K H (mergeK kvs ks) (mergeS ss more)
  | [], _, _, _, h, q => by cases q; exact h
  | p :: r, _, kvs, ss, h, q => by
    cases q with
    | @cons a _ l _ b t =>
      obtain ⟨e, t1, e2, hT⟩ := b
      have e3 : a = (Sum.inr p.1, .ref t1) := by
        obtain ⟨a1, a2⟩ := a
        dsimp only at e e2
        rw [e, e2]
      rw [e3]
      show SkH K H (mergeK (putK kvs (Sum.inr p.1) (.ref t1)) l) (mergeS (putS ss p.1 p.2) r)
      exact skH_merge (more := r) (skH_put h hT) t
theorem mergeS_ok {b : Nat} : ∀ {more : Sk} {ss : Sk} {m : Nat}, SkOk ss m b → (∀ p ∈ more, Item p.1 ∧ (∀ z ∈ p.2, Item z) ∧ p.2.length ≤ b) → SkOk (mergeS ss more) (m + more.length) b
  | [], ss, m, h, _ => h
  | p :: r, ss, m, h, q => by
    obtain ⟨q1, q2, q3⟩ := q p List.mem_cons_self
    have := mergeS_ok (more := r) (putS_ok h q1 q2 q3 (Nat.le_refl _)) fun x mx => q x (List.mem_cons_of_mem _ mx)
    exact this.mono (by rw [List.length_cons]; omega) (Nat.le_refl _)
theorem sk0_ok {b : Nat} : SkOk [] 0 b := ⟨.nil, fun p m => (by cases m), Nat.le_refl _⟩
/-! ### displays of data with dicts -/
mutual
def noDct : PyData → Bool
  | .list ds => noDcts ds
  | .tuple ds => noDcts ds
  | .dict _ => false
  | _ => true
def noDcts : List PyData → Bool
  | [] => true
  | d :: ds => noDct d && noDcts ds
end
section
variable {K : PySem.W.Frag} {H : Hp} {p : Addr} {kvs : List (Key × V)} {o : HO}
mutual
theorem dpx_updN (h : H p = some (.dK kvs)) : ∀ (y : PyData) (v : V), noDct y = true → DpX K H v y → DpX K (upd H p o) v y
  | .none, _, _, q => by cases q; exact .non
  | .bool b, _, _, q => by cases q; exact .bl b
  | .int i, _, _, q => by cases q; exact .int i
  | .str z, _, _, q => by cases q; exact .str z
  | .list ds, _, n, q => by
    cases q with
    | lst h1 h2 => exact .lst (seqL_upd (fun us e => by rw [h] at e; cases e) (fun p us e => by rw [h] at e; cases e) h1) (dpxs_updN h ds _ n h2)
  | .tuple ds, _, n, q => by
    cases q with
    | tup h1 h2 => exact .tup (seqT_upd (fun us e => by rw [h] at e; cases e) (fun p us e => by rw [h] at e; cases e) h1) (dpxs_updN h ds _ n h2)
  | .dict _, _, n, _ => by cases n
theorem dpxs_updN (h : H p = some (.dK kvs)) : ∀ (ds : List PyData) (vs : List V), noDcts ds = true → DpXs K H vs ds → DpXs K (upd H p o) vs ds
  | [], _, _, q => by cases q; exact .nil
  | y :: ds, _, n, q => by
    cases q with
    | cons h1 h2 =>
      simp only [noDcts, Bool.and_eq_true] at n
      exact .cons (dpx_updN h y _ n.1 h1) (dpxs_updN h ds _ n.2 h2)
end
end
theorem same_disp {H H2 : Hp} {p : Addr} {o1 o2 : HO} (hp : H p = none) (s : Same (upd H p o1) H2) : Same H (upd H2 p o2) := fun c u hc => by
  have n : c ≠ p := fun e => by rw [e, hp] at hc; cases hc
  rw [upd_ne n]
  exact s _ _ (by rw [upd_ne n]; exact hc)
def DisZ (P : Program) (w : World) (K : PySem.W.Frag) (H0 : Hp) (σ : L2.St) (t : TE) (d : PyData) : Prop := ∀ {H : Hp} {Q : VK}, Same H0 H → (∀ v H', Same H H' → RpZ P w K H' v d → Q v H') → t σ H Q
def DisZs (P : Program) (w : World) (K : PySem.W.Frag) (H0 : Hp) (σ : L2.St) (t : TA) (ds : List PyData) : Prop := ∀ {H : Hp} {Q : List V → Hp → Prop}, Same H0 H → (∀ vs H', Same H H' → Paired (RpZ P w K H') vs ds → Q vs H') → t σ H Q
section
variable {P : Program} {w : World} {K : PySem.W.Frag} {H0 : Hp} {σ : L2.St}
theorem DisZ.pl {t : TE} {d : PyData} (h : TD K H0 σ t d) : DisZ P w K H0 σ t d := fun s k => h.run s fun v H' s' hv => k v H' s' (.pl hv)
theorem DisZ.d1 {t : TE} {d : PyData} (ky : Key) (h : TD K H0 σ t d) (n : noDct d = true) : DisZ P w K H0 σ (tDisp [(tC (kV ky), t)]) (.dict [(keyD ky, d)]) := fun {H Q} s k => by
  intro p hp
  refine h.run (s.trans (Same.new hp)) fun v H2 s2 hv => ?_
  have h2 := s2 _ _ (upd_same (H := H) (a := p) (o := .dK []))
  refine ⟨h2, [(ky, v)], rfl, (by show 1 ≤ 15; decide), k _ _ (same_disp hp s2) (.dic ⟨[(ky, v)], upd_same, .cons ⟨rfl, dpx_updN h2 d v n hv⟩ .nil⟩)⟩
theorem DisZ.d2 {t1 t2 : TE} {d1 d2 : PyData} (k1 k2 : Key) (ne : k1 ≠ k2) (h1 : TD K H0 σ t1 d1) (h2 : TD K H0 σ t2 d2) (n1 : noDct d1 = true) (n2 : noDct d2 = true) : DisZ P w K H0 σ (tDisp [(tC (kV k1), t1), (tC (kV k2), t2)]) (.dict [(keyD k1, d1), (keyD k2, d2)]) := fun {H Q} s k => by
  intro p hp
  have s1 := s.trans (Same.new (o := .dK []) hp)
  refine h1.run s1 fun v1 H2 s2 hv1 => ?_
  refine h2.run (s1.trans s2) fun v2 H3 s3 hv2 => ?_
  have s13 := s2.trans s3
  have h3 := s13 _ _ (upd_same (H := H) (a := p) (o := .dK []))
  have em : mergeK [] [(k1, v1), (k2, v2)] = [(k1, v1), (k2, v2)] := by
    show putK (putK [] k1 v1) k2 v2 = _
    have e1 : putK [] k1 v1 = [(k1, v1)] := rfl
    rw [e1]
    unfold putK
    rw [if_neg (by simp [ne])]
    rfl
  refine ⟨h3, [(k1, v1), (k2, v2)], rfl, (by show 2 ≤ 15; decide), k _ _ (same_disp hp s13) (.dic ⟨[(k1, v1), (k2, v2)], by rw [em]; exact upd_same, .cons ⟨rfl, dpx_updN h3 d1 v1 n1 (DpX.same s3 _ _ hv1)⟩ (.cons ⟨rfl, dpx_updN h3 d2 v2 n2 hv2⟩ .nil)⟩)⟩
theorem DisZ.dn {t : TE} (h : TD K H0 σ t (.tuple [])) : DisZ P w K H0 σ (tNonD P w (tC .non) t) (.dict [(.none, .tuple [])]) := fun {H Q} s k => by
  intro p hp
  refine h.run (s.trans (Same.new hp)) fun v H2 s2 hv => ?_
  have h2 := s2 _ _ (upd_same (H := H) (a := p) (o := .dK []))
  cases hv with
  | @tup a xs _ hT ha =>
    cases ha
    refine ⟨h2, a, rfl, k _ _ (same_disp hp s2) (.non upd_same (seqT_upd (fun us e => by rw [h2] at e; cases e) (fun p us e => by rw [h2] at e; cases e) hT))⟩
theorem DisZs.nil : DisZs P w K H0 σ tNil [] := fun {H Q} s k => k [] H (Same.refl H) .nil
theorem DisZs.cons {t : TE} {ts : TA} {d : PyData} {ds : List PyData} (h : DisZ P w K H0 σ t d) (r : DisZs P w K H0 σ ts ds) : DisZs P w K H0 σ (tCons t ts) (d :: ds) := fun {H Q} s k =>
  h s fun v H1 s1 hv => r (s.trans s1) fun vs H2 s2 hvs => k _ H2 (s1.trans s2) (.cons (hv.same s2) hvs)
theorem DisZs.list {t : TA} {ds : List PyData} (h : DisZs P w K H0 σ t ds) (l : ds.length ≤ 1000) {H : Hp} {Q : VK} (s : Same H0 H) (k : ∀ (q : Addr) (vs : List V) (H' : Hp), Same H H' → H q = none → H' q = some (.lst vs) → Paired (RpZ P w K H') vs ds → Q (.ref q) H') : tLst t σ H Q :=
  h s fun vs H1 s1 hv => ⟨by have := Paired.length hv; rw [this, sizeLine_eq]; omega, fun q hq => k q vs _ (s1.trans (Same.new hq)) (s1.free hq) upd_same (Paired.mapP hv fun _ _ z => z.same (Same.new hq))⟩
end
/-! ### the odd stacks -/
def smB (d : PyData) : Bool := layE d && (decide (d.depth ≤ 10) && (d.showable && (d.intsShort 13 && decide (d.weight ≤ 1000))))
theorem sm_of {d : PyData} (h : smB d = true) : NX 10 1000 d := by
  unfold smB at h
  simp only [Bool.and_eq_true, decide_eq_true_eq] at h
  exact ⟨h.1, h.2.1, h.2.2.1, h.2.2.2.1, h.2.2.2.2⟩
theorem sm_ok {d : PyData} (h : smB d = true) : OkD d := (sm_of h).mono (by decide) (by decide)
def shB (d : PyData) : Bool := d.showable && (decide (d.depth ≤ 15) && decide (d.shown.length ≤ 100))
theorem sh_of {d : PyData} (h : shB d = true) : ShD d := by
  unfold shB at h
  simp only [Bool.and_eq_true, decide_eq_true_eq] at h
  exact ⟨h.1, by omega, by rw [sizeLine_eq]; omega⟩
def ftB (d : PyData) : Bool := PyData.canLay0 d && SeqAt.shaped d
theorem ft_of {d : PyData} (h : ftB d = true) : PyData.canLay0 d = true ∧ SeqAt.shaped d = true := by
  unfold ftB at h
  rwa [Bool.and_eq_true] at h
def zokB : PyData → Bool
  | .dict kvs => !kvs.isEmpty && (decide (kvs.length ≤ 10) && kvs.all fun p => smB p.1 && smB p.2)
  | _ => true
theorem zok_of {d : PyData} (h : zokB d = true) : ZOk d := by
  cases d with
  | dict kvs =>
    simp only [zokB, Bool.and_eq_true, decide_eq_true_eq, Bool.not_eq_true', List.all_eq_true] at h
    refine ⟨fun e => ?_, h.2.1, fun p mp => ⟨sm_ok (h.2.2 p mp).1, sm_ok (h.2.2 p mp).2⟩⟩
    rw [e] at h
    cases h.1
  | _ => exact True.intro
def oddsA : List PyData := [.dict [(.str "abcdefghi", .tuple [])], .dict [(.str "", .tuple [])], .dict [(.str "a", .tuple [.str "abcdefghi"])], .dict [(.str "a", .tuple [.str ""])], .dict [(.str "a", .tuple []), (.str "b", .str "b")], .dict [(.none, .tuple [])]]
def oddsC : List PyData := [.none, .list [], .str "a", .dict [(.str "A", .tuple [])], .dict [(.str "a", .list [])], .dict [(.str "a", .tuple [.str "A"])], .dict [(.int 1, .tuple [])], .dict [(.str "a", .none)], .list [.tuple [.str "a", .tuple []]]]
theorem odds_all : ((oddsA ++ oddsC).all fun d => zokB d && (!areD d && (shB d && ftB (.list [.str "stacks", .str d.shown, .bool true])))) = true := by decide +kernel
theorem eq_data {K : PySem.W.Frag} {H : Hp} {x y : V} {d : PyData} {Q : VK} (lay : PyData.canLay0 d = true) (sh : SeqAt.shaped d = true) (hx : DpX K H x d) (hy : DpX K H y d) (q : Q (.bl true) H) : rEqD K x y H Q := by
  refine ⟨d, d, dp_of d lay hx, dp_of d lay hy, sh, sh, ?_⟩
  rw [SeqAt.eqv_refl d lay]
  exact q
end SE
namespace SE
open PySem PySem.Spec PyProof.Rows L2
section
variable {K : PySem.W.Frag} {H H' : Hp} {p : Addr}
theorem Pool.noT (h : Pool H p) : NoTup H p := by
  obtain ⟨m, s, e, _⟩ := h.ex
  exact .lst e
theorem sqT_but {t : Addr} {xs : List V} (n : NoTup H p) (b : But p H H') (h : SqT K H t xs) : SqT K H' t xs := by
  rcases h with (q | ⟨o, q⟩) | q
  · exact .inl (.inl (b _ _ (fun z => by rw [z] at q; exact (n xs).1 q) q))
  · exact .inl (.inr ⟨o, b _ _ (fun z => by rw [z] at q; exact (n xs).2 o q) q⟩)
  · exact .inr q
theorem skH_but {kvs : List (Key × V)} {ss : Sk} (n : NoTup H p) (b : But p H H') (h : SkH K H kvs ss) : SkH K H' kvs ss := Paired.mapP h fun _ _ q => ⟨q.1, q.2.elim fun t z => ⟨t, z.1, sqT_but n b z.2⟩⟩
theorem LsE.but {es : List Ent} (h : LsE H es) (pl : Pool H p) (b : But p H H') : LsE H' es := fun e m => by
  obtain ⟨us, q, z⟩ := h e m
  obtain ⟨m1, s1, e1, _⟩ := pl.ex
  have ne : e.2.1 ≠ p := fun c => by
    rw [c, e1] at q
    have eu : us = [.int m1, .int s1] := by
      cases q
      rfl
    rw [eu] at z
    cases hz : e.2.2 with
    | nil => rw [hz] at z; cases z
    | cons s r =>
      rw [hz] at z
      cases z with
      | cons h1 _ =>
        obtain ⟨t, e2, _⟩ := h1
        cases e2
  exact ⟨us, b _ _ ne q, Paired.mapP z fun _ _ w => (by obtain ⟨t, e2, hz⟩ := w; exact ⟨t, e2, b _ _ (pl.ne hz) hz⟩)⟩
end
/-- with the dict of what the steps need -/
structure N52 (K : PySem.W.Frag) (H2 : Hp) (p la nl il : Addr) (us : List V) (ns : List NSt) (nms zs : List Str) (g : Addr) (kn : List (Key × V)) (sn : Sk) (H : Hp) : Prop where
  b : B52 H2 p la nl il us ns nms zs H
  hg : H g = some (.dK kn)
  hk : SkH K H kn sn
section
variable {K : PySem.W.Frag} {H2 H H' : Hp} {p la nl il g : Addr} {us : List V} {ns : List NSt} {nms zs : List Str} {kn : List (Key × V)} {sn : Sk}
theorem N52.same (h : N52 K H2 p la nl il us ns nms zs g kn sn H) (s : Same H H') : N52 K H2 p la nl il us ns nms zs g kn sn H' := ⟨h.b.same s, s _ _ h.hg, skH_same h.hk s⟩
theorem N52.ne (h : N52 K H2 p la nl il us ns nms zs g kn sn H) : g ≠ p := fun e => by
  obtain ⟨m, s, q, _⟩ := h.b.pl.ex
  rw [← e, h.hg] at q
  cases q
theorem N52.but (h : N52 K H2 p la nl il us ns nms zs g kn sn H) (b : But p H H') (pl : Pool H' p) (n : H2 p = none) (n1 : la ≠ p) (n2 : nl ≠ p) (n3 : il ≠ p) : N52 K H2 p la nl il us ns nms zs g kn sn H' :=
  ⟨h.b.but b pl n n1 n2 n3, b _ _ h.ne h.hg, skH_but h.b.pl.noT b h.hk⟩
theorem N52.put {n : Str} {t : Addr} {st : List Str} (h : N52 K H2 p la nl il us ns nms zs g kn sn H) (ng : H2 g = none) (ht : SqT K H t (st.map V.str)) : N52 K H2 p la nl il us ns nms zs g (putK kn (Sum.inr n) (.ref t)) (putS sn n st) (upd H g (.dK (putK kn (Sum.inr n) (.ref t)))) :=
  ⟨h.b.upd ng h.ne (fun e => by have := h.b.hl; rw [← e, h.hg] at this; cases this) (fun e => by have := h.b.nn; rw [← e, h.hg] at this; cases this) (fun e => by have := h.b.hi; rw [← e, h.hg] at this; cases this) (fun xs e => by rw [h.hg] at e; cases e), upd_same, skH_upd (.dK h.hg) (skH_put h.hk ht)⟩
end
/-! ### pairs for a dict -/
structure Prs (K : PySem.W.Frag) (H : Hp) (DD : Addr) (j b : Nat) : Prop where
  ex : ∃ (ps : List Addr) (kj : List (Key × V)) (sj : Sk), H DD = some (.lst (ps.map V.ref)) ∧ Paired (fun q kv => SqT K H q [kV kv.1, kv.2]) ps kj ∧ SkH K H kj sj ∧ sj.length ≤ j ∧ ∀ e ∈ sj, Item e.1 ∧ (∀ z ∈ e.2, Item z) ∧ e.2.length ≤ b
section
variable {K : PySem.W.Frag} {H H' : Hp} {DD p : Addr} {j b : Nat}
theorem Prs.nil : Prs K (upd H DD (.lst [])) DD 0 b := ⟨[], [], [], upd_same, .nil, .nil, Nat.le_refl _, fun e m => (by cases m)⟩
theorem Prs.same (h : Prs K H DD j b) (s : Same H H') : Prs K H' DD j b := by
  obtain ⟨ps, kj, sj, h1, h2, h3, h4⟩ := h.ex
  exact ⟨ps, kj, sj, s _ _ h1, Paired.mapP h2 fun _ _ q => Same.tup s q, skH_same h3 s, h4⟩
theorem Prs.mono {k : Nat} (h : Prs K H DD j b) (l : j ≤ k) : Prs K H DD k b := by
  obtain ⟨ps, kj, sj, h1, h2, h3, h4, h5⟩ := h.ex
  exact ⟨ps, kj, sj, h1, h2, h3, by omega, h5⟩
theorem Prs.but (h : Prs K H DD j b) (n : DD ≠ p) (pl : NoTup H p) (bb : But p H H') : Prs K H' DD j b := by
  obtain ⟨ps, kj, sj, h1, h2, h3, h4⟩ := h.ex
  exact ⟨ps, kj, sj, bb _ _ n h1, Paired.mapP h2 fun _ _ q => sqT_but pl bb q, skH_but pl bb h3, h4⟩
theorem Prs.upd {g : Addr} {o : HO} (h : Prs K H DD j b) (n : DD ≠ g) (pl : NoTup H g) : Prs K (upd H g o) DD j b := by
  obtain ⟨ps, kj, sj, h1, h2, h3, h4⟩ := h.ex
  exact ⟨ps, kj, sj, by rw [upd_ne n]; exact h1, Paired.mapP h2 fun _ _ q => sqT_upd pl q, skH_upd pl h3, h4⟩
theorem Prs.snoc {T t : Addr} {n : Str} {st : List Str} (h : Prs K H DD j b) (hT : SqT K H T [.str n, .ref t]) (ht : SqT K H t (st.map V.str)) (hn : Item n) (hs : ∀ z ∈ st, Item z) (hl : st.length ≤ b) (hj : j ≤ 1000) :
    ∃ acc, H DD = some (.lst acc) ∧ acc.length < sizeLine ∧ Prs K (L2.upd H DD (.lst (acc ++ [.ref T]))) DD (j + 1) b := by
  obtain ⟨ps, kj, sj, h1, h2, h3, h4, h5⟩ := h.ex
  have l1 := Paired.length h2
  have l2 := Paired.length h3
  refine ⟨_, h1, by rw [List.length_map, sizeLine_eq]; omega, ps ++ [T], kj ++ [(Sum.inr n, .ref t)], sj ++ [(n, st)], ?_, ?_, ?_, by rw [List.length_append, List.length_singleton]; omega, fun e me => ?_⟩
  · rw [upd_same, List.map_append]
    rfl
  · exact Paired.snoc2 (Paired.mapP h2 fun _ _ q => sqT_upd (.lst h1) q) (sqT_upd (.lst h1) hT)
  · exact Paired.snoc2 (skH_upd (.lst h1) h3) ⟨rfl, t, rfl, sqT_upd (.lst h1) ht⟩
  · rcases List.mem_append.mp me with z | z
    · exact h5 e z
    · rw [List.mem_singleton.mp z]
      exact ⟨hn, hs, hl⟩
/-- a dict at d with such stacks -/
def DctOk (K : PySem.W.Frag) (H : Hp) (d : Addr) : Prop := ∃ (ks : List (Key × V)) (ss : Sk), H d = some (.dK ks) ∧ SkH K H ks ss ∧ SkOk ss 30 100
theorem DctOk.same {d : Addr} (h : DctOk K H d) (s : Same H H') : DctOk K H' d := by
  obtain ⟨ks, ss, h1, h2, h3⟩ := h
  exact ⟨ks, ss, s _ _ h1, skH_same h2 s, h3⟩
theorem DctOk.but {d : Addr} (h : DctOk K H d) (n : d ≠ p) (pl : NoTup H p) (bb : But p H H') : DctOk K H' d := by
  obtain ⟨ks, ss, h1, h2, h3⟩ := h
  exact ⟨ks, ss, bb _ _ n h1, skH_but pl bb h2, h3⟩
theorem DctOk.upd {d g : Addr} {o : HO} (h : DctOk K H d) (n : d ≠ g) (pl : NoTup H g) : DctOk K (upd H g o) d := by
  obtain ⟨ks, ss, h1, h2, h3⟩ := h
  exact ⟨ks, ss, by rw [upd_ne n]; exact h1, skH_upd pl h2, h3⟩
theorem Prs.dict {Q : VK} (h : Prs K H DD j b) (hj : j ≤ 30) (hb : b ≤ 100) (q : ∀ d, H d = none → ∀ ks, DctOk K (L2.upd H d (.dK ks)) d → Q (.ref d) (L2.upd H d (.dK ks))) :
    ∃ (a : Addr) (ps : List Addr) (kvs : List (Key × V)), [V.ref DD] = [.ref a] ∧ SqL K H a (ps.map V.ref) ∧ Paired (fun p kv => SqT K H p [kV kv.1, kv.2]) ps kvs ∧ ∀ p, H p = none → Q (.ref p) (L2.upd H p (.dK (mergeK [] kvs))) := by
  obtain ⟨ps, kj, sj, h1, h2, h3, h4, h5⟩ := h.ex
  refine ⟨DD, ps, kj, rfl, .of h1, h2, fun d hd => q d hd _ ⟨_, mergeS [] sj, upd_same, ?_, ?_⟩⟩
  · exact skH_same (skH_merge .nil h3) (Same.new hd)
  · exact (mergeS_ok sk0_ok h5).mono (by omega) hb
end
end SE
namespace SE
open PySem PySem.Spec PyProof.Rows L2
section
variable {K : PySem.W.Frag} {H2 H H' : Hp} {p la nl il g : Addr} {us : List V} {ns : List NSt} {nms zs : List Str} {kn : List (Key × V)} {sn : Sk}
theorem B52.updD {c : Addr} {o : HO} (h : B52 H2 p la nl il us ns nms zs H) (n : H2 c = none) (nl' : ∀ us, H c ≠ some (.lst us)) (nt : ∀ us, H c ≠ some (.tup us)) : B52 H2 p la nl il us ns nms zs (L2.upd H c o) :=
  h.upd n (fun e => by obtain ⟨_, _, q, _⟩ := h.pl.ex; exact nl' _ (by rw [e]; exact q)) (fun e => nl' _ (by rw [e]; exact h.hl)) (fun e => nl' _ (by rw [e]; exact h.nn)) (fun e => nl' _ (by rw [e]; exact h.hi)) nt
theorem B52.updL {c : Addr} {ws : List V} {o : HO} (h : B52 H2 p la nl il us ns nms zs H) (n : H2 c = none) (hc : H c = some (.lst ws)) (n0 : c ≠ p) (n1 : c ≠ la) (n2 : c ≠ nl) (n3 : c ≠ il) : B52 H2 p la nl il us ns nms zs (L2.upd H c o) :=
  h.upd n n0 n1 n2 n3 fun xs e => by rw [hc] at e; cases e
/-- what stands beside a new thing -/
theorem B52.fresh {c : Addr} (h : B52 H2 p la nl il us ns nms zs H) (n : H c = none) : c ≠ p ∧ c ≠ la ∧ c ≠ nl ∧ c ≠ il ∧ H2 c = none :=
  ⟨fun e => (by obtain ⟨_, _, q, _⟩ := h.pl.ex; rw [e, q] at n; cases n), fun e => (by rw [e, h.hl] at n; cases n), fun e => (by rw [e, h.nn] at n; cases n), fun e => (by rw [e, h.hi] at n; cases n), h.s2.free n⟩
theorem N52.updD {c : Addr} {o : HO} (h : N52 K H2 p la nl il us ns nms zs g kn sn H) (n : H2 c = none) (ng : c ≠ g) (nl' : ∀ us, H c ≠ some (.lst us)) (nt : NoTup H c) : N52 K H2 p la nl il us ns nms zs g kn sn (L2.upd H c o) :=
  ⟨h.b.updD n nl' fun us => (nt us).1, by rw [upd_ne (Ne.symm ng)]; exact h.hg, skH_upd nt h.hk⟩
/-- the need is locked -/
structure M52 (K : PySem.W.Frag) (H2 : Hp) (p la nl il : Addr) (us : List V) (ns : List NSt) (nms zs : List Str) (g : Addr) (od : Obj) (kn : List (Key × V)) (sn : Sk) (H : Hp) : Prop where
  b : B52 H2 p la nl il us ns nms zs H
  hg : H g = some (.frz od (.dK kn))
  hk : SkH K H kn sn
variable {od : Obj}
theorem N52.lock (h : N52 K H2 p la nl il us ns nms zs g kn sn H) (n : H2 g = none) : M52 K H2 p la nl il us ns nms zs g od kn sn (L2.upd H g (.frz od (.dK kn))) :=
  ⟨h.b.updD n (fun us e => by rw [h.hg] at e; cases e) (fun us e => by rw [h.hg] at e; cases e), upd_same, skH_upd (.dK h.hg) h.hk⟩
theorem M52.unlock (h : M52 K H2 p la nl il us ns nms zs g od kn sn H) (n : H2 g = none) : N52 K H2 p la nl il us ns nms zs g kn sn (L2.upd H g (.dK kn)) :=
  ⟨h.b.updD n (fun us e => by rw [h.hg] at e; cases e) (fun us e => by rw [h.hg] at e; cases e), upd_same, skH_upd (.dF h.hg) h.hk⟩
theorem M52.same (h : M52 K H2 p la nl il us ns nms zs g od kn sn H) (s : Same H H') : M52 K H2 p la nl il us ns nms zs g od kn sn H' := ⟨h.b.same s, s _ _ h.hg, skH_same h.hk s⟩
theorem M52.but (h : M52 K H2 p la nl il us ns nms zs g od kn sn H) (b : But p H H') (pl : Pool H' p) (n : H2 p = none) (n1 : la ≠ p) (n2 : nl ≠ p) (n3 : il ≠ p) : M52 K H2 p la nl il us ns nms zs g od kn sn H' :=
  ⟨h.b.but b pl n n1 n2 n3, b _ _ (fun e => by
    obtain ⟨_, _, q, _⟩ := h.b.pl.ex
    rw [← e, h.hg] at q
    cases q) h.hg, skH_but h.b.pl.noT b h.hk⟩
theorem M52.updL {c : Addr} {ws : List V} {o : HO} (h : M52 K H2 p la nl il us ns nms zs g od kn sn H) (n : H2 c = none) (hc : H c = some (.lst ws)) (n0 : c ≠ p) (n1 : c ≠ la) (n2 : c ≠ nl) (n3 : c ≠ il) : M52 K H2 p la nl il us ns nms zs g od kn sn (L2.upd H c o) :=
  ⟨h.b.updL n hc n0 n1 n2 n3, by rw [upd_ne (fun e => by rw [← e, h.hg] at hc; cases hc)]; exact h.hg, skH_upd (.lst hc) h.hk⟩
theorem M52.get {j : Nat} {k : Key} {v : V} (h : M52 K H2 p la nl il us ns nms zs g od kn sn H) (nd : (sn.map (·.1)).Nodup) (e : kn[j]? = some (k, v)) : ∃ n st t, sn[j]? = some (n, st) ∧ k = Sum.inr n ∧ v = .ref t ∧ SqT K H t (st.map V.str) ∧ DGet H g (.str n) (some (.ref t)) := by
  obtain ⟨⟨n, st⟩, h1, h2, t, h3, h4⟩ := paired_at h.hk e
  refine ⟨n, st, t, h1, h2, h3, h4, ?_⟩
  have nk : (kn.map (·.1)).Nodup := by
    have q : ∀ {ks : List (Key × V)} {ss : Sk}, SkH K H ks ss → ks.map (·.1) = ss.map fun p => (Sum.inr p.1 : Key) := fun {ks ss} z => by
      induction z with
      | nil => rfl
      | cons a _ ih => simp only [List.map_cons, ih]; rw [a.1]
    rw [q h.hk, show (sn.map fun p => (Sum.inr p.1 : Key)) = (sn.map (·.1)).map Sum.inr by rw [List.map_map]; rfl]
    exact List.Pairwise.map Sum.inr (fun _ _ z c => z (Sum.inr.inj c)) nd
  have ev : valV kn (Sum.inr n) = some (.ref t) := by
    have h2 : k = Sum.inr n := h2
    have h3 : v = .ref t := h3
    rw [h2, h3] at e
    exact valV_of e nk
  exact .inl ⟨kn, Sum.inr n, .inr ⟨od, h.hg⟩, rfl, ev.symm⟩
theorem B52.dict {c : Addr} {o : HO} (h : B52 H2 p la nl il us ns nms zs H) (n : H c = none) : B52 H2 p la nl il us ns nms zs (L2.upd H c o) := h.same (Same.new n)
theorem DctOk.nep {d : Addr} (h : DctOk K H d) (pl : Pool H p) : d ≠ p := fun e => by
  obtain ⟨_, _, q, _⟩ := pl.ex
  obtain ⟨ks, ss, h1, _⟩ := h
  rw [e, q] at h1
  cases h1
theorem DctOk.nel {d q : Addr} {ws : List V} (h : DctOk K H d) (hq : H q = some (.lst ws)) : d ≠ q := fun e => by
  obtain ⟨ks, ss, h1, _⟩ := h
  rw [e, hq] at h1
  cases h1
end
theorem Prs.facts {K : PySem.W.Frag} {H : Hp} {DD : Addr} {j b : Nat} (h : Prs K H DD j b) (hj : j ≤ 30) (hb : b ≤ 100) : ∃ (ps : List Addr) (kvs : List (Key × V)), SqL K H DD (ps.map V.ref) ∧ Paired (fun p kv => SqT K H p [kV kv.1, kv.2]) ps kvs ∧ ∀ d, H d = none → DctOk K (L2.upd H d (.dK (mergeK [] kvs))) d := by
  obtain ⟨a, ps, kvs, e, h1, h2, h3⟩ := h.dict (Q := fun v H' => ∀ d, v = .ref d → DctOk K H' d) hj hb fun d _ ks q d' e => by
    cases e
    exact q
  cases e
  exact ⟨ps, kvs, h1, h2, fun d hd => h3 d hd d rfl⟩
theorem i_more : Item "more" := ⟨by decide +kernel, by decide +kernel, by decide +kernel⟩
theorem bad_non : BadN (.list [.none]) (.int 0) := .inr ⟨[.none], 0, .none, .inl rfl, by decide, rfl, by decide +kernel, fun i y h => (by omega), fun i y h e => (by
  obtain rfl : i = 0 := by omega
  cases e
  exact sm_of (by decide +kernel)), rfl⟩
theorem paired_app {α β : Type} {F : α → β → Prop} : ∀ {a c : List α} {b e : List β}, Paired F a b → Paired F c e → Paired F (a ++ c) (b ++ e)
  | _, _, _, _, .nil, q => q
  | _, _, _, _, .cons h t, q => .cons h (paired_app t q)
theorem oddAt {P : Program} {w : World} {K : PySem.W.Frag} {H : Hp} {vs1 vs2 : List V} {j : Nat} {x : V} (h1 : Paired (RpZ P w K H) vs1 oddsA) (h2 : Paired (RpZ P w K H) vs2 oddsC) (e : (vs1 ++ vs2)[j]? = some x) :
    ∃ d, RpZ P w K H x d ∧ ZOk d ∧ areD d = false ∧ ShD d ∧ PyData.canLay0 (.list [.str "stacks", .str d.shown, .bool true]) = true ∧ SeqAt.shaped (.list [.str "stacks", .str d.shown, .bool true]) = true := by
  obtain ⟨d, h3, h4⟩ := paired_at (paired_app h1 h2) e
  have := List.all_eq_true.mp odds_all d (List.mem_of_getElem? h3)
  simp only [Bool.and_eq_true, Bool.not_eq_true'] at this
  exact ⟨d, h4, zok_of this.1, this.2.1, sh_of this.2.2.1, (ft_of this.2.2.2).1, (ft_of this.2.2.2).2⟩
/-! ### the odd ones, as the law lays them -/
theorem go_asg {te : TE} {i : Nat} {tb : TS} {D : Ends} {σ : L2.St} {H : Hp} (h : te σ H fun x H1 => tb D (σ.set i (some x)) H1) : tSeq (tAsg te (gName i)) tb D σ H := h
def tOddA (P : Program) (w : World) : TA := tCons (tDisp [(tC (.str "abcdefghi"), tTup tNil)]) (tCons (tDisp [(tC (.str ""), tTup tNil)]) (tCons (tDisp [(tC (.str "a"), tTup (tCons (tC (.str "abcdefghi")) tNil))]) (tCons (tDisp [(tC (.str "a"), tTup (tCons (tC (.str "")) tNil))]) (tCons (tDisp [(tC (.str "a"), tTup tNil), (tC (.str "b"), tC (.str "b"))]) (tCons (tNonD P w (tC .non) (tTup tNil)) tNil)))))
def tOddC : TA := tCons (tC .non) (tCons (tLst tNil) (tCons (tC (.str "a")) (tCons (tDisp [(tC (.str "A"), tTup tNil)]) (tCons (tDisp [(tC (.str "a"), tLst tNil)]) (tCons (tDisp [(tC (.str "a"), tTup (tCons (tC (.str "A")) tNil))]) (tCons (tDisp [(tC (.int 1), tTup tNil)]) (tCons (tDisp [(tC (.str "a"), tC .non)]) (tCons (tLst (tCons (tTup (tCons (tC (.str "a")) (tCons (tTup tNil) tNil))) tNil)) tNil))))))))
section
variable {P : Program} {w : World} {K : PySem.W.Frag} {H0 H : Hp} {σ : L2.St} {Q : VK}
theorem dis_A : DisZs P w K H0 σ (tOddA P w) oddsA := DisZs.cons (DisZ.d1 (.inr ("abcdefghi" : Str)) (.tup .nil (by decide)) rfl) (DisZs.cons (DisZ.d1 (.inr ("" : Str)) (.tup .nil (by decide)) rfl) (DisZs.cons (DisZ.d1 (.inr ("a" : Str)) (.tup (.cons (.str _) .nil) (by decide)) rfl) (DisZs.cons (DisZ.d1 (.inr ("a" : Str)) (.tup (.cons (.str _) .nil) (by decide)) rfl) (DisZs.cons (DisZ.d2 (.inr ("a" : Str)) (.inr ("b" : Str)) (by decide) (.tup .nil (by decide)) (.str _) rfl rfl) (DisZs.cons (DisZ.dn (.tup .nil (by decide))) DisZs.nil)))))
theorem dis_C : DisZs P w K H0 σ tOddC oddsC := DisZs.cons (DisZ.pl .non) (DisZs.cons (DisZ.pl (.lst .nil (by decide))) (DisZs.cons (DisZ.pl (.str _)) (DisZs.cons (DisZ.d1 (.inr ("A" : Str)) (.tup .nil (by decide)) rfl) (DisZs.cons (DisZ.d1 (.inr ("a" : Str)) (.lst .nil (by decide)) rfl) (DisZs.cons (DisZ.d1 (.inr ("a" : Str)) (.tup (.cons (.str _) .nil) (by decide)) rfl) (DisZs.cons (DisZ.d1 (.inl 1) (.tup .nil (by decide)) rfl) (DisZs.cons (DisZ.d1 (.inr ("a" : Str)) .non rfl) (DisZs.cons (DisZ.pl (.lst (.cons (.tup (.cons (.str _) (.cons (.tup .nil (by decide)) .nil)) (by decide)) .nil) (by decide))) DisZs.nil))))))))
theorem list_A (k : ∀ (q : Addr) (vs : List V) (H' : Hp), Same H H' → H q = none → H' q = some (.lst vs) → Paired (RpZ P w K H') vs oddsA → Q (.ref q) H') : tLst (tOddA P w) σ H Q := DisZs.list (K := K) (dis_A (P := P) (w := w)) (by decide) (Same.refl H) k
theorem list_C (k : ∀ (q : Addr) (vs : List V) (H' : Hp), Same H H' → H q = none → H' q = some (.lst vs) → Paired (RpZ P w K H') vs oddsC → Q (.ref q) H') : tLst tOddC σ H Q := DisZs.list (K := K) (dis_C (P := P) (w := w)) (by decide) (Same.refl H) k
end
end SE
namespace SE
open PySem PySem.Spec PyProof.Rows L2
/-! ### the law's long steps -/
abbrev pushA : NSt := (true, "a", "b")
abbrev pushC : NSt := (true, "c", "d")
def lgN (k : Nat) : List NSt := (List.replicate k [pushA, pushC]).flatten
def lgV (t1 t2 : Addr) (k : Nat) : List V := (List.replicate k [V.ref t1, V.ref t2]).flatten
theorem lgN_succ (k : Nat) : lgN (k + 1) = pushA :: pushC :: lgN k := by
  unfold lgN
  rw [List.replicate_succ, List.flatten_cons]
  rfl
theorem lgV_succ (t1 t2 : Addr) (k : Nat) : lgV t1 t2 (k + 1) = .ref t1 :: .ref t2 :: lgV t1 t2 k := by
  unfold lgV
  rw [List.replicate_succ, List.flatten_cons]
  rfl
theorem lgV_len (t1 t2 : Addr) : ∀ k : Nat, (lgV t1 t2 k).length = 2 * k
  | 0 => rfl
  | k + 1 => by rw [lgV_succ, List.length_cons, List.length_cons, lgV_len t1 t2 k]; omega
theorem i_a : Item "a" := ⟨by decide +kernel, by decide +kernel, by decide +kernel⟩
theorem i_b : Item "b" := ⟨by decide +kernel, by decide +kernel, by decide +kernel⟩
theorem i_c : Item "c" := ⟨by decide +kernel, by decide +kernel, by decide +kernel⟩
theorem i_d : Item "d" := ⟨by decide +kernel, by decide +kernel, by decide +kernel⟩
theorem i_e : Item "e" := ⟨by decide +kernel, by decide +kernel, by decide +kernel⟩
theorem lgN_ok : ∀ (k : Nat), ∀ s ∈ lgN k, NOk s
  | 0, s, m => by cases m
  | k + 1, s, m => by
    rw [lgN_succ] at m
    rcases List.mem_cons.mp m with rfl | m
    · exact ⟨i_a, i_b⟩
    rcases List.mem_cons.mp m with rfl | m
    · exact ⟨i_c, i_d⟩
    exact lgN_ok k s m
theorem lgN_v {K : PySem.W.Frag} {H : Hp} {t1 t2 : Addr} (h1 : H t1 = some (.tup [.str "push", .str "a", .str "b"])) (h2 : H t2 = some (.tup [.str "push", .str "c", .str "d"])) : ∀ k : Nat, NSV K H (lgV t1 t2 k) (lgN k)
  | 0 => .nil
  | k + 1 => by
    rw [lgN_succ, lgV_succ]
    exact .cons ⟨t1, rfl, .of h1⟩ (.cons ⟨t2, rfl, .of h2⟩ (lgN_v h1 h2 k))
theorem lgV_take (t1 t2 : Addr) (k : Nat) : (lgV t1 t2 (k + 1)).take (2 * k) = lgV t1 t2 k := by
  have e : lgV t1 t2 (k + 1) = lgV t1 t2 k ++ [V.ref t1, V.ref t2] := by
    unfold lgV
    rw [List.replicate_succ', List.flatten_append]
    rfl
  rw [e]
  exact List.take_left' (lgV_len t1 t2 k)
theorem ofN_lg (n : Str) : ∀ k : Nat, ofN (lgN k) n = if n = "a" then List.replicate k (true, ("b" : Str)) else if n = "c" then List.replicate k (true, ("d" : Str)) else []
  | 0 => by
    show ([] : List Stp) = _
    split
    · rfl
    split <;> rfl
  | k + 1 => by
    rw [lgN_succ, ofN_cons, ofN_cons, ofN_lg n k]
    by_cases c1 : n = "a"
    · subst c1
      rw [if_pos rfl, if_neg (by decide), if_pos rfl, if_pos rfl, List.replicate_succ]
    · by_cases c2 : n = "c"
      · subst c2
        rw [if_neg (by decide), if_pos rfl, if_neg (by decide), if_pos rfl, if_neg (by decide), if_pos rfl, List.replicate_succ]
      · rw [if_neg (fun e => c1 e.symm), if_neg (fun e => c2 e.symm), if_neg c1, if_neg c2, if_neg c1, if_neg c2]
theorem runM_push (z : Str) : ∀ (k : Nat) (st : List Str), runM (List.replicate k (true, z)) st = some (List.replicate k z ++ st)
  | 0, st => rfl
  | k + 1, st => by
    show runM (List.replicate k (true, z)) (z :: st) = _
    rw [runM_push z k (z :: st), List.replicate_succ', List.append_assoc]
    rfl
theorem getS_1 (z : Str) (st : List Str) (n : Str) : getS [(z, st)] n = if n = z then st else [] := by
  by_cases c : n = z
  · subst c
    rw [if_pos rfl]
    exact getS_at (ss := [(n, st)]) (p := (n, st)) (List.nodup_cons.mpr ⟨fun m => (by cases m), .nil⟩) List.mem_cons_self
  · rw [if_neg c]
    exact getS_no fun m => c (List.mem_singleton.mp m)
theorem getS_2 (z1 z2 : Str) (s1 s2 : List Str) (ne : z1 ≠ z2) (n : Str) : getS [(z1, s1), (z2, s2)] n = if n = z1 then s1 else if n = z2 then s2 else [] := by
  have nd : (([(z1, s1), (z2, s2)] : Sk).map (·.1)).Nodup := List.nodup_cons.mpr ⟨fun m => ne (List.mem_singleton.mp m), List.nodup_cons.mpr ⟨fun m => (by cases m), .nil⟩⟩
  by_cases c : n = z1
  · subst c
    rw [if_pos rfl]
    exact getS_at (p := (n, s1)) nd List.mem_cons_self
  · rw [if_neg c]
    by_cases c2 : n = z2
    · subst c2
      rw [if_pos rfl]
      exact getS_at (p := (n, s2)) nd (by simp)
    · rw [if_neg c2]
      refine getS_no fun m => ?_
      simp only [List.map_cons, List.map_nil, List.mem_cons, List.not_mem_nil, or_false] at m
      exact m.elim c c2
/-- what the long steps make -/
def lgS : Sk := [("c", List.replicate 2000 ("e" : Str))]
def lgR : Sk := [("a", List.replicate 500 ("b" : Str)), ("c", List.replicate 500 ("d" : Str) ++ List.replicate 2000 ("e" : Str))]
theorem lg_run (n : Str) : runM (ofN (lgN 500) n) (getS lgS n) = some (getS lgR n) := by
  unfold lgS lgR
  rw [ofN_lg, getS_1, getS_2 _ _ _ _ (by decide)]
  by_cases c1 : n = "a"
  · subst c1
    rw [if_pos rfl, if_neg (by decide), if_pos rfl, runM_push, List.append_nil]
  · by_cases c2 : n = "c"
    · subst c2
      rw [if_neg (by decide), if_pos rfl, if_pos rfl, if_neg (by decide), if_pos rfl, runM_push]
    · rw [if_neg c1, if_neg c2, if_neg c2, if_neg c1, if_neg c2]
      rfl
theorem one_nd {z : Str} {st : List Str} : (([(z, st)] : Sk).map (·.1)).Nodup := List.nodup_cons.mpr ⟨fun m => (by cases m), .nil⟩
theorem lgR_nd : (lgR.map (·.1)).Nodup := List.nodup_cons.mpr ⟨fun m => absurd (List.mem_singleton.mp m) (by decide), List.nodup_cons.mpr ⟨fun m => (by cases m), .nil⟩⟩
theorem lg_dd {K : PySem.W.Frag} {H : Hp} {ks ls : List (Key × V)} {rs : Sk} (h1 : SkH K H ks rs) (h2 : SkH K H ls lgR) (ra : RunAll (lgN 500) lgS rs) : ks.length = ls.length ∧ ∀ p ∈ ks, ∃ y, valV ls p.1 = some y ∧ DTup K DFlat p.2 y H := by
  refine dd_of h1 h2 ra.nd lgR_nd (fun n => ?_) fun n _ => ?_
  · rw [ra.keys, ofN_lg]
    unfold lgS lgR
    simp only [List.map_cons, List.map_nil, List.mem_cons, List.not_mem_nil, or_false]
    by_cases c1 : n = "a"
    · rw [if_pos c1]
      exact ⟨fun _ => .inl c1, fun _ => .inr (by simp)⟩
    · rw [if_neg c1]
      by_cases c2 : n = "c"
      · exact ⟨fun _ => .inr c2, fun _ => .inl c2⟩
      · rw [if_neg c2]
        exact ⟨fun h => h.elim .inr fun h => absurd rfl h, fun h => h.elim (fun h => absurd h c1) .inl⟩
  · have q := ra.at_ n
    rw [lg_run] at q
    exact (Option.some.inj q).symm
theorem lgS_ok : SkOk lgS 60 3000 := ⟨one_nd, fun p m => (by
  rw [List.mem_singleton.mp m]
  exact ⟨i_c, fun z mz => by rw [List.eq_of_mem_replicate mz]; exact i_e, by show (List.replicate 2000 ("e" : Str)).length ≤ 3000; rw [List.length_replicate]; omega⟩), by show 1 ≤ 60; decide⟩
theorem one_ok : SkOk [("a", [("b" : Str)])] 60 3000 := ⟨one_nd, fun p m => (by
  rw [List.mem_singleton.mp m]
  exact ⟨i_a, fun z mz => by rw [List.mem_singleton.mp mz]; exact i_b, by show 1 ≤ 3000; decide⟩), by show 1 ≤ 60; decide⟩
theorem one_dd {K : PySem.W.Frag} {H : Hp} {ks ls : List (Key × V)} {rs : Sk} (h1 : SkH K H ks rs) (h2 : SkH K H ls [("a", [("b" : Str)])]) (ra : RunAll [] [("a", [("b" : Str)])] rs) : ks.length = ls.length ∧ ∀ p ∈ ks, ∃ y, valV ls p.1 = some y ∧ DTup K DFlat p.2 y H := by
  refine dd_of h1 h2 ra.nd one_nd (fun n => ?_) fun n _ => ?_
  · rw [ra.keys]
    exact ⟨fun h => h.elim id fun h => absurd rfl h, .inl⟩
  · exact (Option.some.inj (ra.at_ n)).symm
/-- the steps whose last one fails -/
def badN : List NSt := lgN 499 ++ [((false, "a", "b") : NSt), (false, "a", "d")]
theorem bad_run : runM (ofN badN "a") (getS [] "a") = none := by
  unfold badN
  rw [ofN_app, ofN_lg, if_pos rfl, runM_append, show getS [] "a" = ([] : List Str) from rfl, runM_push]
  show runM [(false, ("b" : Str)), (false, ("d" : Str))] (List.replicate (498 + 1) ("b" : Str) ++ []) = none
  rw [List.replicate_succ, List.replicate_succ]
  rfl
theorem badN_ok : ∀ s ∈ badN, NOk s := fun s m => by
  rcases List.mem_append.mp m with m | m
  · exact lgN_ok _ s m
  rcases List.mem_cons.mp m with rfl | m
  · exact ⟨i_a, i_b⟩
  · rw [List.mem_singleton.mp m]
    exact ⟨i_a, i_d⟩
theorem pop_run : runM (ofN [(false, ("a" : Str), ("b" : Str))] "a") (getS [] "a") = none := by decide +kernel
end SE
namespace SE
open PySem PySem.Spec PyProof.Rows L2

section
variable {P : Program} {w : World} {K : PySem.W.Frag} {mg : Str → Option Value} {base : Heap}
def spLaw (K : PySem.W.Frag) : Sp := fun xs H Q _ => ∃ (a : Addr) (ns : List Int), xs = [.ref a] ∧ SqL K H a (ns.map V.int) ∧ ns.length ≤ 63 ∧ ∀ H', Q (.bl true) H'
abbrev nLaw : List Str := ["_law_script", "_law_k", "_law_pool_here", "_law_names", "_law_items_here", "_law_steps_here", "_law_need", "_law_name_here", "_law_own", "_law_parts_here", "_law_some", "_law_others", "_law_heaps", "_law_odds", "_law_odd", "_law_long"]
theorem scLaw : FnScope nLaw ["_law_script"] (defScope sLaw) := ⟨rfl, rfl, rfl, by decide +kernel, rfl, by decide +kernel, by decide +kernel⟩
theorem ok_law {f : Addr} {fd : FuncData} (F : Fun K "law" "law" sLaw f fd)
    (GPl : Has P w K mg base "_law_pool" 1 ["_law_script", "_law_k"] [] (spPool K)) (GT : Has P w K mg base "_law_take" 1 ["_law_pool_here", "_law_many"] [] spTake) (GI : Has P w K mg base "_law_items" 3 ["_law_pool_here", "_law_many"] [] spItems) (GNw : Has P w K mg base "_law_named_well" 2 ["_law_pool_here", "_law_names", "_law_items_here", "_law_many"] [] spNamedN) (GPa : Has P w K mg base "_law_parts" 1 ["_law_steps_here"] [] (spParts K)) (GE : Has P w K mg base "_law_effect" 1 ["_law_steps_here"] [] (spLEff K)) (GW : Has P w K mg base "_law_word" 2 ["_law_pool_here", "_law_items_here", "_law_most"] [] spWord)
    (GR : GHas P w K mg base "_law_right" 7 ["_law_steps_here", "_law_heaps"] (spRi K)) (GTo : GHas P w K mg base "_law_told" 7 pTo (spTo P w K)) (GRa : Has P w K mg base "run_all" 6 ["steps", "stacks"] [] (spRa K))
    (B : Blt mg) (mr : mg "range" = none) (mx : mg "max" = none) (mn : mg "min" = none) (md : mg "dict" = none) (mt : mg "tuple" = none) (mp : mg "repr" = none) : GOk P w K mg base 8 f fd ["_law_script"] (spLaw K) := by
  refine gok_mk F scLaw (fun xs H Q E h => ?_) (fun cv A' out s H xs Q E hgu hr h => ?_)
  · obtain ⟨a, ns, rfl, _⟩ := h
    rfl
  · obtain ⟨a, ns, rfl, hS, hlen, k⟩ := h
    have hu := room_u hr
    have hr1 : Room 1 _ := hr.mono (by decide)
    have hr2 : Room 2 _ := hr.mono (by decide)
    have hr3 : Room 3 _ := hr.mono (by decide)
    have hr6 : Room 6 _ := hr.mono (by decide)
    have hr7 : Room 7 _ := hr.mono (by decide)
    refine ⟨_, (pss_cons (ps_for PassesOwn.never rfl (pi_range1 (by rfl) mr (pa_cons (pe_callB (call_max2 rfl) (by rfl) mx (by decide +kernel) (pa_cons pe_int (pa_cons (pe_callB (call_min2 rfl) (by rfl) mn (by decide +kernel) (pa_cons (pe_callB call_len_seq (by rfl) B.len PySem.boot_len (pa_cons (pv 0) pa_nil)) (pa_cons pe_int pa_nil))) pa_nil))) pa_nil)) (pg_name (i := 1) scLaw.nd rfl (.inl rfl)) (pss_cons (ps_set (i := 2) scLaw.nd rfl (.inr rfl) (pe_has GPl hr1 (pa_cons (pv 0) (pa_cons (pv 1) pa_nil))))
      (pss_cons (ps_asg (pe_tup (pa_cons (pe_has GI hr3 (pa_cons (pv 2) (pa_cons (pe_op op_add pe_int (pe_has GT hr1 (pa_cons (pv 2) (pa_cons pe_int pa_nil)))) pa_nil))) (pa_cons (pe_has GI hr3 (pa_cons (pv 2) (pa_cons (pe_op op_add pe_int (pe_has GT hr1 (pa_cons (pv 2) (pa_cons pe_int pa_nil)))) pa_nil))) pa_nil))) (pg_tup (by rfl) (pgs_cons (pg_name (i := 3) scLaw.nd rfl (.inl rfl)) (pgs_cons (pg_name (i := 4) scLaw.nd rfl (.inr rfl)) pgs_nil))))
      (pss_cons (ps_set (i := 5) scLaw.nd rfl (.inl rfl) (pe_has GNw hr2 (pa_cons (pv 2) (pa_cons (pv 3) (pa_cons (pv 4) (pa_cons (pe_has GT hr1 (pa_cons (pv 2) (pa_cons pe_int pa_nil))) pa_nil))))))
      (pss_cons (ps_set (i := 6) scLaw.nd rfl (.inr rfl) pe_dnewK)
      (pss_cons (ps_for PassesOwn.never rfl (pi_items (pe_frz (pe_has GPa hr1 (pa_cons (pv 5) pa_nil)))) (pg_tup (by rfl) (pgs_cons (pg_name (i := 7) scLaw.nd rfl (.inl rfl)) (pgs_cons (pg_name (i := 8) scLaw.nd rfl (.inl rfl)) pgs_nil))) (pss_cons (ps_set (i := 9) scLaw.nd rfl (.inl rfl) (pe_has GE hr1 (pa_cons (pv 8) pa_nil)))
      (pss_one (ps_dput hu (pv 6) (pv 7) (pe_ifExp (pt_cmpR op_notN (pv 9) pe_non (nomark _)) (pe_op op_catS (pe_ix ix_tup (pv 9) pe_int (fun _ _ => rfl)) (pe_has GW hr2 (pa_cons (pv 2) (pa_cons (pv 4) (pa_cons pe_int pa_nil))))) (pe_has GW hr2 (pa_cons (pv 2) (pa_cons (pv 4) (pa_cons pe_int pa_nil))))) rfl))))
      (pss_cons (ps_set (i := 10) scLaw.nd rfl (.inl rfl) (pe_callTy (call_dictP rfl) (by rfl) md (by decide +kernel) (pa_cons (pe_lock (pe_lc (own := [("_law_name_here", 7)]) (g := gName 7) (tt := tTest (tOp (rI0 fun i j => V.bl (decide (i > j))) (tCall spTake [] E0 (tCons (tVar 2) (tCons (tC (.int 3)) tNil))) (tC (.int 0)))) (te := tTup (tCons (tVar 7) (tCons (tDGet (tVar 6) (tVar 7)) tNil))) rfl scLaw.nd (pi_keys (pv 6)) (blkOk_by (own := [("_law_name_here", 7)]) (N := nLaw) (sc := defScope sLaw) (by decide +kernel)) (fun _ _ _ _ _ => (pg_name (i := 7) scLaw.nd rfl (.inl rfl))) (fun _ _ _ _ _ => pts_one (pt_cmpR op_gt (pe_has GT hr1 (pa_cons (pv 2) (pa_cons pe_int pa_nil))) pe_int (nomark _))) (fun _ _ _ _ _ => (pe_tup (pa_cons (pv 7) (pa_cons (pe_dget hu (pv 6) (pv 7) (fun _ _ => rfl)) pa_nil)))))) pa_nil)))
      (pss_cons (ps_set (i := 11) scLaw.nd rfl (.inl rfl) (pe_callTy (call_dictP rfl) (by rfl) md (by decide +kernel) (pa_cons (pe_lc (own := [("_law_name_here", 7)]) (g := gName 7) (tt := tYes) (te := tTup (tCons (tVar 7) (tCons (tCall spWord [] E0 (tCons (tVar 2) (tCons (tVar 4) (tCons (tC (.int 4)) tNil)))) tNil))) rfl scLaw.nd (pi_list (pe_op op_cat (pv 3) (pe_lst (pa_cons pe_str pa_nil)))) (blkOk_by (own := [("_law_name_here", 7)]) (N := nLaw) (sc := defScope sLaw) (by decide +kernel)) (fun _ _ _ _ _ => (pg_name (i := 7) scLaw.nd rfl (.inl rfl))) (fun _ _ _ _ _ => pts_nil) (fun _ _ _ _ _ => (pe_tup (pa_cons (pv 7) (pa_cons (pe_has GW hr2 (pa_cons (pv 2) (pa_cons (pv 4) (pa_cons pe_int pa_nil)))) pa_nil))))) pa_nil)))
      (pss_cons (ps_for PassesOwn.never rfl (pi_list (pe_lst (pa_cons (pv 6) (pa_cons (pv 10) (pa_cons (pv 11) (pa_cons pe_dnewK pa_nil)))))) (pg_name (i := 12) scLaw.nd rfl (.inl rfl)) (pss_one (ps_if (PW.pt (pw_or (pt_not (pt_val (pe_ghas GR hgu hr7 (pa_cons (pv 5) (pa_cons (pv 12) pa_nil))))) (pw_or1 (pt_not (pt_val (pe_ghas GR hgu hr7 (pa_cons (pe_callTy call_tuple_of (by rfl) mt (by decide +kernel) (pa_cons (pv 5) pa_nil)) (pa_cons (pv 12) pa_nil)))))))) (pss_one (ps_ret pe_bl)) pss_nil)))
      (pss_cons (ps_set (i := 13) scLaw.nd rfl (.inl rfl) (pe_lst (pa_cons (pe_disp (pps_cons pe_str (pe_tup pa_nil) pps_nil) (by rfl) (by rfl) (fun z => by cases z) (by decide)) (pa_cons (pe_disp (pps_cons pe_str (pe_tup pa_nil) pps_nil) (by rfl) (by rfl) (fun z => by cases z) (by decide)) (pa_cons (pe_disp (pps_cons pe_str (pe_tup (pa_cons pe_str pa_nil)) pps_nil) (by rfl) (by rfl) (fun z => by cases z) (by decide)) (pa_cons (pe_disp (pps_cons pe_str (pe_tup (pa_cons pe_str pa_nil)) pps_nil) (by rfl) (by rfl) (fun z => by cases z) (by decide)) (pa_cons (pe_disp (pps_cons pe_str (pe_tup pa_nil) (pps_cons pe_str pe_str pps_nil)) (by rfl) (by rfl) (fun z => by cases z) (by decide)) (pa_cons (pe_nonD (pps_cons pe_non (pe_tup pa_nil) pps_nil)) pa_nil))))))))
      (pss_one (ps_for PassesOwn.never rfl (pi_list (pe_op op_cat (pv 13) (pe_lst (pa_cons pe_non (pa_cons (pe_lst pa_nil) (pa_cons pe_str (pa_cons (pe_disp (pps_cons pe_str (pe_tup pa_nil) pps_nil) (by rfl) (by rfl) (fun z => by cases z) (by decide)) (pa_cons (pe_disp (pps_cons pe_str (pe_lst pa_nil) pps_nil) (by rfl) (by rfl) (fun z => by cases z) (by decide)) (pa_cons (pe_disp (pps_cons pe_str (pe_tup (pa_cons pe_str pa_nil)) pps_nil) (by rfl) (by rfl) (fun z => by cases z) (by decide)) (pa_cons (pe_disp (pps_cons pe_int (pe_tup pa_nil) pps_nil) (by rfl) (by rfl) (fun z => by cases z) (by decide)) (pa_cons (pe_disp (pps_cons pe_str pe_non pps_nil) (by rfl) (by rfl) (fun z => by cases z) (by decide)) (pa_cons (pe_lst (pa_cons (pe_tup (pa_cons pe_str (pa_cons (pe_tup pa_nil) pa_nil))) pa_nil)) pa_nil)))))))))))) (pg_name (i := 14) scLaw.nd rfl (.inl rfl)) (pss_one (ps_if (PW.pt (pw_or (pt_cmpR (op_neD hr.units) (pe_ghas GTo hgu hr7 (pa_cons (pv 5) (pa_cons (pv 14) pa_nil))) (pe_lst (pa_cons pe_str (pa_cons (pe_callB (call_reprZ hgu hr.units) (by rfl) mp (by decide +kernel) (pa_cons (pv 14) pa_nil)) (pa_cons pe_bl pa_nil)))) (nomark _)) (pw_or1 (pt_cmpR (op_neD hr.units) (pe_ghas GTo hgu hr7 (pa_cons (pe_lst (pa_cons pe_non pa_nil)) (pa_cons (pv 14) pa_nil))) (pe_lst (pa_cons pe_str (pa_cons pe_int pa_nil))) (nomark _))))) (pss_one (ps_ret pe_bl)) pss_nil))))))))))))))
      (pss_cons (ps_set (i := 15) scLaw.nd rfl (.inl rfl) (pe_op op_rep (pe_lst (pa_cons (pe_tup (pa_cons pe_str (pa_cons pe_str (pa_cons pe_str pa_nil)))) (pa_cons (pe_tup (pa_cons pe_str (pa_cons pe_str (pa_cons pe_str pa_nil)))) pa_nil))) pe_int))
      (pss_cons (ps_if (pt_cmpR (op_neDict (mon_tup (K := K) mon_flat) (eqG_tup mon_flat eqG_flat) hr2) (pe_frz (pe_has GRa hr6 (pa_cons (pv 15) (pa_cons (pe_disp (pps_cons pe_str (pe_op op_repS (pe_tup (pa_cons pe_str pa_nil)) pe_int) pps_nil) (by rfl) (by rfl) (fun z => by cases z) (by decide)) pa_nil)))) (pe_frz (pe_disp (pps_cons pe_str (pe_op op_repS (pe_tup (pa_cons pe_str pa_nil)) pe_int) (pps_cons pe_str (pe_op op_catS (pe_op op_repS (pe_tup (pa_cons pe_str pa_nil)) pe_int) (pe_op op_repS (pe_tup (pa_cons pe_str pa_nil)) pe_int)) pps_nil)) (by rfl) (by rfl) (fun z => by cases z) (by decide))) (nomark _)) (pss_one (ps_ret pe_bl)) pss_nil)
      (pss_cons (ps_if (pt_cmpR op_notN (pe_has GRa hr6 (pa_cons (pe_op op_cat (pe_slice sl_list (pv 15) po_none (po_some pe_int)) (pe_lst (pa_cons (pe_tup (pa_cons pe_str (pa_cons pe_str (pa_cons pe_str pa_nil)))) (pa_cons (pe_tup (pa_cons pe_str (pa_cons pe_str (pa_cons pe_str pa_nil)))) pa_nil)))) (pa_cons pe_dnewK pa_nil))) pe_non (nomark _)) (pss_one (ps_ret pe_bl)) pss_nil)
      (pss_one (ps_ret (pe_and (pe_cmpR (op_eqG (rcG_dict (mon_tup (K := K) mon_flat) (eqG_tup mon_flat eqG_flat)) hr2) (pe_frz (pe_has GRa hr6 (pa_cons (pe_lst pa_nil) (pa_cons (pe_disp (pps_cons pe_str (pe_tup (pa_cons pe_str pa_nil)) pps_nil) (by rfl) (by rfl) (fun z => by cases z) (by decide)) pa_nil)))) (pe_frz (pe_disp (pps_cons pe_str (pe_tup (pa_cons pe_str pa_nil)) pps_nil) (by rfl) (by rfl) (fun z => by cases z) (by decide))) (nomark _)) (pe_one (pe_cmpR op_isN (pe_has GRa hr6 (pa_cons (pe_lst (pa_cons (pe_tup (pa_cons pe_str (pa_cons pe_str (pa_cons pe_str pa_nil)))) pa_nil)) (pa_cons pe_dnewK pa_nil))) pe_non (nomark _)))))))))), ?_⟩
    refine ⟨_, rfl, a, _, rfl, .inl hS, _, 8, rfl, 1, _, rfl, ?_⟩
    have hN : ∀ n : Nat, (1 : Int) ≤ (if (if (8 : Int) < (n : Int) then 8 else (n : Int)) > 1 then (if (8 : Int) < (n : Int) then 8 else (n : Int)) else 1) ∧ (if (if (8 : Int) < (n : Int) then 8 else (n : Int)) > 1 then (if (8 : Int) < (n : Int) then 8 else (n : Int)) else 1) ≤ 8 := by
      intro n
      split <;> split <;> omega
    have hN1 := hN (ns.map V.int).length
    generalize hM : (if (if (8 : Int) < ((ns.map V.int).length : Int) then 8 else ((ns.map V.int).length : Int)) > 1 then (if (8 : Int) < ((ns.map V.int).length : Int) then 8 else ((ns.map V.int).length : Int)) else 1) = N at hN1
    refine ⟨N, by rw [← hM], by omega, by omega, for_range (lo := 0) (n := N.toNat) (fun i σ H2 => ∃ (y1 y2 y3 y4 y5 y6 y7 y8 y9 y10 y11 y12 y13 y14 y15 : Option V), σ = [some (.ref a), y1, y2, y3, y4, y5, y6, y7, y8, y9, y10, y11, y12, y13, y14, y15] ∧ Same H H2) ⟨_, _, _, _, _, _, _, _, _, _, _, _, _, _, _, rfl, Same.refl H⟩ ?_ ?_⟩
    rotate_left
    · rintro σ H2 ⟨y1, y2, y3, y4, y5, y6, y7, y8, y9, y10, y11, y12, y13, y14, y15, rfl, s2⟩
      refine ⟨by show 3 ≤ sizeLine; decide, fun t1 ht1 => ⟨by show 3 ≤ sizeLine; decide, fun t2 ht2 => ⟨by show 2 ≤ sizeLine; decide, fun l hl => ?_⟩⟩⟩
      have sa := Same.new (o := .tup [.str "push", .str "a", .str "b"]) ht1
      have sb := Same.new (o := .tup [.str "push", .str "c", .str "d"]) ht2
      have sc := Same.new (o := .lst [V.ref t1, .ref t2]) hl
      refine ⟨l, 500, [.ref t1, .ref t2], rfl, rfl, upd_same, by decide, by decide, by show 2 * 500 ≤ sizeLine; decide, fun q hq => ?_⟩
      have sd := Same.new (o := .lst (List.replicate (500 : Int).toNat [V.ref t1, V.ref t2]).flatten) hq
      have g1 := sd _ _ (sc _ _ (sb _ _ (upd_same (H := H2) (a := t1) (o := .tup [.str "push", .str "a", .str "b"]))))
      have g2 := sd _ _ (sc _ _ (upd_same (H := upd H2 t1 (.tup [.str "push", .str "a", .str "b"])) (a := t2) (o := .tup [.str "push", .str "c", .str "d"])))
      have g3 : upd (upd (upd (upd H2 t1 (.tup [.str "push", .str "a", .str "b"])) t2 (.tup [.str "push", .str "c", .str "d"])) l (.lst [V.ref t1, .ref t2])) q (.lst (List.replicate (500 : Int).toNat [V.ref t1, V.ref t2]).flatten) q = some (.lst (lgV t1 t2 500)) := upd_same
      generalize upd (upd (upd (upd H2 t1 (.tup [.str "push", .str "a", .str "b"])) t2 (.tup [.str "push", .str "c", .str "d"])) l (.lst [V.ref t1, .ref t2])) q (.lst (List.replicate (500 : Int).toNat [V.ref t1, V.ref t2]).flatten) = H3 at g1 g2 g3 ⊢
      clear sa sb sc sd ht1 ht2 hl hq s2
      have nv := lgN_v (K := K) g1 g2
      -- the long steps
      refine ⟨_, rfl, ?_⟩
      refine fun d hd => ⟨by show 1 ≤ sizeLine; decide, fun u hu => ⟨u, 2000, .str "e", rfl, rfl, .of upd_same, by decide, by decide, fun p H4 s4 hp => ?_⟩⟩
      have s24 := (Same.new (o := .tup [V.str "e"]) hu).trans s4
      have hd4 := s24 _ _ (upd_same (H := H3) (a := d) (o := .dK []))
      refine ⟨hd4, [(.inr "c", .ref p)], rfl, by show 1 ≤ 15; decide, ?_⟩
      have s5 : Same H3 (upd H4 d (.dK [((.inr "c" : Key), V.ref p)])) := same_disp hd s24
      have k5 : SkH K (upd H4 d (.dK [((.inr "c" : Key), V.ref p)])) [(.inr "c", .ref p)] lgS := .cons ⟨rfl, p, rfl, sqT_upd (.dK hd4) (by rw [List.map_replicate]; exact hp)⟩ .nil
      have d5 : upd H4 d (.dK [((.inr "c" : Key), V.ref p)]) d = some (.dK [(.inr "c", .ref p)]) := upd_same
      have em0 : mergeK [] [((.inr "c" : Key), V.ref p)] = [(.inr "c", .ref p)] := rfl
      rw [em0]
      generalize upd H4 d (.dK [((.inr "c" : Key), V.ref p)]) = H5 at s5 k5 d5 ⊢
      refine ⟨q, d, lgV t1 t2 500, lgN 500, _, lgS, rfl, .inl (.of (s5 _ _ g3)), by rw [lgV_len]; omega, nsv_same (nv 500) s5, lgN_ok 500, d5, k5, lgS_ok, fun ⟨n, hn⟩ => (by rw [lg_run] at hn; cases hn), fun _ r kv rs H6 s6 nr hr kr ra => ?_⟩
      refine ⟨r, .dK kv, rfl, hr, mut_dK, fun od => ?_⟩
      have s36 : Same H3 (upd H6 r (.frz od (.dK kv))) := Same.free2 (s5.trans s6) (s5.free nr)
      have r7 : upd H6 r (.frz od (.dK kv)) r = some (.frz od (.dK kv)) := upd_same
      have k7 := skH_upd (o := .frz od (.dK kv)) (.dK hr) kr
      generalize upd H6 r (.frz od (.dK kv)) = H7 at s36 r7 k7 ⊢
      clear s4 s24 hd4 s5 k5 d5 s6 nr hr kr hd hu hp
      refine fun e he => ⟨by show 1 ≤ sizeLine; decide, fun u1 hu1 => ⟨u1, 500, .str "b", rfl, rfl, .of upd_same, by decide, by decide, fun p1 HA sA hp1 => ?_⟩⟩
      refine ⟨by show 1 ≤ sizeLine; decide, fun u2 hu2 => ⟨u2, 500, .str "d", rfl, rfl, .of upd_same, by decide, by decide, fun p2 HB sB hp2 => ?_⟩⟩
      refine ⟨by show 1 ≤ sizeLine; decide, fun u3 hu3 => ⟨u3, 2000, .str "e", rfl, rfl, .of upd_same, by decide, by decide, fun p3 HC sC hp3 => ?_⟩⟩
      refine ⟨p2, p3, _, _, rfl, rfl, Same.tup ((Same.new hu3).trans sC) hp2, hp3, by rw [List.length_replicate, List.length_replicate, sizeLine_eq]; show 500 + 2000 ≤ _; omega, fun p4 HD sD hp4 => ?_⟩
      have x1 := (((((Same.new (o := .tup [V.str "d"]) hu2).trans sB).trans (Same.new (o := .tup [V.str "e"]) hu3)).trans sC).trans sD)
      have x0 := (((Same.new (o := .tup [V.str "b"]) hu1).trans sA).trans x1)
      have he4 := x0 _ _ (upd_same (H := H7) (a := e) (o := .dK []))
      refine ⟨he4, [(.inr "a", .ref p1), (.inr "c", .ref p4)], rfl, by show 2 ≤ 15; decide, ?_⟩
      have em : mergeK [] [((.inr "a" : Key), V.ref p1), (.inr "c", .ref p4)] = [(.inr "a", .ref p1), (.inr "c", .ref p4)] := by rfl
      have s8 : Same H7 (upd HD e (.dK [((.inr "a" : Key), V.ref p1), (.inr "c", .ref p4)])) := same_disp he x0
      have k8 : SkH K (upd HD e (.dK [((.inr "a" : Key), V.ref p1), (.inr "c", .ref p4)])) [(.inr "a", .ref p1), (.inr "c", .ref p4)] lgR := .cons ⟨rfl, p1, rfl, sqT_upd (.dK he4) (Same.tup x1 (by rw [List.map_replicate]; exact hp1))⟩ (.cons ⟨rfl, p4, rfl, sqT_upd (.dK he4) (by rw [List.map_append, List.map_replicate, List.map_replicate]; exact hp4)⟩ .nil)
      rw [em]
      have e8 : upd HD e (.dK [((.inr "a" : Key), V.ref p1), (.inr "c", .ref p4)]) e = some (.dK [(.inr "a", .ref p1), (.inr "c", .ref p4)]) := upd_same
      generalize upd HD e (.dK [((.inr "a" : Key), V.ref p1), (.inr "c", .ref p4)]) = H8 at s8 k8 e8 ⊢
      refine ⟨e, _, rfl, e8, mut_dK, fun od2 => ?_⟩
      have er : r ≠ e := fun c => by rw [← c, r7] at he; cases he
      have r9 : upd H8 e (.frz od2 (.dK [(.inr "a", .ref p1), (.inr "c", .ref p4)])) r = some (.frz od (.dK kv)) := by rw [upd_ne er]; exact s8 _ _ r7
      have e9 : upd H8 e (.frz od2 (.dK [(.inr "a", .ref p1), (.inr "c", .ref p4)])) e = some (.frz od2 (.dK [(.inr "a", .ref p1), (.inr "c", .ref p4)])) := upd_same
      have k9 := skH_upd (o := .frz od2 (.dK [(.inr "a", .ref p1), (.inr "c", .ref p4)])) (.dK e8) k8
      have k79 := skH_upd (o := .frz od2 (.dK [(.inr "a", .ref p1), (.inr "c", .ref p4)])) (.dK e8) (skH_same k7 s8)
      have s39 : Same H3 (upd H8 e (.frz od2 (.dK [(.inr "a", .ref p1), (.inr "c", .ref p4)]))) := Same.free2 (s36.trans s8) (s36.free he)
      generalize upd H8 e (.frz od2 (.dK [(.inr "a", .ref p1), (.inr "c", .ref p4)])) = H9 at r9 e9 k9 k79 s39 ⊢
      obtain ⟨c1, c2⟩ := lg_dd k79 k9 ra
      refine ⟨⟨r, e, od, od2, kv, _, rfl, rfl, r9, e9, c1, c2⟩, fun HK sK => ⟨false, rfl, iteF ?_⟩⟩
      have s3K : Same H3 HK := s39.trans sK
      clear x0 x1 s8 k8 e8 em he he4 k7 r7 s36 r9 e9 k9 k79 s39 c1 c2 er sK sA sB sC sD hp1 hp2 hp3 hp4 hu1 hu2 hu3 ra
      -- the steps whose last one fails
      refine ⟨_, rfl, _, rfl, q, _, rfl, .of (s3K _ _ g3), fun q1 hq1 => ?_⟩
      have ec : cutV (lgV t1 t2 500) none (some 998) = lgV t1 t2 499 := by
        have := cutF_to id (lgV t1 t2 500) 998
        rw [List.map_id, List.map_id] at this
        exact this.trans (lgV_take t1 t2 499)
      rw [ec]
      have sa := Same.new (o := .lst (lgV t1 t2 499)) hq1
      refine ⟨by show 3 ≤ sizeLine; decide, fun t3 ht3 => ⟨by show 3 ≤ sizeLine; decide, fun t4 ht4 => ⟨by show 2 ≤ sizeLine; decide, fun l2 hl2 => ?_⟩⟩⟩
      have sb := Same.new (o := .tup [.str "pop", .str "a", .str "b"]) ht3
      have sc := Same.new (o := .tup [.str "pop", .str "a", .str "d"]) ht4
      have sd := Same.new (o := .lst [V.ref t3, .ref t4]) hl2
      have hq2 := sd _ _ (sc _ _ (sb _ _ (upd_same (H := HK) (a := q1) (o := .lst (lgV t1 t2 499)))))
      refine ⟨q1, l2, _, _, rfl, rfl, hq2, upd_same, by rw [lgV_len]; show 2 * 499 + 2 ≤ sizeLine; decide, fun q3 hq3 => ?_⟩
      have se := Same.new (o := .lst (lgV t1 t2 499 ++ [.ref t3, .ref t4])) hq3
      refine fun d0 hd0 => ?_
      have sf := Same.new (o := .dK []) hd0
      have b2 := sf _ _ (se _ _ (sd _ _ (upd_same (H := upd (upd HK q1 (.lst (lgV t1 t2 499))) t3 (.tup [.str "pop", .str "a", .str "b"])) (a := t4) (o := .tup [.str "pop", .str "a", .str "d"]))))
      have b1 := sf _ _ (se _ _ (sd _ _ (sc _ _ (upd_same (H := upd HK q1 (.lst (lgV t1 t2 499))) (a := t3) (o := .tup [.str "pop", .str "a", .str "b"])))))
      have b3 := sf _ _ (upd_same (a := q3) (o := .lst (lgV t1 t2 499 ++ [.ref t3, .ref t4])) (H := upd (upd (upd (upd HK q1 (.lst (lgV t1 t2 499))) t3 (.tup [.str "pop", .str "a", .str "b"])) t4 (.tup [.str "pop", .str "a", .str "d"])) l2 (.lst [V.ref t3, .ref t4])))
      have s3z := s3K.trans (((((sa.trans sb).trans sc).trans sd).trans se).trans sf)
      have nv' := nsv_same (nv 499) s3z
      refine ⟨q3, d0, lgV t1 t2 499 ++ [.ref t3, .ref t4], badN, [], [], rfl, .inl (.of b3), by rw [List.length_append, lgV_len]; show 2 * 499 + 2 ≤ 1000; decide, paired_app nv' (.cons ⟨t3, rfl, .of b1⟩ (.cons ⟨t4, rfl, .of b2⟩ .nil)), badN_ok, upd_same, .nil, ⟨.nil, fun p m => (by cases m), by decide⟩, fun _ HM sM => ⟨rfl, false, rfl, iteF ?_⟩, fun hne => absurd bad_run (hne "a")⟩
      -- the last two
      have ek : ∀ u : Addr, mergeK [] [((.inr "a" : Key), V.ref u)] = [(.inr "a", .ref u)] := fun u => rfl
      refine ⟨by show 0 ≤ sizeLine; decide, fun l3 hl3 => ?_⟩
      have m1 := Same.new (o := .lst []) hl3
      have ml3 : upd HM l3 (.lst []) l3 = some (.lst []) := upd_same
      generalize upd HM l3 (.lst []) = HN at m1 ml3 ⊢
      refine fun d hd => ⟨by show 1 ≤ sizeLine; decide, fun u hu => ?_⟩
      have m2 := Same.new (o := .tup [V.str "b"]) hu
      have hd4 := m2 _ _ (upd_same (H := HN) (a := d) (o := .dK []))
      refine ⟨hd4, [(.inr "a", .ref u)], rfl, by show 1 ≤ 15; decide, ?_⟩
      rw [ek]
      have s5 : Same HN (upd (upd (upd HN d (.dK [])) u (.tup [V.str "b"])) d (.dK [((.inr "a" : Key), V.ref u)])) := same_disp hd m2
      have k5 : SkH K (upd (upd (upd HN d (.dK [])) u (.tup [V.str "b"])) d (.dK [((.inr "a" : Key), V.ref u)])) [(.inr "a", .ref u)] [("a", [("b" : Str)])] := .cons ⟨rfl, u, rfl, sqT_upd (.dK hd4) (.of upd_same)⟩ .nil
      have d5 : upd (upd (upd HN d (.dK [])) u (.tup [V.str "b"])) d (.dK [((.inr "a" : Key), V.ref u)]) d = some (.dK [(.inr "a", .ref u)]) := upd_same
      generalize upd (upd (upd HN d (.dK [])) u (.tup [V.str "b"])) d (.dK [((.inr "a" : Key), V.ref u)]) = HO at s5 k5 d5 ⊢
      refine ⟨l3, d, [], [], _, [("a", [("b" : Str)])], rfl, .inl (.of (s5 _ _ ml3)), by decide, .nil, fun s m => (by cases m), d5, k5, one_ok, fun ⟨n, hn⟩ => (by cases hn), fun _ r kv rs H6 s6 nr hr kr ra => ?_⟩
      refine ⟨r, .dK kv, rfl, hr, mut_dK, fun od3 => ?_⟩
      have r7 : upd H6 r (.frz od3 (.dK kv)) r = some (.frz od3 (.dK kv)) := upd_same
      have k7 := skH_upd (o := .frz od3 (.dK kv)) (.dK hr) kr
      generalize upd H6 r (.frz od3 (.dK kv)) = H7 at r7 k7 ⊢
      clear m1 ml3 m2 hd4 s5 k5 d5 s6 nr hr kr
      refine fun e2 he => ⟨by show 1 ≤ sizeLine; decide, fun u2 hu2 => ?_⟩
      have m3 := Same.new (o := .tup [V.str "b"]) hu2
      have he4 := m3 _ _ (upd_same (H := H7) (a := e2) (o := .dK []))
      refine ⟨he4, [(.inr "a", .ref u2)], rfl, by show 1 ≤ 15; decide, ?_⟩
      rw [ek]
      have s8 : Same H7 (upd (upd (upd H7 e2 (.dK [])) u2 (.tup [V.str "b"])) e2 (.dK [((.inr "a" : Key), V.ref u2)])) := same_disp he m3
      have k8 : SkH K (upd (upd (upd H7 e2 (.dK [])) u2 (.tup [V.str "b"])) e2 (.dK [((.inr "a" : Key), V.ref u2)])) [(.inr "a", .ref u2)] [("a", [("b" : Str)])] := .cons ⟨rfl, u2, rfl, sqT_upd (.dK he4) (.of upd_same)⟩ .nil
      have e8 : upd (upd (upd H7 e2 (.dK [])) u2 (.tup [V.str "b"])) e2 (.dK [((.inr "a" : Key), V.ref u2)]) e2 = some (.dK [(.inr "a", .ref u2)]) := upd_same
      generalize upd (upd (upd H7 e2 (.dK [])) u2 (.tup [V.str "b"])) e2 (.dK [((.inr "a" : Key), V.ref u2)]) = H8 at s8 k8 e8 ⊢
      refine ⟨e2, _, rfl, e8, mut_dK, fun od4 => ?_⟩
      have er : r ≠ e2 := fun c => by rw [← c, r7] at he; cases he
      have r9 : upd H8 e2 (.frz od4 (.dK [(.inr "a", .ref u2)])) r = some (.frz od3 (.dK kv)) := by rw [upd_ne er]; exact s8 _ _ r7
      have e9 : upd H8 e2 (.frz od4 (.dK [(.inr "a", .ref u2)])) e2 = some (.frz od4 (.dK [(.inr "a", .ref u2)])) := upd_same
      have k9 := skH_upd (o := .frz od4 (.dK [(.inr "a", .ref u2)])) (.dK e8) k8
      have k79 := skH_upd (o := .frz od4 (.dK [(.inr "a", .ref u2)])) (.dK e8) (skH_same k7 s8)
      generalize upd H8 e2 (.frz od4 (.dK [(.inr "a", .ref u2)])) = H9 at r9 e9 k9 k79 ⊢
      obtain ⟨c1, c2⟩ := one_dd k79 k9 ra
      refine ⟨⟨r, e2, od3, od4, kv, _, rfl, rfl, r9, e9, c1, c2⟩, fun HR sR => ?_⟩
      refine ⟨true, rfl, iteT ?_⟩
      refine ⟨by show 3 ≤ sizeLine; decide, fun t5 ht5 => ⟨by show 1 ≤ sizeLine; decide, fun l5 hl5 => fun d5 hd5 => ?_⟩⟩
      have v1 := Same.new (o := .lst [V.ref t5]) hl5
      have v2 := Same.new (o := .dK []) hd5
      have v3 := v2 _ _ (v1 _ _ (upd_same (H := HR) (a := t5) (o := .tup [.str "pop", .str "a", .str "b"])))
      have v4 := v2 _ _ (upd_same (H := upd HR t5 (.tup [.str "pop", .str "a", .str "b"])) (a := l5) (o := .lst [V.ref t5]))
      refine ⟨l5, d5, [.ref t5], [(false, ("a" : Str), ("b" : Str))], [], [], rfl, .inl (.of v4), (by show 1 ≤ 1000; decide), .cons ⟨t5, rfl, .of v3⟩ .nil, fun s m => (by rw [List.mem_singleton.mp m]; exact ⟨i_a, i_b⟩), upd_same, .nil, ⟨.nil, fun p m => (by cases m), by decide⟩, fun _ HS sS => ?_, fun hne => absurd pop_run (hne "a")⟩
      exact ⟨rfl, k _⟩
    rintro i σ H2 hi ⟨y1, y2, y3, y4, y5, y6, y7, y8, y9, y10, y11, y12, y13, y14, y15, rfl, s2⟩
    refine ⟨_, rfl, _, rfl, a, ns, 0 + i, rfl, Same.seq s2 hS, by omega, by omega, fun p H3 s3 hp p3 => ?_⟩
    refine ⟨_, rfl, _, rfl, p, 3, rfl, p3, by decide, by decide, fun r1 H4 b4 p4 r10 r11 => ⟨1, r1, rfl, rfl, p, 1 + r1, rfl, p4, by omega, by omega, fun nl nms H5 b5 p5 nl0 nlp hnl lnm inm => ?_⟩⟩
    refine ⟨_, rfl, _, rfl, p, 3, rfl, p5, by decide, by decide, fun r2 H6 b6 p6 r20 r21 => ⟨1, r2, rfl, rfl, p, 1 + r2, rfl, p6, by omega, by omega, fun il its H7 b7 p7 il0 ilp hil lit iit => ?_⟩⟩
    refine ⟨by show 2 ≤ sizeLine; decide, fun T0 hT0 => ⟨T0, _, rfl, .of upd_same, rfl, _, _, rfl, _, _, rfl, rfl, ?_⟩⟩
    have sT0 := Same.new (o := .tup [V.ref nl, .ref il]) hT0
    have p7 := p7.same sT0
    have hil := sT0 _ _ hil
    have hnl7' := sT0 _ _ (b7 _ _ nlp (b6 _ _ nlp hnl))
    have bT : But p H3 (upd H7 T0 (.tup [V.ref nl, .ref il])) := ((b4.trans b5).trans (b6.trans b7)).trans fun c o _ h => sT0 c o h
    generalize upd H7 T0 (.tup [V.ref nl, .ref il]) = H7' at p7 hil hnl7' bT ⊢
    clear b7 b6 b5 b4 sT0 hT0
    have nne : nms ≠ [] := fun e => by rw [e] at lnm; simp only [List.length_nil] at lnm; omega
    have zne : its ≠ [] := fun e => by rw [e] at lit; simp only [List.length_nil] at lit; omega
    have hnl7 := hnl7'
    refine ⟨_, rfl, _, rfl, _, rfl, _, rfl, p, 15, rfl, p7, by decide, by decide, fun r3 H8 b8 p8 r30 r31 => ⟨p, nl, il, r3, nms, its, rfl, p8, nlp, b8 _ _ nlp hnl7, nne, by omega, inm, ilp, b8 _ _ ilp hil, zne, by omega, iit, by omega, by omega, fun la us nsN H9 b9 p9 la0 lap hla hns lns nok => ?_⟩⟩
    have hpn : H2 p = none := hp
    have s29 : Same H2 H9 := Same.but3' s3 hp ((bT.trans b8).trans b9)
    have w9 : B52 H2 p la nl il us nsN nms its H9 := ⟨s29, p9, hla, hns, b9 _ _ nlp (b8 _ _ nlp hnl7), b9 _ _ ilp (b8 _ _ ilp hil)⟩
    have nI : ∀ s ∈ nsN, NOk s := fun s m => (nok s m).1
    have l15 : nsN.length ≤ 15 := by omega
    have lus : us.length = nsN.length := Paired.length hns
    clear bT b8 b9 p4 p5 p6 p7 p8 p9 hla hns hnl hnl7 hnl7' hil s3 s29 p3
    -- the need
    refine fun g hg => ?_
    have hg2 : H2 g = none := w9.s2.free hg
    have n0 : N52 K H2 p la nl il us nsN nms its g [] [] (upd H9 g (.dK [])) := ⟨w9.same (Same.new hg), upd_same, .nil⟩
    generalize upd H9 g (.dK []) = H10 at n0 ⊢
    refine ⟨_, rfl, la, us, nsN, rfl, .inl (.of n0.b.hl), by omega, n0.b.hn.v, nI, fun dp es H11 s11 hdp hdk hls pe => ?_⟩
    refine ⟨dp, .dK (kvsE es), rfl, hdk, mut_dK, fun od => ?_⟩
    have pok : PrOk (prtM nsN) nsN.length := by
      have := prtM_ok (ss := nsN) nsN.length nI
      rwa [List.take_length] at this
    have les : es.length = (prtM nsN).length := by rw [← pe]; unfold pE; rw [List.length_map]
    have hdp2 : H2 dp = none := n0.b.s2.free hdp
    have dpg : dp ≠ g := fun e => by rw [e, n0.hg] at hdp; cases hdp
    have n11 := n0.same s11
    have dpp : dp ≠ p := fun e => by
      obtain ⟨_, _, q, _⟩ := n11.b.pl.ex
      rw [e, q] at hdk
      cases hdk
    have nF : N52 K H2 p la nl il us nsN nms its g [] [] (upd H11 dp (.frz od (.dK (kvsE es)))) := n11.updD hdp2 dpg (fun us e => by rw [hdk] at e; cases e) (.dK hdk)
    have hF : upd H11 dp (.frz od (.dK (kvsE es))) dp = some (.frz od (.dK (kvsE es))) := upd_same
    have lsF : LsE (upd H11 dp (.frz od (.dK (kvsE es)))) es := hls.updD (fun us q => by rw [hdk] at q; cases q) (fun us q => by rw [hdk] at q; cases q)
    generalize upd H11 dp (.frz od (.dK (kvsE es))) = HF at nF hF lsF ⊢
    clear n0 n11 s11 hdk hls w9
    refine ⟨dp, od, kvsE es, rfl, hF, for_it walk_items (fun j σ Hx => ∃ (kn : List (Key × V)) (sn : Sk) (z1 z7 z8 z9 : Option V), σ = [some (.ref a), z1, some (.ref p), some (.ref nl), some (.ref il), some (.ref la), some (.ref g), z7, z8, z9, y10, y11, y12, y13, y14, y15] ∧ N52 K H2 p la nl il us nsN nms its g kn sn Hx ∧ SkOk sn j 30 ∧ Hx dp = some (.frz od (.dK (kvsE es))) ∧ LsE Hx es) ⟨[], [], _, _, _, _, rfl, nF, sk0_ok, hF, lsF⟩ (fun j σ Hx _ q => ?_) ?_ ?_⟩
    · obtain ⟨_, _, _, _, _, _, _, _, _, q, _⟩ := q
      exact q
    · rintro j x σ Hx HY hj ⟨kn, sn, z1, z7, z8, z9, rfl, nx, okx, hFx, lsx⟩ ⟨T, x', y', rfl, nT, rfl, hx, hy⟩
      dsimp only at hx hy
      unfold kvsE at hx hy
      rw [List.getElem?_map] at hx hy
      obtain ⟨e, he, rfl, rfl⟩ : ∃ e, es[j]? = some e ∧ x' = V.str e.1 ∧ y' = V.ref e.2.1 := by
        cases hq : es[j]? with
        | none =>
          rw [hq] at hx
          cases hx
        | some e =>
          rw [hq] at hx hy
          cases hx
          cases hy
          exact ⟨e, rfl, rfl, rfl⟩
      have pj : (prtM nsN)[j]? = some (e.1, e.2.2) := by
        rw [← pe]
        unfold pE
        rw [List.getElem?_map, he]
        rfl
      obtain ⟨q1, q2, q3⟩ := pok.ok _ (List.mem_of_getElem? pj)
      have q3 : e.2.2.length ≤ nsN.length := q3
      have sT : Same Hx (upd Hx T (.tup [.str e.1, .ref e.2.1])) := Same.new nT
      have j15 : j < 15 := by
        have h1 := (List.getElem?_eq_some_iff.mp pj).1
        have h2 := pok.len
        omega
      refine ⟨T, _, rfl, .of upd_same, rfl, _, _, rfl, _, _, rfl, rfl, ?_⟩
      have n4 := nx.same sT
      have ls4 := lsx.same sT
      have hF4 := sT _ _ hFx
      generalize upd Hx T (.tup [.str e.1, .ref e.2.1]) = H4 at n4 ls4 hF4
      clear sT nx lsx hFx nT nF lsF hF
      have fin : ∀ (w : Addr) (st : List Str) (H6 : Hp), N52 K H2 p la nl il us nsN nms its g kn sn H6 → H6 dp = some (.frz od (.dK (kvsE es))) → LsE H6 es → SqT K H6 w (st.map V.str) → (∀ z ∈ st, z ∈ its ∨ Item z) → st.length ≤ 30 → kn.length < sizeLine ∧ N52 K H2 p la nl il us nsN nms its g (putK kn (Sum.inr e.1) (.ref w)) (putS sn e.1 st) (upd H6 g (.dK (putK kn (Sum.inr e.1) (.ref w)))) ∧ SkOk (putS sn e.1 st) (j + 1) 30 ∧ upd H6 g (.dK (putK kn (Sum.inr e.1) (.ref w))) dp = some (.frz od (.dK (kvsE es))) ∧ LsE (upd H6 g (.dK (putK kn (Sum.inr e.1) (.ref w)))) es := fun w st H6 n6 f6 l6 hw is l30 => by
        refine ⟨?_, n6.put hg2 hw, putS_ok okx q1 (fun z m => (is z m).elim (iit z) id) l30 (Nat.le_refl _), ?_, l6.updD (fun us q => by rw [n6.hg] at q; cases q) (fun us q => by rw [n6.hg] at q; cases q)⟩
        · have h1 := paired_len n6.hk
          have h2 := okx.len
          rw [sizeLine_eq]
          omega
        · rw [upd_ne dpg]
          exact f6
      obtain ⟨us', hL4, hs4⟩ := ls4 e (List.mem_of_getElem? he)
      have l4 : us'.length = e.2.2.length := hs4.length
      refine ⟨_, rfl, e.2.1, us', e.2.2, rfl, .of hL4, hs4.v, q2, by omega, fun H5 s5 => ?_, fun xs z pk t u H5 s5 ht hu' ix lx => ?_⟩
      · have n5 := n4.same s5
        refine ⟨_, rfl, rfl, false, rfl, iteF ?_⟩
        refine ⟨_, rfl, _, rfl, p, il, 4, its, rfl, n5.b.pl, ilp, n5.b.hi, zne, by omega, by decide, by decide, fun w ws H6 b6 p6 w0 hw lw mw => ?_⟩
        obtain ⟨f1, f2, f3, f4, f5⟩ := fin w ws H6 (n5.but b6 p6 hpn lap nlp ilp) (b6 _ _ dpp (s5 _ _ hF4)) ((ls4.same s5).but n5.b.pl b6) (.of hw) (fun z m => .inl (mw z m)) (by omega)
        exact ⟨_, rfl, _, rfl, g, _, rfl, DPut.k (k := Sum.inr e.1) (n5.but b6 p6 hpn lap nlp ilp).hg f1, _, _, _, _, _, _, rfl, f2, f3, f4, f5⟩
      · have n5 := n4.same s5
        refine ⟨_, rfl, rfl, true, rfl, iteT ?_⟩
        refine ⟨_, rfl, t, _, 0, .ref u, rfl, rfl, .of ht, rfl, ?_⟩
        refine ⟨_, rfl, _, rfl, p, il, 3, its, rfl, n5.b.pl, ilp, n5.b.hi, zne, by omega, by decide, by decide, fun w ws H6 b6 p6 w0 hw lw mw => ?_⟩
        have up : u ≠ p := n5.b.pl.ne hu'
        have n6 := n5.but b6 p6 hpn lap nlp ilp
        refine ⟨u, w, xs.map V.str, ws.map V.str, rfl, rfl, .of (b6 _ _ up hu'), .of hw, by rw [List.length_map, List.length_map, sizeLine_eq]; omega, fun q H7 s7 hq => ?_⟩
        rw [← List.map_append] at hq
        obtain ⟨f1, f2, f3, f4, f5⟩ := fin q (xs ++ ws) H7 (n6.same s7) (s7 _ _ (b6 _ _ dpp (s5 _ _ hF4))) (((ls4.same s5).but n5.b.pl b6).same s7) hq (fun z m => (List.mem_append.mp m).elim (fun m => .inr (ix z m)) fun m => .inl (mw z m)) (by rw [List.length_append]; omega)
        exact ⟨_, rfl, _, rfl, g, _, rfl, DPut.k (k := Sum.inr e.1) (n6.same s7).hg f1, _, _, _, _, _, _, rfl, f2, f3, f4, f5⟩
    rintro σ Hx ⟨kn, sn, z1, z7, z8, z9, rfl, nx, okx, _, _⟩
    have okn : SkOk sn 15 30 := okx.mono (by rw [show (kvsE es).length = es.length by unfold kvsE; rw [List.length_map], les]; exact Nat.le_trans pok.len l15) (Nat.le_refl _)
    clear okx nF hF lsF pe les
    -- some of them
    refine ⟨g, .dK kn, nx.hg, mut_dK, fun od2 => ?_⟩
    have m0 : M52 K H2 p la nl il us nsN nms its g od2 kn sn (upd Hx g (.frz od2 (.dK kn))) := nx.lock hg2
    have lkn : kn.length = sn.length := paired_len nx.hk
    have lsn := okn.len
    generalize upd Hx g (.frz od2 (.dK kn)) = HG at m0 ⊢
    refine ⟨_, rfl, g, od2, rfl, .inl ⟨kn, m0.hg, fun DD hDD => lc_it walk_keys (fun j HX => M52 K H2 p la nl il us nsN nms its g od2 kn sn HX ∧ Prs K HX DD j 30) ⟨m0.same (Same.new hDD), .nil⟩ (fun j HX _ q => q.1.hg) ?_ ?_⟩⟩
    · rintro j x HY HX hj ⟨m1, pr1⟩ ⟨rfl, k', v', hkv, rfl⟩
      obtain ⟨n, st, t, hsn, rfl, rfl, ht, hget⟩ := m1.get okn.nd hkv
      obtain ⟨D0, D1, D2, _, D4⟩ := m0.b.fresh hDD
      obtain ⟨E0, E1, E2, E3, E4⟩ := m0.b.fresh hDD
      have pm := okn.ok (n, st) (List.mem_of_getElem? hsn)
      refine ⟨rfl, _, rfl, p, 3, rfl, m1.b.pl, by decide, by decide, fun r H4 b4 p4 r0 r1 => ⟨r, 0, rfl, rfl, decide (r > 0), rfl, ?_⟩⟩
      have m4 := m1.but b4 p4 hpn lap nlp ilp
      have pr4 := pr1.but E0 m1.b.pl.noT b4
      cases decide (r > 0) with
      | false => exact iteF ⟨m4, pr4.mono (by omega)⟩
      | true =>
        obtain ⟨n', st', t', hsn', en, et, ht', hget'⟩ := m4.get okn.nd hkv
        cases en
        cases et
        rw [hsn] at hsn'
        cases hsn'
        refine iteT ⟨_, rfl, _, rfl, _, rfl, g, _, rfl, hget', by show 2 ≤ sizeLine; decide, fun T hT => ?_⟩
        have sT := Same.new (o := .tup [.str n, .ref t]) hT
        obtain ⟨acc, f1, f2, f3⟩ := (pr4.same sT).snoc (T := T) (t := t) (n := n) (st := st) (.of upd_same) (Same.tup sT ht') pm.1 pm.2.1 pm.2.2 (by omega)
        exact ⟨acc, f1, f2, (m4.same sT).updL E4 f1 E0 E1 E2 E3, f3⟩
    rintro HX ⟨m1, pr1⟩
    obtain ⟨E0, E1, E2, E3, E4⟩ := m0.b.fresh hDD
    have DDg : DD ≠ g := fun e => by rw [e, m0.hg] at hDD; cases hDD
    have n2 := m1.unlock hg2
    have pr2 := pr1.upd (o := .dK kn) DDg (.dF m1.hg)
    refine ⟨m1.hg, ?_⟩
    generalize upd HX g (.dK kn) = HB at n2 pr2 ⊢
    dsimp only [tNil]
    obtain ⟨psd1, kvsd1, q1, q2, q3⟩ := pr2.facts (by omega) (by decide)
    refine ⟨DD, psd1, kvsd1, rfl, q1, q2, fun d1 hd1 => ?_⟩
    have dk1 := q3 d1 hd1
    clear q1 q2 q3
    generalize mergeK [] kvsd1 = ks1 at dk1 ⊢
    have w1 := n2.b.same (Same.new (o := .dK ks1) hd1)
    have dg1 : DctOk K (upd HB d1 (.dK ks1)) g := DctOk.same ⟨kn, sn, n2.hg, n2.hk, okn.mono (by decide) (by decide)⟩ (Same.new hd1)
    have hd12 : H2 d1 = none := n2.b.s2.free hd1
    clear n2 pr2 pr1 m1 m0 nx E0 E1 E2 E3 E4 DDg hDD hdp hdp2 dpg dpp hg
    generalize upd HB d1 (.dK ks1) = HC at w1 dg1 dk1 ⊢
    -- the others
    refine ⟨_, rfl, (by show 1 ≤ sizeLine; decide), fun mr' hmr => ?_⟩
    have sm := Same.new (o := .lst [.str "more"]) hmr
    refine ⟨nl, mr', nms.map V.str, [.str "more"], rfl, rfl, sm _ _ w1.nn, upd_same, by rw [List.length_map, sizeLine_eq]; show nms.length + 1 ≤ _; omega, fun lm hlm => ?_⟩
    have sl := Same.new (o := .lst (nms.map V.str ++ [.str "more"])) hlm
    have hl1 : upd (upd HC mr' (.lst [.str "more"])) lm (.lst (nms.map V.str ++ [.str "more"])) lm = some (.lst ((nms ++ [("more" : Str)]).map V.str)) := by rw [upd_same, List.map_append]; rfl
    have w2 := (w1.same sm).same sl
    have dg2 := (dg1.same sm).same sl
    have dk2 := (dk1.same sm).same sl
    have inm2 : ∀ z ∈ nms ++ [("more" : Str)], Item z := fun z m => (List.mem_append.mp m).elim (inm z) fun m => by rw [List.mem_singleton.mp m]; exact i_more
    have el : nms.map V.str ++ [.str "more"] = (nms ++ [("more" : Str)]).map V.str := by rw [List.map_append]; rfl
    rw [el] at w2 dg2 dk2 hl1 ⊢
    have lnm2 : (nms ++ [("more" : Str)]).length ≤ 4 := by rw [List.length_append, List.length_singleton]; omega
    generalize upd (upd HC mr' (.lst [.str "more"])) lm (.lst ((nms ++ [("more" : Str)]).map V.str)) = HD at w2 dg2 dk2 hl1 ⊢
    clear sm sl hmr hlm w1 dg1 dk1 el
    generalize nms ++ [("more" : Str)] = nm2 at inm2 lnm2 hl1 ⊢
    refine ⟨lm, rfl, ⟨_, .of hl1⟩, fun DD hDD => lc_list (K := K) (a := lm) (xs := nm2.map V.str) (fun j HX => B52 H2 p la nl il us nsN nms its HX ∧ DctOk K HX g ∧ DctOk K HX d1 ∧ HX lm = some (.lst (nm2.map V.str)) ∧ Prs K HX DD j 30) ⟨w2.same (Same.new hDD), dg2.same (Same.new hDD), dk2.same (Same.new hDD), Same.new hDD _ _ hl1, .nil⟩ (fun j HX _ q => .of q.2.2.2.1) ?_ ?_⟩
    · rintro j x HX hx ⟨w3, dg3, dk3, hl3, pr3⟩
      rw [List.getElem?_map] at hx
      obtain ⟨n, hj, rfl⟩ : ∃ n, nm2[j]? = some n ∧ x = V.str n := by
        cases hq : nm2[j]? with
        | none =>
          rw [hq] at hx
          cases hx
        | some n =>
          rw [hq] at hx
          cases hx
          exact ⟨n, rfl, rfl⟩
      have jl := (List.getElem?_eq_some_iff.mp hj).1
      obtain ⟨E0, E1, E2, E3, E4⟩ := w2.fresh hDD
      have lmp : lm ≠ p := fun e => by
        obtain ⟨_, _, q, _⟩ := w2.pl.ex
        rw [e, q] at hl1
        cases nm2 with
        | nil => cases hl1
        | cons z r => simp at hl1
      have lmD : lm ≠ DD := fun e => by rw [e, hDD] at hl1; cases hl1
      refine ⟨rfl, yes_in ⟨_, rfl, _, rfl, _, rfl, p, il, 4, its, rfl, w3.pl, ilp, w3.hi, zne, by omega, by decide, by decide, fun w ws H6 b6 p6 w0 hw lw mw => ⟨by show 2 ≤ sizeLine; decide, fun T hT => ?_⟩⟩⟩
      have sT := Same.new (o := .tup [.str n, .ref w]) hT
      have w4 := (w3.but b6 p6 hpn lap nlp ilp).same sT
      have dg4 := (dg3.but (dg3.nep w3.pl) w3.pl.noT b6).same sT
      have dk4 := (dk3.but (dk3.nep w3.pl) w3.pl.noT b6).same sT
      have pr4 := (pr3.but E0 w3.pl.noT b6).same sT
      obtain ⟨acc, f1, f2, f3⟩ := pr4.snoc (T := T) (t := w) (n := n) (st := ws) (.of upd_same) (.of (sT _ _ hw)) (inm2 n (List.mem_of_getElem? hj)) (fun z m => iit z (mw z m)) (by omega) (by omega)
      refine ⟨acc, f1, f2, w4.updL E4 f1 E0 E1 E2 E3, dg4.upd (dg4.nel f1) (.lst f1), dk4.upd (dk4.nel f1) (.lst f1), ?_, f3⟩
      rw [upd_ne lmD]
      exact sT _ _ (b6 _ _ lmp hl3)
    rintro HX ⟨w3, dg3, dk3, hl3, pr3⟩
    rw [List.length_map] at pr3
    dsimp only [tNil]
    obtain ⟨psd2, kvsd2, q1, q2, q3⟩ := pr3.facts (by omega) (by decide)
    refine ⟨DD, psd2, kvsd2, rfl, q1, q2, fun d2 hd2 => ?_⟩
    have dl3 := q3 d2 hd2
    clear q1 q2 q3
    generalize mergeK [] kvsd2 = ks2 at dl3 ⊢
    have w4 := w3.same (Same.new (o := .dK ks2) hd2)
    have dg4 := dg3.same (Same.new (o := .dK ks2) hd2)
    have dk4 := dk3.same (Same.new (o := .dK ks2) hd2)
    clear w2 dg2 dk2 hl1 w3 dg3 dk3 hl3 pr3 hDD
    generalize upd HX d2 (.dK ks2) = HE at w4 dg4 dk4 dl3 ⊢
    -- the heaps
    refine ⟨_, rfl, _, rfl, _, rfl, fun d3 hd3 => ⟨by show 4 ≤ sizeLine; decide, fun hL hhL => ?_⟩⟩
    have s3 := Same.new (o := .dK []) hd3
    have s4 := Same.new (o := .lst [.ref g, .ref d1, .ref d2, .ref d3]) hhL
    have w5 := (w4.same s3).same s4
    have all4 : ∀ x ∈ [V.ref g, .ref d1, .ref d2, .ref d3], ∃ d, x = .ref d ∧ DctOk K (upd (upd HE d3 (.dK [])) hL (.lst [.ref g, .ref d1, .ref d2, .ref d3])) d := fun x m => by
      simp only [List.mem_cons, List.not_mem_nil, or_false] at m
      rcases m with rfl | rfl | rfl | rfl
      · exact ⟨_, rfl, (dg4.same s3).same s4⟩
      · exact ⟨_, rfl, (dk4.same s3).same s4⟩
      · exact ⟨_, rfl, (dl3.same s3).same s4⟩
      · exact ⟨_, rfl, [], [], s4 _ _ upd_same, .nil, sk0_ok.mono (by decide) (Nat.le_refl _)⟩
    have hL5 : upd (upd HE d3 (.dK [])) hL (.lst [.ref g, .ref d1, .ref d2, .ref d3]) hL = some (.lst [.ref g, .ref d1, .ref d2, .ref d3]) := upd_same
    generalize upd (upd HE d3 (.dK [])) hL (.lst [.ref g, .ref d1, .ref d2, .ref d3]) = HJ at w5 all4 hL5 ⊢
    clear s3 s4 w4 dg4 dk4 dl3 hd3 hhL hd2
    refine ⟨hL, rfl, ⟨_, .of hL5⟩, for_it (walk_list (K := K) (a := hL) (xs := [.ref g, .ref d1, .ref d2, .ref d3])) (fun j σ HX => ∃ (x1 x7 x8 x9 x12 : Option V), σ = [some (.ref a), x1, some (.ref p), some (.ref nl), some (.ref il), some (.ref la), some (.ref g), x7, x8, x9, some (.ref d1), some (.ref d2), x12, y13, y14, y15] ∧ Same HJ HX) ⟨_, _, _, _, _, rfl, Same.refl _⟩ (fun j σ HX _ q => ?_) ?_ ?_⟩
    · obtain ⟨_, _, _, _, _, _, q⟩ := q
      exact .of (q _ _ hL5)
    · rintro j x σ HX HY hj ⟨x1, x7, x8, x9, x12, rfl, sx⟩ ⟨rfl, hx⟩
      obtain ⟨d, rfl, ks, ss, hd, hk, ok⟩ := all4 x (List.mem_of_getElem? hx)
      have wx := w5.same sx
      refine ⟨_, rfl, _, rfl, la, d, us, nsN, ks, ss, 30, 100, rfl, .inl (.of wx.hl), wx.hn.v, nI, by omega, sx _ _ hd, skH_same hk sx, ok, by decide, by decide, fun H6 s6 => ⟨true, rfl, iteF ?_⟩⟩
      have s56 := sx.trans s6
      have w6 := w5.same s56
      refine ⟨_, rfl, la, us, rfl, .inl ⟨.of w6.hl, fun tt ht => ?_⟩⟩
      have st := Same.new (o := .tup us) ht
      have s57 := s56.trans st
      have w7 := w5.same s57
      refine ⟨_, rfl, tt, d, us, nsN, ks, ss, 30, 100, rfl, .inr (.of upd_same), w7.hn.v, nI, by omega, s57 _ _ hd, skH_same hk s57, ok, by decide, by decide, fun H8 s8 => ⟨true, rfl, iteF ?_⟩⟩
      exact ⟨_, _, _, _, _, rfl, s57.trans s8⟩
    rintro σ HX ⟨x1, x7, x8, x9, x12, rfl, sx⟩
    have wN := w5.same sx
    clear w5 sx all4 hL5
    -- the odd ones
    dsimp only
    refine go_asg (list_A (K := K) fun q vsA H1 s1 hq0 hq1 pA => ?_)
    refine ⟨_, rfl, ?_⟩
    refine list_C (P := P) (w := w) (K := K) fun q2 vsC H3' s3' hq20 hq21 pC => ?_
    have lA : vsA.length = 6 := Paired.length pA
    have lC : vsC.length = 9 := Paired.length pC
    refine ⟨q, q2, vsA, vsC, rfl, rfl, s3' _ _ hq1, hq21, by rw [lA, lC, sizeLine_eq]; omega, fun q3 hq3 => ?_⟩
    have s4 := Same.new (o := .lst (vsA ++ vsC)) hq3
    have hq4 : upd H3' q3 (.lst (vsA ++ vsC)) q3 = some (.lst (vsA ++ vsC)) := upd_same
    have wZ := ((wN.same s1).same s3').same s4
    have pA4 : Paired (RpZ P w K (upd H3' q3 (.lst (vsA ++ vsC)))) vsA oddsA := Paired.mapP pA fun _ _ z => (z.same s3').same s4
    have pC4 : Paired (RpZ P w K (upd H3' q3 (.lst (vsA ++ vsC)))) vsC oddsC := Paired.mapP pC fun _ _ z => z.same s4
    generalize upd H3' q3 (.lst (vsA ++ vsC)) = HZ at hq4 wZ pA4 pC4 ⊢
    clear s1 s3' s4 pA pC hq0 hq1 hq20 hq21 hq3 wN
    refine ⟨q3, rfl, ⟨_, .of hq4⟩, for_it (walk_list (K := K) (a := q3) (xs := vsA ++ vsC)) (fun j σ HX => ∃ (x1 x7 x8 x9 x12 x14 : Option V), σ = [some (.ref a), x1, some (.ref p), some (.ref nl), some (.ref il), some (.ref la), some (.ref g), x7, x8, x9, some (.ref d1), some (.ref d2), x12, some (.ref q), x14, y15] ∧ Same HZ HX) ⟨_, _, _, _, _, _, rfl, Same.refl _⟩ (fun j σ HX _ q => ?_) ?_ ?_⟩
    · obtain ⟨_, _, _, _, _, _, _, q⟩ := q
      exact .of (q _ _ hq4)
    · rintro j x σ HX HY hj ⟨x1, x7, x8, x9, x12, x14, rfl, sx⟩ ⟨rfl, hx⟩
      obtain ⟨d, hz, zok, ad, shd, f1, f2⟩ := oddAt pA4 pC4 hx
      have wx := wZ.same sx
      refine ⟨_, rfl, _, rfl, .inr ⟨la, us, nsN, x, d, rfl, .inl (.of wx.hl), by omega, wx.hn.v, nI, hz.same sx, zok, ad, shd, fun l1 H6 s6 n6 h6 => ?_⟩⟩
      have s56 := sx.trans s6
      refine ⟨_, rfl, x, d, rfl, hz.same s56, shd.1, shd.2.1, shd.2.2, (by show 3 ≤ sizeLine; decide), fun l2 hl2 => ?_⟩
      have s7 := Same.new (o := .lst [.str "stacks", .str d.shown, .bl true]) hl2
      refine ne_data f1 f2 (.lst (.of (s7 _ _ h6)) (.cons (.str _) (.cons (.str _) (.cons (.bl _) .nil)))) (.lst (.of upd_same) (.cons (.str _) (.cons (.str _) (.cons (.bl _) .nil)))) ⟨_, rfl, iteF ?_⟩
      have s57 := s56.trans s7
      generalize upd H6 l2 (.lst [.str "stacks", .str d.shown, .bl true]) = H7 at s57 ⊢
      refine ⟨by show 1 ≤ sizeLine; decide, fun l3 hl3 => ?_⟩
      have s8 := Same.new (o := .lst [.non]) hl3
      refine ⟨_, rfl, .inl ⟨.ref l3, x, .list [.none], .int 0, rfl, .lst (.of upd_same) (.cons .non .nil), sm_ok (by decide +kernel), bad_non, fun l4 H9 s9 n9 h9 => ?_⟩⟩
      refine ⟨by show 2 ≤ sizeLine; decide, fun l5 hl5 => ?_⟩
      have s10 := Same.new (o := .lst [.str "steps", .int 0]) hl5
      have f3 := ft_of (d := .list [.str "steps", .int 0]) (by decide +kernel)
      refine ne_data f3.1 f3.2 (.lst (.of (s10 _ _ h9)) (.cons (.str _) (.cons (.int _) .nil))) (.lst (.of upd_same) (.cons (.str _) (.cons (.int _) .nil))) ⟨_, rfl, iteF ?_⟩
      exact ⟨_, _, _, _, _, _, rfl, ((s57.trans s8).trans s9).trans s10⟩
    rintro σ HX ⟨x1, x7, x8, x9, x12, x14, rfl, sx⟩
    exact ⟨_, _, _, _, _, _, _, _, _, _, _, _, _, _, _, rfl, s2.trans (wZ.s2.trans sx)⟩
end
end SE
namespace SE
open PySem PySem.Spec PyProof.Rows L2
section
/-! ### what the top has left -/
theorem scI_InvalidSteps : FnScope ["self", "index"] ["self", "index"] (defScope (inClass sInvalidsteps 0)) := ⟨rfl, rfl, rfl, by decide +kernel, rfl, by decide +kernel, by decide +kernel⟩
theorem scI_InvalidStacks : FnScope ["self", "value"] ["self", "value"] (defScope (inClass sInvalidstacks 0)) := ⟨rfl, rfl, rfl, by decide +kernel, rfl, by decide +kernel, by decide +kernel⟩
theorem def_mk {K : PySem.W.Frag} {h : Heap} {mg : Str → Option Value} {x : Str} {st : Stmt} {f : Addr} {oc : Value} {od an : Option Addr} {osl : Array (Option Value)} {kV doc pm cdv ct : Value} (X : K.In h) (G : h.Ns mainGlobals mg)
    (a : PySem.W.nsIn K mainGlobals x = some (some (.ref f))) (l : K.lookup f = some ⟨oc, od, .func (PySem.W.fnOf x x (defArgs st) (defBody st) (defScope st) .none kV doc pm an cdv ct), osl⟩)
    (c : PySem.W.codeIn K cdv x = true) (k : PySem.W.keepIn K (.ref f) = true) : Def K mg x st := ⟨f, _, fun_mk l c k, PySem.W.mg_of X G a⟩
theorem kit_val {K : PySem.W.Frag} {C : Addr} (h1 : PySem.W.subIn K (.ref C) (.type "ValueError") = some true) : PySem.W.kitOne K (.ref C) (.type "ValueError") = some true := by
  unfold PySem.W.kitOne
  rw [if_neg (by simp)]
  show (if PySem.W.kitMeta "ValueError" = true then PySem.W.subIn K (.ref C) (.type "ValueError") else none) = some true
  rw [if_pos (by decide +kernel)]
  exact h1
theorem kit_below {K : PySem.W.Frag} {C S : Addr} (h1 : PySem.W.subIn K (.ref C) (.ref S) = some true) (h2 : PySem.W.typeIn K (.ref S) = some (.type "type")) (h3 : PySem.W.hasDictIn K S = true) : PySem.W.kitOne K (.ref C) (.ref S) = some true := by
  obtain ⟨cd, hc, _⟩ := PySem.W.any_some h3
  unfold PySem.W.kitOne
  split
  · rfl
  · show (if ((PySem.W.clsIn K S).isSome && PySem.W.typeIn K (.ref S) == some (.type "type")) = true then PySem.W.subIn K (.ref C) (.ref S) else none) = some true
    rw [if_pos (by rw [hc, h2]; rfl)]
    exact h1
theorem all_mk {l : PySem.W.OpenLaw} {w : World} {K : PySem.W.Frag} {h : Heap} {mg : Str → Option Value} {fa fL D S CX0 gX0 NX0 CX1 gX1 NX1 : Addr} {tk1 tk2 tk3 : Tok} (X : K.In h) (G : h.Ns mainGlobals mg) (hfa : mg "law" = some (.ref fa))
    {es : Array DictEntry} {n : Nat} {uP uQ : Value}
    {nmX0 qX0 : Str} {bsX0 : List Value} {snX0 : List Str} {subX0 : List Value} {abX0 : Bool} {colX0 : Option Bool} {ddX0 odX0 anX0 : Option Addr} {m0X0 m1X0 m2X0 m3X0 m5X0 : Option Value} {slX0 : Array (Option Value)} {ocX0 kVX0 dcX0 pmX0 cdX0 ctX0 : Value}
    {nmX1 qX1 : Str} {bsX1 : List Value} {snX1 : List Str} {subX1 : List Value} {abX1 : Bool} {colX1 : Option Bool} {ddX1 odX1 anX1 : Option Addr} {m0X1 m1X1 m2X1 m3X1 m5X1 : Option Value} {slX1 : Array (Option Value)} {ocX1 kVX1 dcX1 pmX1 cdX1 ctX1 : Value}
    {odL anL : Option Addr} {slL : Array (Option Value)} {ocL kVL dcL pmL cdL ctL : Value}
    (d_is_item : Def K mg "is_item" sIsItem)
    (d_is_word : Def K mg "is_word" sIsWord)
    (d_is_step : Def K mg "is_step" sIsStep)
    (d_may_hold_steps : Def K mg "may_hold_steps" sMayHold)
    (d_is_too_high : Def K mg "is_too_high" sTooHigh)
    (d_after_step : Def K mg "after_step" sAfter)
    (d_follow : Def K mg "follow" sFollow)
    (d_is_named_step : Def K mg "is_named_step" sIsNamedStep)
    (d_check_named_steps : Def K mg "check_named_steps" sCheckNamedSteps)
    (d_are_stacks : Def K mg "are_stacks" sAreStacks)
    (d_check_stacks : Def K mg "check_stacks" sCheckStacks)
    (d_split : Def K mg "split" sSplit)
    (d_run_all : Def K mg "run_all" sRunAll)
    (d__law_pool : Def K mg "_law_pool" sPool)
    (d__law_take : Def K mg "_law_take" sTake)
    (d__law_name : Def K mg "_law_name" sName)
    (d__law_items : Def K mg "_law_items" sItems)
    (d__law_word : Def K mg "_law_word" sWord)
    (d__law_named_well : Def K mg "_law_named_well" sLawNamedWell)
    (d__law_parts : Def K mg "_law_parts" sLawParts)
    (d__law_effect : Def K mg "_law_effect" sLawEffect)
    (d__law_due : Def K mg "_law_due" sLawDue)
    (d__law_right : Def K mg "_law_right" sRight)
    (d__law_told : Def K mg "_law_told" sLawTold)
    (z_isinstance : PySem.W.nsIn K mainGlobals "isinstance" = some none)
    (z_str : PySem.W.nsIn K mainGlobals "str" = some none)
    (z_len : PySem.W.nsIn K mainGlobals "len" = some none)
    (z_all : PySem.W.nsIn K mainGlobals "all" = some none)
    (z_tuple : PySem.W.nsIn K mainGlobals "tuple" = some none)
    (z_list : PySem.W.nsIn K mainGlobals "list" = some none)
    (z_enumerate : PySem.W.nsIn K mainGlobals "enumerate" = some none)
    (z_range : PySem.W.nsIn K mainGlobals "range" = some none)
    (z_abs : PySem.W.nsIn K mainGlobals "abs" = some none)
    (z_int : PySem.W.nsIn K mainGlobals "int" = some none)
    (z_max : PySem.W.nsIn K mainGlobals "max" = some none)
    (z_min : PySem.W.nsIn K mainGlobals "min" = some none)
    (z_repr : PySem.W.nsIn K mainGlobals "repr" = some none)
    (z_dict : PySem.W.nsIn K mainGlobals "dict" = some none)
    (z_sorted : PySem.W.nsIn K mainGlobals "sorted" = some none)
    (z_ValueError : PySem.W.nsIn K mainGlobals "ValueError" = some none)
    (cL : PySem.W.nsIn K mainGlobals "LETTERS" = some (some (.str abc tk1)))
    (cM : PySem.W.nsIn K mainGlobals "MOST_LETTERS" = some (some (.int 8 tk2)))
    (cS : PySem.W.nsIn K mainGlobals "MOST_STEPS" = some (some (.int 1000 tk3)))
    (cO : PySem.W.nsIn K mainGlobals "OPPOSITES" = some (some (.ref D)))
    (lO : K.lookup D = some ⟨.type "dict", none, .dict es n, #[]⟩)
    (kO : PySem.W.KeysLit w.params es.toList)
    (wO : (D == sysModules) = false)
    (pO : PySem.W.nsIn K D "push" = some (some uP))
    (qO : PySem.W.nsIn K D "pop" = some (some uQ))
    (rP : RelV (.str "pop") uP)
    (rQ : RelV (.str "push") uQ)
    (oK : OppKeys es.toList)
    (n10 : PySem.W.subIn K (.ref CX1) (.ref CX0) = some false)
    (vN : PySem.W.subIn K (.ref CX1) (.type "ValueError") = some true)
    (aS : PySem.W.nsIn K mainGlobals "StackError" = some (some (.ref S)))
    (tS : PySem.W.typeIn K (.ref S) = some (.type "type"))
    (hS : PySem.W.hasDictIn K S = true)
    (cg : PySem.W.specialIn K (.builtin "object.__class__") "__get__" = some (some (.builtin "getset_descriptor.__get__")))
    (ct : PySem.W.takesIn K (.builtin "object.__class__") = some true)
    (aX0 : PySem.W.nsIn K mainGlobals "InvalidSteps" = some (some (.ref CX0)))
    (xX0 : K.lookup CX0 = some (excClassObj nmX0 qX0 CX0 NX0 bsX0 [.ref S, .type "ValueError", .type "Exception", .type "BaseException", .type "object"] true snX0 subX0 abX0 colX0 ddX0 m0X0 m1X0 m2X0 m3X0 m5X0 "ValueError.__new__"))
    (saX0 : PySem.W.findIn K (.ref CX0) "__setattr__" = some (some (.builtin "object.__setattr__")))
    (gaX0 : PySem.W.findIn K (.ref CX0) "__getattribute__" = some (some (.builtin "BaseException.__getattribute__")))
    (ggX0 : PySem.W.findIn K (.ref CX0) "__getattr__" = some none)
    (nfX0 : PySem.W.findIn K (.ref CX0) "index" = some none)
    (iiX0 : PySem.W.findIn K (.ref CX0) "__init__" = some (some (.ref gX0)))
    (tiX0 : PySem.W.typeIn K (.ref gX0) = some (.type "function"))
    (lX0 : K.lookup gX0 = some ⟨ocX0, odX0, .func (PySem.W.fnOf "__init__" "InvalidSteps.__init__" (defArgs (inClass sInvalidsteps 0)) (defBody (inClass sInvalidsteps 0)) (defScope (inClass sInvalidsteps 0)) .none kVX0 dcX0 pmX0 anX0 cdX0 ctX0), slX0⟩)
    (cX0 : PySem.W.codeIn K cdX0 "InvalidSteps.__init__" = true)
    (kX0 : PySem.W.keepIn K (.ref gX0) = true)
    (kCX0 : PySem.W.keepIn K (.ref CX0) = true)
    (eCX0 : PySem.W.subIn K (.ref CX0) (.type "BaseException") = some true)
    (tCX0 : PySem.W.typeIn K (.ref CX0) = some (.type "type"))
    (hCX0 : PySem.W.hasDictIn K CX0 = true)
    (sCX0 : PySem.W.subIn K (.ref CX0) (.ref CX0) = some true)
    (sSX0 : PySem.W.subIn K (.ref CX0) (.ref S) = some true)
    (ccX0 : PySem.W.findIn K (.ref CX0) "__class__" = some (some (.builtin "object.__class__")))
    (moX0 : PySem.W.mroIn K CX0 (.type "object") = some true)
    (aX1 : PySem.W.nsIn K mainGlobals "InvalidStacks" = some (some (.ref CX1)))
    (xX1 : K.lookup CX1 = some (excClassObj nmX1 qX1 CX1 NX1 bsX1 [.ref S, .type "ValueError", .type "Exception", .type "BaseException", .type "object"] true snX1 subX1 abX1 colX1 ddX1 m0X1 m1X1 m2X1 m3X1 m5X1 "ValueError.__new__"))
    (saX1 : PySem.W.findIn K (.ref CX1) "__setattr__" = some (some (.builtin "object.__setattr__")))
    (gaX1 : PySem.W.findIn K (.ref CX1) "__getattribute__" = some (some (.builtin "BaseException.__getattribute__")))
    (ggX1 : PySem.W.findIn K (.ref CX1) "__getattr__" = some none)
    (nfX1 : PySem.W.findIn K (.ref CX1) "value" = some none)
    (iiX1 : PySem.W.findIn K (.ref CX1) "__init__" = some (some (.ref gX1)))
    (tiX1 : PySem.W.typeIn K (.ref gX1) = some (.type "function"))
    (lX1 : K.lookup gX1 = some ⟨ocX1, odX1, .func (PySem.W.fnOf "__init__" "InvalidStacks.__init__" (defArgs (inClass sInvalidstacks 0)) (defBody (inClass sInvalidstacks 0)) (defScope (inClass sInvalidstacks 0)) .none kVX1 dcX1 pmX1 anX1 cdX1 ctX1), slX1⟩)
    (cX1 : PySem.W.codeIn K cdX1 "InvalidStacks.__init__" = true)
    (kX1 : PySem.W.keepIn K (.ref gX1) = true)
    (kCX1 : PySem.W.keepIn K (.ref CX1) = true)
    (eCX1 : PySem.W.subIn K (.ref CX1) (.type "BaseException") = some true)
    (tCX1 : PySem.W.typeIn K (.ref CX1) = some (.type "type"))
    (hCX1 : PySem.W.hasDictIn K CX1 = true)
    (sCX1 : PySem.W.subIn K (.ref CX1) (.ref CX1) = some true)
    (sSX1 : PySem.W.subIn K (.ref CX1) (.ref S) = some true)
    (ccX1 : PySem.W.findIn K (.ref CX1) "__class__" = some (some (.builtin "object.__class__")))
    (moX1 : PySem.W.mroIn K CX1 (.type "object") = some true)
    (aL : PySem.W.nsIn K mainGlobals "law" = some (some (.ref fL)))
    (lL : K.lookup fL = some ⟨ocL, odL, .func (PySem.W.fnOf "law" "law" (defArgs sLaw) (defBody sLaw) (defScope sLaw) .none kVL dcL pmL anL cdL ctL), slL⟩)
    (ckL : PySem.W.codeIn K cdL "law" = true)
    (kL : PySem.W.keepIn K (.ref fL) = true) :
    ∃ fd : FuncData, (∀ (s : Shared) (v : Value), BindsTo s fd ⟨[v], []⟩ [("_law_script", v)]) ∧ ∀ base : Heap, K.In base → base.Ns mainGlobals mg → GOk l.prog w K mg base 8 fa fd ["_law_script"] (spLaw K) := by
  have e := hfa.symm.trans (PySem.W.mg_of X G aL)
  cases e
  have F := fun_mk (st := sLaw) lL ckL kL
  have m_isinstance : mg "isinstance" = none := PySem.W.mg_none_of X G z_isinstance
  have m_str : mg "str" = none := PySem.W.mg_none_of X G z_str
  have m_len : mg "len" = none := PySem.W.mg_none_of X G z_len
  have m_all : mg "all" = none := PySem.W.mg_none_of X G z_all
  have m_tuple : mg "tuple" = none := PySem.W.mg_none_of X G z_tuple
  have m_list : mg "list" = none := PySem.W.mg_none_of X G z_list
  have m_enumerate : mg "enumerate" = none := PySem.W.mg_none_of X G z_enumerate
  have m_range : mg "range" = none := PySem.W.mg_none_of X G z_range
  have m_abs : mg "abs" = none := PySem.W.mg_none_of X G z_abs
  have m_int : mg "int" = none := PySem.W.mg_none_of X G z_int
  have m_max : mg "max" = none := PySem.W.mg_none_of X G z_max
  have m_min : mg "min" = none := PySem.W.mg_none_of X G z_min
  have m_repr : mg "repr" = none := PySem.W.mg_none_of X G z_repr
  have m_dict : mg "dict" = none := PySem.W.mg_none_of X G z_dict
  have m_sorted : mg "sorted" = none := PySem.W.mg_none_of X G z_sorted
  have m_ValueError : mg "ValueError" = none := PySem.W.mg_none_of X G z_ValueError
  have B : Blt mg := ⟨m_isinstance, m_str, m_len, m_all, m_tuple, m_list, m_enumerate⟩
  refine ⟨PySem.W.fnOf "law" "law" (defArgs sLaw) (defBody sLaw) (defScope sLaw) .none kVL dcL pmL anL cdL ctL, fun s v => .of_eq rfl, fun base _ _ => ?_⟩
  have gS := PySem.W.mg_of X G aS
  have oeX0 : OexC K CX0 := ⟨⟨_, _, _, _, _, _, _, _, _, _, _, _, _, _, _, xX0, rfl⟩, saX0, eCX0, tCX0, kCX0⟩
  have FX0 := fun_mk (st := inClass sInvalidsteps 0) lX0 cX0 kX0
  have TX0 : XcC l.prog w K mg base "InvalidSteps" "index" CX0 := ⟨oeX0, PySem.W.mg_of X G aX0, ⟨gX0, _, iiX0, tiX0, init_ok FX0 scI_InvalidSteps oeX0 nfX0 rfl (.inl rfl) (.inl rfl) (by decide) (by decide), FX0.binds (ps := ["self", "index"]) fun _ _ _ _ _ _ us hl => match us, hl with | [_, _], _ => rfl⟩, ⟨gaX0, ggX0, eCX0, hCX0⟩, nfX0, ccX0, cg, ct, moX0, PySem.W.exm_ref eCX0 hCX0 tCX0 sCX0⟩
  have kiX0 := kit_below sSX0 tS hS
  have oeX1 : OexC K CX1 := ⟨⟨_, _, _, _, _, _, _, _, _, _, _, _, _, _, _, xX1, rfl⟩, saX1, eCX1, tCX1, kCX1⟩
  have FX1 := fun_mk (st := inClass sInvalidstacks 0) lX1 cX1 kX1
  have TX1 : XcC l.prog w K mg base "InvalidStacks" "value" CX1 := ⟨oeX1, PySem.W.mg_of X G aX1, ⟨gX1, _, iiX1, tiX1, init_ok FX1 scI_InvalidStacks oeX1 nfX1 rfl (.inl rfl) (.inl rfl) (by decide) (by decide), FX1.binds (ps := ["self", "value"]) fun _ _ _ _ _ _ us hl => match us, hl with | [_, _], _ => rfl⟩, ⟨gaX1, ggX1, eCX1, hCX1⟩, nfX1, ccX1, cg, ct, moX1, PySem.W.exm_ref eCX1 hCX1 tCX1 sCX1⟩
  have kiX1 := kit_below sSX1 tS hS
  have Co := (⟨⟨_, PySem.W.mg_of X G cL⟩, ⟨_, PySem.W.mg_of X G cM⟩, ⟨_, PySem.W.mg_of X G cS⟩, ⟨D, es, n, uP, uQ, PySem.W.mg_of X G cO, ⟨lO, kO, wO⟩, pO, rP, qO, rQ⟩⟩ : Cons K w mg)
  have O2 := (⟨D, es, n, uP, uQ, PySem.W.mg_of X G cO, ⟨lO, kO, wO⟩, pO, qO, oK⟩ : Opp2 K w mg)
  have gTake := has_take (P := l.prog) (w := w) (base := base) d__law_take
  have gPool := has_pool (P := l.prog) (w := w) (base := base) d__law_pool m_len m_abs m_int
  have gName := has_name d__law_name gTake m_range
  have gItems := has_items d__law_items gName m_range
  have gWord := has_word d__law_word gTake m_range m_len m_tuple
  have gItem := has_isItem (P := l.prog) (w := w) (base := base) d_is_item B Co
  have gIsWord := has_isWord d_is_word gItem B
  have gIsStep := has_isStep d_is_step gItem B Co
  have gMay := has_may (P := l.prog) (w := w) (base := base) d_may_hold_steps B Co
  have gIn := has_isN d_is_named_step gItem gIsStep B
  have gCn := has_chkN d_check_named_steps gMay gIn B
  have gSp := has_split d_split gCn
  have gHi := has_highL (P := l.prog) (w := w) (base := base) d_is_too_high
  have gAf := has_afterL d_after_step gHi B
  have gFo := has_followL d_follow gHi gAf B
  have gAr := has_are d_are_stacks gItem gIsWord B m_dict
  have gCk := has_cks d_check_stacks gAr
  have gRa := has_ra d_run_all gSp gCk gFo m_sorted
  have gWell := has_well d__law_named_well gTake m_len m_dict m_range
  have gPa := has_parts (P := l.prog) (w := w) (base := base) d__law_parts
  have gLe := has_leff (P := l.prog) (w := w) (base := base) d__law_effect m_max m_len m_tuple
  have gDue := has_due (P := l.prog) (w := w) (base := base) d__law_due B m_dict
  have gRi := ghas_ri d__law_right gDue gRa m_repr m_range
  have gItX := has_itemX (P := l.prog) (w := w) (base := base) d_is_item B Co
  have gWdX := has_wordX d_is_word gItX B
  have gStX := has_stepX d_is_step gItX B O2
  have gMyX := has_mayX (P := l.prog) (w := w) (base := base) d_may_hold_steps B Co
  have gInX := has_isNX d_is_named_step gItX gStX B
  have gCX := hasX_chkN d_check_named_steps gMyX gInX TX0 B
  have gSX := hasX_split d_split gCX
  have gRX := hasX_rall d_run_all gSX
  have gArZ := has_areZ d_are_stacks gItX gWdX B m_dict
  have gCkZ := hasX_ckZ d_check_stacks gArZ TX1
  have gRZ := hasX_raZ d_run_all gSp gCkZ
  have RX := (⟨TX0, TX1, PySem.W.exm_ref eCX0 hCX0 tCX0 n10, kit_val vN, m_ValueError⟩ : To52 l.prog w K mg base CX0 CX1)
  have gTo := ghas_to d__law_told RX (HasX.two gRX gRZ) B m_repr
  exact ok_law F gPool gTake gItems gWell gPa gLe gWord gRi gTo gRa B m_range m_max m_min m_dict m_tuple m_repr
end
end SE
open PySem PySem.W PyProof.Rows
set_option maxHeartbeats 0 in
theorem PySem.Challenge.cw_stackeffect_k52_several_stacks_run_holds : PySem.Challenge.rw_stackeffect_k52_several_stacks_run.Holds := by
  w_on; o_law; k_head; (case hw => w_witness2)
  k_fill
  refine SE.walkG (l := PySem.Challenge.rw_stackeffect_k52_several_stacks_run) (n := 63) (k := 8) (x := "_law_script") (sp := SE.spLaw) rfl (by decide) rfl ⟨rfl, by decide, by decide⟩ (fun w h Y => PySem.W.kIn_of Y) ?F (fun _ _ a ns hl hS => ⟨a, ns, rfl, hS, hl, fun _ => rfl⟩)
  case F =>
    intro w mg fa h KX G hmg
    refine' SE.all_mk KX G hmg ?d_is_item ?d_is_word ?d_is_step ?d_may_hold_steps ?d_is_too_high ?d_after_step ?d_follow ?d_is_named_step ?d_check_named_steps ?d_are_stacks ?d_check_stacks ?d_split ?d_run_all ?d__law_pool ?d__law_take ?d__law_name ?d__law_items ?d__law_word ?d__law_named_well ?d__law_parts ?d__law_effect ?d__law_due ?d__law_right ?d__law_told ?z_isinstance ?z_str ?z_len ?z_all ?z_tuple ?z_list ?z_enumerate ?z_range ?z_abs ?z_int ?z_max ?z_min ?z_repr ?z_dict ?z_sorted ?z_ValueError ?cL ?cM ?cS ?cO ?lO ?kO ?wO ?pO ?qO ?rP ?rQ ?oK ?n10 ?vN ?aS ?tS ?hS ?cg ?ct ?aX0 ?xX0 ?saX0 ?gaX0 ?ggX0 ?nfX0 ?iiX0 ?tiX0 ?lX0 ?cX0 ?kX0 ?kCX0 ?eCX0 ?tCX0 ?hCX0 ?sCX0 ?sSX0 ?ccX0 ?moX0 ?aX1 ?xX1 ?saX1 ?gaX1 ?ggX1 ?nfX1 ?iiX1 ?tiX1 ?lX1 ?cX1 ?kX1 ?kCX1 ?eCX1 ?tCX1 ?hCX1 ?sCX1 ?sSX1 ?ccX1 ?moX1 ?aL ?lL ?ckL ?kL
    (case d_is_item => refine' SE.def_mk KX G ?a ?l ?c ?k; (case a => k_is); (case l => k_is); (case c => k_is); (case k => k_is))
    (case d_is_word => refine' SE.def_mk KX G ?a ?l ?c ?k; (case a => k_is); (case l => k_is); (case c => k_is); (case k => k_is))
    (case d_is_step => refine' SE.def_mk KX G ?a ?l ?c ?k; (case a => k_is); (case l => k_is); (case c => k_is); (case k => k_is))
    (case d_may_hold_steps => refine' SE.def_mk KX G ?a ?l ?c ?k; (case a => k_is); (case l => k_is); (case c => k_is); (case k => k_is))
    (case d_is_too_high => refine' SE.def_mk KX G ?a ?l ?c ?k; (case a => k_is); (case l => k_is); (case c => k_is); (case k => k_is))
    (case d_after_step => refine' SE.def_mk KX G ?a ?l ?c ?k; (case a => k_is); (case l => k_is); (case c => k_is); (case k => k_is))
    (case d_follow => refine' SE.def_mk KX G ?a ?l ?c ?k; (case a => k_is); (case l => k_is); (case c => k_is); (case k => k_is))
    (case d_is_named_step => refine' SE.def_mk KX G ?a ?l ?c ?k; (case a => k_is); (case l => k_is); (case c => k_is); (case k => k_is))
    (case d_check_named_steps => refine' SE.def_mk KX G ?a ?l ?c ?k; (case a => k_is); (case l => k_is); (case c => k_is); (case k => k_is))
    (case d_are_stacks => refine' SE.def_mk KX G ?a ?l ?c ?k; (case a => k_is); (case l => k_is); (case c => k_is); (case k => k_is))
    (case d_check_stacks => refine' SE.def_mk KX G ?a ?l ?c ?k; (case a => k_is); (case l => k_is); (case c => k_is); (case k => k_is))
    (case d_split => refine' SE.def_mk KX G ?a ?l ?c ?k; (case a => k_is); (case l => k_is); (case c => k_is); (case k => k_is))
    (case d_run_all => refine' SE.def_mk KX G ?a ?l ?c ?k; (case a => k_is); (case l => k_is); (case c => k_is); (case k => k_is))
    (case d__law_pool => refine' SE.def_mk KX G ?a ?l ?c ?k; (case a => k_is); (case l => k_is); (case c => k_is); (case k => k_is))
    (case d__law_take => refine' SE.def_mk KX G ?a ?l ?c ?k; (case a => k_is); (case l => k_is); (case c => k_is); (case k => k_is))
    (case d__law_name => refine' SE.def_mk KX G ?a ?l ?c ?k; (case a => k_is); (case l => k_is); (case c => k_is); (case k => k_is))
    (case d__law_items => refine' SE.def_mk KX G ?a ?l ?c ?k; (case a => k_is); (case l => k_is); (case c => k_is); (case k => k_is))
    (case d__law_word => refine' SE.def_mk KX G ?a ?l ?c ?k; (case a => k_is); (case l => k_is); (case c => k_is); (case k => k_is))
    (case d__law_named_well => refine' SE.def_mk KX G ?a ?l ?c ?k; (case a => k_is); (case l => k_is); (case c => k_is); (case k => k_is))
    (case d__law_parts => refine' SE.def_mk KX G ?a ?l ?c ?k; (case a => k_is); (case l => k_is); (case c => k_is); (case k => k_is))
    (case d__law_effect => refine' SE.def_mk KX G ?a ?l ?c ?k; (case a => k_is); (case l => k_is); (case c => k_is); (case k => k_is))
    (case d__law_due => refine' SE.def_mk KX G ?a ?l ?c ?k; (case a => k_is); (case l => k_is); (case c => k_is); (case k => k_is))
    (case d__law_right => refine' SE.def_mk KX G ?a ?l ?c ?k; (case a => k_is); (case l => k_is); (case c => k_is); (case k => k_is))
    (case d__law_told => refine' SE.def_mk KX G ?a ?l ?c ?k; (case a => k_is); (case l => k_is); (case c => k_is); (case k => k_is))
    (case z_isinstance => k_is)
    (case z_str => k_is)
    (case z_len => k_is)
    (case z_all => k_is)
    (case z_tuple => k_is)
    (case z_list => k_is)
    (case z_enumerate => k_is)
    (case z_range => k_is)
    (case z_abs => k_is)
    (case z_int => k_is)
    (case z_max => k_is)
    (case z_min => k_is)
    (case z_repr => k_is)
    (case z_dict => k_is)
    (case z_sorted => k_is)
    (case z_ValueError => k_is)
    (case cL => k_is)
    (case cM => k_is)
    (case cS => k_is)
    (case cO => k_is)
    (case lO => k_is)
    (case kO => exact ⟨⟨_, _, rfl, rfl⟩, ⟨_, _, rfl, rfl⟩, trivial⟩)
    (case wO => rfl)
    (case pO => k_is)
    (case qO => k_is)
    (case rP => exact ⟨_, rfl⟩)
    (case rQ => exact ⟨_, rfl⟩)
    (case oK => exact ⟨⟨_, _, rfl, .inl rfl⟩, ⟨_, _, rfl, .inr rfl⟩, trivial⟩)
    (case aS => k_is)
    (case tS => k_is)
    (case hS => k_is)
    (case cg => k_is)
    (case ct => k_is)
    (case aX0 => k_is)
    (case xX0 => k_is)
    (case saX0 => k_is)
    (case gaX0 => k_is)
    (case ggX0 => k_is)
    (case nfX0 => k_is)
    (case iiX0 => k_is)
    (case tiX0 => k_is)
    (case lX0 => k_is)
    (case cX0 => k_is)
    (case kX0 => k_is)
    (case kCX0 => k_is)
    (case eCX0 => k_is)
    (case tCX0 => k_is)
    (case hCX0 => k_is)
    (case sCX0 => first | rfl | k_is)
    (case sSX0 => first | rfl | k_is)
    (case ccX0 => k_is)
    (case moX0 => k_is)
    (case aX1 => k_is)
    (case xX1 => k_is)
    (case saX1 => k_is)
    (case gaX1 => k_is)
    (case ggX1 => k_is)
    (case nfX1 => k_is)
    (case iiX1 => k_is)
    (case tiX1 => k_is)
    (case lX1 => k_is)
    (case cX1 => k_is)
    (case kX1 => k_is)
    (case kCX1 => k_is)
    (case eCX1 => k_is)
    (case tCX1 => k_is)
    (case hCX1 => k_is)
    (case sCX1 => first | rfl | k_is)
    (case sSX1 => first | rfl | k_is)
    (case ccX1 => k_is)
    (case moX1 => k_is)
    (case aL => k_is)
    (case lL => k_is)
    (case ckL => k_is)
    (case kL => k_is)
    (case n10 => k_is)
    (case vN => k_is)
