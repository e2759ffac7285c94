import PyProof.Rows.All
import Wide.All
import OpenK.AllK
import Wide.FinOn
import PyProof.EqAt
import PyProof.EqKinds
import PyProof.TupleCall
import HandS.Base
import HandS.Call
import HandS.List
import HandS.Ends
import HandS.Words
import HandS.Comp
import HandS.Dict
import HandS.Iter
import HandS.Text
import HandS.WordsList
import HandS.Defaults
import PyProof.EnumMake
import PyProof.Draws
import KE.GoesMore
import KE.KRevSl
import PyProof.ReprLen
import PyProof.ReprText
import HandS.More
import HandS.Evl
import HandS.Walk
import HandS.IsInst
import HandS.TupAny
import HandS.Style
import HandS.TupMul
import HandS.Strs
import HandS.Set
import HandS.GenBody
import HandS.GenYield
import HandS.GenCall
import HandS.GenList
import PyProof.GenComp
import HandS.Property
import HandS.ClsMeth
import HandS.MakeKwOnly
import PyProof.InstEq
import KE.KFmtOwn
import HandS.OwnEq
import HandS.FStr
import HandS.Deep
import PyProof.ReprRoads
import PyProof.ReprDict
import PyProof.CallFns
import HandS.Exc
import HandS.ExcOwn
import HandS.ExcInit
import HandS.ExcField
import HandS.ExcIs
import HandS.WordsExc
import KE.KExcIs
import HandS.Zip
import HandS.TryMany
import HandS.Star
import HandS.Flow
import PyProof.FactsAll.dict
import KE.IntBitsLaws
import HandS.Replace
import PySem.Challenge.RW_stackeffect_k12_effects_built
set_option Elab.async false
set_option linter.all false
set_option maxRecDepth 100000
set_option maxHeartbeats 4000000
/-! Defs called where no repr is under way: their promise (GOk), their call, the law's head, and repr of plain data. -/
namespace SE
open PySem PySem.Spec PyProof.Rows L2

/-- the promise of a def whose caller has no repr under way -/
structure GOk (P : Program) (w : World) (K : PySem.W.Frag) (mg : Str → Option Value) (base : Heap) (k : Nat) (f : Addr) (fd : FuncData) (ps : List Str) (sp : Sp) : Prop where
  len : ∀ xs H Q E, sp xs H Q E → xs.length = ps.length
  run : ∀ (A : Around) (out : List Env) (s : Shared) (H : Hp) (args : Args) (us : List Value) (xs : List V) (Q : VK) (E : XK), A.guards = some [] → Room k A → Env0 P w K mg base A out s H →
    BindsTo s fd args (ps.zip us) → Vals xs us → sp xs H Q E → codeAny (model P w) A (.call (.ref f) args) (CR (fun _ _ _ _ _ _ => False) out P w H s Q E) s

section
variable {P : Program} {w : World} {K : PySem.W.Frag} {mg : Str → Option Value} {base : Heap}
theorem gok_of {k : Nat} {f : Addr} {nm ql : Str} {pars : Arguments} {bd : List Stmt} {sc : Scope} {dV kV doc pm cv ct oc : Value} {an od : Option Addr}
    {osl : Array (Option Value)} {N ps : List Str} {sp : Sp} (look : K.lookup f = some ⟨oc, od, .func (PySem.W.fnOf nm ql pars bd sc dV kV doc pm an cv ct), osl⟩) (hcode : PySem.W.codeIn K cv ql = true) (S : FnScope N ps sc)
    (len : ∀ xs H Q E, sp xs H Q E → xs.length = ps.length)
    (hbd : ∀ (A : Around) (out : List Env) (s : Shared) (H : Hp) (xs : List V) (Q : VK) (E : XK), A.guards = some [] → Room k (A.deeper (envOfC ql sc s.heap.objs.size f cv)) → sp xs H Q E →
      ∃ t, PSs (cxOf (fun _ _ _ _ _ _ => False) P w K mg base N ql sc f cv A out s H E) bd t ∧ t { nx := fun _ H2 => Q .non H2, rt := Q } (start N xs) H) :
    GOk P w K mg base (k + 1) f (PySem.W.fnOf nm ql pars bd sc dV kV doc pm an cv ct) ps sp := by
  constructor
  · exact len
  intro A out s H args us xs Q E hgu hroom env hbind hvals hpre
  have hlen := len _ _ _ _ hpre
  have kin : K.In s.heap := env.mod.kin.keeps fun b o z => (env.bs b o z).1
  have nolim : s.heap.NoLimit := env.mod.nolimit.keeps fun b o z => (env.bs b o z).1
  have kinds : ∀ y ∈ ps.zip us, sc.names.lookup y.1 = some .local ∨ (sc.names.lookup y.1 = some .cell ∧ ((cellsFrom (s.heap.objs.size + 1) sc.names []).lookup y.1).isSome = true) := by
    rintro ⟨n, v⟩ hy
    rcases S.par n (List.of_mem_zip hy).1 with q | q
    · exact .inl q
    · exact .inr ⟨q, PySem.W.cellsFrom_some _ _ _ (.inl q)⟩
  apply codeAny_call_function hroom.depth (kin _ _ look) rfl S.co S.gen rfl (PySem.W.codeRec_of kin hcode)
  apply hbind
  refine wpAny_newFunctionEnv_cells S.kind kinds fun ev hev s2 inc => ?_
  subst hev
  refine ⟨nolim.keeps inc.toInCall.keep, codeAny_func ?_⟩
  obtain ⟨t, der, rd⟩ := hbd A out s H xs Q E hgu (hroom.deeper _) hpre
  have J0 : Inv (cxOf (fun _ _ _ _ _ _ => False) P w K mg base N ql sc f cv A out s H E) [] (start N xs) H s2 := inv_start S hroom.hd env hlen hvals inc
  refine wpAny_mono (der.run [] s2 (start N xs) H _ J0 rd) (fun fl s3 hs => ?_) fun e s3 hs => hs
  cases fl with
  | ret u =>
    obtain ⟨v, σ3, H3, J, rv, q⟩ := hs
    exact ⟨v, H3, J.os, J.bare, J.base, J.hok, rv, q⟩
  | next =>
    obtain ⟨σ3, H3, J, q⟩ := hs
    exact ⟨V.non, H3, J.os, J.bare, J.base, J.hok, rfl, q⟩
  | brk => exact hs.elim fun _ z => z.elim fun _ z => z.2.elim
  | cont => exact hs.elim fun _ z => z.elim fun _ z => z.2.elim
theorem gok_mk {x ql : Str} {st : Stmt} {f : Addr} {fd : FuncData} {N ps : List Str} {k : Nat} {sp : Sp} (F : Fun K x ql st f fd) (S : FnScope N ps (defScope st)) (len : ∀ xs H Q E, sp xs H Q E → xs.length = ps.length)
    (hbd : ∀ (cv : Value) (A : Around) (out : List Env) (s : Shared) (H : Hp) (xs : List V) (Q : VK) (E : XK), A.guards = some [] → Room k (A.deeper (envOfC ql (defScope st) s.heap.objs.size f cv)) → sp xs H Q E →
      ∃ t, PSs (cxOf CX0 P w K mg base N ql (defScope st) f cv A out s H E).nox (defBody st) t ∧ t { nx := fun _ H2 => Q .non H2, rt := Q } (start N xs) H) : GOk P w K mg base (k + 1) f fd ps sp := by
  obtain ⟨oc, od, kV, doc, pm, an, cv, ct, osl, rfl, look, hcode⟩ := F.ex
  refine gok_of look hcode S len fun A out s H xs Q E hgu hr hpre => ?_
  obtain ⟨t, a, b⟩ := hbd cv A out s H xs Q E hgu hr hpre
  exact ⟨t, a.nox, b⟩
end

section
variable {X : Cx} {k : Nat} {f : Addr} {fd : FuncData} {ps : List Str} {sp : Sp} {x : Str} {p pos : Pos} {e : Expr} {es : List Expr} {t : TA}
theorem pe_callG (F : GOk X.prog X.w X.K X.mg X.base k f fd ps sp) (hgu : X.A.guards = some []) (hr : Room k X.A) (hg : Gl X x) (hm : X.mg x = some (.ref f)) (hk : PySem.W.keepIn X.K (.ref f) = true) (hb : Binds X.K fd ps [])
    (ha : PA X (e :: es) t) (hdb : (x == ("__debug__" : Str)) = false := by decide) (he : starEach (e :: es) X.env = (false, eval e X.env) :: starEach es X.env := by rfl) (hpl : (backTo pos (starEach es X.env)).any (·.1) = false := by rfl) :
    PE X (.Call (.Name x p) (e :: es) [] pos) (tCall sp [] (fun _ _ _ => False) t) := by
  constructor
  intro pins s σ H Q I h
  apply wpAny_Call_Name_kw
  apply ld_glob I hg hm _ hdb
  refine PySem.W.callWith_K (h₀ := X.base) I.ok.mod.kin hk (thn (ha.run pos pins s σ H _ I h) fun us s1 hh => ?_) he hpl
  obtain ⟨xs, H1, I1, r, q⟩ := hh
  refine ⟨I1.kIn, ?_⟩
  have q' : sp xs H1 Q (fun _ _ _ => False) := by rw [List.append_nil] at q; exact q
  have hl : us.length = ps.length := by rw [← r.length]; exact F.len _ _ _ _ q'
  have hb' := hb s1 us I1.kIn (by rw [List.append_nil]; exact hl)
  rw [List.append_nil] at hb'
  refine wpAny_call (codeAny_mono (F.run X.A X.stack s1 H1 ⟨us, []⟩ us xs Q _ hgu hr I1.env0 hb' r q') fun r2 s2 hq => ?_)
  cases r2 with
  | error _ => exact hq.elim
  | ok fl =>
    cases fl with
    | ret _ => exact I1.after hq
    | next => exact hq.elim
    | brk => exact hq.elim
    | cont => exact hq.elim
end

section
variable {X : Cx}
/-- repr(x), x plain data -/
def rRep (K : PySem.W.Frag) : List V → Hp → VK → Prop := fun xs H Q => ∃ (x : V) (d : PyData), xs = [x] ∧ Dp K H x d ∧ (∃ a, x = .ref a) ∧ d.showable = true ∧ d.hasDict = false ∧ d.depth ≤ 20 ∧ d.shown.length ≤ sizeLine ∧ Q (.str d.shown) H
theorem call_rep (hgu : X.A.guards = some []) (hu : X.A.units + 64 < cLine) : CallR X (.builtin "repr") (rRep X.K) := by
  intro pins s σ H xs us Q I r h
  obtain ⟨x, d, rfl, hd, ⟨a, rfl⟩, hs, hn, hdep, hz, q⟩ := h
  cases r with
  | cons r1 r2 =>
    cases r2
    cases r1
    obtain ⟨as, rd⟩ := Dp.reads I d (.ref a) (.ref a) hd rfl
    refine repr_of_reads' rd hs (PyData.noDict_hsm hn) hgu (by omega) (fun _ _ z => z) (fun h' u tk hk => ?_) hz
    exact ⟨.str d.shown, H, I.kept (t' := tk) hk, ⟨_, rfl⟩, q⟩
end
/-! ### the law's head -/
theorem lawG {P : Program} {w : World} {K : PySem.W.Frag} {mg mb : Str → Option Value} {k : Nat} {fa a : Addr} {fd : FuncData} {x : Str} {sp : Sp} {s1 : Shared} {vs : List Value} {ns : List Int}
    (kin : K.In s1.heap) (hns : s1.heap.Ns mainGlobals mg) (hbn : s1.heap.Ns builtinsNs mb) (hbb : ∀ x : Str, x ≠ "__name__" → mb x = bootBuiltins x) (nolim : s1.heap.NoLimit) (hg : s1.gens = #[])
    (hobj : s1.heap.get? a = some { cls := .type "list", data := .seq vs.toArray }) (hi : IntsAre vs ns) (hz : ns.length ≤ sizeLine) (hr : Room k callerA)
    (F : ∀ base : Heap, K.In base → base.Ns mainGlobals mg → GOk P w K mg base k fa fd [x] sp) (hbind : ∀ (s : Shared) (u : Value), BindsTo s fd ⟨[u], []⟩ [(x, u)])
    (hsp : ∀ H : Hp, SqL K H a (ns.map V.int) → sp [.ref a] H (fun v _ => v = .bl true) fun _ _ _ => False) :
    codeAny (model P w) callerA (.call (.ref fa) ⟨[.ref a], []⟩) (fun r s2 => r = .ok (.ret (.bool true)) ∧ OldK s1.heap s2.heap ∧ s2.os = s1.os ∧ AllBare s2.gens) s1 := by
  have rel := vals_ints hi
  have same := hi.length
  have go : ∀ H : Hp, (∀ b u, H b = some u → b = a ∧ K.lookup a = none ∧ ∃ o xs, u = .frz o (.lst xs)) → SqL K H a (ns.map V.int) → HOk P w H s1.heap →
      codeAny (model P w) callerA (.call (.ref fa) ⟨[.ref a], []⟩) (fun r s2 => r = .ok (.ret (.bool true)) ∧ OldK s1.heap s2.heap ∧ s2.os = s1.os ∧ AllBare s2.gens) s1 := by
    intro H only hS hok
    have free : ∀ {b : Addr}, b ≠ a → H b = none := fun {b} hb => by
      cases q : H b with
      | none => rfl
      | some u => exact absurd (only b u q).1 hb
    have freeD : ∀ {b : Addr} {o : Obj} {es : Array DictEntry} {ep : Nat}, s1.heap.get? b = some o → o.data = .dict es ep → H b = none := fun {b o es ep} e d => by
      by_cases hb : b = a
      · subst hb
        rw [hobj] at e
        cases e
        cases d
      · exact free hb
    have ns2 : ∀ {b : Addr} {m : Str → Option Value}, s1.heap.Ns b m → (hidT s1.heap H).Ns b m := by
      rintro b m ⟨o, es, ep, e, d, r⟩
      exact ⟨o, es, ep, hidT_get e (freeD e d), d, r⟩
    have kin2 : K.In (hidT s1.heap H) := by
      intro b o e
      refine hidT_get (kin b o e) ?_
      cases q : H b with
      | none => rfl
      | some u =>
        obtain ⟨eb, nk, _⟩ := only b u q
        subst eb
        rw [nk] at e
        cases e
    have mod : Mod K mg (hidT s1.heap H) := by
      refine ⟨kin2, ns2 hns, ⟨mb, ns2 hbn, hbb⟩, ?_⟩
      obtain ⟨mc, h1, h2⟩ := nolim
      exact ⟨mc, ns2 h1, h2⟩
    have env : Env0 P w K mg (hidT s1.heap H) callerA [] s1 H :=
      ⟨rfl, mod, fun b o e => of_hidT e, Nat.le_of_eq (hidT_size _ _), trivial, fun b hb => (by cases (show b ∈ ([] : List Addr) from hb)), hok, .of_eq hg⟩
    have runs := (F _ kin2 (ns2 hns)).run callerA [] s1 H ⟨[.ref a], []⟩ [.ref a] [.ref a] (fun v _ => v = .bl true) (fun _ _ _ => False) rfl hr env (hbind s1 (.ref a)) (.cons rfl .nil) (hsp H hS)
    refine codeAny_mono runs fun r s2 h => ?_
    cases r with
    | error _ => exact h.elim
    | ok fl =>
      cases fl with
      | next => exact h.elim
      | brk => exact h.elim
      | cont => exact h.elim
      | ret u =>
        obtain ⟨v, H2, os, bare, un, hok2, r2, q⟩ := h
        have q2 : v = .bl true := q
        subst q2
        obtain rfl : u = Value.bool true := r2
        refine ⟨rfl, OldK.of_keep fun b o e => ?_, os, bare⟩
        cases z : H b with
        | none => exact un.keep b o e z (fun m => by cases (show b ∈ ([] : List Addr) from m)) (fun m => by cases m)
        | some u2 =>
          obtain ⟨_, _, ob, ys, eu⟩ := only b u2 z
          subst eu
          obtain ⟨e1, _⟩ := hok b _ z
          obtain ⟨e2, _⟩ := hok2 b _ (un.frzs b ob _ z)
          rw [e] at e1
          cases e1
          exact e2
  cases hk : K.lookup a with
  | some o =>
    have e := kin a o hk
    rw [hobj] at e
    cases e
    refine go (fun _ => none) (fun b u z => nomatch z) (.inr ⟨_, vs.toArray, _, hk, rfl, rfl, rfl, by rw [List.size_toArray, same]; exact hz, by simpa using rel⟩) (fun b u z => nomatch z)
  | none =>
    have at1 : ∀ {b : Addr} {u : HO}, (if b = a then some (HO.frz { cls := .type "list", data := .seq vs.toArray } (.lst (ns.map V.int))) else none) = some u → b = a ∧ u = .frz { cls := .type "list", data := .seq vs.toArray } (.lst (ns.map V.int)) := fun {b u} z => by
      by_cases hb : b = a
      · rw [if_pos hb] at z
        cases z
        exact ⟨hb, rfl⟩
      · rw [if_neg hb] at z
        cases z
    refine go (fun b => if b = a then some (.frz { cls := .type "list", data := .seq vs.toArray } (.lst (ns.map V.int))) else none) (fun b u z => ?_) (.inl (.inr ⟨{ cls := .type "list", data := .seq vs.toArray }, if_pos rfl⟩)) (fun b u z => ?_)
    · obtain ⟨e1, e2⟩ := at1 z
      exact ⟨e1, hk, _, _, e2⟩
    · obtain ⟨e1, e2⟩ := at1 z
      subst e1
      subst e2
      exact ⟨hobj, by rw [List.length_map]; exact hz, vs, _, rel, hobj⟩
theorem walkG {l : PySem.W.OpenLaw} {n k : Nat} {q : Program} {loose : List Str} {XP : (Str → Option Value) → Heap → Prop} {YP : World → Heap → Prop} {d : DefRec} {K : Params → PySem.W.Frag} {sp : PySem.W.Frag → Sp} {x : Str}
    (hn : l.most = some n) (hn2 : n ≤ sizeLine) (hdf : d.params.defaults = []) (hr : Room k callerA) (hY : ∀ (w : World) (h : Heap), YP w h → (K w.params).In h)
    (F : ∀ (w : World) (mg : Str → Option Value) (fa : Addr) (h : Heap), (K w.params).In h → h.Ns mainGlobals mg → mg d.name = some (.ref fa) →
      ∃ fd : FuncData, (∀ (s : Shared) (u : Value), BindsTo s fd ⟨[u], []⟩ [(x, u)]) ∧ ∀ base : Heap, (K w.params).In base → base.Ns mainGlobals mg → GOk l.prog w (K w.params) mg base k fa fd [x] (sp (K w.params)))
    (hsp : ∀ (K : PySem.W.Frag) (H : Hp) (a : Addr) (ns : List Int), ns.length ≤ n → SqL K H a (ns.map V.int) → sp K [.ref a] H (fun v _ => v = .bl true) fun _ _ _ => False) :
    PySem.W.WalkO q loose XP YP l.row.toRowW d [] (fun f vs => PySem.call f vs) := by
  apply Att.attach_call hn hdf
  intro w s0 s1 mg mb fa o pm cd doc a vs ns G Y ho hd hcd hmg hobj hints hlen hg
  have kin := hY w _ Y
  obtain ⟨fd, hb, hF⟩ := F w mg fa _ kin G.T.g hmg
  exact lawG kin G.T.g G.T.b G.T.builtins G.T.nolimit hg hobj hints (Nat.le_trans hlen hn2) hr hF hb fun H hS => hsp _ H a ns hlen hS
end SE
/-! Defs by their names. -/
namespace SE
open PySem PySem.Spec PyProof.Rows L2
section
variable {P : Program} {w : World} {K : PySem.W.Frag} {mg : Str → Option Value} {base : Heap}
/-- the def st stands under its name -/
def Def (K : PySem.W.Frag) (mg : Str → Option Value) (x : Str) (st : Stmt) : Prop := ∃ f fd, Fun K x x st f fd ∧ mg x = some (.ref f)
/-- a def that keeps the promise sp stands under the name x; dvs: the values of its defaults -/
def Has (P : Program) (w : World) (K : PySem.W.Frag) (mg : Str → Option Value) (base : Heap) (x : Str) (k : Nat) (ps : List Str) (dvs : List V) (sp : Sp) : Prop :=
  ∃ f fd ds, FnOk P w K mg base CX0 k f fd ps sp ∧ mg x = some (.ref f) ∧ PySem.W.keepIn K (.ref f) = true ∧ Binds K fd ps ds ∧ Vals dvs ds ∧ ∃ st, Fun K x x st f fd
def GHas (P : Program) (w : World) (K : PySem.W.Frag) (mg : Str → Option Value) (base : Heap) (x : Str) (k : Nat) (ps : List Str) (sp : Sp) : Prop :=
  ∃ f fd, GOk P w K mg base k f fd ps sp ∧ mg x = some (.ref f) ∧ PySem.W.keepIn K (.ref f) = true ∧ Binds K fd ps []
abbrev Bx (P : Program) (w : World) (K : PySem.W.Frag) (mg : Str → Option Value) (base : Heap) (N : List Str) (x : Str) (st : Stmt) (f : Addr) (cv : Value) (A : Around) (out : List Env) (s : Shared) (H : Hp) (E : XK) : Cx :=
  (cxOf CX0 P w K mg base N x (defScope st) f cv A out s H E).nox
theorem has_of {x : Str} {st : Stmt} {N ps : List Str} {k : Nat} {sp : Sp} (D : Def K mg x st) (S : FnScope N ps (defScope st))
    (hb : ∀ (kV doc pm : Value) (an : Option Addr) (cv ct : Value) (us : List Value), us.length = ps.length → bindArgs (PySem.W.fnOf x x (defArgs st) (defBody st) (defScope st) .none kV doc pm an cv ct) ⟨us, []⟩ = pure (ps.zip us))
    (len : ∀ xs H Q E, sp xs H Q E → xs.length = ps.length)
    (hbd : ∀ (f : Addr) (cv : Value) (A : Around) (out : List Env) (s : Shared) (H : Hp) (xs : List V) (Q : VK) (E : XK), Room k (A.deeper (envOfC x (defScope st) s.heap.objs.size f cv)) → sp xs H Q E →
      ∃ t, PSs (Bx P w K mg base N x st f cv A out s H E) (defBody st) t ∧ t { nx := fun _ H2 => Q .non H2, rt := Q } (start N xs) H) : Has P w K mg base x (k + 1) ps [] sp := by
  obtain ⟨f, fd, F, hm⟩ := D
  exact ⟨f, fd, [], F.ok S len fun cv A out s H xs Q E hr h => hbd f cv A out s H xs Q E hr h, hm, F.kp, F.binds hb, .nil, st, F⟩
theorem ghas_of {x : Str} {st : Stmt} {N ps : List Str} {k : Nat} {sp : Sp} (D : Def K mg x st) (S : FnScope N ps (defScope st))
    (hb : ∀ (kV doc pm : Value) (an : Option Addr) (cv ct : Value) (us : List Value), us.length = ps.length → bindArgs (PySem.W.fnOf x x (defArgs st) (defBody st) (defScope st) .none kV doc pm an cv ct) ⟨us, []⟩ = pure (ps.zip us))
    (len : ∀ xs H Q E, sp xs H Q E → xs.length = ps.length)
    (hbd : ∀ (f : Addr) (cv : Value) (A : Around) (out : List Env) (s : Shared) (H : Hp) (xs : List V) (Q : VK) (E : XK), A.guards = some [] → Room k (A.deeper (envOfC x (defScope st) s.heap.objs.size f cv)) → sp xs H Q E →
      ∃ t, PSs (Bx P w K mg base N x st f cv A out s H E) (defBody st) t ∧ t { nx := fun _ H2 => Q .non H2, rt := Q } (start N xs) H) : GHas P w K mg base x (k + 1) ps sp := by
  obtain ⟨f, fd, F, hm⟩ := D
  exact ⟨f, fd, gok_mk F S len fun cv A out s H xs Q E hg hr h => hbd f cv A out s H xs Q E hg hr h, hm, F.kp, F.binds hb⟩
theorem Has.mono {x : Str} {j k : Nat} {ps : List Str} {dvs : List V} {sp : Sp} (h : Has P w K mg base x j ps dvs sp) (hk : j ≤ k) : Has P w K mg base x k ps dvs sp := by
  obtain ⟨f, fd, ds, F, r⟩ := h
  exact ⟨f, fd, ds, F.mono hk, r⟩
theorem Has.fun {x : Str} {k : Nat} {ps : List Str} {dvs : List V} {sp : Sp} {st : Stmt} (h : Has P w K mg base x k ps dvs sp) (D : Def K mg x st) : ∃ f fd, FnOk P w K mg base CX0 k f fd ps sp ∧ mg x = some (.ref f) ∧ PySem.W.keepIn K (.ref f) = true ∧ Fun K x x st f fd := by
  obtain ⟨f, fd, ds, G, hm, hk, hb, hd, st2, F2⟩ := h
  obtain ⟨g, fe, F, hg⟩ := D
  have e : f = g := by
    rw [hm] at hg
    cases hg
    rfl
  subst e
  have e2 : fd = fe := by
    obtain ⟨_, _, _, _, _, _, _, _, _, _, l1, _⟩ := F.ex
    obtain ⟨_, _, _, _, _, _, _, _, _, _, l2, _⟩ := F2.ex
    rw [l1] at l2
    cases l2
    rfl
  subst e2
  exact ⟨f, fd, G, hm, hk, F⟩
end
section
variable {X : Cx} {k : Nat} {ps : List Str} {sp : Sp} {x : Str} {p pos : Pos} {e : Expr} {es : List Expr} {t : TA} {dvs : List V}
theorem pe_has (h : Has X.prog X.w X.K X.mg X.base x k ps dvs sp) (hr : Room k X.A) (ha : PA X (e :: es) t) (hg : Gl X x := by rfl) (hdb : (x == ("__debug__" : Str)) = false := by decide)
    (he : starEach (e :: es) X.env = (false, eval e X.env) :: starEach es X.env := by rfl) (hpl : (backTo pos (starEach es X.env)).any (·.1) = false := by rfl) : PE X (.Call (.Name x p) (e :: es) [] pos) (tCall sp dvs E0 t) := by
  obtain ⟨f, fd, ds, F, hm, hk, hb, hd, _⟩ := h
  exact pe_call F hr hg hm hk hb hd pass0 ha hdb he hpl
theorem pe_ghas (h : GHas X.prog X.w X.K X.mg X.base x k ps sp) (hgu : X.A.guards = some []) (hr : Room k X.A) (ha : PA X (e :: es) t) (hg : Gl X x := by rfl) (hdb : (x == ("__debug__" : Str)) = false := by decide)
    (he : starEach (e :: es) X.env = (false, eval e X.env) :: starEach es X.env := by rfl) (hpl : (backTo pos (starEach es X.env)).any (·.1) = false := by rfl) : PE X (.Call (.Name x p) (e :: es) [] pos) (tCall sp [] E0 t) := by
  obtain ⟨f, fd, F, hm, hk, hb⟩ := h
  exact pe_callG F hgu hr hg hm hk hb ha hdb he hpl
end
/-! ### heaps -/
theorem Same.tup {K : PySem.W.Frag} {H H' : Hp} {a : Addr} {xs : List V} (e : Same H H') (h : SqT K H a xs) : SqT K H' a xs := by
  rcases h with (h | ⟨o, h⟩) | h
  · exact .inl (.inl (e _ _ h))
  · exact .inl (.inr ⟨o, e _ _ h⟩)
  · exact .inr h
theorem Same.new {H : Hp} {p : Addr} {o : HO} (h : H p = none) : Same H (upd H p o) := fun b u z => by
  rw [upd_ne (ne_of_none z h)]
  exact z
/-- all but what stands at p -/
def But (p : Addr) (H H' : Hp) : Prop := ∀ b o, b ≠ p → H b = some o → H' b = some o
theorem But.refl (p : Addr) (H : Hp) : But p H H := fun _ _ _ h => h
theorem But.trans {p : Addr} {H H1 H2 : Hp} (a : But p H H1) (b : But p H1 H2) : But p H H2 := fun c o n h => b c o n (a c o n h)
theorem But.of {p : Addr} {H H1 : Hp} (a : Same H H1) : But p H H1 := fun c o _ h => a c o h
theorem But.at {p : Addr} {H : Hp} {o : HO} : But p H (upd H p o) := fun c u n h => by
  rw [upd_ne n]
  exact h
/-- what H does not know may change -/
theorem But.free {p q : Addr} {H H1 : Hp} {o : HO} (a : But p H H1) (h : H q = none) : But p H (upd H1 q o) := fun c u n z => by
  rw [upd_ne (ne_of_none z h)]
  exact a c u n z
theorem Same.free2 {q : Addr} {H H1 : Hp} {o : HO} (a : Same H H1) (h : H q = none) : Same H (upd H1 q o) := fun c u z => by
  rw [upd_ne (ne_of_none z h)]
  exact a c u z
theorem But.none {p q : Addr} {H H1 : Hp} (a : But p H H1) (n : q ≠ p) (h : H1 q = Option.none) : H q = Option.none := by
  cases z : H q with
  | none => rfl
  | some o =>
    rw [a q o n z] at h
    cases h
/-! ### the drawn numbers -/
/-- a pool: two numbers -/
structure Pool (H : Hp) (p : Addr) : Prop where
  ex : ∃ m s : Int, H p = some (.lst [.int m, .int s]) ∧ 0 ≤ m ∧ 0 ≤ s ∧ s < 2147483647
theorem Pool.ne {H : Hp} {p t : Addr} {xs : List V} (h : Pool H p) (ht : H t = some (.tup xs)) : t ≠ p := by
  obtain ⟨m, s, e, _⟩ := h.ex
  intro z
  rw [z, e] at ht
  cases ht
theorem Pool.free {H : Hp} {p q : Addr} (h : Pool H p) (hq : H q = none) : q ≠ p := by
  obtain ⟨m, s, e, _⟩ := h.ex
  intro z
  rw [z, e] at hq
  cases hq
theorem Pool.same {H H' : Hp} {p : Addr} (h : Pool H p) (s : Same H H') : Pool H' p := by
  obtain ⟨m, n, e, r⟩ := h.ex
  exact ⟨m, n, s _ _ e, r⟩
theorem Pool.upd {H : Hp} {p q : Addr} {o : HO} (h : Pool H p) (n : q ≠ p) : Pool (L2.upd H q o) p := by
  obtain ⟨m, k, e, r⟩ := h.ex
  exact ⟨m, k, by rw [upd_ne (Ne.symm n)]; exact e, r⟩
end SE
/-! enumerate(t) and t[::-1] of a tuple. -/
namespace SE
open PySem PySem.Spec PyProof.Rows L2
section
open Sem (wp)
open AutoSeq1 (wpAny_loadPart')
theorem meets_enum_newT (t : Addr) (items : Array Value) (n : Nat) (dct : Option Addr) (sl : Array (Option Value)) :
    Meets (Builtin.«enumerate.__new__» ⟨[.type "enumerate", .ref t], []⟩) (fun _ R s => s.heap.get? t = some { cls := .type "tuple", dict := dct, data := .seq items n, slots := sl } ∧
      R (.ok (.ret (.ref (s.heap.push { cls := .type "tuple_iterator", data := .fields #[.ref t, .int 0 0] }).objs.size)))
        { s with heap := (s.heap.push { cls := .type "tuple_iterator", data := .fields #[.ref t, .int 0 0] }).push { cls := .type "enumerate", data := .fields #[.none, .bool false, .ref s.heap.objs.size, rawInt 0, .none, .none] } }) := by
  refine .of_wp fun prog w A R s h => ?_
  obtain ⟨hp, g, d, tk, os⟩ := s
  obtain ⟨ht, h⟩ := h
  have hsub := sub_enumerate
  have hT : Heap.IsTuple (Shared.heap ⟨hp, g, d, tk, os⟩) t items := ⟨_, ht, rfl, n, rfl⟩
  wp_walk using wpAny_loadPart' ht
  refine wpAny_stack_any fun st => wpAny_pure ?_
  split
  · rename_i c _ _ _ _ _
    cases (c == Value.type "enumerate")
    · wp_walk using wpAny_loadPart' ht, wpAny_pyIter_tuple hT
      exact ⟨_, rfl, h⟩
    · wp_walk using wpAny_loadPart' ht, wpAny_pyIter_tuple hT
      exact ⟨_, rfl, h⟩
  · wp_walk using wpAny_loadPart' ht, wpAny_pyIter_tuple hT
    exact ⟨_, rfl, h⟩
end
section
variable {prog : Program} {w : World} {A : Around} {E : Value → Shared → Prop} {s : Shared}
theorem call_enumT {t : Addr} {items : Array Value} {Q : Value → Shared → Prop} (hT : s.heap.IsTuple t items)
    (h : ∀ h', IsEnum h' (s.heap.objs.size + 1) s.heap.objs.size 0 .none → h'.IsTupleIter s.heap.objs.size t 0 → (∀ b o, s.heap.get? b = some o → h'.get? b = some o) → Q (.ref (s.heap.objs.size + 1)) { s with heap := h' }) :
    wpAny (model prog w) A (call (.type "enumerate") [.ref t]) Q E s := by
  obtain ⟨⟨c, dct, dt, sl⟩, ht, hc, n, hd⟩ := hT
  simp only at hc hd
  subst hc hd
  refine callType_new F.called_enumerate (by decide) (F.typeCall_enumerate_1 _) (F.newCall_enumerate_1 _) (fun obj => F.args_object_init_2 obj _) F.entry_enumerate_new (meets_enum_newT t items n dct sl) ⟨ht, ?_⟩
  have hz : (s.heap.push { cls := .type "tuple_iterator", data := .fields #[.ref t, .int 0 0] }).objs.size = s.heap.objs.size + 1 := Heap.size_push ..
  show _ ∧ _
  rw [hz]
  have he : IsEnum ((s.heap.push { cls := .type "tuple_iterator", data := .fields #[.ref t, .int 0 0] }).push
      { cls := .type "enumerate", data := .fields #[.none, .bool false, .ref s.heap.objs.size, rawInt 0, .none, .none] }) (s.heap.objs.size + 1) s.heap.objs.size 0 .none := by
    have z := Heap.get?_push_size (s.heap.push { cls := .type "tuple_iterator", data := .fields #[.ref t, .int 0 0] })
      (o := { cls := .type "enumerate", data := .fields #[.none, .bool false, .ref s.heap.objs.size, rawInt 0, .none, .none] }) rfl
    rw [hz] at z
    exact z
  exact ⟨⟨_, he, rfl⟩, h _ he ⟨_, Heap.get?_push_of_some _ (Heap.get?_push_size _ rfl), rfl, rfl⟩ fun b o x => Heap.get?_push_of_some _ (Heap.get?_push_of_some _ x)⟩
end
/-- the tuple at a, each item in a new pair -/
def ItE (K : PySem.W.Frag) (a : Addr) : It :=
  ⟨fun i H => ∃ (xs : List V) (x : V), SqT K H a xs ∧ xs[i]? = some x, fun i H v H' => ∃ T x, v = .ref T ∧ H T = none ∧ H' = upd H T (.tup [.int (i : Nat), x]) ∧ ∀ xs, SqT K H a xs → xs[i]? = some x, fun i H => ∃ xs : List V, SqT K H a xs ∧ xs.length ≤ i⟩
theorem turn_enumT {P : Program} {w : World} {K : PySem.W.Frag} {elts : List Expr} {kk : Nat} {tpos : Pos} (a e it : Addr) :
    Turn P w K (.Tuple elts kk tpos) (ItE K a) [e, it] e (fun i h => (∃ old, IsEnum h e it ((i : Nat) : Int) old) ∧ h.IsTupleIter it a i ∧ e ≠ it ∧ a ≠ it ∧ a ≠ e) where
  mem := by simp
  obj := fun i h st b hb => by
    obtain ⟨⟨old, he⟩, ⟨o, ho, hc, hd⟩, _⟩ := st
    have ee : b = e ∨ b = it := by simpa using hb
    rcases ee with z | z
    · rw [z]
      exact ⟨_, he, fun v q => nomatch q⟩
    · rw [z]
      exact ⟨o, ho, fun v q => by rw [hd] at q; cases q⟩
  keep := fun i h h' st k => by
    obtain ⟨⟨old, he⟩, hi, hne⟩ := st
    exact ⟨⟨old, k e (by simp) _ he⟩, (let ⟨o, ho, r⟩ := hi; ⟨o, k it (by simp) o ho, r⟩), hne⟩
  item := by
    intro X hP hw hK hc i pins s σ H E I hf st hg
    subst hP hw hK
    obtain ⟨⟨old, he⟩, hit, hne, hai, hae⟩ := st
    obtain ⟨xs, x, hq, hx⟩ := hg
    obtain ⟨its, rv, p, hz⟩ := I.tuple hq
    obtain ⟨u, hu, ru⟩ := rv.get hx
    have hel : e < s.heap.objs.size := Heap.lt_size he
    have hil : it < s.heap.objs.size := by
      obtain ⟨_, q, _⟩ := hit
      exact Heap.lt_size q
    have hlt : i < its.toArray.size := by
      rw [List.size_toArray, ← rv.length]
      exact (List.getElem?_eq_some_iff.mp hx).1
    have D : Draws X.prog X.w X.A.in1 it [it, a] its.toArray.size (fun j v => its.toArray[j]? = some v) (fun j h => h.IsTupleIter it a j ∧ h.IsTuple a its.toArray) := Draws.tuple (A := X.A.in1) (I.ok.hd hc) it a hai its.toArray
    refine wpAny_pyNext_enum_itemD D he ⟨hit, p⟩ hlt hne (by simp [Ne.symm hae, hne]) fun v h1 tk hv ho hit1 hT hsz hk => ?_
    have ev : v = u := by
      have z : some v = some u := by rw [← hv]; simpa using hu
      exact Option.some.inj z
    subst ev
    refine ⟨_, rfl, wpAny_letOwnedTupleGo_enum (s := { s with heap := h1, toks := tk + 1 }) ho fun h2 he2 sb => ?_⟩
    have hT2 : h2.get? s.heap.objs.size = some { cls := .type "tuple", data := .seq #[.int i tk, v] } := (sb.2 _ (Nat.ne_of_gt hel)).trans hT
    have new : ObjOk X.prog X.w (upd H s.heap.objs.size (.tup [.int (i : Nat), x])) h2 s.heap.objs.size (.tup [.int (i : Nat), x]) :=
      ⟨by show 2 ≤ sizeLine; decide, [.int i tk, v], .cons ⟨_, rfl⟩ (.cons ru .nil), ⟨_, hT2, rfl, _, rfl⟩⟩
    have J : Inv X pins σ (upd H s.heap.objs.size (.tup [.int (i : Nat), x])) { s with heap := h2, toks := tk + 1 } :=
      I.turnedNew (ch := [e, it]) (fun b ob hb q => (sb.2 b (fun z => hb (by simp [z]))).trans (hk b ob (fun z => hb (by simp [z])) (fun z => hb (by simp [z])) q)) hf (Nat.le_refl _) new
    refine ⟨.ref s.heap.objs.size, _, J, rfl, ⟨_, x, rfl, I.hok.fresh (Nat.le_refl _), rfl, fun ys hy => by rw [I.tuple_inj hy hq]; exact hx⟩, ⟨⟨v, ?_⟩, ?_, hne, hai, hae⟩, fun b hb => ?_⟩
    · have e1 : ((i + 1 : Nat) : Int) = (i : Int) + 1 := by omega
      rw [e1]
      exact he2
    · obtain ⟨o, ho2, r⟩ := hit1.1
      exact ⟨o, (sb.2 it (Ne.symm hne)).trans ho2, r⟩
    · have hb2 : b < s.heap.objs.size := by
        have ee : b = e ∨ b = it := by simpa using hb
        rcases ee with z | z
        · rw [z]; exact hel
        · rw [z]; exact hil
      rw [upd_ne (Nat.ne_of_lt hb2)]
      exact (hf b hb).1
  done := by
    intro X hP hw hK hc i pins s σ H E I hf st hg
    subst hP hw hK
    obtain ⟨⟨old, he⟩, hit, hne, hai, hae⟩ := st
    obtain ⟨xs, hq, hx⟩ := hg
    obtain ⟨its, rv, p, hz⟩ := I.tuple hq
    obtain ⟨f0, f1, f2, f3, f4, f5⟩ := hf it (by simp)
    have hl := rv.length
    have D : Draws X.prog X.w X.A.in1 it [it, a] i (fun j v => its.toArray[j]? = some v) (fun j h => j = i ∧ h.IsTupleIter it a i ∧ h.IsTuple a its.toArray ∧ its.toArray.size ≤ i) := by
      have D0 := Draws.tuple (prog := X.prog) (w := X.w) (A := X.A.in1) (I.ok.hd hc) it a hai its.toArray
      refine ⟨fun j h z => D0.live i h ⟨z.2.1, z.2.2.1⟩, fun j h h' z k => ⟨z.1, (D0.frame i h h' ⟨z.2.1, z.2.2.1⟩ k).1, (D0.frame i h h' ⟨z.2.1, z.2.2.1⟩ k).2, z.2.2.2⟩, fun j s Q E hj z k => ?_, fun s Q E z k => ?_⟩
      · exact absurd z.1 (Nat.ne_of_lt hj)
      · exact wpAny_nextOf_tuple_end (I.ok.hd hc) z.2.1 z.2.2.1 (Array.getElem?_eq_none z.2.2.2) k
    exact wpAny_pyNext_enum_endD D he ⟨rfl, hit, p, by rw [List.size_toArray]; omega⟩ fun h' eb => ⟨rfl, I.turned (t' := s.toks) (fun b o hb q => eb b o hb q) f0 f1 f3 f4 f5⟩
  self := fun A i s Q E st h => let ⟨⟨_, he⟩, _⟩ := st; wpAny_pyIter_enum he h
def iEnumT (K : PySem.W.Frag) (ta : TA) : TI := fun σ H R => ta σ H fun vs H1 => ∃ a xs, vs = [.ref a] ∧ SqT K H1 a xs ∧ R (ItE K a) H1
theorem pi_enumT {X : Cx} {e : Expr} {ta : TA} {p pos tpos : Pos} {elts : List Expr} {kk : Nat} (hg : Gl X "enumerate") (hm : X.mg "enumerate" = none) (ha : PA X [e] ta) (hs : starEach [e] X.env = [(false, eval e X.env)] := by rfl) :
    PI X (.Tuple elts kk tpos) (.Call (.Name "enumerate" p) [e] [] pos) (iEnumT X.K ta) := by
  constructor
  intro pins s σ H R I h
  refine Call_ (ld_blt I hg hm boot_enumerate (PyProof.Rows.callWith_type1 (thn (ha.run pos pins s σ H _ I h) fun us s1 hh => ?_) hs rfl))
  obtain ⟨vs, H1, I1, r1, a, xs, ex, hq, q⟩ := hh
  subst ex
  cases r1 with
  | cons r rr =>
    cases rr
    cases r
    obtain ⟨its, rv, p2, hz⟩ := I1.tuple hq
    refine call_enumT p2 fun h2 he hit hk => wpAny_pyIter_enum he ?_
    have I2 : Inv X pins σ H1 { s1 with heap := h2 } := I1.kept (t' := s1.toks) hk
    have hlt : a < s1.heap.objs.size := p2.lt
    refine ⟨s1.heap.objs.size + 1, [s1.heap.objs.size + 1, s1.heap.objs.size], _, _, H1, rfl, I2, turn_enumT a (s1.heap.objs.size + 1) s1.heap.objs.size, ⟨⟨.none, he⟩, hit, Nat.succ_ne_self _, Nat.ne_of_lt hlt, Nat.ne_of_lt (Nat.lt_succ_of_lt hlt)⟩, fun b hb => ?_, q⟩
    have ee : b = s1.heap.objs.size + 1 ∨ b = s1.heap.objs.size := by simpa using hb
    have hle : s1.heap.objs.size ≤ b := by
      rcases ee with z | z
      · rw [z]; exact Nat.le_add_right _ _
      · rw [z]; exact Nat.le_refl _
    exact I1.fpOk hle (I1.hok.fresh hle)
/-! ### t[::-1] -/
section
variable {prog : Program} {w : World} {A : Around} {E : Value → Shared → Prop} {s : Shared}
theorem back_pick (xs : Array Value) (n : Nat) (hn : n = xs.size) : (List.range n).filterMap (fun (m : Nat) => xs[(((n : Int) - 1) + (m : Int) * (-1)).toNat]?) = xs.toList.reverse := by
  subst hn
  have e : (fun (m : Nat) => xs[(((xs.size : Nat) : Int) - 1 + (m : Int) * (-1)).toNat]?) = fun m => xs[xs.size - 1 - m]? := by
    funext m
    have z : (((xs.size : Nat) : Int) - 1 + (m : Int) * (-1)).toNat = xs.size - 1 - m := by omega
    rw [z]
  rw [e]
  have a := PySem.W.krv_pick xs
  have b : PySem.slicePick xs none none (some (-1)) = ((List.range xs.size).filterMap fun m => xs[xs.size - 1 - m]?).toArray := by
    unfold PySem.slicePick
    rw [PySem.W.krv_bounds]
    show ((PySem.sliceRange ((xs.size : Int) - 1) (-1) (-1)).filterMap (xs[·]?)).toArray = _
    rw [PySem.W.krv_sliceRange, List.filterMap_map]
    rfl
  have c := a.symm.trans b
  have d := congrArg Array.toList c
  exact d.symm
theorem applied_back {sl : Addr} {vs : Value} {n : Nat} {Q : Int × Int × Nat → Shared → Prop} (hs : s.heap.IsSliceOf sl .none .none vs) (pv : IsPart vs (some (-1)))
    (h : Q ((n : Int) - 1, -1, n) s) : wpAny (model prog w) A (Builtin.Slice.sliceApplied (.ref sl) (pure (n : Int))) Q E s := by
  obtain ⟨os, hos, hcs, hds⟩ := id hs
  unfold Builtin.Slice.sliceApplied Builtin.Slice.sliceFields
  refine wpAny_bind (wpAny_bind (wpAny_field hos hds (x := .none) rfl (wpAny_bind (wpAny_field hos hds (x := .none) rfl (wpAny_bind (wpAny_field hos hds (x := vs) rfl (wpAny_pure ?_)))))))
  refine wpAny_bind (HT.slicePart_ pv ?_)
  show wpAny _ _ (if ((-1 : Int) == 0) = true then _ else _) _ _ s
  rw [if_neg (by decide)]
  refine wpAny_bind (HT.slicePart_ .none (wpAny_bind (HT.slicePart_ .none (wpAny_bind (wpAny_pure ?_)))))
  show wpAny _ _ (pure ((n : Int) - 1, (-1 : Int), Builtin.Slice.slicePlaces ((n : Int) - 1) (-1) (-1))) _ _ s
  have e : Builtin.Slice.slicePlaces ((n : Int) - 1) (-1) (-1) = n := by
    unfold Builtin.Slice.slicePlaces
    rw [if_neg (by decide)]
    by_cases hn : (n : Int) - 1 > -1
    · rw [if_pos hn, show (- -1 : Int) = 1 by decide, Int.ediv_one]
      omega
    · rw [if_neg hn]
      omega
  rw [e]
  exact wpAny_pure h
theorem item_back {t sl : Addr} {items : Array Value} {vs : Value} {Q : Value → Shared → Prop} (ht : IsTup s.heap t items) (hs : s.heap.IsSliceOf sl .none .none vs) (pv : IsPart vs (some (-1)))
    (h : Q (.ref s.heap.objs.size) { s with heap := s.heap.push { cls := .type "tuple", data := .seq items.toList.reverse.toArray } }) (hsz : items.size ≤ sizeLine) : wpAny (model prog w) A (getItem (.ref t) (.ref sl)) Q E s := by
  have hok : sizeOk (.seq items.toList.reverse.toArray) := by
    show items.toList.reverse.toArray.size ≤ sizeLine
    rw [List.size_toArray, List.length_reverse, Array.length_toList]
    exact hsz
  obtain ⟨os, hos, hcs, hds⟩ := id hs
  have hTs : s.TypeIs (.ref sl) "slice" := ⟨os, hos, hcs⟩
  unfold getItem
  try with_reducible refine wpAny_holding ?_
  first | refine wpAny_bind (wpAny_pure ?_) | skip
  refine wpAny_bind (wpAny_sequenceKey ht.typeIs (by decide) ?_)
  refine wpAny_bind (wpAny_callSpecial?_slot (name := Str.ofString "__getitem__") ht.typeIs PyProof.Rows.slot_tuple_getitem (wpAny_call_entry PyProof.Rows.slot_tuple_getitem ht.typeIs entry_tuple_getitem ?_ (args_tuple_getitem _ _)))
  show wpAny _ _ (Builtin.Tuple.tupleItemsOf (.ref t) >>= _) _ _ s
  refine wpAny_bind (tupleItemsOf_ ht ?_)
  refine wpAny_bind (wpAny_typeOf hTs ?_)
  rw [if_pos (by decide)]
  refine wpAny_bind (applied_back hs pv ?_)
  have hno : ¬ ((((items.size : Int) - 1) == 0 && (-1 : Int) == 1 && items.size == items.size) = true) := by
    intro q
    rw [Bool.and_eq_true, Bool.and_eq_true] at q
    exact absurd q.1.2 (by decide)
  show wpAny _ _ (if (((items.size : Int) - 1) == 0 && (-1 : Int) == 1 && items.size == items.size) = true then _ else _) _ _ s
  rw [if_neg hno, back_pick items items.size rfl]
  first
    | exact wpAny_bind (m := Builtin.Tuple.tupleExact _) (wpAny_newObj_type (wpAny_pure ⟨_, rfl, wpAny_pure h⟩) hok)
    | exact wpAny_bind (m := Builtin.Tuple.tupleExact _) (wpAny_newObj_type (wpAny_bind (wpAny_pure (wpAny_pure ⟨_, rfl, wpAny_pure h⟩))) hok)
    | exact wpAny_bind (wpAny_bind (m := Builtin.Tuple.tupleExact _) (wpAny_newObj_type (wpAny_pure (wpAny_pure ⟨_, rfl, wpAny_pure h⟩)) hok))
    | exact wpAny_bind (wpAny_bind (m := Builtin.Tuple.tupleExact _) (wpAny_newObj_type (wpAny_pure ⟨_, rfl, wpAny_pure h⟩) hok))
end
def tRevT (K : PySem.W.Frag) (te : TE) : TE := fun σ H Q => te σ H fun x H1 => ∃ a xs, x = .ref a ∧ SqT K H1 a xs ∧ ∀ p, H1 p = none → Q (.ref p) (upd H1 p (.tup xs.reverse))
theorem pe_revT {X : Cx} {e : Expr} {te : TE} {k : Nat} {p1 p2 p3 pos : Pos} (he : PE X e te) : PE X (.Subscript e (.Slice none none (some (.UnaryOp .USub (.Constant (.int 1) k p1) p2)) p3) pos) (tRevT X.K te) := by
  constructor
  intro pins s σ H Q I h
  refine Subscript_ (thn (he.run pins s σ H _ I h) fun v s1 hh => ?_)
  obtain ⟨x, H1, I1, r1, a, xs, ex, hx, q⟩ := hh
  subst ex
  cases r1
  have hst : PO X (some (.UnaryOp .USub (.Constant (.int 1) k p1) p2)) (tPart (tUn (rU fun i => .int (-i)) (tC (.int 1)))) := po_some (pe_un un_neg pe_int)
  refine wpAny_Slice (thn (po_none.run pins s1 σ H1 (fun o H2 => o = none ∧ H2 = H1) I1 ⟨rfl, rfl⟩) fun vl s2 hl => ?_)
  obtain ⟨l, H2, I2, pl, el, e2⟩ := hl
  subst el e2
  refine thn (po_none.run pins s2 σ H2 (fun o H3 => o = none ∧ H3 = H2) I2 ⟨rfl, rfl⟩) fun vu s3 hu => ?_
  obtain ⟨u, H3, I3, pu, eu, e3⟩ := hu
  subst eu e3
  refine thn (hst.run pins s3 σ H3 (fun o H4 => o = some (-1) ∧ H4 = H3) I3 ⟨1, rfl, -1, rfl, rfl, rfl⟩) fun vs s4 ho => ?_
  obtain ⟨o, H4, I4, ps, eo, e4⟩ := ho
  subst eo e4
  cases pl
  cases pu
  have I5 : Inv X pins σ H4 { s4 with heap := s4.heap.push { cls := .type "slice", data := .fields #[.none, .none, vs] } } := I4.kept (t' := s4.toks) fun b ob q => Heap.get?_push_of_some _ q
  obtain ⟨its, r, ht, hz⟩ := I5.tuple hx
  have hlen := r.length
  show wpAny (model X.prog X.w) X.A (subscriptTail e (.Slice none none (some (.UnaryOp .USub (.Constant (.int 1) k p1) p2)) p3) (.ref a) (.ref s4.heap.objs.size)) (EP X pins σ Q) X.xe { s4 with heap := s4.heap.push { cls := .type "slice", data := .fields #[.none, .none, vs] } }
  refine tail_any (ops := [.ref a, .ref s4.heap.objs.size]) ht.typeIs (PyProof.Rows.slot_tuple_getitem.lookup) ?_ (by with_unfolding_all rfl)
  refine item_back ht (Heap.IsSliceOf.new _ .none .none vs) ps ?_ (by rw [List.size_toArray]; omega)
  refine ⟨.ref _, _, I5.laid (t' := s4.toks) (o := .tup xs.reverse) (fun b ob q => Heap.get?_push_of_some _ q) (Nat.le_refl _) ?_, rfl, q _ (I5.hok.fresh (Nat.le_refl _))⟩
  exact ⟨by rw [List.length_reverse]; exact hz, _, r.reverse, IsTup.new _ _⟩
end SE
/-! Plain data: texts, steps; when they are equal, how they are shown. -/
namespace SE
open PySem PySem.Spec PyProof.Rows L2
/-- a text that is an item -/
structure Item (z : Str) : Prop where
  pos : 1 ≤ z.length
  most : z.length ≤ 8
  low : ∀ c ∈ z.cps.toList, 97 ≤ c ∧ c ≤ 122
/-- data that may be compared and shown: its depth, its weight -/
structure Nice (k B : Nat) (d : PyData) : Prop where
  lay : d.canLay0 = true
  dep : d.depth ≤ k
  sh : d.showable = true
  nd : d.hasDict = false
  ish : d.intsShort 13 = true
  wt : d.weight ≤ B
theorem Nice.mono {k j B C : Nat} {d : PyData} (h : Nice k B d) (hk : k ≤ j) (hB : B ≤ C) : Nice j C d := ⟨h.lay, Nat.le_trans h.dep hk, h.sh, h.nd, h.ish, Nat.le_trans h.wt hB⟩
theorem nice_str {z : Str} {B : Nat} (hc : ∀ c ∈ z.cps.toList, c < 0x110000) (hB : z.length ≤ B) : Nice 0 B (.str z) := by
  refine ⟨?_, ?_, ?_, ?_, ?_, ?_⟩
  · simp only [PyData.canLay0, PyData.strOk]
    rw [← Array.all_toList, List.all_eq_true]
    intro c h
    exact decide_eq_true (hc c h)
  · simp only [PyData.depth]
    exact Nat.le_refl _
  · simp only [PyData.showable]
  · simp only [PyData.hasDict]
  · simp only [PyData.intsShort]
  · simp only [PyData.weight]
    exact hB
theorem Item.nice {z : Str} (h : Item z) : Nice 0 8 (.str z) := nice_str (fun c hc => by have := (h.low c hc).2; omega) h.most
theorem nice_all {k B : Nat} : ∀ {ds : List PyData}, (∀ d ∈ ds, Nice k B d) → PyData.canLayAll0 ds = true ∧ PyData.depthAll ds ≤ k ∧ PyData.showableAll ds = true ∧ PyData.hasDictAll ds = false ∧ PyData.intsShortAll 13 ds = true ∧ PyData.weightAll ds ≤ ds.length * (B + 1)
  | [], _ => by
    refine ⟨?_, ?_, ?_, ?_, ?_, ?_⟩
    · simp only [PyData.canLayAll0]
    · simp only [PyData.depthAll]
      exact Nat.zero_le _
    · simp only [PyData.showableAll]
    · simp only [PyData.hasDictAll]
    · simp only [PyData.intsShortAll]
    · simp only [PyData.weightAll]
      exact Nat.zero_le _
  | d :: ds, h => by
    obtain ⟨a1, a2, a3, a4, a5, a6⟩ := nice_all (ds := ds) fun x hx => h x (List.mem_cons_of_mem _ hx)
    have q := h d List.mem_cons_self
    refine ⟨?_, ?_, ?_, ?_, ?_, ?_⟩
    · simp only [PyData.canLayAll0, q.lay, a1, Bool.and_self]
    · simp only [PyData.depthAll]
      exact Nat.max_le.mpr ⟨q.dep, a2⟩
    · simp only [PyData.showableAll, q.sh, a3, Bool.and_self]
    · simp only [PyData.hasDictAll, q.nd, a4, Bool.or_self]
    · simp only [PyData.intsShortAll, q.ish, a5, Bool.and_self]
    · simp only [PyData.weightAll, List.length_cons]
      have := q.wt
      rw [Nat.add_mul]
      omega
theorem nice_list {k B : Nat} {ds : List PyData} (h : ∀ d ∈ ds, Nice k B d) : Nice (k + 1) (ds.length * (B + 1)) (.list ds) := by
  obtain ⟨a1, a2, a3, a4, a5, a6⟩ := nice_all h
  exact ⟨by simp only [PyData.canLay0]; exact a1, by simp only [PyData.depth]; omega, by simp only [PyData.showable]; exact a3, by simp only [PyData.hasDict]; exact a4, by simp only [PyData.intsShort]; exact a5, by simp only [PyData.weight]; exact a6⟩
theorem nice_tuple {k B : Nat} {ds : List PyData} (h : ∀ d ∈ ds, Nice k B d) : Nice (k + 1) (ds.length * (B + 1)) (.tuple ds) := by
  obtain ⟨a1, a2, a3, a4, a5, a6⟩ := nice_all h
  exact ⟨by simp only [PyData.canLay0]; exact a1, by simp only [PyData.depth]; omega, by simp only [PyData.showable]; exact a3, by simp only [PyData.hasDict]; exact a4, by simp only [PyData.intsShort]; exact a5, by simp only [PyData.weight]; exact a6⟩
theorem Nice.shaped {k B : Nat} {d : PyData} (h : Nice k B d) (hk : k ≤ 64) : SeqAt.shaped d = true := by
  unfold SeqAt.shaped
  rw [h.lay, Bool.true_and]
  exact decide_eq_true (Nat.le_trans h.dep hk)
theorem Nice.shown {k B : Nat} {d : PyData} (h : Nice k B d) (hk : k ≤ 64) (hB : B ≤ 2 ^ 20) : d.shown.length ≤ sizeLine := by
  refine PyData.shown_fits_of_layable0 (B := 13) (by decide) (by decide) ?_ h.ish
  unfold PyData.layable0
  rw [h.lay, Bool.true_and, Bool.and_eq_true]
  exact ⟨decide_eq_true (Nat.le_trans h.dep hk), decide_eq_true (Nat.le_trans h.wt hB)⟩
theorem Nice.eqv {k B : Nat} {d : PyData} (h : Nice k B d) : PyData.eqv d d = true := SeqAt.eqv_refl d h.lay
/-! ### texts -/
theorem dp_strs {K : PySem.W.Frag} {H : Hp} : ∀ zs : List Str, DpAll K H (zs.map V.str) (zs.map PyData.str)
  | [] => .nil
  | z :: zs => .cons (.str z) (dp_strs zs)
theorem eqvAll_strs : ∀ a b : List Str, PyData.eqvAll (a.map .str) (b.map .str) = decide (a = b)
  | [], [] => by simp [PyData.eqvAll]
  | [], y :: b => by simp [PyData.eqvAll]
  | x :: a, [] => by simp [PyData.eqvAll]
  | x :: a, y :: b => by
    rw [List.map_cons, List.map_cons]
    unfold PyData.eqvAll
    rw [eqvAll_strs a b]
    unfold PyData.eqv
    by_cases e : x = y
    · subst e
      simp
    · simp [e]
theorem eqv_listS (a b : List Str) : PyData.eqv (.list (a.map .str)) (.list (b.map .str)) = decide (a = b) := by
  unfold PyData.eqv
  exact eqvAll_strs a b
theorem eqv_tupS (a b : List Str) : PyData.eqv (.tuple (a.map .str)) (.tuple (b.map .str)) = decide (a = b) := by
  unfold PyData.eqv
  exact eqvAll_strs a b
theorem nice_strs {zs : List Str} (h : ∀ z ∈ zs, Item z) : ∀ d ∈ zs.map PyData.str, Nice 0 8 d := by
  intro d hd
  obtain ⟨z, hz, rfl⟩ := List.mem_map.mp hd
  exact (h z hz).nice
/-! ### steps -/
abbrev Stp := Bool × Str
def act (b : Bool) : Str := if b then "push" else "pop"
theorem act_nice (b : Bool) : Nice 0 8 (.str (act b)) := by
  cases b
  · exact nice_str (by decide +kernel) (by decide +kernel)
  · exact nice_str (by decide +kernel) (by decide +kernel)
def stepD (s : Stp) : PyData := .tuple [.str (act s.1), .str s.2]
theorem stepD_nice {s : Stp} (h : Item s.2) : Nice 1 18 (stepD s) := by
  refine (nice_tuple (k := 0) (B := 8) (ds := [.str (act s.1), .str s.2]) ?_).mono (Nat.le_refl _) (by show 2 * 9 ≤ 18; decide)
  intro d hd
  rcases List.mem_cons.mp hd with q | q
  · rw [q]
    exact act_nice _
  · rw [List.mem_singleton.mp q]
    exact h.nice
/-- a step -/
def StepV (K : PySem.W.Frag) (H : Hp) (v : V) (s : Stp) : Prop := ∃ t, v = .ref t ∧ SqT K H t [.str (act s.1), .str s.2]
abbrev StepsV (K : PySem.W.Frag) (H : Hp) : List V → List Stp → Prop := Paired (StepV K H)
theorem StepV.same {K : PySem.W.Frag} {H H' : Hp} {v : V} {s : Stp} (h : StepV K H v s) (e : Same H H') : StepV K H' v s := by
  obtain ⟨t, rfl, q⟩ := h
  exact ⟨t, rfl, Same.tup e q⟩
theorem StepsV.same {K : PySem.W.Frag} {H H' : Hp} {xs : List V} {ss : List Stp} (h : StepsV K H xs ss) (e : Same H H') : StepsV K H' xs ss := Paired.mapP h fun _ _ q => q.same e
theorem StepsV.at {K : PySem.W.Frag} {H : Hp} : ∀ {xs : List V} {ss : List Stp} {i : Nat} {v : V}, StepsV K H xs ss → xs[i]? = some v → ∃ s, ss[i]? = some s ∧ StepV K H v s
  | _, _, _, _, .nil, h => by simp at h
  | _, _, 0, _, .cons a _, h => by
    have e := Option.some.inj h
    subst e
    exact ⟨_, rfl, a⟩
  | _, _, i + 1, _, .cons _ r, h => StepsV.at (i := i) r h
theorem dp_steps {K : PySem.W.Frag} {H : Hp} : ∀ {xs : List V} {ss : List Stp}, StepsV K H xs ss → DpAll K H xs (ss.map stepD)
  | _, _, .nil => .nil
  | _, _, .cons a r => by
    obtain ⟨t, rfl, q⟩ := a
    exact .cons (.tup q (.cons (.str _) (.cons (.str _) .nil))) (dp_steps r)
theorem nice_steps {ss : List Stp} (h : ∀ s ∈ ss, Item s.2) : ∀ d ∈ ss.map stepD, Nice 1 18 d := by
  intro d hd
  obtain ⟨s, hs, rfl⟩ := List.mem_map.mp hd
  exact stepD_nice (h s hs)
theorem StepsV.rev {K : PySem.W.Frag} {H : Hp} : ∀ {xs : List V} {ss : List Stp}, StepsV K H xs ss → StepsV K H xs.reverse ss.reverse
  | _, _, .nil => .nil
  | _, _, .cons a r => by
    rw [List.reverse_cons, List.reverse_cons]
    exact (StepsV.rev r).snoc a
/-- the exchange of push and pop -/
def flip1 (s : Stp) : Stp := (!s.1, s.2)
def revM (ss : List Stp) : List Stp := ss.reverse.map flip1
/-- what a step makes of a stack -/
def stepM (s : Stp) (zs : List Str) : Option (List Str) := if s.1 then some (s.2 :: zs) else match zs with
  | [] => none
  | z :: r => if z = s.2 then some r else none
def runM : List Stp → List Str → Option (List Str)
  | [], zs => some zs
  | s :: ss, zs => match stepM s zs with
    | none => none
    | some ws => runM ss ws
theorem runM_append : ∀ (a b : List Stp) (zs : List Str), runM (a ++ b) zs = (runM a zs).bind (runM b)
  | [], b, zs => rfl
  | s :: a, b, zs => by
    show (match stepM s zs with | none => none | some ws => runM (a ++ b) ws) = (match stepM s zs with | none => none | some ws => runM a ws).bind (runM b)
    cases stepM s zs with
    | none => rfl
    | some ws => exact runM_append a b ws
theorem stepM_flip {s : Stp} {zs ws : List Str} (h : stepM s zs = some ws) : stepM (flip1 s) ws = some zs := by
  obtain ⟨b, x⟩ := s
  cases b with
  | true =>
    have e : x :: zs = ws := by
      have q : some (x :: zs) = some ws := h
      exact Option.some.inj q
    subst e
    show (if x = x then some zs else none) = some zs
    rw [if_pos rfl]
  | false =>
    cases zs with
    | nil => exact absurd h (by intro q; cases q)
    | cons z r =>
      have q : (if z = x then some r else none) = some ws := h
      by_cases e : z = x
      · rw [if_pos e] at q
        have e2 := Option.some.inj q
        subst e2
        subst e
        rfl
      · rw [if_neg e] at q
        cases q
theorem runM_rev : ∀ (ss : List Stp) (zs ws : List Str), runM ss zs = some ws → runM (revM ss) ws = some zs
  | [], zs, ws, h => by
    have e : zs = ws := Option.some.inj h
    subst e
    rfl
  | s :: ss, zs, ws, h => by
    have h' : (match stepM s zs with | none => none | some ys => runM ss ys) = some ws := h
    cases e : stepM s zs with
    | none =>
      rw [e] at h'
      cases h'
    | some ys =>
      rw [e] at h'
      have ih := runM_rev ss ys ws h'
      show runM ((s :: ss).reverse.map flip1) ws = some zs
      rw [List.reverse_cons, List.map_append, runM_append]
      have ih' : runM (ss.reverse.map flip1) ws = some ys := ih
      rw [ih']
      show (match stepM (flip1 s) ys with | none => none | some ws => runM [] ws) = some zs
      rw [stepM_flip e]
      rfl
theorem revM_revM (ss : List Stp) : revM (revM ss) = ss := by
  unfold revM
  rw [← List.map_reverse, List.reverse_reverse, List.map_map]
  have e : flip1 ∘ flip1 = id := by
    funext s
    obtain ⟨b, x⟩ := s
    cases b <;> rfl
  rw [e, List.map_id]
theorem revM_items {ss : List Stp} (h : ∀ s ∈ ss, Item s.2) : ∀ s ∈ revM ss, Item s.2 := by
  intro s hs
  obtain ⟨t, ht, rfl⟩ := List.mem_map.mp hs
  exact h t (List.mem_reverse.mp ht)
theorem stepM_items {s : Stp} {zs ws : List Str} (h : stepM s zs = some ws) (hs : Item s.2) (hz : ∀ z ∈ zs, Item z) : ∀ z ∈ ws, Item z := by
  obtain ⟨b, x⟩ := s
  cases b with
  | true =>
    have e : x :: zs = ws := Option.some.inj (show some (x :: zs) = some ws from h)
    subst e
    intro z m
    rcases List.mem_cons.mp m with q | q
    · rw [q]
      exact hs
    · exact hz z q
  | false =>
    cases zs with
    | nil => exact absurd h (by intro q; cases q)
    | cons y r =>
      have q : (if y = x then some r else none) = some ws := h
      by_cases e : y = x
      · rw [if_pos e] at q
        have e2 := Option.some.inj q
        subst e2
        exact fun z m => hz z (List.mem_cons_of_mem _ m)
      · rw [if_neg e] at q
        cases q
theorem stepM_len {s : Stp} {zs ws : List Str} (h : stepM s zs = some ws) : ws.length ≤ zs.length + 1 := by
  obtain ⟨b, x⟩ := s
  cases b with
  | true =>
    have e : x :: zs = ws := Option.some.inj (show some (x :: zs) = some ws from h)
    subst e
    exact Nat.le_refl _
  | false =>
    cases zs with
    | nil => exact absurd h (by intro q; cases q)
    | cons y r =>
      have q : (if y = x then some r else none) = some ws := h
      by_cases e : y = x
      · rw [if_pos e] at q
        have e2 := Option.some.inj q
        subst e2
        rw [List.length_cons]
        omega
      · rw [if_neg e] at q
        cases q
end SE
namespace SE
open PySem PySem.Spec PyProof.Rows L2
def topS (i : Nat) : Stmt := PySem.Challenge.pw_stackeffect_k12_effects_built.main.body.getD i (.Pass ⟨0, 0, 0, 0⟩)
abbrev sWall : Stmt := topS 0
abbrev sStackerror : Stmt := topS 2
abbrev sInvalidword : Stmt := topS 3
abbrev sInvalidsteps : Stmt := topS 4
abbrev sInvalidnumber : Stmt := topS 5
abbrev sIsWhole : Stmt := topS 7
abbrev sIsBetween : Stmt := topS 8
abbrev sIsItem : Stmt := topS 15
abbrev sIsWord : Stmt := topS 16
abbrev sIsStep : Stmt := topS 17
abbrev sMayHold : Stmt := topS 18
abbrev sIsLimit : Stmt := topS 19
abbrev sChkSteps : Stmt := topS 20
abbrev sChkWord : Stmt := topS 21
abbrev sChkLimit : Stmt := topS 22
abbrev sTooHigh : Stmt := topS 23
abbrev sLeastPeak : Stmt := topS 25
abbrev sEffect : Stmt := topS 26
abbrev sReplaced : Stmt := topS 27
abbrev sJoined : Stmt := topS 28
abbrev sPartsOfStep : Stmt := topS 29
abbrev sEffectOf : Stmt := topS 30
abbrev sPool : Stmt := topS 32
abbrev sTake : Stmt := topS 33
abbrev sItems : Stmt := topS 34
abbrev sWord : Stmt := topS 35
abbrev sSteps : Stmt := topS 36
abbrev sLawRun : Stmt := topS 37
abbrev sLawRaised : Stmt := topS 38
abbrev sLawAlikeRight : Stmt := topS 39
abbrev sLawErrorsRight : Stmt := topS 40
abbrev sLaw : Stmt := topS 41
end SE
namespace SE
open PySem PySem.Spec PyProof.Rows L2
section
variable {P : Program} {w : World} {K : PySem.W.Frag} {mg : Str → Option Value} {base : Heap}
/-! ### _law_take -/
def spTake : Sp := fun xs H Q _ => ∃ (p : Addr) (n : Int), xs = [.ref p, .int n] ∧ Pool H p ∧ 1 ≤ n ∧ n ≤ 100000 ∧
  ∀ (r : Int) (H' : Hp), But p H H' → Pool H' p → 0 ≤ r → r < n → Q (.int r) H'
theorem scTake : FnScope ["_law_pool_here", "_law_many", "_law_found"] ["_law_pool_here", "_law_many"] (defScope sTake) := ⟨rfl, rfl, rfl, by decide +kernel, rfl, by decide +kernel, by decide +kernel⟩
theorem has_take (D : Def K mg "_law_take" sTake) : Has P w K mg base "_law_take" 1 ["_law_pool_here", "_law_many"] [] spTake := by
  refine has_of D scTake (fun _ _ _ _ _ _ us hl => match us, hl with | [_, _], _ => rfl) (fun xs H Q E h => ?_) (fun f cv A out s H xs Q E hr h => ?_)
  · obtain ⟨p, n, rfl, _⟩ := h
    rfl
  · obtain ⟨p, n, rfl, hp, h1, h2, k⟩ := h
    obtain ⟨m, z, e, hm, hz0, hz1⟩ := hp.ex
    have a0 : atI [V.int m, V.int z] 0 = some (.int m) := atI_nat (j := 0) rfl
    refine ⟨_, pss_cons (ps_if (pt_cmpR op_gt (pe_ix ix_list (pv 0) pe_int (fun _ _ => rfl)) pe_int (nomark _))
        (pss_cons (ps_set (i := 2) scTake.nd rfl (.inl rfl) (pe_op op_modN (pe_ix ix_list (pv 0) pe_int (fun _ _ => rfl)) (pv 1)))
        (pss_cons (ps_asg (pe_op op_fdivN (pe_ix ix_list (pv 0) pe_int (fun _ _ => rfl)) (pv 1)) (pg_sub (pv 0) pe_int set_list))
        (pss_one (ps_ret (pv 2))))) pss_nil)
      (pss_cons (ps_asg (pe_op op_mod (pe_op op_add (pe_op op_mul (pe_ix ix_list (pv 0) pe_int (fun _ _ => rfl)) pe_int) pe_int) pe_int) (pg_sub (pv 0) pe_int set_list))
      (pss_one (ps_ret (pe_op op_modN (pe_op op_fdiv (pe_op op_mod (pe_op op_mul (pe_ix ix_list (pv 0) pe_int (fun _ _ => rfl)) (pe_ix ix_list (pv 0) pe_int (fun _ _ => rfl))) pe_int) pe_int) (pv 1))))), ?_⟩
    refine ⟨.ref p, rfl, p, _, 0, _, rfl, rfl, .of e, a0, m, 0, rfl, rfl, _, rfl, ite2 (fun c => ?_) (fun c => ?_)⟩
    · refine ⟨.ref p, rfl, p, _, 0, _, rfl, rfl, .of e, a0, .int n, rfl, m, n, rfl, rfl, (by omega), ?_⟩
      refine ⟨.ref p, rfl, p, _, 0, _, rfl, rfl, .of e, a0, .int n, rfl, m, n, rfl, rfl, ⟨by omega, by omega⟩, .ref p, rfl, p, _, 0, 0, rfl, rfl, e, rfl, ?_⟩
      refine ⟨_, rfl, k _ _ .at ⟨m.fdiv n, z, upd_same, ?_, hz0, hz1⟩ ?_ ?_⟩
      · rw [Int.fdiv_eq_ediv_of_nonneg _ (by omega)]
        exact Int.ediv_nonneg hm (by omega)
      · rw [Int.fmod_eq_emod_of_nonneg _ (by omega)]
        exact Int.emod_nonneg _ (by omega)
      · rw [Int.fmod_eq_emod_of_nonneg _ (by omega)]
        exact Int.emod_lt_of_pos _ (by omega)
    · have a1 : atI [V.int m, V.int z] 1 = some (.int z) := atI_nat (j := 1) rfl
      refine ⟨.ref p, rfl, p, _, 1, _, rfl, rfl, .of e, a1, z, 48271, rfl, rfl, .inl ⟨by omega, by omega⟩, _, 11, rfl, rfl, _, 2147483647, rfl, rfl, (by show (0 : Int) < 2147483647; decide), .ref p, rfl, p, _, 1, 1, rfl, rfl, e, rfl, ?_⟩
      have q0 : 0 ≤ (z * 48271 + 11) % 2147483647 := Int.emod_nonneg _ (by omega)
      have q1 : (z * 48271 + 11) % 2147483647 < 2147483647 := Int.emod_lt_of_pos _ (by omega)
      have e' : (upd H p (.lst ([V.int m, V.int z].set 1 (.int ((z * 48271 + 11) % 2147483647))))) p = some (.lst [V.int m, .int ((z * 48271 + 11) % 2147483647)]) := upd_same
      have a1' : atI [V.int m, V.int ((z * 48271 + 11) % 2147483647)] 1 = some (.int ((z * 48271 + 11) % 2147483647)) := atI_nat (j := 1) rfl
      refine ⟨.ref p, rfl, p, _, 1, _, rfl, rfl, .of e', a1', .ref p, rfl, p, _, 1, _, rfl, rfl, .of e', a1', ((z * 48271 + 11) % 2147483647), ((z * 48271 + 11) % 2147483647), rfl, rfl, .inl ⟨by omega, by omega⟩, _, 2147483629, rfl, rfl, (by show (0 : Int) < 2147483629; decide), _, 64, rfl, rfl, ⟨by decide, by decide⟩, .int n, rfl, _, n, rfl, rfl, (by omega), ?_⟩
      refine k _ _ .at ⟨m, ((z * 48271 + 11) % 2147483647), upd_same, hm, q0, q1⟩ ?_ ?_
      · rw [Int.fmod_eq_emod_of_nonneg _ (by omega)]
        exact Int.emod_nonneg _ (by omega)
      · rw [Int.fmod_eq_emod_of_nonneg _ (by omega)]
        exact Int.emod_lt_of_pos _ (by omega)
/-! ### _law_pool -/
def spPool (K : PySem.W.Frag) : Sp := fun xs H Q _ => ∃ (a : Addr) (ns : List Int) (i : Int), xs = [.ref a, .int i] ∧ SqL K H a (ns.map V.int) ∧ 0 ≤ i ∧ i ≤ 63 ∧
  ∀ (p : Addr) (H' : Hp), Same H H' → H p = none → Pool H' p → Q (.ref p) H'
theorem scPool : FnScope ["_law_script", "_law_k", "_law_cell", "_law_size", "_law_seed"] ["_law_script", "_law_k"] (defScope sPool) := ⟨rfl, rfl, rfl, by decide +kernel, rfl, by decide +kernel, by decide +kernel⟩
theorem has_pool (D : Def K mg "_law_pool" sPool) (ml : mg "len" = none) (ma : mg "abs" = none) (mi : mg "int" = none) : Has P w K mg base "_law_pool" 1 ["_law_script", "_law_k"] [] (spPool K) := by
  refine has_of D scPool (fun _ _ _ _ _ _ us hl => match us, hl with | [_, _], _ => rfl) (fun xs H Q E h => ?_) (fun f cv A out s H xs Q E hr h => ?_)
  · obtain ⟨a, ns, i, rfl, _⟩ := h
    rfl
  · obtain ⟨a, ns, i, rfl, hS, h0, h1, k⟩ := h
    refine ⟨_, pss_cons (ps_set (i := 2) scPool.nd rfl (.inl rfl) pe_int)
      (Evl.pss_cut (ps_if (pt_cmpR op_lt (pv 1) (pe_callB call_len_seq (by rfl) ml PySem.boot_len (pa_cons (pv 0) pa_nil)) (nomark _))
        (pss_one (ps_set (i := 2) scPool.nd rfl (.inl rfl) (pe_ix ix_list (pv 0) (pv 1) (fun _ _ => rfl)))) pss_nil)
      (pss_cons (ps_set (i := 3) scPool.nd rfl (.inl rfl) (pe_callB call_abs (by rfl) ma (by decide +kernel) (pa_cons (pv 2) pa_nil)))
      (pss_cons (ps_set (i := 4) scPool.nd rfl (.inl rfl) (pe_op op_mod (pe_op op_pow (pe_op op_add (pe_op op_add (pe_op op_add (pe_op op_mod (pv 2) pe_int) (pe_op op_mul (pe_op op_mul pe_int (pv 1)) (pv 1))) (pe_op op_mul pe_int (pv 1))) pe_int) pe_int) pe_int))
      (pss_one (ps_ret (pe_lst (pa_cons (pe_op op_mul (pv 3) (pe_callTy call_int1 (by rfl) mi (by decide +kernel) (pa_cons (pe_cmpR op_ge (pv 3) (pe_op op_pow pe_int pe_int) (nomark _)) pa_nil))) (pa_cons (pv 4) pa_nil)))))))), ?_⟩
    refine ⟨fun σ H2 => H2 = H ∧ ∃ c : Int, σ = [some (.ref a), some (.int i), some (.int c), none, none], ?_, ?_⟩
    · refine ⟨_, rfl, .ref a, rfl, a, _, rfl, .inl hS, i, _, rfl, rfl, _, rfl, ite2 (fun c => ?_) (fun c => ?_)⟩
      · have hi : i < ((ns.map V.int).length : Int) := of_decide_eq_true c
        rw [List.length_map] at hi
        have hj : i.toNat < ns.length := by omega
        refine ⟨.ref a, rfl, .int i, rfl, a, _, i, .int ns[i.toNat], rfl, rfl, hS, at_of (j := i.toNat) (by omega) ?_, rfl, ns[i.toNat], rfl⟩
        rw [List.getElem?_map, List.getElem?_eq_getElem hj]
        rfl
      · exact ⟨rfl, 0, rfl⟩
    · rintro σ H2 ⟨rfl, c, rfl⟩
      refine ⟨_, rfl, c, rfl, ?_⟩
      refine ⟨_, rfl, c, 2147483629, rfl, rfl, (by show (0 : Int) < 2147483629; decide), _, rfl, 104729, i, rfl, rfl, .inl ⟨by decide, by decide⟩, _, rfl, _, i, rfl, rfl, .inr ⟨by omega, by omega⟩, _, _, rfl, rfl, _, rfl, 7919, i, rfl, rfl, .inl ⟨by decide, by decide⟩, _, _, rfl, rfl, _, 11, rfl, rfl, _, 3, rfl, rfl, ⟨by decide, by decide, ?_⟩, _, 2147483647, rfl, rfl, (by show (0 : Int) < 2147483647; decide), ?_⟩
      · have b0 : 0 ≤ c % 2147483629 := Int.emod_nonneg _ (by omega)
        have b1 : c % 2147483629 < 2147483629 := Int.emod_lt_of_pos _ (by omega)
        have b2 : 0 ≤ 104729 * i * i := Int.mul_nonneg (by omega) h0
        have b3 : 104729 * i * i ≤ 104729 * 63 * 63 := Int.mul_le_mul (by omega) h1 h0 (by omega)
        omega
      · have t0 : ∀ y : Int, 0 ≤ y ^ 3 % 2147483647 ∧ y ^ 3 % 2147483647 < 2147483647 := fun y => ⟨Int.emod_nonneg _ (by omega), Int.emod_lt_of_pos _ (by omega)⟩
        have u0 : 0 ≤ (if c < 0 then -c else c) := by
          split <;> omega
        refine ⟨_, rfl, _, rfl, 10, 18, rfl, rfl, ⟨by decide, by decide, by decide⟩, _, _, rfl, rfl, .inr ⟨_, rfl, ?_⟩⟩
        have b01 : ∀ b : Bool, (0 : Int) ≤ (if b = true then 1 else 0) ∧ (if b = true then (1 : Int) else 0) ≤ 1 := fun b => by cases b <;> decide
        have g := b01 (decide (10 ^ Int.toNat 18 ≤ if c < 0 then -c else c))
        refine ⟨_, _, rfl, rfl, .inr ⟨by omega, by omega⟩, _, rfl, (by show 2 ≤ sizeLine; decide), fun p hp => k p _ (Same.new hp) hp ⟨_, _, upd_same, Int.mul_nonneg u0 g.1, (t0 _).1, (t0 _).2⟩⟩
end
end SE
namespace SE
open PySem PySem.Spec PyProof.Rows L2
theorem len_add (x y : Str) : (x ++ y).length = x.length + y.length := by
  show (x.cps ++ y.cps).size = _
  rw [Array.size_append]
  rfl
theorem cps_add (x y : Str) : (x ++ y).cps.toList = x.cps.toList ++ y.cps.toList := by
  show (x.cps ++ y.cps).toList = _
  exact Array.toList_append
abbrev abc : Str := Str.ofString "abcdefghijklmnopqrstuvwxyz"
theorem abc_len : abc.length = 26 := by decide +kernel
theorem abc_at (i : Nat) (h : i < 26) : ∃ c, abc.cps[i]? = some c ∧ 97 ≤ c ∧ c ≤ 122 := by
  have q : ∀ j : Fin 26, (abc.cps[j.1]?).any (fun c => decide (97 ≤ c) && decide (c ≤ 122)) = true := by decide +kernel
  have z := q ⟨i, h⟩
  simp only [Option.any_eq_true, Bool.and_eq_true, decide_eq_true_eq] at z
  obtain ⟨c, h1, h2, h3⟩ := z
  exact ⟨c, h1, h2, h3⟩
end SE
namespace SE
open PySem PySem.Spec PyProof.Rows L2
theorem nodup_le {α : Type} [DecidableEq α] : ∀ {ys zs : List α}, ys.Nodup → (∀ y ∈ ys, y ∈ zs) → ys.length ≤ zs.length
  | [], _, _, _ => Nat.zero_le _
  | y :: ys, zs, nd, h => by
    obtain ⟨n1, n2⟩ := List.nodup_cons.mp nd
    have hy : y ∈ zs := h y List.mem_cons_self
    have ih := nodup_le (zs := zs.erase y) n2 fun x hx => (List.mem_erase_of_ne (fun e => n1 (by rw [← e]; exact hx))).mpr (h x (List.mem_cons_of_mem _ hx))
    rw [List.length_erase_of_mem hy] at ih
    have : 0 < zs.length := List.length_pos_of_mem hy
    rw [List.length_cons]
    omega
theorem yes_in {σ : L2.St} {H : Hp} {F G : Hp → Prop} (h : F H) : tYes σ H (fun b H3 => if b = true then F H3 else G H3) := by
  show if true = true then F H else G H
  exact iteT h
theorem eqV_str (a b : Str) : eqV (.str a) (.str b) = (a == b) := by
  unfold eqV
  rfl
theorem inV_str (z : Str) : ∀ zs : List Str, inV (.str z) (zs.map V.str) = decide (z ∈ zs)
  | [] => by simp [inV]
  | y :: zs => by
    have ih := inV_str z zs
    unfold inV at ih ⊢
    rw [List.map_cons, List.any_cons, ih, eqV_str]
    by_cases e : y = z
    · subst e
      simp
    · have e2 : ¬ z = y := fun q => e q.symm
      simp [e, e2]
theorem flat_strs : ∀ zs : List Str, (zs.map V.str).all flatV = true
  | [] => rfl
  | y :: zs => by
    rw [List.map_cons, List.all_cons, flat_strs zs]
    rfl
/-- the names that are taken where one is drawn twice -/
def spare : List Str := abc.cps.toList.map fun c => (⟨#[c]⟩ : Str) ++ "zz"
theorem spare_len : spare.length = 26 := by decide +kernel
theorem spare_nd : spare.Nodup := by decide +kernel
theorem spare_item {z : Str} (h : z ∈ spare) : Item z := by
  have q : ∀ y ∈ spare, (decide (1 ≤ y.length) && decide (y.length ≤ 8) && y.cps.toList.all fun c => decide (97 ≤ c) && decide (c ≤ 122)) = true := by decide +kernel
  have e := q z h
  simp only [Bool.and_eq_true, decide_eq_true_eq, List.all_eq_true] at e
  exact ⟨e.1.1, e.1.2, e.2⟩
theorem spare_at {i c : Nat} (h : abc.cps[i]? = some c) : spare[i]? = some ((⟨#[c]⟩ : Str) ++ "zz") := by
  unfold spare
  rw [List.getElem?_map, Array.getElem?_toList, h]
  rfl
theorem abc_size : abc.cps.size = 26 := by decide +kernel
end SE
namespace SE
open PySem PySem.Spec PyProof.Rows L2
section
variable {P : Program} {w : World} {K : PySem.W.Frag} {mg : Str → Option Value} {base : Heap}
/-! ### _law_word -/
def spWord : Sp := fun xs H Q _ => ∃ (p l : Addr) (m : Int) (zs : List Str), xs = [.ref p, .ref l, .int m] ∧ Pool H p ∧ l ≠ p ∧ H l = some (.lst (zs.map V.str)) ∧ zs ≠ [] ∧ zs.length ≤ 100 ∧ 0 ≤ m ∧ m ≤ 900 ∧
  ∀ (t : Addr) (ws : List Str) (H' : Hp), But p H H' → Pool H' p → H t = none → H' t = some (.tup (ws.map V.str)) → (ws.length : Int) ≤ m → (∀ z ∈ ws, z ∈ zs) → Q (.ref t) H'
abbrev nWord : List Str := ["_law_pool_here", "_law_items_here", "_law_most", "_law_turn"]
theorem scWord : FnScope nWord ["_law_pool_here", "_law_items_here", "_law_most"] (defScope sWord) := ⟨rfl, rfl, rfl, by decide +kernel, rfl, by decide +kernel, by decide +kernel⟩
theorem pick_str {zs : List Str} {r : Int} (h0 : 0 ≤ r) (h1 : r < (zs.length : Int)) : ∃ z, z ∈ zs ∧ atI (zs.map V.str) r = some (.str z) := by
  have hj : r.toNat < zs.length := by omega
  refine ⟨zs[r.toNat], List.getElem_mem hj, at_of (j := r.toNat) (by omega) ?_⟩
  rw [List.getElem?_map, List.getElem?_eq_getElem hj]
  rfl
theorem has_word (D : Def K mg "_law_word" sWord) (GT : Has P w K mg base "_law_take" 1 ["_law_pool_here", "_law_many"] [] spTake) (mr : mg "range" = none) (ml : mg "len" = none) (mt : mg "tuple" = none) : Has P w K mg base "_law_word" 2 ["_law_pool_here", "_law_items_here", "_law_most"] [] spWord := by
  refine has_of D scWord (fun _ _ _ _ _ _ us hl => match us, hl with | [_, _, _], _ => rfl) (fun xs H Q E h => ?_) (fun f cv A out s H xs Q E hr h => ?_)
  · obtain ⟨p, l, m, zs, rfl, _⟩ := h
    rfl
  · obtain ⟨p, l, m, zs, rfl, hp, lp, hl, hne, hz, h0, h1, k⟩ := h
    refine ⟨_, pss_one (ps_ret (pe_callTy call_tuple_of (by rfl) mt (by decide +kernel) (pa_cons
      (pe_lc (own := [("_law_turn", 3)]) (g := gName 3) (tt := tYes) (te := tOp (rIxL K) (tVar 1) (tCall spTake [] E0 (tCons (tVar 0) (tCons (tCB (Evl.rLenS K) (tCons (tVar 1) tNil)) tNil)))) rfl scWord.nd
        (pi_range1 (by rfl) mr (pa_cons (pe_has GT hr (pa_cons (pv 0) (pa_cons (pe_op op_add (pv 2) pe_int) pa_nil))) pa_nil)) (blkOk_by (own := [("_law_turn", 3)]) (N := nWord) (sc := defScope sWord) (by decide +kernel))
        (fun _ _ _ _ _ => pg_name (i := 3) scWord.nd rfl (.inl rfl)) (fun _ _ _ _ _ => pts_nil)
        (fun _ _ _ _ _ => pe_ix ix_list (pv 1) (pe_has GT hr (pa_cons (pv 0) (pa_cons (pe_callB call_len_seq (by rfl) ml PySem.boot_len (pa_cons (pv 1) pa_nil)) pa_nil))) (fun _ _ => rfl))) pa_nil))), ?_⟩
    refine ⟨_, rfl, _, rfl, m, 1, rfl, rfl, p, m + 1, rfl, hp, by omega, by omega, fun n H1 b1 p1 n0 n1 => ?_⟩
    have hl1 : H1 l = some (.lst (zs.map V.str)) := b1 l _ lp hl
    refine ⟨n, rfl, by omega, by omega, fun D hD => lc_range (lo := 0) (n := n.toNat) (fun i H2 => ∃ ws : List Str, H2 D = some (.lst (ws.map V.str)) ∧ ws.length = i ∧ (∀ z ∈ ws, z ∈ zs) ∧ But p H H2 ∧ Pool H2 p ∧ H2 l = some (.lst (zs.map V.str))) ?_ ?_ ?_⟩
    · have Dp : D ≠ p := p1.free hD
      exact ⟨[], upd_same, rfl, fun z q => (by cases q), b1.free (b1.none Dp hD), p1.upd Dp, by rw [upd_ne (ne_of_none hl1 hD)]; exact hl1⟩
    · rintro i H2 hi ⟨ws, hw, wl, wz, b2, p2, hl2⟩
      have Dp : D ≠ p := p1.free hD
      have Dl : l ≠ D := ne_of_none hl1 hD
      have hzp : 0 < zs.length := List.length_pos_iff.mpr hne
      refine ⟨rfl, yes_in ⟨_, rfl, _, rfl, _, rfl, l, _, rfl, .inl (.of hl2), p, _, rfl, p2, ?_, ?_, fun r H3 b3 p3 r0 r1 => ?_⟩⟩
      · rw [List.length_map]
        omega
      · rw [List.length_map]
        omega
      · rw [List.length_map] at r1
        obtain ⟨z, zm, az⟩ := pick_str r0 r1
        have hl3 : H3 l = some (.lst (zs.map V.str)) := b3 l _ lp hl2
        have hD3 : H3 D = some (.lst (ws.map V.str)) := b3 D _ Dp hw
        refine ⟨l, _, r, _, rfl, rfl, .of hl3, az, _, hD3, ?_, ws ++ [z], ?_, ?_, ?_, (b2.trans b3).free (b1.none Dp hD), p3.upd Dp, ?_⟩
        · rw [List.length_map, wl]
          exact small1000 (by omega)
        · rw [upd_same, List.map_append]
          rfl
        · rw [List.length_append, wl]
          rfl
        · intro y hy
          rcases List.mem_append.mp hy with q | q
          · exact wz y q
          · rw [List.mem_singleton.mp q]
            exact zm
        · rw [upd_ne Dl]
          exact hl3
    · rintro H2 ⟨ws, hw, wl, wz, b2, p2, hl2⟩
      refine ⟨D, _, rfl, .inl ⟨.of hw, fun t ht => ?_⟩⟩
      have tp : t ≠ p := p2.free ht
      refine k t ws _ (b2.free (b2.none tp ht)) (p2.upd tp) (b2.none tp ht) upd_same ?_ wz
      omega
end
end SE
namespace SE
open PySem PySem.Spec PyProof.Rows L2
/-- a test whose ways meet -/
def tCutT (t : TT) : TT := fun σ H Q => ∃ M : Bool → Hp → Prop, t σ H M ∧ ∀ b H2, M b H2 → Q b H2
theorem pt_cut {X : Cx} {e : Expr} {t : TT} (h : PT X e t) : PT X e (tCutT t) := ⟨fun pins s σ H Q I hw => by
  obtain ⟨M, h1, h2⟩ := hw
  refine thn (h.run pins s σ H M I h1) fun b s2 z => ?_
  obtain ⟨H2, I2, q⟩ := z
  exact ⟨H2, I2, h2 b H2 q⟩⟩
theorem cut_map {α : Type} (f : α → V) (hs : List α) (lo hi : Option Int) : cutV (hs.map f) lo hi = ((hs.drop (HT.sIx hs.length 0 lo)).take (HT.sIx hs.length hs.length hi - HT.sIx hs.length 0 lo)).map f := by
  unfold cutV
  rw [List.length_map, List.map_take, List.map_drop]
theorem cut_mem {α : Type} {x : α} {hs : List α} {a b : Nat} (h : x ∈ (hs.drop a).take b) : x ∈ hs := List.mem_of_mem_drop (List.mem_of_mem_take h)
/-- steps whose tuples stand in the heap -/
abbrev StepsH (H : Hp) : List V → List Stp → Prop := Paired fun v s => ∃ t, v = .ref t ∧ H t = some (.tup [.str (act s.1), .str s.2])
theorem StepsH.v {K : PySem.W.Frag} {H : Hp} {xs : List V} {ss : List Stp} (h : StepsH H xs ss) : StepsV K H xs ss := Paired.mapP h fun _ _ q => by
  obtain ⟨t, e, z⟩ := q
  exact ⟨t, e, .of z⟩
theorem StepsH.but {H H' : Hp} {p : Addr} {xs : List V} {ss : List Stp} (h : StepsH H xs ss) (hp : Pool H p) (b : But p H H') : StepsH H' xs ss := Paired.mapP h fun _ _ q => by
  obtain ⟨t, e, z⟩ := q
  exact ⟨t, e, b t _ (hp.ne z) z⟩
theorem StepsH.upd {H : Hp} {q : Addr} {o : HO} {xs : List V} {ss : List Stp} (h : StepsH H xs ss) (hq : ∀ ys, H q ≠ some (.tup ys)) : StepsH (upd H q o) xs ss := Paired.mapP h fun _ _ r => by
  obtain ⟨t, e, z⟩ := r
  refine ⟨t, e, ?_⟩
  rw [upd_ne (fun w => hq _ (by rw [← w]; exact z))]
  exact z
end SE
namespace SE
open PySem PySem.Spec PyProof.Rows L2
/-! ### what is never reached; types -/
theorem pe_never {X : Cx} {e : Expr} : PE X e (fun _ _ _ => False) := ⟨fun _ _ _ _ _ _ h => h.elim⟩
theorem ty_tup {K : PySem.W.Frag} {H : Hp} {a : Addr} {xs : List V} (h : SqT K H a xs) : TyX K H (.ref a) (.type "tuple") := by
  rcases h with (h | ⟨o, h⟩) | ⟨o, its, n, h1, h2, _⟩
  · exact .base (.tup h)
  · exact .fTuple h
  · exact .kTuple h1 h2
theorem ty_lst {K : PySem.W.Frag} {H : Hp} {a : Addr} {xs : List V} (h : SqL K H a xs) : TyX K H (.ref a) (.type "list") := by
  rcases h with (h | ⟨o, h⟩) | ⟨o, its, n, h1, h2, _⟩
  · exact .base (.lst h)
  · exact .base (.frz h)
  · exact .kList h1 h2
theorem bl_snoc (n : Nat) : (List.replicate n true).map V.bl ++ [V.bl true] = (List.replicate (n + 1) true).map V.bl := by
  rw [List.replicate_succ', List.map_append]
  rfl
theorem all_true (n : Nat) : (List.replicate n true).all id = true := by
  rw [List.all_eq_true]
  intro b hb
  rw [(List.mem_replicate.mp hb).2]
  rfl
theorem abc_has {c : Nat} (h : 97 ≤ c ∧ c ≤ 122) : c ∈ abc.cps.toList := by
  have q : ∀ j : Fin 26, (97 + j.1) ∈ abc.cps.toList := by decide +kernel
  have z := q ⟨c - 97, by omega⟩
  have e : 97 + (c - 97) = c := by omega
  rw [← e]
  exact z
/-- the module's constants -/
structure Cons (K : PySem.W.Frag) (w : World) (mg : Str → Option Value) : Prop where
  let_ : ∃ t, mg "LETTERS" = some (.str abc t)
  ml : ∃ t, mg "MOST_LETTERS" = some (.int 8 t)
  ms : ∃ t, mg "MOST_STEPS" = some (.int 1000 t)
  opp : ∃ (d : Addr) (es : Array DictEntry) (n : Nat) (u v : Value), mg "OPPOSITES" = some (.ref d) ∧ KDict K w d es n ∧ PySem.W.nsIn K d "push" = some (some u) ∧ RelV (.str "pop") u ∧ PySem.W.nsIn K d "pop" = some (some v) ∧ RelV (.str "push") v
/-- built-in names that the module leaves as they are -/
structure Blt (mg : Str → Option Value) : Prop where
  isi : mg "isinstance" = none
  str : mg "str" = none
  len : mg "len" = none
  all : mg "all" = none
  tup : mg "tuple" = none
  lst : mg "list" = none
  enu : mg "enumerate" = none
section
variable {P : Program} {w : World} {K : PySem.W.Frag} {mg : Str → Option Value} {base : Heap}
/-! ### is_item -/
def spIsItem : Sp := fun xs H Q _ => ∃ (z : Str), xs = [.str z] ∧ Item z ∧ ∀ H', Same H H' → Q (.bl true) H'
theorem scIsItem : FnScope ["value", "letter"] ["value"] (defScope sIsItem) := ⟨rfl, rfl, rfl, by decide +kernel, rfl, by decide +kernel, by decide +kernel⟩
theorem has_isItem (D : Def K mg "is_item" sIsItem) (B : Blt mg) (C : Cons K w mg) : Has P w K mg base "is_item" 1 ["value"] [] spIsItem := by
  obtain ⟨tl, hL⟩ := C.let_
  obtain ⟨tm, hM⟩ := C.ml
  refine has_of D scIsItem (fun _ _ _ _ _ _ us hl => match us, hl with | [_], _ => rfl) (fun xs H Q E h => ?_) (fun f cv A out s H xs Q E hr h => ?_)
  · obtain ⟨z, rfl, _⟩ := h
    rfl
  · obtain ⟨z, rfl, iz, k⟩ := h
    refine ⟨_, pss_cons (ps_if (PW.pt (pw_or (pt_not (pt_val (pe_callB call_isi (by rfl) B.isi (by decide +kernel) (pa_cons (pv 0) (pa_cons (pe_bltn (v := .ty "str") (by rfl) B.str (by decide +kernel) rfl) pa_nil)))))
        (pw_or1 (pt_not (pt_chain op_le op_le pe_int (pe_callB call_len_str (by rfl) B.len PySem.boot_len (pa_cons (pv 0) pa_nil)) (pe_glob (v := .int 8) rfl hM ⟨_, rfl⟩)))))) (pss_one (ps_ret pe_bl)) pss_nil)
      (pss_one (ps_ret (pe_callB (cr_all rfl) (by rfl) B.all (by decide +kernel) (pa_cons
        (pe_lc (own := [("letter", 1)]) (g := gName 1) (tt := tYes) rfl scIsItem.nd (pi_str (pv 0)) (blkOk_by (own := [("letter", 1)]) (N := ["value", "letter"]) (sc := defScope sIsItem) (by decide +kernel))
          (fun _ _ _ _ _ => pg_name (i := 1) scIsItem.nd rfl (.inl rfl)) (fun _ _ _ _ _ => pts_nil) (fun _ _ _ _ _ => pe_cmpR op_in_sign (pv 1) (pe_glob (v := .str abc) rfl hL ⟨_, rfl⟩) (by rfl))) pa_nil)))), ?_⟩
    refine ⟨_, rfl, _, .ty "str", .type "str", .type "str", true, rfl, .ty _, .base (.str z), kit_ty (by decide +kernel), true, rfl, iteF ?_⟩
    have p1 : (1 : Int) ≤ (z.length : Int) := by have := iz.pos; omega
    have p2 : (z.length : Int) ≤ 8 := by have := iz.most; omega
    refine ⟨_, rfl, z, rfl, Nat.le_of_lt (small1000 (by have := iz.most; omega)), 1, _, rfl, rfl, true, congrArg V.bl (decide_eq_true p1), iteT ⟨_, 8, rfl, rfl, true, congrArg V.bl (decide_eq_true p2), iteF ?_⟩⟩
    refine ⟨_, rfl, z, rfl, fun D hD => lc_it walk_str (fun j H2 => H2 D = some (.lst ((List.replicate j true).map V.bl)) ∧ Same H H2) ⟨upd_same, Same.new hD⟩ (fun _ _ _ _ => trivial) ?_ ?_⟩
    · rintro j x H2 H3 hj ⟨h2, s2⟩ ⟨rfl, c, hc, rfl⟩
      refine ⟨rfl, yes_in ⟨_, rfl, c, abc, rfl, rfl, _, h2, ?_, ?_, ?_⟩⟩
      · rw [List.length_map, List.length_replicate]
        have : j < z.length := hj
        have := iz.most
        exact small1000 (by omega)
      · have cm : c ∈ z.cps.toList := by
          have q : z.cps.toList[j]? = some c := by rw [Array.getElem?_toList]; exact hc
          exact List.mem_of_getElem? q
        rw [upd_same, decide_eq_true (abc_has (iz.low c cm)), bl_snoc]
      · exact Same.free2 s2 hD
    · rintro H2 ⟨h2, s2⟩
      refine ⟨D, _, rfl, .of h2, ?_⟩
      rw [all_true]
      exact k H2 s2
/-! ### is_word -/
def spIsWord (K : PySem.W.Frag) : Sp := fun xs H Q _ => ∃ (a : Addr) (zs : List Str), xs = [.ref a] ∧ SqT K H a (zs.map V.str) ∧ zs.length ≤ 5000 ∧ (∀ z ∈ zs, Item z) ∧ ∀ H', Same H H' → Q (.bl true) H'
theorem scIsWord : FnScope ["value", "item"] ["value"] (defScope sIsWord) := ⟨rfl, rfl, rfl, by decide +kernel, rfl, by decide +kernel, by decide +kernel⟩
theorem has_isWord (D : Def K mg "is_word" sIsWord) (G : Has P w K mg base "is_item" 1 ["value"] [] spIsItem) (B : Blt mg) : Has P w K mg base "is_word" 2 ["value"] [] (spIsWord K) := by
  refine has_of D scIsWord (fun _ _ _ _ _ _ us hl => match us, hl with | [_], _ => rfl) (fun xs H Q E h => ?_) (fun f cv A out s H xs Q E hr h => ?_)
  · obtain ⟨a, zs, rfl, _⟩ := h
    rfl
  · obtain ⟨a, zs, rfl, hT, hz, hI, k⟩ := h
    refine ⟨_, pss_one (ps_ret (pe_and (pe_callB call_isi (by rfl) B.isi (by decide +kernel) (pa_cons (pv 0) (pa_cons (pe_bltn (v := .ty "tuple") (by rfl) B.tup (by decide +kernel) rfl) pa_nil)))
      (pe_one (pe_callB (cr_all rfl) (by rfl) B.all (by decide +kernel) (pa_cons
        (pe_lc (own := [("item", 1)]) (g := gName 1) (tt := tYes) (te := tCall spIsItem [] E0 (tCons (tVar 1) tNil)) rfl scIsWord.nd (pi_tup (pv 0)) (blkOk_by (own := [("item", 1)]) (N := ["value", "item"]) (sc := defScope sIsWord) (by decide +kernel))
          (fun _ _ _ _ _ => pg_name (i := 1) scIsWord.nd rfl (.inl rfl)) (fun _ _ _ _ _ => pts_nil) (fun _ _ _ _ _ => pe_has G hr (pa_cons (pv 1) pa_nil))) pa_nil))))), ?_⟩
    refine ⟨_, rfl, _, .ty "tuple", .type "tuple", .type "tuple", true, rfl, .ty _, ty_tup hT, kit_ty (by decide +kernel), true, rfl, iteT ?_⟩
    refine ⟨_, rfl, a, rfl, ⟨_, hT⟩, fun D hD => lc_tup (K := K) (a := a) (xs := zs.map V.str) (fun j H2 => H2 D = some (.lst ((List.replicate j true).map V.bl)) ∧ Same H H2) ⟨upd_same, Same.new hD⟩ (fun _ _ _ q => Same.tup q.2 hT) ?_ ?_⟩
    · rintro j x H2 hj ⟨h2, s2⟩
      have jl : j < zs.length := by
        have := (List.getElem?_eq_some_iff.mp hj).1
        rwa [List.length_map] at this
      rw [List.getElem?_map, List.getElem?_eq_getElem jl] at hj
      have e := Option.some.inj hj
      subst e
      refine ⟨rfl, yes_in ⟨_, rfl, zs[j], rfl, hI _ (List.getElem_mem jl), fun H3 s3 => ⟨_, s3 _ _ h2, ?_, ?_, ?_⟩⟩⟩
      · rw [List.length_map, List.length_replicate]
        exact Nat.lt_of_lt_of_le jl (Nat.le_trans hz (by decide))
      · rw [upd_same, bl_snoc]
      · exact Same.free2 (s2.trans s3) hD
    · rintro H2 ⟨h2, s2⟩
      refine ⟨D, _, rfl, .of h2, ?_⟩
      rw [all_true]
      exact k H2 s2
/-! ### is_step -/
def spIsStep (K : PySem.W.Frag) : Sp := fun xs H Q _ => ∃ (v : V) (s : Stp), xs = [v] ∧ StepV K H v s ∧ Item s.2 ∧ ∀ H', Same H H' → Q (.bl true) H'
theorem scIsStep : FnScope ["value", "action", "item"] ["value"] (defScope sIsStep) := ⟨rfl, rfl, rfl, by decide +kernel, rfl, by decide +kernel, by decide +kernel⟩
theorem has_isStep (D : Def K mg "is_step" sIsStep) (G : Has P w K mg base "is_item" 1 ["value"] [] spIsItem) (B : Blt mg) (C : Cons K w mg) : Has P w K mg base "is_step" 2 ["value"] [] (spIsStep K) := by
  obtain ⟨d, es, n, u1, u2, hO, KD, n1, r1, n2, r2⟩ := C.opp
  refine has_of D scIsStep (fun _ _ _ _ _ _ us hl => match us, hl with | [_], _ => rfl) (fun xs H Q E h => ?_) (fun f cv A out s H xs Q E hr h => ?_)
  · obtain ⟨v, st, rfl, _⟩ := h
    rfl
  · obtain ⟨v, st, rfl, ⟨t, rfl, hT⟩, iz, k⟩ := h
    refine ⟨_, pss_cons (ps_if (PW.pt (pw_or (pt_not (pt_val (pe_callB call_isi (by rfl) B.isi (by decide +kernel) (pa_cons (pv 0) (pa_cons (pe_bltn (v := .ty "tuple") (by rfl) B.tup (by decide +kernel) rfl) pa_nil)))))
        (pw_or1 (pt_cmpR op_ne (pe_callB call_len_seq (by rfl) B.len PySem.boot_len (pa_cons (pv 0) pa_nil)) pe_int (nomark _))))) (pss_one (ps_ret pe_bl)) pss_nil)
      (pss_cons (ps_asg (pv 0) (pg_tup (by rfl) (pgs_cons (pg_name (i := 1) scIsStep.nd rfl (.inl rfl)) (pgs_cons (pg_name (i := 2) scIsStep.nd rfl (.inl rfl)) pgs_nil))))
      (pss_one (ps_ret (pe_and (pe_callB call_isi (by rfl) B.isi (by decide +kernel) (pa_cons (pv 1) (pa_cons (pe_bltn (v := .ty "str") (by rfl) B.str (by decide +kernel) rfl) pa_nil)))
        (pe_and (pe_cmpR (op_in_kd KD) (pv 1) (pe_glob (v := .ref d) rfl hO rfl) (by rfl)) (pe_one (pe_has G hr (pa_cons (pv 2) pa_nil)))))))), ?_⟩
    refine ⟨_, rfl, _, .ty "tuple", .type "tuple", .type "tuple", true, rfl, .ty _, ty_tup hT, kit_ty (by decide +kernel), true, rfl, iteF ?_⟩
    refine ⟨_, rfl, t, _, rfl, .inr hT, rfl, _, rfl, iteF ?_⟩
    refine ⟨_, rfl, t, _, rfl, hT, rfl, _, _, rfl, _, _, rfl, rfl, ?_⟩
    refine ⟨_, rfl, _, .ty "str", .type "str", .type "str", true, rfl, .ty _, .base (.str _), kit_ty (by decide +kernel), true, rfl, iteT ?_⟩
    have inO : ∃ r, PySem.W.nsIn K d (act st.1) = some r ∧ r.isSome = true := by
      cases e : st.1 with
      | true => exact ⟨some u1, n1, rfl⟩
      | false => exact ⟨some u2, n2, rfl⟩
    obtain ⟨r, hr1, hr2⟩ := inO
    refine ⟨_, rfl, act st.1, r, rfl, rfl, hr1, r.isSome, rfl, ?_⟩
    rw [hr2]
    exact iteT ⟨_, rfl, st.2, rfl, iz, k⟩
end
end SE
namespace SE
open PySem PySem.Spec PyProof.Rows L2
section
variable {P : Program} {w : World} {K : PySem.W.Frag} {mg : Str → Option Value} {base : Heap}
/-! ### may_hold_steps -/
def spMay (K : PySem.W.Frag) : Sp := fun xs H Q _ => ∃ (a : Addr) (ys : List V), xs = [.ref a] ∧ (SqL K H a ys ∨ SqT K H a ys) ∧ ys.length ≤ 1000 ∧ ∀ H', Same H H' → Q (.bl true) H'
theorem scMay : FnScope ["value"] ["value"] (defScope sMayHold) := ⟨rfl, rfl, rfl, by decide +kernel, rfl, by decide +kernel, by decide +kernel⟩
theorem has_may (D : Def K mg "may_hold_steps" sMayHold) (B : Blt mg) (C : Cons K w mg) : Has P w K mg base "may_hold_steps" 1 ["value"] [] (spMay K) := by
  obtain ⟨tm, hM⟩ := C.ms
  refine has_of D scMay (fun _ _ _ _ _ _ us hl => match us, hl with | [_], _ => rfl) (fun xs H Q E h => ?_) (fun f cv A out s H xs Q E hr h => ?_)
  · obtain ⟨a, ys, rfl, _⟩ := h
    rfl
  · obtain ⟨a, ys, rfl, hS, hl, k⟩ := h
    refine ⟨_, pss_one (ps_ret (pe_and (pe_callB call_isiT (by rfl) B.isi (by decide +kernel) (pa_cons (pv 0) (pa_cons (pe_tup (pa_cons (pe_bltn (v := .ty "list") (by rfl) B.lst (by decide +kernel) rfl) (pa_cons (pe_bltn (v := .ty "tuple") (by rfl) B.tup (by decide +kernel) rfl) pa_nil))) pa_nil)))
      (pe_one (pe_cmpR op_le (pe_callB call_len_seq (by rfl) B.len PySem.boot_len (pa_cons (pv 0) pa_nil)) (pe_glob (v := .int 1000) rfl hM ⟨_, rfl⟩) (nomark _))))), ?_⟩
    refine ⟨_, rfl, (by show 2 ≤ sizeLine; decide), fun t ht => ?_⟩
    have s1 : Same H (upd H t (.tup [.ty "list", .ty "tuple"])) := Same.new ht
    have p1 : (ys.length : Int) ≤ 1000 := by omega
    have ty : ∃ T, TyX K (upd H t (.tup [.ty "list", .ty "tuple"])) (.ref a) T ∧ PySem.W.kitAny K T [.type "list", .type "tuple"] = some true := by
      rcases hS with q | q
      · exact ⟨_, ty_lst (Same.seq s1 q), kitAny_cons (b := true) (kit_ty (by decide +kernel)) (fun z => (by cases z)) (fun _ => rfl)⟩
      · exact ⟨_, ty_tup (Same.tup s1 q), kitAny_cons (b := false) (kit_ty (by decide +kernel)) (fun _ => kitAny_cons (b := true) (kit_ty (by decide +kernel)) (fun z => (by cases z)) (fun _ => rfl)) (fun z => (by cases z))⟩
    obtain ⟨T, ty1, ty2⟩ := ty
    refine ⟨_, t, _, T, _, true, rfl, upd_same, .cons (.ty _) (.cons (.ty _) .nil), ty1, ty2, true, rfl, iteT ?_⟩
    refine ⟨_, rfl, a, ys, rfl, hS.imp (Same.seq s1) (Same.tup s1), _, 1000, rfl, rfl, ?_⟩
    show Q (V.bl (decide ((ys.length : Int) ≤ 1000))) _
    rw [decide_eq_true p1]
    exact k _ s1
/-! ### check_steps -/
def spChkSteps (K : PySem.W.Frag) : Sp := fun xs H Q _ => ∃ (a : Addr) (ys : List V) (ss : List Stp), xs = [.ref a] ∧ (SqL K H a ys ∨ SqT K H a ys) ∧ ys.length ≤ 1000 ∧ StepsV K H ys ss ∧ (∀ s ∈ ss, Item s.2) ∧ ∀ H', Same H H' → Q .non H'
theorem scChk : FnScope ["steps", "index", "step"] ["steps"] (defScope sChkSteps) := ⟨rfl, rfl, rfl, by decide +kernel, rfl, by decide +kernel, by decide +kernel⟩
theorem walk_enumT {K : PySem.W.Frag} {a : Addr} {xs : List V} : Walk (ItE K a) xs.length (fun H => SqT K H a xs) (YPair (fun i => some (.int (i : Nat))) (fun i => xs[i]?)) := by
  refine ⟨fun i _ hi q => ⟨xs, xs[i], q, by simp [hi]⟩, fun _ q => ⟨xs, q, Nat.le_refl _⟩, fun i H v H2 _ q y => ?_⟩
  obtain ⟨T, x, h1, h2, h3, h4⟩ := y
  exact ⟨T, .int (i : Nat), x, h1, h2, h3, rfl, h4 xs q⟩
theorem has_chkSteps (D : Def K mg "check_steps" sChkSteps) (GM : Has P w K mg base "may_hold_steps" 1 ["value"] [] (spMay K)) (GS : Has P w K mg base "is_step" 2 ["value"] [] (spIsStep K)) (B : Blt mg) : Has P w K mg base "check_steps" 3 ["steps"] [] (spChkSteps K) := by
  refine has_of D scChk (fun _ _ _ _ _ _ us hl => match us, hl with | [_], _ => rfl) (fun xs H Q E h => ?_) (fun f cv A out s H xs Q E hr h => ?_)
  · obtain ⟨a, ys, ss, rfl, _⟩ := h
    rfl
  · obtain ⟨a, ys, ss, rfl, hS, hl, hV, hI, k⟩ := h
    have hr1 : Room 1 _ := hr.mono (by decide)
    have one : ∀ {i : Nat} {y : V} {H2 : Hp}, ys[i]? = some y → Same H H2 → ∃ s, StepV K H2 y s ∧ Item s.2 := by
      intro i y H2 hy s2
      obtain ⟨st, h1, h2⟩ := StepsV.at hV hy
      exact ⟨st, h2.same s2, hI st (List.mem_of_getElem? h1)⟩
    rcases hS with hS | hS
    · refine ⟨_, pss_cons (ps_if (pt_not (pt_val (pe_has GM hr1 (pa_cons (pv 0) pa_nil)))) pss_never pss_nil)
        (pss_one (ps_for PassesOwn.never rfl (pi_enum (by rfl) B.enu (pa_cons (pv 0) pa_nil)) (pg_tup (by rfl) (pgs_cons (pg_name (i := 1) scChk.nd rfl (.inl rfl)) (pgs_cons (pg_name (i := 2) scChk.nd rfl (.inl rfl)) pgs_nil)))
          (pss_one (ps_if (pt_not (pt_val (pe_has GS hr (pa_cons (pv 2) pa_nil)))) pss_never pss_nil)))), ?_⟩
      refine ⟨_, rfl, a, ys, rfl, .inl hS, hl, fun H1 s1 => ⟨true, rfl, iteF ?_⟩⟩
      refine ⟨_, rfl, a, ys, rfl, Same.seq s1 hS, for_it (walk_enum (K := K) (a := a) (xs := ys)) (fun i σ H2 => ∃ y1 y2, σ = [some (.ref a), y1, y2] ∧ Same H H2) ⟨none, none, rfl, s1⟩ (fun i σ H2 _ q => ?_) ?_ ?_⟩
      · obtain ⟨_, _, _, s2⟩ := q
        exact Same.seq s2 hS
      · rintro i x σ H2 H3 hi ⟨y1, y2, rfl, s2⟩ ⟨T, p, y, rfl, nT, rfl, hp, hy⟩
        refine ⟨T, _, rfl, .of upd_same, rfl, _, _, rfl, _, _, rfl, rfl, ?_⟩
        have s3 : Same H (upd H2 T (.tup [p, y])) := Same.free2 s2 (s2.free nT)
        obtain ⟨st, h1, h2⟩ := one hy s3
        exact ⟨_, rfl, y, st, rfl, h1, h2, fun H4 s4 => ⟨true, rfl, iteF ⟨_, _, rfl, s3.trans s4⟩⟩⟩
      · rintro σ H2 ⟨y1, y2, rfl, s2⟩
        exact k H2 s2
    · refine ⟨_, pss_cons (ps_if (pt_not (pt_val (pe_has GM hr1 (pa_cons (pv 0) pa_nil)))) pss_never pss_nil)
        (pss_one (ps_for PassesOwn.never rfl (pi_enumT (by rfl) B.enu (pa_cons (pv 0) pa_nil)) (pg_tup (by rfl) (pgs_cons (pg_name (i := 1) scChk.nd rfl (.inl rfl)) (pgs_cons (pg_name (i := 2) scChk.nd rfl (.inl rfl)) pgs_nil)))
          (pss_one (ps_if (pt_not (pt_val (pe_has GS hr (pa_cons (pv 2) pa_nil)))) pss_never pss_nil)))), ?_⟩
      refine ⟨_, rfl, a, ys, rfl, .inr hS, hl, fun H1 s1 => ⟨true, rfl, iteF ?_⟩⟩
      refine ⟨_, rfl, a, ys, rfl, Same.tup s1 hS, for_it (walk_enumT (K := K) (a := a) (xs := ys)) (fun i σ H2 => ∃ y1 y2, σ = [some (.ref a), y1, y2] ∧ Same H H2) ⟨none, none, rfl, s1⟩ (fun i σ H2 _ q => ?_) ?_ ?_⟩
      · obtain ⟨_, _, _, s2⟩ := q
        exact Same.tup s2 hS
      · rintro i x σ H2 H3 hi ⟨y1, y2, rfl, s2⟩ ⟨T, p, y, rfl, nT, rfl, hp, hy⟩
        refine ⟨T, _, rfl, .of upd_same, rfl, _, _, rfl, _, _, rfl, rfl, ?_⟩
        have s3 : Same H (upd H2 T (.tup [p, y])) := Same.free2 s2 (s2.free nT)
        obtain ⟨st, h1, h2⟩ := one hy s3
        exact ⟨_, rfl, y, st, rfl, h1, h2, fun H4 s4 => ⟨true, rfl, iteF ⟨_, _, rfl, s3.trans s4⟩⟩⟩
      · rintro σ H2 ⟨y1, y2, rfl, s2⟩
        exact k H2 s2
/-! ### check_word, is_limit, check_limit, check_run, is_too_high -/
def spChkWord (K : PySem.W.Frag) : Sp := fun xs H Q _ => ∃ (a : Addr) (zs : List Str), xs = [.ref a] ∧ SqT K H a (zs.map V.str) ∧ zs.length ≤ 5000 ∧ (∀ z ∈ zs, Item z) ∧ ∀ H', Same H H' → Q .non H'
theorem scCw : FnScope ["word"] ["word"] (defScope sChkWord) := ⟨rfl, rfl, rfl, by decide +kernel, rfl, by decide +kernel, by decide +kernel⟩
theorem has_chkWord (D : Def K mg "check_word" sChkWord) (G : Has P w K mg base "is_word" 2 ["value"] [] (spIsWord K)) : Has P w K mg base "check_word" 3 ["word"] [] (spChkWord K) := by
  refine has_of D scCw (fun _ _ _ _ _ _ us hl => match us, hl with | [_], _ => rfl) (fun xs H Q E h => ?_) (fun f cv A out s H xs Q E hr h => ?_)
  · obtain ⟨a, zs, rfl, _⟩ := h
    rfl
  · obtain ⟨a, zs, rfl, hT, hz, hI, k⟩ := h
    refine ⟨_, pss_one (ps_if (pt_not (pt_val (pe_has G hr (pa_cons (pv 0) pa_nil)))) pss_never pss_nil), ?_⟩
    exact ⟨_, rfl, a, zs, rfl, hT, hz, hI, fun H1 s1 => ⟨true, rfl, iteF (k H1 s1)⟩⟩
end
end SE
namespace SE
open PySem PySem.Spec PyProof.Rows L2
/-- a def with keyword-only defaults alone -/
def DefK (K : PySem.W.Frag) (mg : Str → Option Value) (x : Str) (st : Stmt) (kws : List (Str × V)) : Prop := ∃ f fd, Fun K x x st f fd ∧ FunD K x x (defArgs st) (defBody st) (defScope st) [] kws f fd ∧ mg x = some (.ref f)
end SE
namespace SE
open PySem PySem.Spec PyProof.Rows L2
section
variable {P : Program} {w : World} {K : PySem.W.Frag} {mg : Str → Option Value} {base : Heap}
/-! ### is_whole, is_between, check_between -/
def spWhole : Sp := fun xs H Q _ => ∃ n : Int, xs = [.int n] ∧ Q (.bl true) H
theorem scWh : FnScope ["value"] ["value"] (defScope sIsWhole) := ⟨rfl, rfl, rfl, by decide +kernel, rfl, by decide +kernel, by decide +kernel⟩
theorem has_whole (D : Def K mg "is_whole" sIsWhole) (B : Blt mg) (mi : mg "int" = none) (mb : mg "bool" = none) : Has P w K mg base "is_whole" 1 ["value"] [] spWhole := by
  refine has_of D scWh (fun _ _ _ _ _ _ us hl => match us, hl with | [_], _ => rfl) (fun xs H Q E h => ?_) (fun f cv A out s H xs Q E hr h => ?_)
  · obtain ⟨n, rfl, _⟩ := h
    rfl
  · obtain ⟨n, rfl, k⟩ := h
    refine ⟨_, pss_one (ps_ret (pe_and (pe_callB call_isi (by rfl) B.isi (by decide +kernel) (pa_cons (pv 0) (pa_cons (pe_bltn (v := .ty "int") (by rfl) mi (by decide +kernel) rfl) pa_nil)))
      (pe_one (pe_not (pe_callB call_isi (by rfl) B.isi (by decide +kernel) (pa_cons (pv 0) (pa_cons (pe_bltn (v := .ty "bool") (by rfl) mb (by decide +kernel) rfl) pa_nil))))))), ?_⟩
    refine ⟨_, rfl, _, .ty "int", .type "int", .type "int", true, rfl, .ty _, .base (.int n), kit_ty (by decide +kernel), true, rfl, iteT ?_⟩
    exact ⟨_, rfl, _, .ty "bool", .type "int", .type "bool", false, rfl, .ty _, .base (.int n), kit_ty (by decide +kernel), false, rfl, k⟩
end
end SE
/-! (x,) * n for n up to 5000. -/
namespace SE
open PySem PySem.Spec PyProof.Rows L2
def rRepB (K : PySem.W.Frag) : R2 := fun x y H Q => ∃ (l : Addr) (k : Int) (v : V), x = .ref l ∧ y = .int k ∧ SqT K H l [v] ∧ 2 ≤ k ∧ k ≤ 5000 ∧ ∀ p, H p = none → Q (.ref p) (upd H p (.tup (List.replicate k.toNat v)))
theorem op_repB {X : Cx} : OpR X (binaryOp .Mult) (rRepB X.K) := by
  intro pins s σ H x y a u Q I rx ry h
  obtain ⟨l, k, v, rfl, rfl, hT, h1, h2, q⟩ := h
  cases rx
  obtain ⟨t, rfl⟩ := ry
  obtain ⟨its, r, ⟨⟨cls, dd, data, sl⟩, ho, hc, n, hd⟩, hs⟩ := I.tuple hT
  simp only at hc hd
  subst hc hd
  obtain ⟨w, rfl⟩ : ∃ w, its = [w] := by
    cases r with
    | cons r1 r2 =>
      cases r2
      exact ⟨_, rfl⟩
  have sz : (([w] : List Value).toArray.size : Int) * k = k := by
    show ((1 : Nat) : Int) * k = k
    omega
  have rep : ∀ {α : Type} (z : α), (List.replicate k.toNat [z]).flatten = List.replicate k.toNat z := fun z => List.flatten_replicate_singleton
  have big : k.toNat ≤ sizeLine := by
    rw [sizeLine_eq]
    omega
  refine wpAny_binaryOp_repeat_ref (T := "tuple") (U := "int") (by decide) ⟨_, ho, rfl⟩ (fun s2 => typeIs_int s2 k t) noFill_tuple_mul F.fills_int_mul F.slot_int_rmul repeat_tuple F.slot_int_index.lookup ?_
  refine call_meets F.slot_int_rmul (typeIs_int s k t) F.entry_int_rmul (F.args_int_rmul_2 _ _) (int_rmul_tuple k t l _ n dd sl) ⟨ho, rfl, ⟨_, ho, rfl⟩, ?_⟩
  refine call_meets F.slot_tuple_mul ⟨_, ho, rfl⟩ F.entry_tuple_mul (F.args_tuple_mul_2 _ _) (tuple_mulW l _ n dd sl k t ?_ ?_ ?_ ?_ ?_ ?_) ⟨ho, ?_⟩
  · rw [decide_eq_false (by omega), decide_eq_false (by omega)]
    rfl
  · show (false || k == 1) = false
    rw [Bool.false_or]
    exact beq_eq_false_iff_ne.mpr (by omega)
  · show (decide (k ≤ 0) || false) = false
    rw [Bool.or_false]
    exact decide_eq_false (by omega)
  · rw [sz]
    omega
  · rw [sz]
    unfold Builtin.Tuple.tupleTooMany
    rw [sizeLine_eq]
    exact decide_eq_false (by omega)
  · rw [size_rep, List.size_toArray, rep, List.length_replicate]
    exact big
  · rw [size_rep, rep]
    refine ⟨.ref s.heap.objs.size, _, I.laid (t' := s.toks) (o := .tup (List.replicate k.toNat v)) (fun b ob e => Heap.get?_push_of_some _ e) (Nat.le_refl _) ?_, rfl, q _ (I.hok.fresh (Nat.le_refl _))⟩
    refine ⟨by rw [List.length_replicate]; exact big, _, ?_, IsTup.new _ _⟩
    have z := r.rep k.toNat
    rw [rep, rep] at z
    exact z
end SE
/-! Tuples: t * n, t + u, t[a:b] whichever object comes out; len(set(t)) of texts. -/
namespace SE
open PySem PySem.Spec PyProof.Rows L2
section
variable {X : Cx}
theorem tmul_one (l : Addr) (w : Value) (n : Nat) (dd : Option Addr) (sl : Array (Option Value)) (u : Tok) :
    Meets (Builtin.«tuple.__mul__» ⟨[.ref l, .int 1 u], []⟩) (fun _ R s => s.heap.get? l = some { cls := .type "tuple", dict := dd, data := .seq #[w] n, slots := sl } ∧ R (.ok (.ret (Value.ref l))) s) :=
  .of_wp fun prog wd A R s h => by
    obtain ⟨hp, g, d, tk, os⟩ := s
    obtain ⟨hl, h⟩ := h
    have f1 := AutoSeq1.idx_int
    wp_walk using AutoSeq1.wpAny_loadPart' hl
    exact ⟨_, rfl, h⟩
theorem tmul_none (l : Addr) (w : Value) (n : Nat) (dd : Option Addr) (sl : Array (Option Value)) (k : Int) (u : Tok) (h0 : -1000000 ≤ k) (h1 : k ≤ 0) :
    Meets (Builtin.«tuple.__mul__» ⟨[.ref l, .int k u], []⟩) (fun _ R s => s.heap.get? l = some { cls := .type "tuple", dict := dd, data := .seq #[w] n, slots := sl } ∧
      R (.ok (.ret (Value.ref s.heap.objs.size))) { s with heap := s.heap.push { cls := .type "tuple", data := .seq #[] } }) :=
  .of_wp fun prog wd A R s h => by
    obtain ⟨hp, g, d, tk, os⟩ := s
    obtain ⟨hl, h⟩ := h
    have f1 := AutoSeq1.idx_int
    have c0 : (decide (k < -(2 ^ 63)) || decide (k ≥ 2 ^ 63)) = false := by
      rw [decide_eq_false (by omega), decide_eq_false (by omega)]
      rfl
    have c1 : ((#[w] : Array Value).isEmpty || k == 1) = false := by
      show (false || k == 1) = false
      rw [Bool.false_or]
      exact beq_eq_false_iff_ne.mpr (by omega)
    have c2 : (decide (k ≤ 0) || (#[w] : Array Value).isEmpty) = true := by
      rw [decide_eq_true h1]
      rfl
    wp_walk using AutoSeq1.wpAny_loadPart' hl
    repeat (first
      | (refine wpAny_ite_false (decide_eq_false (by rw [c0]; exact Bool.false_ne_true)) ?_; wp_walk using AutoSeq1.wpAny_loadPart' hl)
      | (refine wpAny_ite_false (decide_eq_false (by rw [c1]; exact Bool.false_ne_true)) ?_; wp_walk using AutoSeq1.wpAny_loadPart' hl)
      | (refine wpAny_ite_true (decide_eq_true (by rw [c2])) ?_; wp_walk using AutoSeq1.wpAny_loadPart' hl))
    exact ⟨_, rfl, h⟩
/-- (x,) * k, any k -/
def rRepS (K : PySem.W.Frag) : R2 := fun x y H Q => ∃ (l : Addr) (k : Int) (v : V), x = .ref l ∧ y = .int k ∧ SqT K H l [v] ∧ -1000000 ≤ k ∧ k ≤ 5000 ∧ ∀ (p : Addr) (H' : Hp), Same H H' → SqT K H' p (List.replicate k.toNat v) → Q (.ref p) H'
theorem op_repS : OpR X (binaryOp .Mult) (rRepS X.K) := by
  intro pins s σ H x y a u Q I rx ry h
  obtain ⟨l, k, v, rfl, rfl, hT, h1, h2, q⟩ := h
  by_cases c : 2 ≤ k
  · exact op_repB pins s σ H _ _ a u Q I rx ry ⟨l, k, v, rfl, rfl, hT, c, h2, fun p hp => q p _ (Same.new hp) (.of upd_same)⟩
  cases rx
  obtain ⟨t, rfl⟩ := ry
  obtain ⟨its, r, ⟨⟨cls, dd, data, sl⟩, ho, hc, n, hd⟩, hs⟩ := I.tuple hT
  simp only at hc hd
  subst hc hd
  obtain ⟨w, rfl⟩ : ∃ w, its = [w] := by
    cases r with
    | cons r1 r2 =>
      cases r2
      exact ⟨_, rfl⟩
  refine wpAny_binaryOp_repeat_ref (T := "tuple") (U := "int") (by decide) ⟨_, ho, rfl⟩ (fun s2 => typeIs_int s2 k t) noFill_tuple_mul F.fills_int_mul F.slot_int_rmul repeat_tuple F.slot_int_index.lookup ?_
  refine call_meets F.slot_int_rmul (typeIs_int s k t) F.entry_int_rmul (F.args_int_rmul_2 _ _) (int_rmul_tuple k t l _ n dd sl) ⟨ho, rfl, ⟨_, ho, rfl⟩, ?_⟩
  by_cases c1 : k = 1
  · subst c1
    refine call_meets F.slot_tuple_mul ⟨_, ho, rfl⟩ F.entry_tuple_mul (F.args_tuple_mul_2 _ _) (tmul_one l w n dd sl t) ⟨ho, ?_⟩
    exact ⟨.ref l, H, I, rfl, q l H (Same.refl H) hT⟩
  · have k0 : k ≤ 0 := by omega
    refine call_meets F.slot_tuple_mul ⟨_, ho, rfl⟩ F.entry_tuple_mul (F.args_tuple_mul_2 _ _) (tmul_none l w n dd sl k t h1 k0) ⟨ho, ?_⟩
    refine ⟨.ref s.heap.objs.size, _, I.laid (t' := s.toks) (o := .tup []) (fun b ob e => Heap.get?_push_of_some _ e) (Nat.le_refl _) ?_, rfl, q _ _ (Same.new (I.hok.fresh (Nat.le_refl _))) ?_⟩
    · exact ⟨Nat.zero_le _, [], .nil, IsTup.new _ _⟩
    · rw [show k.toNat = 0 by omega]
      exact .of upd_same
/-- t + u -/
def rCatS (K : PySem.W.Frag) : R2 := fun x y H Q => ∃ (a b : Addr) (xs ys : List V), x = .ref a ∧ y = .ref b ∧ SqT K H a xs ∧ SqT K H b ys ∧ xs.length + ys.length ≤ sizeLine ∧ ∀ (p : Addr) (H' : Hp), Same H H' → SqT K H' p (xs ++ ys) → Q (.ref p) H'
theorem op_catS : OpR X (binaryOp .Add) (rCatS X.K) := by
  intro pins s σ H x y v u Q I rx ry h
  obtain ⟨a, b, xs, ys, rfl, rfl, ha, hb, hz, q⟩ := h
  refine op_catA pins s σ H _ _ v u Q I rx ry ⟨a, b, xs, ys, rfl, rfl, ha, hb, hz, fun e => ?_, fun _ e => ?_, fun _ _ p hp => q p _ (Same.new hp) (.of upd_same)⟩
  · subst e
    exact q b H (Same.refl H) hb
  · subst e
    exact q a H (Same.refl H) (by rw [List.append_nil]; exact ha)
/-- t[lo:hi] -/
def rSlS (K : PySem.W.Frag) : V → Option Int → Option Int → Hp → VK → Prop := fun x lo hi H Q => ∃ (a : Addr) (xs : List V), x = .ref a ∧ SqT K H a xs ∧ ∀ (p : Addr) (H' : Hp), Same H H' → SqT K H' p (cutV xs lo hi) → Q (.ref p) H'
theorem sl_tupS : SlR X (rSlS X.K) := by
  intro pins s σ H x v vl vu lo hi sl Q I rx hs pl pu h
  obtain ⟨a, xs, rfl, hx, q⟩ := h
  refine sl_tupA pins s σ H _ v vl vu lo hi sl Q I rx hs pl pu ⟨a, xs, rfl, hx, fun e => q a H (Same.refl H) ?_, fun _ p hp => q p _ (Same.new hp) (.of upd_same)⟩
  have e2 : cutV xs lo hi = xs := by
    unfold cutV
    rw [e.1, e.2, List.drop_zero, Nat.sub_zero, List.take_length]
  rw [e2]
  exact hx
end
end SE
/-! A for in a generator's body; a generator def called with keywords. -/
namespace SE
open PySem PySem.Spec PyProof.Rows L2 GenW
section
variable {X : Cx}
def tGFor (wi : TI) (g : TG) (tb : TGn) : TGn := fun D ys σ H => wi σ H fun J H1 => ∃ W : Nat → Nat → List V → L2.St → Hp → Prop, (∃ m, W 0 m ys σ H1) ∧ ∀ i m ys σ H, W i m ys σ H →
  (J.stop i H ∧ D.nx ys σ H) ∨ (J.go i H ∧ ∃ N : List V → L2.St → Hp → Prop, (∀ zs σ2 H2, N zs σ2 H2 → ∃ j, j < m ∧ W (i + 1) j zs σ2 H2) ∧ ∀ x H2, J.yld i H x H2 → g x σ H2 fun σ3 H3 => tb { D with nx := N, ct := N, bk := D.nx } ys σ3 H3)
theorem gs_for {tg iter : Expr} {body : List Stmt} {pos : Pos} {wi : TI} {g : TG} {tb : TGn} (hp : PassesOwn (model X.prog X.w) X.A X.env X.xe) (hc : X.calm = true) (hi : PI X tg iter wi) (hg : PG X tg g) (hb : GSs X body tb)
    (hs : ∀ x, foldedSetIterable iter X.env x = pure x := by intro _; rfl) : GS X (.For tg iter body [] pos) (tGFor wi g tb) := by
  constructor
  intro A S ip R n ys s₀ c fs K J gd lv s σ H D gc hn k hI ht
  obtain ⟨acc, cc, r, I⟩ := hI
  rw [exec_For]
  refine seg_bind_wrap (wpAny_standAt ?_)
  refine seg_bind_wrap ?_
  rw [gc.over]
  refine wpAny_mono (hi.run _ s σ H _ I ht) (fun v s1 h1 => ?_) fun x s2 hx => k.exc n s₀ x s2 hx
  refine seg_bind_wrap (wpAny_of_eq (hs v) ?_)
  refine seg_bind_wrap (wpAny_standAt ?_)
  refine seg_bind_wrap (wpAny_holding ?_)
  rw [gc.over]
  refine wpAny_mono h1 (fun itv s2 h2 => ?_) fun x s3 hx => k.exc n s₀ x s3 hx
  obtain ⟨it, fp, tn, Jt, H2, e2, I2, T, st2, f2, W, ⟨m0, w0⟩, turn⟩ := h2
  subst e2
  refine seg_call fun p => ?_
  have gl := fun (kk : Result → Sem PySem.Fin) => gc_loop (X := X) (k := kk) (c' := .forLoop tg (.ref it) body [] X.env) (l := lv []) (kp := []) (p := p) gc rfl rfl
  have apart : ∀ b ∈ fp, b ≠ S := fun b hb z => by
    obtain ⟨_, _, _, _, _, q⟩ := f2 b hb
    exact q (S, lstObj acc cc) (List.mem_append_right _ List.mem_cons_self) z.symm
  have fpok : ∀ {acc2 : Array Value} {c2 : Nat} {H3 : Hp}, (∀ b ∈ fp, H3 b = none) → ∀ b ∈ fp, FpOk X ((S, lstObj acc2 c2) :: ip) H3 b := by
    intro acc2 c2 H3 hn3 b hb
    obtain ⟨_, a2, a3, a4, a5, a6⟩ := f2 b hb
    refine ⟨hn3 b hb, a2, a3, a4, a5, fun q hq => ?_⟩
    rcases List.mem_append.mp hq with z | z
    · exact a6 q (List.mem_append_left _ z)
    · rcases List.mem_cons.mp z with y | y
      · rw [y]
        exact Ne.symm (apart b hb)
      · exact a6 q (List.mem_append_right _ (List.mem_cons_of_mem _ y))
  have loop : ∀ (m n i : Nat) (ys : List V) (s₀ s : Shared) (σ : L2.St) (H : Hp), n + ys.length = sizeLine → W i m ys σ H → GI X S ip ys σ H s → tn i s.heap → (∀ b ∈ fp, H b = none) →
      Seg (model X.prog X.w) A R (GY X S) n s₀ (.forLoop tg (.ref it) body [] X.env) ((model X.prog X.w).den (.forLoop tg (.ref it) body [] X.env))
        (.ret (fun r => ((match r with | .ok f => (.pure f : Sem Flow) | .error e => .raise e).onRaise (cameBack X.env)).wrap K J gd lv) none (gd false) (lv []) c p [] :: fs) s := by
    intro m
    induction m using Nat.strongRecOn with
    | ind m ih =>
      intro n i ys s₀ s σ H hn w hI st fr
      have ee : ∀ (n : Nat) (s₀ : Shared) (x : Value) (s4 : Shared), X.xe x s4 → Seg (model X.prog X.w) A R (GY X S) n s₀ (.forLoop tg (.ref it) body [] X.env)
          ((do noteFrame x X.env; theTreesLotGoes x : Sem Unit).bind fun _ => .raise x)
          (.ret (fun r => ((match r with | .ok f => (.pure f : Sem Flow) | .error e => .raise e).onRaise (cameBack X.env)).wrap K J gd lv) none (gd false) (lv []) c p [] :: fs) s4 := fun n s₀ x s4 hx => by
        rw [Sem.bind_eq_wrap]
        refine seg_wrap ?_
        rw [(gl _).over]
        refine wpAny_bind (wpAny_mono (hp x s4 hx) (fun _ s5 hcb => wpAny_theTreesLotGoes ?_) fun y s5 hcb => ?_)
        · exact seg_leaf (.error x) (seg_cameBack gc k hcb)
        · exact seg_leaf (.error y) (seg_cameBack gc k hcb)
      show Seg _ A R _ n s₀ _ ((forTurn tg (.ref it) body [] X.env).onRaise (fun x => do noteFrame x X.env; theTreesLotGoes x)) _ s
      unfold forTurn
      rw [Sem.onRaise_eq_wrap]
      refine seg_bind_wrap (wpAny_standAt ?_)
      refine seg_bind_wrap ?_
      rw [(gl _).over]
      obtain ⟨acc3, c3, r3, I3⟩ := hI
      rcases turn i m ys σ H w with ⟨stop, qn⟩ | ⟨go, N, hN, step⟩
      · refine wpAny_onRaise (wpAny_mono (T.done X rfl rfl rfl hc i _ s σ H X.xe I3 (fpok fr) st stop) (fun rr s4 hh => ?_) fun x s4 hx => wpAny_standAt (ee n s₀ x s4 hx))
        obtain ⟨hr, I4⟩ := hh
        subst hr
        refine seg_again rfl ?_
        show Seg _ A R _ n s₀ _ (do return Fin.done (← (execs [] X.env).onRaise (fun x => do noteFrame x X.env; theTreesLotGoes x))) _ s4
        exact seg_leaf (.ok .next) (k.ok n ys s₀ s4 .next hn ⟨σ, H, ⟨acc3, c3, r3, I4⟩, qn⟩)
      · refine wpAny_onRaise (wpAny_mono (T.item X rfl rfl rfl hc i _ s σ H X.xe I3 (fpok fr) st go) (fun rr s4 hh => ?_) fun x s4 hx => wpAny_standAt (ee n s₀ x s4 hx))
        obtain ⟨u, hr, h4⟩ := hh
        subst hr
        refine seg_bind_wrap ?_
        rw [(gl _).over]
        refine wpAny_mono h4 (fun _ s5 hh => ?_) fun x s5 hx => ee n s₀ x s5 hx
        obtain ⟨x, H5, I5, r5, y5, st5, fr5⟩ := hh
        have I6 := I5.pinned (fpok fr5) (T.obj _ _ st5)
        refine seg_bind_wrap ?_
        rw [(gl _).over]
        refine wpAny_mono (hg.run _ s5 σ H5 x u _ I6 r5 (step x H5 y5)) (fun _ s6 hh => ?_) fun x s6 hx => ee n s₀ x s6 hx
        obtain ⟨σ6, H6, I7, q6⟩ := hh
        have gb : GC X S (ip ++ pinsAt fp s5.heap) A (.forLoop tg (.ref it) body [] X.env) (.ret (fun r => ((match r with | .ok f => (.pure f : Sem Flow) | .error e => .raise e).onRaise (cameBack X.env)).wrap K J gd lv) none (gd false) (lv []) c p [] :: fs) id := by
          have q := gl (fun r => ((match r with | .ok f => (.pure f : Sem Flow) | .error e => .raise e).onRaise (cameBack X.env)).wrap K J gd lv)
          refine ⟨q.pn, fun z hz => ?_, q.apart, q.over, q.split, q.guard, q.gd⟩
          rcases List.mem_append.mp hz with y | y
          · exact q.ip z y
          · exact apart z.1 (of_pinsAt y).1
        rw [Sem.bind_eq_wrap', Sem.wrap_wrap]
        refine hb.run A S (ip ++ pinsAt fp s5.heap) R n ys s₀ _ _ _ _ id id s6 σ6 H6 { D with nx := N, ct := N, bk := D.nx } gb hn ⟨fun n2 zs s7 s8 f hn2 hs8 => ?_, fun n2 s7 x s8 hx => ee n2 s7 x s8 hx⟩ ⟨acc3, c3, r3, I7⟩ q6
        have again : ∀ {σ8 : L2.St} {H8 : Hp}, GI X S (ip ++ pinsAt fp s5.heap) zs σ8 H8 s8 → N zs σ8 H8 → Seg (model X.prog X.w) A R (GY X S) n2 s7 (.forLoop tg (.ref it) body [] X.env) ((model X.prog X.w).den (.forLoop tg (.ref it) body [] X.env))
            (.ret (fun r => ((match r with | .ok f => (.pure f : Sem Flow) | .error e => .raise e).onRaise (cameBack X.env)).wrap K J gd lv) none (gd false) (lv []) c p [] :: fs) s8 := by
          intro σ8 H8 G8 n8
          obtain ⟨j, hj, w8⟩ := hN zs σ8 H8 n8
          obtain ⟨acc8, c8, r8, I8⟩ := G8
          have pin8 : ∀ b ∈ fp, ∀ o, s5.heap.get? b = some o → s8.heap.get? b = some o ∧ H8 b = none := fun b hb o e => by
            have q := I8.pin (b, o) (List.mem_append_right _ (List.mem_cons_of_mem _ (List.mem_append_right _ (mem_pinsAt hb e))))
            exact ⟨q.1, q.2.1⟩
          refine ih j hj n2 (i + 1) zs s7 s8 σ8 H8 hn2 w8 ⟨acc8, c8, r8, I8.pins_of fun q hq => I8.pin q (List.mem_append_right _ ?_)⟩ (T.keep _ _ _ st5 fun b hb o e => (pin8 b hb o e).1) fun b hb => ?_
          · rcases List.mem_cons.mp hq with y | y
            · rw [y]
              exact List.mem_cons_self
            · exact List.mem_cons_of_mem _ (List.mem_append_left _ y)
          · obtain ⟨o, e, _⟩ := T.obj _ _ st5 b hb
            exact (pin8 b hb o e).2
        have thin : ∀ {σ8 : L2.St} {H8 : Hp}, GI X S (ip ++ pinsAt fp s5.heap) zs σ8 H8 s8 → GI X S ip zs σ8 H8 s8 := by
          intro σ8 H8 G8
          obtain ⟨acc8, c8, r8, I8⟩ := G8
          refine ⟨acc8, c8, r8, I8.pins_of fun q hq => I8.pin q (List.mem_append_right _ ?_)⟩
          rcases List.mem_cons.mp hq with y | y
          · rw [y]
            exact List.mem_cons_self
          · exact List.mem_cons_of_mem _ (List.mem_append_left _ y)
        cases f with
        | next =>
          obtain ⟨σ8, H8, G8, n8⟩ := hs8
          exact seg_again rfl (again G8 n8)
        | cont =>
          obtain ⟨σ8, H8, G8, n8⟩ := hs8
          exact seg_again rfl (again G8 n8)
        | brk =>
          obtain ⟨σ8, H8, G8, n8⟩ := hs8
          exact seg_leaf (.ok .next) (k.ok n2 zs s7 s8 .next hn2 ⟨σ8, H8, thin G8, n8⟩)
        | ret v =>
          obtain ⟨x8, σ8, H8, G8, r8, n8⟩ := hs8
          exact seg_leaf (.ok (.ret v)) (k.ok n2 zs s7 s8 (.ret v) hn2 ⟨x8, σ8, H8, thin G8, r8, n8⟩)
  exact loop m0 n 0 ys s₀ s2 σ H2 hn w0 ⟨acc, cc, r, I2⟩ st2 fun b hb => (f2 b hb).1
end
end SE
/-! Calls by keywords. -/
namespace SE
open PySem PySem.Spec PyProof.Rows L2 GenW
section
variable {K : PySem.W.Frag} {x qual : Str} {params : Arguments} {body : List Stmt} {scope : Scope} {kws : List (Str × V)} {f : Addr} {fd : FuncData} {ps : List Str}
/-- keyword-only defaults alone; ms: those that lack -/
theorem kb_some (F : FunD K x qual params body scope [] kws f fd) (n : Nat) (ks : List Str) (ms : List (Str × V)) (g : {α : Type} → List α → List α → List α → List α) (hk : kws ≠ []) (hms : ∀ q ∈ ms, q ∈ kws)
    (hrel : ∀ {vs mz zs : List V} {us mv ws : List Value}, Vals vs us → Vals mz mv → Vals zs ws → Vals (g vs mz zs) (g us mv ws))
    (h : ∀ (D : Addr) (doc pm : Value) (an : Option Addr) (cv ct : Value) (us mv ws : List Value), us.length = n → mv.length = ms.length → ws.length = ks.length →
      KwChain D ((ms.map (·.1)).zip mv) (bindArgs (PySem.W.fnOf x qual params body scope .none (.ref D) doc pm an cv ct) ⟨us, ks.zip ws⟩) (ps.zip (g us mv ws))) :
    ∃ mv : List Value, KBn K fd ps n ks (fun us ws => g us mv ws) (fun vs zs => g vs (ms.map (·.2)) zs) := by
  obtain ⟨oc, od, dV, kV, doc, pm, an, cv, ct, osl, rfl, look, hc, hD, hK⟩ := F.ex
  rcases hD with ⟨_, rfl⟩ | ⟨e, _⟩
  · rcases hK with e | ⟨D, rfl, hq⟩
    · exact absurd e hk
    · obtain ⟨mv, hl, rk, hks⟩ := kwd_vals (ms := ms) fun q hm => hq q (hms q hm)
      exact ⟨mv, fun s us ws X l1 l2 => BindsTo.of_looks fun M => KwChain.looks X hks (h D doc pm an cv ct us mv ws l1 hl l2), fun r1 r2 => hrel r1 rk r2⟩
  · exact absurd rfl e
theorem kb_all {st : Stmt} (F : Fun K x qual st f fd) (n : Nat) (ks : List Str) (g : {α : Type} → List α → List α → List α)
    (hrel : ∀ {vs zs : List V} {us ws : List Value}, Vals vs us → Vals zs ws → Vals (g vs zs) (g us ws))
    (h : ∀ (kV doc pm : Value) (an : Option Addr) (cv ct : Value) (us ws : List Value), us.length = n → ws.length = ks.length → bindArgs (PySem.W.fnOf x qual (defArgs st) (defBody st) (defScope st) .none kV doc pm an cv ct) ⟨us, ks.zip ws⟩ = pure (ps.zip (g us ws))) :
    KBn K fd ps n ks (fun us ws => g us ws) (fun vs zs => g vs zs) := by
  obtain ⟨oc, od, kV, doc, pm, an, cv, ct, osl, rfl, look, hc⟩ := F.ex
  exact ⟨fun s us ws X l1 l2 => .of_eq (h kV doc pm an cv ct us ws l1 l2), fun r1 r2 => hrel r1 r2⟩
end
section
variable {X : Cx} {k n : Nat} {f : Addr} {fd : FuncData} {ps ks : List Str} {sp : Sp} {E : XK} {x : Str} {p pos : Pos} {e : Expr} {es : List Expr} {kws : List Keyword} {t tk : TA} {g : List Value → List Value → List Value} {gV : List V → List V → List V}
/-- f(k = v, ..) -/
theorem pe_kw0 (F : FnOk X.prog X.w X.K X.mg X.base CX0 k f fd ps sp) (hr : Room k X.A) (hg : Gl X x) (hm : X.mg x = some (.ref f)) (hk : PySem.W.keepIn X.K (.ref f) = true) (hb : KBn X.K fd ps 0 ks g gV)
    (hkw : PK X kws tk) (hall : (backToKw pos (keywordEach kws X.env)).all (·.1.isSome) = true := by rfl) (hks : (backToKw pos (keywordEach kws X.env)).filterMap (·.1) = ks := by rfl)
    (hdb : (x == ("__debug__" : Str)) = false := by decide) (hpl : ((backTo pos (starEach [] X.env)).any (·.1) || (backToKw pos (keywordEach kws X.env)).any (·.1.isNone)) = false := by rfl) :
    PE X (.Call (.Name x p) [] kws pos) (tCallN 0 ks.length sp gV E0 tNil tk) := by
  constructor
  intro pins s σ H Q I h
  apply wpAny_Call_Name_kw
  apply ld_glob I hg hm _ hdb
  refine PySem.W.callWith_KW0 (h₀ := X.base) I.ok.mod.kin hk hall (thn (hkw.run pos pins s σ H _ I h) fun ws s2 hh => ?_) hpl
  obtain ⟨zs, H2, I2, rz, l1, l2, q2⟩ := hh
  refine ⟨I2.kIn, ?_⟩
  rw [hks]
  exact run_fnN F hr hb pass0 I2 .nil rz l1 l2 q2
/-! ### generators -/
variable {sg : SpG}
theorem run_gkw {pins : List (Addr × Obj)} {σ : L2.St} {H : Hp} {s : Shared} {us ws : List Value} {vs zs : List V} {cont : List V → Hp → Prop} {E1 : Value → Shared → Prop} (F : GFn X.prog X.w X.K X.mg X.base k f fd ps sg) (hr : Room k X.A) (hb : KBn X.K fd ps n ks g gV)
    (I : Inv X pins σ H s) (r : Vals vs us) (rz : Vals zs ws) (l1 : vs.length = n) (l2 : zs.length = ks.length) (h : sg (gV vs zs) H cont E) :
    wpAny (model X.prog X.w) X.A (call (.ref f) us (ks.zip ws)) (fun u s2 => ∃ H1 sc ex, Inv X pins σ H1 sc ∧ ExOk X pins ex ∧ GMade X.prog X.w k X.stack H1 sc ex cont E u s2) E1 s := by
  have r2 := hb.rel r rz
  refine wpAny_call (codeAny_mono (F.run X.A X.stack s H ⟨us, ks.zip ws⟩ (g us ws) (gV vs zs) cont E hr I.env0 (hb.to s us ws I.kIn (r.length.symm.trans l1) (rz.length.symm.trans l2)) r2 h) fun rr s2 hq => ?_)
  cases rr with
  | error _ => exact hq.elim
  | ok fl =>
    cases fl with
    | ret u => exact ⟨H, s, [], I, .nil, hq⟩
    | next => exact hq.elim
    | brk => exact hq.elim
    | cont => exact hq.elim
def tGenN (n m : Nat) (sg : SpG) (gV : List V → List V → List V) (E : XK) (t tk : TA) : TGen := fun σ H cont => t σ H fun vs H1 => tk σ H1 fun zs H2 => vs.length = n ∧ zs.length = m ∧ sg (gV vs zs) H2 cont E
theorem pgen_kw (F : GFn X.prog X.w X.K X.mg X.base k f fd ps sg) (hr : Room k X.A) (hg : Gl X x) (hm : X.mg x = some (.ref f)) (hk : PySem.W.keepIn X.K (.ref f) = true) (hb : KBn X.K fd ps n ks g gV)
    (ha : PA X (e :: es) t) (hkw : PK X kws tk) (hall : (backToKw pos (keywordEach kws X.env)).all (·.1.isSome) = true := by rfl) (hks : (backToKw pos (keywordEach kws X.env)).filterMap (·.1) = ks := by rfl)
    (hdb : (x == ("__debug__" : Str)) = false := by decide) (he : starEach (e :: es) X.env = (false, eval e X.env) :: starEach es X.env := by rfl)
    (hpl : ((backTo pos (starEach (e :: es) X.env)).any (·.1) || (backToKw pos (keywordEach kws X.env)).any (·.1.isNone)) = false := by rfl) :
    PGen X k (.Call (.Name x p) (e :: es) kws pos) (tGenN n ks.length sg gV E t tk) E := by
  constructor
  intro pins s σ H cont I h
  apply wpAny_Call_Name_kw
  apply ld_glob I hg hm _ hdb
  refine PySem.W.callWith_KW (h₀ := X.base) I.ok.mod.kin hk hall (thn (ha.run pos pins s σ H _ I h) fun us s1 hh => ?_) hpl he
  obtain ⟨vs, H1, I1, r, q⟩ := hh
  refine thn (hkw.run pos pins s1 σ H1 _ I1 q) fun ws s2 hh => ?_
  obtain ⟨zs, H2, I2, rz, l1, l2, q2⟩ := hh
  refine ⟨I2.kIn, ?_⟩
  rw [hks]
  exact run_gkw F hr hb I2 r rz l1 l2 q2
theorem pgen_kw0 (F : GFn X.prog X.w X.K X.mg X.base k f fd ps sg) (hr : Room k X.A) (hg : Gl X x) (hm : X.mg x = some (.ref f)) (hk : PySem.W.keepIn X.K (.ref f) = true) (hb : KBn X.K fd ps 0 ks g gV)
    (hkw : PK X kws tk) (hall : (backToKw pos (keywordEach kws X.env)).all (·.1.isSome) = true := by rfl) (hks : (backToKw pos (keywordEach kws X.env)).filterMap (·.1) = ks := by rfl)
    (hdb : (x == ("__debug__" : Str)) = false := by decide) (hpl : ((backTo pos (starEach [] X.env)).any (·.1) || (backToKw pos (keywordEach kws X.env)).any (·.1.isNone)) = false := by rfl) :
    PGen X k (.Call (.Name x p) [] kws pos) (tGenN 0 ks.length sg gV E tNil tk) E := by
  constructor
  intro pins s σ H cont I h
  apply wpAny_Call_Name_kw
  apply ld_glob I hg hm _ hdb
  refine PySem.W.callWith_KW0 (h₀ := X.base) I.ok.mod.kin hk hall (thn (hkw.run pos pins s σ H _ I h) fun ws s2 hh => ?_) hpl
  obtain ⟨zs, H2, I2, rz, l1, l2, q2⟩ := hh
  refine ⟨I2.kIn, ?_⟩
  rw [hks]
  exact run_gkw F hr hb I2 .nil rz l1 l2 q2
/-- nothing is raised by a generator that raises nothing -/
theorem pass_gen : Passes (CX X.prog X.w) X E0 := by
  intro pins σ H s e s2 I h
  obtain ⟨a, B, H2, cls, d, _, _, _, _, _, _, _, q⟩ := h
  exact q.elim
theorem nostop0 {K : PySem.W.Frag} : NoStop K E0 := fun _ _ _ h => h.elim
end
end SE
namespace SE
open PySem PySem.Spec PyProof.Rows L2
/-! ### rules: a class held by a local name, called; a classmethod called with nothing -/
section
variable {X : Cx} {CX : CXT} {k i : Nat} {f C p g : Addr} {mc : Value} {fd : FuncData} {ps : List Str} {sp : Sp} {dvs : List V} {ds : List Value} {E : XK} {x m : Str} {pn pos apos : Pos} {o e : Expr} {es : List Expr} {ta : TE} {t : TA} {pl : Sem Bool}
def tMakeL (i : Nat) (C : Addr) (sp : Sp) (dvs : List V) (E : XK) (t : TA) : TE := fun σ H Q => σ[i]? = some (some (.ref C)) ∧ tMake C sp dvs E t σ H Q
theorem pe_makeL (M : Mk X.K C f) (F : FnOk X.prog X.w X.K X.mg X.base CX k f fd ps sp) (hr : Room (k + 1) X.A) (hN : X.N[i]? = some x) (hv : Vis X.env.scope x) (hb : Binds X.K fd ps ds) (hd : Vals dvs ds) (hx : Passes CX X E)
    (ha : PA X (e :: es) t) (hdb : (x == ("__debug__" : Str)) = false := by decide) (hcd : (x == ("__classdict__" : Str)) = false := by decide)
    (he : starEach (e :: es) X.env = (false, eval e X.env) :: starEach es X.env := by rfl) (hpl : (backTo pos (starEach es X.env)).any (·.1) = false := by rfl) :
    PE X (.Call (.Name x pn) (e :: es) [] pos) (tMakeL i C sp dvs E t) := by
  constructor
  intro pins s σ H Q I h
  obtain ⟨hs, ht⟩ := h
  refine wpAny_Call_Name_kw (thn ((pe_var (pos := pn) hN hv hdb hcd).run pins s σ H (fun v H1 => v = .ref C ∧ H1 = H) I ⟨.ref C, hs, rfl, rfl⟩) fun u s1 hh => ?_)
  obtain ⟨v, H1, I1, r1, rfl, rfl⟩ := hh
  cases r1
  refine PySem.W.callWith_K (h₀ := X.base) I.ok.mod.kin M.kp (thn (ha.run pos pins s1 σ _ _ I1 ht) fun us s2 hh => ?_) he hpl
  obtain ⟨vs, H2, I2, r, q⟩ := hh
  exact ⟨I2.kIn, run_make M F hr hb hd hx I2 r q⟩
/-- C.m() -/
def tCMeth0 (C : Addr) (sp : Sp) (E : XK) (ta : TE) : TE := fun σ H Q => ta σ H fun x H1 => x = .ref C ∧ sp [.ref C] H1 Q E
theorem pe_cmeth0 (he : PE X o ta) (r : ClX.CRead X.K C mc) (c : ClX.CMet X.K C mc m p g) (F : FnR X.prog X.w X.K X.mg X.base CX k g sp) (hr : Room k X.A) (hx : Passes CX X E)
    (ht : eval (.Call (.Attribute o m apos) [] [] pos) X.env = (do
      let v ← eval o X.env
      standAt apos.atName
      let (f, first) ← holding [v] (getMethod v m pl)
      callWith pos f first (backTo pos (starEach [] X.env)) (backToKw pos (keywordEach [] X.env))) := by rfl) :
    PE X (.Call (.Attribute o m apos) [] [] pos) (tCMeth0 C sp E ta) := by
  constructor
  intro pins s σ H Q I h
  refine PySem.W.methodCall_KW (pl := pl) (thn (he.run pins s σ H _ I h) fun u s1 hh => ?_) ht
  obtain ⟨v, H1, I1, rx, ex, q⟩ := hh
  subst ex
  obtain rfl : u = Value.ref C := rx
  refine ClX.getmethcm_ok I1 r c fun s2 I2 => ?_
  exact PySem.W.callWith_M0 ⟨ClX.pin_at I2, I2.kIn⟩ c.fi (ClX.run_cm (us := []) (vs := []) F hr hx I2 .nil q)
end
end SE
namespace SE
open PySem PySem.Spec PyProof.Rows L2
/-! ### the class Effect -/
abbrev sInit : Stmt := inClass sEffect 0
abbrev sNever : Stmt := inClass sEffect 2
abbrev sPops : Stmt := inClass sEffect 4
abbrev sPushes : Stmt := inClass sEffect 5
abbrev sPeak : Stmt := inClass sEffect 6
abbrev sChange : Stmt := inClass sEffect 7
abbrev sIsNever : Stmt := inClass sEffect 8
def eF (a b c : V) : List (Str × V) := [("needs", a), ("leaves", b), ("highest", c)]
theorem eF_new (a b c : V) : putF "highest" c (putF "leaves" b (putF "needs" a [])) = eF a b c := by
  have h1 : ¬ (("needs" : Str) = "leaves") := by decide +kernel
  have h2 : ¬ (("needs" : Str) = "highest") := by decide +kernel
  have h3 : ¬ (("leaves" : Str) = "highest") := by decide +kernel
  simp only [putF, h1, h2, h3, if_false]
  rfl
theorem eF_two (a b : V) : (putF "leaves" b (putF "needs" a [])).length < 1000 := by
  have h1 : ¬ (("needs" : Str) = "leaves") := by decide +kernel
  simp only [putF, h1, if_false]
  show 2 < 1000
  decide
theorem eF_n (x a b c : V) : putF "needs" x (eF a b c) = eF x b c := by
  unfold eF
  simp only [putF, if_true]
theorem eF_l (x a b c : V) : putF "leaves" x (eF a b c) = eF a x c := by
  have h1 : ¬ (("needs" : Str) = "leaves") := by decide +kernel
  unfold eF
  simp only [putF, h1, if_false, if_true]
theorem eF_h (x a b c : V) : putF "highest" x (eF a b c) = eF a b x := by
  have h2 : ¬ (("needs" : Str) = "highest") := by decide +kernel
  have h3 : ¬ (("leaves" : Str) = "highest") := by decide +kernel
  unfold eF
  simp only [putF, h2, h3, if_false, if_true]
theorem eF_needs (a b c : V) : (eF a b c).lookup ("needs" : Str) = some a := by
  rw [← eF_new, lookup_putF, if_neg (by decide +kernel), lookup_putF, if_neg (by decide +kernel), lookup_putF, if_pos rfl]
theorem eF_leaves (a b c : V) : (eF a b c).lookup ("leaves" : Str) = some b := by
  rw [← eF_new, lookup_putF, if_neg (by decide +kernel), lookup_putF, if_pos rfl]
theorem eF_high (a b c : V) : (eF a b c).lookup ("highest" : Str) = some c := by
  rw [← eF_new, lookup_putF, if_pos rfl]
/-- an effect that is not never -/
structure EffAt (K : PySem.W.Frag) (C : Addr) (H : Hp) (e : Addr) (xs ys : List Str) (p : Int) : Prop where
  ex : ∃ dx u v, H e = some (.ins C dx (eF (.ref u) (.ref v) (.int p))) ∧ SqT K H u (xs.map V.str) ∧ SqT K H v (ys.map V.str)
theorem EffAt.same {K : PySem.W.Frag} {C : Addr} {H H' : Hp} {e : Addr} {xs ys : List Str} {p : Int} (h : EffAt K C H e xs ys p) (s : Same H H') : EffAt K C H' e xs ys p := by
  obtain ⟨dx, u, v, h1, h2, h3⟩ := h.ex
  exact ⟨dx, u, v, s _ _ h1, Same.tup s h2, Same.tup s h3⟩
structure NevAt (C : Addr) (H : Hp) (e : Addr) : Prop where
  ex : ∃ dx, H e = some (.ins C dx (eF .non .non .non))
theorem NevAt.same {C : Addr} {H H' : Hp} {e : Addr} (h : NevAt C H e) (s : Same H H') : NevAt C H' e := by
  obtain ⟨dx, h1⟩ := h.ex
  exact ⟨dx, s _ _ h1⟩
/-- the least peak -/
def lp (xs ys : List Str) : Int := if (ys.length : Int) - (xs.length : Int) > 0 then (ys.length : Int) - (xs.length : Int) else 0
def pkV : Option Int → V
  | none => .non
  | some p => .int p
structure EC (K : PySem.W.Frag) (mg : Str → Option Value) (C : Addr) : Prop where
  cl : Cls K C
  nN : NoAttr K C "needs"
  nL : NoAttr K C "leaves"
  nH : NoAttr K C "highest"
  mgE : mg "Effect" = some (.ref C)
section
variable {P : Program} {w : World} {K : PySem.W.Frag} {mg : Str → Option Value} {base : Heap} {C : Addr}
def spLeast (K : PySem.W.Frag) : Sp := fun vs H Q _ => ∃ (a b : Addr) (xs ys : List Str), vs = [.ref a, .ref b] ∧ SqT K H a (xs.map V.str) ∧ SqT K H b (ys.map V.str) ∧ Q (.int (lp xs ys)) H
theorem scLe : FnScope ["pops", "pushes"] ["pops", "pushes"] (defScope sLeastPeak) := ⟨rfl, rfl, rfl, by decide +kernel, rfl, by decide +kernel, by decide +kernel⟩
theorem has_least (D : Def K mg "least_peak" sLeastPeak) (B : Blt mg) (mx : mg "max" = none) : Has P w K mg base "least_peak" 1 ["pops", "pushes"] [] (spLeast K) := by
  refine has_of D scLe (fun _ _ _ _ _ _ us hl => match us, hl with | [_, _], _ => rfl) (fun xs H Q E h => ?_) (fun f cv A out s H xs Q E hr h => ?_)
  · obtain ⟨a, b, xs, ys, rfl, _⟩ := h
    rfl
  · obtain ⟨a, b, xs, ys, rfl, ha, hb, k⟩ := h
    refine ⟨_, pss_one (ps_ret (pe_callB (call_max2 rfl) (by rfl) mx (by decide +kernel) (pa_cons pe_int (pa_cons (pe_op op_sub (pe_callB call_len_seq (by rfl) B.len PySem.boot_len (pa_cons (pv 1) pa_nil)) (pe_callB call_len_seq (by rfl) B.len PySem.boot_len (pa_cons (pv 0) pa_nil))) pa_nil)))), ?_⟩
    refine ⟨_, rfl, b, _, rfl, .inr hb, _, rfl, a, _, rfl, .inr ha, _, _, rfl, rfl, 0, _, rfl, ?_⟩
    rw [List.length_map, List.length_map]
    exact k
def spInit (K : PySem.W.Frag) (C : Addr) : Sp := fun vs H Q _ => ∃ (x dx a b : Addr) (xs ys : List Str) (pk : Option Int), vs = [.ref x, .ref a, .ref b, pkV pk] ∧ H x = some (.ins C dx []) ∧ SqT K H a (xs.map V.str) ∧ SqT K H b (ys.map V.str) ∧
  xs.length ≤ 5000 ∧ ys.length ≤ 5000 ∧ (∀ z ∈ xs, Item z) ∧ (∀ z ∈ ys, Item z) ∧ (∀ p, pk = some p → lp xs ys ≤ p) ∧
  ∀ H', (∀ b o, H b = some o → b ≠ x → H' b = some o) → H' x = some (.ins C dx (eF (.ref a) (.ref b) (.int (pk.getD (lp xs ys))))) → Q .non H'
abbrev pInit : List Str := ["self", "pops", "pushes", "peak"]
theorem scIn : FnScope ["self", "pops", "pushes", "peak", "least"] pInit (defScope sInit) := ⟨rfl, rfl, rfl, by decide +kernel, rfl, by decide +kernel, by decide +kernel⟩
theorem ok_init {f : Addr} {fd : FuncData} (F : Fun K "__init__" "Effect.__init__" sInit f fd) (T : EC K mg C) (GW : Has P w K mg base "check_word" 3 ["word"] [] (spChkWord K)) (GL : Has P w K mg base "least_peak" 1 ["pops", "pushes"] [] (spLeast K)) (GH : Has P w K mg base "is_whole" 1 ["value"] [] spWhole) :
    FnOk P w K mg base CX0 4 f fd pInit (spInit K C) := by
  refine F.ok scIn (fun vs H Q E h => ?_) (fun cdv A outer s H vs Q E hr h => ?_)
  · obtain ⟨x, dx, a, b, xs, ys, pk, rfl, _⟩ := h
    rfl
  · obtain ⟨x, dx, a, b, xs, ys, pk, rfl, hx, ha, hb, l1, l2, i1, i2, hp, k⟩ := h
    have hr1 : Room 1 _ := hr.mono (by decide)
    refine ⟨_, pss_cons (ps_expr (pe_has GW hr (pa_cons (pv 1) pa_nil))) (pss_cons (ps_expr (pe_has GW hr (pa_cons (pv 2) pa_nil)))
      (pss_cons (ps_set (i := 4) scIn.nd rfl (.inl rfl) (pe_has GL hr1 (pa_cons (pv 1) (pa_cons (pv 2) pa_nil))))
      (pss_cons (ps_if (pt_cut (PW.pt (pw_and (pt_cmpR op_notN (pv 3) pe_non (nomark _)) (pw_and1 (PW.pt (pw_or (pt_not (pt_val (pe_has GH hr1 (pa_cons (pv 3) pa_nil)))) (pw_or1 (pt_cmpR op_lt (pv 3) (pv 4) (nomark _))))))))) pss_never pss_nil)
      (pss_cons (ps_fld (pv 0) (pv 1) rfl) (pss_cons (ps_fld (pv 0) (pv 2) rfl)
      (pss_one (ps_fld (pv 0) (pe_ifExp (pt_cmpR op_isN (pv 3) pe_non (nomark _)) (pv 4) (pv 3)) rfl))))))), ?_⟩
    refine ⟨_, rfl, a, xs, rfl, ha, l1, i1, fun H1 s1 => ⟨_, rfl, b, ys, rfl, Same.tup s1 hb, l2, i2, fun H2 s2 => ?_⟩⟩
    have s12 := s1.trans s2
    refine ⟨_, rfl, _, rfl, a, b, xs, ys, rfl, Same.tup s12 ha, Same.tup s12 hb, ?_⟩
    refine ⟨fun c H3 => c = false ∧ H3 = H2, ?_, ?_⟩
    · cases pk with
      | none => exact ⟨_, rfl, rfl, false, rfl, iteF ⟨rfl, rfl⟩⟩
      | some p =>
        have hq := hp p rfl
        refine ⟨_, rfl, rfl, true, rfl, iteT ⟨_, rfl, p, rfl, true, rfl, iteF ⟨_, rfl, _, rfl, p, lp xs ys, rfl, rfl, _, rfl, ?_, rfl⟩⟩⟩
        exact decide_eq_false (by omega)
    rintro c H3 ⟨rfl, rfl⟩
    refine iteF ?_
    have hx3 := s12 _ _ hx
    have fin : ∀ z : V, z = .int (pk.getD (lp xs ys)) → Q .non (upd (upd (upd H3 x (.ins C dx (putF "needs" (.ref a) []))) x (.ins C dx (putF "leaves" (.ref b) (putF "needs" (.ref a) [])))) x (.ins C dx (putF "highest" z (putF "leaves" (.ref b) (putF "needs" (.ref a) []))))) := by
      intro z ez
      refine k _ (fun c o e ne => ?_) ?_
      · rw [upd_ne ne, upd_ne ne, upd_ne ne]
        exact s12 _ _ e
      · rw [upd_same, eF_new, ez]
    refine ⟨_, rfl, _, rfl, x, C, dx, [], rfl, hx3, T.cl, T.nN, (by show 0 < 1000; decide), _, rfl, _, rfl, x, C, dx, _, rfl, upd_same, T.cl, T.nL, (by show 1 < 1000; decide), ?_⟩
    cases pk with
    | none => exact ⟨_, rfl, rfl, true, rfl, iteT ⟨_, rfl, _, rfl, x, C, dx, _, rfl, upd_same, T.cl, T.nH, eF_two _ _, fin _ rfl⟩⟩
    | some p => exact ⟨_, rfl, rfl, false, rfl, iteF ⟨_, rfl, _, rfl, x, C, dx, _, rfl, upd_same, T.cl, T.nH, eF_two _ _, fin _ rfl⟩⟩
end
end SE
namespace SE
open PySem PySem.Spec PyProof.Rows L2
/-- a property of the class C with its promise -/
def PropHas (P : Program) (w : World) (K : PySem.W.Frag) (mg : Str → Option Value) (base : Heap) (C : Addr) (f : Str) (k : Nat) (sp : Sp) : Prop := ∃ p g fd, PropOf K C f p g ∧ FnOk P w K mg base CX0 k g fd ["self"] sp ∧ Binds K fd ["self"] []
theorem pe_propH {X : Cx} {C : Addr} {f : Str} {k : Nat} {sp : Sp} {e : Expr} {ta : TE} {pos : Pos} (h : PropHas X.prog X.w X.K X.mg X.base C f k sp) (he : PE X e ta) (c : Cls X.K C) (hr : Room (k + 1) X.A)
    (hab : attributeBase e f X.env (eval e X.env) = eval e X.env := by rfl) : PE X (.Attribute e f pos) (tProp C sp [] E0 ta) := by
  obtain ⟨p, g, fd, hp, F, hb⟩ := h
  exact pe_prop he c hp F hr hb .nil pass0 hab
section
variable {P : Program} {w : World} {K : PySem.W.Frag} {mg : Str → Option Value} {base : Heap} {C : Addr}
/-! ### properties -/
/-- of an effect that is not never: its parts -/
def spPops (K : PySem.W.Frag) (C : Addr) : Sp := fun vs H Q _ => ∃ (e : Addr) (xs ys : List Str) (p : Int), vs = [.ref e] ∧ EffAt K C H e xs ys p ∧ ∀ u, SqT K H u (xs.map V.str) → Q (.ref u) H
def spPush (K : PySem.W.Frag) (C : Addr) : Sp := fun vs H Q _ => ∃ (e : Addr) (xs ys : List Str) (p : Int), vs = [.ref e] ∧ EffAt K C H e xs ys p ∧ ∀ u, SqT K H u (ys.map V.str) → Q (.ref u) H
def spChan (K : PySem.W.Frag) (C : Addr) : Sp := fun vs H Q _ => ∃ (e : Addr) (xs ys : List Str) (p : Int), vs = [.ref e] ∧ EffAt K C H e xs ys p ∧ Q (.int ((ys.length : Int) - (xs.length : Int))) H
def spIsNev (K : PySem.W.Frag) (C : Addr) : Sp := fun vs H Q _ => ∃ (e : Addr), vs = [.ref e] ∧ ((∃ xs ys p, EffAt K C H e xs ys p ∧ Q (.bl false) H) ∨ (NevAt C H e ∧ Q (.bl true) H))
theorem scPo : FnScope ["self"] ["self"] (defScope sPops) := ⟨rfl, rfl, rfl, by decide +kernel, rfl, by decide +kernel, by decide +kernel⟩
theorem scPu : FnScope ["self"] ["self"] (defScope sPushes) := ⟨rfl, rfl, rfl, by decide +kernel, rfl, by decide +kernel, by decide +kernel⟩
theorem scCh : FnScope ["self"] ["self"] (defScope sChange) := ⟨rfl, rfl, rfl, by decide +kernel, rfl, by decide +kernel, by decide +kernel⟩
theorem scNv : FnScope ["self"] ["self"] (defScope sIsNever) := ⟨rfl, rfl, rfl, by decide +kernel, rfl, by decide +kernel, by decide +kernel⟩
theorem ok_pops {f : Addr} {fd : FuncData} (F : Fun K "pops" "Effect.pops" sPops f fd) (T : EC K mg C) : FnOk P w K mg base CX0 1 f fd ["self"] (spPops K C) := by
  refine F.ok scPo (fun vs H Q E h => ?_) (fun cdv A outer s H vs Q E hr h => ?_)
  · obtain ⟨e, xs, ys, p, rfl, _⟩ := h
    rfl
  · obtain ⟨e, xs, ys, p, rfl, h, k⟩ := h
    obtain ⟨dx, u, v, h1, h2, h3⟩ := h.ex
    exact ⟨_, pss_one (ps_ret (pe_fld (pv 0) rfl)), _, rfl, e, C, dx, _, _, rfl, h1, T.cl, T.nN, eF_needs _ _ _, k u h2⟩
theorem ok_push {f : Addr} {fd : FuncData} (F : Fun K "pushes" "Effect.pushes" sPushes f fd) (T : EC K mg C) : FnOk P w K mg base CX0 1 f fd ["self"] (spPush K C) := by
  refine F.ok scPu (fun vs H Q E h => ?_) (fun cdv A outer s H vs Q E hr h => ?_)
  · obtain ⟨e, xs, ys, p, rfl, _⟩ := h
    rfl
  · obtain ⟨e, xs, ys, p, rfl, h, k⟩ := h
    obtain ⟨dx, u, v, h1, h2, h3⟩ := h.ex
    exact ⟨_, pss_one (ps_ret (pe_fld (pv 0) rfl)), _, rfl, e, C, dx, _, _, rfl, h1, T.cl, T.nL, eF_leaves _ _ _, k v h3⟩
theorem ok_chan {f : Addr} {fd : FuncData} (F : Fun K "change" "Effect.change" sChange f fd) (T : EC K mg C) (B : Blt mg) : FnOk P w K mg base CX0 1 f fd ["self"] (spChan K C) := by
  refine F.ok scCh (fun vs H Q E h => ?_) (fun cdv A outer s H vs Q E hr h => ?_)
  · obtain ⟨e, xs, ys, p, rfl, _⟩ := h
    rfl
  · obtain ⟨e, xs, ys, p, rfl, h, k⟩ := h
    obtain ⟨dx, u, v, h1, h2, h3⟩ := h.ex
    refine ⟨_, pss_one (ps_ret (pe_ifExp (pt_cmpR op_isN (pe_fld (pv 0) rfl) pe_non (nomark _)) pe_non (pe_op op_sub (pe_callB call_len_seq (by rfl) B.len PySem.boot_len (pa_cons (pe_fld (pv 0) rfl) pa_nil)) (pe_callB call_len_seq (by rfl) B.len PySem.boot_len (pa_cons (pe_fld (pv 0) rfl) pa_nil))))), ?_⟩
    refine ⟨_, rfl, e, C, dx, _, _, rfl, h1, T.cl, T.nN, eF_needs _ _ _, rfl, false, rfl, iteF ?_⟩
    refine ⟨_, rfl, e, C, dx, _, _, rfl, h1, T.cl, T.nL, eF_leaves _ _ _, v, _, rfl, .inr h3, _, rfl, e, C, dx, _, _, rfl, h1, T.cl, T.nN, eF_needs _ _ _, u, _, rfl, .inr h2, _, _, rfl, rfl, ?_⟩
    rw [List.length_map, List.length_map]
    exact k
theorem ok_isNev {f : Addr} {fd : FuncData} (F : Fun K "is_never" "Effect.is_never" sIsNever f fd) (T : EC K mg C) : FnOk P w K mg base CX0 1 f fd ["self"] (spIsNev K C) := by
  refine F.ok scNv (fun vs H Q E h => ?_) (fun cdv A outer s H vs Q E hr h => ?_)
  · obtain ⟨e, rfl, _⟩ := h
    rfl
  · obtain ⟨e, rfl, h⟩ := h
    refine ⟨_, pss_one (ps_ret (pe_cmpR op_isN (pe_fld (pv 0) rfl) pe_non (nomark _))), ?_⟩
    rcases h with ⟨xs, ys, p, h, k⟩ | ⟨h, k⟩
    · obtain ⟨dx, u, v, h1, h2, h3⟩ := h.ex
      exact ⟨_, rfl, e, C, dx, _, _, rfl, h1, T.cl, T.nN, eF_needs _ _ _, rfl, k⟩
    · obtain ⟨dx, h1⟩ := h.ex
      exact ⟨_, rfl, e, C, dx, _, _, rfl, h1, T.cl, T.nN, eF_needs _ _ _, rfl, k⟩
/-! ### Effect(a, b), Effect.never() -/
/-- the class can be called -/
def Makes (P : Program) (w : World) (K : PySem.W.Frag) (mg : Str → Option Value) (base : Heap) (C : Addr) : Prop := ∃ f fd, Mk K C f ∧ FnOk P w K mg base CX0 4 f fd pInit (spInit K C) ∧ FunD K "__init__" "Effect.__init__" (defArgs sInit) (defBody sInit) (defScope sInit) [] [("peak", .non)] f fd
theorem Makes.two (h : Makes P w K mg base C) : ∃ f fd ds, Mk K C f ∧ FnOk P w K mg base CX0 4 f fd pInit (spInit K C) ∧ Vals [V.non] ds ∧ Binds K fd pInit ds := by
  obtain ⟨f, fd, M, F, FD⟩ := h
  obtain ⟨ds, hd, hb⟩ := FD.binds0 (ps := pInit) 3 (by simp) rfl (fun D doc pm an cv ct us ks h1 h2 => match us, ks, h1, h2 with | [_, _, _], [_], _, _ => ⟨_, _, _, _, _, _, rfl, rfl, rfl⟩)
  exact ⟨f, fd, ds, M, F, hd, hb⟩
/-- what Effect(a, b) asks -/
def tEff2 (K : PySem.W.Frag) (C : Addr) (t : TA) : TE := fun σ H Q => t σ H fun vs H1 => ∃ (a b : Addr) (xs ys : List Str), vs = [.ref a, .ref b] ∧ SqT K H1 a (xs.map V.str) ∧ SqT K H1 b (ys.map V.str) ∧ xs.length ≤ 5000 ∧ ys.length ≤ 5000 ∧ (∀ z ∈ xs, Item z) ∧ (∀ z ∈ ys, Item z) ∧
  ∀ (e : Addr) (H' : Hp), Same H1 H' → H1 e = none → EffAt K C H' e xs ys (lp xs ys) → Q (.ref e) H'
theorem make_imp {vs : List V} {H1 : Hp} {Q : VK} (h : ∃ (a b : Addr) (xs ys : List Str), vs = [.ref a, .ref b] ∧ SqT K H1 a (xs.map V.str) ∧ SqT K H1 b (ys.map V.str) ∧ xs.length ≤ 5000 ∧ ys.length ≤ 5000 ∧ (∀ z ∈ xs, Item z) ∧ (∀ z ∈ ys, Item z) ∧
    ∀ (e : Addr) (H' : Hp), Same H1 H' → H1 e = none → EffAt K C H' e xs ys (lp xs ys) → Q (.ref e) H') : ∀ x dx, H1 x = none → H1 dx = none → dx ≠ x →
    spInit K C (.ref x :: (vs ++ [V.non])) (upd (upd H1 dx (.own x)) x (.ins C dx [])) (fun v H2 => v = .non ∧ Q (.ref x) H2) E0 := by
  intro x dx nx nd ne
  obtain ⟨a, b, xs, ys, rfl, ha, hb, l1, l2, i1, i2, k⟩ := h
  have s0 : Same H1 (upd (upd H1 dx (.own x)) x (.ins C dx [])) := Same.made nx nd fun b o e _ => e
  refine ⟨x, dx, a, b, xs, ys, none, rfl, upd_same, Same.tup s0 ha, Same.tup s0 hb, l1, l2, i1, i2, fun p z => (by cases z), fun H' kp hx => ⟨rfl, ?_⟩⟩
  have s1 : Same H1 H' := fun c o e => kp c o (s0 c o e) (ne_of_none e nx)
  exact k x H' s1 nx ⟨dx, a, b, hx, Same.tup s1 ha, Same.tup s1 hb⟩
theorem pe_eff2 {X : Cx} {p pos : Pos} {e1 e2 : Expr} {t : TA} (M : Makes X.prog X.w X.K X.mg X.base C) (mgE : X.mg "Effect" = some (.ref C)) (hr : Room 5 X.A) (ha : PA X [e1, e2] t) (hg : Gl X "Effect" := by rfl)
    (he : starEach [e1, e2] X.env = (false, eval e1 X.env) :: starEach [e2] X.env := by rfl) (hpl : (backTo pos (starEach [e2] X.env)).any (·.1) = false := by rfl) :
    PE X (.Call (.Name "Effect" p) [e1, e2] [] pos) (tEff2 X.K C t) := by
  obtain ⟨f, fd, ds, Mk1, F, hd, hb⟩ := M.two
  constructor
  intro pins s σ H Q I h
  refine wpAny_Call_Name_kw (ld_glob I hg mgE ?_ (by decide))
  refine PySem.W.callWith_K (h₀ := X.base) I.ok.mod.kin Mk1.kp (thn (ha.run pos pins s σ H _ I h) fun us s1 hh => ?_) he hpl
  obtain ⟨vs, H1, I1, r, q⟩ := hh
  exact ⟨I1.kIn, run_make Mk1 F hr hb hd pass0 I1 r (make_imp q)⟩
/-! ### Effect.never() -/
def spNever (C : Addr) : Sp := fun vs H Q _ => vs = [.ref C] ∧ ∀ (e : Addr) (H' : Hp), Same H H' → NevAt C H' e → Q (.ref e) H'
theorem scNe : FnScope ["cls", "effect"] ["cls"] (defScope sNever) := ⟨rfl, rfl, rfl, by decide +kernel, rfl, by decide +kernel, by decide +kernel⟩
theorem ok_never {g : Addr} {gd : FuncData} (F : Fun K "never" "Effect.never" sNever g gd) (T : EC K mg C) (M : Makes P w K mg base C) : FnOk P w K mg base CX0 6 g gd ["cls"] (spNever C) := by
  obtain ⟨f, fd, ds, Mk1, FI, hd, hb⟩ := M.two
  refine F.ok scNe (fun vs H Q E h => ?_) (fun cdv A outer s H vs Q E hr h => ?_)
  · obtain ⟨rfl, _⟩ := h
    rfl
  · obtain ⟨rfl, k⟩ := h
    refine ⟨_, pss_cons (ps_set (i := 1) scNe.nd rfl (.inl rfl) (pe_makeL (i := 0) Mk1 FI hr rfl (.inl rfl) hb hd pass0 (pa_cons (pe_tup pa_nil) (pa_cons (pe_tup pa_nil) pa_nil))))
      (pss_cons (ps_fld (pv 1) pe_non rfl) (pss_cons (ps_fld (pv 1) pe_non rfl) (pss_cons (ps_fld (pv 1) pe_non rfl) (pss_one (ps_ret (pv 1)))))), ?_⟩
    refine ⟨rfl, Nat.zero_le _, fun t1 h1 => ⟨Nat.zero_le _, fun t2 h2 => ?_⟩⟩
    have n2 : t1 ≠ t2 := ne_of_none upd_same h2
    have s2 : Same H (upd (upd H t1 (.tup [])) t2 (.tup [])) := Same.free2 (Same.new h1) ((Same.new h1).free h2)
    intro y dy ny nd nyd
    have s3 : Same (upd (upd H t1 (.tup [])) t2 (.tup [])) (upd (upd (upd (upd H t1 (.tup [])) t2 (.tup [])) dy (.own y)) y (.ins C dy [])) := Same.made ny nd fun b o z _ => z
    refine ⟨y, dy, t1, t2, [], [], none, rfl, upd_same, Same.tup s3 (.of (by rw [upd_ne n2]; exact upd_same)), Same.tup s3 (.of upd_same), Nat.zero_le _, Nat.zero_le _, fun z m => (by cases m), fun z m => (by cases m), fun p z => (by cases z), fun H' kp e1 => ⟨rfl, ?_⟩⟩
    have s4 : Same H H' := fun c o z => kp c o (s3 _ _ (s2 c o z)) (ne_of_none z (s2.free ny))
    have hne : H y = none := s2.free ny
    refine ⟨_, rfl, y, C, dy, _, rfl, e1, T.cl, T.nN, (by show 3 < 1000; decide), _, rfl, y, C, dy, _, rfl, upd_same, T.cl, T.nL, (by rw [eF_n]; show 3 < 1000; decide), _, rfl, y, C, dy, _, rfl, upd_same, T.cl, T.nH, (by rw [eF_n, eF_l]; show 3 < 1000; decide), _, rfl, ?_⟩
    refine k y _ ?_ ⟨dy, ?_⟩
    · exact Same.free2 (Same.free2 (Same.free2 s4 hne) hne) hne
    · rw [upd_same, eF_n, eF_l, eF_h]
/-- the classmethod -/
def NeverHas (P : Program) (w : World) (K : PySem.W.Frag) (mg : Str → Option Value) (base : Heap) (C : Addr) : Prop := ∃ mc p g, ClX.CRead K C mc ∧ ClX.CMet K C mc "never" p g ∧ FnR P w K mg base CX0 6 g (spNever C)
theorem pe_never0 {X : Cx} {p apos pos : Pos} {pl : Sem Bool} (h : NeverHas X.prog X.w X.K X.mg X.base C) (mgE : X.mg "Effect" = some (.ref C)) (hr : Room 6 X.A) (hg : Gl X "Effect" := by rfl)
    (ht : eval (.Call (.Attribute (.Name "Effect" p) "never" apos) [] [] pos) X.env = (do
      let v ← eval (.Name "Effect" p) X.env
      standAt apos.atName
      let (f, first) ← holding [v] (getMethod v "never" pl)
      callWith pos f first (backTo pos (starEach [] X.env)) (backToKw pos (keywordEach [] X.env))) := by rfl) :
    PE X (.Call (.Attribute (.Name "Effect" p) "never" apos) [] [] pos) (tCMeth0 C (spNever C) E0 (tC (.ref C))) := by
  obtain ⟨mc, q, g, r, c, F⟩ := h
  exact pe_cmeth0 (pl := pl) (pe_glob hg mgE rfl) r c F hr pass0 ht
end
end SE
namespace SE
open PySem PySem.Spec PyProof.Rows L2
section
variable {P : Program} {w : World} {K : PySem.W.Frag} {mg : Str → Option Value} {base : Heap} {C : Addr}
/-! ### Effect(a, b, peak = c) -/
def tEffK (K : PySem.W.Frag) (C : Addr) (t : TA) (tk : TE) : TE := fun σ H Q => t σ H fun vs H1 => tCons tk tNil σ H1 fun zs H2 => ∃ (a b : Addr) (xs ys : List Str) (pk : Option Int), vs = [.ref a, .ref b] ∧ zs = [pkV pk] ∧ SqT K H2 a (xs.map V.str) ∧ SqT K H2 b (ys.map V.str) ∧ xs.length ≤ 5000 ∧ ys.length ≤ 5000 ∧
  (∀ z ∈ xs, Item z) ∧ (∀ z ∈ ys, Item z) ∧ (∀ p, pk = some p → lp xs ys ≤ p) ∧ ∀ (e : Addr) (H' : Hp), Same H2 H' → H2 e = none → EffAt K C H' e xs ys (pk.getD (lp xs ys)) → Q (.ref e) H'
theorem pe_effK {X : Cx} {p pos q1 : Pos} {e1 e2 c : Expr} {t : TA} {tk : TE} (M : Makes X.prog X.w X.K X.mg X.base C) (mgE : X.mg "Effect" = some (.ref C)) (hr : Room 5 X.A) (ha : PA X [e1, e2] t) (hc : PE X c tk) (hg : Gl X "Effect" := by rfl)
    (he : starEach [e1, e2] X.env = (false, eval e1 X.env) :: starEach [e2] X.env := by rfl) (hpl : ((backTo pos (starEach [e1, e2] X.env)).any (·.1) || (backToKw pos (keywordEach [⟨some "peak", c, q1⟩] X.env)).any (·.1.isNone)) = false := by rfl) :
    PE X (.Call (.Name "Effect" p) [e1, e2] [⟨some "peak", c, q1⟩] pos) (tEffK X.K C t tk) := by
  obtain ⟨f, fd, Mk1, F, FD⟩ := M
  obtain ⟨mv, kb⟩ := kb_some (ps := pInit) FD 3 ["peak"] [] (fun us _ ws => us ++ ws) (by simp) (fun q h => (by cases h)) (fun r1 _ r3 => r1.append r3) (fun D doc pm an cv ct us mv ws h1 h2 h3 => match us, mv, ws, h1, h2, h3 with | [_, _, _], [], [_], _, _, _ => rfl)
  constructor
  intro pins s σ H Q I h
  refine wpAny_Call_Name_kw (ld_glob I hg mgE ?_ (by decide))
  refine PySem.W.callWith_KW (h₀ := X.base) I.ok.mod.kin Mk1.kp rfl (thn (ha.run pos pins s σ H _ I h) fun us s1 hh => ?_) hpl he
  obtain ⟨vs, H1, I1, r, q⟩ := hh
  refine thn ((pk_cons (nm := some "peak") (kpos := q1) hc pk_nil).run pos pins s1 σ H1 _ I1 q) fun ws s2 hh => ?_
  obtain ⟨zs, H2, I2, rz, a, b, xs, ys, pk, rfl, rfl, ha2, hb2, l1, l2, i1, i2, hp, k⟩ := hh
  refine ⟨I2.kIn, ?_⟩
  refine run_makeK (ks := ["peak"]) (n := 2) Mk1 F hr kb pass0 I2 r rz rfl rfl ?_
  intro x dx nx nd ne
  have s0 : Same H2 (upd (upd H2 dx (.own x)) x (.ins C dx [])) := Same.made nx nd fun b o e _ => e
  refine ⟨x, dx, a, b, xs, ys, pk, rfl, upd_same, Same.tup s0 ha2, Same.tup s0 hb2, l1, l2, i1, i2, hp, fun H' kp hx => ⟨rfl, ?_⟩⟩
  have s3 : Same H2 H' := fun c o e => kp c o (s0 c o e) (ne_of_none e nx)
  exact k x H' s3 nx ⟨dx, a, b, hx, Same.tup s3 ha2, Same.tup s3 hb2⟩
/-! ### effects as values -/
abbrev Eff := Option (List Str × List Str × Int)
def EffV (K : PySem.W.Frag) (C : Addr) (H : Hp) (e : Addr) : Eff → Prop
  | none => NevAt C H e
  | some (xs, ys, p) => EffAt K C H e xs ys p
theorem EffV.same {H H' : Hp} {e : Addr} : ∀ {o : Eff}, EffV K C H e o → Same H H' → EffV K C H' e o
  | none, h, s => NevAt.same h s
  | some (_, _, _), h, s => EffAt.same h s
theorem EffV.ins {H : Hp} {e : Addr} : ∀ {o : Eff}, EffV K C H e o → ∃ dx fs, H e = some (.ins C dx fs)
  | none, h => by
    obtain ⟨dx, h1⟩ := NevAt.ex h
    exact ⟨dx, _, h1⟩
  | some (_, _, _), h => by
    obtain ⟨dx, u, v, h1, _⟩ := EffAt.ex h
    exact ⟨dx, _, h1⟩
/-! ### peak, nothing -/
def spPeak (K : PySem.W.Frag) (C : Addr) : Sp := fun vs H Q _ => ∃ (e : Addr) (xs ys : List Str) (p : Int), vs = [.ref e] ∧ EffAt K C H e xs ys p ∧ Q (.int p) H
theorem scPk : FnScope ["self"] ["self"] (defScope sPeak) := ⟨rfl, rfl, rfl, by decide +kernel, rfl, by decide +kernel, by decide +kernel⟩
theorem ok_peak {f : Addr} {fd : FuncData} (F : Fun K "peak" "Effect.peak" sPeak f fd) (T : EC K mg C) : FnOk P w K mg base CX0 1 f fd ["self"] (spPeak K C) := by
  refine F.ok scPk (fun vs H Q E h => ?_) (fun cdv A outer s H vs Q E hr h => ?_)
  · obtain ⟨e, xs, ys, p, rfl, _⟩ := h
    rfl
  · obtain ⟨e, xs, ys, p, rfl, h, k⟩ := h
    obtain ⟨dx, u, v, h1, h2, h3⟩ := h.ex
    exact ⟨_, pss_one (ps_ret (pe_fld (pv 0) rfl)), _, rfl, e, C, dx, _, _, rfl, h1, T.cl, T.nH, eF_high _ _ _, k⟩
end
end SE
namespace SE
open PySem PySem.Spec PyProof.Rows L2
/-! ### effects one after the other: the mathematics' side -/
abbrev Prt := List Str × List Str × Int
def comp (A B : Prt) : Option Prt :=
  if A.2.1.take (min A.2.1.length B.1.length) = B.1.take (min A.2.1.length B.1.length) then
    some (A.1 ++ B.1.drop (min A.2.1.length B.1.length), B.2.1 ++ A.2.1.drop (min A.2.1.length B.1.length), if (A.2.1.length : Int) - (A.1.length : Int) + B.2.2 > A.2.2 then (A.2.1.length : Int) - (A.1.length : Int) + B.2.2 else A.2.2)
  else none
def joinF : Prt → List Prt → Eff
  | A, [] => some A
  | A, B :: r => match comp A B with
    | none => none
    | some D => joinF D r
def joinM (ps : List Prt) : Eff := joinF ([], [], 0) ps
def szP (ps : List Prt) : Nat := (ps.map fun B => B.1.length + B.2.1.length).sum
/-- a part that may be joined -/
structure PrtOk (B : Prt) : Prop where
  i1 : ∀ z ∈ B.1, Item z
  i2 : ∀ z ∈ B.2.1, Item z
  h0 : 0 ≤ B.2.2
  h1 : (B.2.1.length : Int) - (B.1.length : Int) ≤ B.2.2
theorem comp_ok {A B D : Prt} (hA : PrtOk A) (hB : PrtOk B) (h : comp A B = some D) : PrtOk D ∧ D.1.length + D.2.1.length ≤ A.1.length + A.2.1.length + (B.1.length + B.2.1.length) := by
  unfold comp at h
  split at h
  · cases h
    have q1 := hA.h0
    have q2 := hA.h1
    have q3 := hB.h1
    refine ⟨⟨fun z m => ?_, fun z m => ?_, ?_, ?_⟩, ?_⟩
    · rcases List.mem_append.mp m with q | q
      · exact hA.i1 z q
      · exact hB.i1 z (List.mem_of_mem_drop q)
    · rcases List.mem_append.mp m with q | q
      · exact hB.i2 z q
      · exact hA.i2 z (List.mem_of_mem_drop q)
    · dsimp only
      split <;> omega
    · dsimp only
      rw [List.length_append, List.length_append, List.length_drop, List.length_drop]
      have m1 := Nat.min_le_left A.2.1.length B.1.length
      have m2 := Nat.min_le_right A.2.1.length B.1.length
      generalize min A.2.1.length B.1.length = m at m1 m2 ⊢
      split <;> omega
    · show (A.1 ++ B.1.drop (min A.2.1.length B.1.length)).length + (B.2.1 ++ A.2.1.drop (min A.2.1.length B.1.length)).length ≤ _
      rw [List.length_append, List.length_append, List.length_drop, List.length_drop]
      omega
  · cases h
theorem PrtOk.lp {D : Prt} (h : PrtOk D) : lp D.1 D.2.1 ≤ D.2.2 := by
  have q1 := h.h0
  have q2 := h.h1
  unfold SE.lp
  split <;> omega
theorem cutF_to {α : Type} (f : α → V) (xs : List α) (j : Nat) : cutV (xs.map f) none (some (j : Int)) = (xs.take j).map f := by
  unfold cutV
  rw [List.length_map]
  have e1 : HT.sIx xs.length 0 none = 0 := rfl
  rw [e1, HT.sIx_nat, List.drop_zero, Nat.sub_zero, ← List.map_take]
  congr 1
  by_cases c : j ≤ xs.length
  · rw [Nat.min_eq_left c]
  · rw [Nat.min_eq_right (by omega), List.take_length, List.take_of_length_le (by omega)]
theorem cutF_from {α : Type} (f : α → V) (xs : List α) (j : Nat) : cutV (xs.map f) (some (j : Int)) none = (xs.drop j).map f := by
  unfold cutV
  rw [List.length_map]
  have e1 : HT.sIx xs.length xs.length none = xs.length := rfl
  rw [e1, HT.sIx_nat, ← List.map_drop, ← List.map_take]
  congr 1
  by_cases c : j ≤ xs.length
  · rw [Nat.min_eq_left c, List.take_of_length_le (by rw [List.length_drop]; exact Nat.le_refl _)]
  · rw [Nat.min_eq_right (by omega), List.drop_of_length_le (Nat.le_refl _), List.drop_of_length_le (by omega), List.take_nil]
theorem min_int (a b : Nat) : (if (b : Int) < (a : Int) then (b : Int) else (a : Int)) = ((min a b : Nat) : Int) := by
  split <;> omega
/-- a part as a tuple -/
def PrtV (K : PySem.W.Frag) (H : Hp) (v : V) (B : Prt) : Prop := ∃ t a b, v = .ref t ∧ SqT K H t [.ref a, .ref b, .int B.2.2] ∧ SqT K H a (B.1.map V.str) ∧ SqT K H b (B.2.1.map V.str)
theorem PrtV.same {K : PySem.W.Frag} {H H' : Hp} {v : V} {B : Prt} (h : PrtV K H v B) (s : Same H H') : PrtV K H' v B := by
  obtain ⟨t, a, b, e, h1, h2, h3⟩ := h
  exact ⟨t, a, b, e, Same.tup s h1, Same.tup s h2, Same.tup s h3⟩
section
variable {P : Program} {w : World} {K : PySem.W.Frag} {mg : Str → Option Value} {base : Heap} {C : Addr}
/-! ### joined -/
def spJoin (K : PySem.W.Frag) (C : Addr) : Sp := fun vs H Q _ => ∃ (a : Addr) (us : List V) (ps : List Prt), vs = [.ref a] ∧ SqL K H a us ∧ Paired (PrtV K H) us ps ∧ (∀ B ∈ ps, PrtOk B) ∧ szP ps ≤ 5000 ∧ ∀ (e : Addr) (H' : Hp), Same H H' → EffV K C H' e (joinM ps) → Q (.ref e) H'
theorem scJo : FnScope ["parts", "pops", "pushes", "peak", "needed", "left", "highest", "shared"] ["parts"] (defScope sJoined) := ⟨rfl, rfl, rfl, by decide +kernel, rfl, by decide +kernel, by decide +kernel⟩
theorem paired_at {α β : Type} {F : α → β → Prop} : ∀ {l₁ : List α} {l₂ : List β} {i : Nat} {x : α}, Paired F l₁ l₂ → l₁[i]? = some x → ∃ y, l₂[i]? = some y ∧ F x y
  | _, _, _, _, .nil, h => by simp at h
  | _, _, 0, _, .cons r _, h => ⟨_, rfl, by cases h; exact r⟩
  | _, _, i + 1, _, .cons _ t, h => by
    obtain ⟨y, h1, h2⟩ := paired_at t (i := i) h
    exact ⟨y, h1, h2⟩
theorem paired_len {α β : Type} {F : α → β → Prop} : ∀ {l₁ : List α} {l₂ : List β}, Paired F l₁ l₂ → l₁.length = l₂.length
  | _, _, .nil => rfl
  | _, _, .cons _ t => congrArg Nat.succ (paired_len t)
theorem has_join (D : Def K mg "joined" sJoined) (T : EC K mg C) (M : Makes P w K mg base C) (GN : NeverHas P w K mg base C) (B : Blt mg) (mx : mg "max" = none) (mn : mg "min" = none) : Has P w K mg base "joined" 7 ["parts"] [] (spJoin K C) := by
  refine has_of D scJo (fun _ _ _ _ _ _ us hl => match us, hl with | [_], _ => rfl) (fun xs H Q E h => ?_) (fun f cv A out s H xs Q E hr h => ?_)
  · obtain ⟨a, us, ps, rfl, _⟩ := h
    rfl
  · obtain ⟨a, us, ps, rfl, hS, hV, hO, hz, k⟩ := h
    have hr5 : Room 5 _ := hr.mono (by decide)
    refine ⟨_, pss_cons (ps_asg (pe_tup (pa_cons (pe_tup pa_nil) (pa_cons (pe_tup pa_nil) (pa_cons pe_int pa_nil)))) (pg_tup (by rfl) (pgs_cons (pg_name (i := 1) scJo.nd rfl (.inl rfl)) (pgs_cons (pg_name (i := 2) scJo.nd rfl (.inl rfl)) (pgs_cons (pg_name (i := 3) scJo.nd rfl (.inl rfl)) pgs_nil)))))
      (pss_cons (ps_for PassesOwn.never rfl (pi_list (pv 0)) (pg_tup (by rfl) (pgs_cons (pg_name (i := 4) scJo.nd rfl (.inl rfl)) (pgs_cons (pg_name (i := 5) scJo.nd rfl (.inl rfl)) (pgs_cons (pg_name (i := 6) scJo.nd rfl (.inl rfl)) pgs_nil))))
        (pss_cons (ps_set (i := 7) scJo.nd rfl (.inl rfl) (pe_callB (call_min2 rfl) (by rfl) mn (by decide +kernel) (pa_cons (pe_callB call_len_seq (by rfl) B.len PySem.boot_len (pa_cons (pv 2) pa_nil)) (pa_cons (pe_callB call_len_seq (by rfl) B.len PySem.boot_len (pa_cons (pv 4) pa_nil)) pa_nil))))
        (pss_cons (ps_if (pt_cut (pt_cmpR (op_neD hr.units) (pe_slice sl_tupS (pv 2) po_none (po_some (pv 7))) (pe_slice sl_tupS (pv 4) po_none (po_some (pv 7))) (nomark _))) (pss_one (ps_ret (pe_never0 GN T.mgE hr))) pss_nil)
        (pss_cons (ps_set (i := 3) scJo.nd rfl (.inl rfl) (pe_callB (call_max2 rfl) (by rfl) mx (by decide +kernel) (pa_cons (pv 3) (pa_cons (pe_op op_add (pe_op op_sub (pe_callB call_len_seq (by rfl) B.len PySem.boot_len (pa_cons (pv 2) pa_nil)) (pe_callB call_len_seq (by rfl) B.len PySem.boot_len (pa_cons (pv 1) pa_nil))) (pv 6)) pa_nil))))
        (pss_cons (ps_set (i := 1) scJo.nd rfl (.inl rfl) (pe_op op_catS (pv 1) (pe_slice sl_tupS (pv 4) (po_some (pv 7)) po_none)))
        (pss_one (ps_set (i := 2) scJo.nd rfl (.inl rfl) (pe_op op_catS (pv 5) (pe_slice sl_tupS (pv 2) (po_some (pv 7)) po_none)))))))))
      (pss_one (ps_ret (pe_effK M T.mgE hr5 (pa_cons (pv 1) (pa_cons (pv 2) pa_nil)) (pv 3))))), ?_⟩
    refine ⟨Nat.zero_le _, fun t1 ht1 => ⟨Nat.zero_le _, fun t2 ht2 => ?_⟩⟩
    have n12 : t1 ≠ t2 := ne_of_none upd_same ht2
    have s0 : Same H (upd (upd H t1 (.tup [])) t2 (.tup [])) := Same.free2 (Same.new ht1) ((Same.new ht1).free ht2)
    have shp : ∀ {zs : List Str}, (∀ z ∈ zs, Item z) → SeqAt.shaped (.tuple (zs.map PyData.str)) = true := fun {zs} q => (nice_tuple (nice_strs q)).shaped (by decide)
    refine ⟨(by show 3 ≤ sizeLine; decide), fun t3 ht3 => ⟨t3, _, rfl, .of upd_same, rfl, _, _, rfl, _, _, rfl, _, _, rfl, rfl, ?_⟩⟩
    have s00 := Same.new (o := .tup [.ref t1, .ref t2, .int 0]) ht3
    generalize upd (upd (upd H t1 (.tup [])) t2 (.tup [])) t3 (.tup [.ref t1, .ref t2, .int 0]) = H1 at s00 ⊢
    have w1 : SqT K H1 t1 (([] : List Str).map V.str) := Same.tup s00 (.of (by rw [upd_ne n12]; exact upd_same))
    have w2 : SqT K H1 t2 (([] : List Str).map V.str) := Same.tup s00 (.of upd_same)
    replace s0 := s0.trans s00
    refine ⟨_, rfl, a, rfl, ⟨_, Same.seq s0 hS⟩, for_list (K := K) (a := a) (xs := us) (fun i σ H2 => ∃ (u v : Addr) (A : Prt) (y4 y5 y6 y7 : Option V), σ = [some (.ref a), some (.ref u), some (.ref v), some (.int A.2.2), y4, y5, y6, y7] ∧ Same H H2 ∧ SqT K H2 u (A.1.map V.str) ∧ SqT K H2 v (A.2.1.map V.str) ∧ PrtOk A ∧ joinM ps = joinF A (ps.drop i) ∧ A.1.length + A.2.1.length + szP (ps.drop i) ≤ 5000)
      ⟨t1, t2, ([], [], 0), none, none, none, none, rfl, s0, w1, w2, ⟨fun z m => (by cases m), fun z m => (by cases m), Int.le_refl _, Int.le_refl _⟩, rfl, by rw [List.drop_zero]; show 0 + 0 + szP ps ≤ 5000; omega⟩ (fun i σ H2 _ q => ?_) ?_ ?_⟩
    · obtain ⟨_, _, _, _, _, _, _, _, s2, _⟩ := q
      exact Same.seq s2 hS
    · rintro i x σ H2 hx ⟨u, v, A, y4, y5, y6, y7, rfl, s2, hu, hv, oA, hj, hsz⟩
      obtain ⟨Bp, hB, hP⟩ := paired_at hV hx
      obtain ⟨t, p1, p2, rfl, q1, q2, q3⟩ := hP.same s2
      have oB := hO Bp (List.mem_of_getElem? hB)
      have hd : ps.drop i = Bp :: ps.drop (i + 1) := by
        obtain ⟨hl, he⟩ := List.getElem?_eq_some_iff.mp hB
        rw [List.drop_eq_getElem_cons hl, he]
      have hsz2 : A.1.length + A.2.1.length + (Bp.1.length + Bp.2.1.length) + szP (ps.drop (i + 1)) ≤ 5000 := by
        rw [hd] at hsz
        have e : szP (Bp :: ps.drop (i + 1)) = Bp.1.length + Bp.2.1.length + szP (ps.drop (i + 1)) := by
          unfold szP
          rw [List.map_cons, List.sum_cons]
        omega
      refine ⟨t, _, rfl, q1, rfl, _, _, rfl, _, _, rfl, _, _, rfl, rfl, ?_⟩
      refine ⟨_, rfl, v, _, rfl, .inr hv, _, rfl, p1, _, rfl, .inr q2, _, _, rfl, ?_⟩
      rw [List.length_map, List.length_map, min_int]
      -- do they fit
      refine ⟨fun b H3 => b = !decide (A.2.1.take (min A.2.1.length Bp.1.length) = Bp.1.take (min A.2.1.length Bp.1.length)) ∧ Same H2 H3, ?_, ?_⟩
      · refine ⟨_, rfl, _, rfl, _, rfl, v, _, rfl, hv, fun c1 H3 s3 hc1 => ⟨_, rfl, _, rfl, _, rfl, p1, _, rfl, Same.tup s3 q2, fun c2 H4 s4 hc2 => ?_⟩⟩
        rw [cutF_to] at hc1 hc2
        refine ⟨.tuple ((A.2.1.take (min A.2.1.length Bp.1.length)).map .str), .tuple ((Bp.1.take (min A.2.1.length Bp.1.length)).map .str), .tup (Same.tup s4 hc1) (dp_strs _), .tup hc2 (dp_strs _), shp (fun z m => oA.i2 z (List.mem_of_mem_take m)), shp (fun z m => oB.i1 z (List.mem_of_mem_take m)), _, rfl, ?_, s3.trans s4⟩
        rw [eqv_tupS]
      rintro b H3 ⟨rfl, s3⟩
      have s23 := s2.trans s3
      by_cases c : A.2.1.take (min A.2.1.length Bp.1.length) = Bp.1.take (min A.2.1.length Bp.1.length)
      rotate_left
      · rw [decide_eq_false c]
        refine iteT ⟨rfl, rfl, fun e H4 s4 he => k e H4 (s23.trans s4) ?_⟩
        have ej : joinM ps = none := by
          rw [hj, hd]
          unfold joinF comp
          rw [if_neg c]
        rw [ej]
        exact he
      rw [decide_eq_true c]
      refine iteF ?_
      refine ⟨_, rfl, _, rfl, v, _, rfl, .inr (Same.tup s3 hv), _, rfl, u, _, rfl, .inr (Same.tup s3 hu), _, _, rfl, rfl, _, rfl, _, _, rfl, rfl, _, _, rfl, ?_⟩
      rw [List.length_map, List.length_map]
      refine ⟨_, rfl, _, rfl, _, rfl, _, rfl, p1, _, rfl, Same.tup s3 q2, fun c1 H4 s4 hc1 => ?_⟩
      rw [cutF_from] at hc1
      refine ⟨u, c1, _, _, rfl, rfl, Same.tup (s3.trans s4) hu, hc1, ?_, fun u2 H5 s5 hu2 => ?_⟩
      · rw [List.length_map, List.length_map, List.length_drop, sizeLine_eq]
        omega
      have s35 := (s3.trans s4).trans s5
      refine ⟨_, rfl, _, rfl, _, rfl, _, rfl, v, _, rfl, Same.tup s35 hv, fun c2 H6 s6 hc2 => ?_⟩
      rw [cutF_from] at hc2
      refine ⟨p2, c2, _, _, rfl, rfl, Same.tup (s35.trans s6) q3, hc2, ?_, fun v2 H7 s7 hv2 => ?_⟩
      · rw [List.length_map, List.length_map, List.length_drop, sizeLine_eq]
        omega
      obtain ⟨Dp, hD⟩ : ∃ Dp, comp A Bp = some Dp := by
        unfold comp
        rw [if_pos c]
        exact ⟨_, rfl⟩
      have oD := comp_ok oA oB hD
      have e1 : Dp.1 = A.1 ++ Bp.1.drop (min A.2.1.length Bp.1.length) ∧ Dp.2.1 = Bp.2.1 ++ A.2.1.drop (min A.2.1.length Bp.1.length) ∧ Dp.2.2 = if (A.2.1.length : Int) - (A.1.length : Int) + Bp.2.2 > A.2.2 then (A.2.1.length : Int) - (A.1.length : Int) + Bp.2.2 else A.2.2 := by
        unfold comp at hD
        rw [if_pos c] at hD
        cases hD
        exact ⟨rfl, rfl, rfl⟩
      rw [← List.map_append, ← e1.1] at hu2
      rw [← List.map_append, ← e1.2.1] at hv2
      refine ⟨u2, v2, Dp, some (.ref p1), some (.ref p2), some (.int Bp.2.2), some (.int ((min A.2.1.length Bp.1.length : Nat) : Int)), ?_, s2.trans ((s35.trans s6).trans s7), Same.tup (s6.trans s7) hu2, hv2, oD.1, ?_, ?_⟩
      · rw [e1.2.2]
        rfl
      · rw [hj, hd]
        conv => lhs; unfold joinF
        rw [hD]
      · have := oD.2
        omega
    · rintro σ H2 ⟨u, v, A, y4, y5, y6, y7, rfl, s2, hu, hv, oA, hj, hsz⟩
      rw [paired_len hV, List.drop_length] at hj
      refine ⟨_, rfl, _, rfl, _, rfl, u, v, A.1, A.2.1, some A.2.2, rfl, rfl, hu, hv, by omega, by omega, oA.i1, oA.i2, fun p z => ?_, fun e H3 s3 _ he => ?_⟩
      · cases z
        exact oA.lp
      · refine k e H3 (s2.trans s3) ?_
        rw [hj]
        exact he
end
end SE
namespace SE
open PySem PySem.Spec PyProof.Rows L2
/-! ### effect_of -/
def partM (s : Stp) : Prt := if s.1 = true then ([], [s.2], 1) else ([s.2], [], 0)
def effM (ss : List Stp) : Eff := joinM (ss.map partM)
theorem partM_ok {s : Stp} (h : Item s.2) : PrtOk (partM s) := by
  unfold partM
  split
  · exact ⟨fun z m => (by cases m), fun z m => (by rw [List.mem_singleton.mp m]; exact h), (by show (0 : Int) ≤ 1; decide), (by show ((1 : Nat) : Int) - ((0 : Nat) : Int) ≤ 1; decide)⟩
  · exact ⟨fun z m => (by rw [List.mem_singleton.mp m]; exact h), fun z m => (by cases m), (by show (0 : Int) ≤ 0; decide), (by show ((0 : Nat) : Int) - ((1 : Nat) : Int) ≤ 0; decide)⟩
theorem szP_steps : ∀ ss : List Stp, szP (ss.map partM) = ss.length
  | [] => rfl
  | s :: ss => by
    have ih := szP_steps ss
    unfold szP at ih ⊢
    rw [List.map_cons, List.map_cons, List.sum_cons, ih, List.length_cons]
    unfold partM
    split
    · show 0 + 1 + ss.length = _
      omega
    · show 1 + 0 + ss.length = _
      omega
theorem tup_updL {K : PySem.W.Frag} {H : Hp} {D t : Addr} {xs us : List V} {o : HO} (hD : H D = some (.lst us)) (h : SqT K H t xs) : SqT K (upd H D o) t xs := by
  rcases h with (h | ⟨p, h⟩) | h
  · exact .inl (.inl (by rw [upd_ne (ne_of h hD (by intro z; cases z))]; exact h))
  · exact .inl (.inr ⟨p, by rw [upd_ne (ne_of h hD (by intro z; cases z))]; exact h⟩)
  · exact .inr h
theorem PrtV.updL {K : PySem.W.Frag} {H : Hp} {D : Addr} {us : List V} {v : V} {B : Prt} {o : HO} (hD : H D = some (.lst us)) (h : PrtV K H v B) : PrtV K (upd H D o) v B := by
  obtain ⟨t, a, b, e, h1, h2, h3⟩ := h
  exact ⟨t, a, b, e, tup_updL hD h1, tup_updL hD h2, tup_updL hD h3⟩
theorem Paired.snoc2 {α β : Type} {F : α → β → Prop} : ∀ {l₁ : List α} {l₂ : List β} {x : α} {y : β}, Paired F l₁ l₂ → F x y → Paired F (l₁ ++ [x]) (l₂ ++ [y])
  | _, _, _, _, .nil, h => .cons h .nil
  | _, _, _, _, .cons r t, h => .cons r (Paired.snoc2 t h)
section
variable {P : Program} {w : World} {K : PySem.W.Frag} {mg : Str → Option Value} {base : Heap} {C : Addr}
def spPart (K : PySem.W.Frag) : Sp := fun vs H Q _ => ∃ (v : V) (s : Stp), vs = [v] ∧ StepV K H v s ∧ ∀ (u : V) (H' : Hp), Same H H' → PrtV K H' u (partM s) → Q u H'
theorem scPt : FnScope ["step", "action", "item"] ["step"] (defScope sPartsOfStep) := ⟨rfl, rfl, rfl, by decide +kernel, rfl, by decide +kernel, by decide +kernel⟩
theorem has_part (D : Def K mg "parts_of_step" sPartsOfStep) : Has P w K mg base "parts_of_step" 1 ["step"] [] (spPart K) := by
  refine has_of D scPt (fun _ _ _ _ _ _ us hl => match us, hl with | [_], _ => rfl) (fun xs H Q E h => ?_) (fun f cv A out s H xs Q E hr h => ?_)
  · obtain ⟨v, st, rfl, _⟩ := h
    rfl
  · obtain ⟨v, st, rfl, ⟨t, rfl, hT⟩, k⟩ := h
    refine ⟨_, pss_cons (ps_asg (pv 0) (pg_tup (by rfl) (pgs_cons (pg_name (i := 1) scPt.nd rfl (.inl rfl)) (pgs_cons (pg_name (i := 2) scPt.nd rfl (.inl rfl)) pgs_nil))))
      (pss_one (ps_ret (pe_ifExp (pt_cmpR op_eq (pv 1) pe_str (nomark _)) (pe_tup (pa_cons (pe_tup pa_nil) (pa_cons (pe_tup (pa_cons (pv 2) pa_nil)) (pa_cons pe_int pa_nil)))) (pe_tup (pa_cons (pe_tup (pa_cons (pv 2) pa_nil)) (pa_cons (pe_tup pa_nil) (pa_cons pe_int pa_nil))))))), ?_⟩
    refine ⟨_, rfl, t, _, rfl, hT, rfl, _, _, rfl, _, _, rfl, rfl, ?_⟩
    obtain ⟨b, z⟩ := st
    cases b with
    | true =>
      refine ⟨_, rfl, rfl, true, congrArg V.bl (decide_eq_true (show V.str (act true) = V.str "push" from rfl)), iteT ?_⟩
      refine ⟨Nat.zero_le _, fun a ha => ⟨_, rfl, (by show 1 ≤ sizeLine; decide), fun c hc => ⟨(by show 3 ≤ sizeLine; decide), fun q hq => ?_⟩⟩⟩
      have nac : a ≠ c := ne_of_none upd_same hc
      have naq : a ≠ q := ne_of_none (by rw [upd_ne nac]; exact upd_same) hq
      have ncq : c ≠ q := ne_of_none upd_same hq
      refine k (.ref q) _ ?_ ⟨q, a, c, rfl, .of upd_same, .of ?_, .of ?_⟩
      · exact Same.free2 (Same.free2 (Same.new ha) ((Same.new ha).free hc)) ((Same.free2 (Same.new ha) ((Same.new ha).free hc)).free hq)
      · rw [upd_ne naq, upd_ne nac]
        exact upd_same
      · rw [upd_ne ncq]
        exact upd_same
    | false =>
      refine ⟨_, rfl, rfl, false, congrArg V.bl (decide_eq_false (fun y => absurd (V.str.inj (show V.str (act false) = V.str "push" from y)) (by decide +kernel))), iteF ?_⟩
      refine ⟨_, rfl, (by show 1 ≤ sizeLine; decide), fun a ha => ⟨Nat.zero_le _, fun c hc => ⟨(by show 3 ≤ sizeLine; decide), fun q hq => ?_⟩⟩⟩
      have nac : a ≠ c := ne_of_none upd_same hc
      have naq : a ≠ q := ne_of_none (by rw [upd_ne nac]; exact upd_same) hq
      have ncq : c ≠ q := ne_of_none upd_same hq
      refine k (.ref q) _ ?_ ⟨q, a, c, rfl, .of upd_same, .of ?_, .of ?_⟩
      · exact Same.free2 (Same.free2 (Same.new ha) ((Same.new ha).free hc)) ((Same.free2 (Same.new ha) ((Same.new ha).free hc)).free hq)
      · rw [upd_ne naq, upd_ne nac]
        exact upd_same
      · rw [upd_ne ncq]
        exact upd_same
def spEffOf (K : PySem.W.Frag) (C : Addr) : Sp := fun vs H Q _ => ∃ (a : Addr) (ys : List V) (ss : List Stp), vs = [.ref a] ∧ SqL K H a ys ∧ ys.length ≤ 1000 ∧ StepsV K H ys ss ∧ (∀ s ∈ ss, Item s.2) ∧ ∀ (e : Addr) (H' : Hp), Same H H' → EffV K C H' e (effM ss) → Q (.ref e) H'
theorem scEo : FnScope ["steps", "step"] ["steps"] (defScope sEffectOf) := ⟨rfl, rfl, rfl, by decide +kernel, rfl, by decide +kernel, by decide +kernel⟩
theorem has_effOf (D : Def K mg "effect_of" sEffectOf) (GC : Has P w K mg base "check_steps" 3 ["steps"] [] (spChkSteps K)) (GP : Has P w K mg base "parts_of_step" 1 ["step"] [] (spPart K)) (GJ : Has P w K mg base "joined" 7 ["parts"] [] (spJoin K C)) :
    Has P w K mg base "effect_of" 8 ["steps"] [] (spEffOf K C) := by
  refine has_of D scEo (fun _ _ _ _ _ _ us hl => match us, hl with | [_], _ => rfl) (fun xs H Q E h => ?_) (fun f cv A out s H xs Q E hr h => ?_)
  · obtain ⟨a, ys, ss, rfl, _⟩ := h
    rfl
  · obtain ⟨a, ys, ss, rfl, hS, hl, hV, hI, k⟩ := h
    have hr1 : Room 1 _ := hr.mono (by decide)
    have hr3 : Room 3 _ := hr.mono (by decide)
    have hln : ys.length = ss.length := hV.length
    refine ⟨_, pss_cons (ps_expr (pe_has GC hr3 (pa_cons (pv 0) pa_nil))) (pss_one (ps_ret (pe_has GJ hr (pa_cons
      (pe_lc (own := [("step", 1)]) (g := gName 1) (tt := tYes) (te := tCall (spPart K) [] E0 (tCons (tVar 1) tNil)) rfl scEo.nd (pi_list (pv 0)) (blkOk_by (own := [("step", 1)]) (N := ["steps", "step"]) (sc := defScope sEffectOf) (by decide +kernel))
        (fun _ _ _ _ _ => pg_name (i := 1) scEo.nd rfl (.inl rfl)) (fun _ _ _ _ _ => pts_nil) (fun _ _ _ _ _ => pe_has GP hr1 (pa_cons (pv 1) pa_nil))) pa_nil)))), ?_⟩
    refine ⟨_, rfl, a, ys, ss, rfl, .inl hS, hl, hV, hI, fun H1 s1 => ?_⟩
    refine ⟨_, rfl, a, rfl, ⟨_, Same.seq s1 hS⟩, fun D hD => lc_list (K := K) (a := a) (xs := ys) (fun j H2 => ∃ us, H2 D = some (.lst us) ∧ Paired (PrtV K H2) us ((ss.take j).map partM) ∧ Same H1 H2) ⟨[], upd_same, .nil, Same.new hD⟩ (fun j H2 _ q => ?_) ?_ ?_⟩
    · obtain ⟨_, _, _, s2⟩ := q
      exact Same.seq (s1.trans s2) hS
    · rintro j x H2 hx ⟨us, hu, hP, s2⟩
      obtain ⟨st, h1, h2⟩ := StepsV.at hV hx
      refine ⟨rfl, yes_in ⟨_, rfl, x, st, rfl, h2.same (s1.trans s2), fun u H3 s3 hp => ⟨us, s3 _ _ hu, ?_, us ++ [u], upd_same, ?_, ?_⟩⟩⟩
      · have l2 := paired_len hP
        rw [List.length_map, List.length_take] at l2
        rw [sizeLine_eq]
        omega
      · have e1 : (ss.take (j + 1)).map partM = (ss.take j).map partM ++ [partM st] := by
          rw [List.take_add_one, h1, List.map_append]
          rfl
        rw [e1]
        have hu3 := s3 _ _ hu
        exact Paired.snoc2 (Paired.mapP hP fun v B q => (q.same s3).updL hu3) (hp.updL hu3)
      · exact Same.free2 (s2.trans s3) hD
    · rintro H2 ⟨us, hu, hP, s2⟩
      rw [hln, List.take_length] at hP
      refine ⟨D, us, ss.map partM, rfl, .of hu, hP, fun Bp m => ?_, ?_, fun e H3 s3 he => k e H3 ((s1.trans s2).trans s3) he⟩
      · obtain ⟨st, ms, rfl⟩ := List.mem_map.mp m
        exact partM_ok (hI st ms)
      · rw [szP_steps]
        omega
end
end SE
/-! == and != by an own __eq__, whatever it answers; repr by an own __repr__. -/
namespace SE
open PySem PySem.Spec PyProof.Rows L2
section
variable {prog : Program} {w : World} {A : Around} {E : Value → Shared → Prop} {s : Shared} {K : PySem.W.Frag} {x y C f : Addr} {ox oy : Obj} {od oe : Option Obj} {Q : Value → Shared → Prop}
/-- a special method that is a built-in's slot -/
theorem bound_slot {M : Model} {name : Str} {id : String} {args : List Value} {R : Option Value → Shared → Prop} (X : K.In s.heap) (I : PySem.W.InstAt s.heap x ox C od) (hs : PySem.W.findIn K (.ref C) name = some (some (.builtin id)))
    (hb : ∀ v, bindSpecial (.builtin id) v = pure (.builtin id, [v])) (h : wpAny M A (call (.builtin id) (.ref x :: args)) (fun v => R (some v)) E s) : wpAny M A (callSpecialIfBound? (.ref x) name args) R E s := by
  simp only [callSpecialIfBound?, bindSpecialIfBound?]
  refine wpAny_holding (wpAny_bind (wpAny_bind (wpAny_bind (I.type.here ((PySem.W.looks_findIn X hs).here (wpAny_bind (wpAny_askSetting (wpAny_ite ?_))))))))
  have last : wpAny M A (call (.builtin id) ([.ref x] ++ args) >>= fun v => pure (some v)) R E s := wpAny_bind (wpAny_mono h (fun v s2 z => wpAny_pure z) fun _ _ z => z)
  split
  · exact wpAny_bind ((PySem.W.Looks.of_pure (hb _)).here (wpAny_pure (by exact last)))
  · exact wpAny_tryCatch (wpAny_bind ((PySem.W.Looks.of_pure (hb _)).here (wpAny_pure (by exact last))))
open Builtin in
theorem ne_call {v : Value} (hu : A.in1.units < cLine) (X : K.In s.heap) (I : PySem.W.InstAt s.heap x ox C od) (hm : PySem.W.mroIn K C (.type "object") = some true) (hs : PySem.W.findIn K (.ref C) "__eq__" = some (some (.ref f))) (hf : PySem.W.isFn K (.ref f) = true)
    (h : wpAny (model prog w) A.in1 (call (.ref f) [.ref x, v]) (fun r s2 => ∃ b, r = .bool b ∧ Q (.bool (!b)) s2) E s) : wpAny (model prog w) A (call (.builtin "object.__ne__") [.ref x, v]) Q E s := by
  refine wpAny_call (codeAny_call_builtin PySem.F.cmp_object.ne.plain PySem.F.cmpEntry_ne (PySem.W.check_slot PySem.F.cmpKind_ne PySem.F.cmpSplit_ne (I.type.andThen (PySem.W.looks_mroIn X hm)) (PySem.F.cmpArgs_ne _ _) ?_))
  unfold Builtin.«object.__ne__»
  refine wpAny_bind (m := slotArgs "__ne__" 1 _) (wpAny_pure ?_)
  refine wpAny_bind (m := cRoomFor _ _) (wpAny_cRoomFor hu ?_)
  refine wpAny_bind (m := callSpecialIfBound? (.ref x) (Str.ofString "__eq__") _) (PySem.W.ifBound_K X I hs hf (wpAny_mono h (fun r s2 z => ?_) fun _ _ z => z))
  obtain ⟨b, rfl, q⟩ := z
  exact wpAny_bind (wpAny_truthy_bool (wpAny_pure q))
theorem ne_inst (hu : A.units + 1 < cLine) (X : K.In s.heap) (I : PySem.W.InstAt s.heap x ox C od) (J : PySem.W.InstAt s.heap y oy C oe) (hm : PySem.W.mroIn K C (.type "object") = some true)
    (hn : PySem.W.findIn K (.ref C) "__ne__" = some (some (.builtin "object.__ne__"))) (hs : PySem.W.findIn K (.ref C) "__eq__" = some (some (.ref f))) (hf : PySem.W.isFn K (.ref f) = true)
    (h : wpAny (model prog w) A.in1 (call (.ref f) [.ref x, .ref y]) (fun r s2 => ∃ b, r = .bool b ∧ Q (.bool (!b)) s2) E s) : wpAny (model prog w) A (richCompare .NotEq (.ref x) (.ref y)) Q E s := by
  have one : wpAny (model prog w) A (tryCompare (.ref x) (cmpInfo .NotEq).2.1 (.ref y)) (fun r s2 => ∃ v, r = some v ∧ Q v s2) E s := by
    unfold tryCompare
    refine wpAny_bind (bound_slot X I hn PySem.F.cmp_object.ne.bind (ne_call hu X I hm hs hf (wpAny_mono h (fun v s2 z => ?_) fun _ _ z => z)))
    obtain ⟨b, rfl, q⟩ := z
    exact ⟨b, rfl, wpAny_pure ⟨_, rfl, q⟩⟩
  unfold richCompare
  simp only [oneThing_ref]
  refine wpAny_holding (wpAny_bind (wpAny_cRoomFor (Nat.lt_of_succ_lt hu) (wpAny_bind (I.type.here (wpAny_bind (J.type.here ?_))))))
  rw [show (Value.ref C != Value.ref C) = false by simp]
  simp only [Bool.false_eq_true, if_false]
  refine wpAny_bind (wpAny_pure ?_)
  simp only [Bool.false_eq_true, if_false]
  refine wpAny_bind (wpAny_mono one (fun r s2 z => ?_) fun _ _ z => z)
  obtain ⟨v, rfl, q⟩ := z
  exact wpAny_pure q
end
/-! ### the rules -/
/-- what an own == promises -/
def spEqB (R : Addr → Addr → Bool → Hp → Prop) : Sp := fun vs H Q _ => ∃ (a b : Addr) (c : Bool), vs = [.ref a, .ref b] ∧ R a b c H ∧ ∀ H', Same H H' → Q (.bl c) H'
def rCmp (C : Addr) (R : Addr → Addr → Bool → Hp → Prop) (neg : Bool) : R2 := fun x y H Q => ∃ (a b : Addr) (c : Bool) (dx dy : Addr) (fs gs : List (Str × V)), x = .ref a ∧ y = .ref b ∧ H a = some (.ins C dx fs) ∧ H b = some (.ins C dy gs) ∧ R a b c H ∧ ∀ H', Same H H' → Q (.bl (c != neg)) H'
section
variable {X : Cx} {n : Nat} {C f : Addr} {fd : FuncData} {ps : List Str} {R : Addr → Addr → Bool → Hp → Prop}
theorem op_eqE (F : FnOk X.prog X.w X.K X.mg X.base CX0 n f fd ps (spEqB R)) (hs : PySem.W.findIn X.K (.ref C) "__eq__" = some (some (.ref f))) (hf : PySem.W.isFn X.K (.ref f) = true) (hb : Binds X.K fd ps []) (hr : Room n X.A) : OpR X (compareOp .Eq) (rCmp C R false) := by
  intro pins s σ H x y u v Q I rx ry hq
  obtain ⟨a, b, c, dx, dy, fs, gs, rfl, rfl, ha, hb2, hR, k⟩ := hq
  cases rx
  cases ry
  obtain ⟨mA, J, _⟩ := ins_get I.hok ha
  obtain ⟨mB, J2, _⟩ := ins_get I.hok hb2
  obtain ⟨od, J, _⟩ := J.look
  obtain ⟨oe, J2, _⟩ := J2.look
  obtain ⟨m, hF⟩ := I.fr
  show wpAny (model X.prog X.w) X.A (richCompare .Eq (.ref a) (.ref b)) (EP X pins σ Q) X.xe s
  refine PySem.W.cmp_K (op := .Eq) (tb := .ref C) hr.units0 hF I.ok.mod.kin J J2.type (by simp [PySem.W.notFirst]) hs hf ?_
  have hsp : spEqB R [.ref a, .ref b] H (fun z H' => z = .bl c ∧ Same H H') (fun _ _ _ => False) := ⟨a, b, c, rfl, hR, fun H' e => ⟨rfl, e⟩⟩
  have hl := F.len _ _ _ _ hsp
  refine wpAny_call (codeAny_mono (F.run X.A X.stack s H ⟨[.ref a, .ref b], []⟩ [.ref a, .ref b] [.ref a, .ref b] _ _ hr I.env0 (by simpa using hb s [.ref a, .ref b] I.kIn (by simpa using hl)) (.cons rfl (.cons rfl .nil)) hsp) fun r s2 hq => ?_)
  cases r with
  | error e => exact hq.elim
  | ok fl =>
    cases fl with
    | ret z =>
      obtain ⟨y, H2, I2, rz, ez, ex⟩ := I.after hq
      subst ez
      cases rz
      refine ⟨.bl c, H2, I2, rfl, ?_⟩
      have q := k H2 ex
      rw [show (c != false) = c by cases c <;> rfl] at q
      exact q
    | next => exact hq.elim
    | brk => exact hq.elim
    | cont => exact hq.elim
theorem op_neE (F : FnOk X.prog X.w X.K X.mg X.base CX0 n f fd ps (spEqB R)) (hs : PySem.W.findIn X.K (.ref C) "__eq__" = some (some (.ref f))) (hf : PySem.W.isFn X.K (.ref f) = true) (hb : Binds X.K fd ps []) (hm : PySem.W.mroIn X.K C (.type "object") = some true)
    (hn : PySem.W.findIn X.K (.ref C) "__ne__" = some (some (.builtin "object.__ne__"))) (hr : Room (n + 1) X.A) : OpR X (compareOp .NotEq) (rCmp C R true) := by
  intro pins s σ H x y u v Q I rx ry hq
  obtain ⟨a, b, c, dx, dy, fs, gs, rfl, rfl, ha, hb2, hR, k⟩ := hq
  cases rx
  cases ry
  obtain ⟨mA, J, _⟩ := ins_get I.hok ha
  obtain ⟨mB, J2, _⟩ := ins_get I.hok hb2
  obtain ⟨od, J, _⟩ := J.look
  obtain ⟨oe, J2, _⟩ := J2.look
  show wpAny (model X.prog X.w) X.A (richCompare .NotEq (.ref a) (.ref b)) (EP X pins σ Q) X.xe s
  refine ne_inst (by have := hr.in1.units0; exact this) I.kIn J J2 hm hn hs hf ?_
  have hsp : spEqB R [.ref a, .ref b] H (fun z H' => z = .bl c ∧ Same H H') (fun _ _ _ => False) := ⟨a, b, c, rfl, hR, fun H' e => ⟨rfl, e⟩⟩
  have hl := F.len _ _ _ _ hsp
  refine wpAny_call (codeAny_mono (F.run X.A.in1 X.stack s H ⟨[.ref a, .ref b], []⟩ [.ref a, .ref b] [.ref a, .ref b] _ _ hr.in1 I.env0.in1 (by simpa using hb s [.ref a, .ref b] I.kIn (by simpa using hl)) (.cons rfl (.cons rfl .nil)) hsp) fun r s2 hq => ?_)
  cases r with
  | error e => exact hq.elim
  | ok fl =>
    cases fl with
    | ret z =>
      obtain ⟨y, H2, I2, rz, ez, ex⟩ := I.after hq
      subst ez
      cases rz
      refine ⟨c, rfl, .bl (!c), H2, I2, rfl, ?_⟩
      have q := k H2 ex
      rw [show (c != true) = !c by cases c <;> rfl] at q
      exact q
    | next => exact hq.elim
    | brk => exact hq.elim
    | cont => exact hq.elim
/-- repr(o), an own __repr__ -/
theorem call_reprE {sp : Sp} (F : GOk X.prog X.w X.K X.mg X.base n f fd ["self"] sp) (hs : PySem.W.findIn X.K (.ref C) "__repr__" = some (some (.ref f))) (hf : PySem.W.isFn X.K (.ref f) = true) (hb : Binds X.K fd ["self"] []) (hgu : X.A.guards = some []) (hr : Room (n + 1) X.A) :
    CallR X (.builtin "repr") (fun xs H Q => ∃ (a dx : Addr) (fs : List (Str × V)), xs = [.ref a] ∧ H a = some (.ins C dx fs) ∧ sp [.ref a] H (fun v H' => ∃ z, v = .str z ∧ Q (.str z) H') (fun _ _ _ => False)) := by
  intro pins s σ H xs us Q I r h
  obtain ⟨a, dx, fs, rfl, ha, hsp⟩ := h
  cases r with
  | cons r1 r2 =>
    cases r2
    cases r1
    obtain ⟨mA, J, _⟩ := ins_get I.hok ha
    obtain ⟨od, J, _⟩ := J.look
    obtain ⟨m, hF⟩ := I.fr
    refine PySem.W.repr_K hr.in1.units0 hF I.ok.mod.kin J hs hf ?_
    refine wpAny_call (codeAny_mono (F.run X.A.in1 X.stack s H ⟨[.ref a], []⟩ [.ref a] [.ref a] _ _ hgu hr.in1 I.env0.in1 (by simpa using hb s [.ref a] I.kIn rfl) (.cons rfl .nil) hsp) fun r s2 hq => ?_)
    cases r with
    | error e => exact hq.elim
    | ok fl =>
      cases fl with
      | ret z =>
        obtain ⟨y, H2, I2, rz, t, ez, q⟩ := I.after hq
        subst ez
        obtain ⟨tk, rfl⟩ := rz
        exact ⟨.str t, H2, I2, ⟨_, rfl⟩, q⟩
      | next => exact hq.elim
      | brk => exact hq.elim
      | cont => exact hq.elim
/-- {x!r}, x plain data -/
def tFmtT (K : PySem.W.Frag) (te : TE) : TE := fun σ H Q => te σ H fun x H1 => ∃ (a : Addr) (d : PyData), x = .ref a ∧ Dp K H1 x d ∧ d.showable = true ∧ d.hasDict = false ∧ d.depth ≤ 20 ∧ d.shown.length ≤ sizeLine ∧ Q (.str d.shown) H1
theorem pe_fmtT {e : Expr} {te : TE} {pos : Pos} (hgu : X.A.guards = some []) (hu : X.A.units + 64 < cLine) (he : PE X e te) : PE X (.FormattedValue e 114 none pos) (tFmtT X.K te) := by
  constructor
  intro pins s σ H Q I h
  refine wpAny_FormattedValue_repr (thn (he.run pins s σ H _ I h) fun v s1 hv => ?_)
  obtain ⟨x, H1, I1, r1, a, d, rfl, hd, hs, hn, hdep, hz, q⟩ := hv
  cases r1
  obtain ⟨as, rd⟩ := Dp.reads I1 d (.ref a) (.ref a) hd rfl
  refine pyReprObj_of_reads rd hs (PyData.noDict_hsm hn) hgu (by omega) (fun _ _ z => z) (fun h2 u tk keep => ?_) hz
  have I2 := I1.kept (t' := tk) keep
  exact wpAny_formatField_str ⟨.str d.shown, H1, I2, ⟨u, rfl⟩, q⟩ ⟨.str d.shown, H1, I2.tok _, ⟨_, rfl⟩, q⟩ hz
end
theorem Nice.shownLe {k B : Nat} {d : PyData} (h : Nice k B d) : d.shown.length ≤ 15 * B + 13 := by
  have q := PyData.shown_le 13 (by decide) d (PyData.leavesShort_of_canLay0 13 d h.lay h.ish)
  have := h.wt
  omega
end SE
namespace SE
open PySem PySem.Spec PyProof.Rows L2
abbrev sEq : Stmt := inClass sEffect 13
abbrev sRepr : Stmt := inClass sEffect 14
/-- what isinstance asks of the class -/
structure EI (K : PySem.W.Frag) (C : Addr) : Prop where
  ha : PySem.W.findIn K (.ref C) "__class__" = some (some (.builtin "object.__class__"))
  hn : PySem.W.specialIn K (.builtin "object.__class__") "__get__" = some (some (.builtin "getset_descriptor.__get__"))
  ht : PySem.W.takesIn K (.builtin "object.__class__") = some true
  hm : PySem.W.mroIn K C (.type "object") = some true
  ki : PySem.W.kitOne K (.ref C) (.ref C) = some true
/-- the parts of an effect as data -/
def dN : Eff → PyData
  | none => .none
  | some (xs, _, _) => .tuple (xs.map .str)
def dL : Eff → PyData
  | none => .none
  | some (_, ys, _) => .tuple (ys.map .str)
def dH : Eff → PyData
  | none => .none
  | some (_, _, p) => .int p
/-- an effect whose words are of items -/
def EffOk : Eff → Prop
  | none => True
  | some (xs, ys, p) => (∀ z ∈ xs, Item z) ∧ (∀ z ∈ ys, Item z) ∧ xs.length ≤ 1000 ∧ ys.length ≤ 1000 ∧ 0 ≤ p ∧ p ≤ 100000
theorem eff_eqv (a b : Eff) : (PyData.eqv (dN a) (dN b) && (PyData.eqv (dL a) (dL b) && PyData.eqv (dH a) (dH b))) = decide (a = b) := by
  cases a with
  | none =>
    cases b with
    | none => simp [dN, dL, dH, PyData.eqv]
    | some b =>
      obtain ⟨x, y, p⟩ := b
      simp [dN, dL, dH, PyData.eqv]
  | some a =>
    obtain ⟨x, y, p⟩ := a
    cases b with
    | none => simp [dN, dL, dH, PyData.eqv]
    | some b =>
      obtain ⟨x2, y2, p2⟩ := b
      show (PyData.eqv (.tuple (x.map .str)) (.tuple (x2.map .str)) && (PyData.eqv (.tuple (y.map .str)) (.tuple (y2.map .str)) && PyData.eqv (.int p) (.int p2))) = _
      rw [eqv_tupS, eqv_tupS]
      have e : PyData.eqv (.int p) (.int p2) = decide (p = p2) := by
        unfold PyData.eqv
        by_cases c : p = p2
        · subst c
          simp
        · simp [c]
      rw [e]
      by_cases c1 : x = x2 <;> by_cases c2 : y = y2 <;> by_cases c3 : p = p2 <;> simp [c1, c2, c3]
def shownE : Eff → Str
  | none => "Effect.never()"
  | some (xs, ys, p) => Str.empty ++ "Effect(" ++ (PyData.tuple (xs.map .str)).shown ++ ", " ++ (PyData.tuple (ys.map .str)).shown ++ ", peak=" ++ toString p ++ ")"
section
variable {P : Program} {w : World} {K : PySem.W.Frag} {mg : Str → Option Value} {base : Heap} {C : Addr}
theorem EffV.dp {H : Hp} {e : Addr} : ∀ {o : Eff}, EffV K C H e o → ∃ dx u v p, H e = some (.ins C dx (eF u v p)) ∧ Dp K H u (dN o) ∧ Dp K H v (dL o) ∧ Dp K H p (dH o)
  | none, h => by
    obtain ⟨dx, h1⟩ := NevAt.ex h
    exact ⟨dx, _, _, _, h1, .non, .non, .non⟩
  | some (_, _, _), h => by
    obtain ⟨dx, u, v, h1, h2, h3⟩ := EffAt.ex h
    exact ⟨dx, _, _, _, h1, .tup h2 (dp_strs _), .tup h3 (dp_strs _), .int _⟩
theorem EffOk.shaped : ∀ {o : Eff}, EffOk o → SeqAt.shaped (dN o) = true ∧ SeqAt.shaped (dL o) = true ∧ SeqAt.shaped (dH o) = true
  | none, _ => ⟨rfl, rfl, rfl⟩
  | some (_, _, _), h => ⟨(nice_tuple (nice_strs h.1)).shaped (by decide), (nice_tuple (nice_strs h.2.1)).shaped (by decide), rfl⟩
/-! ### __eq__ -/
def rEff (K : PySem.W.Frag) (C : Addr) (a b : Addr) (c : Bool) (H : Hp) : Prop := ∃ o1 o2, EffV K C H a o1 ∧ EffV K C H b o2 ∧ EffOk o1 ∧ EffOk o2 ∧ c = decide (o1 = o2)
theorem scEq : FnScope ["self", "other"] ["self", "other"] (defScope sEq) := ⟨rfl, rfl, rfl, by decide +kernel, rfl, by decide +kernel, by decide +kernel⟩
theorem ok_eq {f : Addr} {fd : FuncData} (F : Fun K "__eq__" "Effect.__eq__" sEq f fd) (T : EC K mg C) (TI : EI K C) (B : Blt mg) : FnOk P w K mg base CX0 1 f fd ["self", "other"] (spEqB (rEff K C)) := by
  refine F.ok scEq (fun vs H Q E h => ?_) (fun cdv A outer s H vs Q E hr h => ?_)
  · obtain ⟨a, b, c, rfl, _⟩ := h
    rfl
  · obtain ⟨a, b, c, rfl, ⟨o1, o2, h1, h2, k1, k2, rfl⟩, k⟩ := h
    obtain ⟨dx, u, v, p, i1, d1, d2, d3⟩ := h1.dp
    obtain ⟨dy, u2, v2, p2, i2, g1, g2, g3⟩ := h2.dp
    obtain ⟨s1, s2, s3⟩ := k1.shaped
    obtain ⟨t1, t2, t3⟩ := k2.shaped
    refine ⟨_, pss_one (ps_ret (pe_and (pe_callB call_isi (by rfl) B.isi (by decide +kernel) (pa_cons (pv 1) (pa_cons (pe_glob (v := .ref C) rfl T.mgE rfl) pa_nil)))
      (pe_and (pe_cmpR (op_eqD hr.units) (pe_fld (pv 0) rfl) (pe_fld (pv 1) rfl) (nomark _)) (pe_and (pe_cmpR (op_eqD hr.units) (pe_fld (pv 0) rfl) (pe_fld (pv 1) rfl) (nomark _)) (pe_one (pe_cmpR (op_eqD hr.units) (pe_fld (pv 0) rfl) (pe_fld (pv 1) rfl) (nomark _))))))), ?_⟩
    have fin := k H (Same.refl H)
    rw [← eff_eqv] at fin
    refine ⟨_, rfl, _, .ref C, .ref C, .ref C, true, rfl, .own C, .base (.ins i2 T.cl TI.ha TI.hn TI.ht TI.hm), TI.ki, true, rfl, iteT ?_⟩
    refine ⟨_, rfl, a, C, dx, _, _, rfl, i1, T.cl, T.nN, eF_needs _ _ _, _, rfl, b, C, dy, _, _, rfl, i2, T.cl, T.nN, eF_needs _ _ _, dN o1, dN o2, d1, g1, s1, t1, _, rfl, ?_⟩
    cases e1 : PyData.eqv (dN o1) (dN o2) with
    | false =>
      rw [e1, Bool.false_and] at fin
      exact iteF fin
    | true =>
      rw [e1, Bool.true_and] at fin
      refine iteT ⟨_, rfl, a, C, dx, _, _, rfl, i1, T.cl, T.nL, eF_leaves _ _ _, _, rfl, b, C, dy, _, _, rfl, i2, T.cl, T.nL, eF_leaves _ _ _, dL o1, dL o2, d2, g2, s2, t2, _, rfl, ?_⟩
      cases e2 : PyData.eqv (dL o1) (dL o2) with
      | false =>
        rw [e2, Bool.false_and] at fin
        exact iteF fin
      | true =>
        rw [e2, Bool.true_and] at fin
        exact iteT ⟨_, rfl, a, C, dx, _, _, rfl, i1, T.cl, T.nH, eF_high _ _ _, _, rfl, b, C, dy, _, _, rfl, i2, T.cl, T.nH, eF_high _ _ _, dH o1, dH o2, d3, g3, s3, t3, fin⟩
/-! ### __repr__ -/
def spRepr (K : PySem.W.Frag) (C : Addr) : Sp := fun vs H Q _ => ∃ (e : Addr) (o : Eff), vs = [.ref e] ∧ EffV K C H e o ∧ EffOk o ∧ Q (.str (shownE o)) H
theorem scRp : FnScope ["self"] ["self"] (defScope sRepr) := ⟨rfl, rfl, rfl, by decide +kernel, rfl, by decide +kernel, by decide +kernel⟩
theorem ok_repr {f : Addr} {fd : FuncData} (F : Fun K "__repr__" "Effect.__repr__" sRepr f fd) (T : EC K mg C) : GOk P w K mg base 1 f fd ["self"] (spRepr K C) := by
  obtain ⟨oc, od, kV, doc, pm, an, cv, ct, osl, rfl, look, hcode⟩ := F.ex
  refine gok_of look hcode scRp (fun vs H Q E h => ?_) (fun A out s H vs Q E hgu hr h => ?_)
  · obtain ⟨e, o, rfl, _⟩ := h
    rfl
  · obtain ⟨e, o, rfl, h, ok, k⟩ := h
    have body : ∃ t, PSs (cxOf CX0 P w K mg base ["self"] "Effect.__repr__" (defScope sRepr) f cv A out s H E).nox (defBody sRepr) t ∧ t { nx := fun _ H2 => Q .non H2, rt := Q } (start ["self"] [.ref e]) H := by
      refine ⟨_, pss_cons (ps_if (pt_cmpR op_isN (pe_fld (pv 0) rfl) pe_non (nomark _)) (pss_one (ps_ret pe_str)) pss_nil)
        (pss_one (ps_ret (pe_joined (.cons pe_str (.cons (pe_fmtT hgu hr.units (pe_fld (pv 0) rfl)) (.cons pe_str (.cons (pe_fmtT hgu hr.units (pe_fld (pv 0) rfl)) (.cons pe_str (.cons (pe_fmtR (pe_fld (pv 0) rfl)) (.cons pe_str .nil)))))))))), ?_⟩
      cases o with
      | none =>
        obtain ⟨dx, h1⟩ := NevAt.ex h
        exact ⟨_, rfl, e, C, dx, _, _, rfl, h1, T.cl, T.nN, eF_needs _ _ _, rfl, true, rfl, iteT k⟩
      | some o =>
        obtain ⟨xs, ys, p⟩ := o
        obtain ⟨dx, u, v, h1, h2, h3⟩ := EffAt.ex h
        obtain ⟨i1, i2, l1, l2, p0, p1⟩ := ok
        have n1 := nice_tuple (nice_strs i1)
        have n2 := nice_tuple (nice_strs i2)
        have z1 := n1.shownLe
        have z2 := n2.shownLe
        rw [List.length_map] at z1 z2
        have tl : (toString p : Str).length ≤ 13 := by
          have := PyData.shown_int_le (i := p) (by omega)
          exact this
        have big : ∀ m : Nat, m ≤ 400000 → m ≤ sizeLine := fun m hm => by
          rw [sizeLine_eq]
          omega
        have w0 : (Str.empty : Str).length = 0 := by decide +kernel
        have w1 : ("Effect(" : Str).length = 7 := by decide +kernel
        have w2 : (", " : Str).length = 2 := by decide +kernel
        have w3 : (", peak=" : Str).length = 7 := by decide +kernel
        have w4 : (")" : Str).length = 1 := by decide +kernel
        have lg : p.natAbs.log2 < 1920 := PySem.Flt.log2_lt_of (by decide) (Nat.lt_of_lt_of_le (show p.natAbs < 2 ^ 17 by show _ < 131072; omega) (Nat.pow_le_pow_right (by decide) (by decide)))
        refine ⟨_, rfl, e, C, dx, _, _, rfl, h1, T.cl, T.nN, eF_needs _ _ _, rfl, false, rfl, iteF ?_⟩
        refine ⟨_, rfl, big _ ?_, _, rfl, e, C, dx, _, _, rfl, h1, T.cl, T.nN, eF_needs _ _ _, u, _, rfl, .tup h2 (dp_strs xs), n1.sh, n1.nd, Nat.le_trans n1.dep (by decide), big _ (by omega), _, rfl, big _ ?_, _, rfl, big _ ?_, _, rfl, e, C, dx, _, _, rfl, h1, T.cl, T.nL, eF_leaves _ _ _, v, _, rfl, .tup h3 (dp_strs ys), n2.sh, n2.nd, Nat.le_trans n2.dep (by decide), big _ (by omega), _, rfl, big _ ?_, _, rfl, big _ ?_, _, rfl, e, C, dx, _, _, rfl, h1, T.cl, T.nH, eF_high _ _ _, .inr ⟨p, rfl, lg, _, rfl, big _ ?_, _, rfl, big _ ?_, k⟩⟩
        all_goals (simp only [len_add, w0, w1, w2, w3, w4]; omega)
    obtain ⟨t, a, b⟩ := body
    exact ⟨t, a.nox, b⟩
end
end SE
namespace SE
open PySem PySem.Spec PyProof.Rows L2
/-! ### the effect of a repeated sequence -/
def cw : List Str → List Str → Option (List Str × List Str)
  | [], R => some (R, [])
  | a :: P, [] => some ([], a :: P)
  | a :: P, b :: R => if a = b then cw P R else none
def mx (a b : Int) : Int := if b > a then b else a
def hg (A : Prt) : Int := (A.2.1.length : Int) - (A.1.length : Int)
theorem cw_nil (P : List Str) : cw P [] = some ([], P) := by
  cases P <;> rfl
theorem cw_eq : ∀ P R : List Str, cw P R = if P.take (min P.length R.length) = R.take (min P.length R.length) then some (R.drop (min P.length R.length), P.drop (min P.length R.length)) else none
  | [], R => by simp [cw]
  | a :: P, [] => by simp [cw]
  | a :: P, b :: R => by
    have ih := cw_eq P R
    unfold cw
    have e : min (a :: P).length (b :: R).length = min P.length R.length + 1 := by
      rw [List.length_cons, List.length_cons]
      omega
    rw [e, List.take_succ_cons, List.take_succ_cons, List.drop_succ_cons, List.drop_succ_cons]
    by_cases c : a = b
    · subst c
      rw [if_pos rfl, ih]
      simp
    · rw [if_neg c, if_neg (fun z => c (List.cons.inj z).1)]
theorem comp_cw (A B : Prt) : comp A B = (cw A.2.1 B.1).map fun z => (A.1 ++ z.1, B.2.1 ++ z.2, mx A.2.2 (hg A + B.2.2)) := by
  unfold comp
  rw [cw_eq]
  split
  · rfl
  · rfl
theorem assoc1 (A E : Prt) (s : Stp) : ((comp A (partM s)).bind fun D => comp D E) = (comp (partM s) E).bind (comp A) := by
  obtain ⟨x, y, p⟩ := A
  obtain ⟨u, v, q⟩ := E
  obtain ⟨b, z⟩ := s
  cases b with
  | true =>
    have e1 : partM (true, z) = ([], [z], 1) := rfl
    rw [e1]
    simp only [comp_cw, cw_nil, Option.map_some, Option.bind_some]
    cases u with
    | nil =>
      simp only [comp_cw, cw_nil, Option.map_some, Option.bind_some, hg, List.append_nil, List.nil_append]
      refine congrArg some (Prod.ext rfl (Prod.ext (by simp) ?_))
      simp only [List.length_append, List.length_cons, List.length_nil, mx]
      grind
    | cons t r =>
      simp only [cw]
      by_cases c : z = t
      · subst c
        simp only [List.cons_append, List.nil_append, cw, if_true, Option.map_some, Option.bind_some, List.append_nil, comp_cw]
        cases cw y r with
        | none => rfl
        | some g =>
          simp only [Option.map_some, hg]
          refine congrArg some (Prod.ext rfl (Prod.ext rfl ?_))
          simp only [List.length_append, List.length_cons, List.length_nil, mx]
          grind
      · simp [cw, c]
  | false =>
    have e1 : partM (false, z) = ([z], [], 0) := rfl
    rw [e1]
    simp only [comp_cw, cw, Option.map_some, Option.bind_some, List.append_nil]
    cases y with
    | nil =>
      simp only [cw, Option.map_some, Option.bind_some, hg, List.append_nil]
      refine congrArg some (Prod.ext (by simp) (Prod.ext (by simp) ?_))
      simp only [List.length_append, List.length_cons, List.length_nil, mx]
      grind
    | cons t r =>
      simp only [List.cons_append, List.nil_append, cw, cw_nil]
      by_cases c : t = z
      · subst c
        simp only [if_true, Option.map_some, Option.bind_some, List.append_nil, List.nil_append]
        cases cw r u with
        | none => rfl
        | some g =>
          simp only [Option.map_some, hg]
          refine congrArg some (Prod.ext rfl (Prod.ext rfl ?_))
          simp only [List.length_append, List.length_cons, List.length_nil, mx]
          grind
      · simp [c]
theorem joinF_cons (A B : Prt) (r : List Prt) : joinF A (B :: r) = (comp A B).bind fun D => joinF D r := by
  rw [joinF]
  cases comp A B <;> rfl
theorem comp_one (s : Stp) : comp ([], [], 0) (partM s) = some (partM s) := by
  obtain ⟨b, z⟩ := s
  cases b <;> simp [comp_cw, partM, cw, hg, mx]
theorem cw_len : ∀ (P R : List Str) (z : List Str × List Str), cw P R = some z → (z.2.length : Int) - z.1.length = P.length - R.length
  | [], R, z, h => by
    cases h
    show ((0 : Nat) : Int) - R.length = ((0 : Nat) : Int) - R.length
    rfl
  | a :: P, [], z, h => by
    cases h
    rfl
  | a :: P, b :: R, z, h => by
    unfold cw at h
    split at h
    · have ih := cw_len P R z h
      rw [List.length_cons, List.length_cons]
      omega
    · cases h
theorem hg_comp {A B D : Prt} (h : comp A B = some D) : hg D = hg A + hg B := by
  rw [comp_cw] at h
  cases e : cw A.2.1 B.1 with
  | none =>
    rw [e] at h
    cases h
  | some z =>
    rw [e] at h
    cases h
    have := cw_len _ _ _ e
    unfold hg
    simp only [List.length_append]
    omega
theorem pk_comp {A B D : Prt} (h : comp A B = some D) : D.2.2 = mx A.2.2 (hg A + B.2.2) := by
  rw [comp_cw] at h
  cases e : cw A.2.1 B.1 with
  | none =>
    rw [e] at h
    cases h
  | some z =>
    rw [e] at h
    cases h
    rfl
theorem hgp (s : Stp) : hg (partM s) ≤ (partM s).2.2 ∧ 0 ≤ (partM s).2.2 ∧ (partM s).2.2 ≤ 1 := by
  obtain ⟨b, z⟩ := s
  cases b
  · exact ⟨(by show ((0 : Nat) : Int) - ((1 : Nat) : Int) ≤ 0; decide), (by show (0 : Int) ≤ 0; decide), (by show (0 : Int) ≤ 1; decide)⟩
  · exact ⟨(by show ((1 : Nat) : Int) - ((0 : Nat) : Int) ≤ 1; decide), (by show (0 : Int) ≤ 1; decide), (by show (1 : Int) ≤ 1; decide)⟩
theorem joinF_eff : ∀ (ss : List Stp) (A : Prt), hg A ≤ A.2.2 → joinF A (ss.map partM) = (effM ss).bind (comp A)
  | [], A, h => by
    obtain ⟨x, y, p⟩ := A
    show some (x, y, p) = comp (x, y, p) ([], [], 0)
    rw [comp_cw, cw_nil]
    simp only [Option.map_some, List.append_nil, List.nil_append]
    refine congrArg some (Prod.ext rfl (Prod.ext rfl ?_))
    have h' : hg (x, y, p) ≤ p := h
    simp only [mx]
    split <;> omega
  | s :: ss, A, h => by
    have ih := joinF_eff ss
    rw [List.map_cons, joinF_cons]
    have hs := hgp s
    have e : effM (s :: ss) = (effM ss).bind (comp (partM s)) := by
      rw [← ih _ hs.1]
      unfold effM joinM
      rw [List.map_cons, joinF_cons, comp_one, Option.bind_some]
    rw [e]
    have e2 : ((comp A (partM s)).bind fun D => joinF D (ss.map partM)) = (comp A (partM s)).bind fun D => (effM ss).bind (comp D) := by
      cases q : comp A (partM s) with
      | none => rfl
      | some D =>
        rw [Option.bind_some, Option.bind_some]
        refine ih D ?_
        rw [hg_comp q, pk_comp q]
        unfold mx
        split <;> omega
    rw [e2]
    cases effM ss with
    | none =>
      simp only [Option.bind_none]
      cases comp A (partM s) <;> rfl
    | some E => exact assoc1 A E s
theorem joinF_app : ∀ (ps qs : List Prt) (A : Prt), joinF A (ps ++ qs) = (joinF A ps).bind fun D => joinF D qs
  | [], qs, A => rfl
  | B :: ps, qs, A => by
    rw [List.cons_append, joinF_cons, joinF_cons]
    cases comp A B with
    | none => rfl
    | some D =>
      rw [Option.bind_some, Option.bind_some]
      exact joinF_app ps qs D
/-- what the effect of a sequence keeps to -/
theorem joinF_ok : ∀ (ss : List Stp) (A D : Prt), PrtOk A → (∀ s ∈ ss, Item s.2) → joinF A (ss.map partM) = some D → PrtOk D ∧ D.1.length + D.2.1.length ≤ A.1.length + A.2.1.length + ss.length ∧ D.2.2 ≤ A.2.2 + ss.length
  | [], A, D, h, _, e => by
    cases e
    refine ⟨h, by simp, by simp⟩
  | s :: ss, A, D, h, hI, e => by
    rw [List.map_cons, joinF_cons] at e
    cases q : comp A (partM s) with
    | none =>
      rw [q] at e
      cases e
    | some B =>
      rw [q, Option.bind_some] at e
      have ok := comp_ok h (partM_ok (hI s List.mem_cons_self)) q
      have ih := joinF_ok ss B D ok.1 (fun z m => hI z (List.mem_cons_of_mem _ m)) e
      have pk := pk_comp q
      have hs := hgp s
      have l1 : (partM s).1.length + (partM s).2.1.length = 1 := by
        unfold partM
        split <;> rfl
      have hh : hg A ≤ A.2.2 := h.h1
      refine ⟨ih.1, ?_, ?_⟩
      · rw [List.length_cons]
        omega
      · have i3 := ih.2.2
        rw [pk] at i3
        have : mx A.2.2 (hg A + (partM s).2.2) ≤ A.2.2 + 1 := by
          unfold mx
          split <;> omega
        rw [List.length_cons]
        omega
theorem effM_ok {ss : List Stp} {D : Prt} (hI : ∀ s ∈ ss, Item s.2) (h : effM ss = some D) : PrtOk D ∧ D.1.length + D.2.1.length ≤ ss.length ∧ D.2.2 ≤ ss.length := by
  have q := joinF_ok ss ([], [], 0) D ⟨fun z m => (by cases m), fun z m => (by cases m), Int.le_refl _, Int.le_refl _⟩ hI h
  refine ⟨q.1, ?_, ?_⟩
  · have := q.2.1
    simpa using this
  · have := q.2.2
    simpa using this
theorem effM_app {ss tt : List Stp} (hI : ∀ s ∈ ss, Item s.2) : effM (ss ++ tt) = (effM ss).bind fun A => (effM tt).bind (comp A) := by
  unfold effM joinM
  rw [List.map_append, joinF_app]
  cases q : joinF ([], [], 0) (ss.map partM) with
  | none => rfl
  | some A =>
    rw [Option.bind_some, Option.bind_some]
    exact joinF_eff tt A (effM_ok hI q).1.h1
theorem cw_self_left : ∀ (w r : List Str), cw w (w ++ r) = some (r, [])
  | [], r => rfl
  | a :: w, r => by
    rw [List.cons_append, cw, if_pos rfl]
    exact cw_self_left w r
theorem cw_self_right : ∀ (w r : List Str), cw (w ++ r) w = some ([], r)
  | [], r => cw_nil r
  | a :: w, r => by
    rw [List.cons_append, cw, if_pos rfl]
    exact cw_self_right w r
theorem effM_EffOk {ss : List Stp} (hI : ∀ s ∈ ss, Item s.2) (hl : ss.length ≤ 1000) : EffOk (effM ss) := by
  cases h : effM ss with
  | none => exact trivial
  | some o =>
    obtain ⟨x, y, p⟩ := o
    obtain ⟨a, b, c⟩ := effM_ok hI h
    have b' : x.length + y.length ≤ ss.length := b
    have c' : p ≤ ss.length := c
    exact ⟨a.i1, a.i2, by omega, by omega, a.h0, by omega⟩
end SE
namespace SE
open PySem PySem.Spec PyProof.Rows L2
section
variable {P : Program} {w : World} {K : PySem.W.Frag} {mg : Str → Option Value} {base : Heap} {C : Addr}
/-! ### _law_items -/
def nm10 : List Str := ["a", "b", "ab", "ba", "aa", "z", "top", "item", "x", "zzzzzzzz"]
theorem nm10_ok {z : Str} (h : z ∈ nm10) : Item z := by
  have q : ∀ y ∈ nm10, (decide (1 ≤ y.length) && decide (y.length ≤ 8) && y.cps.toList.all fun c => decide (97 ≤ c) && decide (c ≤ 122)) = true := by decide +kernel
  have e := q z h
  simp only [Bool.and_eq_true, decide_eq_true_eq, List.all_eq_true] at e
  exact ⟨e.1.1, e.1.2, e.2⟩
def spItems2 : Sp := fun xs H Q _ => ∃ (p : Addr) (n : Int), xs = [.ref p, .int n] ∧ Pool H p ∧ 0 ≤ n ∧ n ≤ 10 ∧
  ∀ (l : Addr) (zs : List Str) (H' : Hp), But p H H' → Pool H' p → H l = none → l ≠ p → H' l = some (.lst (zs.map V.str)) → zs.length = n.toNat → (∀ z ∈ zs, Item z) → Q (.ref l) H'
theorem scIt2 : FnScope ["_law_pool_here", "_law_many", "_law_names", "_law_at"] ["_law_pool_here", "_law_many"] (defScope sItems) := ⟨rfl, rfl, rfl, by decide +kernel, rfl, by decide +kernel, by decide +kernel⟩
theorem has_items2 (D : Def K mg "_law_items" sItems) (GT : Has P w K mg base "_law_take" 1 ["_law_pool_here", "_law_many"] [] spTake) : Has P w K mg base "_law_items" 2 ["_law_pool_here", "_law_many"] [] spItems2 := by
  refine has_of D scIt2 (fun _ _ _ _ _ _ us hl => match us, hl with | [_, _], _ => rfl) (fun xs H Q E h => ?_) (fun f cv A out s H xs Q E hr h => ?_)
  · obtain ⟨p, n, rfl, _⟩ := h
    rfl
  · obtain ⟨p, n, rfl, hp, h0, h1, k⟩ := h
    refine ⟨_, pss_cons (ps_set (i := 2) scIt2.nd rfl (.inl rfl) (pe_lst (pa_cons pe_str (pa_cons pe_str (pa_cons pe_str (pa_cons pe_str (pa_cons pe_str (pa_cons pe_str (pa_cons pe_str (pa_cons pe_str (pa_cons pe_str (pa_cons pe_str pa_nil))))))))))))
      (pss_cons (ps_set (i := 3) scIt2.nd rfl (.inl rfl) (pe_has GT hr (pa_cons (pv 0) (pa_cons pe_int pa_nil))))
      (pss_one (ps_ret (pe_slice sl_list (pe_op op_cat (pe_slice sl_list (pv 2) (po_some (pv 3)) po_none) (pe_slice sl_list (pv 2) po_none (po_some (pv 3)))) po_none (po_some (pv 1)))))), ?_⟩
    refine ⟨(by show 10 ≤ sizeLine; decide), fun a ha => ?_⟩
    have ap : a ≠ p := hp.free ha
    have e10 : (upd H a (.lst [V.str "a", .str "b", .str "ab", .str "ba", .str "aa", .str "z", .str "top", .str "item", .str "x", .str "zzzzzzzz"])) a = some (.lst (nm10.map V.str)) := upd_same
    have b0 : But p H (upd H a (.lst [V.str "a", .str "b", .str "ab", .str "ba", .str "aa", .str "z", .str "top", .str "item", .str "x", .str "zzzzzzzz"])) := .of (Same.new ha)
    have p0 : Pool (upd H a (.lst [V.str "a", .str "b", .str "ab", .str "ba", .str "aa", .str "z", .str "top", .str "item", .str "x", .str "zzzzzzzz"])) p := hp.upd ap
    generalize upd H a (.lst [V.str "a", .str "b", .str "ab", .str "ba", .str "aa", .str "z", .str "top", .str "item", .str "x", .str "zzzzzzzz"]) = H1 at e10 b0 p0 ⊢
    refine ⟨_, rfl, p, 10, rfl, p0, by decide, by decide, fun r H2 b2 p2 r0 r1 => ?_⟩
    have e2 := b2 _ _ ap e10
    refine ⟨_, rfl, _, rfl, r, rfl, a, _, rfl, .of e2, fun c hc => ?_⟩
    have s3 := Same.new (o := .lst (cutV (nm10.map V.str) (some r) none)) hc
    refine ⟨_, rfl, _, rfl, r, rfl, a, _, rfl, .of (s3 _ _ e2), fun d hd => ?_⟩
    have bb : But p H H2 := b0.trans b2
    have cp : c ≠ p := p2.free hc
    have nc : H c = none := bb.none cp hc
    have dp : d ≠ p := (p2.upd cp).free hd
    have nd : H d = none := (bb.free nc).none dp hd
    rw [cut_map, cut_map]
    have i1 : HT.sIx nm10.length 0 (some r) = r.toNat := by
      unfold HT.sIx
      dsimp only
      rw [if_neg (by omega)]
      exact Nat.min_eq_left (by show r.toNat ≤ 10; omega)
    have i2 : HT.sIx nm10.length nm10.length (some r) = r.toNat := by
      unfold HT.sIx
      dsimp only
      rw [if_neg (by omega)]
      exact Nat.min_eq_left (by show r.toNat ≤ 10; omega)
    have i3 : HT.sIx nm10.length 0 none = 0 := rfl
    have i4 : HT.sIx nm10.length nm10.length none = nm10.length := rfl
    rw [i1, i2, i3, i4]
    generalize hA : (nm10.drop r.toNat).take (nm10.length - r.toNat) = As
    generalize hB : (nm10.drop 0).take (r.toNat - 0) = Bs
    have lA : As.length = 10 - r.toNat := by
      rw [← hA, List.length_take, List.length_drop]
      show min (10 - r.toNat) (10 - r.toNat) = _
      omega
    have lB : Bs.length = r.toNat := by
      rw [← hB, List.length_take, List.length_drop]
      show min (r.toNat - 0) (10 - 0) = _
      omega
    refine ⟨c, d, As.map V.str, Bs.map V.str, rfl, rfl, ?_, upd_same, ?_, fun g hg => ?_⟩
    · rw [upd_ne (ne_of_none upd_same hd)]
      exact upd_same
    · rw [List.length_map, List.length_map, sizeLine_eq]
      omega
    refine ⟨_, rfl, n, rfl, g, _, rfl, .of upd_same, fun l hl => ?_⟩
    rw [← List.map_append, cut_map]
    have j1 : HT.sIx (As ++ Bs).length 0 none = 0 := rfl
    have j2 : HT.sIx (As ++ Bs).length (As ++ Bs).length (some n) = n.toNat := by
      unfold HT.sIx
      dsimp only
      rw [if_neg (by omega)]
      exact Nat.min_eq_left (by rw [List.length_append]; omega)
    rw [j1, j2, List.drop_zero, Nat.sub_zero]
    have f1 := bb.free (o := .lst (As.map V.str)) nc
    have f2 := f1.free (o := .lst (Bs.map V.str)) nd
    have gp : g ≠ p := ((p2.upd cp).upd dp).free hg
    have ng : H g = none := f2.none gp hg
    have f3 := f2.free (o := .lst ((As ++ Bs).map V.str)) ng
    have lp' : l ≠ p := (((p2.upd cp).upd dp).upd gp).free hl
    have nl : H l = none := (f2.free ng).none lp' hl
    refine k l ((As ++ Bs).take n.toNat) _ (f3.free nl) ((((p2.upd cp).upd dp).upd gp).upd lp') nl lp' upd_same ?_ fun z hz => ?_
    · rw [List.length_take, List.length_append]
      omega
    · rcases List.mem_append.mp (List.mem_of_mem_take hz) with q | q
      · rw [← hA] at q
        exact nm10_ok (cut_mem q)
      · rw [← hB] at q
        exact nm10_ok (cut_mem q)
end
end SE
/-! Plain data in which empty dicts may stand: its kinds, ==, in, and repr of every kind. -/
namespace SE
open PySem PySem.Spec PyProof.Rows L2
mutual
inductive DpX (K : PySem.W.Frag) (H : Hp) : V → PyData → Prop
  | non : DpX K H .non .none
  | bl (b : Bool) : DpX K H (.bl b) (.bool b)
  | int (i : Int) : DpX K H (.int i) (.int i)
  | str (x : Str) : DpX K H (.str x) (.str x)
  | lst {a : Addr} {xs : List V} {ds : List PyData} : SqL K H a xs → DpXs K H xs ds → DpX K H (.ref a) (.list ds)
  | tup {a : Addr} {xs : List V} {ds : List PyData} : SqT K H a xs → DpXs K H xs ds → DpX K H (.ref a) (.tuple ds)
  | emp {a : Addr} : H a = some (.dK []) → DpX K H (.ref a) (.dict [])
inductive DpXs (K : PySem.W.Frag) (H : Hp) : List V → List PyData → Prop
  | nil : DpXs K H [] []
  | cons {v : V} {vs : List V} {d : PyData} {ds : List PyData} : DpX K H v d → DpXs K H vs ds → DpXs K H (v :: vs) (d :: ds)
end
section
variable {K : PySem.W.Frag} {H H' : Hp}
mutual
theorem DpX.same (s : Same H H') : ∀ (d : PyData) (v : V), DpX K H v d → DpX K H' v d
  | .none, _, h => by cases h; exact .non
  | .bool b, _, h => by cases h; exact .bl b
  | .int i, _, h => by cases h; exact .int i
  | .str x, _, h => by cases h; exact .str x
  | .list ds, _, h => by
    cases h with
    | lst a b => exact .lst (Same.seq s a) (DpXs.same s ds _ b)
  | .tuple ds, _, h => by
    cases h with
    | tup a b => exact .tup (Same.tup s a) (DpXs.same s ds _ b)
  | .dict kvs, _, h => by
    cases h with
    | emp a => exact .emp (s _ _ a)
theorem DpXs.same (s : Same H H') : ∀ (ds : List PyData) (vs : List V), DpXs K H vs ds → DpXs K H' vs ds
  | [], _, h => by cases h; exact .nil
  | d :: ds, _, h => by
    cases h with
    | cons a b => exact .cons (DpX.same s d _ a) (DpXs.same s ds _ b)
end
theorem DpXs.at : ∀ {vs : List V} {ds : List PyData} {i : Nat} {v : V}, DpXs K H vs ds → vs[i]? = some v → ∃ d, ds[i]? = some d ∧ DpX K H v d
  | _, _, 0, v, .cons a b, h => by cases h; exact ⟨_, rfl, a⟩
  | _, _, i + 1, v, .cons a b, h => by
    obtain ⟨d, h1, h2⟩ := DpXs.at b h
    exact ⟨d, h1, h2⟩
theorem DpXs.len : ∀ {vs : List V} {ds : List PyData}, DpXs K H vs ds → vs.length = ds.length
  | _, _, .nil => rfl
  | _, _, .cons a b => by rw [List.length_cons, List.length_cons, DpXs.len b]
end
section
variable {X : Cx} {pins : List (Addr × Obj)} {σ : L2.St} {H : Hp} {s : Shared}
theorem emp_obj (I : Inv X pins σ H s) {a : Addr} (e : H a = some (.dK [])) : (a == sysModules) = false ∧ ∃ o n, s.heap.get? a = some o ∧ o.cls = .type "dict" ∧ o.data = .dict #[] n := by
  obtain ⟨_, hd, vs, rel, o, es, ep, h1, h2, h3, h4, h5, h6⟩ := dk_of I.hok e
  cases rel
  have : es = #[] := by
    have q : es.toList = [] := by
      cases hq : es.toList with
      | nil => rfl
      | cons x r => rw [hq] at h5; cases h5
    exact Array.toList_eq_nil_iff.mp q
  subst this
  exact ⟨hd, o, ep, h1, h2.1, h3⟩
mutual
theorem DpX.reads (I : Inv X pins σ H s) : ∀ (d : PyData) (v : V) (u : Value), DpX X.K H v d → RelV v u → ∃ as, Reads s.heap u d as
  | .none, _, _, h, r => by
    cases h
    cases r
    exact ⟨_, Reads.none⟩
  | .bool b, _, _, h, r => by
    cases h
    cases r
    exact ⟨_, Reads.bool b⟩
  | .int i, _, _, h, r => by
    cases h
    obtain ⟨t, rfl⟩ := r
    exact ⟨_, Reads.int i t⟩
  | .str x, _, _, h, r => by
    cases h
    obtain ⟨t, rfl⟩ := r
    exact ⟨_, Reads.str x t⟩
  | .list ds, _, _, h, r => by
    cases h with
    | lst hs ha =>
      cases r
      obtain ⟨its, rv, ⟨o, n, ho, hc, _, hd⟩, _⟩ := I.list hs
      obtain ⟨as, hr⟩ := DpXs.reads I ds _ its ha rv
      exact ⟨_, Reads.list ho hc hd hr⟩
  | .tuple ds, _, _, h, r => by
    cases h with
    | tup hs ha =>
      cases r
      obtain ⟨its, rv, ⟨o, ho, hc, n, hd⟩, _⟩ := I.tuple hs
      obtain ⟨as, hr⟩ := DpXs.reads I ds _ its ha rv
      exact ⟨_, Reads.tuple ho hc hd hr⟩
  | .dict _, _, _, h, r => by
    cases h with
    | emp e =>
      cases r
      obtain ⟨_, o, n, h1, h2, h3⟩ := emp_obj I e
      exact ⟨_, Reads.dict (kvs := []) h1 h2 h3 .nil .nil⟩
theorem DpXs.reads (I : Inv X pins σ H s) : ∀ (ds : List PyData) (vs : List V) (us : List Value), DpXs X.K H vs ds → Vals vs us → ∃ as, ReadsAll s.heap us ds as
  | [], _, _, h, r => by
    cases h
    cases r
    exact ⟨_, ReadsAll.nil⟩
  | d :: ds, _, _, h, r => by
    cases h with
    | cons h1 h2 =>
      cases r with
      | cons r1 r2 =>
        obtain ⟨as, q1⟩ := DpX.reads I d _ _ h1 r1
        obtain ⟨bs, q2⟩ := DpXs.reads I ds _ _ h2 r2
        exact ⟨_, ReadsAll.cons q1 q2⟩
end
mutual
theorem DpX.reprK (I : Inv X pins σ H s) : ∀ (d : PyData) (v : V) (u : Value), DpX X.K H v d → RelV v u → d.showable = true → d.shown.length ≤ sizeLine → ∃ bs, ReadAtMost s.heap d.depth bs ∧ ReprK X.prog X.w bs s.heap d.depth u d.shown
  | .none, _, _, h, r, _, _ => by
    cases h
    cases r
    exact ⟨[], (fun _ h => nomatch h), by simp only [PyData.shown]; exact .of_is ReprIs.none _ _ _⟩
  | .bool b, _, _, h, r, _, _ => by
    cases h
    cases r
    exact ⟨[], (fun _ h => nomatch h), by simp only [PyData.shown]; exact .of_is (ReprIs.bool b) _ _ _⟩
  | .int i, _, _, h, r, hs, _ => by
    cases h
    obtain ⟨t, rfl⟩ := r
    exact ⟨[], (fun _ h => nomatch h), by simp only [PyData.shown]; exact .of_is (ReprIs.int t (by simpa [PyData.showable] using hs)) _ _ _⟩
  | .str x, _, _, h, r, _, hz => by
    cases h
    obtain ⟨t, rfl⟩ := r
    exact ⟨[], (fun _ h => nomatch h), by simp only [PyData.shown]; exact .of_is (ReprIs.str x t (by simpa only [PyData.shown] using hz)) _ _ _⟩
  | .list ds, _, _, h, r, hs, hz => by
    cases h with
    | @lst a xs _ hs' ha =>
      cases r
      obtain ⟨its, rv, ⟨o, n, ho, hc, _, hd⟩, _⟩ := I.list hs'
      obtain ⟨as, hr⟩ := DpXs.reads I ds _ its ha rv
      have hz' : (listText (PyData.shownAll ds)).length ≤ sizeLine := by simpa only [PyData.shown] using hz
      obtain ⟨bs, hb, hk⟩ := DpXs.reprK I ds _ its ha rv (by simpa [PyData.showable] using hs) (fun t ht => Nat.le_trans (listText_mem_le ht) hz')
      have rr : Reads s.heap (.ref a) (.list ds) _ := .list ho hc hd hr
      have hna : a ∉ bs := not_mem_of_deeper rr (by simp only [PyData.depth]; omega) hb
      refine ⟨a :: bs, ReadAtMost.cons rr (by simp only [PyData.depth]; omega) hb, ?_⟩
      simp only [PyData.depth, PyData.shown]
      cases its with
      | nil =>
        cases hr
        simp only [PyData.shownAll, listText_nil]
        exact ReprK.listEmpty ho hc hd
      | cons x l => exact ReprK.list ho hc hd hna (by simpa using hk.length_eq) (fun i y e => hk.item i y (by simpa using e))
  | .tuple ds, _, _, h, r, hs, hz => by
    cases h with
    | @tup a xs _ hs' ha =>
      cases r
      obtain ⟨its, rv, ⟨o, ho, hc, n, hd⟩, _⟩ := I.tuple hs'
      obtain ⟨as, hr⟩ := DpXs.reads I ds _ its ha rv
      have hz' : (tupleText (PyData.shownAll ds)).length ≤ sizeLine := by simpa only [PyData.shown] using hz
      obtain ⟨bs, hb, hk⟩ := DpXs.reprK I ds _ its ha rv (by simpa [PyData.showable] using hs) (fun t ht => Nat.le_trans (tupleText_mem_le ht) hz')
      have rr : Reads s.heap (.ref a) (.tuple ds) _ := .tuple ho hc hd hr
      have hna : a ∉ bs := not_mem_of_deeper rr (by simp only [PyData.depth]; omega) hb
      refine ⟨a :: bs, ReadAtMost.cons rr (by simp only [PyData.depth]; omega) hb, ?_⟩
      simp only [PyData.depth, PyData.shown]
      exact ReprK.tuple ho hc hd hna hk
  | .dict _, _, _, h, r, _, hz => by
    cases h with
    | @emp a e =>
      cases r
      obtain ⟨hsys, o, n, h1, h2, h3⟩ := emp_obj I e
      have rr : Reads s.heap (.ref a) (.dict []) _ := .dict (kvs := []) h1 h2 h3 .nil .nil
      have h0 : ReadAtMost s.heap 0 [] := fun _ h => nomatch h
      refine ⟨[a], ReadAtMost.cons rr (by simp only [PyData.depth]; omega) h0, ?_⟩
      simp only [PyData.depth, PyData.shown, PyData.depthKv, PyData.shownKv]
      exact ReprK.dict h1 h2 h3 hsys (by simp) .nil
theorem DpXs.reprK (I : Inv X pins σ H s) : ∀ (ds : List PyData) (vs : List V) (us : List Value), DpXs X.K H vs ds → Vals vs us → PyData.showableAll ds = true → (∀ t ∈ PyData.shownAll ds, t.length ≤ sizeLine) →
    ∃ bs, ReadAtMost s.heap (PyData.depthAll ds) bs ∧ ReprAllK X.prog X.w bs s.heap (PyData.depthAll ds) us (PyData.shownAll ds)
  | [], _, _, h, r, _, _ => by
    cases h
    cases r
    exact ⟨[], (fun _ h => nomatch h), by simp only [PyData.shownAll]; exact .nil⟩
  | d :: ds, _, _, h, r, hs, hz => by
    cases h with
    | cons h1 h2 =>
      cases r with
      | cons r1 r2 =>
        have hs' : d.showable = true ∧ PyData.showableAll ds = true := by simpa [PyData.showableAll] using hs
        obtain ⟨b1, hb1, k1⟩ := DpX.reprK I d _ _ h1 r1 hs'.1 (hz _ (by simp only [PyData.shownAll]; exact List.mem_cons_self ..))
        obtain ⟨b2, hb2, k2⟩ := DpXs.reprK I ds _ _ h2 r2 hs'.2 (fun t ht => hz t (by simp only [PyData.shownAll]; exact List.mem_cons_of_mem _ ht))
        refine ⟨b1 ++ b2, ?_, ?_⟩
        · intro b hm
          simp only [PyData.depthAll]
          rcases List.mem_append.mp hm with hm | hm
          · obtain ⟨d', as', r', hd'⟩ := hb1 b hm
            exact ⟨d', as', r', Nat.le_trans hd' (Nat.le_max_left _ _)⟩
          · obtain ⟨d', as', r', hd'⟩ := hb2 b hm
            exact ⟨d', as', r', Nat.le_trans hd' (Nat.le_max_right _ _)⟩
        · simp only [PyData.depthAll, PyData.shownAll]
          exact .cons ((k1.more fun b hb => List.mem_append_left _ hb).level_le (Nat.le_max_left _ _)) (k2.more_le (fun b hb => List.mem_append_right _ hb) (Nat.le_max_right _ _))
end
end
section
variable {X : Cx}
def rEqX (K : PySem.W.Frag) : R2 := fun x y H Q => ∃ d e, DpX K H x d ∧ DpX K H y e ∧ SeqAt.shaped d = true ∧ SeqAt.shaped e = true ∧ Q (.bl (PyData.eqv d e)) H
def rNeX (K : PySem.W.Frag) : R2 := fun x y H Q => ∃ d e, DpX K H x d ∧ DpX K H y e ∧ SeqAt.shaped d = true ∧ SeqAt.shaped e = true ∧ Q (.bl (!PyData.eqv d e)) H
def rInX (K : PySem.W.Frag) : R2 := fun x y H Q => ∃ d ds, DpX K H x d ∧ DpX K H y (.list ds) ∧ SeqAt.shaped d = true ∧ SeqAt.shaped (.list ds) = true ∧ Q (.bl (ds.any fun z => PyData.eqv z d)) H
theorem op_eqX (hu : X.A.units + 64 < cLine) : OpR X (compareOp .Eq) (rEqX X.K) := by
  intro pins s σ H x y v u Q I rx ry h
  obtain ⟨d, e, hd, he, sd, se, q⟩ := h
  obtain ⟨as, r1⟩ := DpX.reads I d x v hd rx
  obtain ⟨bs, r2⟩ := DpX.reads I e y u he ry
  exact SeqAt.compareEq_shaped r1 r2 sd se hu ⟨.bl _, H, I, rfl, q⟩
theorem op_neX (hu : X.A.units + 64 < cLine) : OpR X (compareOp .NotEq) (rNeX X.K) := by
  intro pins s σ H x y v u Q I rx ry h
  obtain ⟨d, e, hd, he, sd, se, q⟩ := h
  obtain ⟨as, r1⟩ := DpX.reads I d x v hd rx
  obtain ⟨bs, r2⟩ := DpX.reads I e y u he ry
  exact SeqAt.compareNe_shaped r1 r2 sd se hu ⟨.bl _, H, I, rfl, q⟩
theorem op_inX (hu : X.A.units + 65 < cLine) : OpR X (compareOp .In) (rInX X.K) := by
  intro pins s σ H x y v u Q I rx ry h
  obtain ⟨d, ds, hd, he, sd, se, q⟩ := h
  obtain ⟨as, r1⟩ := DpX.reads I d x v hd rx
  obtain ⟨bs, r2⟩ := DpX.reads I (.list ds) y u he ry
  exact SeqAt.in_list_reads r2 r1 (SeqAt.canLay_of_shaped se) (SeqAt.canLay_of_shaped sd) (room_in_shaped sd hu) ⟨.bl _, H, I, rfl, q⟩
/-- the kind of such data -/
def tyD : PyData → String
  | .none => "NoneType"
  | .bool _ => "bool"
  | .int _ => "int"
  | .str _ => "str"
  | .list _ => "list"
  | .tuple _ => "tuple"
  | .dict _ => "dict"
theorem DpX.ty {K : PySem.W.Frag} {H : Hp} {v : V} {d : PyData} (h : DpX K H v d) : TyX K H v (.type (tyD d)) := by
  cases h with
  | non => exact .base .non
  | bl b => exact .base (.bl b)
  | int i => exact .base (.int i)
  | str x => exact .base (.str x)
  | lst h _ =>
    rcases h with (h | ⟨o, h⟩) | ⟨o, its, n, h1, h2, _⟩
    · exact .base (.lst h)
    · exact .base (.frz h)
    · exact .kList h1 h2
  | tup h _ =>
    rcases h with (h | ⟨o, h⟩) | ⟨o, its, n, h1, h2, _⟩
    · exact .base (.tup h)
    · exact .fTuple h
    · exact .kTuple h1 h2
  | emp h => exact .base (.dK h)
def isStr : PyData → Bool
  | .str _ => true
  | _ => false
def isTup : PyData → Bool
  | .tuple _ => true
  | _ => false
def isLst : PyData → Bool
  | .list _ => true
  | _ => false
theorem kit_str {K : PySem.W.Frag} : ∀ d : PyData, PySem.W.kitOne K (.type (tyD d)) (.type "str") = some (isStr d)
  | .none => kit_ty (show kitB "NoneType" "str" = some false by decide +kernel)
  | .bool _ => kit_ty (show kitB "bool" "str" = some false by decide +kernel)
  | .int _ => kit_ty (show kitB "int" "str" = some false by decide +kernel)
  | .str _ => kit_ty (show kitB "str" "str" = some true by decide +kernel)
  | .list _ => kit_ty (show kitB "list" "str" = some false by decide +kernel)
  | .tuple _ => kit_ty (show kitB "tuple" "str" = some false by decide +kernel)
  | .dict _ => kit_ty (show kitB "dict" "str" = some false by decide +kernel)
theorem kit_tup {K : PySem.W.Frag} : ∀ d : PyData, PySem.W.kitOne K (.type (tyD d)) (.type "tuple") = some (isTup d)
  | .none => kit_ty (show kitB "NoneType" "tuple" = some false by decide +kernel)
  | .bool _ => kit_ty (show kitB "bool" "tuple" = some false by decide +kernel)
  | .int _ => kit_ty (show kitB "int" "tuple" = some false by decide +kernel)
  | .str _ => kit_ty (show kitB "str" "tuple" = some false by decide +kernel)
  | .list _ => kit_ty (show kitB "list" "tuple" = some false by decide +kernel)
  | .tuple _ => kit_ty (show kitB "tuple" "tuple" = some true by decide +kernel)
  | .dict _ => kit_ty (show kitB "dict" "tuple" = some false by decide +kernel)
theorem kit_lst {K : PySem.W.Frag} : ∀ d : PyData, PySem.W.kitOne K (.type (tyD d)) (.type "list") = some (isLst d)
  | .none => kit_ty (show kitB "NoneType" "list" = some false by decide +kernel)
  | .bool _ => kit_ty (show kitB "bool" "list" = some false by decide +kernel)
  | .int _ => kit_ty (show kitB "int" "list" = some false by decide +kernel)
  | .str _ => kit_ty (show kitB "str" "list" = some false by decide +kernel)
  | .list _ => kit_ty (show kitB "list" "list" = some true by decide +kernel)
  | .tuple _ => kit_ty (show kitB "tuple" "list" = some false by decide +kernel)
  | .dict _ => kit_ty (show kitB "dict" "list" = some false by decide +kernel)
/-- repr(x), x such data of any kind -/
def rRepX (K : PySem.W.Frag) : List V → Hp → VK → Prop := fun xs H Q => ∃ (x : V) (d : PyData), xs = [x] ∧ DpX K H x d ∧ d.showable = true ∧ d.depth ≤ 20 ∧ d.shown.length ≤ sizeLine ∧ Q (.str d.shown) H
theorem call_repX (hgu : X.A.guards = some []) (hu : X.A.units + 64 < cLine) : CallR X (.builtin "repr") (rRepX X.K) := by
  intro pins s σ H xs us Q I r h
  obtain ⟨x, d, rfl, hd, hs, hdep, hz, q⟩ := h
  cases r with
  | cons r1 r2 =>
    cases r2
    rename_i u
    cases hd with
    | non =>
      cases r1
      simp only [PyData.shown] at q
      exact PySem.P.repr_of_none ⟨.str _, H, I.tok _, ⟨_, rfl⟩, q⟩
    | bl b =>
      cases r1
      simp only [PyData.shown] at q
      exact PySem.P.repr_of_bool ⟨.str _, H, I.tok _, ⟨_, rfl⟩, q⟩
    | int i =>
      obtain ⟨t, rfl⟩ := r1
      simp only [PyData.shown] at q
      exact PySem.P.repr_of_int (by simpa [PyData.showable] using hs) ⟨.str _, H, I.tok _, ⟨_, rfl⟩, q⟩
    | str z =>
      obtain ⟨t, rfl⟩ := r1
      simp only [PyData.shown] at q hz
      exact PySem.P.repr_of_str ⟨.str _, H, I.tok _, ⟨_, rfl⟩, q⟩ hz
    | @lst a xs ds hs' ha =>
      cases r1
      obtain ⟨its, rv, ⟨o, n, ho, hc, _, hdd⟩, _⟩ := I.list hs'
      obtain ⟨as, hr⟩ := DpXs.reads I ds _ its ha rv
      have hz' : (listText (PyData.shownAll ds)).length ≤ sizeLine := by simpa only [PyData.shown] using hz
      obtain ⟨bs, hb, hk⟩ := DpXs.reprK I ds _ its ha rv (by simpa [PyData.showable] using hs) (fun t ht => Nat.le_trans (listText_mem_le ht) hz')
      have rr : Reads s.heap (.ref a) (.list ds) _ := .list ho hc hdd hr
      have hna : a ∉ bs := not_mem_of_deeper rr (by simp only [PyData.depth]; omega) hb
      simp only [PyData.depth] at hdep
      simp only [PyData.shown] at q
      refine call_repr_slot (T := "list") (by omega) ⟨o, ho, hc⟩ PySem.F.slot_list_repr.toG ?_
      cases its with
      | nil =>
        cases hr
        simp only [PyData.shownAll, listText_nil] at q
        exact call_list_repr_empty ⟨o, ho, hc⟩ ho hdd ⟨_, _, rfl, .str _, H, I.tok _, ⟨_, rfl⟩, q⟩
      | cons y l =>
        exact call_list_reprK ho hc hdd hna (by simpa using hk.length_eq) (fun i y e => hk.item i y (by simpa using e)) (A := X.A.in1) hgu (fun b _ => Clear.nil b) (by show X.A.units + 1 + _ < cLine; omega) (fun _ _ z => z) (fun h' u tk keep => ⟨_, _, rfl, .str _, H, I.kept (t' := tk) keep, ⟨_, rfl⟩, q⟩) hz'
    | @tup a xs ds hs' ha =>
      cases r1
      obtain ⟨its, rv, ⟨o, ho, hc, n, hdd⟩, _⟩ := I.tuple hs'
      obtain ⟨as, hr⟩ := DpXs.reads I ds _ its ha rv
      have hz' : (tupleText (PyData.shownAll ds)).length ≤ sizeLine := by simpa only [PyData.shown] using hz
      obtain ⟨bs, hb, hk⟩ := DpXs.reprK I ds _ its ha rv (by simpa [PyData.showable] using hs) (fun t ht => Nat.le_trans (tupleText_mem_le ht) hz')
      have rr : Reads s.heap (.ref a) (.tuple ds) _ := .tuple ho hc hdd hr
      have hna : a ∉ bs := not_mem_of_deeper rr (by simp only [PyData.depth]; omega) hb
      simp only [PyData.depth] at hdep
      simp only [PyData.shown] at q
      refine call_repr_slot (T := "tuple") (by omega) ⟨o, ho, hc⟩ PySem.F.slot_tuple_repr ?_
      exact call_tuple_reprK ho hc hdd hna hk (A := X.A.in1) hgu (fun b _ => Clear.nil b) (by show X.A.units + 1 + _ < cLine; omega) (fun _ _ z => z) (fun h' u tk keep => ⟨_, _, rfl, .str _, H, I.kept (t' := tk) keep, ⟨_, rfl⟩, q⟩) hz'
    | @emp a e =>
      cases r1
      obtain ⟨hsys, o, n, h1, h2, h3⟩ := emp_obj I e
      have hz' : (dictText []).length ≤ sizeLine := by simpa only [PyData.shown, PyData.shownKv] using hz
      simp only [PyData.shown, PyData.shownKv] at q
      refine call_repr_slot (T := "dict") (by omega) ⟨o, h1, h2⟩ PySem.F.slot_dict_repr ?_
      exact call_dict_reprK (as := []) (d := 0) h1 h2 h3 hsys (by simp) .nil (A := X.A.in1) hgu (fun b _ => Clear.nil b) (by show X.A.units + 1 + _ < cLine; omega) (fun _ _ z => z) (fun h' u tk keep => ⟨_, _, rfl, .str _, H, I.kept (t' := tk) keep, ⟨_, rfl⟩, q⟩) hz'
end
end SE
namespace SE
open PySem PySem.Spec PyProof.Rows L2
/-! ### data whose dicts are empty -/
mutual
def layE : PyData → Bool
  | .none | .bool _ | .int _ => true
  | .str x => PyData.strOk x
  | .list xs | .tuple xs => layEAll xs
  | .dict kvs => kvs.isEmpty
def layEAll : List PyData → Bool
  | [] => true
  | x :: xs => layE x && layEAll xs
end
mutual
theorem layE_of : ∀ d : PyData, d.canLay0 = true → layE d = true
  | .none, _ => by simp only [layE]
  | .bool _, _ => by simp only [layE]
  | .int _, _ => by simp only [layE]
  | .str x, h => by simpa only [layE, PyData.canLay0] using h
  | .list xs, h => by
    simp only [layE]
    exact layEAll_of xs (by simpa only [PyData.canLay0] using h)
  | .tuple xs, h => by
    simp only [layE]
    exact layEAll_of xs (by simpa only [PyData.canLay0] using h)
  | .dict _, h => by simp only [PyData.canLay0] at h; exact nomatch h
theorem layEAll_of : ∀ xs : List PyData, PyData.canLayAll0 xs = true → layEAll xs = true
  | [], _ => by simp only [layEAll]
  | x :: xs, h => by
    have h' : x.canLay0 = true ∧ PyData.canLayAll0 xs = true := by simpa only [PyData.canLayAll0, Bool.and_eq_true] using h
    simp only [layEAll, Bool.and_eq_true]
    exact ⟨layE_of x h'.1, layEAll_of xs h'.2⟩
end
mutual
theorem leavesShort_of_layE : ∀ d : PyData, layE d = true → d.intsShort 13 = true → d.leavesShort 13 = true
  | .none, _, _ => rfl
  | .bool _, _, _ => rfl
  | .int i, _, h => by simpa only [PyData.leavesShort, PyData.intsShort] using h
  | .str x, hc, _ => PyData.leavesShort_of_canLay0 13 (.str x) (by simpa only [layE, PyData.canLay0] using hc) rfl
  | .list xs, hc, h => by
    simp only [PyData.leavesShort]
    exact leavesShortAll_of_layE xs (by simpa only [layE] using hc) (by simpa only [PyData.intsShort] using h)
  | .tuple xs, hc, h => by
    simp only [PyData.leavesShort]
    exact leavesShortAll_of_layE xs (by simpa only [layE] using hc) (by simpa only [PyData.intsShort] using h)
  | .dict kvs, hc, _ => by
    simp only [layE, List.isEmpty_iff] at hc
    rw [hc]
    rfl
theorem leavesShortAll_of_layE : ∀ xs : List PyData, layEAll xs = true → PyData.intsShortAll 13 xs = true → PyData.leavesShortAll 13 xs = true
  | [], _, _ => rfl
  | x :: xs, hc, h => by
    have hc' : layE x = true ∧ layEAll xs = true := by simpa only [layEAll, Bool.and_eq_true] using hc
    have h' : x.intsShort 13 = true ∧ PyData.intsShortAll 13 xs = true := by simpa only [PyData.intsShortAll, Bool.and_eq_true] using h
    simp only [PyData.leavesShortAll, Bool.and_eq_true]
    exact ⟨leavesShort_of_layE x hc'.1 h'.1, leavesShortAll_of_layE xs hc'.2 h'.2⟩
end
/-! ### small data -/
structure NX (k B : Nat) (d : PyData) : Prop where
  lay : layE d = true
  dep : d.depth ≤ k
  sh : d.showable = true
  ish : d.intsShort 13 = true
  wt : d.weight ≤ B
theorem NX.mono {k j B C : Nat} {d : PyData} (h : NX k B d) (hk : k ≤ j) (hB : B ≤ C) : NX j C d := ⟨h.lay, Nat.le_trans h.dep hk, h.sh, h.ish, Nat.le_trans h.wt hB⟩
theorem Nice.nx {k B : Nat} {d : PyData} (h : Nice k B d) : NX k B d := ⟨layE_of _ h.lay, h.dep, h.sh, h.ish, h.wt⟩
theorem nx_all {k B : Nat} : ∀ {ds : List PyData}, (∀ d ∈ ds, NX k B d) → layEAll ds = true ∧ PyData.depthAll ds ≤ k ∧ PyData.showableAll ds = true ∧ PyData.intsShortAll 13 ds = true ∧ PyData.weightAll ds ≤ ds.length * (B + 1)
  | [], _ => by
    refine ⟨?_, ?_, ?_, ?_, ?_⟩
    · simp only [layEAll]
    · simp only [PyData.depthAll]
      exact Nat.zero_le _
    · simp only [PyData.showableAll]
    · simp only [PyData.intsShortAll]
    · simp only [PyData.weightAll]
      exact Nat.zero_le _
  | d :: ds, h => by
    obtain ⟨a1, a2, a3, a5, a6⟩ := nx_all (ds := ds) fun x hx => h x (List.mem_cons_of_mem _ hx)
    have q := h d List.mem_cons_self
    refine ⟨?_, ?_, ?_, ?_, ?_⟩
    · simp only [layEAll, q.lay, a1, Bool.and_self]
    · simp only [PyData.depthAll]
      exact Nat.max_le.mpr ⟨q.dep, a2⟩
    · simp only [PyData.showableAll, q.sh, a3, Bool.and_self]
    · simp only [PyData.intsShortAll, q.ish, a5, Bool.and_self]
    · simp only [PyData.weightAll, List.length_cons]
      have := q.wt
      rw [Nat.add_mul]
      omega
theorem nx_list {k B : Nat} {ds : List PyData} (h : ∀ d ∈ ds, NX k B d) : NX (k + 1) (ds.length * (B + 1)) (.list ds) := by
  obtain ⟨a1, a2, a3, a5, a6⟩ := nx_all h
  exact ⟨by simp only [layE]; exact a1, by simp only [PyData.depth]; omega, by simp only [PyData.showable]; exact a3, by simp only [PyData.intsShort]; exact a5, by simp only [PyData.weight]; exact a6⟩
theorem nx_tuple {k B : Nat} {ds : List PyData} (h : ∀ d ∈ ds, NX k B d) : NX (k + 1) (ds.length * (B + 1)) (.tuple ds) := by
  obtain ⟨a1, a2, a3, a5, a6⟩ := nx_all h
  exact ⟨by simp only [layE]; exact a1, by simp only [PyData.depth]; omega, by simp only [PyData.showable]; exact a3, by simp only [PyData.intsShort]; exact a5, by simp only [PyData.weight]; exact a6⟩
theorem all_elem {k B : Nat} : ∀ {ds : List PyData}, layEAll ds = true → PyData.depthAll ds ≤ k → PyData.showableAll ds = true → PyData.intsShortAll 13 ds = true → PyData.weightAll ds ≤ B → (∀ d ∈ ds, NX k B d) ∧ ds.length ≤ B
  | [], _, _, _, _, _ => ⟨fun d m => (by cases m), Nat.zero_le _⟩
  | d :: ds, h1, h2, h3, h4, h5 => by
    simp only [layEAll, Bool.and_eq_true] at h1
    simp only [PyData.depthAll] at h2
    simp only [PyData.showableAll, Bool.and_eq_true] at h3
    simp only [PyData.intsShortAll, Bool.and_eq_true] at h4
    simp only [PyData.weightAll] at h5
    have m2 := Nat.max_le.mp h2
    obtain ⟨q1, q2⟩ := all_elem (k := k) (B := B - 1) h1.2 m2.2 h3.2 h4.2 (by omega)
    refine ⟨fun x m => ?_, by rw [List.length_cons]; omega⟩
    rcases List.mem_cons.mp m with e | e
    · rw [e]
      exact ⟨h1.1, m2.1, h3.1, h4.1, by omega⟩
    · exact (q1 x e).mono (Nat.le_refl _) (by omega)
theorem NX.list {k B : Nat} {ds : List PyData} (h : NX k B (.list ds)) : (∀ d ∈ ds, NX k B d) ∧ ds.length ≤ B := by
  obtain ⟨a, b, c, d, e⟩ := h
  simp only [layE] at a
  simp only [PyData.depth] at b
  simp only [PyData.showable] at c
  simp only [PyData.intsShort] at d
  simp only [PyData.weight] at e
  exact all_elem a (by omega) c d e
theorem NX.tuple {k B : Nat} {ds : List PyData} (h : NX k B (.tuple ds)) : (∀ d ∈ ds, NX k B d) ∧ ds.length ≤ B := by
  obtain ⟨a, b, c, d, e⟩ := h
  simp only [layE] at a
  simp only [PyData.depth] at b
  simp only [PyData.showable] at c
  simp only [PyData.intsShort] at d
  simp only [PyData.weight] at e
  exact all_elem a (by omega) c d e
theorem NX.str {k B : Nat} {z : Str} (h : NX k B (.str z)) : z.length ≤ B := by
  have := h.wt
  simp only [PyData.weight] at this
  exact this
theorem NX.shown {k B : Nat} {d : PyData} (h : NX k B d) (hk : k ≤ 64) (hB : B ≤ 2 ^ 20) : d.shown.length ≤ sizeLine :=
  PyData.shown_fits (B := 13) (by decide) (by decide) (leavesShort_of_layE d h.lay h.ish) (Nat.le_trans h.wt hB)
/-- the data that the functions are asked about -/
abbrev OkD (d : PyData) : Prop := NX 20 100000 d
theorem big100 {n : Nat} (h : n ≤ 100001) : n ≤ sizeLine := by
  rw [sizeLine_eq]
  omega
/-! ### what the functions answer -/
def itemD : PyData → Bool
  | .str z => decide (1 ≤ z.length ∧ z.length ≤ 8) && (z.cps.toList.map fun c => decide (c ∈ abc.cps.toList)).all id
  | _ => false
def wordD : PyData → Bool
  | .tuple ds => (ds.map itemD).all id
  | _ => false
def actD : PyData → Bool
  | .str z => decide (z = "push" ∨ z = "pop")
  | _ => false
def stpD : PyData → Bool
  | .tuple [a, b] => actD a && itemD b
  | _ => false
def seqD : PyData → Bool
  | .list ds => decide (ds.length ≤ 1000) && (ds.map stpD).all id
  | .tuple ds => decide (ds.length ≤ 1000) && (ds.map stpD).all id
  | _ => false
end SE
namespace SE
open PySem PySem.Spec PyProof.Rows L2
theorem bl_take {α : Type} {f : α → Bool} {l : List α} {j : Nat} {x : α} (h : l[j]? = some x) : ((l.take j).map f).map V.bl ++ [V.bl (f x)] = ((l.take (j + 1)).map f).map V.bl := by
  rw [List.take_add_one, h, List.map_append, List.map_append]
  rfl
theorem itemD_str (z : Str) : itemD (.str z) = (decide (1 ≤ z.length ∧ z.length ≤ 8) && (z.cps.toList.map fun c => decide (c ∈ abc.cps.toList)).all id) := rfl
section
variable {P : Program} {w : World} {K : PySem.W.Frag} {mg : Str → Option Value} {base : Heap}
/-! ### is_item, is_word -/
def spX (K : PySem.W.Frag) (f : PyData → Bool) : Sp := fun xs H Q _ => ∃ (v : V) (d : PyData), xs = [v] ∧ DpX K H v d ∧ OkD d ∧ ∀ H', Same H H' → Q (.bl (f d)) H'
theorem has_itemX (D : Def K mg "is_item" sIsItem) (B : Blt mg) (C : Cons K w mg) : Has P w K mg base "is_item" 1 ["value"] [] (spX K itemD) := by
  obtain ⟨tl, hL⟩ := C.let_
  obtain ⟨tm, hM⟩ := C.ml
  refine has_of D scIsItem (fun _ _ _ _ _ _ us hl => match us, hl with | [_], _ => rfl) (fun xs H Q E h => ?_) (fun f cv A out s H xs Q E hr h => ?_)
  · obtain ⟨v, d, rfl, _⟩ := h
    rfl
  · obtain ⟨v, d, rfl, hd, ok, k⟩ := h
    refine ⟨_, pss_cons (ps_if (PW.pt (pw_or (pt_not (pt_val (pe_callB call_isi (by rfl) B.isi (by decide +kernel) (pa_cons (pv 0) (pa_cons (pe_bltn (v := .ty "str") (by rfl) B.str (by decide +kernel) rfl) pa_nil)))))
        (pw_or1 (pt_not (pt_chain op_le op_le pe_int (pe_callB call_len_str (by rfl) B.len PySem.boot_len (pa_cons (pv 0) pa_nil)) (pe_glob (v := .int 8) rfl hM ⟨_, rfl⟩)))))) (pss_one (ps_ret pe_bl)) pss_nil)
      (pss_one (ps_ret (pe_callB (cr_all rfl) (by rfl) B.all (by decide +kernel) (pa_cons
        (pe_lc (own := [("letter", 1)]) (g := gName 1) (tt := tYes) rfl scIsItem.nd (pi_str (pv 0)) (blkOk_by (own := [("letter", 1)]) (N := ["value", "letter"]) (sc := defScope sIsItem) (by decide +kernel))
          (fun _ _ _ _ _ => pg_name (i := 1) scIsItem.nd rfl (.inl rfl)) (fun _ _ _ _ _ => pts_nil) (fun _ _ _ _ _ => pe_cmpR op_in_sign (pv 1) (pe_glob (v := .str abc) rfl hL ⟨_, rfl⟩) (by rfl))) pa_nil)))), ?_⟩
    refine ⟨_, rfl, _, .ty "str", .type (tyD d), .type "str", isStr d, rfl, .ty _, hd.ty, kit_str d, _, rfl, ?_⟩
    cases hd with
    | non => exact iteT (iteT (k H (Same.refl H)))
    | bl b => exact iteT (iteT (k H (Same.refl H)))
    | int i => exact iteT (iteT (k H (Same.refl H)))
    | lst _ _ => exact iteT (iteT (k H (Same.refl H)))
    | tup _ _ => exact iteT (iteT (k H (Same.refl H)))
    | emp _ => exact iteT (iteT (k H (Same.refl H)))
    | str z =>
      refine iteF ?_
      have zl : z.length ≤ 100000 := ok.str
      refine ⟨_, rfl, z, rfl, big100 (by omega), 1, _, rfl, rfl, _, rfl, ?_⟩
      by_cases p1 : 1 ≤ z.length
      · have e1 : decide ((1 : Int) ≤ (z.length : Int)) = true := decide_eq_true (by omega)
        rw [e1]
        refine iteT ⟨_, 8, rfl, rfl, _, rfl, ?_⟩
        by_cases p2 : z.length ≤ 8
        · have e2 : decide ((z.length : Int) ≤ 8) = true := decide_eq_true (by omega)
          rw [e2]
          refine iteF ?_
          have e3 : itemD (.str z) = (z.cps.toList.map fun c => decide (c ∈ abc.cps.toList)).all id := by
            rw [itemD_str, decide_eq_true ⟨p1, p2⟩, Bool.true_and]
          rw [e3] at k
          refine ⟨_, rfl, z, rfl, fun D hD => lc_it walk_str (fun j H2 => H2 D = some (.lst (((z.cps.toList.take j).map fun c => decide (c ∈ abc.cps.toList)).map V.bl)) ∧ Same H H2) ⟨upd_same, Same.new hD⟩ (fun _ _ _ _ => trivial) ?_ ?_⟩
          · rintro j x H2 H3 hj ⟨h2, s2⟩ ⟨rfl, c, hc, rfl⟩
            have q : z.cps.toList[j]? = some c := by rw [Array.getElem?_toList]; exact hc
            refine ⟨rfl, yes_in ⟨_, rfl, c, abc, rfl, rfl, _, h2, ?_, ?_, Same.free2 s2 hD⟩⟩
            · rw [List.length_map, List.length_map, List.length_take]
              exact small1000 (by have : j < z.length := hj; omega)
            · rw [upd_same, bl_take (f := fun c => decide (c ∈ abc.cps.toList)) q]
          · rintro H2 ⟨h2, s2⟩
            rw [List.take_of_length_le (by rw [Array.length_toList]; exact Nat.le_refl _)] at h2
            exact ⟨D, _, rfl, .of h2, k H2 s2⟩
        · have e2 : decide ((z.length : Int) ≤ 8) = false := decide_eq_false (by omega)
          rw [e2]
          have e3 : itemD (.str z) = false := by
            rw [itemD_str, decide_eq_false (fun q => p2 q.2), Bool.false_and]
          rw [e3] at k
          exact iteT (k H (Same.refl H))
      · have e1 : decide ((1 : Int) ≤ (z.length : Int)) = false := decide_eq_false (by omega)
        rw [e1]
        have e3 : itemD (.str z) = false := by
          rw [itemD_str, decide_eq_false (fun q => p1 q.1), Bool.false_and]
        rw [e3] at k
        exact iteF ⟨false, rfl, iteT (k H (Same.refl H))⟩
theorem has_wordX (D : Def K mg "is_word" sIsWord) (G : Has P w K mg base "is_item" 1 ["value"] [] (spX K itemD)) (B : Blt mg) : Has P w K mg base "is_word" 2 ["value"] [] (spX K wordD) := by
  refine has_of D scIsWord (fun _ _ _ _ _ _ us hl => match us, hl with | [_], _ => rfl) (fun xs H Q E h => ?_) (fun f cv A out s H xs Q E hr h => ?_)
  · obtain ⟨v, d, rfl, _⟩ := h
    rfl
  · obtain ⟨v, d, rfl, hd, ok, k⟩ := h
    refine ⟨_, pss_one (ps_ret (pe_and (pe_callB call_isi (by rfl) B.isi (by decide +kernel) (pa_cons (pv 0) (pa_cons (pe_bltn (v := .ty "tuple") (by rfl) B.tup (by decide +kernel) rfl) pa_nil)))
      (pe_one (pe_callB (cr_all rfl) (by rfl) B.all (by decide +kernel) (pa_cons
        (pe_lc (own := [("item", 1)]) (g := gName 1) (tt := tYes) (te := tCall (spX K itemD) [] E0 (tCons (tVar 1) tNil)) rfl scIsWord.nd (pi_tup (pv 0)) (blkOk_by (own := [("item", 1)]) (N := ["value", "item"]) (sc := defScope sIsWord) (by decide +kernel))
          (fun _ _ _ _ _ => pg_name (i := 1) scIsWord.nd rfl (.inl rfl)) (fun _ _ _ _ _ => pts_nil) (fun _ _ _ _ _ => pe_has G hr (pa_cons (pv 1) pa_nil))) pa_nil))))), ?_⟩
    refine ⟨_, rfl, _, .ty "tuple", .type (tyD d), .type "tuple", isTup d, rfl, .ty _, hd.ty, kit_tup d, _, rfl, ?_⟩
    cases hd with
    | non => exact iteF (k H (Same.refl H))
    | bl b => exact iteF (k H (Same.refl H))
    | int i => exact iteF (k H (Same.refl H))
    | str z => exact iteF (k H (Same.refl H))
    | lst _ _ => exact iteF (k H (Same.refl H))
    | emp _ => exact iteF (k H (Same.refl H))
    | @tup a xs ds hT ha =>
      refine iteT ?_
      obtain ⟨oks, ln⟩ := ok.tuple
      have le := ha.len
      refine ⟨_, rfl, a, rfl, ⟨_, hT⟩, fun D hD => lc_tup (K := K) (a := a) (xs := xs) (fun j H2 => H2 D = some (.lst (((ds.take j).map itemD).map V.bl)) ∧ Same H H2) ⟨upd_same, Same.new hD⟩ (fun _ _ _ q => Same.tup q.2 hT) ?_ ?_⟩
      · rintro j x H2 hj ⟨h2, s2⟩
        obtain ⟨e, he, hx⟩ := ha.at hj
        refine ⟨rfl, yes_in ⟨_, rfl, x, e, rfl, DpX.same s2 e x hx, oks e (List.mem_of_getElem? he), fun H3 s3 => ⟨_, s3 _ _ h2, ?_, ?_, Same.free2 (s2.trans s3) hD⟩⟩⟩
        · rw [List.length_map, List.length_map, List.length_take, sizeLine_eq]
          omega
        · rw [upd_same, bl_take he]
      · rintro H2 ⟨h2, s2⟩
        rw [le, List.take_length] at h2
        exact ⟨D, _, rfl, .of h2, k H2 s2⟩
end
end SE
namespace SE
open PySem PySem.Spec PyProof.Rows L2
def OppKeys : List DictEntry → Prop
  | [] => True
  | e :: r => (∃ x t, e.key = .str x t ∧ (x = ("push" : Str) ∨ x = ("pop" : Str))) ∧ OppKeys r
theorem opp_none {z : Str} (h1 : z ≠ "push") (h2 : z ≠ "pop") : ∀ {l : List DictEntry}, OppKeys l → l.find? (fun e => e.key.isStr z) = none ∧ l.any (fun e => e.refKey) = false
  | [], _ => ⟨rfl, rfl⟩
  | e :: r, ⟨⟨x, t, hk, hx⟩, q⟩ => by
    obtain ⟨q1, q2⟩ := opp_none h1 h2 q
    have e1 : e.key.isStr z = false := by
      rw [hk]
      have ne : x ≠ z := by
        rcases hx with hx | hx
        · rw [hx]; exact fun w => h1 w.symm
        · rw [hx]; exact fun w => h2 w.symm
      simpa [Value.isStr] using ne
    have e2 : e.refKey = false := by
      unfold DictEntry.refKey
      rw [hk]
    rw [List.find?_cons, e1, List.any_cons, e2]
    exact ⟨q1, q2⟩
/-- OPPOSITES and all its keys -/
def Opp2 (K : PySem.W.Frag) (w : World) (mg : Str → Option Value) : Prop := ∃ (d : Addr) (es : Array DictEntry) (n : Nat) (u v : Value), mg "OPPOSITES" = some (.ref d) ∧ KDict K w d es n ∧ PySem.W.nsIn K d "push" = some (some u) ∧ PySem.W.nsIn K d "pop" = some (some v) ∧ OppKeys es.toList
theorem opp_in {K : PySem.W.Frag} {w : World} {d : Addr} {es : Array DictEntry} {n : Nat} {u v : Value} (KD : KDict K w d es n) (n1 : PySem.W.nsIn K d "push" = some (some u)) (n2 : PySem.W.nsIn K d "pop" = some (some v)) (ok : OppKeys es.toList) (z : Str) :
    ∃ r, PySem.W.nsIn K d z = some r ∧ r.isSome = actD (.str z) := by
  by_cases h1 : z = "push"
  · subst h1
    exact ⟨_, n1, show true = actD (.str "push") by decide +kernel⟩
  by_cases h2 : z = "pop"
  · subst h2
    exact ⟨_, n2, show true = actD (.str "pop") by decide +kernel⟩
  obtain ⟨q1, q2⟩ := opp_none h1 h2 ok
  refine ⟨none, ?_, ?_⟩
  · unfold PySem.W.nsIn
    rw [KD.at_]
    dsimp only
    rw [q1]
    dsimp only
    rw [q2]
    rfl
  · show false = decide (z = "push" ∨ z = "pop")
    rw [decide_eq_false (fun q => q.elim h1 h2)]
section
variable {P : Program} {w : World} {K : PySem.W.Frag} {mg : Str → Option Value} {base : Heap}
/-! ### is_step -/
theorem has_stepX (D : Def K mg "is_step" sIsStep) (G : Has P w K mg base "is_item" 1 ["value"] [] (spX K itemD)) (B : Blt mg) (C : Opp2 K w mg) : Has P w K mg base "is_step" 2 ["value"] [] (spX K stpD) := by
  obtain ⟨d, es, n, u1, u2, hO, KD, n1, n2, okO⟩ := C
  refine has_of D scIsStep (fun _ _ _ _ _ _ us hl => match us, hl with | [_], _ => rfl) (fun xs H Q E h => ?_) (fun f cv A out s H xs Q E hr h => ?_)
  · obtain ⟨v, dd, rfl, _⟩ := h
    rfl
  · obtain ⟨v, dd, rfl, hd, ok, k⟩ := h
    refine ⟨_, pss_cons (ps_if (PW.pt (pw_or (pt_not (pt_val (pe_callB call_isi (by rfl) B.isi (by decide +kernel) (pa_cons (pv 0) (pa_cons (pe_bltn (v := .ty "tuple") (by rfl) B.tup (by decide +kernel) rfl) pa_nil)))))
        (pw_or1 (pt_cmpR op_ne (pe_callB call_len_seq (by rfl) B.len PySem.boot_len (pa_cons (pv 0) pa_nil)) pe_int (nomark _))))) (pss_one (ps_ret pe_bl)) pss_nil)
      (pss_cons (ps_asg (pv 0) (pg_tup (by rfl) (pgs_cons (pg_name (i := 1) scIsStep.nd rfl (.inl rfl)) (pgs_cons (pg_name (i := 2) scIsStep.nd rfl (.inl rfl)) pgs_nil))))
      (pss_one (ps_ret (pe_and (pe_callB call_isi (by rfl) B.isi (by decide +kernel) (pa_cons (pv 1) (pa_cons (pe_bltn (v := .ty "str") (by rfl) B.str (by decide +kernel) rfl) pa_nil)))
        (pe_and (pe_cmpR (op_in_kd KD) (pv 1) (pe_glob (v := .ref d) rfl hO rfl) (by rfl)) (pe_one (pe_has G hr (pa_cons (pv 2) pa_nil)))))))), ?_⟩
    refine ⟨_, rfl, _, .ty "tuple", .type (tyD dd), .type "tuple", isTup dd, rfl, .ty _, hd.ty, kit_tup dd, _, rfl, ?_⟩
    cases hd with
    | non => exact iteT (iteT (k H (Same.refl H)))
    | bl b => exact iteT (iteT (k H (Same.refl H)))
    | int i => exact iteT (iteT (k H (Same.refl H)))
    | str z => exact iteT (iteT (k H (Same.refl H)))
    | lst _ _ => exact iteT (iteT (k H (Same.refl H)))
    | emp _ => exact iteT (iteT (k H (Same.refl H)))
    | @tup t xs ds hT ha =>
      refine iteF ?_
      obtain ⟨oks, ln⟩ := ok.tuple
      have le := ha.len
      refine ⟨_, rfl, t, _, rfl, .inr hT, rfl, _, rfl, ?_⟩
      match ds, xs, ha, le, oks, k, hT with
      | [], _, .nil, _, _, k, _ => exact iteT (k H (Same.refl H))
      | [_], _, .cons _ .nil, _, _, k, _ => exact iteT (k H (Same.refl H))
      | [e1, e2], [x1, x2], .cons h1 (.cons h2 .nil), _, oks, k, hT =>
        refine iteF ?_
        refine ⟨_, rfl, t, _, rfl, hT, rfl, _, _, rfl, _, _, rfl, rfl, ?_⟩
        refine ⟨_, rfl, _, .ty "str", .type (tyD e1), .type "str", isStr e1, rfl, .ty _, h1.ty, kit_str e1, _, rfl, ?_⟩
        have k' : ∀ H', Same H H' → Q (.bl (actD e1 && itemD e2)) H' := k
        cases h1 with
        | non => exact iteF (k' H (Same.refl H))
        | bl b => exact iteF (k' H (Same.refl H))
        | int i => exact iteF (k' H (Same.refl H))
        | lst _ _ => exact iteF (k' H (Same.refl H))
        | tup _ _ => exact iteF (k' H (Same.refl H))
        | emp _ => exact iteF (k' H (Same.refl H))
        | str z =>
          refine iteT ?_
          obtain ⟨r, hr1, hr2⟩ := opp_in KD n1 n2 okO z
          refine ⟨_, rfl, z, r, rfl, rfl, hr1, r.isSome, rfl, ?_⟩
          rw [hr2]
          cases hz : actD (.str z) with
          | false =>
            rw [hz] at k'
            exact iteF (k' H (Same.refl H))
          | true =>
            rw [hz] at k'
            exact iteT ⟨_, rfl, x2, e2, rfl, h2, oks e2 (by simp), fun H' s' => k' H' s'⟩
      | _ :: _ :: _ :: ds, x1 :: x2 :: x3 :: xs, .cons _ (.cons _ (.cons _ _)), _, _, k, _ =>
        have hne : decide (V.int (((x1 :: x2 :: x3 :: xs).length : Nat) : Int) = V.int 2) = false := decide_eq_false (by
          intro q
          have q2 := V.int.inj q
          simp only [List.length_cons] at q2
          omega)
        rw [hne]
        exact iteT (k H (Same.refl H))
/-! ### may_hold_steps, is_sequence -/
def mayD : PyData → Bool
  | .list ds => decide (ds.length ≤ 1000)
  | .tuple ds => decide (ds.length ≤ 1000)
  | _ => false
theorem kit_lt {K : PySem.W.Frag} (d : PyData) : PySem.W.kitAny K (.type (tyD d)) [.type "list", .type "tuple"] = some (isLst d || isTup d) := by
  have a := kit_lst (K := K) d
  have b := kit_tup (K := K) d
  cases d with
  | list ds => exact kitAny_cons (b := true) a (fun z => (by cases z)) (fun _ => rfl)
  | tuple ds => exact kitAny_cons (b := false) a (fun _ => kitAny_cons (b := true) b (fun z => (by cases z)) (fun _ => rfl)) (fun z => (by cases z))
  | _ => exact kitAny_cons (b := false) a (fun _ => kitAny_cons (b := false) b (fun _ => rfl) (fun z => (by cases z))) (fun z => (by cases z))
theorem has_mayX (D : Def K mg "may_hold_steps" sMayHold) (B : Blt mg) (C : Cons K w mg) : Has P w K mg base "may_hold_steps" 1 ["value"] [] (spX K mayD) := by
  obtain ⟨tm, hM⟩ := C.ms
  refine has_of D scMay (fun _ _ _ _ _ _ us hl => match us, hl with | [_], _ => rfl) (fun xs H Q E h => ?_) (fun f cv A out s H xs Q E hr h => ?_)
  · obtain ⟨v, d, rfl, _⟩ := h
    rfl
  · obtain ⟨v, d, rfl, hd, ok, k⟩ := h
    refine ⟨_, pss_one (ps_ret (pe_and (pe_callB call_isiT (by rfl) B.isi (by decide +kernel) (pa_cons (pv 0) (pa_cons (pe_tup (pa_cons (pe_bltn (v := .ty "list") (by rfl) B.lst (by decide +kernel) rfl) (pa_cons (pe_bltn (v := .ty "tuple") (by rfl) B.tup (by decide +kernel) rfl) pa_nil))) pa_nil)))
      (pe_one (pe_cmpR op_le (pe_callB call_len_seq (by rfl) B.len PySem.boot_len (pa_cons (pv 0) pa_nil)) (pe_glob (v := .int 1000) rfl hM ⟨_, rfl⟩) (nomark _))))), ?_⟩
    refine ⟨_, rfl, (by show 2 ≤ sizeLine; decide), fun t ht => ?_⟩
    have s1 : Same H (upd H t (.tup [.ty "list", .ty "tuple"])) := Same.new ht
    have hd1 := DpX.same s1 d v hd
    refine ⟨_, t, _, .type (tyD d), _, isLst d || isTup d, rfl, upd_same, .cons (.ty _) (.cons (.ty _) .nil), hd1.ty, kit_lt d, _, rfl, ?_⟩
    have fin : ∀ (n : Nat), (V.bl (decide ((n : Int) ≤ 1000)) : V) = V.bl (decide (n ≤ 1000)) := fun n => by
      by_cases q : n ≤ 1000
      · rw [decide_eq_true q, decide_eq_true (by omega)]
      · rw [decide_eq_false q, decide_eq_false (by omega)]
    cases hd with
    | non => exact iteF (k _ s1)
    | bl b => exact iteF (k _ s1)
    | int i => exact iteF (k _ s1)
    | str z => exact iteF (k _ s1)
    | emp _ => exact iteF (k _ s1)
    | @tup a xs ds hT ha =>
      refine iteT ⟨_, rfl, a, xs, rfl, .inr (Same.tup s1 hT), _, 1000, rfl, rfl, ?_⟩
      show Q (V.bl (decide ((xs.length : Int) ≤ 1000))) _
      rw [fin, ha.len]
      exact k _ s1
    | @lst a xs ds hT ha =>
      refine iteT ⟨_, rfl, a, xs, rfl, .inl (Same.seq s1 hT), _, 1000, rfl, rfl, ?_⟩
      show Q (V.bl (decide ((xs.length : Int) ≤ 1000))) _
      rw [fin, ha.len]
      exact k _ s1
end
end SE
/-! Exceptions of own classes below ValueError, each with one field. -/
namespace SE
open PySem PySem.Spec PyProof.Rows L2
section
variable {P : Program} {w : World} {K : PySem.W.Frag} {mg : Str → Option Value} {base : Heap}
/-- a def that may raise keeps the promise sp -/
def HasX (P : Program) (w : World) (K : PySem.W.Frag) (mg : Str → Option Value) (base : Heap) (x : Str) (k : Nat) (ps : List Str) (dvs : List V) (sp : Sp) : Prop :=
  ∃ f fd ds, FnOk P w K mg base (L2.CX P w) k f fd ps sp ∧ mg x = some (.ref f) ∧ PySem.W.keepIn K (.ref f) = true ∧ Binds K fd ps ds ∧ Vals dvs ds ∧ ∃ st, Fun K x x st f fd
abbrev BxX (P : Program) (w : World) (K : PySem.W.Frag) (mg : Str → Option Value) (base : Heap) (N : List Str) (x : Str) (st : Stmt) (f : Addr) (cv : Value) (A : Around) (out : List Env) (s : Shared) (H : Hp) (E : XK) : Cx :=
  cxOf (L2.CX P w) P w K mg base N x (defScope st) f cv A out s H E
theorem hasX_of {x : Str} {st : Stmt} {N ps : List Str} {k : Nat} {sp : Sp} (D : Def K mg x st) (S : FnScope N ps (defScope st))
    (hb : ∀ (kV doc pm : Value) (an : Option Addr) (cv ct : Value) (us : List Value), us.length = ps.length → bindArgs (PySem.W.fnOf x x (defArgs st) (defBody st) (defScope st) .none kV doc pm an cv ct) ⟨us, []⟩ = pure (ps.zip us))
    (len : ∀ xs H Q E, sp xs H Q E → xs.length = ps.length)
    (hbd : ∀ (f : Addr) (cv : Value) (A : Around) (out : List Env) (s : Shared) (H : Hp) (xs : List V) (Q : VK) (E : XK), Room k (A.deeper (envOfC x (defScope st) s.heap.objs.size f cv)) → sp xs H Q E →
      ∃ t, PSs (BxX P w K mg base N x st f cv A out s H E) (defBody st) t ∧ t { nx := fun _ H2 => Q .non H2, rt := Q } (start N xs) H) : HasX P w K mg base x (k + 1) ps [] sp := by
  obtain ⟨f, fd, F, hm⟩ := D
  exact ⟨f, fd, [], F.okX S len fun cv A out s H xs Q E hr h => hbd f cv A out s H xs Q E hr h, hm, F.kp, F.binds hb, .nil, st, F⟩
/-- what stands in a def that may raise: its own way out -/
theorem tkX {N : List Str} {x : Str} {st : Stmt} {f : Addr} {cv : Value} {A : Around} {out : List Env} {s : Shared} {H : Hp} {E : XK} : Takes (BxX P w K mg base N x st f cv A out s H E) (fun cls d _ H => E cls d H) := takes_of rfl rfl rfl rfl
end
section
variable {X : Cx} {k : Nat} {ps : List Str} {sp : Sp} {x : Str} {p pos : Pos} {e : Expr} {es : List Expr} {t : TA} {dvs : List V} {E : XK} {W : WX}
/-- a call whose exceptions leave the def that calls -/
theorem pe_hasX (h : HasX X.prog X.w X.K X.mg X.base x k ps dvs sp) (hr : Room k X.A) (tk : Takes X (fun cls d _ H => E cls d H)) (ha : PA X (e :: es) t) (hg : Gl X x := by rfl) (hdb : (x == ("__debug__" : Str)) = false := by decide)
    (he : starEach (e :: es) X.env = (false, eval e X.env) :: starEach es X.env := by rfl) (hpl : (backTo pos (starEach es X.env)).any (·.1) = false := by rfl) : PE X (.Call (.Name x p) (e :: es) [] pos) (tCall sp dvs E t) := by
  obtain ⟨f, fd, ds, F, hm, hk, hb, hd, _⟩ := h
  exact pe_call F hr hg hm hk hb hd (passes_call tk fun _ _ _ _ z => z) ha hdb he hpl
/-- a call within a try -/
theorem pe_hasS (h : HasX X.prog X.w X.K X.mg X.base x k ps [] sp) (hr : Room k X.A) (tk : Takes X W) (ha : PA X (e :: es) t) (hg : Gl X x := by rfl) (hdb : (x == ("__debug__" : Str)) = false := by decide)
    (he : starEach (e :: es) X.env = (false, eval e X.env) :: starEach es X.env := by rfl) (hpl : (backTo pos (starEach es X.env)).any (·.1) = false := by rfl) : PE X (.Call (.Name x p) (e :: es) [] pos) (tCallS sp (WE W) t) := by
  obtain ⟨f, fd, ds, F, hm, hk, hb, hd, _⟩ := h
  cases hd
  exact pe_callS F hr hg hm hk hb (fun σ => passAt tk σ) ha hdb he hpl
end
/-! ### a class of exceptions -/
def spXI (K : PySem.W.Frag) (C : Addr) (f : Str) : Sp := fun xs H Q _ => ∃ (a : Addr) (v : V), xs = [.ref a, v] ∧ H a = some (exo a C none) ∧ ∀ dx, H dx = none → dx ≠ a → Q .non (upd (upd H dx (exd dx [(f, v)])) a (exo a C (some dx)))
/-- what the written part says of the class at C, whose __init__ sets the field f -/
structure XcC (P : Program) (w : World) (K : PySem.W.Frag) (mg : Str → Option Value) (base : Heap) (x f : Str) (C : Addr) : Prop where
  oex : OexC K C
  gC : mg x = some (.ref C)
  init : ∃ fI fd, PySem.W.findIn K (.ref C) "__init__" = some (some (.ref fI)) ∧ PySem.W.typeIn K (.ref fI) = some (.type "function") ∧ FnOk P w K mg base CX0 1 fI fd ["self", f] (spXI K C f) ∧ Binds K fd ["self", f] []
  xf : XfC K C
  noF : PySem.W.findIn K (.ref C) f = some none
  ha : PySem.W.findIn K (.ref C) "__class__" = some (some (.builtin "object.__class__"))
  hn : PySem.W.specialIn K (.builtin "object.__class__") "__get__" = some (some (.builtin "getset_descriptor.__get__"))
  ht : PySem.W.takesIn K (.builtin "object.__class__") = some true
  hm : PySem.W.mroIn K C (.type "object") = some true
  te : PySem.W.exmOne K (.ref C) (.ref C) = some true
/-- __init__ -/
theorem init_ok {P : Program} {w : World} {K : PySem.W.Frag} {mg : Str → Option Value} {base : Heap} {q f : Str} {C : Addr} {st : Stmt} {fI : Addr} {fd : FuncData} {p1 p2 p3 p4 : Pos} (F : Fun K "__init__" q st fI fd) (S : FnScope ["self", f] ["self", f] (defScope st)) (T : OexC K C) (noF : PySem.W.findIn K (.ref C) f = some none)
    (hb : defBody st = [.Assign [.Attribute (.Name "self" p1) f p2] (.Name f p3) p4])
    (v0 : Vis (defScope st) "self") (v1 : Vis (defScope st) f) (hdb : (f == ("__debug__" : Str)) = false) (hcd : (f == ("__classdict__" : Str)) = false) : FnOk P w K mg base CX0 1 fI fd ["self", f] (spXI K C f) := by
  refine F.ok S (fun xs H Q E h => ?_) (fun cv A out s H xs Q E hr h => ?_)
  · obtain ⟨a, v, rfl, _⟩ := h
    rfl
  · obtain ⟨a, v, rfl, ha, k⟩ := h
    rw [hb]
    refine ⟨_, pss_one (ps_ost (pe_var (i := 0) rfl v0) (pe_var (i := 1) rfl v1 (hd := hdb) (hcd := hcd))), ?_⟩
    exact ⟨_, rfl, _, rfl, a, C, rfl, T, noF, .inl ⟨ha, fun dx nd ne => k dx nd ne⟩⟩
section
variable {X : Cx} {C : Addr} {x f : Str}
theorem mk_heap {H1 : Hp} {a d C : Addr} {f : Str} {v : V} (na : H1 a = none) (nd : d ≠ a) : upd (del (upd (upd (upd H1 a (exo a C none)) d (exd d [(f, v)])) a (exo a C (some d))) a) d (.xd [(f, v)]) = upd H1 d (.xd [(f, v)]) := by
  funext b
  by_cases e : b = d
  · subst e
    rw [upd_same, upd_same]
  · rw [upd_ne e, upd_ne e]
    by_cases e2 : b = a
    · subst e2
      rw [del_same, na]
    · rw [del_ne e2, upd_ne e2, upd_ne e, upd_ne e2]
theorem mk_red {K : PySem.W.Frag} {H1 : Hp} {v : V} {Q : XK} (h : ∀ d, H1 d = none → Q (.ref C) (some d) (upd H1 d (.xd [(f, v)]))) :
    ([v] : List V).length ≤ 1000 ∧ ∀ a, H1 a = none → spXI K C f (.ref a :: ([v] ++ [])) (upd H1 a (exo a C none))
      (fun u H2 => u = .non ∧ ∃ (d : Addr) (fs : List (Str × V)), H2 a = some (exo a C (some d)) ∧ H2 d = some (exd d fs) ∧ H1 d = none ∧ Q (.ref C) (some d) (upd (del H2 a) d (.xd fs))) (fun _ _ _ => False) := by
  refine ⟨(by decide : 1 ≤ 1000), fun a na => ⟨a, v, rfl, upd_same, fun d nd ne => ⟨rfl, d, [(f, v)], upd_same, ?_, ?_, ?_⟩⟩⟩
  · rw [upd_ne ne]
    exact upd_same
  · rw [upd_ne ne] at nd
    exact nd
  · rw [mk_heap na ne]
    rw [upd_ne ne] at nd
    exact h d nd
/-- C(e): behind the argument mk_red -/
theorem pmk_x {e : Expr} {ta : TA} {p pos : Pos} (T : XcC X.prog X.w X.K X.mg X.base x f C) (hr : Room 2 X.A) (ha : PA X [e] ta) (hg : Gl X x := by rfl)
    (hdb : (x == ("__debug__" : Str)) = false := by decide) (he : starEach (e :: []) X.env = (false, eval e X.env) :: starEach [] X.env := by rfl) (hpl : (backTo pos (starEach [] X.env)).any (·.1) = false := by rfl) :
    PMk X (.Call (.Name x p) [e] [] pos) (tMkO C (spXI X.K C f) [] ta) := by
  obtain ⟨fI, fd, i1, i2, i3, i4⟩ := T.init
  exact pmk_oex (CX := CX0) T.oex i1 i2 i3 hr i4 .nil pass0 hg T.gC ha hdb he hpl
theorem ps_raiseX {W : WX} {e : Expr} {ta : TA} {p pos pos2 : Pos} (hc : X.calm = true) (T : XcC X.prog X.w X.K X.mg X.base x f C) (hr : Room 2 X.A) (tk : Takes X W) (ha : PA X [e] ta) (hg : Gl X x := by rfl)
    (hdb : (x == ("__debug__" : Str)) = false := by decide) (he : starEach (e :: []) X.env = (false, eval e X.env) :: starEach [] X.env := by rfl) (hpl : (backTo pos (starEach [] X.env)).any (·.1) = false := by rfl) :
    PS X (.Raise (some (.Call (.Name x p) [e] [] pos)) none pos2) (fun _ σ H => tMkO C (spXI X.K C f) [] ta σ H fun cls d H' => W cls d σ H') := ps_raise hc tk (pmk_x T hr ha hg hdb he hpl)
/-- isinstance(e, c), e the exception that the suite holds -/
def rIsX (K : PySem.W.Frag) (C a : Addr) (cls : Value) (d : Option Addr) : List V → Hp → VK → Prop := fun xs H Q => ∃ (c : V) (cv : Value) (b : Bool) (dd : Addr) (fs : List (Str × V)), xs = [.ref a, c] ∧ cls = .ref C ∧ (∀ u, RelV c u → u = cv) ∧ PySem.W.kitOne K (.ref C) cv = some b ∧ d = some dd ∧ H dd = some (.xd fs) ∧ Q (.bl b) H
theorem call_isX {a : Addr} {oe : Obj} {cls : Value} {d : Option Addr} {pn : List (Addr × Obj)} (T : XcC X.prog X.w X.K X.mg X.base x f C) (hz : Zc cls d oe) (hf : ∃ vs, oe.data = .fields vs) : CallR (X.suite a ((a, oe) :: pn)) (.builtin "isinstance") (rIsX X.K C a cls d) := by
  intro pins s σ H xs us Q I r h
  obtain ⟨c, cv, b, dd, fs, rfl, rfl, hcv, e, rfl, hH, q⟩ := h
  cases r with
  | cons rx rr =>
    cases rr with
    | cons rt rr =>
      cases rr
      cases rx
      have ec := hcv _ rt
      subst ec
      obtain ⟨hget, _⟩ := I.pin (a, oe) (List.mem_append.mpr (.inl List.mem_cons_self))
      obtain ⟨vs, hv⟩ := hf
      have hx : ObjOk X.prog X.w H s.heap dd (.xd fs) := I.hok dd _ hH
      obtain ⟨mA, hns, hr⟩ := hx
      obtain ⟨od, ho, hl⟩ := lookIn_ns hns
      have J : PySem.W.InstAt s.heap a oe C (some od) := ⟨hget, hz.1, by unfold PySem.W.notCls; rw [hv] <;> rfl, by rw [hz.2]; exact ho⟩
      have hcl : (PySem.W.clsIn X.K C).isSome = true := by
        obtain ⟨cd, hc, _⟩ := PySem.W.any_some T.xf.hdC
        rw [hc]
        rfl
      exact PySem.W.kia_one (PySem.W.kitx_exc hcl T.xf.ga T.xf.gg T.xf.exC T.ha T.hn T.ht T.hm) I.kIn J e (fun z => nomatch z) fun tk => ⟨.bl b, H, I.kept (t' := tk) fun _ _ z => z, rfl, q⟩
end
end SE
/-! Small data with great ints; its kinds; len(set(ints)) with duplicates. -/
namespace SE
open PySem PySem.Spec PyProof.Rows L2
/-- a text of signs -/
def okA (x : Str) : Bool := x.cps.toList.all fun c => decide (c < 0x110000)
theorem okA_app {a b : Str} (ha : okA a = true) (hb : okA b = true) : okA (a ++ b) = true := by
  show ((a.cps ++ b.cps).toList.all fun c => decide (c < 0x110000)) = true
  rw [Array.toList_append, List.all_append, Bool.and_eq_true]
  exact ⟨ha, hb⟩
theorem okA_from : ∀ (ts : List Str) (k : Nat) (acc : Str), okA acc = true → (∀ t ∈ ts, okA t = true) → okA (textFrom k acc ts) = true
  | [], k, acc, h, _ => h
  | t :: r, k, acc, h, hs => by
    refine okA_from r (k + 1) _ (okA_app (okA_app h ?_) (hs t List.mem_cons_self)) fun x m => hs x (List.mem_cons_of_mem _ m)
    split <;> decide +kernel
theorem okA_list {ts : List Str} (h : ∀ t ∈ ts, okA t = true) : okA (listText ts) = true := okA_app (okA_from ts 0 "[" (by decide +kernel) h) (by decide +kernel)
theorem okA_join : ∀ (ts : List Str), (∀ t ∈ ts, okA t = true) → okA (Str.join ", " ts) = true
  | [], _ => by decide +kernel
  | [x], h => h x List.mem_cons_self
  | x :: y :: r, h => okA_app (okA_app (h x List.mem_cons_self) (by decide +kernel)) (okA_join (y :: r) fun t m => h t (List.mem_cons_of_mem _ m))
theorem okA_tuple {ts : List Str} (h : ∀ t ∈ ts, okA t = true) : okA (tupleText ts) = true := by
  refine okA_app (okA_app (by decide +kernel) (okA_join ts h)) ?_
  split <;> decide +kernel
structure SD (k B : Nat) (d : PyData) : Prop where
  dep : d.depth ≤ k
  sh : d.showable = true
  lf : d.leavesShort 45 = true
  wt : d.weight ≤ B
  so : okA d.shown = true
theorem SD.mono {k j B C : Nat} {d : PyData} (h : SD k B d) (hk : k ≤ j) (hB : B ≤ C) : SD j C d := ⟨Nat.le_trans h.dep hk, h.sh, h.lf, Nat.le_trans h.wt hB, h.so⟩
theorem sd_all {k B : Nat} : ∀ {ds : List PyData}, (∀ d ∈ ds, SD k B d) → PyData.depthAll ds ≤ k ∧ PyData.showableAll ds = true ∧ PyData.leavesShortAll 45 ds = true ∧ PyData.weightAll ds ≤ ds.length * (B + 1) ∧ ∀ t ∈ PyData.shownAll ds, okA t = true
  | [], _ => by
    refine ⟨?_, ?_, ?_, ?_, fun t m => by cases m⟩
    · simp only [PyData.depthAll]
      exact Nat.zero_le _
    · simp only [PyData.showableAll]
    · simp only [PyData.leavesShortAll]
    · simp only [PyData.weightAll]
      exact Nat.zero_le _
  | d :: ds, h => by
    obtain ⟨a2, a3, a5, a6, a7⟩ := sd_all (ds := ds) fun x hx => h x (List.mem_cons_of_mem _ hx)
    have q := h d List.mem_cons_self
    refine ⟨?_, ?_, ?_, ?_, fun t m => ?_⟩
    · simp only [PyData.depthAll]
      exact Nat.max_le.mpr ⟨q.dep, a2⟩
    · simp only [PyData.showableAll, q.sh, a3, Bool.and_self]
    · simp only [PyData.leavesShortAll, q.lf, a5, Bool.and_self]
    · simp only [PyData.weightAll, List.length_cons]
      have := q.wt
      rw [Nat.add_mul]
      omega
    · rcases List.mem_cons.mp (show t ∈ d.shown :: PyData.shownAll ds from m) with e | e
      · rw [e]; exact q.so
      · exact a7 t e
theorem sd_list {k B : Nat} {ds : List PyData} (h : ∀ d ∈ ds, SD k B d) : SD (k + 1) (ds.length * (B + 1)) (.list ds) := by
  obtain ⟨a2, a3, a5, a6, a7⟩ := sd_all h
  exact ⟨by simp only [PyData.depth]; omega, by simp only [PyData.showable]; exact a3, by simp only [PyData.leavesShort]; exact a5, by simp only [PyData.weight]; exact a6, by simp only [PyData.shown]; exact okA_list a7⟩
theorem sd_tuple {k B : Nat} {ds : List PyData} (h : ∀ d ∈ ds, SD k B d) : SD (k + 1) (ds.length * (B + 1)) (.tuple ds) := by
  obtain ⟨a2, a3, a5, a6, a7⟩ := sd_all h
  exact ⟨by simp only [PyData.depth]; omega, by simp only [PyData.showable]; exact a3, by simp only [PyData.leavesShort]; exact a5, by simp only [PyData.weight]; exact a6, by simp only [PyData.shown]; exact okA_tuple a7⟩
theorem SD.shown {k B : Nat} {d : PyData} (h : SD k B d) (hB : B ≤ 300000) : d.shown.length ≤ sizeLine := by
  have q := PyData.shown_le 45 (by decide) d h.lf
  have := h.wt
  have m : (45 + 2) * d.weight ≤ 47 * 300000 := Nat.mul_le_mul (by decide) (by omega)
  rw [sizeLine_eq]
  omega
/-! ### kinds -/
def isInt : PyData → Bool
  | .int _ | .bool _ => true
  | _ => false
def isBoo : PyData → Bool
  | .bool _ => true
  | _ => false
theorem kit_int {K : PySem.W.Frag} : ∀ d : PyData, PySem.W.kitOne K (.type (tyD d)) (.type "int") = some (isInt d)
  | .none => kit_ty (show kitB "NoneType" "int" = some false by decide +kernel)
  | .bool _ => kit_ty (show kitB "bool" "int" = some true by decide +kernel)
  | .int _ => kit_ty (show kitB "int" "int" = some true by decide +kernel)
  | .str _ => kit_ty (show kitB "str" "int" = some false by decide +kernel)
  | .list _ => kit_ty (show kitB "list" "int" = some false by decide +kernel)
  | .tuple _ => kit_ty (show kitB "tuple" "int" = some false by decide +kernel)
  | .dict _ => kit_ty (show kitB "dict" "int" = some false by decide +kernel)
theorem kit_boo {K : PySem.W.Frag} : ∀ d : PyData, PySem.W.kitOne K (.type (tyD d)) (.type "bool") = some (isBoo d)
  | .none => kit_ty (show kitB "NoneType" "bool" = some false by decide +kernel)
  | .bool _ => kit_ty (show kitB "bool" "bool" = some true by decide +kernel)
  | .int _ => kit_ty (show kitB "int" "bool" = some false by decide +kernel)
  | .str _ => kit_ty (show kitB "str" "bool" = some false by decide +kernel)
  | .list _ => kit_ty (show kitB "list" "bool" = some false by decide +kernel)
  | .tuple _ => kit_ty (show kitB "tuple" "bool" = some false by decide +kernel)
  | .dict _ => kit_ty (show kitB "dict" "bool" = some false by decide +kernel)
/-! ### len(set(xs)) of ints -/
theorem firstMet_len (f : Nat → Int) : ∀ i, (PyProof.Rows.firstMet f i).length ≤ i
  | 0 => Nat.le_refl _
  | i + 1 => by
    have ih := firstMet_len f i
    rw [PyProof.Rows.firstMet_succ]
    unfold PyProof.Rows.step_dedup
    split
    · omega
    · rw [List.length_append, List.length_singleton]
      omega
theorem firstMet_mem (f : Nat → Int) : ∀ i j, j < i → f j ∈ PyProof.Rows.firstMet f i
  | 0, j, h => absurd h (Nat.not_lt_zero _)
  | i + 1, j, h => by
    rw [PyProof.Rows.firstMet_succ]
    unfold PyProof.Rows.step_dedup
    by_cases e : j = i
    · subst e
      split
      · rename_i q
        obtain ⟨x, mx, ex⟩ := List.any_eq_true.mp q
        rw [← beq_iff_eq.mp ex]
        exact mx
      · exact List.mem_append.mpr (.inr (List.mem_singleton.mpr rfl))
    · have ih := firstMet_mem f i j (by omega)
      split
      · exact ih
      · exact List.mem_append.mpr (.inl ih)
theorem firstMet_full (f : Nat → Int) : ∀ i, (PyProof.Rows.firstMet f i).length = i → ∀ a b, a < b → b < i → f a ≠ f b
  | 0, _, _, _, _, h => absurd h (Nat.not_lt_zero _)
  | i + 1, hl, a, b, hab, hb => by
    have l1 := firstMet_len f i
    rw [PyProof.Rows.firstMet_succ] at hl
    unfold PyProof.Rows.step_dedup at hl
    by_cases q : (PyProof.Rows.firstMet f i).any (· == f i) = true
    · rw [if_pos q] at hl
      omega
    · rw [if_neg q, List.length_append, List.length_singleton] at hl
      have ih := firstMet_full f i (by omega)
      by_cases e : b = i
      · subst e
        intro z
        exact q (List.any_eq_true.mpr ⟨f a, firstMet_mem f b a hab, by rw [z]; exact beq_self_eq_true _⟩)
      · exact ih a b hab (by omega)
theorem firstMet_iff (ns : List Int) : (PyProof.Rows.firstMet (fun i => ns.getD i 0) ns.length).length = ns.length ↔ ns.Nodup := by
  constructor
  · intro h
    rw [List.nodup_iff_pairwise_ne, List.pairwise_iff_getElem]
    intro i j hi hj hij
    have q := firstMet_full _ _ h i j hij hj
    rw [List.getD_eq_getElem?_getD, List.getD_eq_getElem?_getD, List.getElem?_eq_getElem hi, List.getElem?_eq_getElem hj] at q
    exact q
  · intro h
    rw [RZ.firstMet_nodup h ns.length (Nat.le_refl _), List.take_length]
def tLenSetJ (K : PySem.W.Frag) (ta : TE) : TE := fun σ H Q => ta σ H fun x H1 => ∃ (l : Addr) (ns : List Int), x = .ref l ∧ SqL K H1 l (ns.map V.int) ∧ ns.length ≤ 4000 ∧ ∀ m : Nat, (m = ns.length ↔ ns.Nodup) → Q (.int (m : Nat)) H1
theorem pe_lenSetJ {X : Cx} {a : Expr} {ta : TE} {p p2 q pos : Pos} (hg : Gl X "len") (hm : X.mg "len" = none) (hg2 : Gl X "set") (hm2 : X.mg "set" = none) (ha : PE X a ta) (hc : X.calm = true := by rfl)
    (na : starEach [a] X.env = (false, eval a X.env) :: starEach [] X.env := by rfl) : PE X (.Call (.Name "len" p) [.Call (.Name "set" p2) [a] [] q] [] pos) (tLenSetJ X.K ta) := by
  constructor
  intro pins s σ H Q I h
  refine Call_ (ld_blt I hg hm boot_len (PyProof.Rows.callWith_builtin1 (PyProof.Rows.args_cons (Call_ (ld_blt I hg2 hm2 boot_set ?_)) rfl) rfl rfl))
  refine PyProof.Rows.callWith_type1 (PyProof.Rows.args_cons (thn (ha.run pins s σ H _ I h) fun v s1 hh => PyProof.Rows.args_nil ?_) na) na rfl
  obtain ⟨x, H1, I1, r1, l, ns, rfl, hq, hl, q1⟩ := hh
  cases r1
  obtain ⟨its, r, pl, hz⟩ := I1.list hq
  have sz : its.toArray.size = ns.length := by rw [List.size_toArray, ← r.length, List.length_map]
  refine call_set_list (I1.ok.hd hc) pl.isList (by simpa using RZ.intsAre_vals r) (by rw [sz]; unfold scanBound; omega) fun h2 tk hS keep => PyProof.Rows.args_nil ?_
  rw [sz] at hS
  have l2 := firstMet_len (fun i => ns.getD i 0) ns.length
  obtain ⟨o, es, ep, tb, ho, hx, dd, _, _, _, hf, hn⟩ := hS
  have J : Inv X pins σ H1 { s1 with heap := h2, toks := tk } := I1.kept fun b u e => keep b u (Heap.lt_size e) e
  exact call_len_set ho hx dd hf (by rw [hn]; omega) ⟨.int ((PyProof.Rows.firstMet (fun i => ns.getD i 0) ns.length).length : Nat), H1, J.tok _, ⟨_, by rw [hn]⟩, q1 _ (firstMet_iff ns)⟩
end SE
namespace SE
open PySem PySem.Spec PyProof.Rows L2
theorem iteB {c : Bool} {A B : Prop} (ht : c = true → A) (hf : c = false → B) : if c = true then A else B := by
  cases c with
  | true => exact iteT (ht rfl)
  | false => exact iteF (hf rfl)
/-! ### what the checks of arrange answer, for any data -/
def whD : PyData → Bool
  | .int _ => true
  | _ => false
def betD (lo hi : Int) : PyData → Bool
  | .int i => decide (lo ≤ i) && decide (i ≤ hi)
  | _ => false
section
variable {P : Program} {w : World} {K : PySem.W.Frag} {mg : Str → Option Value} {base : Heap}
def spWh2 (K : PySem.W.Frag) : Sp := fun xs H Q _ => ∃ (v : V) (d : PyData), xs = [v] ∧ DpX K H v d ∧ Q (.bl (whD d)) H
theorem scWh2 : FnScope ["value"] ["value"] (defScope sIsWhole) := ⟨rfl, rfl, rfl, by decide +kernel, rfl, by decide +kernel, by decide +kernel⟩
theorem has_whole2 (D : Def K mg "is_whole" sIsWhole) (mis : mg "isinstance" = none) (mi : mg "int" = none) (mb : mg "bool" = none) : Has P w K mg base "is_whole" 1 ["value"] [] (spWh2 K) := by
  refine has_of D scWh2 (fun _ _ _ _ _ _ us hl => match us, hl with | [_], _ => rfl) (fun xs H Q E h => ?_) (fun f cv A out s H xs Q E hr h => ?_)
  · obtain ⟨v, d, rfl, _⟩ := h
    rfl
  · obtain ⟨v, d, rfl, hd, k⟩ := h
    refine ⟨_, pss_one (ps_ret (pe_and (pe_callB call_isi (by rfl) mis (by decide +kernel) (pa_cons (pv 0) (pa_cons (pe_bltn (v := .ty "int") (by rfl) mi (by decide +kernel) rfl) pa_nil)))
      (pe_one (pe_not (pe_callB call_isi (by rfl) mis (by decide +kernel) (pa_cons (pv 0) (pa_cons (pe_bltn (v := .ty "bool") (by rfl) mb (by decide +kernel) rfl) pa_nil))))))), ?_⟩
    refine ⟨_, rfl, _, .ty "int", .type (tyD d), .type "int", isInt d, rfl, .ty _, hd.ty, kit_int d, isInt d, rfl, ?_⟩
    refine iteB (fun e => ?_) (fun e => ?_)
    · refine ⟨_, rfl, _, .ty "bool", .type (tyD d), .type "bool", isBoo d, rfl, .ty _, hd.ty, kit_boo d, isBoo d, rfl, ?_⟩
      cases d with
      | int i => exact k
      | bool b => exact k
      | none => cases e
      | str _ => cases e
      | list _ => cases e
      | tuple _ => cases e
      | dict _ => cases e
    · cases d with
      | int i => cases e
      | bool b => cases e
      | none => exact k
      | str _ => exact k
      | list _ => exact k
      | tuple _ => exact k
      | dict _ => exact k
def spBe2 (K : PySem.W.Frag) : Sp := fun xs H Q _ => ∃ (v : V) (d : PyData) (lo hi : Int), xs = [v, .int lo, .int hi] ∧ DpX K H v d ∧ Q (.bl (betD lo hi d)) H
theorem scBet : FnScope ["value", "least", "most"] ["value", "least", "most"] (defScope sIsBetween) := ⟨rfl, rfl, rfl, by decide +kernel, rfl, by decide +kernel, by decide +kernel⟩
theorem has_bet2 (D : Def K mg "is_between" sIsBetween) (G : Has P w K mg base "is_whole" 1 ["value"] [] (spWh2 K)) : Has P w K mg base "is_between" 2 ["value", "least", "most"] [] (spBe2 K) := by
  refine has_of D scBet (fun _ _ _ _ _ _ us hl => match us, hl with | [_, _, _], _ => rfl) (fun xs H Q E h => ?_) (fun f cv A out s H xs Q E hr h => ?_)
  · obtain ⟨v, d, lo, hi, rfl, _⟩ := h
    rfl
  · obtain ⟨v, d, lo, hi, rfl, hd, k⟩ := h
    refine ⟨_, pss_one (ps_ret (pe_and (pe_has G hr (pa_cons (pv 0) pa_nil)) (pe_one (pe_chain op_le op_le (pv 1) (pv 0) (pv 2))))), ?_⟩
    refine ⟨_, rfl, v, d, rfl, hd, whD d, rfl, ?_⟩
    cases hd with
    | int i =>
      refine iteT ⟨_, rfl, _, rfl, lo, i, rfl, rfl, decide (lo ≤ i), rfl, ?_⟩
      have k : Q (.bl (decide (lo ≤ i) && decide (i ≤ hi))) H := k
      refine iteB (fun e => ?_) (fun e => ?_)
      · rw [e, Bool.true_and] at k
        exact ⟨_, rfl, i, hi, rfl, rfl, k⟩
      · rw [e, Bool.false_and] at k
        exact k
    | non => exact iteF k
    | bl b => exact iteF k
    | str z => exact iteF k
    | lst _ _ => exact iteF k
    | tup _ _ => exact iteF k
    | emp _ => exact iteF k
end
end SE
/-! Classes and methods called by keyword where exceptions may come, also within a try. -/
namespace SE
open PySem PySem.Spec PyProof.Rows L2
section
variable {X : Cx} {CT : CXT} {k n : Nat} {f C : Addr} {fd : FuncData} {ps ks : List Str} {sp : Sp} {x m : Str} {p pos apos : Pos} {e o : Expr} {es : List Expr} {kws : List Keyword} {te : TE} {t tk : TA} {ex : L2.St → XK}
  {g : List Value → List Value → List Value} {gV : List V → List V → List V}
/-- a def called with some arguments by keyword; ex σ is what is wished of its exceptions -/
theorem run_kwS {pins : List (Addr × Obj)} {σ : L2.St} {H : Hp} {s : Shared} {Q : VK} {us ws : List Value} {vs zs : List V} (F : FnOk X.prog X.w X.K X.mg X.base CT k f fd ps sp) (room : Room k X.A) (bd : KBn X.K fd ps n ks g gV)
    (out : PassesAt CT X σ (ex σ)) (I : Inv X pins σ H s) (r1 : Vals vs us) (r2 : Vals zs ws) (l1 : vs.length = n) (l2 : zs.length = ks.length) (h : sp (gV vs zs) H Q (ex σ)) :
    wpAny (model X.prog X.w) X.A (call (.ref f) us (ks.zip ws)) (EP X pins σ Q) X.xe s := by
  have to := bd.to s us ws I.kIn (r1.length.symm.trans l1) (r2.length.symm.trans l2)
  have run := F.run X.A X.stack s H ⟨us, ks.zip ws⟩ (g us ws) (gV vs zs) Q (ex σ) room I.env0 to (bd.rel r1 r2) h
  refine wpAny_call (codeAny_mono run fun res s2 done => ?_)
  match res, done with
  | .error ev, done => exact out pins H s ev s2 I done
  | .ok (.ret u), done => exact I.after done
  | .ok .next, done => exact done.elim
  | .ok .brk, done => exact done.elim
  | .ok .cont, done => exact done.elim
/-- a class called with some arguments by keyword -/
theorem run_mkS {pins : List (Addr × Obj)} {σ : L2.St} {H : Hp} {s : Shared} {Q : VK} {us ws : List Value} {vs zs : List V} (M : Mk X.K C f) (F : FnOk X.prog X.w X.K X.mg X.base CT k f fd ps sp) (room : Room (k + 1) X.A) (bd : KBn X.K fd ps (n + 1) ks g gV)
    (out : PassesAt CT X σ (ex σ)) (I : Inv X pins σ H s) (r1 : Vals vs us) (r2 : Vals zs ws) (l1 : vs.length = n) (l2 : zs.length = ks.length)
    (h : ∀ b db, H b = none → H db = none → db ≠ b → sp (gV (.ref b :: vs) zs) (upd (upd H db (.own b)) b (.ins C db [])) (fun v H2 => v = .non ∧ Q (.ref b) H2) (ex σ)) :
    wpAny (model X.prog X.w) X.A (call (.ref C) us (ks.zip ws)) (EP X pins σ Q) X.xe s := by
  have new := h (s.heap.objs.size + 1) s.heap.objs.size (I.hok.fresh (Nat.le_succ _)) (I.hok.fresh (Nat.le_refl _)) (Nat.ne_of_lt (Nat.lt_succ_self _))
  have made := Inv.made (C := C) I
  have rs : Vals (V.ref (s.heap.objs.size + 1) :: vs) (Value.ref (s.heap.objs.size + 1) :: us) := .cons rfl r1
  have len : (Value.ref (s.heap.objs.size + 1) :: us).length = n + 1 := congrArg (· + 1) (r1.length.symm.trans l1)
  have to := bd.to _ (Value.ref (s.heap.objs.size + 1) :: us) ws made.kIn len (r2.length.symm.trans l2)
  have run := F.run _ X.stack _ _ ⟨Value.ref (s.heap.objs.size + 1) :: us, ks.zip ws⟩ (g (Value.ref (s.heap.objs.size + 1) :: us) ws) _ _ (ex σ) (room.make C us (ks.zip ws)) (made.env0.make C us (ks.zip ws)) to (bd.rel rs r2) new
  refine wpAny_call (make_map (f := f) I.kIn M.makes M.init (beq_iff_eq.mp M.fn) (codeAny_mono run fun res s2 done => ?_))
  match res, done with
  | .error ev, done => exact out pins _ _ ev s2 made done
  | .ok (.ret u), done =>
    obtain ⟨v, H2, I2, rel, ev, q⟩ := made.after done
    subst ev
    exact ⟨rel, V.ref (s.heap.objs.size + 1), H2, I2, rfl, q⟩
  | .ok .next, done => exact done.elim
  | .ok .brk, done => exact done.elim
  | .ok .cont, done => exact done.elim
/-- C(e, .., k = v, ..) -/
def tMkS (C : Addr) (n m : Nat) (sp : Sp) (gV : List V → List V → List V) (ex : L2.St → XK) (t tk : TA) : TE := fun σ H Q => t σ H fun vs H1 => tk σ H1 fun zs H2 => vs.length = n ∧ zs.length = m ∧
  ∀ b db, H2 b = none → H2 db = none → db ≠ b → sp (gV (.ref b :: vs) zs) (upd (upd H2 db (.own b)) b (.ins C db [])) (fun v H3 => v = .non ∧ Q (.ref b) H3) (ex σ)
theorem pe_mkS (M : Mk X.K C f) (F : FnOk X.prog X.w X.K X.mg X.base CT k f fd ps sp) (room : Room (k + 1) X.A) (hm : X.mg x = some (.ref C)) (bd : KBn X.K fd ps (n + 1) ks g gV) (out : ∀ σ, PassesAt CT X σ (ex σ)) (ha : PA X (e :: es) t) (hk : PK X kws tk)
    (hks : (backToKw pos (keywordEach kws X.env)).filterMap (·.1) = ks := by rfl) (hall : (backToKw pos (keywordEach kws X.env)).all (·.1.isSome) = true := by rfl) (hg : Gl X x := by rfl) (hd : (x == ("__debug__" : Str)) = false := by decide)
    (he : starEach (e :: es) X.env = (false, eval e X.env) :: starEach es X.env := by rfl) (hpl : ((backTo pos (starEach (e :: es) X.env)).any (·.1) || (backToKw pos (keywordEach kws X.env)).any (·.1.isNone)) = false := by rfl) :
    PE X (.Call (.Name x p) (e :: es) kws pos) (tMkS C n ks.length sp gV ex t tk) := by
  constructor
  intro pins s σ H Q I w
  refine wpAny_Call_Name_kw (ld_glob I hg hm ?_ hd)
  refine PySem.W.callWith_KW (h₀ := X.base) I.ok.mod.kin M.kp hall (thn (ha.run pos pins s σ H _ I w) fun us s1 z => ?_) hpl he
  obtain ⟨vs, H1, I1, r1, w1⟩ := z
  refine thn (hk.run pos pins s1 σ H1 _ I1 w1) fun ws s2 z => ?_
  obtain ⟨zs, H2, I2, r2, l1, l2, w2⟩ := z
  rw [hks]
  exact ⟨I2.kIn, run_mkS M F room bd (out σ) I2 r1 r2 l1 l2 w2⟩
/-- o.m(e, .., k = v, ..) -/
def tMethS (C : Addr) (m : Str) (n j : Nat) (sp : Sp) (gV : List V → List V → List V) (ex : L2.St → XK) (te : TE) (t tk : TA) : TE := fun σ H Q => te σ H fun y H1 => ∃ b db fs, y = .ref b ∧ H1 b = some (.ins C db fs) ∧ fs.lookup m = none ∧
  t σ H1 fun vs H2 => tk σ H2 fun zs H3 => vs.length = n ∧ zs.length = j ∧ sp (gV (.ref b :: vs) zs) H3 Q (ex σ)
theorem pe_methS {pl : Sem Bool} (ho : PE X o te) (c : Cls X.K C) (hm : Meth X.K C m f) (F : FnOk X.prog X.w X.K X.mg X.base CT k f fd ps sp) (room : Room k X.A) (bd : KBn X.K fd ps (n + 1) ks g gV) (out : ∀ σ, PassesAt CT X σ (ex σ)) (ha : PA X (e :: es) t) (hk : PK X kws tk)
    (hks : (backToKw pos (keywordEach kws X.env)).filterMap (·.1) = ks := by rfl) (hall : (backToKw pos (keywordEach kws X.env)).all (·.1.isSome) = true := by rfl)
    (he : starEach (e :: es) X.env = (false, eval e X.env) :: starEach es X.env := by rfl) (hpl : ((backTo pos (starEach (e :: es) X.env)).any (·.1) || (backToKw pos (keywordEach kws X.env)).any (·.1.isNone)) = false := by rfl)
    (hev : eval (.Call (.Attribute o m apos) (e :: es) kws pos) X.env = (do
      let ov ← eval o X.env
      standAt apos.atName
      let (f, first) ← holding [ov] (getMethod ov m pl)
      callWith pos f first (backTo pos (starEach (e :: es) X.env)) (backToKw pos (keywordEach kws X.env))) := by rfl) :
    PE X (.Call (.Attribute o m apos) (e :: es) kws pos) (tMethS C m n ks.length sp gV ex te t tk) := by
  constructor
  intro pins s σ H Q I w
  refine PySem.W.methodCall_KW (pl := pl) (thn (ho.run pins s σ H _ I w) fun u s1 z => ?_) hev
  obtain ⟨y, H1, I1, ry, b, db, fs, ey, hb, lk, w1⟩ := z
  subst ey
  obtain rfl : u = Value.ref b := ry
  refine getmeth_ok I1 hb c hm lk ?_
  refine PySem.W.callWith_KW (first := [.ref b]) (h₀ := X.base) I.ok.mod.kin hm.kp hall (thn (ha.run pos pins s1 σ H1 _ I1 w1) fun us s2 z => ?_) hpl he
  obtain ⟨vs, H2, I2, r1, w2⟩ := z
  refine thn (hk.run pos pins s2 σ H2 _ I2 w2) fun ws s3 z => ?_
  obtain ⟨zs, H3, I3, r2, l1, l2, w3⟩ := z
  rw [hks]
  exact ⟨I3.kIn, run_kwS (n := n + 1) (us := .ref b :: us) (vs := .ref b :: vs) F room bd (out σ) I3 (.cons rfl r1) r2 (congrArg (· + 1) l1) l2 w3⟩
/-! ### a static method of a class -/
/-- C.m is a staticmethod: its record at p, its def at f -/
structure SMet (K : PySem.W.Frag) (C : Addr) (mc : Value) (m : Str) (p f : Addr) : Prop where
  at_ : PySem.W.findCls K (.ref C) mc m = some (.get (.builtin "staticmethod.__get__") (.ref p) .none (.ref C))
  rc : ∃ rest, PySem.W.recIn K p "staticmethod" = some (.ref f :: rest)
  kp : PySem.W.keepIn K (.ref f) = true
/-- a def by its promise on positional values, exceptions as ex σ wishes -/
theorem run_rS {pins : List (Addr × Obj)} {σ : L2.St} {H : Hp} {s : Shared} {Q : VK} {us : List Value} {vs : List V} (F : FnR X.prog X.w X.K X.mg X.base CT k f sp) (room : Room k X.A) (out : PassesAt CT X σ (ex σ)) (I : Inv X pins σ H s) (r : Vals vs us) (h : sp vs H Q (ex σ)) :
    wpAny (model X.prog X.w) X.A (call (.ref f) us) (EP X pins σ Q) X.xe s := by
  refine wpAny_call (codeAny_mono (F X.A X.stack s H us vs Q (ex σ) room I.env0 r h) fun res s2 done => ?_)
  match res, done with
  | .error ev, done => exact out pins H s ev s2 I done
  | .ok (.ret u), done => exact I.after done
  | .ok .next, done => exact done.elim
  | .ok .brk, done => exact done.elim
  | .ok .cont, done => exact done.elim
/-- C.m(e, ..) of a staticmethod -/
def tSMeth (C : Addr) (sp : Sp) (ex : L2.St → XK) (te : TE) (t : TA) : TE := fun σ H Q => te σ H fun y H1 => y = .ref C ∧ t σ H1 fun vs H2 => sp vs H2 Q (ex σ)
theorem pe_smeth {pl : Sem Bool} {mc : Value} {q : Addr} (ho : PE X o te) (rd : ClX.CRead X.K C mc) (c : SMet X.K C mc m q f) (F : FnR X.prog X.w X.K X.mg X.base CT k f sp) (room : Room k X.A) (out : ∀ σ, PassesAt CT X σ (ex σ)) (ha : PA X (e :: es) t)
    (he : starEach (e :: es) X.env = (false, eval e X.env) :: starEach es X.env := by rfl) (hpl : (backTo pos (starEach es X.env)).any (·.1) = false := by rfl)
    (hev : eval (.Call (.Attribute o m apos) (e :: es) [] pos) X.env = (do
      let ov ← eval o X.env
      standAt apos.atName
      let (f, first) ← holding [ov] (getMethod ov m pl)
      callWith pos f first (backTo pos (starEach (e :: es) X.env)) (backToKw pos (keywordEach [] X.env))) := by rfl) :
    PE X (.Call (.Attribute o m apos) (e :: es) [] pos) (tSMeth C sp ex te t) := by
  constructor
  intro pins s σ H Q I w
  refine PySem.W.methodCall_KW (pl := pl) (thn (ho.run pins s σ H _ I w) fun u s1 z => ?_) hev
  obtain ⟨y, H1, I1, ry, ey, w1⟩ := z
  subst ey
  obtain rfl : u = Value.ref C := ry
  obtain ⟨rest, rec⟩ := c.rc
  refine PySem.W.method_cls I1.kIn rd.ga (PySem.W.cls_bind I1.kIn rd.rd c.at_ ?_)
  refine wpAny_call (PySem.W.sm_get (s := { s1 with toks := s1.toks + 1 }) I1.kIn rec (PySem.W.handed_on rfl ?_))
  have I2 : Inv X pins σ H1 { s1 with toks := s1.toks + 1 } := I1.tok _
  refine PySem.W.callWith_K (first := []) (h₀ := X.base) I.ok.mod.kin c.kp (thn (ha.run pos pins _ σ H1 _ I2 w1) fun us s3 z => ?_) he hpl
  obtain ⟨vs, H3, I3, r3, w3⟩ := z
  exact ⟨I3.kIn, run_rS F room (out σ) I3 r3 w3⟩
end
end SE
/-! Several clauses 'except C as e', all with the same name e. -/
namespace SE
open PySem PySem.Spec PyProof.Rows L2
abbrev Clause := Value × (Addr → Value → Option Addr → TS)
/-- the clauses' wishes: each passes on to the next what is not its own -/
def wAsL (K : PySem.W.Frag) (i : Nat) (out : WX) (D : Ends) : List Clause → WX
  | [] => out
  | (c, ts) :: more => wAs K c i ts (wAsL K i out D more) D
/-- each clause names its class and has its suite -/
inductive AsOk (X : Cx) (n : Str) : List ExceptHandler → List Clause → Prop
  | nil : AsOk X n [] []
  | cons {y : Str} {c : Value} {ts : Addr → Value → Option Addr → TS} {first : Stmt} {rest : List Stmt} {p1 p2 : Pos} {more : List ExceptHandler} {cl : List Clause} (name : Names X y c)
      (suite : ∀ (b : Addr) (ob : Obj) (cv : Value) (fld : Option Addr) (kept : List (Addr × Obj)),
        Zc cv fld ob → (∃ fs, ob.data = .fields fs) → PSs (X.suite b ((b, ob) :: kept)) (first :: rest) (ts b cv fld))
      (tail : AsOk X n more cl) :
      AsOk X n (.ExceptHandler (some (.Name y p1)) (some n) (first :: rest) p2 :: more) ((c, ts) :: cl)
section
variable {X : Cx} {n : Str} {i : Nat} {main : List Stmt} {top : ExceptHandler} {more : List ExceptHandler} {cl : List Clause} {at_ : Pos} {tm : WX → TS} {out : WX}
theorem ps_try_asL (e1 : X.stack = X.env :: X.outer) (e2 : X.env.frame = some X.env.locals) (nod : X.N.Nodup) (slot : X.N[i]? = some n) (lo : X.env.kindOf n = some .local) (up : Takes X out)
    (hm : ∀ (W : WX) (kept : List (Addr × Obj)) (x2 : Value → Shared → Prop),
      Takes (X.tr kept x2) W → PassesOwn (model X.prog X.w) X.A X.env x2 → PSs (X.tr kept x2) main (tm W))
    (ok : AsOk X n (top :: more) cl) : PS X (.Try main (top :: more) [] [] at_) (fun D σ H => tm (wAsL X.K i out D cl) D σ H) := by
  constructor
  intro pins s0 σ0 H0 D I0 w0
  have inv := I0.ok
  have frames : X.A.frames = some (X.env :: X.outer) := inv.frames.trans (by rw [e1])
  apply wpAny_Try_except
  have big := (hm (wAsL X.K i out D cl) (X.pn ++ pins)
    (fun ev t1 => wpAny (model X.prog X.w) X.A (noteFrame ev X.env)
      (fun _ t2 => wpAny (model X.prog X.w) X.A (setFlight ev none)
        (fun _ t3 => wpAny (model X.prog X.w) X.A
          (handleBy ev X.env (top :: more)) (SP X pins D) X.xe t3) X.xe t2) X.xe t1) ?takes PassesOwn.looking).run [] s0 σ0 H0 D (I0.toTry _) w0
  case takes =>
    rintro u t ⟨b, B, sB, pb, σ, H, cv, fld, rfl, Jt, nb, grow, sky, free, os, ag, wish⟩
    have J : Inv X pins σ H sB := Jt.ofTry inv
    rw [e1] at sky
    show wpAny (model X.prog X.w) X.A (noteFrame (.ref b) X.env) _ _ _
    refine Sky.land Zc.steady frames e2 sky (fun h5 land grow5 => ?_)
    have J5 : Inv X pins σ H { t with heap := h5 } := J.landed nb land.1 (grow.trans grow5) os ag
    obtain ⟨ob5, fs5, there5, zc5, data5⟩ := land.there
    have apart : b ∉ frs (X.env :: X.outer) := fun hin => by
      obtain ⟨_, o2, at2, no⟩ := land.2.2.1.mem hin
      rw [there5] at at2
      cases at2
      exact no _ data5
    have ne1 : b ≠ X.env.locals := fun e => apart (List.mem_filterMap.mpr ⟨X.env, List.mem_cons_self, by rw [e2, e]⟩)
    have ne2 : b ∉ X.fs := fun hin => by
      obtain ⟨v, hv, hq⟩ := List.mem_filterMap.mp hin
      exact apart (List.mem_filterMap.mpr ⟨v, List.mem_cons_of_mem _ hv, hq⟩)
    have S5 := J5.suite there5 data5 free ne1 ne2
    -- clause by clause
    suffices walk : ∀ {hs : List ExceptHandler} {cs : List Clause}, AsOk X n hs cs → wAsL X.K i out D cs cv fld σ H →
        wpAny (model X.prog X.w) X.A (handleBy (.ref b) X.env hs) (SP X pins D) X.xe { t with heap := h5 } from walk ok wish
    intro hs cs good
    induction good with
    | nil =>
      intro wish
      refine wpAny_handleBy_nil ?_
      obtain ⟨k1, k2, k3, o6, f6, T6, oT6, ts6, at6, z6, d6, first6, rest6⟩ := id land
      unfold PySem.passOn
      refine wpAny_bind (wpAny_field at6 d6 first6 ?_)
      rw [if_neg (show ¬ ((Value.ref T6 == Value.none) = true) from by simp)]
      have leave : wpAny (model X.prog X.w) X.A (setFlight (.ref b) X.env.frame)
          (fun _ t7 => wpAny (model X.prog X.w) X.A (throw (.ref b) : Sem Flow) (SP X pins D) X.xe t7) X.xe { t with heap := h5 } := by
        rw [e2]
        refine HandSPX.setFlight_upZ land fun h7 land7 grow7 => wpAny_throw (up _ _ ?_)
        refine ⟨b, B, sB, pins, σ, H, cv, fld, rfl, J, nb, (grow.trans grow5).trans grow7, .inr (.inr ?_), free, os, ag, wish⟩
        rw [e1]
        exact land7
      first
        | exact wpAny_bind (wpAny_pure (wpAny_bind leave))
        | exact wpAny_bind leave
    | @cons y c ts first rest p1 p2 more2 cl2 name suite tail ih =>
      intro wish
      obtain ⟨hit, match1, yes, no⟩ := wish
      refine wpAny_handleBy_cons (codeAny_handlers_test ?_) (fun q => by cases q)
      have kind : PySem.W.Looks (model X.prog X.w) h5 (typeOf (.ref b)) cv := fun A Q E s k q => by
        refine wpAny_typeOf_ref (k _ _ there5) ?_
        rw [zc5.1]
        exact q
      have found := PySem.W.exm_one (M := model X.prog X.w) J5.kIn kind match1
      have look : ∀ {Q E : Value → Shared → Prop}, Q c { t with heap := h5 } →
          wpAny (model X.prog X.w) (X.A.mark (some (.ref b))) (eval (.Name y p1) X.env) Q E { t with heap := h5 } := fun q => by
        obtain ⟨g1, g2, own | ⟨g3, g4, g5⟩⟩ := name
        · exact ld_glob (X := X.suite b ((b, ob5) :: (X.pn ++ pins))) S5 g1 own q g2
        · exact ld_blt (X := X.suite b ((b, ob5) :: (X.pn ++ pins))) S5 g1 g3 g4 q g5 g2
      refine look (found.here ?_)
      cases hit with
      | false => exact ih (no rfl)
      | true =>
        refine codeAny_handlers_suite_as (HandSPX.lands_againZ land fun h8 land8 grow8 => ?_)
        have J8 : Inv X pins σ H { t with heap := h8 } := J.landed nb land8.1 ((grow.trans grow5).trans grow8) os ag
        obtain ⟨ob8, fs8, there8, zc8, data8⟩ := land8.there
        have S8 := J8.suite there8 data8 free ne1 ne2
        refine store_ok (X := X.suite b ((b, ob8) :: (X.pn ++ pins))) (v := .ref b) S8 nod slot (.inl lo) rfl (fun t9 S9 => ?_) (.inr lo)
        have run := (suite b ob8 cv fld (X.pn ++ pins) zc8 ⟨_, data8⟩).run [] t9 _ H _ S9 (yes rfl b free)
        refine wpAny_mono run (fun fl tA done => ?_) (fun _ _ z => z.elim)
        have clear : ∀ {σA : L2.St} {HA : Hp} {Q : Shared → Prop}, Inv (X.suite b ((b, ob8) :: (X.pn ++ pins))) [] σA HA tA →
            (∀ tB, Inv X pins (σA.set i none) HA tB → Q tB) →
            wpAny (model X.prog X.w) X.A (do bindName X.env n .none; unbindBehindTheSuite X.env n p2) (fun _ tB => Q tB) X.xe tA :=
          fun SA goal => gone_ok (SA.unsuite inv) nod slot lo goal
        match fl, done with
        | .next, ⟨_, _, SA, q⟩ => exact clear SA fun tB JB => ⟨_, _, JB, q⟩
        | .brk, ⟨_, _, SA, q⟩ => exact clear SA fun tB JB => ⟨_, _, JB, q⟩
        | .cont, ⟨_, _, SA, q⟩ => exact clear SA fun tB JB => ⟨_, _, JB, q⟩
        | .ret u, ⟨_, _, _, SA, rel, q⟩ => exact clear SA fun tB JB => ⟨_, _, _, JB, rel, q⟩
  refine wpAny_mono big (fun fl t done => ?_) (fun _ _ z => z)
  match fl, done with
  | .next, ⟨_, _, J, q⟩ => exact wpAny_execs_nil ⟨_, _, J.ofTry inv, q⟩
  | .brk, ⟨_, _, J, q⟩ => exact ⟨_, _, J.ofTry inv, q⟩
  | .cont, ⟨_, _, J, q⟩ => exact ⟨_, _, J.ofTry inv, q⟩
  | .ret u, ⟨_, _, _, J, rel, q⟩ => exact ⟨_, _, _, J.ofTry inv, rel, q⟩
end
end SE
namespace SE
open PySem PySem.Spec PyProof.Rows L2
/-! ### what is refused -/
def bad (C : Addr) (H : Hp) (v : V) (E : XK) : Prop := ∀ (dd : Addr) (H' : Hp), Same H H' → H dd = none → H' dd = some (.xd [("value", v)]) → E (.ref C) (some dd) H'
theorem bad.go {C : Addr} {H H1 : Hp} {v : V} {E : XK} (h : bad C H v E) (s : Same H H1) : bad C H1 v E := fun dd H' s' n e => h dd H' (s.trans s') (s.free n) e
def badI (C : Addr) (H : Hp) (v : V) (E : XK) : Prop := ∀ (dd : Addr) (H' : Hp), Same H H' → H dd = none → H' dd = some (.xd [("index", v)]) → E (.ref C) (some dd) H'
theorem badI.go {C : Addr} {H H1 : Hp} {v : V} {E : XK} (h : badI C H v E) (s : Same H H1) : badI C H1 v E := fun dd H' s' n e => h dd H' (s.trans s') (s.free n) e
/-- steps that are refused, and what the refusal names -/
def BadN (d : PyData) (r : V) : Prop := (mayD d = false ∧ r = .non) ∨
  ∃ ds j x, (d = .list ds ∨ d = .tuple ds) ∧ ds.length ≤ 1000 ∧ ds[j]? = some x ∧ stpD x = false ∧ (∀ i y, i < j → ds[i]? = some y → stpD y = true) ∧ (∀ i y, i ≤ j → ds[i]? = some y → OkD y) ∧ r = .int (j : Nat)
section
variable {P : Program} {w : World} {K : PySem.W.Frag} {mg : Str → Option Value} {base : Heap}
/-! ### check_steps, of what is refused -/
def spBadS (K : PySem.W.Frag) (C : Addr) : Sp := fun xs H Q E => ∃ (v : V) (d : PyData) (r : V), xs = [v] ∧ DpX K H v d ∧ OkD d ∧ BadN d r ∧ badI C H r E
theorem hasX_chk {C : Addr} (D : Def K mg "check_steps" sChkSteps) (GM : Has P w K mg base "may_hold_steps" 1 ["value"] [] (spX K mayD)) (GS : Has P w K mg base "is_step" 2 ["value"] [] (spX K stpD)) (T : XcC P w K mg base "InvalidSteps" "index" C) (B : Blt mg) : HasX P w K mg base "check_steps" 3 ["steps"] [] (spBadS K C) := by
  refine hasX_of D scChk (fun _ _ _ _ _ _ us hl => match us, hl with | [_], _ => rfl) (fun xs H Q E h => ?_) (fun f cv A out s H xs Q E hr h => ?_)
  · obtain ⟨v, d, r, rfl, _⟩ := h
    rfl
  · obtain ⟨v, d, r, rfl, hd, ok, hb, k⟩ := h
    have hr1 : Room 1 _ := hr.mono (by decide)
    have hr2 : Room 2 _ := hr.mono (by decide)
    have tail : ∀ {ds : List PyData} {ys : List V} {j : Nat} {x : PyData}, DpXs K H ys ds → ds[j]? = some x → stpD x = false → (∀ i y, i < j → ds[i]? = some y → stpD y = true) → (∀ i y, i ≤ j → ds[i]? = some y → OkD y) → ∀ {i : Nat} {y : V} {H2 : Hp}, ys[i]? = some y → i ≤ j → Same H H2 → ∃ e, DpX K H2 y e ∧ OkD e ∧ (i < j → stpD e = true) ∧ (i = j → stpD e = false) := by
      intro ds ys j x hV hj hx hg hn i y H2 hy hi s2
      obtain ⟨e, he, hD⟩ := hV.at hy
      refine ⟨e, DpX.same s2 _ _ hD, hn i e hi he, fun q => hg i e q he, fun q => ?_⟩
      rw [q, hj] at he
      cases he
      exact hx
    rcases hb with ⟨hm, rfl⟩ | ⟨ds, j, x, hds, hl, hj, hx, hg, hn, rfl⟩
    · refine ⟨_, pss_cons (ps_if (pt_not (pt_val (pe_has GM hr1 (pa_cons (pv 0) pa_nil)))) (pss_one (ps_raiseX rfl T hr2 tkX (pa_cons pe_non pa_nil))) pss_nil) pss_never, ?_⟩
      refine ⟨_, rfl, v, d, rfl, hd, ok, fun H1 s1 => ⟨mayD d, rfl, ?_⟩⟩
      rw [hm]
      exact iteT (mk_red fun dd hdd => k dd _ (s1.trans (Same.new hdd)) (s1.free hdd) upd_same)
    · have hm : mayD d = true := by
        rcases hds with q | q
        · rw [q]; exact decide_eq_true hl
        · rw [q]; exact decide_eq_true hl
      have jl := (List.getElem?_eq_some_iff.mp hj).1
      rcases hds with rfl | rfl
      · refine ⟨_, pss_cons (ps_if (pt_not (pt_val (pe_has GM hr1 (pa_cons (pv 0) pa_nil)))) (pss_one (ps_raiseX rfl T hr2 tkX (pa_cons pe_non pa_nil))) pss_nil)
          (pss_one (ps_for (passes_of rfl) rfl (pi_enum (by rfl) B.enu (pa_cons (pv 0) pa_nil)) (pg_tup (by rfl) (pgs_cons (pg_name (i := 1) scChk.nd rfl (.inl rfl)) (pgs_cons (pg_name (i := 2) scChk.nd rfl (.inl rfl)) pgs_nil)))
            (pss_one (ps_if (pt_not (pt_val (pe_has GS hr (pa_cons (pv 2) pa_nil)))) (pss_one (ps_raiseX rfl T hr2 tkX (pa_cons (pv 1) pa_nil))) pss_nil)))), ?_⟩
        refine ⟨_, rfl, v, _, rfl, hd, ok, fun H1 s1 => ⟨mayD (.list ds), rfl, ?_⟩⟩
        rw [hm]
        cases hd with
        | @lst a ys _ hS hV =>
        have ly := hV.len
        refine iteF ⟨_, rfl, a, ys, rfl, Same.seq s1 hS, for_it (walk_enum (K := K) (a := a) (xs := ys)) (fun i σ H2 => ∃ y1 y2, σ = [some (.ref a), y1, y2] ∧ Same H H2 ∧ i ≤ j) ⟨none, none, rfl, s1, Nat.zero_le _⟩ (fun i σ H2 _ q => ?_) ?_ ?_⟩
        · obtain ⟨_, _, _, s2, _⟩ := q
          exact Same.seq s2 hS
        · rintro i x σ H2 H3 hi ⟨y1, y2, rfl, s2, ij⟩ ⟨T', p, y, rfl, nT, rfl, hp, hy⟩
          cases Option.some.inj hp
          refine ⟨T', _, rfl, .of upd_same, rfl, _, _, rfl, _, _, rfl, rfl, ?_⟩
          have s3 : Same H (upd H2 T' (.tup [.int (i : Nat), y])) := Same.free2 s2 (s2.free nT)
          obtain ⟨e, h1, h2, h3, h4⟩ := tail hV hj hx hg hn hy ij s3
          refine ⟨_, rfl, y, e, rfl, h1, h2, fun H4 s4 => ⟨stpD e, rfl, ?_⟩⟩
          have s5 := s3.trans s4
          by_cases c : i = j
          · rw [h4 c]
            refine iteT ⟨_, rfl, mk_red fun dd hdd => ?_⟩
            rw [c] at *
            exact k dd _ (s5.trans (Same.new hdd)) (s5.free hdd) upd_same
          · rw [h3 (by omega)]
            exact iteF ⟨_, _, rfl, s5, by omega⟩
        · rintro σ H2 ⟨y1, y2, rfl, s2, ij⟩
          omega
      · refine ⟨_, pss_cons (ps_if (pt_not (pt_val (pe_has GM hr1 (pa_cons (pv 0) pa_nil)))) (pss_one (ps_raiseX rfl T hr2 tkX (pa_cons pe_non pa_nil))) pss_nil)
          (pss_one (ps_for (passes_of rfl) rfl (pi_enumT (by rfl) B.enu (pa_cons (pv 0) pa_nil)) (pg_tup (by rfl) (pgs_cons (pg_name (i := 1) scChk.nd rfl (.inl rfl)) (pgs_cons (pg_name (i := 2) scChk.nd rfl (.inl rfl)) pgs_nil)))
            (pss_one (ps_if (pt_not (pt_val (pe_has GS hr (pa_cons (pv 2) pa_nil)))) (pss_one (ps_raiseX rfl T hr2 tkX (pa_cons (pv 1) pa_nil))) pss_nil)))), ?_⟩
        refine ⟨_, rfl, v, _, rfl, hd, ok, fun H1 s1 => ⟨mayD (.tuple ds), rfl, ?_⟩⟩
        rw [hm]
        cases hd with
        | @tup a ys _ hS hV =>
        have ly := hV.len
        refine iteF ⟨_, rfl, a, ys, rfl, Same.tup s1 hS, for_it (walk_enumT (K := K) (a := a) (xs := ys)) (fun i σ H2 => ∃ y1 y2, σ = [some (.ref a), y1, y2] ∧ Same H H2 ∧ i ≤ j) ⟨none, none, rfl, s1, Nat.zero_le _⟩ (fun i σ H2 _ q => ?_) ?_ ?_⟩
        · obtain ⟨_, _, _, s2, _⟩ := q
          exact Same.tup s2 hS
        · rintro i x σ H2 H3 hi ⟨y1, y2, rfl, s2, ij⟩ ⟨T', p, y, rfl, nT, rfl, hp, hy⟩
          cases Option.some.inj hp
          refine ⟨T', _, rfl, .of upd_same, rfl, _, _, rfl, _, _, rfl, rfl, ?_⟩
          have s3 : Same H (upd H2 T' (.tup [.int (i : Nat), y])) := Same.free2 s2 (s2.free nT)
          obtain ⟨e, h1, h2, h3, h4⟩ := tail hV hj hx hg hn hy ij s3
          refine ⟨_, rfl, y, e, rfl, h1, h2, fun H4 s4 => ⟨stpD e, rfl, ?_⟩⟩
          have s5 := s3.trans s4
          by_cases c : i = j
          · rw [h4 c]
            refine iteT ⟨_, rfl, mk_red fun dd hdd => ?_⟩
            rw [c] at *
            exact k dd _ (s5.trans (Same.new hdd)) (s5.free hdd) upd_same
          · rw [h3 (by omega)]
            exact iteF ⟨_, _, rfl, s5, by omega⟩
        · rintro σ H2 ⟨y1, y2, rfl, s2, ij⟩
          omega

/-! ### check_word, check_limit -/
def spCwX (K : PySem.W.Frag) (C : Addr) : Sp := fun xs H Q E => ∃ (v : V) (d : PyData), xs = [v] ∧ DpX K H v d ∧ OkD d ∧ (wordD d = true → ∀ H', Same H H' → Q .non H') ∧ (wordD d = false → bad C H v E)
theorem scKw : FnScope ["word"] ["word"] (defScope sChkWord) := ⟨rfl, rfl, rfl, by decide +kernel, rfl, by decide +kernel, by decide +kernel⟩
theorem hasX_cw {C : Addr} (D : Def K mg "check_word" sChkWord) (G : Has P w K mg base "is_word" 2 ["value"] [] (spX K wordD)) (T : XcC P w K mg base "InvalidWord" "value" C) : HasX P w K mg base "check_word" 3 ["word"] [] (spCwX K C) := by
  refine hasX_of D scKw (fun _ _ _ _ _ _ us hl => match us, hl with | [_], _ => rfl) (fun xs H Q E h => ?_) (fun f cv A out s H xs Q E hr h => ?_)
  · obtain ⟨v, d, rfl, _⟩ := h
    rfl
  · obtain ⟨v, d, rfl, hd, ok, kY, kN⟩ := h
    refine ⟨_, pss_one (ps_if (pt_not (pt_val (pe_has G hr (pa_cons (pv 0) pa_nil)))) (pss_one (ps_raiseX rfl T hr tkX (pa_cons (pv 0) pa_nil))) pss_nil), ?_⟩
    refine ⟨_, rfl, v, d, rfl, hd, ok, fun H1 s1 => ⟨wordD d, rfl, ?_⟩⟩
    cases hw : wordD d with
    | true => exact iteF (kY hw H1 s1)
    | false =>
      refine iteT ⟨_, rfl, mk_red fun dd hdd => ?_⟩
      exact kN hw dd _ (s1.trans (Same.new hdd)) (s1.free hdd) upd_same
def limD (d : PyData) : Bool := match d with
  | .none => true
  | d => betD 0 1000 d
def spLmX (K : PySem.W.Frag) : Sp := fun xs H Q _ => ∃ (v : V) (d : PyData), xs = [v] ∧ DpX K H v d ∧ Q (.bl (limD d)) H
theorem scLm : FnScope ["value"] ["value"] (defScope sIsLimit) := ⟨rfl, rfl, rfl, by decide +kernel, rfl, by decide +kernel, by decide +kernel⟩
theorem scCl : FnScope ["limit"] ["limit"] (defScope sChkLimit) := ⟨rfl, rfl, rfl, by decide +kernel, rfl, by decide +kernel, by decide +kernel⟩
theorem has_limX (D : Def K mg "is_limit" sIsLimit) (G : Has P w K mg base "is_between" 2 ["value", "least", "most"] [] (spBe2 K)) (hM : ∃ t, mg "MOST_LIMIT" = some (.int 1000 t)) : Has P w K mg base "is_limit" 3 ["value"] [] (spLmX K) := by
  obtain ⟨t, hM⟩ := hM
  refine has_of D scLm (fun _ _ _ _ _ _ us hl => match us, hl with | [_], _ => rfl) (fun xs H Q E h => ?_) (fun f cv A out s H xs Q E hr h => ?_)
  · obtain ⟨v, d, rfl, _⟩ := h
    rfl
  · obtain ⟨v, d, rfl, hd, k⟩ := h
    refine ⟨_, pss_one (ps_ret (pe_or (pe_cmpR op_isN (pv 0) pe_non (nomark _)) (pe_one (pe_has G hr (pa_cons (pv 0) (pa_cons pe_int (pa_cons (pe_glob (v := .int 1000) rfl hM ⟨_, rfl⟩) pa_nil))))))), ?_⟩
    cases hd with
    | non => exact ⟨_, rfl, rfl, true, rfl, iteT k⟩
    | int i => exact ⟨_, rfl, rfl, false, rfl, iteF ⟨_, rfl, _, _, _, _, rfl, .int i, k⟩⟩
    | bl b => exact ⟨_, rfl, rfl, false, rfl, iteF ⟨_, rfl, _, _, _, _, rfl, .bl b, k⟩⟩
    | str z => exact ⟨_, rfl, rfl, false, rfl, iteF ⟨_, rfl, _, _, _, _, rfl, .str z, k⟩⟩
    | lst h1 h2 => exact ⟨_, rfl, rfl, false, rfl, iteF ⟨_, rfl, _, _, _, _, rfl, .lst h1 h2, k⟩⟩
    | tup h1 h2 => exact ⟨_, rfl, rfl, false, rfl, iteF ⟨_, rfl, _, _, _, _, rfl, .tup h1 h2, k⟩⟩
    | emp h1 => exact ⟨_, rfl, rfl, false, rfl, iteF ⟨_, rfl, _, _, _, _, rfl, .emp h1, k⟩⟩
def spClX (K : PySem.W.Frag) (C : Addr) : Sp := fun xs H Q E => ∃ (v : V) (d : PyData), xs = [v] ∧ DpX K H v d ∧ (limD d = true → Q .non H) ∧ (limD d = false → bad C H v E)
theorem hasX_cl {C : Addr} (D : Def K mg "check_limit" sChkLimit) (G : Has P w K mg base "is_limit" 3 ["value"] [] (spLmX K)) (T : XcC P w K mg base "InvalidNumber" "value" C) : HasX P w K mg base "check_limit" 4 ["limit"] [] (spClX K C) := by
  refine hasX_of D scCl (fun _ _ _ _ _ _ us hl => match us, hl with | [_], _ => rfl) (fun xs H Q E h => ?_) (fun f cv A out s H xs Q E hr h => ?_)
  · obtain ⟨v, d, rfl, _⟩ := h
    rfl
  · obtain ⟨v, d, rfl, hd, kY, kN⟩ := h
    have hr2 : Room 2 _ := hr.mono (by decide)
    refine ⟨_, pss_one (ps_if (pt_not (pt_val (pe_has G hr (pa_cons (pv 0) pa_nil)))) (pss_one (ps_raiseX rfl T hr2 tkX (pa_cons (pv 0) pa_nil))) pss_nil), ?_⟩
    refine ⟨_, rfl, v, d, rfl, hd, limD d, rfl, ?_⟩
    cases hw : limD d with
    | true => exact iteF (kY hw)
    | false => exact iteT ⟨_, rfl, mk_red fun dd hdd => kN hw dd _ (Same.new hdd) hdd upd_same⟩
end
end SE
namespace SE
open PySem PySem.Spec PyProof.Rows L2
abbrev sOf : Stmt := inClass sEffect 1
abbrev sApply : Stmt := inClass sEffect 12
/-- a peak that is refused beside the least one -/
def BadPk (d : PyData) (l : Int) : Prop := d ≠ .none ∧ (whD d = false ∨ ∃ p, d = .int p ∧ p < l)
section
variable {P : Program} {w : World} {K : PySem.W.Frag} {mg : Str → Option Value} {base : Heap} {C CW CN CS : Addr}
/-! ### Effect(..) of what is refused -/
def spInitX (K : PySem.W.Frag) (C CW CN : Addr) : Sp := fun vs H Q E => ∃ (x dx : Addr) (u v pk : V) (du dv dp : PyData), vs = [.ref x, u, v, pk] ∧ H x = some (.ins C dx []) ∧ DpX K H u du ∧ OkD du ∧ DpX K H v dv ∧ OkD dv ∧ DpX K H pk dp ∧
  ((wordD du = false ∧ bad CW H u E) ∨ (wordD du = true ∧ wordD dv = false ∧ bad CW H v E) ∨
   (wordD du = true ∧ wordD dv = true ∧ bad CN H pk E ∧ ∃ a b xs ys, u = .ref a ∧ v = .ref b ∧ SqT K H a (xs.map V.str) ∧ SqT K H b (ys.map V.str) ∧ BadPk dp (lp xs ys)))
theorem ok_initX {f : Addr} {fd : FuncData} (F : Fun K "__init__" "Effect.__init__" sInit f fd) (GW : HasX P w K mg base "check_word" 3 ["word"] [] (spCwX K CW)) (GL : Has P w K mg base "least_peak" 1 ["pops", "pushes"] [] (spLeast K)) (GH : Has P w K mg base "is_whole" 1 ["value"] [] (spWh2 K))
    (TN : XcC P w K mg base "InvalidNumber" "value" CN) : FnOk P w K mg base (L2.CX P w) 4 f fd pInit (spInitX K C CW CN) := by
  refine F.okX scIn (fun vs H Q E h => ?_) (fun cv A out s H vs Q E hr h => ?_)
  · obtain ⟨x, dx, u, v, pk, du, dv, dp, rfl, _⟩ := h
    rfl
  · obtain ⟨x, dx, u, v, pk, du, dv, dp, rfl, hx, hu, ou, hv, ov, hp, h⟩ := h
    have hr1 : Room 1 _ := hr.mono (by decide)
    have hr2 : Room 2 _ := hr.mono (by decide)
    rcases h with ⟨w1, k⟩ | ⟨w1, w2, k⟩ | ⟨w1, w2, k, a, b, xs, ys, rfl, rfl, ha, hb, bp⟩
    · refine ⟨_, pss_cons (ps_expr (pe_hasX GW hr tkX (pa_cons (pv 1) pa_nil))) pss_never, ?_⟩
      exact ⟨_, rfl, u, du, rfl, hu, ou, fun z => (by rw [w1] at z; cases z), fun _ => k⟩
    · refine ⟨_, pss_cons (ps_expr (pe_hasX GW hr tkX (pa_cons (pv 1) pa_nil))) (pss_cons (ps_expr (pe_hasX GW hr tkX (pa_cons (pv 2) pa_nil))) pss_never), ?_⟩
      refine ⟨_, rfl, u, du, rfl, hu, ou, fun _ H1 s1 => ⟨_, rfl, v, dv, rfl, DpX.same s1 _ _ hv, ov, fun z => (by rw [w2] at z; cases z), fun _ => k.go s1⟩, fun z => (by rw [w1] at z; cases z)⟩
    · refine ⟨_, pss_cons (ps_expr (pe_hasX GW hr tkX (pa_cons (pv 1) pa_nil))) (pss_cons (ps_expr (pe_hasX GW hr tkX (pa_cons (pv 2) pa_nil)))
        (pss_cons (ps_set (i := 4) scIn.nd rfl (.inl rfl) (pe_has GL hr1 (pa_cons (pv 1) (pa_cons (pv 2) pa_nil))))
        (pss_cons (ps_if (PW.pt (pw_and (pt_cmpR op_notN (pv 3) pe_non (nomark _)) (pw_and1 (PW.pt (pw_or (pt_not (pt_val (pe_has GH hr1 (pa_cons (pv 3) pa_nil)))) (pw_or1 (pt_cmpR op_lt (pv 3) (pv 4) (nomark _)))))))) (pss_one (ps_raiseX rfl TN hr2 tkX (pa_cons (pv 3) pa_nil))) pss_nil) pss_never))), ?_⟩
      refine ⟨_, rfl, .ref a, du, rfl, hu, ou, fun _ H1 s1 => ⟨_, rfl, .ref b, dv, rfl, DpX.same s1 _ _ hv, ov, fun _ H2 s2 => ?_, fun z => (by rw [w2] at z; cases z)⟩, fun z => (by rw [w1] at z; cases z)⟩
      have s12 := s1.trans s2
      refine ⟨_, rfl, _, rfl, a, b, xs, ys, rfl, Same.tup s12 ha, Same.tup s12 hb, ?_⟩
      have hp2 := DpX.same s12 _ _ hp
      have fin : ∀ {σ : L2.St}, σ[3]? = some (some pk) → tMkO CN (spXI K CN "value") [] (tCons (tVar 3) tNil) σ H2 (fun cls d H' => E cls d H') := fun {σ} e => ⟨pk, e, mk_red fun dd hdd => k dd _ (s12.trans (Same.new hdd)) (s12.free hdd) upd_same⟩
      obtain ⟨nn, bp⟩ := bp
      have go : ∀ {A B : Prop}, (whD dp = false → A) → (∀ p, dp = .int p → p < lp xs ys → B) → A ∨ B := fun {A B} f g => bp.elim (fun z => .inl (f z)) fun ⟨p, e, l⟩ => .inr (g p e l)
      cases hp2 with
      | non => exact absurd rfl nn
      | int i =>
        have l : i < lp xs ys := by
          rcases bp with z | ⟨p, e, l⟩
          · cases z
          · cases e
            exact l
        refine ⟨_, rfl, rfl, true, rfl, iteT ⟨_, rfl, .int i, .int i, rfl, .int i, true, rfl, iteF ⟨_, rfl, _, rfl, i, lp xs ys, rfl, rfl, true, ?_, iteT ?_⟩⟩⟩
        · exact congrArg V.bl (decide_eq_true l)
        · exact fin rfl
      | bl b => exact ⟨_, rfl, rfl, true, rfl, iteT ⟨_, rfl, .bl b, .bool b, rfl, .bl b, false, rfl, iteT (fin rfl)⟩⟩
      | str z => exact ⟨_, rfl, rfl, true, rfl, iteT ⟨_, rfl, .str z, .str z, rfl, .str z, false, rfl, iteT (fin rfl)⟩⟩
      | lst h1 h2 => exact ⟨_, rfl, rfl, true, rfl, iteT ⟨_, rfl, _, _, rfl, .lst h1 h2, false, rfl, iteT (fin rfl)⟩⟩
      | tup h1 h2 => exact ⟨_, rfl, rfl, true, rfl, iteT ⟨_, rfl, _, _, rfl, .tup h1 h2, false, rfl, iteT (fin rfl)⟩⟩
      | emp h1 => exact ⟨_, rfl, rfl, true, rfl, iteT ⟨_, rfl, _, _, rfl, .emp h1, false, rfl, iteT (fin rfl)⟩⟩
/-! ### apply of what is refused -/
def spApX (K : PySem.W.Frag) (CW CN : Addr) : Sp := fun vs H Q E => ∃ (e u l : V) (du dl : PyData), vs = [e, u, l] ∧ DpX K H u du ∧ OkD du ∧ DpX K H l dl ∧
  ((wordD du = false ∧ bad CW H u E) ∨ (wordD du = true ∧ limD dl = false ∧ bad CN H l E))
abbrev pApp : List Str := ["self", "stack", "limit"]
theorem scAp : FnScope pApp pApp (defScope sApply) := ⟨rfl, rfl, rfl, by decide +kernel, rfl, by decide +kernel, by decide +kernel⟩
theorem ok_applyX {f : Addr} {fd : FuncData} (F : Fun K "apply" "Effect.apply" sApply f fd) (GW : HasX P w K mg base "check_word" 3 ["word"] [] (spCwX K CW)) (GL : HasX P w K mg base "check_limit" 4 ["limit"] [] (spClX K CN)) : FnOk P w K mg base (L2.CX P w) 5 f fd pApp (spApX K CW CN) := by
  refine F.okX scAp (fun vs H Q E h => ?_) (fun cv A out s H vs Q E hr h => ?_)
  · obtain ⟨e, u, l, du, dl, rfl, _⟩ := h
    rfl
  · obtain ⟨e, u, l, du, dl, rfl, hu, ou, hl, h⟩ := h
    have hr3 : Room 3 _ := hr.mono (by decide)
    rcases h with ⟨w1, k⟩ | ⟨w1, w2, k⟩
    · refine ⟨_, pss_cons (ps_expr (pe_hasX GW hr3 tkX (pa_cons (pv 1) pa_nil))) pss_never, ?_⟩
      exact ⟨_, rfl, u, du, rfl, hu, ou, fun z => (by rw [w1] at z; cases z), fun _ => k⟩
    · refine ⟨_, pss_cons (ps_expr (pe_hasX GW hr3 tkX (pa_cons (pv 1) pa_nil))) (pss_cons (ps_expr (pe_hasX GL hr tkX (pa_cons (pv 2) pa_nil))) pss_never), ?_⟩
      exact ⟨_, rfl, u, du, rfl, hu, ou, fun _ H1 s1 => ⟨_, rfl, l, dl, rfl, DpX.same s1 _ _ hl, fun z => (by rw [w2] at z; cases z), fun _ => k.go s1⟩, fun z => (by rw [w1] at z; cases z)⟩
/-! ### effect_of, Effect.of of what is refused -/
theorem hasX_eo (D : Def K mg "effect_of" sEffectOf) (GC : HasX P w K mg base "check_steps" 3 ["steps"] [] (spBadS K CS)) : HasX P w K mg base "effect_of" 4 ["steps"] [] (spBadS K CS) := by
  refine hasX_of D scEo (fun _ _ _ _ _ _ us hl => match us, hl with | [_], _ => rfl) (fun xs H Q E h => ?_) (fun f cv A out s H xs Q E hr h => ?_)
  · obtain ⟨v, d, r, rfl, _⟩ := h
    rfl
  · obtain ⟨v, d, r, rfl, h⟩ := h
    exact ⟨_, pss_cons (ps_expr (pe_hasX GC hr tkX (pa_cons (pv 0) pa_nil))) pss_never, _, rfl, v, d, r, rfl, h⟩
def spOfX (K : PySem.W.Frag) (CS : Addr) : Sp := fun vs H Q E => ∃ (ds : List PyData) (r : V), DpXs K H vs ds ∧ OkD (.tuple ds) ∧ vs.length ≤ 1000 ∧ BadN (.tuple ds) r ∧ badI CS H r E
theorem scOf : FnScope ["steps"] (([] : List Str) ++ ([("steps" : Str)] : List Str)) (defScope sOf) := ⟨rfl, rfl, rfl, by decide +kernel, rfl, by decide +kernel, by decide +kernel⟩
theorem bind_star0 {B : List Value → Sem (List (Str × Value))} {pv : Str} (h0 : B [] = (newTuple [] >>= fun t => pure [(pv, t)])) (h1 : ∀ r rs, B (r :: rs) = (newTuple (r :: rs) >>= fun t => pure [(pv, t)])) :
    ∀ us rest : List Value, us.length = ([] : List Str).length → B (us ++ rest) = (newTuple rest >>= fun t => pure (([] : List Str).zip us ++ [(pv, t)]))
  | [], [], _ => h0
  | [], r :: rs, _ => h1 r rs
theorem ok_ofX {f : Addr} {fd : FuncData} (F : Fun K "of" "Effect.of" sOf f fd) (GE : HasX P w K mg base "effect_of" 4 ["steps"] [] (spBadS K CS)) : FnR P w K mg base (L2.CX P w) 5 f (spOfX K CS) := by
  obtain ⟨oc, od, kV, doc, pm, an, cv, ct, osl, rfl, look, hcode⟩ := F.ex
  refine FnR.imp (StX.fn_star (k := 4) (ps := []) (pv := "steps") (N := ["steps"]) (sp := spBadS K CS) look hcode scOf StX.cxUp (bind_star0 (B := fun xs => bindArgs (PySem.W.fnOf "of" "Effect.of" (defArgs sOf) (defBody sOf) (defScope sOf) Value.none kV doc pm an cv ct) ⟨xs, []⟩) rfl (fun r rs => rfl)) (fun A out s H vs Q E hr h => ?_)) (fun vs H Q E h => ?_)
  rotate_left
  · obtain ⟨ds, r, hd, ok, l, bn, k⟩ := h
    refine ⟨[], vs, rfl, rfl, by rw [sizeLine_eq]; omega, fun p hp => ⟨.ref p, .tuple ds, r, rfl, .tup (.of upd_same) (DpXs.same (Same.new hp) _ _ hd), ok, bn, k.go (Same.new hp)⟩⟩
  obtain ⟨v, d, r, rfl, h⟩ := h
  exact ⟨_, pss_one (ps_ret (pe_hasX GE hr tkX (pa_cons (pv 0) pa_nil))), _, rfl, v, d, r, rfl, h⟩
end
end SE
namespace SE
open PySem PySem.Spec PyProof.Rows L2
section
variable {P : Program} {w : World} {K : PySem.W.Frag} {mg : Str → Option Value} {base : Heap} {C CW CN CS S : Addr}
/-! ### _law_raised: each door refuses -/
abbrev nRa : List Str := ["_law_door", "_law_one", "_law_two", "_law_three", "_law_effect", "e"]
abbrev pRa : List Str := ["_law_door", "_law_one", "_law_two", "_law_three"]
theorem scRa : FnScope nRa pRa (defScope sLawRaised) := ⟨rfl, rfl, rfl, by decide +kernel, rfl, by decide +kernel, by decide +kernel⟩
def ts1 (K : PySem.W.Frag) (C S : Addr) : Addr → Value → Option Addr → TS := fun a cls d =>
  tRet (tLst (tCons (tC (.str "word")) (tCons (tCB (rRepX K) (tCons (tXf a cls d C "value" (tVar 5)) tNil)) (tCons (tCB (rIsX K C a cls d) (tCons (tVar 5) (tCons (tC (.ref S)) tNil))) tNil))))
def ts2 (K : PySem.W.Frag) (C : Addr) : Addr → Value → Option Addr → TS := fun a cls d =>
  tRet (tLst (tCons (tC (.str "number")) (tCons (tCB (rRepX K) (tCons (tXf a cls d C "value" (tVar 5)) tNil)) (tCons (tCB (rIsX K C a cls d) (tCons (tVar 5) (tCons (tC (.ty "ValueError")) tNil))) tNil))))
def ts3 (K : PySem.W.Frag) (C S : Addr) : Addr → Value → Option Addr → TS := fun a cls d =>
  tRet (tLst (tCons (tC (.str "steps")) (tCons (tXf a cls d C "index" (tVar 5)) (tCons (tCB (rIsX K C a cls d) (tCons (tVar 5) (tCons (tC (.ref S)) tNil))) tNil))))
def tbRa (K : PySem.W.Frag) (C CW CN CS : Addr) (W : WX) : TS :=
  tIfS (tTest (tOp rEq (tVar 0) (tC (.int 0)))) (tDrop (tMkS C 2 1 (spInitX K C CW CN) (fun vs zs => vs ++ zs) (WE W) (tCons (tVar 1) (tCons (tVar 2) tNil)) (tCons (tVar 3) tNil)))
    (tIfS (tTest (tOp rEq (tVar 0) (tC (.int 1))))
      (tSeq (tAsg (tOp (rIxL K) (tLst (tCons (tEff2 K C (tCons (tTup tNil) (tCons (tTup tNil) tNil))) (tCons (tCMeth0 C (spNever C) E0 (tC (.ref C))) (tCons (tEffK K C (tCons (tTup (tCons (tC (.str "q")) tNil)) (tCons (tTup tNil) tNil)) (tC (.int 3))) tNil)))) (tOrT K (tVar 3) (tC (.int 0)))) (gName 4))
        (tDrop (tMethS C "apply" 1 1 (spApX K CW CN) (fun vs zs => vs ++ zs) (WE W) (tVar 4) (tCons (tVar 1) tNil) (tCons (tVar 2) tNil))))
      (tIfS (tTest (tOp rEq (tVar 0) (tC (.int 2)))) (tDrop (tCallS (spBadS K CS) (WE W) (tCons (tVar 1) tNil)))
        (tDrop (tSMeth C (spOfX K CS) (WE W) (tC (.ref C)) (tCons (tTup (tCons (tC (.str "push")) (tCons (tC (.str "a")) tNil))) (tCons (tVar 1) (tCons (tVar 2) tNil)))))))
theorem EffV.app {K : PySem.W.Frag} {C : Addr} {H : Hp} {e : Addr} : ∀ {o : Eff}, EffV K C H e o → ∃ dx fs, H e = some (.ins C dx fs) ∧ fs.lookup ("apply" : Str) = none
  | none, h => by
    obtain ⟨dx, h1⟩ := NevAt.ex h
    exact ⟨dx, _, h1, rfl⟩
  | some (_, _, _), h => by
    obtain ⟨dx, u, v, h1, _⟩ := EffAt.ex h
    exact ⟨dx, _, h1, rfl⟩
theorem item_q : Item ("q" : Str) := ⟨by decide +kernel, by decide +kernel, by decide +kernel⟩
/-- what is answered of a refused word, number, index -/
def RW (H : Hp) (Q : VK) (n : Str) (d : PyData) : Prop := ∀ (l : Addr) (H' : Hp), Same H H' → H' l = some (.lst [.str n, .str d.shown, .bl true]) → Q (.ref l) H'
def RS (H : Hp) (Q : VK) (r : V) : Prop := ∀ (l : Addr) (H' : Hp), Same H H' → H' l = some (.lst [.str "steps", r, .bl true]) → Q (.ref l) H'
def ShD (d : PyData) : Prop := d.showable = true ∧ d.depth ≤ 20 ∧ d.shown.length ≤ sizeLine
def spRa (K : PySem.W.Frag) : Sp := fun vs H Q _ => ∃ (dr u v z : V) (du dv dz : PyData), vs = [dr, u, v, z] ∧ DpX K H u du ∧ DpX K H v dv ∧ DpX K H z dz ∧
  ((dr = .int 0 ∧ OkD du ∧ OkD dv ∧ ((wordD du = false ∧ ShD du ∧ RW H Q "word" du) ∨ (wordD du = true ∧ wordD dv = false ∧ ShD dv ∧ RW H Q "word" dv) ∨
      (wordD du = true ∧ wordD dv = true ∧ ShD dz ∧ RW H Q "number" dz ∧ ∃ a b xs ys, u = .ref a ∧ v = .ref b ∧ SqT K H a (xs.map V.str) ∧ SqT K H b (ys.map V.str) ∧ BadPk dz (lp xs ys)))) ∨
   (dr = .int 1 ∧ OkD du ∧ (z = .non ∨ ∃ i : Int, z = .int i ∧ 0 ≤ i ∧ i ≤ 2) ∧ ((wordD du = false ∧ ShD du ∧ RW H Q "word" du) ∨ (wordD du = true ∧ limD dv = false ∧ ShD dv ∧ RW H Q "number" dv))) ∨
   (dr = .int 2 ∧ OkD du ∧ ∃ r, BadN du r ∧ RS H Q r) ∨
   (dr = .int 3 ∧ OkD du ∧ OkD dv ∧ OkD (.tuple [.tuple [.str "push", .str "a"], du, dv]) ∧ ∃ r, BadN (.tuple [.tuple [.str "push", .str "a"], du, dv]) r ∧ RS H Q r))
/-- what the try's clauses are given -/
structure RaX (P : Program) (w : World) (K : PySem.W.Frag) (mg : Str → Option Value) (base : Heap) (CW CN CS S : Addr) : Prop where
  xw : XcC P w K mg base "InvalidWord" "value" CW
  xn : XcC P w K mg base "InvalidNumber" "value" CN
  xs : XcC P w K mg base "InvalidSteps" "index" CS
  gS : mg "StackError" = some (.ref S)
  kw : PySem.W.kitOne K (.ref CW) (.ref S) = some true
  kn : PySem.W.kitOne K (.ref CN) (.type "ValueError") = some true
  ks : PySem.W.kitOne K (.ref CS) (.ref S) = some true
  nw : PySem.W.exmOne K (.ref CN) (.ref CW) = some false
  sw : PySem.W.exmOne K (.ref CS) (.ref CW) = some false
  sn : PySem.W.exmOne K (.ref CS) (.ref CN) = some false
  mv : mg "ValueError" = none
/-- the doors -/
structure RaD (P : Program) (w : World) (K : PySem.W.Frag) (mg : Str → Option Value) (base : Heap) (C CW CN CS : Addr) : Prop where
  i : ∃ f fd, Mk K C f ∧ FnOk P w K mg base (L2.CX P w) 4 f fd pInit (spInitX K C CW CN) ∧ FunD K "__init__" "Effect.__init__" (defArgs sInit) (defBody sInit) (defScope sInit) [] [("peak", .non)] f fd
  a : ∃ f fd, Meth K C "apply" f ∧ FnOk P w K mg base (L2.CX P w) 5 f fd pApp (spApX K CW CN) ∧ FunD K "apply" "Effect.apply" (defArgs sApply) (defBody sApply) (defScope sApply) [] [("limit", .non)] f fd
  o : ∃ p f, SMet K C (.type "type") "of" p f ∧ FnR P w K mg base (L2.CX P w) 5 f (spOfX K CS)
  r : ClX.CRead K C (.type "type")
theorem ghas_ra (D : Def K mg "_law_raised" sLawRaised) (T : EC K mg C) (M : Makes P w K mg base C) (NV : NeverHas P w K mg base C) (RX : RaX P w K mg base CW CN CS S) (RD : RaD P w K mg base C CW CN CS)
    (GE : HasX P w K mg base "effect_of" 4 ["steps"] [] (spBadS K CS)) (B : Blt mg) (mp : mg "repr" = none) : GHas P w K mg base "_law_raised" 7 pRa (spRa K) := by
  obtain ⟨fI, fdI, MkI, FI, FDI⟩ := RD.i
  obtain ⟨fA, fdA, mA, FA, FDA⟩ := RD.a
  obtain ⟨pO, fO, sO, FO⟩ := RD.o
  obtain ⟨mvI, kbI⟩ := kb_some (ps := pInit) FDI 3 ["peak"] [] (fun us _ ws => us ++ ws) (by simp) (fun q h => (by cases h)) (fun r1 _ r3 => r1.append r3) (fun D doc pm an cv ct us mv ws h1 h2 h3 => match us, mv, ws, h1, h2, h3 with | [_, _, _], [], [_], _, _, _ => rfl)
  obtain ⟨mvA, kbA⟩ := kb_some (ps := pApp) FDA 2 ["limit"] [] (fun us _ ws => us ++ ws) (by simp) (fun q h => (by cases h)) (fun r1 _ r3 => r1.append r3) (fun D doc pm an cv ct us mv ws h1 h2 h3 => match us, mv, ws, h1, h2, h3 with | [_, _], [], [_], _, _, _ => rfl)
  refine ghas_of D scRa (fun _ _ _ _ _ _ us hl => match us, hl with | [_, _, _, _], _ => rfl) (fun xs H Q E h => ?_) (fun f cv A out s H xs Q E hgu hr h => ?_)
  · obtain ⟨dr, u, v, z, du, dv, dz, rfl, _⟩ := h
    rfl
  · have hr4 : Room 4 _ := hr.mono (by decide)
    have hr5 : Room 5 _ := hr.mono (by decide)
    refine ⟨_, pss_cons (ps_try_asL (i := 5) (tm := tbRa K C CW CN CS) (cl := [(.ref CW, ts1 K CW S), (.ref CN, ts2 K CN), (.ref CS, ts3 K CS S)]) (out := fun _ _ _ _ => False) rfl rfl scRa.nd rfl rfl takes0
        (fun W pn xe tk _ => pss_one (ps_if (pt_cmpR op_eq (pv 0) pe_int (nomark _))
          (pss_one (ps_expr (pe_mkS MkI FI hr5 T.mgE kbI (fun σ => passAt tk σ) (pa_cons (pv 1) (pa_cons (pv 2) pa_nil)) (pk_cons (pv 3) pk_nil))))
          (pss_one (ps_if (pt_cmpR op_eq (pv 0) pe_int (nomark _))
            (pss_cons (ps_set (i := 4) scRa.nd rfl (.inl rfl) (pe_ix ix_list (pe_lst (pa_cons (pe_eff2 M T.mgE hr5 (pa_cons (pe_tup pa_nil) (pa_cons (pe_tup pa_nil) pa_nil))) (pa_cons (pe_never0 NV T.mgE hr) (pa_cons (pe_effK M T.mgE hr5 (pa_cons (pe_tup (pa_cons pe_str pa_nil)) (pa_cons (pe_tup pa_nil) pa_nil)) pe_int) pa_nil)))) (pe_orT (pv 3) (pe_one pe_int)) (fun _ _ => rfl)))
              (pss_one (ps_expr (pe_methS (pv 4) T.cl mA FA hr5 kbA (fun σ => passAt tk σ) (pa_cons (pv 1) pa_nil) (pk_cons (pv 2) pk_nil)))))
            (pss_one (ps_if (pt_cmpR op_eq (pv 0) pe_int (nomark _))
              (pss_one (ps_expr (pe_hasS GE hr4 tk (pa_cons (pv 1) pa_nil))))
              (pss_one (ps_expr (pe_smeth (pe_glob (v := .ref C) rfl T.mgE rfl) RD.r sO FO hr5 (fun σ => passAt tk σ) (pa_cons (pe_tup (pa_cons pe_str (pa_cons pe_str pa_nil))) (pa_cons (pv 1) (pa_cons (pv 2) pa_nil))))))))))))
        (.cons ⟨rfl, by decide, .inl RX.xw.gC⟩ (fun a oe cls d pn hz hf => pss_one (ps_ret (pe_lst (pa_cons pe_str (pa_cons (pe_callB (call_repX hgu hr.units) (by rfl) mp (by decide +kernel) (pa_cons (pe_xf RX.xw.xf RX.xw.noF hz hf (pv 5)) pa_nil)) (pa_cons (pe_callB (call_isX RX.xw hz hf) (by rfl) B.isi (by decide +kernel) (pa_cons (pv 5) (pa_cons (pe_glob (v := .ref S) rfl RX.gS rfl) pa_nil))) pa_nil))))))
        (.cons ⟨rfl, by decide, .inl RX.xn.gC⟩ (fun a oe cls d pn hz hf => pss_one (ps_ret (pe_lst (pa_cons pe_str (pa_cons (pe_callB (call_repX hgu hr.units) (by rfl) mp (by decide +kernel) (pa_cons (pe_xf RX.xn.xf RX.xn.noF hz hf (pv 5)) pa_nil)) (pa_cons (pe_callB (call_isX RX.xn hz hf) (by rfl) B.isi (by decide +kernel) (pa_cons (pv 5) (pa_cons (pe_bltn (v := .ty "ValueError") (by rfl) RX.mv (by decide +kernel) rfl) pa_nil))) pa_nil))))))
        (.cons ⟨rfl, by decide, .inl RX.xs.gC⟩ (fun a oe cls d pn hz hf => pss_one (ps_ret (pe_lst (pa_cons pe_str (pa_cons (pe_xf RX.xs.xf RX.xs.noF hz hf (pv 5)) (pa_cons (pe_callB (call_isX RX.xs hz hf) (by rfl) B.isi (by decide +kernel) (pa_cons (pv 5) (pa_cons (pe_glob (v := .ref S) rfl RX.gS rfl) pa_nil))) pa_nil)))))) .nil)))) pss_never, ?_⟩
    have go : ∀ (D : Ends), (∀ x H', Q x H' → D.rt x H') → tbRa K C CW CN CS (wAsL K 5 (fun _ _ _ _ => False) D [(.ref CW, ts1 K CW S), (.ref CN, ts2 K CN), (.ref CS, ts3 K CS S)]) D (start nRa xs) H := by
      intro D kk
      have word : ∀ {a0 a1 a2 a3 a4 a5 : Option V} {H1 : Hp} {y : V} {d : PyData}, Same H H1 → DpX K H y d → ShD d → RW H Q "word" d →
          bad CW H1 y (WE (wAsL K 5 (fun _ _ _ _ => False) D [(.ref CW, ts1 K CW S), (.ref CN, ts2 K CN), (.ref CS, ts3 K CS S)]) [a0, a1, a2, a3, a4, a5]) := fun {a0 a1 a2 a3 a4 a5 H1 y d} s1 hd sh r dd H2 s2 nd hx => by
        have s12 := s1.trans s2
        refine ⟨true, RX.xw.te, fun _ a na => ?_, fun z => Bool.noConfusion z⟩
        refine ⟨_, rfl, rfl, rfl, dd, _, y, rfl, hx, by simp [List.lookup], y, d, rfl, DpX.same s12 _ _ hd, sh.1, sh.2.1, sh.2.2, ?_⟩
        refine ⟨_, rfl, .ref S, .ref S, true, dd, _, rfl, rfl, fun u r => r, RX.kw, rfl, hx, (by show 3 ≤ sizeLine; decide), fun l hl => kk _ _ (r l _ (s12.trans (Same.new hl)) upd_same)⟩
      have numb : ∀ {a0 a1 a2 a3 a4 a5 : Option V} {H1 : Hp} {y : V} {d : PyData}, Same H H1 → DpX K H y d → ShD d → RW H Q "number" d →
          bad CN H1 y (WE (wAsL K 5 (fun _ _ _ _ => False) D [(.ref CW, ts1 K CW S), (.ref CN, ts2 K CN), (.ref CS, ts3 K CS S)]) [a0, a1, a2, a3, a4, a5]) := fun {a0 a1 a2 a3 a4 a5 H1 y d} s1 hd sh r dd H2 s2 nd hx => by
        have s12 := s1.trans s2
        refine ⟨false, RX.nw, fun z => Bool.noConfusion z, fun _ => ⟨true, RX.xn.te, fun _ a na => ?_, fun z => Bool.noConfusion z⟩⟩
        refine ⟨_, rfl, rfl, rfl, dd, _, y, rfl, hx, by simp [List.lookup], y, d, rfl, DpX.same s12 _ _ hd, sh.1, sh.2.1, sh.2.2, ?_⟩
        refine ⟨_, rfl, .ty "ValueError", .type "ValueError", true, dd, _, rfl, rfl, fun u r => r, RX.kn, rfl, hx, (by show 3 ≤ sizeLine; decide), fun l hl => kk _ _ (r l _ (s12.trans (Same.new hl)) upd_same)⟩
      have step : ∀ {a0 a1 a2 a3 a4 a5 : Option V} {H1 : Hp} {y : V}, Same H H1 → RS H Q y →
          badI CS H1 y (WE (wAsL K 5 (fun _ _ _ _ => False) D [(.ref CW, ts1 K CW S), (.ref CN, ts2 K CN), (.ref CS, ts3 K CS S)]) [a0, a1, a2, a3, a4, a5]) := fun {a0 a1 a2 a3 a4 a5 H1 y} s1 r dd H2 s2 nd hx => by
        have s12 := s1.trans s2
        refine ⟨false, RX.sw, fun z => Bool.noConfusion z, fun _ => ⟨false, RX.sn, fun z => Bool.noConfusion z, fun _ => ⟨true, RX.xs.te, fun _ a na => ?_, fun z => Bool.noConfusion z⟩⟩⟩
        refine ⟨_, rfl, rfl, rfl, dd, _, y, rfl, hx, by simp [List.lookup], ?_⟩
        refine ⟨_, rfl, .ref S, .ref S, true, dd, _, rfl, rfl, fun u r => r, RX.ks, rfl, hx, (by show 3 ≤ sizeLine; decide), fun l hl => kk _ _ (r l _ (s12.trans (Same.new hl)) upd_same)⟩
      have tr : ∀ {i j : Int}, i = j → V.bl (decide (V.int i = V.int j)) = V.bl true := fun e => congrArg V.bl (decide_eq_true (congrArg V.int e))
      have fl : ∀ {i j : Int}, i ≠ j → V.bl (decide (V.int i = V.int j)) = V.bl false := fun e => congrArg V.bl (decide_eq_false fun z => e (V.int.inj z))
      obtain ⟨dr, u, v, z, du, dv, dz, rfl, hu, hv, hz, h⟩ := h
      rcases h with ⟨rfl, ou, ov, h⟩ | ⟨rfl, ou, hzi, h⟩ | ⟨rfl, ou, r, bn, k⟩ | ⟨rfl, ou, ov, ot, r, bn, k⟩
      · refine ⟨_, rfl, rfl, true, tr rfl, iteT ?_⟩
        refine ⟨_, rfl, _, rfl, _, rfl, rfl, rfl, fun b db nb ndb ne => ?_⟩
        have s0 : Same H (upd (upd H db (.own b)) b (.ins C db [])) := Same.made nb ndb fun b o e _ => e
        refine ⟨b, db, u, v, z, du, dv, dz, rfl, upd_same, DpX.same s0 _ _ hu, ou, DpX.same s0 _ _ hv, ov, DpX.same s0 _ _ hz, ?_⟩
        rcases h with ⟨w1, sh, k⟩ | ⟨w1, w2, sh, k⟩ | ⟨w1, w2, sh, k, a, c, xs, ys, e1, e2, ha, hb, bp⟩
        · exact .inl ⟨w1, word s0 hu sh k⟩
        · exact .inr (.inl ⟨w1, w2, word s0 hv sh k⟩)
        · exact .inr (.inr ⟨w1, w2, numb s0 hz sh k, a, c, xs, ys, e1, e2, Same.tup s0 ha, Same.tup s0 hb, bp⟩)
      · refine ⟨_, rfl, rfl, false, fl (by decide), iteF ?_⟩
        refine ⟨_, rfl, rfl, true, tr rfl, iteT ?_⟩
        refine ⟨(by show 0 ≤ sizeLine; decide), fun p1 hp1 => ⟨(by show 0 ≤ sizeLine; decide), fun p2 hp2 => ?_⟩⟩
        have s1 := (Same.new (o := .tup []) hp1).trans (Same.new (o := .tup []) hp2)
        have g1 : (upd (upd H p1 (.tup [])) p2 (.tup [])) p1 = some (.tup []) := (Same.new (o := .tup []) hp2) _ _ upd_same
        have g2 : (upd (upd H p1 (.tup [])) p2 (.tup [])) p2 = some (.tup []) := upd_same
        generalize upd (upd H p1 (.tup [])) p2 (.tup []) = H1 at s1 g1 g2
        refine ⟨p1, p2, [], [], rfl, .of g1, .of g2, by decide, by decide, fun z m => (by cases m), fun z m => (by cases m), fun e1 H2 s2 _ he1 => ?_⟩
        refine ⟨rfl, rfl, fun e2 H3 s3 he2 => ?_⟩
        refine ⟨(by show 1 ≤ sizeLine; decide), fun p3 hp3 => ⟨(by show 0 ≤ sizeLine; decide), fun p4 hp4 => ?_⟩⟩
        have s4 := (Same.new (o := .tup [.str "q"]) hp3).trans (Same.new (o := .tup []) hp4)
        have g3 : (upd (upd H3 p3 (.tup [.str "q"])) p4 (.tup [])) p3 = some (.tup [.str "q"]) := (Same.new (o := .tup []) hp4) _ _ upd_same
        have g4 : (upd (upd H3 p3 (.tup [.str "q"])) p4 (.tup [])) p4 = some (.tup []) := upd_same
        generalize upd (upd H3 p3 (.tup [.str "q"])) p4 (.tup []) = H4 at s4 g3 g4
        refine ⟨p3, p4, ["q"], [], some 3, rfl, rfl, .of g3, .of g4, by decide, by decide, fun z m => (by rw [List.mem_singleton.mp m]; exact item_q), fun z m => (by cases m), fun q e => (by cases e; decide), fun e3 H5 s5 _ he3 => ?_⟩
        refine ⟨(by show 3 ≤ sizeLine; decide), fun L hL => ?_⟩
        have s6 := Same.new (o := .lst [V.ref e1, .ref e2, .ref e3]) hL
        have gL : (upd H5 L (.lst [V.ref e1, .ref e2, .ref e3])) L = some (.lst [V.ref e1, .ref e2, .ref e3]) := upd_same
        generalize upd H5 L (.lst [V.ref e1, .ref e2, .ref e3]) = H6 at s6 gL
        have s36 := (s4.trans s5).trans s6
        have s06 : Same H H6 := (s1.trans s2).trans (s3.trans s36)
        have he1 : EffV K C H6 e1 (some ([], [], lp ([] : List Str) [])) := EffV.same (o := some _) he1 (s3.trans s36)
        have he2 : EffV K C H6 e2 none := EffV.same (o := none) he2 s36
        have he3 : EffV K C H6 e3 (some (["q"], [], 3)) := EffV.same (o := some _) he3 s6
        have tail : ∀ (j : Nat) (e : Addr) (o : Eff), ([V.ref e1, .ref e2, .ref e3] : List V)[j]? = some (.ref e) → EffV K C H6 e o → ∀ y : V, y = .int (j : Int) →
            rIxL K (.ref L) y H6 (fun y2 H2 => gName 4 y2 (start nRa [.int 1, u, v, z]) H2 fun σ H2 => tDrop (tMethS C "apply" 1 1 (spApX K CW CN) (fun vs zs => vs ++ zs) (WE (wAsL K 5 (fun _ _ _ _ => False) D [(.ref CW, ts1 K CW S), (.ref CN, ts2 K CN), (.ref CS, ts3 K CS S)])) (tVar 4) (tCons (tVar 1) tNil) (tCons (tVar 2) tNil)) D σ H2) := by
          rintro j e o hj he _ rfl
          obtain ⟨dx, fs, ie, le⟩ := he.app
          refine ⟨L, _, (j : Int), .ref e, rfl, rfl, .of gL, atI_nat hj, ?_⟩
          refine ⟨_, rfl, e, dx, fs, rfl, ie, le, _, rfl, _, rfl, rfl, rfl, .ref e, u, v, du, dv, rfl, DpX.same s06 _ _ hu, ou, DpX.same s06 _ _ hv, ?_⟩
          rcases h with ⟨w1, sh, k⟩ | ⟨w1, w2, sh, k⟩
          · exact .inl ⟨w1, word s06 hu sh k⟩
          · exact .inr ⟨w1, w2, numb s06 hv sh k⟩
        rcases hzi with rfl | ⟨i, rfl, i0, i2⟩
        · exact ⟨_, rfl, false, rfl, iteF (tail 0 e1 _ rfl he1 _ rfl)⟩
        · rcases (show i = 0 ∨ i = 1 ∨ i = 2 by omega) with rfl | rfl | rfl
          · exact ⟨_, rfl, false, rfl, iteF (tail 0 e1 _ rfl he1 _ rfl)⟩
          · exact ⟨_, rfl, true, rfl, iteT (tail 1 e2 _ rfl he2 _ rfl)⟩
          · exact ⟨_, rfl, true, rfl, iteT (tail 2 e3 _ rfl he3 _ rfl)⟩
      · refine ⟨_, rfl, rfl, false, fl (by decide), iteF ?_⟩
        refine ⟨_, rfl, rfl, false, fl (by decide), iteF ?_⟩
        refine ⟨_, rfl, rfl, true, tr rfl, iteT ?_⟩
        exact ⟨_, rfl, u, du, r, rfl, hu, ou, bn, step (Same.refl H) k⟩
      · refine ⟨_, rfl, rfl, false, fl (by decide), iteF ?_⟩
        refine ⟨_, rfl, rfl, false, fl (by decide), iteF ?_⟩
        refine ⟨_, rfl, rfl, false, fl (by decide), iteF ?_⟩
        refine ⟨rfl, (by show 2 ≤ sizeLine; decide), fun p hp => ⟨_, rfl, _, rfl, ?_⟩⟩
        have s0 := Same.new (o := .tup [V.str "push", .str "a"]) hp
        exact ⟨_, r, .cons (.tup (.of upd_same) (.cons (.str _) (.cons (.str _) .nil))) (.cons (DpX.same s0 _ _ hu) (.cons (DpX.same s0 _ _ hv) .nil)), ot, (by show 3 ≤ 1000; decide), bn, step s0 k⟩
    exact go _ fun _ _ q => q
end
end SE
/-! Displays of data: whatever a display of constants (and of values that are data already) allocates, in the end the data stand there. -/
namespace SE
open PySem PySem.Spec PyProof.Rows L2
mutual
/-- t is the reading of a display of the data d, in a heap that goes on from H0, with the slots σ -/
inductive TD (K : PySem.W.Frag) (H0 : Hp) (σ : L2.St) : TE → PyData → Prop
  | non : TD K H0 σ (tC .non) .none
  | bl (b : Bool) : TD K H0 σ (tC (.bl b)) (.bool b)
  | int (i : Int) : TD K H0 σ (tC (.int i)) (.int i)
  | neg (i : Int) : TD K H0 σ (tUn (rU fun i => .int (-i)) (tC (.int i))) (.int (-i))
  | str (z : Str) : TD K H0 σ (tC (.str z)) (.str z)
  | emp : TD K H0 σ tDNewK (.dict [])
  | lst {t : TA} {ds : List PyData} (h : TDs K H0 σ t ds) (l : ds.length ≤ 1000) : TD K H0 σ (tLst t) (.list ds)
  | tup {t : TA} {ds : List PyData} (h : TDs K H0 σ t ds) (l : ds.length ≤ 1000) : TD K H0 σ (tTup t) (.tuple ds)
  | var {i : Nat} {v : V} {d : PyData} (e : σ[i]? = some (some v)) (h : DpX K H0 v d) : TD K H0 σ (tVar i) d
  | any {t : TE} {d : PyData} (h : ∀ (H : Hp) (Q : VK), Same H0 H → (∀ v H', Same H H' → DpX K H' v d → Q v H') → t σ H Q) : TD K H0 σ t d
inductive TDs (K : PySem.W.Frag) (H0 : Hp) (σ : L2.St) : TA → List PyData → Prop
  | nil : TDs K H0 σ tNil []
  | cons {t : TE} {ts : TA} {d : PyData} {ds : List PyData} (h : TD K H0 σ t d) (r : TDs K H0 σ ts ds) : TDs K H0 σ (tCons t ts) (d :: ds)
end
mutual
theorem TD.run {K : PySem.W.Frag} {H0 : Hp} {σ : L2.St} : ∀ {t : TE} {d : PyData}, TD K H0 σ t d → ∀ {H : Hp} {Q : VK}, Same H0 H → (∀ v H', Same H H' → DpX K H' v d → Q v H') → t σ H Q
  | _, _, .non, H, Q, s, k => k _ H (Same.refl H) .non
  | _, _, .bl b, H, Q, s, k => k _ H (Same.refl H) (.bl b)
  | _, _, .int i, H, Q, s, k => k _ H (Same.refl H) (.int i)
  | _, _, .neg i, H, Q, s, k => ⟨i, rfl, k _ H (Same.refl H) (.int (-i))⟩
  | _, _, .str z, H, Q, s, k => k _ H (Same.refl H) (.str z)
  | _, _, .emp, H, Q, s, k => fun p hp => k _ _ (Same.new hp) (.emp upd_same)
  | _, _, .lst h l, H, Q, s, k => TDs.run h s fun vs H1 s1 hv => ⟨by rw [hv.len, sizeLine_eq]; omega, fun p hp => k _ _ (s1.trans (Same.new hp)) (.lst (.of upd_same) (DpXs.same (Same.new hp) _ _ hv))⟩
  | _, _, .tup h l, H, Q, s, k => TDs.run h s fun vs H1 s1 hv => ⟨by rw [hv.len, sizeLine_eq]; omega, fun p hp => k _ _ (s1.trans (Same.new hp)) (.tup (.of upd_same) (DpXs.same (Same.new hp) _ _ hv))⟩
  | _, _, .var e h, H, Q, s, k => ⟨_, e, k _ H (Same.refl H) (DpX.same s _ _ h)⟩
  | _, _, .any h, H, Q, s, k => h H Q s k
theorem TDs.run {K : PySem.W.Frag} {H0 : Hp} {σ : L2.St} : ∀ {t : TA} {ds : List PyData}, TDs K H0 σ t ds → ∀ {H : Hp} {Q : List V → Hp → Prop}, Same H0 H → (∀ vs H', Same H H' → DpXs K H' vs ds → Q vs H') → t σ H Q
  | _, _, .nil, H, Q, s, k => k _ H (Same.refl H) .nil
  | _, _, .cons h r, H, Q, s, k => TD.run h s fun v H1 s1 hv => TDs.run r (s.trans s1) fun vs H2 s2 hvs => k _ H2 (s1.trans s2) (.cons (DpX.same s2 _ _ hv) hvs)
end
/-- the display's own list -/
theorem TDs.list {K : PySem.W.Frag} {H0 : Hp} {σ : L2.St} {t : TA} {ds : List PyData} (h : TDs K H0 σ t ds) (l : ds.length ≤ 1000) {H : Hp} {Q : VK} (s : Same H0 H) (k : ∀ (p : Addr) (vs : List V) (H' : Hp), Same H H' → H' p = some (.lst vs) → DpXs K H' vs ds → Q (.ref p) H') : tLst t σ H Q :=
  h.run s fun vs H1 s1 hv => ⟨by rw [hv.len, sizeLine_eq]; omega, fun p hp => k p vs _ (s1.trans (Same.new hp)) upd_same (DpXs.same (Same.new hp) _ _ hv)⟩
/-- for x in a display -/
theorem TDs.forL {K : PySem.W.Frag} {H0 : Hp} {σ : L2.St} {t : TA} {ds : List PyData} {g : TG} {tb : TS} {D : Ends} {H : Hp} (h : TDs K H0 σ t ds) (l : ds.length ≤ 1000) (s : Same H0 H)
    (k : ∀ (p : Addr) (vs : List V) (H' : Hp), Same H H' → H' p = some (.lst vs) → DpXs K H' vs ds → tFor (fun _ H2 R => R (Itl K p) H2) g tb D σ H') : tFor (iList K (tLst t)) g tb D σ H := by
  unfold tFor iList
  exact h.list l s fun p vs H' s' hp hv => ⟨p, rfl, ⟨_, .of hp⟩, k p vs H' s' hp hv⟩
/-! ### data without dicts, for == -/
mutual
theorem dp_of {K : PySem.W.Frag} {H : Hp} : ∀ (d : PyData) {v : V}, PyData.canLay0 d = true → DpX K H v d → Dp K H v d
  | .none, _, _, h => by cases h; exact .non
  | .bool b, _, _, h => by cases h; exact .bl b
  | .int i, _, _, h => by cases h; exact .int i
  | .str z, _, _, h => by cases h; exact .str z
  | .list ds, _, c, h => by
    cases h with
    | lst h1 h2 => exact .lst h1 (dps_of ds (by simpa [PyData.canLay0] using c) h2)
  | .tuple ds, _, c, h => by
    cases h with
    | tup h1 h2 => exact .tup h1 (dps_of ds (by simpa [PyData.canLay0] using c) h2)
  | .dict kvs, _, c, h => by simp [PyData.canLay0] at c
theorem dps_of {K : PySem.W.Frag} {H : Hp} : ∀ (ds : List PyData) {vs : List V}, PyData.canLayAll0 ds = true → DpXs K H vs ds → DpAll K H vs ds
  | [], _, _, h => by cases h; exact .nil
  | d :: ds, _, c, h => by
    cases h with
    | cons h1 h2 =>
      have c : PyData.canLay0 d = true ∧ PyData.canLayAll0 ds = true := by simpa [PyData.canLayAll0] using c
      exact .cons (dp_of d c.1 h1) (dps_of ds c.2 h2)
end
/-- the same data on both sides of != -/
theorem ne_data {K : PySem.W.Frag} {H : Hp} {x y : V} {d : PyData} {Q : VK} (lay : PyData.canLay0 d = true) (sh : SeqAt.shaped d = true) (hx : DpX K H x d) (hy : DpX K H y d) (q : Q (.bl false) H) : rNeD K x y H Q := by
  refine ⟨d, d, dp_of d lay hx, dp_of d lay hy, sh, sh, ?_⟩
  rw [SeqAt.eqv_refl d lay]
  exact q
end SE
/-! Data or {} on the left of ==, a tuple on the right. -/
namespace PySem.SeqAt
open AutoSeq1 (wpAny_loadPart')
open MeetsSeq
theorem dict_no_tuple (a b : Addr) (es : Array DictEntry) (n n2 : Nat) (vs : Array Value) (d1 d2 : Option Addr) (s1 s2 : Array (Option Value)) :
    Meets (Builtin.«dict.__eq__» ⟨[.ref a, .ref b], []⟩) (fun _ R s => s.heap.get? a = some { cls := .type "dict", dict := d1, data := .dict es n, slots := s1 } ∧
      s.heap.get? b = some { cls := .type "tuple", dict := d2, data := .seq vs n2, slots := s2 } ∧ R (.ok (.ret .notImplemented)) s) :=
  .of_wp fun prog w A R s h => by
    obtain ⟨hp, g, d, tk, os⟩ := s
    obtain ⟨h1, h2, h⟩ := h
    have f1 := F.sub_tuple_dict
    wp_walk using wpAny_loadPart' h1, wpAny_loadPart' h2
    exact ⟨_, rfl, h⟩
theorem tuple_no_dict (a b : Addr) (es : Array DictEntry) (n n2 : Nat) (vs : Array Value) (d1 d2 : Option Addr) (s1 s2 : Array (Option Value)) :
    Meets (Builtin.«tuple.__eq__» ⟨[.ref b, .ref a], []⟩) (fun _ R s => s.heap.get? b = some { cls := .type "tuple", dict := d2, data := .seq vs n2, slots := s2 } ∧
      s.heap.get? a = some { cls := .type "dict", dict := d1, data := .dict es n, slots := s1 } ∧ R (.ok (.ret .notImplemented)) s) :=
  .of_wp fun prog w A R s h => by
    obtain ⟨hp, g, d, tk, os⟩ := s
    obtain ⟨h1, h2, h⟩ := h
    have f1 := F.sub_dict_tuple
    wp_walk using wpAny_loadPart' h1, wpAny_loadPart' h2
    exact ⟨_, rfl, h⟩
theorem RcAt.dict_tup {A : Around} {s : Shared} {a b : Addr} {o : Obj} {es : Array DictEntry} {n : Nat} {vs : Array Value} (h1 : s.heap.get? a = some o) (h2 : o.cls = .type "dict") (h3 : o.data = .dict es n) (hb : s.heap.IsTuple b vs) (hu : A.units < cLine) : RcAt A s (.ref a) (.ref b) false := by
  intro prog w E Q h
  obtain ⟨cls, dd, data, sl⟩ := o
  simp only at h2 h3
  subst h2 h3
  obtain ⟨⟨c2, dd2, data2, sl2⟩, k1, k2, n2, k3⟩ := hb
  simp only at k2 k3
  subst k2 k3
  have ne : a ≠ b := fun e => by
    subst e
    have z := congrArg Obj.cls (Option.some.inj (h1.symm.trans k1))
    exact absurd z (by simp)
  exact rc_eq_decline_or (k := false) ⟨_, h1, rfl⟩ ⟨_, k1, rfl⟩ (by decide) F.sub_tuple_dict F.slot_dict_eq F.slot_tuple_eq_refl
    (fun _ hq => call_meets F.slot_dict_eq ⟨_, h1, rfl⟩ F.entry_dict_eq (F.args_dict_eq_2 _ _) (dict_no_tuple a b es n n2 vs dd dd2 sl sl2) ⟨h1, k1, hq⟩)
    (fun _ hq => call_meets F.slot_tuple_eq_refl ⟨_, k1, rfl⟩ F.entry_tuple_eq (F.args_tuple_eq_2 _ _) (tuple_no_dict a b es n n2 vs dd dd2 sl sl2) ⟨k1, h1, hq⟩)
    (fun _ hq => wpAny_isSame_ref_other ne h1 k1 (by simp) hq) (.inr hu) h
end PySem.SeqAt
namespace SE
open PySem PySem.Spec PyProof.Rows L2
section
variable {X : Cx}
/-- x == y: data, or {} beside a tuple -/
def rEqT (K : PySem.W.Frag) : R2 := fun x y H Q => rEqD K x y H Q ∨ ∃ a b xs, x = .ref a ∧ y = .ref b ∧ H a = some (.dK []) ∧ SqT K H b xs ∧ Q (.bl false) H
theorem op_eqT (hu : X.A.units + 64 < cLine) : OpR X (compareOp .Eq) (rEqT X.K) := by
  intro pins s σ H x y v u Q I rx ry h
  rcases h with h | ⟨a, b, xs, rfl, rfl, ha, hb, q⟩
  · exact op_eqD hu pins s σ H x y v u Q I rx ry h
  obtain ⟨as, r1⟩ := DpX.reads I (.dict []) (.ref a) v (.emp ha) rx
  cases rx
  cases ry
  obtain ⟨its, _, ⟨o2, ho, hc, n, hd⟩, _⟩ := I.tuple hb
  cases r1 with
  | dict k1 k2 k3 k4 k5 =>
    refine SeqAt.RcAt.dict_tup k1 k2 k3 ⟨o2, ho, hc, n, hd⟩ (by omega) X.prog X.w X.xe _ ?_
    exact ⟨.bl false, H, I, rfl, q⟩
end
end SE
namespace SE
open PySem PySem.Spec PyProof.Rows L2
/-! ### _law_errors_right -/
def CBig (i j : Int) : Prop := i.natAbs < 2 ^ 100000 ∧ j.natAbs < 2 ^ 100000
theorem CBig.ok {i j : Int} (h : CBig i j) : IntMulOk i j := by
  have h1 := intBits_le_iff.mpr h.1
  have h2 := intBits_le_iff.mpr h.2
  have e : Builtin.Int.intTooBig (Builtin.Int.intBits i + Builtin.Int.intBits j) = false := by
    unfold Builtin.Int.intTooBig
    refine decide_eq_false ?_
    have b : bitsLine = 134217728 := by decide
    omega
  unfold IntMulOk
  rw [e, Bool.and_false]
  exact Bool.false_ne_true
theorem op_mulG {X : Cx} : OpR X (binaryOp .Mult) (rI CBig fun i j => .int (i * j)) := opI fun _ _ _ _ _ _ _ hc q => mul_int q hc.ok
theorem dpx_strs {K : PySem.W.Frag} {H : Hp} : ∀ zs : List Str, DpXs K H (zs.map V.str) (zs.map PyData.str)
  | [] => .nil
  | z :: zs => .cons (.str z) (dpx_strs zs)
theorem item_D {z : Str} (h : Item z) : itemD (.str z) = true := by
  have l1 := h.pos
  have l2 := h.most
  rw [itemD_str, decide_eq_true ⟨l1, l2⟩, Bool.true_and, List.all_eq_true]
  intro b mb
  obtain ⟨c, mc, rfl⟩ := List.mem_map.mp mb
  exact decide_eq_true (abc_has (h.low c mc))
def wordOdds : List PyData := [.none, .str "a", .list [.str "a"], .tuple [.str "A"], .tuple [.str "a", .str ""], .tuple [.str "ninechars"], .tuple [.int 5], .int 7, .dict [], .tuple [.str "a", .none], .tuple [.str "a b"], .list [.tuple []]]
def numOdds : List PyData := [.int (-1), .bool true, .str "1", .tuple [.int 1], .int ((10 : Int) ^ (39 : Int).toNat * -1), .list [.int 0]]
def stepOdds : List PyData := [.none, .tuple [.str "push"], .list [.str "push", .str "a"], .tuple [.str "Push", .str "a"], .tuple [.str "pop", .str "A"], .tuple [.str "pop", .int 5], .tuple [.str "push", .str "a", .str "b"], .str "pop"]
def seqOdds : List PyData := [.none, .str "push", .dict [], .int 5, .tuple [.str "push", .str "a"]]
/-- small data, and their text is short -/
def smB (d : PyData) : Bool := layE d && (decide (d.depth ≤ 10) && (d.showable && (d.intsShort 13 && decide (d.weight ≤ 1000))))
def shB (d : PyData) : Bool := d.showable && (decide (d.depth ≤ 20) && (okA d.shown && decide (d.shown.length ≤ 100)))
theorem sm_of {d : PyData} (h : smB d = true) : NX 10 1000 d := by
  unfold smB at h
  simp only [Bool.and_eq_true, decide_eq_true_eq] at h
  exact ⟨h.1, h.2.1, h.2.2.1, h.2.2.2.1, h.2.2.2.2⟩
structure ShK (d : PyData) : Prop where
  s : ShD d
  o : okA d.shown = true
  l : d.shown.length ≤ 100
theorem sh_of {d : PyData} (h : shB d = true) : ShK d := by
  unfold shB at h
  simp only [Bool.and_eq_true, decide_eq_true_eq] at h
  exact ⟨⟨h.1, h.2.1, by rw [sizeLine_eq]; omega⟩, h.2.2.1, h.2.2.2⟩
theorem wordOdds_ok : (wordOdds.all fun d => smB d && (shB d && !wordD d)) = true := by decide +kernel
def pkB : PyData → Bool
  | .none => false
  | .int p => decide (p < 0)
  | d => !whD d
theorem numOdds_ok : (numOdds.all fun d => pkB d && (shB d && !limD d)) = true := by decide +kernel
theorem stepOdds_ok : (stepOdds.all fun d => smB d && !stpD d) = true := by decide +kernel
theorem pk_of {d : PyData} (h : pkB d = true) : BadPk d 0 := by
  cases d with
  | none => cases h
  | int p => exact ⟨fun e => (by cases e), .inr ⟨p, rfl, of_decide_eq_true h⟩⟩
  | bool b => exact ⟨fun e => (by cases e), .inl rfl⟩
  | str z => exact ⟨fun e => (by cases e), .inl rfl⟩
  | list ds => exact ⟨fun e => (by cases e), .inl rfl⟩
  | tuple ds => exact ⟨fun e => (by cases e), .inl rfl⟩
  | dict ds => exact ⟨fun e => (by cases e), .inl rfl⟩
/-- what is compared -/
def Lx (n s : Str) : PyData := .list [.str n, .str s, .bool true]
theorem nice_okA {z : Str} (h : okA z = true) (l : z.length ≤ 100) : Nice 0 100 (.str z) := nice_str (fun c hc => by
  unfold okA at h
  exact of_decide_eq_true (List.all_eq_true.mp h c hc)) l
theorem lx_nice {n s : Str} (hn : okA n = true) (ln : n.length ≤ 100) (hs : okA s = true) (ls : s.length ≤ 100) : Nice 1 303 (Lx n s) :=
  nice_list (k := 0) (B := 100) (ds := [.str n, .str s, .bool true]) fun d m => by
    rcases List.mem_cons.mp m with q | m
    · rw [q]; exact nice_okA hn ln
    · rcases List.mem_cons.mp m with q | m
      · rw [q]; exact nice_okA hs ls
      · rw [List.mem_singleton.mp m]; exact ⟨by decide +kernel, by decide +kernel, by decide +kernel, by decide +kernel, by decide +kernel, by decide +kernel⟩
def idD : Option Nat → PyData
  | none => .none
  | some j => .int (j : Nat)
def idV : Option Nat → V
  | none => .non
  | some j => .int (j : Nat)
theorem idD_nice : ∀ r : Option Nat, (∀ j, r = some j → j ≤ 9) → Nice 0 100 (idD r)
  | none, _ => ⟨by decide +kernel, by decide +kernel, by decide +kernel, by decide +kernel, by decide +kernel, by decide +kernel⟩
  | some j, hr => by
    have hj := hr j rfl
    have q : ∀ m : Fin 10, PyData.canLay0 (.int (m.1 : Nat)) = true ∧ PyData.depth (.int (m.1 : Nat)) ≤ 0 ∧ PyData.showable (.int (m.1 : Nat)) = true ∧ PyData.hasDict (.int (m.1 : Nat)) = false ∧ PyData.intsShort 13 (.int (m.1 : Nat)) = true ∧ PyData.weight (.int (m.1 : Nat)) ≤ 100 := by decide +kernel
    obtain ⟨q1, q2, q3, q4, q5, q6⟩ := q ⟨j, by omega⟩
    exact ⟨q1, q2, q3, q4, q5, q6⟩
theorem idV_dpx {K : PySem.W.Frag} {H : Hp} : ∀ r, DpX K H (idV r) (idD r)
  | none => .non
  | some j => .int _
def Ly (r : Option Nat) : PyData := .list [.str "steps", idD r, .bool true]
theorem ly_nice (r : Option Nat) (hr : ∀ j, r = some j → j ≤ 9) : Nice 1 303 (Ly r) :=
  nice_list (k := 0) (B := 100) (ds := [.str "steps", idD r, .bool true]) fun d m => by
    rcases List.mem_cons.mp m with q | m
    · rw [q]; exact nice_okA (by decide +kernel) (by decide +kernel)
    · rcases List.mem_cons.mp m with q | m
      · rw [q]; exact idD_nice r hr
      · rw [List.mem_singleton.mp m]; exact ⟨by decide +kernel, by decide +kernel, by decide +kernel, by decide +kernel, by decide +kernel, by decide +kernel⟩
theorem three_nice {d : PyData} (h : Nice 1 303 d) : Nice 2 912 (.list [d, d, d]) := nice_list (k := 1) (B := 303) (ds := [d, d, d]) fun e m => by
  rcases List.mem_cons.mp m with q | m
  · rw [q]; exact h
  · rcases List.mem_cons.mp m with q | m
    · rw [q]; exact h
    · rw [List.mem_singleton.mp m]; exact h
theorem small_big' {i : Int} (h : i.natAbs < 2 ^ 1000) : i.natAbs < 2 ^ 100000 := Nat.lt_of_lt_of_le h (Nat.pow_le_pow_right (by decide) (by decide))
theorem seqOdds_ok : (seqOdds.all smB) = true := by decide +kernel
/-- the last odd values: whether they are a step, and what is refused of them -/
theorem seq_told (K : PySem.W.Frag) {d : PyData} (m : d ∈ seqOdds) : ∃ (b : Bool) (r : Option Nat), (r = if b = true then some 0 else none) ∧ BadN d (idV r) ∧
    ∀ {H : Hp} {x : V} {q : Addr} {Q : VK}, DpX K H x d → SqT K H q [.str "push", .str "a"] → Q (.bl b) H → rEqT K x (.ref q) H Q := by
  have lay : PyData.canLay0 (.tuple [.str "push", .str "a"]) = true := by decide +kernel
  have sh : SeqAt.shaped (.tuple [.str "push", .str "a"]) = true := by decide +kernel
  have tp : ∀ {H : Hp} {q : Addr}, SqT K H q [.str "push", .str "a"] → Dp K H (.ref q) (.tuple [.str "push", .str "a"]) := fun h => dp_of _ lay (.tup h (.cons (.str _) (.cons (.str _) .nil)))
  unfold seqOdds at m
  simp only [List.mem_cons, List.not_mem_nil, or_false] at m
  rcases m with rfl | rfl | rfl | rfl | rfl
  · exact ⟨false, none, rfl, .inl ⟨rfl, rfl⟩, fun hx hq k => .inl ⟨.none, _, dp_of _ (by decide +kernel) hx, tp hq, by decide +kernel, sh, k⟩⟩
  · exact ⟨false, none, rfl, .inl ⟨rfl, rfl⟩, fun hx hq k => .inl ⟨.str "push", _, dp_of _ (by decide +kernel) hx, tp hq, by decide +kernel, sh, k⟩⟩
  · refine ⟨false, none, rfl, .inl ⟨rfl, rfl⟩, fun hx hq k => ?_⟩
    cases hx with
    | emp h => exact .inr ⟨_, _, _, rfl, rfl, h, hq, k⟩
  · exact ⟨false, none, rfl, .inl ⟨rfl, rfl⟩, fun hx hq k => .inl ⟨.int 5, _, dp_of _ (by decide +kernel) hx, tp hq, by decide +kernel, sh, k⟩⟩
  · refine ⟨true, some 0, rfl, .inr ⟨_, 0, .str "push", .inr rfl, by decide, rfl, rfl, fun i y h => absurd h (Nat.not_lt_zero _), fun i y hi hy => ?_, rfl⟩, fun hx hq k => .inl ⟨_, _, dp_of _ lay hx, tp hq, sh, sh, ?_⟩⟩
    · obtain rfl : i = 0 := by omega
      cases hy
      exact (sm_of (by decide +kernel)).mono (by decide) (by decide)
    · rw [SeqAt.eqv_refl _ lay]
      exact k
section
variable {P : Program} {w : World} {K : PySem.W.Frag} {mg : Str → Option Value} {base : Heap}
def spEr (K : PySem.W.Frag) : Sp := fun vs H Q _ => ∃ (p l : Addr) (zs : List Str), vs = [.ref p, .ref l] ∧ Pool H p ∧ l ≠ p ∧ H l = some (.lst (zs.map V.str)) ∧ zs ≠ [] ∧ zs.length ≤ 100 ∧ (∀ z ∈ zs, Item z) ∧ ∀ H', But p H H' → Pool H' p → Q (.bl true) H'
abbrev nEr : List Str := ["_law_pool_here", "_law_items_here", "_law_good", "_law_odd", "_law_due", "_law_at"]
theorem scEr : FnScope nEr ["_law_pool_here", "_law_items_here"] (defScope sLawErrorsRight) := ⟨rfl, rfl, rfl, by decide +kernel, rfl, by decide +kernel, by decide +kernel⟩
theorem ghas_er (D : Def K mg "_law_errors_right" sLawErrorsRight) (GR : GHas P w K mg base "_law_raised" 7 pRa (spRa K)) (GW : Has P w K mg base "_law_word" 2 ["_law_pool_here", "_law_items_here", "_law_most"] [] spWord) (mp : mg "repr" = none) (mr : mg "range" = none) : GHas P w K mg base "_law_errors_right" 8 ["_law_pool_here", "_law_items_here"] (spEr K) := by
  refine ghas_of D scEr (fun _ _ _ _ _ _ us hl => match us, hl with | [_, _], _ => rfl) (fun xs H Q E h => ?_) (fun f cv A out s H xs Q E hgu hr h => ?_)
  · obtain ⟨p, l, zs, rfl, _⟩ := h
    rfl
  · obtain ⟨p, l, zs, rfl, hp, lp', hl, zne, l100, iz, k⟩ := h
    have hr2 : Room 2 _ := hr.mono (by decide)
    refine ⟨_, (pss_cons (ps_set (i := 2) scEr.nd rfl (.inr rfl) (pe_has GW hr2 (pa_cons (pv 0) (pa_cons (pv 1) (pa_cons pe_int pa_nil)))))
      (pss_cons (ps_for PassesOwn.never rfl (pi_list (pe_lst (pa_cons pe_non (pa_cons pe_str (pa_cons (pe_lst (pa_cons pe_str pa_nil)) (pa_cons (pe_tup (pa_cons pe_str pa_nil)) (pa_cons (pe_tup (pa_cons pe_str (pa_cons pe_str pa_nil))) (pa_cons (pe_tup (pa_cons pe_str pa_nil)) (pa_cons (pe_tup (pa_cons pe_int pa_nil)) (pa_cons pe_int (pa_cons pe_dnewK (pa_cons (pe_tup (pa_cons pe_str (pa_cons pe_non pa_nil))) (pa_cons (pe_tup (pa_cons pe_str pa_nil)) (pa_cons (pe_lst (pa_cons (pe_tup pa_nil) pa_nil)) pa_nil)))))))))))))) (pg_name (i := 3) scEr.nd rfl (.inr rfl)) (pss_cons (ps_if (pt_cmpR (op_neD hr.units) (pe_ghas GR hgu hr (pa_cons pe_int (pa_cons (pv 3) (pa_cons pe_non (pa_cons pe_non pa_nil))))) (pe_lst (pa_cons pe_str (pa_cons (pe_callB (call_repX hgu hr.units) (by rfl) mp (by decide +kernel) (pa_cons (pv 3) pa_nil)) (pa_cons pe_bl pa_nil)))) (nomark _)) (pss_one (ps_ret pe_bl)) pss_nil)
      (pss_cons (ps_if (pt_cmpR (op_neD hr.units) (pe_ghas GR hgu hr (pa_cons pe_int (pa_cons (pv 2) (pa_cons (pv 3) (pa_cons (pe_un un_neg pe_int) pa_nil))))) (pe_lst (pa_cons pe_str (pa_cons (pe_callB (call_repX hgu hr.units) (by rfl) mp (by decide +kernel) (pa_cons (pv 3) pa_nil)) (pa_cons pe_bl pa_nil)))) (nomark _)) (pss_one (ps_ret pe_bl)) pss_nil)
      (pss_one (ps_if (pt_cmpR (op_neD hr.units) (pe_lc (own := [("_law_at", 5)]) (g := gName 5) (tt := tYes) (te := (tCall (spRa K) [] E0 (tCons (tC (.int 1)) (tCons (tVar 3) (tCons (tUn (rU fun i => .int (-i)) (tC (.int 1))) (tCons (tVar 5) tNil)))))) rfl scEr.nd (pi_range1 (by rfl) mr (pa_cons pe_int pa_nil)) (blkOk_by (own := [("_law_at", 5)]) (N := nEr) (sc := defScope sLawErrorsRight) (by decide +kernel))
          (fun _ _ _ _ _ => pg_name (i := 5) scEr.nd rfl (.inl rfl)) (fun _ _ _ _ _ => pts_nil) (fun _ _ _ _ _ => (pe_ghas GR hgu hr (pa_cons pe_int (pa_cons (pv 3) (pa_cons (pe_un un_neg pe_int) (pa_cons (pv 5) pa_nil))))))) (pe_op op_rep (pe_lst (pa_cons (pe_lst (pa_cons pe_str (pa_cons (pe_callB (call_repX hgu hr.units) (by rfl) mp (by decide +kernel) (pa_cons (pv 3) pa_nil)) (pa_cons pe_bl pa_nil)))) pa_nil)) pe_int) (nomark _)) (pss_one (ps_ret pe_bl)) pss_nil)))))
      (pss_cons (ps_for PassesOwn.never rfl (pi_list (pe_lst (pa_cons (pe_un un_neg pe_int) (pa_cons pe_bl (pa_cons pe_str (pa_cons (pe_tup (pa_cons pe_int pa_nil)) (pa_cons (pe_op op_mulG (pe_op op_pow pe_int pe_int) (pe_un un_neg pe_int)) (pa_cons (pe_lst (pa_cons pe_int pa_nil)) pa_nil)))))))) (pg_name (i := 3) scEr.nd rfl (.inr rfl)) (pss_cons (ps_if (pt_cmpR (op_neD hr.units) (pe_ghas GR hgu hr (pa_cons pe_int (pa_cons (pv 2) (pa_cons (pv 2) (pa_cons (pv 3) pa_nil))))) (pe_lst (pa_cons pe_str (pa_cons (pe_callB (call_repX hgu hr.units) (by rfl) mp (by decide +kernel) (pa_cons (pv 3) pa_nil)) (pa_cons pe_bl pa_nil)))) (nomark _)) (pss_one (ps_ret pe_bl)) pss_nil)
      (pss_one (ps_if (pt_cmpR (op_neD hr.units) (pe_lc (own := [("_law_at", 5)]) (g := gName 5) (tt := tYes) (te := (tCall (spRa K) [] E0 (tCons (tC (.int 1)) (tCons (tVar 2) (tCons (tVar 3) (tCons (tVar 5) tNil)))))) rfl scEr.nd (pi_range1 (by rfl) mr (pa_cons pe_int pa_nil)) (blkOk_by (own := [("_law_at", 5)]) (N := nEr) (sc := defScope sLawErrorsRight) (by decide +kernel))
          (fun _ _ _ _ _ => pg_name (i := 5) scEr.nd rfl (.inl rfl)) (fun _ _ _ _ _ => pts_nil) (fun _ _ _ _ _ => (pe_ghas GR hgu hr (pa_cons pe_int (pa_cons (pv 2) (pa_cons (pv 3) (pa_cons (pv 5) pa_nil))))))) (pe_op op_rep (pe_lst (pa_cons (pe_lst (pa_cons pe_str (pa_cons (pe_callB (call_repX hgu hr.units) (by rfl) mp (by decide +kernel) (pa_cons (pv 3) pa_nil)) (pa_cons pe_bl pa_nil)))) pa_nil)) pe_int) (nomark _)) (pss_one (ps_ret pe_bl)) pss_nil))))
      (pss_cons (ps_if (PW.pt (pw_or (pt_cmpR (op_neD hr.units) (pe_ghas GR hgu hr (pa_cons pe_int (pa_cons (pe_tup (pa_cons pe_str pa_nil)) (pa_cons (pe_tup (pa_cons pe_str (pa_cons pe_str pa_nil))) (pa_cons pe_int pa_nil))))) (pe_lst (pa_cons pe_str (pa_cons pe_str (pa_cons pe_bl pa_nil)))) (nomark _)) (pw_or1 (pt_cmpR op_isN (pe_ghas GR hgu hr (pa_cons pe_int (pa_cons (pv 2) (pa_cons pe_int (pa_cons pe_non pa_nil))))) pe_non (nomark _))))) (pss_one (ps_ret pe_bl)) pss_nil)
      (pss_cons (ps_for PassesOwn.never rfl (pi_list (pe_lst (pa_cons pe_non (pa_cons (pe_tup (pa_cons pe_str pa_nil)) (pa_cons (pe_lst (pa_cons pe_str (pa_cons pe_str pa_nil))) (pa_cons (pe_tup (pa_cons pe_str (pa_cons pe_str pa_nil))) (pa_cons (pe_tup (pa_cons pe_str (pa_cons pe_str pa_nil))) (pa_cons (pe_tup (pa_cons pe_str (pa_cons pe_int pa_nil))) (pa_cons (pe_tup (pa_cons pe_str (pa_cons pe_str (pa_cons pe_str pa_nil)))) (pa_cons pe_str pa_nil)))))))))) (pg_name (i := 3) scEr.nd rfl (.inr rfl)) (pss_cons (ps_if (pt_cmpR (op_neD hr.units) (pe_ghas GR hgu hr (pa_cons pe_int (pa_cons (pe_lst (pa_cons (pe_tup (pa_cons pe_str (pa_cons pe_str pa_nil))) (pa_cons (pv 3) (pa_cons pe_non pa_nil)))) (pa_cons pe_non (pa_cons pe_non pa_nil))))) (pe_lst (pa_cons pe_str (pa_cons pe_int (pa_cons pe_bl pa_nil)))) (nomark _)) (pss_one (ps_ret pe_bl)) pss_nil)
      (pss_one (ps_if (pt_cmpR (op_neD hr.units) (pe_ghas GR hgu hr (pa_cons pe_int (pa_cons (pv 3) (pa_cons pe_non (pa_cons pe_non pa_nil))))) (pe_lst (pa_cons pe_str (pa_cons pe_int (pa_cons pe_bl pa_nil)))) (nomark _)) (pss_one (ps_ret pe_bl)) pss_nil))))
      (pss_cons (ps_for PassesOwn.never rfl (pi_list (pe_lst (pa_cons pe_non (pa_cons pe_str (pa_cons pe_dnewK (pa_cons pe_int (pa_cons (pe_tup (pa_cons pe_str (pa_cons pe_str pa_nil))) pa_nil))))))) (pg_name (i := 3) scEr.nd rfl (.inr rfl)) (pss_cons (ps_set (i := 4) scEr.nd rfl (.inl rfl) (pe_lst (pa_cons pe_str (pa_cons (pe_ifExp (pt_cmpR (op_eqT hr.units) (pv 3) (pe_tup (pa_cons pe_str (pa_cons pe_str pa_nil))) (nomark _)) pe_int pe_non) (pa_cons pe_bl pa_nil)))))
      (pss_one (ps_if (pt_cmpR (op_neD hr.units) (pe_ghas GR hgu hr (pa_cons pe_int (pa_cons (pv 3) (pa_cons pe_non (pa_cons pe_non pa_nil))))) (pv 4) (nomark _)) (pss_one (ps_ret pe_bl)) pss_nil))))
      (pss_one (ps_ret (pe_cmpR (op_eqD hr.units) (pe_ghas GR hgu hr (pa_cons pe_int (pa_cons (pe_op op_rep (pe_lst (pa_cons (pe_tup (pa_cons pe_str (pa_cons pe_str pa_nil))) pa_nil)) pe_int) (pa_cons pe_non (pa_cons pe_non pa_nil))))) (pe_lst (pa_cons pe_str (pa_cons pe_non (pa_cons pe_bl pa_nil)))) (nomark _)))))))))), ?_⟩
    refine ⟨_, rfl, _, rfl, p, l, 3, zs, rfl, hp, lp', hl, zne, l100, by decide, by decide, fun t ws H1 b1 p1 t0 ht lw iw => ?_⟩
    have pool1 := p1
    have but1 := b1
    have iW : ∀ z ∈ ws, Item z := fun z m => iz z (iw z m)
    have okW : NX 10 1000 (.tuple (ws.map .str)) := (nx_tuple (k := 0) (B := 8) (ds := ws.map .str) fun e me => by
      obtain ⟨z, mz, rfl⟩ := List.mem_map.mp me
      exact (iW z mz).nice.nx).mono (by decide) (by rw [List.length_map]; omega)
    have wW : wordD (.tuple (ws.map .str)) = true := by
      show ((ws.map PyData.str).map itemD).all id = true
      rw [List.all_eq_true]
      intro b mb
      obtain ⟨d, md, rfl⟩ := List.mem_map.mp mb
      obtain ⟨z, mz, rfl⟩ := List.mem_map.mp md
      exact item_D (iW z mz)
    have hW : ∀ {Hx : Hp}, Same H1 Hx → DpX K Hx (.ref t) (.tuple (ws.map .str)) := fun s => .tup (.of (s _ _ ht)) (dpx_strs ws)
    have okN : ∀ {d : PyData}, NX 10 1000 d → OkD d := fun h => h.mono (by decide) (by decide)
    have n0 : NX 10 1000 .none := sm_of (by decide +kernel)
    -- a text list beside the same display
    have cmp : ∀ {Hx : Hp} {l1 : Addr} {n s : Str} {y : V} {Q' : VK}, okA n = true → n.length ≤ 100 → okA s = true → s.length ≤ 100 → Hx l1 = some (.lst [.str n, .str s, .bl true]) → DpX K Hx y (Lx n s) → Q' (.bl false) Hx → rNeD K (.ref l1) y Hx Q' := fun {Hx l1 n s y Q'} h1 h2 h3 h4 hl hy q => by
      have nn := lx_nice h1 h2 h3 h4
      exact ne_data nn.lay (nn.shaped (by decide)) (.lst (.of hl) (.cons (.str _) (.cons (.str _) (.cons (.bl _) .nil)))) hy q
    have cmpS : ∀ {Hx : Hp} {l1 : Addr} {r : Option Nat} {y : V} {Q' : VK}, (∀ j, r = some j → j ≤ 9) → Hx l1 = some (.lst [.str "steps", idV r, .bl true]) → DpX K Hx y (Ly r) → Q' (.bl false) Hx → rNeD K (.ref l1) y Hx Q' := fun {Hx l1 r y Q'} h1 hl hy q => by
      have nn := ly_nice r h1
      exact ne_data nn.lay (nn.shaped (by decide)) (.lst (.of hl) (.cons (.str _) (.cons (idV_dpx r) (.cons (.bl _) .nil)))) hy q
    -- the words
    dsimp only [gName, tSeq]
    refine TDs.forL (K := K) (H0 := H1) (ds := wordOdds) ?td (by decide) (Same.refl H1) (fun L vs H2 s2 hL hV => ?k)
    case td => exact (.cons (.non) (.cons (.str _) (.cons (.lst (.cons (.str _) .nil) (by decide)) (.cons (.tup (.cons (.str _) .nil) (by decide)) (.cons (.tup (.cons (.str _) (.cons (.str _) .nil)) (by decide)) (.cons (.tup (.cons (.str _) .nil) (by decide)) (.cons (.tup (.cons (.int _) .nil) (by decide)) (.cons (.int _) (.cons (.emp) (.cons (.tup (.cons (.str _) (.cons (.non) .nil)) (by decide)) (.cons (.tup (.cons (.str _) .nil) (by decide)) (.cons (.lst (.cons (.tup .nil (by decide)) .nil) (by decide)) .nil))))))))))))
    case k =>
      refine for_list (K := K) (a := L) (xs := vs) (fun j σ Hx => ∃ (y3 y4 y5 : Option V), σ = [some (.ref p), some (.ref l), some (.ref t), y3, y4, y5] ∧ Same H2 Hx) ⟨_, _, _, rfl, Same.refl _⟩ (fun j σ Hx _ q => ?_) ?_ ?_
      · obtain ⟨_, _, _, _, s⟩ := q
        exact .of (s _ _ hL)
      · rintro j x σ Hx hx ⟨y3, y4, y5, rfl, sx⟩
        obtain ⟨d, hd, hD⟩ := hV.at hx
        have ok := List.all_eq_true.mp wordOdds_ok d (List.mem_of_getElem? hd)
        simp only [Bool.and_eq_true, Bool.not_eq_true'] at ok
        have sm := sm_of ok.1
        have sk := sh_of ok.2.1
        have wd := ok.2.2
        have hX : ∀ {Hy : Hp}, Same Hx Hy → DpX K Hy x d := fun s => DpX.same (sx.trans s) _ _ hD
        have s1x := s2.trans sx
        refine ⟨_, rfl, .int 0, x, .non, .non, d, .none, .none, rfl, hX (Same.refl _), .non, .non, .inl ⟨rfl, okN sm, okN n0, .inl ⟨wd, sk.s, fun l1 H3 s3 hl1 => ?_⟩⟩⟩
        refine ⟨_, rfl, x, d, rfl, hX s3, sk.s.1, sk.s.2.1, sk.s.2.2, (by show 3 ≤ sizeLine; decide), fun l2 hl2 => ?_⟩
        have s4 := Same.new (o := .lst [V.str "word", .str d.shown, .bl true]) hl2
        refine cmp (by decide +kernel) (by decide +kernel) sk.o sk.l (s4 _ _ hl1) (.lst (.of upd_same) (.cons (.str _) (.cons (.str _) (.cons (.bl _) .nil)))) ⟨_, rfl, iteF ?_⟩
        have s34 := s3.trans s4
        generalize upd H3 l2 (.lst [V.str "word", .str d.shown, .bl true]) = H4 at s34
        refine ⟨_, rfl, _, rfl, 1, rfl, .int 0, .ref t, x, .int (-1), .tuple (ws.map .str), d, .int (-1), rfl, hW (s1x.trans s34), hX s34, .int _, .inl ⟨rfl, okN okW, okN sm, .inr (.inl ⟨wW, wd, sk.s, fun l3 H5 s5 hl3 => ?_⟩)⟩⟩
        have s35 := s34.trans s5
        refine ⟨_, rfl, x, d, rfl, hX s35, sk.s.1, sk.s.2.1, sk.s.2.2, (by show 3 ≤ sizeLine; decide), fun l4 hl4 => ?_⟩
        have s6 := Same.new (o := .lst [V.str "word", .str d.shown, .bl true]) hl4
        refine cmp (by decide +kernel) (by decide +kernel) sk.o sk.l (s6 _ _ hl3) (.lst (.of upd_same) (.cons (.str _) (.cons (.str _) (.cons (.bl _) .nil)))) ⟨_, rfl, iteF ?_⟩
        have s36 := s35.trans s6
        generalize upd H5 l4 (.lst [V.str "word", .str d.shown, .bl true]) = H6 at s36
        refine ⟨3, rfl, by decide, by decide, fun D hD => lc_range (lo := 0) (n := 3) (fun j HX => ∃ as : List Addr, HX D = some (.lst (as.map V.ref)) ∧ as.length = j ∧ (∀ a ∈ as, a ≠ D ∧ HX a = some (.lst [.str "word", .str d.shown, .bl true])) ∧ Same H6 HX) ⟨[], upd_same, rfl, fun a m => (by cases m), Same.new hD⟩ ?_ ?_⟩
        · rintro j HX hj ⟨as, hX7, la, ha, sX⟩
          have fin : RW HX (fun y H7 => ∃ acc, H7 D = some (.lst acc) ∧ acc.length < sizeLine ∧ ∃ as : List Addr, (upd H7 D (.lst (acc ++ [y]))) D = some (.lst (as.map V.ref)) ∧ as.length = j + 1 ∧ (∀ a ∈ as, a ≠ D ∧ (upd H7 D (.lst (acc ++ [y]))) a = some (.lst [.str "word", .str d.shown, .bl true])) ∧ Same H6 (upd H7 D (.lst (acc ++ [y])))) "word" d := by
            intro l3 H7 s7 hl3
            have h7 := s7 _ _ hX7
            have nD : l3 ≠ D := fun e => by
              rw [e, h7] at hl3
              have z := HO.lst.inj (Option.some.inj hl3)
              cases as with
              | nil => cases z
              | cons a r => cases z
            refine ⟨_, h7, by rw [List.length_map, sizeLine_eq]; omega, as ++ [l3], by rw [upd_same, List.map_append]; rfl, by rw [List.length_append, la]; rfl, fun a m => ?_, Same.free2 (sX.trans s7) hD⟩
            rcases List.mem_append.mp m with m | m
            · obtain ⟨n1, n2⟩ := ha a m
              exact ⟨n1, by rw [upd_ne n1]; exact s7 _ _ n2⟩
            · rw [List.mem_singleton.mp m]
              exact ⟨nD, by rw [upd_ne nD]; exact hl3⟩
          have sHX := s36.trans sX
          exact ⟨rfl, yes_in ⟨_, rfl, 1, rfl, _, rfl, .int 1, x, .int (-1), .int (0 + (j : Nat)), d, .int (-1), .int (0 + (j : Nat)), rfl, hX sHX, .int _, .int _, .inr (.inl ⟨rfl, okN sm, .inr ⟨0 + (j : Nat), rfl, by omega, by omega⟩, .inl ⟨wd, sk.s, fin⟩⟩)⟩⟩
        rintro HL ⟨as, hL7, la, ha, sL⟩
        match as, la with
        | [a1, a2, a3], _ =>
          have sxL := s36.trans sL
          refine ⟨_, rfl, x, d, rfl, hX sxL, sk.s.1, sk.s.2.1, sk.s.2.2, (by show 3 ≤ sizeLine; decide), fun q1 hq1 => ⟨(by show 1 ≤ sizeLine; decide), fun q2 hq2 => ?_⟩⟩
          have t1 := Same.new (o := .lst [V.str "word", .str d.shown, .bl true]) hq1
          have t2 := Same.new (o := .lst [V.ref q1]) hq2
          refine ⟨q2, 3, [.ref q1], rfl, rfl, upd_same, by decide, by decide, (by show 3 ≤ sizeLine; decide), fun q3 hq3 => ?_⟩
          have t3 := Same.new (o := .lst (List.replicate (3 : Int).toNat [V.ref q1]).flatten) hq3
          have tq := t3 _ _ (t2 _ _ (upd_same (H := HL) (a := q1) (o := .lst [V.str "word", .str d.shown, .bl true])))
          have tt := (t1.trans t2).trans t3
          have nn := three_nice (lx_nice (n := "word") (s := d.shown) (by decide +kernel) (by decide +kernel) sk.o sk.l)
          have row : ∀ {Hy : Hp} {a : Addr}, Hy a = some (.lst [.str "word", .str d.shown, .bl true]) → DpX K Hy (.ref a) (Lx "word" d.shown) := fun h => .lst (.of h) (.cons (.str _) (.cons (.str _) (.cons (.bl _) .nil)))
          refine ne_data nn.lay (nn.shaped (by decide)) (.lst (.of (tt _ _ hL7)) (.cons (row (tt _ _ (ha a1 (by simp)).2)) (.cons (row (tt _ _ (ha a2 (by simp)).2)) (.cons (row (tt _ _ (ha a3 (by simp)).2)) .nil)))) (.lst (.of (show _ = some (HO.lst [V.ref q1, .ref q1, .ref q1]) from upd_same)) (.cons (row tq) (.cons (row tq) (.cons (row tq) .nil)))) ⟨_, rfl, iteF ?_⟩
          exact ⟨_, _, _, rfl, sx.trans (sxL.trans tt)⟩
      rintro σ HA ⟨y3, y4, y5, rfl, sA⟩
      have s1A := s2.trans sA
      have big1 : ∀ {σ : L2.St} {Hx : Hp} {Qx : VK}, (∀ v H', Same Hx H' → DpX K H' v (.int ((10 : Int) ^ (39 : Int).toNat * -1)) → Qx v H') → tOp (rI CBig fun i j => .int (i * j)) (tOp (rI CPow fun i j => .int (i ^ j.toNat)) (tC (.int 10)) (tC (.int 39))) (tUn (rU fun i => .int (-i)) (tC (.int 1))) σ Hx Qx := fun q =>
        ⟨10, 39, rfl, rfl, ⟨by decide, by decide, by decide⟩, 1, rfl, _, _, rfl, rfl, ⟨small_big' (by decide +kernel), small_big' (by decide +kernel)⟩, q _ _ (Same.refl _) (.int _)⟩
      dsimp only [tSeq]
      refine TDs.forL (K := K) (H0 := HA) (ds := numOdds) ?td (by decide) (Same.refl HA) (fun L vs H2 s2 hL hV => ?k)
      case td => exact (.cons (.neg 1) (.cons (.bl _) (.cons (.str _) (.cons (.tup (.cons (.int _) .nil) (by decide)) (.cons (.any fun Hx Qx _ q => big1 q) (.cons (.lst (.cons (.int _) .nil) (by decide)) .nil))))))
      case k =>
        refine for_list (K := K) (a := L) (xs := vs) (fun j σ Hx => ∃ (y3 y4 y5 : Option V), σ = [some (.ref p), some (.ref l), some (.ref t), y3, y4, y5] ∧ Same H2 Hx) ⟨_, _, _, rfl, Same.refl _⟩ (fun j σ Hx _ q => ?_) ?_ ?_
        · obtain ⟨_, _, _, _, s⟩ := q
          exact .of (s _ _ hL)
        · rintro j x σ Hx hx ⟨y3, y4, y5, rfl, sx⟩
          obtain ⟨d, hd, hD⟩ := hV.at hx
          have ok := List.all_eq_true.mp numOdds_ok d (List.mem_of_getElem? hd)
          simp only [Bool.and_eq_true, Bool.not_eq_true'] at ok
          have sk := sh_of ok.2.1
          have pk := pk_of ok.1
          have ld := ok.2.2
          have hX : ∀ {Hy : Hp}, Same Hx Hy → DpX K Hy x d := fun s => DpX.same (sx.trans s) _ _ hD
          have s1x := s1A.trans (s2.trans sx)
          have lw0 : lp ws ws = 0 := by
            have e : lp ws ws = if (ws.length : Int) - (ws.length : Int) > 0 then (ws.length : Int) - (ws.length : Int) else 0 := rfl
            rw [e, if_neg (by omega)]
          refine ⟨_, rfl, _, rfl, _, rfl, .int 0, .ref t, .ref t, x, .tuple (ws.map .str), .tuple (ws.map .str), d, rfl, hW s1x, hW s1x, hX (Same.refl _), .inl ⟨rfl, okN okW, okN okW, .inr (.inr ⟨wW, wW, sk.s, fun l1 H3 s3 hl1 => ?_, t, t, ws, ws, rfl, rfl, .of (s1x _ _ ht), .of (s1x _ _ ht), by rw [lw0]; exact pk⟩)⟩⟩
          refine ⟨_, rfl, x, d, rfl, hX s3, sk.s.1, sk.s.2.1, sk.s.2.2, (by show 3 ≤ sizeLine; decide), fun l2 hl2 => ?_⟩
          have s4 := Same.new (o := .lst [V.str "number", .str d.shown, .bl true]) hl2
          refine cmp (by decide +kernel) (by decide +kernel) sk.o sk.l (s4 _ _ hl1) (.lst (.of upd_same) (.cons (.str _) (.cons (.str _) (.cons (.bl _) .nil)))) ⟨_, rfl, iteF ?_⟩
          have s34 := s3.trans s4
          generalize upd H3 l2 (.lst [V.str "number", .str d.shown, .bl true]) = H4 at s34
          refine ⟨3, rfl, by decide, by decide, fun D hD => lc_range (lo := 0) (n := 3) (fun j HX => ∃ as : List Addr, HX D = some (.lst (as.map V.ref)) ∧ as.length = j ∧ (∀ a ∈ as, a ≠ D ∧ HX a = some (.lst [.str "number", .str d.shown, .bl true])) ∧ Same H4 HX) ⟨[], upd_same, rfl, fun a m => (by cases m), Same.new hD⟩ ?_ ?_⟩
          · rintro j HX hj ⟨as, hX7, la, ha, sX⟩
            have fin : RW HX (fun y H7 => ∃ acc, H7 D = some (.lst acc) ∧ acc.length < sizeLine ∧ ∃ as : List Addr, (upd H7 D (.lst (acc ++ [y]))) D = some (.lst (as.map V.ref)) ∧ as.length = j + 1 ∧ (∀ a ∈ as, a ≠ D ∧ (upd H7 D (.lst (acc ++ [y]))) a = some (.lst [.str "number", .str d.shown, .bl true])) ∧ Same H4 (upd H7 D (.lst (acc ++ [y])))) "number" d := by
              intro l3 H7 s7 hl3
              have h7 := s7 _ _ hX7
              have nD : l3 ≠ D := fun e => by
                rw [e, h7] at hl3
                have z := HO.lst.inj (Option.some.inj hl3)
                cases as with
                | nil => cases z
                | cons a r => cases z
              refine ⟨_, h7, by rw [List.length_map, sizeLine_eq]; omega, as ++ [l3], by rw [upd_same, List.map_append]; rfl, by rw [List.length_append, la]; rfl, fun a m => ?_, Same.free2 (sX.trans s7) hD⟩
              rcases List.mem_append.mp m with m | m
              · obtain ⟨n1, n2⟩ := ha a m
                exact ⟨n1, by rw [upd_ne n1]; exact s7 _ _ n2⟩
              · rw [List.mem_singleton.mp m]
                exact ⟨nD, by rw [upd_ne nD]; exact hl3⟩
            have sHX := s34.trans sX
            exact ⟨rfl, yes_in ⟨_, rfl, _, rfl, _, rfl, .int 1, .ref t, x, .int (0 + (j : Nat)), .tuple (ws.map .str), d, .int (0 + (j : Nat)), rfl, hW (s1x.trans sHX), hX sHX, .int _, .inr (.inl ⟨rfl, okN okW, .inr ⟨0 + (j : Nat), rfl, by omega, by omega⟩, .inr ⟨wW, ld, sk.s, fin⟩⟩)⟩⟩
          rintro HL ⟨as, hL7, la, ha, sL⟩
          match as, la with
          | [a1, a2, a3], _ =>
            have sxL := s34.trans sL
            refine ⟨_, rfl, x, d, rfl, hX sxL, sk.s.1, sk.s.2.1, sk.s.2.2, (by show 3 ≤ sizeLine; decide), fun q1 hq1 => ⟨(by show 1 ≤ sizeLine; decide), fun q2 hq2 => ?_⟩⟩
            have t1 := Same.new (o := .lst [V.str "number", .str d.shown, .bl true]) hq1
            have t2 := Same.new (o := .lst [V.ref q1]) hq2
            refine ⟨q2, 3, [.ref q1], rfl, rfl, upd_same, by decide, by decide, (by show 3 ≤ sizeLine; decide), fun q3 hq3 => ?_⟩
            have t3 := Same.new (o := .lst (List.replicate (3 : Int).toNat [V.ref q1]).flatten) hq3
            have tq := t3 _ _ (t2 _ _ (upd_same (H := HL) (a := q1) (o := .lst [V.str "number", .str d.shown, .bl true])))
            have tt := (t1.trans t2).trans t3
            have nn := three_nice (lx_nice (n := "number") (s := d.shown) (by decide +kernel) (by decide +kernel) sk.o sk.l)
            have row : ∀ {Hy : Hp} {a : Addr}, Hy a = some (.lst [.str "number", .str d.shown, .bl true]) → DpX K Hy (.ref a) (Lx "number" d.shown) := fun h => .lst (.of h) (.cons (.str _) (.cons (.str _) (.cons (.bl _) .nil)))
            refine ne_data nn.lay (nn.shaped (by decide)) (.lst (.of (tt _ _ hL7)) (.cons (row (tt _ _ (ha a1 (by simp)).2)) (.cons (row (tt _ _ (ha a2 (by simp)).2)) (.cons (row (tt _ _ (ha a3 (by simp)).2)) .nil)))) (.lst (.of (show _ = some (HO.lst [V.ref q1, .ref q1, .ref q1]) from upd_same)) (.cons (row tq) (.cons (row tq) (.cons (row tq) .nil)))) ⟨_, rfl, iteF ?_⟩
            exact ⟨_, _, _, rfl, sx.trans (sxL.trans tt)⟩
        rintro σ HB ⟨y3, y4, y5, rfl, sB⟩
        have s1B := s1A.trans (s2.trans sB)
        refine ⟨(by show 1 ≤ sizeLine; decide), fun p1 hp1 => ⟨(by show 2 ≤ sizeLine; decide), fun p2 hp2 => ?_⟩⟩
        have s3 := (Same.new (o := .tup [V.str "a"]) hp1).trans (Same.new (o := .tup [V.str "a", .str "b"]) hp2)
        have g1 : (upd (upd HB p1 (.tup [V.str "a"])) p2 (.tup [V.str "a", .str "b"])) p1 = some (.tup [V.str "a"]) := (Same.new (o := .tup [V.str "a", .str "b"]) hp2) _ _ upd_same
        have g2 : (upd (upd HB p1 (.tup [V.str "a"])) p2 (.tup [V.str "a", .str "b"])) p2 = some (.tup [V.str "a", .str "b"]) := upd_same
        generalize upd (upd HB p1 (.tup [V.str "a"])) p2 (.tup [V.str "a", .str "b"]) = HC at s3 g1 g2
        have k0 := sh_of (d := .int 0) (by decide +kernel)
        have k9 := sh_of (d := .int 1001) (by decide +kernel)
        have e0 : (PyData.int 0).shown = "0" := by decide +kernel
        have bp : BadPk (.int 0) (lp [("a" : Str)] [("a" : Str), "b"]) := ⟨fun e => (by cases e), .inr ⟨0, rfl, by decide⟩⟩
        refine ⟨.int 0, .ref p1, .ref p2, .int 0, .tuple [.str "a"], .tuple [.str "a", .str "b"], .int 0, rfl, .tup (.of g1) (.cons (.str _) .nil), .tup (.of g2) (.cons (.str _) (.cons (.str _) .nil)), .int _, .inl ⟨rfl, okN (sm_of (by decide +kernel)), okN (sm_of (by decide +kernel)), .inr (.inr ⟨by decide +kernel, by decide +kernel, k0.s, fun l1 HD sD hl1 => ?_, p1, p2, ["a"], ["a", "b"], rfl, rfl, .of g1, .of g2, bp⟩)⟩⟩
        rw [e0] at hl1
        refine ⟨(by show 3 ≤ sizeLine; decide), fun l2 hl2 => ?_⟩
        have s4 := Same.new (o := .lst [V.str "number", .str "0", .bl true]) hl2
        refine cmp (by decide +kernel) (by decide +kernel) (by decide +kernel) (by decide +kernel) (s4 _ _ hl1) (.lst (.of upd_same) (.cons (.str _) (.cons (.str _) (.cons (.bl _) .nil)))) ⟨_, rfl, iteF ?_⟩
        have sBE := s3.trans (sD.trans s4)
        generalize upd HD l2 (.lst [V.str "number", .str "0", .bl true]) = HE at sBE
        refine ⟨_, rfl, .int 1, .ref t, .int 1001, .non, .tuple (ws.map .str), .int 1001, .none, rfl, hW (s1B.trans sBE), .int _, .non, .inr (.inl ⟨rfl, okN okW, .inl rfl, .inr ⟨wW, by decide +kernel, k9.s, fun l3 HG sG hl3 => ?_⟩⟩)⟩
        refine ⟨rfl, false, congrArg V.bl (decide_eq_false (fun e => by cases e)), iteF ?_⟩
        have s1G := s1B.trans (sBE.trans sG)
        dsimp only [tNext, tSeq]
        refine TDs.forL (K := K) (H0 := HG) (ds := stepOdds) ?td (by decide) (Same.refl HG) (fun L vs H2 s2 hL hV => ?k)
        case td => exact (.cons (.non) (.cons (.tup (.cons (.str _) .nil) (by decide)) (.cons (.lst (.cons (.str _) (.cons (.str _) .nil)) (by decide)) (.cons (.tup (.cons (.str _) (.cons (.str _) .nil)) (by decide)) (.cons (.tup (.cons (.str _) (.cons (.str _) .nil)) (by decide)) (.cons (.tup (.cons (.str _) (.cons (.int _) .nil)) (by decide)) (.cons (.tup (.cons (.str _) (.cons (.str _) (.cons (.str _) .nil))) (by decide)) (.cons (.str _) .nil))))))))
        case k =>
          refine for_list (K := K) (a := L) (xs := vs) (fun j σ Hx => ∃ (y3 y4 y5 : Option V), σ = [some (.ref p), some (.ref l), some (.ref t), y3, y4, y5] ∧ Same H2 Hx) ⟨_, _, _, rfl, Same.refl _⟩ (fun j σ Hx _ q => ?_) ?_ ?_
          · obtain ⟨_, _, _, _, s⟩ := q
            exact .of (s _ _ hL)
          · rintro j x σ Hx hx ⟨y3, y4, y5, rfl, sx⟩
            obtain ⟨d, hd, hD⟩ := hV.at hx
            have ok := List.all_eq_true.mp stepOdds_ok d (List.mem_of_getElem? hd)
            simp only [Bool.and_eq_true, Bool.not_eq_true'] at ok
            have sm := sm_of ok.1
            have sd := ok.2
            have hX : ∀ {Hy : Hp}, Same Hx Hy → DpX K Hy x d := fun s => DpX.same (sx.trans s) _ _ hD
            have big3 : ∀ {a : Str}, NX 10 1000 (.tuple [.str a, .str "a"]) → ∀ e ∈ ([.tuple [.str a, .str "a"], d, .none] : List PyData), NX 10 1000 e := fun h e m => by
              rcases List.mem_cons.mp m with q | m
              · rw [q]; exact h
              · rcases List.mem_cons.mp m with q | m
                · rw [q]; exact sm
                · rw [List.mem_singleton.mp m]; exact n0
            have bad3 : ∀ {a : Str} {D : PyData}, (D = .list [.tuple [.str a, .str "a"], d, .none] ∨ D = .tuple [.tuple [.str a, .str "a"], d, .none]) → NX 10 1000 (.tuple [.str a, .str "a"]) → stpD (.tuple [.str a, .str "a"]) = true → BadN D (.int 1) := fun {a D} hD h1 h2 => by
              refine .inr ⟨_, 1, d, hD, by show 3 ≤ 1000; decide, rfl, sd, fun i y hi hy => ?_, fun i y hi hy => ?_, rfl⟩
              · obtain rfl : i = 0 := by omega
                cases hy
                exact h2
              · rcases (show i = 0 ∨ i = 1 by omega) with rfl | rfl
                · cases hy
                  exact okN h1
                · cases hy
                  exact okN sm
            have x1 : NX 10 1000 (.tuple [.str "pop", .str "a"]) := sm_of (by decide +kernel)
            have x2 : NX 10 1000 (.tuple [.str "push", .str "a"]) := sm_of (by decide +kernel)
            refine ⟨(by show 2 ≤ sizeLine; decide), fun q1 hq1 => ⟨_, rfl, (by show 3 ≤ sizeLine; decide), fun q2 hq2 => ?_⟩⟩
            have t1 := Same.new (o := .tup [V.str "pop", .str "a"]) hq1
            have t2 := Same.new (o := .lst [V.ref q1, x, .non]) hq2
            have g3 := t2 _ _ (upd_same (H := Hx) (a := q1) (o := .tup [V.str "pop", .str "a"]))
            have tt := t1.trans t2
            refine ⟨.int 2, .ref q2, .non, .non, .list [.tuple [.str "pop", .str "a"], d, .none], .none, .none, rfl, .lst (.of upd_same) (.cons (.tup (.of g3) (.cons (.str _) (.cons (.str _) .nil))) (.cons (hX tt) (.cons .non .nil))), .non, .non, .inr (.inr (.inl ⟨rfl, (nx_list (big3 x1)).mono (by decide) (by show 3 * 1001 ≤ 100000; decide), .int 1, bad3 (.inl rfl) x1 (by decide +kernel), fun l1 H3 s3 hl1 => ?_⟩))⟩
            refine ⟨(by show 3 ≤ sizeLine; decide), fun l2 hl2 => ?_⟩
            have s4 := Same.new (o := .lst [V.str "steps", .int 1, .bl true]) hl2
            refine cmpS (r := some 1) (fun j e => by cases e; decide) (s4 _ _ hl1) (.lst (.of upd_same) (.cons (.str _) (.cons (.int _) (.cons (.bl _) .nil)))) ⟨_, rfl, iteF ?_⟩
            have sx4 := tt.trans (s3.trans s4)
            generalize upd H3 l2 (.lst [V.str "steps", .int 1, .bl true]) = H4 at sx4
            refine ⟨_, rfl, .int 3, x, .non, .non, d, .none, .none, rfl, hX sx4, .non, .non, .inr (.inr (.inr ⟨rfl, okN sm, okN n0, (nx_tuple (big3 x2)).mono (by decide) (by show 3 * 1001 ≤ 100000; decide), .int 1, bad3 (.inr rfl) x2 (by decide +kernel), fun l3 H5 s5 hl3 => ?_⟩))⟩
            refine ⟨(by show 3 ≤ sizeLine; decide), fun l4 hl4 => ?_⟩
            have s6 := Same.new (o := .lst [V.str "steps", .int 1, .bl true]) hl4
            refine cmpS (r := some 1) (fun j e => by cases e; decide) (s6 _ _ hl3) (.lst (.of upd_same) (.cons (.str _) (.cons (.int _) (.cons (.bl _) .nil)))) ⟨_, rfl, iteF ?_⟩
            exact ⟨_, _, _, rfl, sx.trans (sx4.trans (s5.trans s6))⟩
          rintro σ HI ⟨y3, y4, y5, rfl, sI⟩
          have s1I := s1G.trans (s2.trans sI)
          dsimp only [tSeq]
          refine TDs.forL (K := K) (H0 := HI) (ds := seqOdds) ?td (by decide) (Same.refl HI) (fun L vs H2 s2 hL hV => ?k)
          case td => exact (.cons (.non) (.cons (.str _) (.cons (.emp) (.cons (.int _) (.cons (.tup (.cons (.str _) (.cons (.str _) .nil)) (by decide)) .nil)))))
          case k =>
            refine for_list (K := K) (a := L) (xs := vs) (fun j σ Hx => ∃ (y3 y4 y5 : Option V), σ = [some (.ref p), some (.ref l), some (.ref t), y3, y4, y5] ∧ Same H2 Hx) ⟨_, _, _, rfl, Same.refl _⟩ (fun j σ Hx _ q => ?_) ?_ ?_
            · obtain ⟨_, _, _, _, s⟩ := q
              exact .of (s _ _ hL)
            · rintro j x σ Hx hx ⟨y3, y4, y5, rfl, sx⟩
              obtain ⟨d, hd, hD⟩ := hV.at hx
              have md := List.mem_of_getElem? hd
              have hX : ∀ {Hy : Hp}, Same Hx Hy → DpX K Hy x d := fun s => DpX.same (sx.trans s) _ _ hD
              have ok := List.all_eq_true.mp seqOdds_ok d md
              have sm := sm_of ok
              obtain ⟨b, r, er, bn, eT⟩ := seq_told K md
              subst er
              cases b with
                | true =>
                  refine ⟨_, rfl, (by show 2 ≤ sizeLine; decide), fun q1 hq1 => ?_⟩
                  have t1 := Same.new (o := .tup [V.str "push", .str "a"]) hq1
                  refine eT (hX t1) (.of upd_same) ⟨true, rfl, iteT ?_⟩
                  generalize upd Hx q1 (.tup [V.str "push", .str "a"]) = Hy at t1
                  refine ⟨(by show 3 ≤ sizeLine; decide), fun q2 hq2 => ?_⟩
                  have t2 := Same.new (o := .lst [V.str "steps", .int 0, .bl true]) hq2
                  have g2 : (upd Hy q2 (.lst [V.str "steps", .int 0, .bl true])) q2 = some (.lst [V.str "steps", .int 0, .bl true]) := upd_same
                  generalize upd Hy q2 (.lst [V.str "steps", .int 0, .bl true]) = Hz at t2 g2
                  refine ⟨_, rfl, .int 2, x, .non, .non, d, .none, .none, rfl, hX (t1.trans t2), .non, .non, .inr (.inr (.inl ⟨rfl, okN sm, _, bn, fun l1 H3 s3 hl1 => ?_⟩))⟩
                  refine ⟨_, rfl, ?_⟩
                  refine cmpS (r := (some 0)) (fun j e => by cases e; decide) hl1 (.lst (.of (s3 _ _ g2)) (.cons (.str _) (.cons (idV_dpx (some 0)) (.cons (.bl _) .nil)))) ⟨_, rfl, iteF ?_⟩
                  exact ⟨_, _, _, rfl, sx.trans (t1.trans (t2.trans s3))⟩
                | false =>
                  refine ⟨_, rfl, (by show 2 ≤ sizeLine; decide), fun q1 hq1 => ?_⟩
                  have t1 := Same.new (o := .tup [V.str "push", .str "a"]) hq1
                  refine eT (hX t1) (.of upd_same) ⟨false, rfl, iteF ?_⟩
                  generalize upd Hx q1 (.tup [V.str "push", .str "a"]) = Hy at t1
                  refine ⟨(by show 3 ≤ sizeLine; decide), fun q2 hq2 => ?_⟩
                  have t2 := Same.new (o := .lst [V.str "steps", .non, .bl true]) hq2
                  have g2 : (upd Hy q2 (.lst [V.str "steps", .non, .bl true])) q2 = some (.lst [V.str "steps", .non, .bl true]) := upd_same
                  generalize upd Hy q2 (.lst [V.str "steps", .non, .bl true]) = Hz at t2 g2
                  refine ⟨_, rfl, .int 2, x, .non, .non, d, .none, .none, rfl, hX (t1.trans t2), .non, .non, .inr (.inr (.inl ⟨rfl, okN sm, _, bn, fun l1 H3 s3 hl1 => ?_⟩))⟩
                  refine ⟨_, rfl, ?_⟩
                  refine cmpS (r := none) (fun j e => by cases e) hl1 (.lst (.of (s3 _ _ g2)) (.cons (.str _) (.cons (idV_dpx none) (.cons (.bl _) .nil)))) ⟨_, rfl, iteF ?_⟩
                  exact ⟨_, _, _, rfl, sx.trans (t1.trans (t2.trans s3))⟩
            rintro σ HJ ⟨y3, y4, y5, rfl, sJ⟩
            have s1J := s1I.trans (s2.trans sJ)
            refine ⟨(by show 2 ≤ sizeLine; decide), fun q1 hq1 => ⟨(by show 1 ≤ sizeLine; decide), fun q2 hq2 => ?_⟩⟩
            have t1 := Same.new (o := .tup [V.str "push", .str "a"]) hq1
            have t2 := Same.new (o := .lst [V.ref q1]) hq2
            refine ⟨q2, 1001, [.ref q1], rfl, rfl, upd_same, by decide, by decide, (by show 1001 ≤ sizeLine; decide), fun q3 hq3 => ?_⟩
            have t3 := Same.new (o := .lst (List.replicate (1001 : Int).toNat [V.ref q1]).flatten) hq3
            have g1 := t3 _ _ (t2 _ _ (upd_same (H := HJ) (a := q1) (o := .tup [V.str "push", .str "a"])))
            have tt := (t1.trans t2).trans t3
            have g3 : (upd (upd (upd HJ q1 (.tup [V.str "push", .str "a"])) q2 (.lst [V.ref q1])) q3 (.lst (List.replicate (1001 : Int).toNat [V.ref q1]).flatten)) q3 = some (.lst (List.replicate 1001 (V.ref q1))) := by
              rw [upd_same, List.flatten_replicate_singleton]
              rfl
            generalize upd (upd (upd HJ q1 (.tup [V.str "push", .str "a"])) q2 (.lst [V.ref q1])) q3 (.lst (List.replicate (1001 : Int).toNat [V.ref q1]).flatten) = HK at g1 g3 tt
            have reps : ∀ n : Nat, DpXs K HK (List.replicate n (V.ref q1)) (List.replicate n (.tuple [.str "push", .str "a"])) := fun n => by
              induction n with
              | zero => exact .nil
              | succ n ih => exact .cons (.tup (.of g1) (.cons (.str _) (.cons (.str _) .nil))) ih
            have okL : OkD (.list (List.replicate 1001 (.tuple [.str "push", .str "a"]))) := (nx_list (k := 10) (B := 50) fun e m => by
              rw [(List.mem_replicate.mp m).2]
              exact ⟨by decide +kernel, by decide +kernel, by decide +kernel, by decide +kernel, by decide +kernel⟩).mono (by decide) (by rw [List.length_replicate]; decide)
            refine ⟨.int 2, .ref q3, .non, .non, _, .none, .none, rfl, .lst (.of g3) (reps 1001), .non, .non, .inr (.inr (.inl ⟨rfl, okL, .non, .inl ⟨?_, rfl⟩, fun l1 H3 s3 hl1 => ?_⟩))⟩
            · show decide ((List.replicate 1001 (PyData.tuple [.str "push", .str "a"])).length ≤ 1000) = false
              rw [List.length_replicate]
              rfl
            refine ⟨(by show 3 ≤ sizeLine; decide), fun l2 hl2 => ?_⟩
            have s4 := Same.new (o := .lst [V.str "steps", .non, .bl true]) hl2
            have nn := ly_nice none (fun j e => by cases e)
            refine ⟨Ly none, Ly none, dp_of _ nn.lay (.lst (.of (s4 _ _ hl1)) (.cons (.str _) (.cons .non (.cons (.bl _) .nil)))), dp_of _ nn.lay (.lst (.of upd_same) (.cons (.str _) (.cons .non (.cons (.bl _) .nil)))), nn.shaped (by decide), nn.shaped (by decide), ?_⟩
            rw [SeqAt.eqv_refl _ nn.lay]
            have sE := s1J.trans (tt.trans (s3.trans s4))
            exact k _ (but1.trans (.of sE)) (pool1.same sE)
end
end SE
namespace SE
open PySem PySem.Spec PyProof.Rows L2
/-! ### effects that are combined: the mathematics' side -/
def parts : List Eff → Option (List Prt)
  | [] => some []
  | none :: _ => none
  | some B :: r => (parts r).map fun q => B :: q
def thenM (os : List Eff) : Eff := (parts os).bind joinM
def revP (A : Prt) : Prt := (A.2.1, A.1, A.2.2 - hg A)
def revE (o : Eff) : Eff := o.map revP
theorem parts_none : ∀ {os : List Eff}, none ∈ os → parts os = none
  | [], h => by cases h
  | none :: _, _ => rfl
  | some B :: r, h => by
    have q : none ∈ r := by
      rcases List.mem_cons.mp h with e | e
      · cases e
      · exact e
    rw [parts, parts_none q]
    rfl
theorem parts_some : ∀ (ps : List Prt), parts (ps.map some) = some ps
  | [] => rfl
  | B :: r => by rw [List.map_cons, parts, parts_some r]; rfl
theorem then_none {os : List Eff} (h : none ∈ os) : thenM os = none := by
  unfold thenM
  rw [parts_none h]
  rfl
theorem eff_nil : effM [] = some ([], [], 0) := rfl
theorem then_go : ∀ (sss : List (List Stp)) (A : Prt) (ss : List Stp), (∀ s ∈ ss, Item s.2) → (∀ tt ∈ sss, ∀ s ∈ tt, Item s.2) → effM ss = some A → (parts (sss.map effM)).bind (joinF A) = effM (ss ++ sss.flatten)
  | [], A, ss, _, _, h => by
    show some A = _
    rw [List.flatten_nil, List.append_nil, h]
  | tt :: r, A, ss, hI, hJ, h => by
    have hT : ∀ s ∈ tt, Item s.2 := hJ tt (List.mem_cons_self ..)
    have hR : ∀ t ∈ r, ∀ s ∈ t, Item s.2 := fun t m => hJ t (List.mem_cons_of_mem _ m)
    have hst : ∀ s ∈ ss ++ tt, Item s.2 := fun s m => by
      rcases List.mem_append.mp m with q | q
      · exact hI s q
      · exact hT s q
    have e1 : effM (ss ++ tt) = (effM tt).bind (comp A) := by rw [effM_app hI, h]; rfl
    rw [List.flatten_cons, ← List.append_assoc, List.map_cons]
    cases q : effM tt with
    | none =>
      rw [q] at e1
      rw [effM_app hst, e1]
      rfl
    | some B =>
      rw [q] at e1
      have e2 : effM (ss ++ tt) = comp A B := e1
      rw [parts]
      cases c : comp A B with
      | none =>
        rw [effM_app hst, e2, c]
        cases parts (r.map effM) with
        | none => rfl
        | some ps =>
          show joinF A (B :: ps) = none
          rw [joinF_cons, c]
          rfl
      | some D =>
        rw [← then_go r D (ss ++ tt) hst hR (by rw [e2, c])]
        cases parts (r.map effM) with
        | none => rfl
        | some ps =>
          show joinF A (B :: ps) = joinF D ps
          rw [joinF_cons, c]
          rfl
theorem then_eff {sss : List (List Stp)} (h : ∀ tt ∈ sss, ∀ s ∈ tt, Item s.2) : thenM (sss.map effM) = effM sss.flatten := by
  have := then_go sss ([], [], 0) [] (fun s m => by cases m) h eff_nil
  exact this
theorem cw_swap : ∀ P R : List Str, cw R P = (cw P R).map fun z => (z.2, z.1)
  | [], R => by rw [cw_nil]; rfl
  | a :: P, [] => rfl
  | a :: P, b :: R => by
    rw [cw, cw]
    by_cases e : a = b
    · rw [if_pos e, if_pos e.symm]
      exact cw_swap P R
    · rw [if_neg e, if_neg (Ne.symm e)]
      rfl
theorem rev_comp (A B : Prt) : revE (comp A B) = comp (revP B) (revP A) := by
  cases h : comp A B with
  | none =>
    rw [comp_cw] at h
    rw [comp_cw]
    show none = (cw B.1 A.2.1).map _
    rw [cw_swap A.2.1 B.1]
    cases q : cw A.2.1 B.1 with
    | none => rfl
    | some z => rw [q] at h; cases h
  | some D =>
    have hh := hg_comp h
    have hp := pk_comp h
    rw [comp_cw] at h
    rw [comp_cw]
    show some (revP D) = (cw B.1 A.2.1).map _
    rw [cw_swap A.2.1 B.1]
    cases q : cw A.2.1 B.1 with
    | none => rw [q] at h; cases h
    | some z =>
      rw [q] at h
      have e : (A.1 ++ z.1, B.2.1 ++ z.2, mx A.2.2 (hg A + B.2.2)) = D := Option.some.inj h
      show some (D.2.1, D.1, D.2.2 - hg D) = some (B.2.1 ++ z.2, A.1 ++ z.1, mx (B.2.2 - hg B) (hg (revP B) + (A.2.2 - hg A)))
      have e3 : D.2.2 - hg D = mx (B.2.2 - hg B) (hg (revP B) + (A.2.2 - hg A)) := by
        rw [hp, hh]
        have r1 : hg (revP B) = - hg B := by
          unfold hg revP
          dsimp only
          omega
        rw [r1]
        unfold mx
        split <;> split <;> omega
      rw [e3, ← e]
theorem rev_part (s : Stp) : revP (partM s) = partM (flip1 s) := by
  obtain ⟨b, z⟩ := s
  cases b <;> rfl
theorem back_cons (s : Stp) (ss : List Stp) : revM (s :: ss) = revM ss ++ [(flip1 s)] := by
  unfold revM
  rw [List.reverse_cons, List.map_append]
  rfl
theorem back_mem {ss : List Stp} {s : Stp} (h : s ∈ revM ss) : ∃ t ∈ ss, s.2 = t.2 := by
  unfold revM at h
  obtain ⟨t, m, rfl⟩ := List.mem_map.mp h
  exact ⟨t, List.mem_reverse.mp m, rfl⟩
theorem back_item {ss : List Stp} (hI : ∀ s ∈ ss, Item s.2) : ∀ s ∈ revM ss, Item s.2 := fun s m => by
  obtain ⟨t, m2, e⟩ := back_mem m
  rw [e]
  exact hI t m2
theorem back_len (ss : List Stp) : (revM ss).length = ss.length := by
  unfold revM
  rw [List.length_map, List.length_reverse]
theorem eff_one (s : Stp) : effM [s] = some (partM s) := by
  show joinF ([], [], 0) [partM s] = _
  rw [joinF_cons, comp_one]
  rfl
theorem rev_eff : ∀ (ss : List Stp), (∀ s ∈ ss, Item s.2) → revE (effM ss) = effM (revM ss)
  | [], _ => rfl
  | s :: ss, hI => by
    have h1 : ∀ t ∈ [s], Item t.2 := fun t m => by
      rw [List.mem_singleton.mp m]
      exact hI s (List.mem_cons_self ..)
    have h2 : ∀ t ∈ ss, Item t.2 := fun t m => hI t (List.mem_cons_of_mem _ m)
    have ih := rev_eff ss h2
    have e0 : effM (s :: ss) = (effM ss).bind (comp (partM s)) := by
      have := effM_app (tt := ss) h1
      rw [eff_one] at this
      exact this
    rw [back_cons, effM_app (back_item h2), ← ih, e0, eff_one]
    cases effM ss with
    | none => rfl
    | some B =>
      show revE (comp (partM s) B) = comp (revP B) (partM (flip1 s))
      rw [rev_comp, rev_part]
theorem rev_rev (o : Eff) : revE (revE o) = o := by
  cases o with
  | none => rfl
  | some A =>
    obtain ⟨x, y, p⟩ := A
    show some (x, y, p - hg (x, y, p) - hg (revP (x, y, p))) = some (x, y, p)
    have : p - hg (x, y, p) - hg (revP (x, y, p)) = p := by
      unfold hg revP
      dsimp only
      omega
    rw [this]
theorem comp_unit {B : Prt} (h : 0 ≤ B.2.2) : comp ([], [], 0) B = some B := by
  rw [comp_cw]
  show some ([] ++ B.1, B.2.1 ++ [], mx 0 (0 + B.2.2)) = some B
  have : mx 0 (0 + B.2.2) = B.2.2 := by
    unfold mx
    split <;> omega
  rw [List.append_nil, this]
  rfl
theorem comp_rev {A : Prt} (h : PrtOk A) : comp A (revP A) = some (A.1, A.1, A.2.2) := by
  rw [comp_cw]
  have e := cw_self_left A.2.1 []
  rw [List.append_nil] at e
  show (cw A.2.1 A.2.1).map _ = _
  rw [e]
  show some (A.1 ++ [], A.1 ++ [], mx A.2.2 (hg A + (A.2.2 - hg A))) = _
  have : mx A.2.2 (hg A + (A.2.2 - hg A)) = A.2.2 := by
    unfold mx
    split <;> omega
  rw [List.append_nil, this]
theorem comp_back {A : Prt} : comp (A.1, A.1, A.2.2) A = some A := by
  rw [comp_cw]
  have e := cw_self_left A.1 []
  rw [List.append_nil] at e
  show (cw A.1 A.1).map _ = _
  rw [e]
  show some (A.1 ++ [], A.2.1 ++ [], mx A.2.2 (hg (A.1, A.1, A.2.2) + A.2.2)) = _
  have : mx A.2.2 (hg (A.1, A.1, A.2.2) + A.2.2) = A.2.2 := by
    unfold mx hg
    dsimp only
    split <;> omega
  rw [List.append_nil, List.append_nil, this]
theorem then_rev2 {A : Prt} (h : PrtOk A) : thenM [some A, some (revP A)] = some (A.1, A.1, A.2.2) := by
  show joinF ([], [], 0) [A, revP A] = _
  rw [joinF_cons, comp_unit h.h0]
  show joinF A [revP A] = _
  rw [joinF_cons, comp_rev h]
  rfl
theorem then_rev3 {ss : List Stp} (hI : ∀ s ∈ ss, Item s.2) : thenM [effM ss, revE (effM ss), effM ss] = effM ss := by
  cases h : effM ss with
  | none => rfl
  | some A =>
    have ok := (effM_ok hI h).1
    show joinF ([], [], 0) [A, revP A, A] = _
    rw [joinF_cons, comp_unit ok.h0]
    show joinF A [revP A, A] = _
    rw [joinF_cons, comp_rev ok]
    show joinF (A.1, A.1, A.2.2) [A] = _
    rw [joinF_cons, comp_back]
    rfl
end SE
namespace SE
open PySem PySem.Spec PyProof.Rows L2
section
variable {P : Program} {w : World} {K : PySem.W.Frag} {mg : Str → Option Value} {base : Heap} {C : Addr}
def spJoinB (K : PySem.W.Frag) (C : Addr) : Sp := fun vs H Q _ => ∃ (a : Addr) (us : List V) (ps : List Prt), vs = [.ref a] ∧ SqL K H a us ∧ Paired (PrtV K H) us ps ∧ (∀ B ∈ ps, PrtOk B) ∧ szP ps ≤ 9000 ∧ (∀ D, joinM ps = some D → D.1.length ≤ 5000 ∧ D.2.1.length ≤ 5000) ∧ ∀ (e : Addr) (H' : Hp), Same H H' → EffV K C H' e (joinM ps) → Q (.ref e) H'
theorem has_joinB (D : Def K mg "joined" sJoined) (T : EC K mg C) (M : Makes P w K mg base C) (GN : NeverHas P w K mg base C) (B : Blt mg) (mx : mg "max" = none) (mn : mg "min" = none) : Has P w K mg base "joined" 7 ["parts"] [] (spJoinB K C) := by
  refine has_of D scJo (fun _ _ _ _ _ _ us hl => match us, hl with | [_], _ => rfl) (fun xs H Q E h => ?_) (fun f cv A out s H xs Q E hr h => ?_)
  · obtain ⟨a, us, ps, rfl, _⟩ := h
    rfl
  · obtain ⟨a, us, ps, rfl, hS, hV, hO, hz, hb, k⟩ := h
    have hr5 : Room 5 _ := hr.mono (by decide)
    refine ⟨_, pss_cons (ps_asg (pe_tup (pa_cons (pe_tup pa_nil) (pa_cons (pe_tup pa_nil) (pa_cons pe_int pa_nil)))) (pg_tup (by rfl) (pgs_cons (pg_name (i := 1) scJo.nd rfl (.inl rfl)) (pgs_cons (pg_name (i := 2) scJo.nd rfl (.inl rfl)) (pgs_cons (pg_name (i := 3) scJo.nd rfl (.inl rfl)) pgs_nil)))))
      (pss_cons (ps_for PassesOwn.never rfl (pi_list (pv 0)) (pg_tup (by rfl) (pgs_cons (pg_name (i := 4) scJo.nd rfl (.inl rfl)) (pgs_cons (pg_name (i := 5) scJo.nd rfl (.inl rfl)) (pgs_cons (pg_name (i := 6) scJo.nd rfl (.inl rfl)) pgs_nil))))
        (pss_cons (ps_set (i := 7) scJo.nd rfl (.inl rfl) (pe_callB (call_min2 rfl) (by rfl) mn (by decide +kernel) (pa_cons (pe_callB call_len_seq (by rfl) B.len PySem.boot_len (pa_cons (pv 2) pa_nil)) (pa_cons (pe_callB call_len_seq (by rfl) B.len PySem.boot_len (pa_cons (pv 4) pa_nil)) pa_nil))))
        (pss_cons (ps_if (pt_cut (pt_cmpR (op_neD hr.units) (pe_slice sl_tupS (pv 2) po_none (po_some (pv 7))) (pe_slice sl_tupS (pv 4) po_none (po_some (pv 7))) (nomark _))) (pss_one (ps_ret (pe_never0 GN T.mgE hr))) pss_nil)
        (pss_cons (ps_set (i := 3) scJo.nd rfl (.inl rfl) (pe_callB (call_max2 rfl) (by rfl) mx (by decide +kernel) (pa_cons (pv 3) (pa_cons (pe_op op_add (pe_op op_sub (pe_callB call_len_seq (by rfl) B.len PySem.boot_len (pa_cons (pv 2) pa_nil)) (pe_callB call_len_seq (by rfl) B.len PySem.boot_len (pa_cons (pv 1) pa_nil))) (pv 6)) pa_nil))))
        (pss_cons (ps_set (i := 1) scJo.nd rfl (.inl rfl) (pe_op op_catS (pv 1) (pe_slice sl_tupS (pv 4) (po_some (pv 7)) po_none)))
        (pss_one (ps_set (i := 2) scJo.nd rfl (.inl rfl) (pe_op op_catS (pv 5) (pe_slice sl_tupS (pv 2) (po_some (pv 7)) po_none)))))))))
      (pss_one (ps_ret (pe_effK M T.mgE hr5 (pa_cons (pv 1) (pa_cons (pv 2) pa_nil)) (pv 3))))), ?_⟩
    refine ⟨Nat.zero_le _, fun t1 ht1 => ⟨Nat.zero_le _, fun t2 ht2 => ?_⟩⟩
    have n12 : t1 ≠ t2 := ne_of_none upd_same ht2
    have s0 : Same H (upd (upd H t1 (.tup [])) t2 (.tup [])) := Same.free2 (Same.new ht1) ((Same.new ht1).free ht2)
    have shp : ∀ {zs : List Str}, (∀ z ∈ zs, Item z) → SeqAt.shaped (.tuple (zs.map PyData.str)) = true := fun {zs} q => (nice_tuple (nice_strs q)).shaped (by decide)
    refine ⟨(by show 3 ≤ sizeLine; decide), fun t3 ht3 => ⟨t3, _, rfl, .of upd_same, rfl, _, _, rfl, _, _, rfl, _, _, rfl, rfl, ?_⟩⟩
    have s00 := Same.new (o := .tup [.ref t1, .ref t2, .int 0]) ht3
    generalize upd (upd (upd H t1 (.tup [])) t2 (.tup [])) t3 (.tup [.ref t1, .ref t2, .int 0]) = H1 at s00 ⊢
    have w1 : SqT K H1 t1 (([] : List Str).map V.str) := Same.tup s00 (.of (by rw [upd_ne n12]; exact upd_same))
    have w2 : SqT K H1 t2 (([] : List Str).map V.str) := Same.tup s00 (.of upd_same)
    replace s0 := s0.trans s00
    refine ⟨_, rfl, a, rfl, ⟨_, Same.seq s0 hS⟩, for_list (K := K) (a := a) (xs := us) (fun i σ H2 => ∃ (u v : Addr) (A : Prt) (y4 y5 y6 y7 : Option V), σ = [some (.ref a), some (.ref u), some (.ref v), some (.int A.2.2), y4, y5, y6, y7] ∧ Same H H2 ∧ SqT K H2 u (A.1.map V.str) ∧ SqT K H2 v (A.2.1.map V.str) ∧ PrtOk A ∧ joinM ps = joinF A (ps.drop i) ∧ A.1.length + A.2.1.length + szP (ps.drop i) ≤ 9000)
      ⟨t1, t2, ([], [], 0), none, none, none, none, rfl, s0, w1, w2, ⟨fun z m => (by cases m), fun z m => (by cases m), Int.le_refl _, Int.le_refl _⟩, rfl, by rw [List.drop_zero]; show 0 + 0 + szP ps ≤ 9000; omega⟩ (fun i σ H2 _ q => ?_) ?_ ?_⟩
    · obtain ⟨_, _, _, _, _, _, _, _, s2, _⟩ := q
      exact Same.seq s2 hS
    · rintro i x σ H2 hx ⟨u, v, A, y4, y5, y6, y7, rfl, s2, hu, hv, oA, hj, hsz⟩
      obtain ⟨Bp, hB, hP⟩ := paired_at hV hx
      obtain ⟨t, p1, p2, rfl, q1, q2, q3⟩ := hP.same s2
      have oB := hO Bp (List.mem_of_getElem? hB)
      have hd : ps.drop i = Bp :: ps.drop (i + 1) := by
        obtain ⟨hl, he⟩ := List.getElem?_eq_some_iff.mp hB
        rw [List.drop_eq_getElem_cons hl, he]
      have hsz2 : A.1.length + A.2.1.length + (Bp.1.length + Bp.2.1.length) + szP (ps.drop (i + 1)) ≤ 9000 := by
        rw [hd] at hsz
        have e : szP (Bp :: ps.drop (i + 1)) = Bp.1.length + Bp.2.1.length + szP (ps.drop (i + 1)) := by
          unfold szP
          rw [List.map_cons, List.sum_cons]
        omega
      refine ⟨t, _, rfl, q1, rfl, _, _, rfl, _, _, rfl, _, _, rfl, rfl, ?_⟩
      refine ⟨_, rfl, v, _, rfl, .inr hv, _, rfl, p1, _, rfl, .inr q2, _, _, rfl, ?_⟩
      rw [List.length_map, List.length_map, min_int]
      -- do they fit
      refine ⟨fun b H3 => b = !decide (A.2.1.take (min A.2.1.length Bp.1.length) = Bp.1.take (min A.2.1.length Bp.1.length)) ∧ Same H2 H3, ?_, ?_⟩
      · refine ⟨_, rfl, _, rfl, _, rfl, v, _, rfl, hv, fun c1 H3 s3 hc1 => ⟨_, rfl, _, rfl, _, rfl, p1, _, rfl, Same.tup s3 q2, fun c2 H4 s4 hc2 => ?_⟩⟩
        rw [cutF_to] at hc1 hc2
        refine ⟨.tuple ((A.2.1.take (min A.2.1.length Bp.1.length)).map .str), .tuple ((Bp.1.take (min A.2.1.length Bp.1.length)).map .str), .tup (Same.tup s4 hc1) (dp_strs _), .tup hc2 (dp_strs _), shp (fun z m => oA.i2 z (List.mem_of_mem_take m)), shp (fun z m => oB.i1 z (List.mem_of_mem_take m)), _, rfl, ?_, s3.trans s4⟩
        rw [eqv_tupS]
      rintro b H3 ⟨rfl, s3⟩
      have s23 := s2.trans s3
      by_cases c : A.2.1.take (min A.2.1.length Bp.1.length) = Bp.1.take (min A.2.1.length Bp.1.length)
      rotate_left
      · rw [decide_eq_false c]
        refine iteT ⟨rfl, rfl, fun e H4 s4 he => k e H4 (s23.trans s4) ?_⟩
        have ej : joinM ps = none := by
          rw [hj, hd]
          unfold joinF comp
          rw [if_neg c]
        rw [ej]
        exact he
      rw [decide_eq_true c]
      refine iteF ?_
      refine ⟨_, rfl, _, rfl, v, _, rfl, .inr (Same.tup s3 hv), _, rfl, u, _, rfl, .inr (Same.tup s3 hu), _, _, rfl, rfl, _, rfl, _, _, rfl, rfl, _, _, rfl, ?_⟩
      rw [List.length_map, List.length_map]
      refine ⟨_, rfl, _, rfl, _, rfl, _, rfl, p1, _, rfl, Same.tup s3 q2, fun c1 H4 s4 hc1 => ?_⟩
      rw [cutF_from] at hc1
      refine ⟨u, c1, _, _, rfl, rfl, Same.tup (s3.trans s4) hu, hc1, ?_, fun u2 H5 s5 hu2 => ?_⟩
      · rw [List.length_map, List.length_map, List.length_drop, sizeLine_eq]
        omega
      have s35 := (s3.trans s4).trans s5
      refine ⟨_, rfl, _, rfl, _, rfl, _, rfl, v, _, rfl, Same.tup s35 hv, fun c2 H6 s6 hc2 => ?_⟩
      rw [cutF_from] at hc2
      refine ⟨p2, c2, _, _, rfl, rfl, Same.tup (s35.trans s6) q3, hc2, ?_, fun v2 H7 s7 hv2 => ?_⟩
      · rw [List.length_map, List.length_map, List.length_drop, sizeLine_eq]
        omega
      obtain ⟨Dp, hD⟩ : ∃ Dp, comp A Bp = some Dp := by
        unfold comp
        rw [if_pos c]
        exact ⟨_, rfl⟩
      have oD := comp_ok oA oB hD
      have e1 : Dp.1 = A.1 ++ Bp.1.drop (min A.2.1.length Bp.1.length) ∧ Dp.2.1 = Bp.2.1 ++ A.2.1.drop (min A.2.1.length Bp.1.length) ∧ Dp.2.2 = if (A.2.1.length : Int) - (A.1.length : Int) + Bp.2.2 > A.2.2 then (A.2.1.length : Int) - (A.1.length : Int) + Bp.2.2 else A.2.2 := by
        unfold comp at hD
        rw [if_pos c] at hD
        cases hD
        exact ⟨rfl, rfl, rfl⟩
      rw [← List.map_append, ← e1.1] at hu2
      rw [← List.map_append, ← e1.2.1] at hv2
      refine ⟨u2, v2, Dp, some (.ref p1), some (.ref p2), some (.int Bp.2.2), some (.int ((min A.2.1.length Bp.1.length : Nat) : Int)), ?_, s2.trans ((s35.trans s6).trans s7), Same.tup (s6.trans s7) hu2, hv2, oD.1, ?_, ?_⟩
      · rw [e1.2.2]
        rfl
      · rw [hj, hd]
        conv => lhs; unfold joinF
        rw [hD]
      · have := oD.2
        omega
    · rintro σ H2 ⟨u, v, A, y4, y5, y6, y7, rfl, s2, hu, hv, oA, hj, hsz⟩
      rw [paired_len hV, List.drop_length] at hj
      have hj2 : joinM ps = some A := hj
      refine ⟨_, rfl, _, rfl, _, rfl, u, v, A.1, A.2.1, some A.2.2, rfl, rfl, hu, hv, (hb A hj2).1, (hb A hj2).2, oA.i1, oA.i2, fun p z => ?_, fun e H3 s3 _ he => ?_⟩
      · cases z
        exact oA.lp
      · refine k e H3 (s2.trans s3) ?_
        rw [hj]
        exact he
end
end SE
namespace SE
open PySem PySem.Spec PyProof.Rows L2
abbrev sThen : Stmt := inClass sEffect 10
abbrev sReversal : Stmt := inClass sEffect 11
/-- an effect that may be combined -/
def EffBg (o : Eff) : Prop := ∀ B, o = some B → PrtOk B
def SzO (os : List Eff) : Prop := ∀ ps : List Prt, os = ps.map some → szP ps ≤ 9000 ∧ ∀ D, joinM ps = some D → D.1.length ≤ 5000 ∧ D.2.1.length ≤ 5000
/-! ### o.m(), m with a star -/
theorem pe_methR0 {X : Cx} {CX : CXT} {k : Nat} {C f : Addr} {m : Str} {sp : Sp} {E : XK} {o : Expr} {ta : TE} {apos pos : Pos} {pl : Sem Bool} (he : PE X o ta) (c : Cls X.K C) (hm : Meth X.K C m f)
    (F : FnR X.prog X.w X.K X.mg X.base CX k f sp) (hr : Room k X.A) (hx : Passes CX X E)
    (ht : eval (.Call (.Attribute o m apos) [] [] pos) X.env = (do
      let ov ← eval o X.env
      standAt apos.atName
      let (f, first) ← holding [ov] (getMethod ov m pl)
      callWith pos f first (backTo pos (starEach [] X.env)) (backToKw pos (keywordEach [] X.env))) := by rfl) :
    PE X (.Call (.Attribute o m apos) [] [] pos) (tMethR C m sp E ta tNil) := by
  refine ⟨fun pins s σ H Q I h => ?_⟩
  refine PySem.W.methodCall_KW (pl := pl) (thn (he.run pins s σ H _ I h) fun u s1 ⟨x, H1, I1, rx, a, dx, fs, ex, ea, l, q⟩ => ?_) ht
  subst ex
  obtain rfl : u = Value.ref a := rx
  refine getmeth_ok I1 ea c hm l ?_
  exact PySem.W.callWith_K0 (first := [.ref a]) I1.kIn hm.kp (wpAny_call (run_fnR (us := [.ref a]) (vs := [.ref a]) F hr hx I1 (.cons rfl .nil) q))
section
variable {P : Program} {w : World} {K : PySem.W.Frag} {mg : Str → Option Value} {base : Heap} {C : Addr}
def EfV (K : PySem.W.Frag) (C : Addr) (H : Hp) (v : V) (o : Eff) : Prop := ∃ a, v = .ref a ∧ EffV K C H a o
theorem EfV.same {H H' : Hp} {v : V} {o : Eff} (h : EfV K C H v o) (s : Same H H') : EfV K C H' v o := by
  obtain ⟨a, e, q⟩ := h
  exact ⟨a, e, q.same s⟩
theorem parts_all : ∀ {os : List Eff}, none ∉ os → ∃ ps : List Prt, os = ps.map some
  | [], _ => ⟨[], rfl⟩
  | none :: r, h => absurd (List.mem_cons_self ..) h
  | some B :: r, h => by
    obtain ⟨ps, e⟩ := parts_all (os := r) fun m => h (List.mem_cons_of_mem _ m)
    exact ⟨B :: ps, by rw [e]; rfl⟩
def spThen (K : PySem.W.Frag) (C : Addr) : Sp := fun vs H Q _ => ∃ (es : List V) (os : List Eff), vs = es ∧ es ≠ [] ∧ Paired (EfV K C H) es os ∧ (∀ x ∈ os, EffBg x) ∧ os.length ≤ 6 ∧ SzO os ∧ ∀ r H', Same H H' → EffV K C H' r (thenM os) → Q (.ref r) H'
def spThenI (K : PySem.W.Frag) (C : Addr) : Sp := fun vs H Q _ => ∃ (e : V) (p : Addr) (es : List V) (os : List Eff), vs = [e, .ref p] ∧ H p = some (.tup es) ∧ Paired (EfV K C H) (e :: es) os ∧ (∀ x ∈ os, EffBg x) ∧ os.length ≤ 6 ∧ SzO os ∧ ∀ r H', Same H H' → EffV K C H' r (thenM os) → Q (.ref r) H'
abbrev nThen : List Str := ["self", "others", "effects", "effect"]
theorem scThen : FnScope nThen (["self", "others"] : List Str) (defScope sThen) := ⟨rfl, rfl, rfl, by decide +kernel, rfl, by decide +kernel, by decide +kernel⟩
theorem ok_then {f : Addr} {fd : FuncData} (F : Fun K "then" "Effect.then" sThen f fd) (T : EC K mg C) (GN : NeverHas P w K mg base C) (GI : PropHas P w K mg base C "is_never" 1 (spIsNev K C)) (GP : PropHas P w K mg base C "pops" 1 (spPops K C)) (GQ : PropHas P w K mg base C "pushes" 1 (spPush K C)) (GK : PropHas P w K mg base C "peak" 1 (spPeak K C))
    (GJ : Has P w K mg base "joined" 7 ["parts"] [] (spJoinB K C)) (ma : mg "any" = none) : FnR P w K mg base CX0 8 f (spThen K C) := by
  obtain ⟨oc, od, kV, doc, pm, an, cv, ct, osl, rfl, look, hcode⟩ := F.ex
  refine FnR.imp (StX.fn_star (k := 7) (ps := ["self"]) (pv := "others") (N := nThen) (sp := spThenI K C) look hcode scThen StX.cxUp_none (StX.bind_star1 (B := fun xs => bindArgs (PySem.W.fnOf "then" "Effect.then" (defArgs sThen) (defBody sThen) (defScope sThen) Value.none kV doc pm an cv ct) ⟨xs, []⟩) (fun a => rfl) (fun a r rs => rfl)) (fun A out s H vs Q E hr h => ?_)) (fun vs H Q E h => ?_)
  rotate_left
  · obtain ⟨es, os, rfl, hne, hP, hS, hl, hz, k⟩ := h
    cases vs with
    | nil => exact absurd rfl hne
    | cons e es =>
      have ln := paired_len hP
      rw [List.length_cons] at ln
      refine ⟨[e], es, rfl, rfl, by rw [sizeLine_eq]; omega, fun p hp => ⟨e, p, es, os, rfl, upd_same, Paired.mapP hP fun v o q => q.same (Same.new hp), hS, hl, hz, fun r H' s' he => k r H' ((Same.new hp).trans s') he⟩⟩
  have body : ∃ t, PSs (cxOf CX0 P w K mg base nThen "Effect.then" (defScope sThen) f cv A out s H E).nox (defBody sThen) t ∧ t { nx := fun _ H2 => Q .non H2, rt := Q } (start nThen vs) H := by
    obtain ⟨e, p, es, os, rfl, hp, hP, hS, hl, hz, k⟩ := h
    have hr2 : Room 2 _ := hr.mono (by decide)
    have hr6 : Room 6 _ := hr.mono (by decide)
    have ln := paired_len hP
    refine ⟨_, pss_cons (ps_set (i := 2) scThen.nd rfl (.inl rfl) (pe_lst (pa_cons (pv 0) (StX.pa_star (pv 1) pa_nil))))
      (pss_cons (ps_if (pt_val (pe_callB (cr_any rfl) (by rfl) ma (by decide +kernel) (pa_cons
        (pe_lc (own := [("effect", 3)]) (g := gName 3) (tt := tYes) (te := tProp C (spIsNev K C) [] E0 (tVar 3)) rfl scThen.nd (pi_list (pv 2)) (blkOk_by (own := [("effect", 3)]) (N := nThen) (sc := defScope sThen) (by decide +kernel))
          (fun _ _ _ _ _ => pg_name (i := 3) scThen.nd rfl (.inl rfl)) (fun _ _ _ _ _ => pts_nil) (fun _ _ _ _ _ => pe_propH GI (pv 3) T.cl hr2)) pa_nil)))
        (pss_one (ps_ret (pe_never0 GN T.mgE hr6))) pss_nil)
      (pss_one (ps_ret (pe_has GJ hr (pa_cons
        (pe_lc (own := [("effect", 3)]) (g := gName 3) (tt := tYes) (te := tTup (tCons (tProp C (spPops K C) [] E0 (tVar 3)) (tCons (tProp C (spPush K C) [] E0 (tVar 3)) (tCons (tProp C (spPeak K C) [] E0 (tVar 3)) tNil)))) rfl scThen.nd (pi_list (pv 2)) (blkOk_by (own := [("effect", 3)]) (N := nThen) (sc := defScope sThen) (by decide +kernel))
          (fun _ _ _ _ _ => pg_name (i := 3) scThen.nd rfl (.inl rfl)) (fun _ _ _ _ _ => pts_nil) (fun _ _ _ _ _ => pe_tup (pa_cons (pe_propH GP (pv 3) T.cl hr2) (pa_cons (pe_propH GQ (pv 3) T.cl hr2) (pa_cons (pe_propH GK (pv 3) T.cl hr2) pa_nil))))) pa_nil))))), ?_⟩
    refine ⟨_, rfl, _, rfl, p, es, rfl, .inl (.of hp), ?_, fun d hd => ?_⟩
    · rw [List.append_nil]
      show (e :: es).length ≤ sizeLine
      rw [ln, sizeLine_eq]
      omega
    rw [List.append_nil]
    have s1 : Same H (upd H d (.lst (e :: es))) := Same.new hd
    have hP1 : Paired (EfV K C (upd H d (.lst (e :: es)))) (e :: es) os := Paired.mapP hP fun v o q => q.same s1
    have hd1 : (upd H d (.lst (e :: es))) d = some (.lst (e :: es)) := upd_same
    generalize upd H d (.lst (e :: es)) = H1 at s1 hP1 hd1
    refine ⟨_, rfl, d, rfl, ⟨_, .of hd1⟩, fun D hD => lc_list (K := K) (a := d) (xs := e :: es) (fun j H2 => H2 D = some (.lst (((os.take j).map fun o => o.isNone).map V.bl)) ∧ Same H1 H2) ⟨upd_same, Same.new hD⟩ (fun j H2 _ q => .of (q.2 _ _ hd1)) ?_ ?_⟩
    · rintro j x H2 hx ⟨h2, s2⟩
      obtain ⟨o, ho, a, rfl, hV⟩ := paired_at hP1 hx
      have hV2 := hV.same s2
      obtain ⟨dx, fs, hi⟩ := hV2.ins
      have jl : j < os.length := (List.getElem?_eq_some_iff.mp ho).1
      have e1 : ((os.take (j + 1)).map fun o => o.isNone).map V.bl = ((os.take j).map fun o => o.isNone).map V.bl ++ [V.bl o.isNone] := by
        rw [List.take_add_one, ho, List.map_append, List.map_append]
        rfl
      refine ⟨rfl, yes_in ⟨_, rfl, a, dx, fs, rfl, hi, a, rfl, ?_⟩⟩
      have fin : ∀ b, b = o.isNone → ∃ acc, H2 D = some (.lst acc) ∧ acc.length < sizeLine ∧ (upd H2 D (.lst (acc ++ [V.bl b]))) D = some (.lst (((os.take (j + 1)).map fun o => o.isNone).map V.bl)) ∧ Same H1 (upd H2 D (.lst (acc ++ [V.bl b]))) := by
        rintro b rfl
        refine ⟨_, h2, ?_, by rw [upd_same, e1], Same.free2 s2 hD⟩
        rw [List.length_map, List.length_map, List.length_take, sizeLine_eq]
        omega
      cases o with
      | none => exact .inr ⟨hV2, fin true rfl⟩
      | some B => exact .inl ⟨B.1, B.2.1, B.2.2, hV2, fin false rfl⟩
    · rintro H2 ⟨h2, s2⟩
      rw [ln, List.take_length] at h2
      refine ⟨D, _, rfl, .of h2, _, rfl, ?_⟩
      by_cases hn : none ∈ os
      · have ea : (os.map fun o => o.isNone).any id = true := List.any_eq_true.mpr ⟨true, List.mem_map.mpr ⟨none, hn, rfl⟩, rfl⟩
        rw [ea]
        refine iteT ⟨rfl, rfl, fun r H3 s3 hr3 => k r H3 ((s1.trans s2).trans s3) ?_⟩
        rw [then_none hn]
        exact hr3
      · have ea : (os.map fun o => o.isNone).any id = false := by
          rw [Bool.eq_false_iff]
          intro q
          obtain ⟨b, m, hb⟩ := List.any_eq_true.mp q
          obtain ⟨o, mo, rfl⟩ := List.mem_map.mp m
          cases o with
          | none => exact hn mo
          | some B => cases hb
        rw [ea]
        refine iteF ?_
        obtain ⟨ps, rfl⟩ := parts_all hn
        have hd2 := s2 _ _ hd1
        have hP2 : Paired (EfV K C H2) (e :: es) (ps.map some) := Paired.mapP hP1 fun v o q => q.same s2
        have s12 := s1.trans s2
        rw [List.length_map] at ln hl
        generalize hD2 : H2 = H4 at hd2 hP2 s12
        refine ⟨_, rfl, d, rfl, ⟨_, .of hd2⟩, fun D2 hD2 => lc_list (K := K) (a := d) (xs := e :: es) (fun j H5 => ∃ us, H5 D2 = some (.lst us) ∧ Paired (PrtV K H5) us (ps.take j) ∧ Same H4 H5) ⟨[], upd_same, .nil, Same.new hD2⟩ (fun j H5 _ q => ?_) ?_ ?_⟩
        · obtain ⟨_, _, _, s5⟩ := q
          exact .of (s5 _ _ hd2)
        · rintro j x H5 hx ⟨us, hu, hU, s5⟩
          obtain ⟨o, ho, a, rfl, hV⟩ := paired_at hP2 hx
          rw [List.getElem?_map] at ho
          obtain ⟨B, hB, rfl⟩ := Option.map_eq_some_iff.mp ho
          have hV5 : EffAt K C H5 a B.1 B.2.1 B.2.2 := (EffV.same (o := some B) hV s5)
          obtain ⟨dx, fs, hi⟩ := EffV.ins (o := some B) hV5
          have lU := paired_len hU
          rw [List.length_take] at lU
          refine ⟨rfl, yes_in ⟨_, rfl, a, dx, fs, rfl, hi, a, _, _, _, rfl, hV5, fun u1 hu1 => ⟨_, rfl, a, dx, fs, rfl, hi, a, _, _, _, rfl, hV5, fun u2 hu2 => ⟨_, rfl, a, dx, fs, rfl, hi, a, _, _, _, rfl, hV5, (by show 3 ≤ sizeLine; decide), fun q hq => ⟨us, ?_, ?_, us ++ [.ref q], upd_same, ?_, ?_⟩⟩⟩⟩⟩
          · rw [upd_ne (ne_of_none hu hq)]
            exact hu
          · rw [sizeLine_eq]
            omega
          · rw [List.take_add_one, hB]
            have sq : Same H5 (upd H5 q (.tup [.ref u1, .ref u2, .int B.2.2])) := Same.new hq
            have huq := sq _ _ hu
            refine Paired.snoc2 (Paired.mapP hU fun v b r => (r.same sq).updL huq) (PrtV.updL huq ⟨q, u1, u2, rfl, .of upd_same, Same.tup sq hu1, Same.tup sq hu2⟩)
          · exact Same.free2 (s5.trans (Same.new hq)) hD2
        · rintro H5 ⟨us, hu, hU, s5⟩
          rw [ln, List.take_length] at hU
          refine ⟨D2, us, ps, rfl, .of hu, hU, fun B m => hS _ (List.mem_map.mpr ⟨B, m, rfl⟩) B rfl, (hz ps rfl).1, (hz ps rfl).2, fun r H6 s6 he => k r H6 ((s12.trans s5).trans s6) ?_⟩
          · show EffV K C H6 r ((parts (ps.map some)).bind joinM)
            rw [parts_some]
            exact he
  obtain ⟨t, a, b⟩ := body
  exact ⟨t, a.nox, b⟩
end
end SE
namespace SE
open PySem PySem.Spec PyProof.Rows L2
section
variable {P : Program} {w : World} {K : PySem.W.Frag} {mg : Str → Option Value} {base : Heap} {C : Addr}
/-! ### reversal, is_neutral -/
def spRevl (K : PySem.W.Frag) (C : Addr) : Sp := fun vs H Q _ => ∃ (e : Addr) (o : Eff), vs = [.ref e] ∧ EffV K C H e o ∧ EffBg o ∧ (∀ B, o = some B → B.1.length + B.2.1.length ≤ 5000) ∧ ∀ r H', Same H H' → EffV K C H' r (revE o) → Q (.ref r) H'
theorem scRv : FnScope ["self"] ["self"] (defScope sReversal) := ⟨rfl, rfl, rfl, by decide +kernel, rfl, by decide +kernel, by decide +kernel⟩
theorem ok_revl {f : Addr} {fd : FuncData} (F : Fun K "reversal" "Effect.reversal" sReversal f fd) (T : EC K mg C) (M : Makes P w K mg base C) (GN : NeverHas P w K mg base C) (GI : PropHas P w K mg base C "is_never" 1 (spIsNev K C)) (GP : PropHas P w K mg base C "pops" 1 (spPops K C)) (GQ : PropHas P w K mg base C "pushes" 1 (spPush K C)) (GK : PropHas P w K mg base C "peak" 1 (spPeak K C)) (GC : PropHas P w K mg base C "change" 1 (spChan K C)) :
    FnOk P w K mg base CX0 7 f fd ["self"] (spRevl K C) := by
  refine F.ok scRv (fun vs H Q E h => ?_) (fun cdv A outer s H vs Q E hr h => ?_)
  · obtain ⟨e, o, rfl, _⟩ := h
    rfl
  · obtain ⟨e, o, rfl, h, sm, sz, k⟩ := h
    have hr2 : Room 2 _ := hr.mono (by decide)
    have hr5 : Room 5 _ := hr.mono (by decide)
    have hr6 : Room 6 _ := hr.mono (by decide)
    refine ⟨_, pss_cons (ps_if (pt_val (pe_propH GI (pv 0) T.cl hr2)) (pss_one (ps_ret (pe_never0 GN T.mgE hr6))) pss_nil)
      (pss_one (ps_ret (pe_effK M T.mgE hr5 (pa_cons (pe_propH GQ (pv 0) T.cl hr2) (pa_cons (pe_propH GP (pv 0) T.cl hr2) pa_nil)) (pe_op op_sub (pe_propH GK (pv 0) T.cl hr2) (pe_propH GC (pv 0) T.cl hr2))))), ?_⟩
    obtain ⟨dx, fs, hi⟩ := h.ins
    cases o with
    | none => exact ⟨_, rfl, e, dx, fs, rfl, hi, e, rfl, .inr ⟨h, true, rfl, iteT ⟨rfl, rfl, fun r H3 s3 hr3 => k r H3 s3 hr3⟩⟩⟩
    | some B =>
      obtain ⟨xs, ys, p⟩ := B
      have hA : EffAt K C H e xs ys p := h
      have ok := sm _ rfl
      have l := sz _ rfl
      have l' : xs.length + ys.length ≤ 5000 := l
      have p0 : 0 ≤ p := ok.h0
      have p1 : (ys.length : Int) - (xs.length : Int) ≤ p := ok.h1
      refine ⟨_, rfl, e, dx, fs, rfl, hi, e, rfl, .inl ⟨xs, ys, p, hA, false, rfl, iteF ?_⟩⟩
      refine ⟨_, rfl, e, dx, fs, rfl, hi, e, xs, ys, p, rfl, hA, fun u1 hu1 => ⟨_, rfl, e, dx, fs, rfl, hi, e, xs, ys, p, rfl, hA, fun u2 hu2 => ?_⟩⟩
      refine ⟨_, rfl, e, dx, fs, rfl, hi, e, xs, ys, p, rfl, hA, _, rfl, e, dx, fs, rfl, hi, e, xs, ys, p, rfl, hA, p, _, rfl, rfl, u1, u2, ys, xs, some (p - ((ys.length : Int) - (xs.length : Int))), rfl, rfl, hu1, hu2, by omega, by omega, ok.i2, ok.i1, fun q e => ?_, fun r H' s' _ he => k r H' s' he⟩
      cases e
      unfold lp
      split <;> omega
end
end SE
namespace SE
open PySem PySem.Spec PyProof.Rows L2
section
variable {P : Program} {w : World} {K : PySem.W.Frag} {mg : Str → Option Value} {base : Heap} {C : Addr}
/-! ### nothing -/
def spNothing (K : PySem.W.Frag) (C : Addr) : Sp := fun vs H Q _ => vs = [.ref C] ∧ ∀ (e : Addr) (H' : Hp), Same H H' → EffAt K C H' e [] [] 0 → Q (.ref e) H'
abbrev sNothing : Stmt := inClass sEffect 3
theorem scNo : FnScope ["cls"] ["cls"] (defScope sNothing) := ⟨rfl, rfl, rfl, by decide +kernel, rfl, by decide +kernel, by decide +kernel⟩
theorem ok_nothing {g : Addr} {gd : FuncData} (F : Fun K "nothing" "Effect.nothing" sNothing g gd) (M : Makes P w K mg base C) : FnOk P w K mg base CX0 6 g gd ["cls"] (spNothing K C) := by
  obtain ⟨f, fd, ds, Mk1, FI, hd, hb⟩ := M.two
  refine F.ok scNo (fun vs H Q E h => ?_) (fun cdv A outer s H vs Q E hr h => ?_)
  · obtain ⟨rfl, _⟩ := h
    rfl
  · obtain ⟨rfl, k⟩ := h
    refine ⟨_, pss_one (ps_ret (pe_makeL (i := 0) Mk1 FI hr rfl (.inl rfl) hb hd pass0 (pa_cons (pe_tup pa_nil) (pa_cons (pe_tup pa_nil) pa_nil)))), ?_⟩
    refine ⟨rfl, Nat.zero_le _, fun t1 h1 => ⟨Nat.zero_le _, fun t2 h2 => ?_⟩⟩
    have n2 : t1 ≠ t2 := ne_of_none upd_same h2
    have s2 : Same H (upd (upd H t1 (.tup [])) t2 (.tup [])) := Same.free2 (Same.new h1) ((Same.new h1).free h2)
    have g1 : (upd (upd H t1 (.tup [])) t2 (.tup [])) t1 = some (.tup []) := by rw [upd_ne n2]; exact upd_same
    have g2 : (upd (upd H t1 (.tup [])) t2 (.tup [])) t2 = some (.tup []) := upd_same
    generalize upd (upd H t1 (.tup [])) t2 (.tup []) = H2 at s2 g1 g2
    exact make_imp (C := C) ⟨t1, t2, [], [], rfl, .of g1, .of g2, by decide, by decide, fun z m => (by cases m), fun z m => (by cases m), fun e H' s' _ he => k e H' (s2.trans s') he⟩
def NothingHas (P : Program) (w : World) (K : PySem.W.Frag) (mg : Str → Option Value) (base : Heap) (C : Addr) : Prop := ∃ mc p g, ClX.CRead K C mc ∧ ClX.CMet K C mc "nothing" p g ∧ FnR P w K mg base CX0 6 g (spNothing K C)
theorem pe_nothing0 {X : Cx} {p apos pos : Pos} {pl : Sem Bool} (h : NothingHas X.prog X.w X.K X.mg X.base C) (mgE : X.mg "Effect" = some (.ref C)) (hr : Room 6 X.A) (hg : Gl X "Effect" := by rfl)
    (ht : eval (.Call (.Attribute (.Name "Effect" p) "nothing" apos) [] [] pos) X.env = (do
      let v ← eval (.Name "Effect" p) X.env
      standAt apos.atName
      let (f, first) ← holding [v] (getMethod v "nothing" pl)
      callWith pos f first (backTo pos (starEach [] X.env)) (backToKw pos (keywordEach [] X.env))) := by rfl) :
    PE X (.Call (.Attribute (.Name "Effect" p) "nothing" apos) [] [] pos) (tCMeth0 C (spNothing X.K C) E0 (tC (.ref C))) := by
  obtain ⟨mc, q, g, r, c, F⟩ := h
  exact pe_cmeth0 (pl := pl) (pe_glob hg mgE rfl) r c F hr pass0 ht
/-! ### apply without a limit, on a stack that begins with the pops -/
def spTh0 : Sp := fun vs H Q _ => ∃ h : Int, vs = [.int h, .non] ∧ Q (.bl false) H
theorem scTh0 : FnScope ["height", "limit"] ["height", "limit"] (defScope sTooHigh) := ⟨rfl, rfl, rfl, by decide +kernel, rfl, by decide +kernel, by decide +kernel⟩
theorem has_th0 (D : Def K mg "is_too_high" sTooHigh) : Has P w K mg base "is_too_high" 1 ["height", "limit"] [] spTh0 := by
  refine has_of D scTh0 (fun _ _ _ _ _ _ us hl => match us, hl with | [_, _], _ => rfl) (fun xs H Q E h => ?_) (fun f cv A out s H xs Q E hr h => ?_)
  · obtain ⟨h, rfl, _⟩ := h
    rfl
  · obtain ⟨h, rfl, k⟩ := h
    refine ⟨_, pss_one (ps_ret (pe_and (pe_cmpR op_notN (pv 1) pe_non (nomark _)) (pe_one (pe_cmpR op_gt (pv 0) (pv 1) (nomark _))))), ?_⟩
    exact ⟨_, rfl, rfl, false, rfl, iteF k⟩
def spCl0 : Sp := fun vs H Q _ => vs = [.non] ∧ Q .non H
theorem has_cl0 (D : Def K mg "check_limit" sChkLimit) (G : Has P w K mg base "is_limit" 3 ["value"] [] (spLmX K)) : Has P w K mg base "check_limit" 4 ["limit"] [] spCl0 := by
  refine has_of D scCl (fun _ _ _ _ _ _ us hl => match us, hl with | [_], _ => rfl) (fun xs H Q E h => ?_) (fun f cv A out s H xs Q E hr h => ?_)
  · obtain ⟨rfl, _⟩ := h
    rfl
  · obtain ⟨rfl, k⟩ := h
    refine ⟨_, pss_one (ps_if (pt_not (pt_val (pe_has G hr (pa_cons (pv 0) pa_nil)))) pss_never pss_nil), ?_⟩
    exact ⟨_, rfl, .non, .none, rfl, .non, true, rfl, iteF k⟩
def spRd0 (K : PySem.W.Frag) (C : Addr) : Sp := fun vs H Q _ => ∃ (e a : Addr) (xs ys zs : List Str) (p : Int), vs = [.ref e, .ref a] ∧ EffAt K C H e xs ys p ∧ (∀ z ∈ xs, Item z) ∧ SqT K H a ((xs ++ zs).map V.str) ∧ (∀ z ∈ zs, Item z) ∧ xs.length ≤ 5000 ∧ ys.length ≤ 5000 ∧ zs.length ≤ 5000 ∧
  ∀ v H', Same H H' → SqT K H' v ((ys ++ zs).map V.str) → Q (.ref v) H'
theorem scRd0 : FnScope ["effect", "stack", "depth"] ["effect", "stack"] (defScope sReplaced) := ⟨rfl, rfl, rfl, by decide +kernel, rfl, by decide +kernel, by decide +kernel⟩
theorem has_rd0 (D : Def K mg "replaced" sReplaced) (T : EC K mg C) (B : Blt mg) (GI : PropHas P w K mg base C "is_never" 1 (spIsNev K C)) (GP : PropHas P w K mg base C "pops" 1 (spPops K C)) (GQ : PropHas P w K mg base C "pushes" 1 (spPush K C)) :
    Has P w K mg base "replaced" 3 ["effect", "stack"] [] (spRd0 K C) := by
  refine has_of D scRd0 (fun _ _ _ _ _ _ us hl => match us, hl with | [_, _], _ => rfl) (fun xs H Q E h => ?_) (fun f cv A out s H xs Q E hr h => ?_)
  · obtain ⟨e, a, xs, ys, zs, p, rfl, _⟩ := h
    rfl
  · obtain ⟨e, a, xs, ys, zs, p, rfl, hA, i1, hT, i3, l1, l2, l3, k⟩ := h
    have hr2 : Room 2 _ := hr.mono (by decide)
    refine ⟨_, pss_cons (ps_if (pt_val (pe_propH GI (pv 0) T.cl hr2)) (pss_one (ps_ret pe_non)) pss_nil)
      (pss_cons (ps_set (i := 2) scRd0.nd rfl (.inl rfl) (pe_callB call_len_seq (by rfl) B.len PySem.boot_len (pa_cons (pe_propH GP (pv 0) T.cl hr2) pa_nil)))
      (pss_one (ps_ret (pe_ifExp (pt_cut (pt_cmpR (op_eqD hr.units) (pe_slice sl_tupS (pv 1) po_none (po_some (pv 2))) (pe_propH GP (pv 0) T.cl hr2) (nomark _))) (pe_op op_catS (pe_propH GQ (pv 0) T.cl hr2) (pe_slice sl_tupS (pv 1) (po_some (pv 2)) po_none)) pe_non)))), ?_⟩
    obtain ⟨dx, fs, hi⟩ := EffV.ins (o := some (xs, ys, p)) hA
    have shp : ∀ {zs : List Str}, (∀ z ∈ zs, Item z) → SeqAt.shaped (.tuple (zs.map PyData.str)) = true := fun {zs} q => (nice_tuple (nice_strs q)).shaped (by decide)
    refine ⟨_, rfl, e, dx, fs, rfl, hi, e, rfl, .inl ⟨xs, ys, p, hA, false, rfl, iteF ?_⟩⟩
    refine ⟨_, rfl, e, dx, fs, rfl, hi, e, xs, ys, p, rfl, hA, fun u hu => ⟨u, _, rfl, .inr hu, ?_⟩⟩
    rw [List.length_map]
    refine ⟨fun b H3 => b = true ∧ Same H H3, ?_, ?_⟩
    · refine ⟨_, rfl, _, rfl, _, rfl, a, _, rfl, hT, fun c1 H3 s3 hc1 => ?_⟩
      rw [cutF_to, List.take_left' rfl] at hc1
      refine ⟨_, rfl, e, dx, fs, rfl, s3 _ _ hi, e, xs, ys, p, rfl, EffAt.same hA s3, fun u2 hu2 => ?_⟩
      refine ⟨.tuple (xs.map .str), .tuple (xs.map .str), .tup hc1 (dp_strs _), .tup hu2 (dp_strs _), shp i1, shp i1, _, rfl, ?_, s3⟩
      rw [eqv_tupS]
      exact decide_eq_true rfl
    rintro b H3 ⟨rfl, s3⟩
    refine iteT ⟨_, rfl, e, dx, fs, rfl, s3 _ _ hi, e, xs, ys, p, rfl, EffAt.same hA s3, fun u1 hu1 => ⟨_, rfl, _, rfl, _, rfl, a, _, rfl, Same.tup s3 hT, fun c1 H4 s4 hc1 => ?_⟩⟩
    rw [cutF_from, List.drop_left' rfl] at hc1
    refine ⟨u1, c1, _, _, rfl, rfl, Same.tup s4 hu1, hc1, ?_, fun u2 H5 s5 hu2 => ?_⟩
    · rw [List.length_map, List.length_map, sizeLine_eq]
      omega
    · rw [← List.map_append] at hu2
      exact k _ H5 ((s3.trans s4).trans s5) hu2
def spAp0 (K : PySem.W.Frag) (C : Addr) : Sp := fun vs H Q _ => ∃ (e a : Addr) (xs ys zs : List Str) (p : Int), vs = [.ref e, .ref a, .non] ∧ EffAt K C H e xs ys p ∧ (∀ z ∈ xs, Item z) ∧ SqT K H a ((xs ++ zs).map V.str) ∧ (∀ z ∈ zs, Item z) ∧ xs.length + zs.length ≤ 5000 ∧ ys.length ≤ 5000 ∧
  ∀ v H', Same H H' → SqT K H' v ((ys ++ zs).map V.str) → Q (.ref v) H'
theorem ok_apply0 {f : Addr} {fd : FuncData} (F : Fun K "apply" "Effect.apply" sApply f fd) (T : EC K mg C) (B : Blt mg) (GW : Has P w K mg base "check_word" 3 ["word"] [] (spChkWord K)) (GL : Has P w K mg base "check_limit" 4 ["limit"] [] spCl0) (GT : Has P w K mg base "is_too_high" 1 ["height", "limit"] [] spTh0) (GR : Has P w K mg base "replaced" 3 ["effect", "stack"] [] (spRd0 K C))
    (GI : PropHas P w K mg base C "is_never" 1 (spIsNev K C)) (GK : PropHas P w K mg base C "peak" 1 (spPeak K C)) : FnOk P w K mg base CX0 5 f fd pApp (spAp0 K C) := by
  refine F.ok scAp (fun vs H Q E h => ?_) (fun cdv A outer s H vs Q E hr h => ?_)
  · obtain ⟨e, a, xs, ys, zs, p, rfl, _⟩ := h
    rfl
  · obtain ⟨e, a, xs, ys, zs, p, rfl, hA, i1, hT, i3, l1, l2, k⟩ := h
    have hr1 : Room 1 _ := hr.mono (by decide)
    have hr2 : Room 2 _ := hr.mono (by decide)
    have hr3 : Room 3 _ := hr.mono (by decide)
    refine ⟨_, pss_cons (ps_expr (pe_has GW hr3 (pa_cons (pv 1) pa_nil))) (pss_cons (ps_expr (pe_has GL hr (pa_cons (pv 2) pa_nil)))
      (pss_cons (ps_if (PW.pt (pw_or (pt_val (pe_propH GI (pv 0) T.cl hr2)) (pw_or1 (pt_val (pe_has GT hr1 (pa_cons (pe_op op_add (pe_callB call_len_seq (by rfl) B.len PySem.boot_len (pa_cons (pv 1) pa_nil)) (pe_propH GK (pv 0) T.cl hr2)) (pa_cons (pv 2) pa_nil))))))) (pss_one (ps_ret pe_non)) pss_nil)
      (pss_one (ps_ret (pe_has GR hr3 (pa_cons (pv 0) (pa_cons (pv 1) pa_nil))))))), ?_⟩
    have iA : ∀ z ∈ xs ++ zs, Item z := fun z m => (List.mem_append.mp m).elim (i1 z) (i3 z)
    refine ⟨_, rfl, a, xs ++ zs, rfl, hT, by rw [List.length_append]; exact l1, iA, fun H1 s1 => ?_⟩
    have hA1 := hA.same s1
    obtain ⟨dx, fs, hi⟩ := EffV.ins (o := some (xs, ys, p)) hA1
    refine ⟨_, rfl, rfl, ?_⟩
    refine ⟨_, rfl, e, dx, fs, rfl, hi, e, rfl, .inl ⟨xs, ys, p, hA1, false, rfl, iteF ?_⟩⟩
    refine ⟨_, rfl, a, _, rfl, .inr (Same.tup s1 hT), _, rfl, e, dx, fs, rfl, hi, e, xs, ys, p, rfl, hA1, _, _, rfl, rfl, _, rfl, _, rfl, false, rfl, iteF ?_⟩
    exact ⟨_, rfl, _, rfl, e, a, xs, ys, zs, p, rfl, hA1, i1, Same.tup s1 hT, i3, by omega, l2, by omega, fun v H' s' hv => k v H' (s1.trans s') hv⟩
end
end SE
/-! own ==, != with whatever stands beside on the right. -/
namespace SE
open PySem PySem.Spec PyProof.Rows L2
section
variable {prog : Program} {w : World} {A : Around} {E : Value → Shared → Prop} {s : Shared} {K : PySem.W.Frag} {x C f : Addr} {ox : Obj} {od : Option Obj} {b tb : Value} {Q : Value → Shared → Prop}
theorem ne_any (hu : A.units + 1 < cLine) (X : K.In s.heap) (I : PySem.W.InstAt s.heap x ox C od) (hb : PySem.W.Looks (model prog w) s.heap (typeOf b) tb) (hnf : PySem.W.notFirst K C tb = true) (hm : PySem.W.mroIn K C (.type "object") = some true)
    (hn : PySem.W.findIn K (.ref C) "__ne__" = some (some (.builtin "object.__ne__"))) (hs : PySem.W.findIn K (.ref C) "__eq__" = some (some (.ref f))) (hf : PySem.W.isFn K (.ref f) = true)
    (h : wpAny (model prog w) A.in1 (call (.ref f) [.ref x, b]) (fun r s2 => ∃ b, r = .bool b ∧ Q (.bool (!b)) s2) E s) : wpAny (model prog w) A (richCompare .NotEq (.ref x) b) Q E s := by
  have one : wpAny (model prog w) A (tryCompare (.ref x) (cmpInfo .NotEq).2.1 b) (fun r s2 => ∃ v, r = some v ∧ Q v s2) E s := by
    unfold tryCompare
    refine wpAny_bind (bound_slot X I hn PySem.F.cmp_object.ne.bind (ne_call hu X I hm hs hf (wpAny_mono h (fun v s2 z => ?_) fun _ _ z => z)))
    obtain ⟨b, rfl, q⟩ := z
    exact ⟨b, rfl, wpAny_pure ⟨_, rfl, q⟩⟩
  unfold richCompare
  simp only [oneThing_ref]
  refine wpAny_holding (wpAny_bind (wpAny_cRoomFor (Nat.lt_of_succ_lt hu) (wpAny_bind (I.type.here (wpAny_bind (hb.here ?_))))))
  have fin : wpAny (model prog w) A (tryCompare (.ref x) (cmpInfo .NotEq).2.1 b) (fun r s2 => ∃ v, r = some v ∧ Q v s2) E s := one
  split
  · rename_i q
    have e : PySem.W.subIn K tb (.ref C) = some false := by
      rcases Bool.or_eq_true_iff.mp hnf with e | e
      · rw [beq_iff_eq.mp e] at q; simp at q
      · exact beq_iff_eq.mp e
    refine wpAny_bind ((PySem.W.looks_subIn X e).here ?_)
    simp only [Bool.false_eq_true, if_false]
    refine wpAny_bind (wpAny_mono one (fun r s' z => ?_) fun _ _ e => e)
    obtain ⟨v, rfl, hq⟩ := z
    exact wpAny_pure hq
  · refine wpAny_bind (wpAny_pure ?_)
    simp only [Bool.false_eq_true, if_false]
    refine wpAny_bind (wpAny_mono one (fun r s' z => ?_) fun _ _ e => e)
    obtain ⟨v, rfl, hq⟩ := z
    exact wpAny_pure hq
end
/-- what an own == promises of any value beside it -/
def spEqW (R : Addr → V → Bool → Hp → Prop) : Sp := fun vs H Q _ => ∃ (a : Addr) (y : V) (c : Bool), vs = [.ref a, y] ∧ R a y c H ∧ ∀ H', Same H H' → Q (.bl c) H'
def rCmpW (K : PySem.W.Frag) (C : Addr) (R : Addr → V → Bool → Hp → Prop) (neg : Bool) : R2 := fun x y H Q => ∃ (a : Addr) (c : Bool) (dx : Addr) (fs : List (Str × V)) (t : Value), x = .ref a ∧ H a = some (.ins C dx fs) ∧ TyX K H y t ∧ PySem.W.notFirst K C t = true ∧ R a y c H ∧ ∀ H', Same H H' → Q (.bl (c != neg)) H'
section
variable {X : Cx} {n : Nat} {C f : Addr} {fd : FuncData} {ps : List Str} {R : Addr → V → Bool → Hp → Prop}
theorem op_eqW (F : FnOk X.prog X.w X.K X.mg X.base CX0 n f fd ps (spEqW R)) (hs : PySem.W.findIn X.K (.ref C) "__eq__" = some (some (.ref f))) (hf : PySem.W.isFn X.K (.ref f) = true) (hb : Binds X.K fd ps []) (hr : Room n X.A) : OpR X (compareOp .Eq) (rCmpW X.K C R false) := by
  intro pins s σ H x y u v Q I rx ry hq
  obtain ⟨a, c, dx, fs, t, rfl, ha, ty, nf, hR, k⟩ := hq
  cases rx
  obtain ⟨P, Z, p, _⟩ := kit_of I ry ty
  obtain ⟨mA, J, _⟩ := ins_get I.hok ha
  obtain ⟨od, J, _⟩ := J.look
  obtain ⟨m, hF⟩ := I.fr
  show wpAny (model X.prog X.w) X.A (richCompare .Eq (.ref a) v) (EP X pins σ Q) X.xe s
  refine PySem.W.cmp_K (op := .Eq) (tb := t) hr.units0 hF I.ok.mod.kin J (Z.ty _ _ I.kIn p) nf hs hf ?_
  have hsp : spEqW R [.ref a, y] H (fun z H' => z = .bl c ∧ Same H H') (fun _ _ _ => False) := ⟨a, y, c, rfl, hR, fun H' e => ⟨rfl, e⟩⟩
  have hl := F.len _ _ _ _ hsp
  refine wpAny_call (codeAny_mono (F.run X.A X.stack s H ⟨[.ref a, v], []⟩ [.ref a, v] [.ref a, y] _ _ hr I.env0 (by simpa using hb s [.ref a, v] I.kIn (by simpa using hl)) (.cons rfl (.cons ry .nil)) hsp) fun r s2 hq => ?_)
  cases r with
  | error e => exact hq.elim
  | ok fl =>
    cases fl with
    | ret z =>
      obtain ⟨y, H2, I2, rz, ez, ex⟩ := I.after hq
      subst ez
      cases rz
      refine ⟨.bl c, H2, I2, rfl, ?_⟩
      have q := k H2 ex
      rw [show (c != false) = c by cases c <;> rfl] at q
      exact q
    | next => exact hq.elim
    | brk => exact hq.elim
    | cont => exact hq.elim
theorem op_neW (F : FnOk X.prog X.w X.K X.mg X.base CX0 n f fd ps (spEqW R)) (hs : PySem.W.findIn X.K (.ref C) "__eq__" = some (some (.ref f))) (hf : PySem.W.isFn X.K (.ref f) = true) (hb : Binds X.K fd ps []) (hm : PySem.W.mroIn X.K C (.type "object") = some true)
    (hn : PySem.W.findIn X.K (.ref C) "__ne__" = some (some (.builtin "object.__ne__"))) (hr : Room (n + 1) X.A) : OpR X (compareOp .NotEq) (rCmpW X.K C R true) := by
  intro pins s σ H x y u v Q I rx ry hq
  obtain ⟨a, c, dx, fs, t, rfl, ha, ty, nf, hR, k⟩ := hq
  cases rx
  obtain ⟨P, Z, p, _⟩ := kit_of I ry ty
  obtain ⟨mA, J, _⟩ := ins_get I.hok ha
  obtain ⟨od, J, _⟩ := J.look
  show wpAny (model X.prog X.w) X.A (richCompare .NotEq (.ref a) v) (EP X pins σ Q) X.xe s
  refine ne_any (tb := t) (by have := hr.in1.units0; exact this) I.kIn J (Z.ty _ _ I.kIn p) nf hm hn hs hf ?_
  have hsp : spEqW R [.ref a, y] H (fun z H' => z = .bl c ∧ Same H H') (fun _ _ _ => False) := ⟨a, y, c, rfl, hR, fun H' e => ⟨rfl, e⟩⟩
  have hl := F.len _ _ _ _ hsp
  refine wpAny_call (codeAny_mono (F.run X.A.in1 X.stack s H ⟨[.ref a, v], []⟩ [.ref a, v] [.ref a, y] _ _ hr.in1 I.env0.in1 (by simpa using hb s [.ref a, v] I.kIn (by simpa using hl)) (.cons rfl (.cons ry .nil)) hsp) fun r s2 hq => ?_)
  cases r with
  | error e => exact hq.elim
  | ok fl =>
    cases fl with
    | ret z =>
      obtain ⟨y, H2, I2, rz, ez, ex⟩ := I.after hq
      subst ez
      cases rz
      refine ⟨c, rfl, .bl (!c), H2, I2, rfl, ?_⟩
      have q := k H2 ex
      rw [show (c != true) = !c by cases c <;> rfl] at q
      exact q
    | next => exact hq.elim
    | brk => exact hq.elim
    | cont => exact hq.elim
end
/-- a built-in type that is no own class -/
theorem sub_ty {K : PySem.W.Frag} {C : Addr} {T : String} {l : List Value} (h : PySem.W.subIn K (.type T) (.ref C) = some false) : PySem.W.notFirst K C (.type T) = true := by
  unfold PySem.W.notFirst
  rw [h]
  simp
theorem kit_ty0 {K : PySem.W.Frag} {C : Addr} {T : String} (h : PySem.W.subIn K (.type T) (.ref C) = some false) (h2 : PySem.W.typeIn K (.ref C) = some (.type "type")) (h3 : PySem.W.hasDictIn K C = true) : PySem.W.kitOne K (.type T) (.ref C) = some false := by
  obtain ⟨cd, hc, _⟩ := PySem.W.any_some h3
  unfold PySem.W.kitOne
  rw [if_neg (by simp)]
  show (if ((PySem.W.clsIn K C).isSome && PySem.W.typeIn K (.ref C) == some (.type "type")) = true then PySem.W.subIn K (.type T) (.ref C) else none) = some false
  rw [if_pos (by rw [hc, h2]; rfl)]
  exact h
theorem sub_of {K : PySem.W.Frag} {C : Addr} {T : String} {l : List Value} (h : fastBuiltinMro T = some l) (h2 : ∀ v ∈ l, ∃ T', v = .type T') : PySem.W.subIn K (.type T) (.ref C) = some false := by
  show (fastBuiltinMro T).map (·.contains (.ref C)) = some false
  rw [h]
  simp only [Option.map_some, Option.some.injEq]
  rw [Bool.eq_false_iff]
  intro q
  obtain ⟨T', e⟩ := h2 _ (List.contains_iff_mem.mp q)
  cases e
end SE
/-! Texts: d.get(x) of a module's dict, repr of a text. -/
namespace SE
open PySem PySem.Spec PyProof.Rows L2
/-- d.get(x), d a module's dict with texts as keys -/
def tKGet (K : PySem.W.Frag) (w : World) (td ty : TE) : TE := fun σ H Q => td σ H fun x H1 => ∃ p es n, x = .ref p ∧ KDict K w p es n ∧ ty σ H1 fun y H2 => ∃ (z : Str) (r : Option Value) (v : V), y = .str z ∧ PySem.W.nsIn K p z = some r ∧ RelV v (r.getD .none) ∧ Q v H2
section
variable {X : Cx} {o e : Expr} {apos cpos : Pos} {td ty : TE}
theorem pe_kget (ho : PE X o td) (he : PE X e ty) (m : M1 X o "get" apos e cpos) : PE X (.Call (.Attribute o "get" apos) [e] [] cpos) (tKGet X.K X.w td ty) := by
  refine ⟨fun pins s σ H Q I h => ?_⟩
  refine wpAny_Call_method m.base m.few m.line PySem.F.plainAttrs_dict PySem.F.slot_dict_get PySem.F.type_dict_get (thn (ho.run pins s σ H _ I h) fun u s1 ⟨x, H1, I1, rx, a, es, n, ex, D, q1⟩ => ?_)
  subst ex
  obtain rfl : u = Value.ref a := rx
  have hm := PySem.W.mapOf_K (prog := X.prog) (w := X.w) I1.kIn D.at_ D.lit
  refine ⟨hm.typeIs, fun b q => ?_, ?_⟩
  · cases q
    obtain ⟨ob, _, _, h1, h2, _⟩ := hm
    exact ⟨ob, h1, h2.2.1⟩
  rw [m.trees]
  refine Calls.callWith_builtin rfl (Calls.evalArgs_plain (Calls.spliced_cons (thn (he.run pins s1 σ H1 _ I1 q1) fun iv s2 ⟨y, H2, I2, ry, z, r, v, ey, hn, rv, q2⟩ => Calls.spliced_nil ?_)))
  subst ey
  obtain ⟨t, rfl⟩ := ry
  have hm2 := PySem.W.mapOf_K (prog := X.prog) (w := X.w) I2.kIn D.at_ D.lit
  refine call_meetsIn PySem.F.slot_dict_get hm2.typeIs PySem.F.entry_dict_get (PySem.F.args_dict_get_2 _ _) (meets_dict_get (strKind X.prog X.w) a (PySem.strKind_is X.prog X.w z t) D.low) ⟨_, hm2, ?_⟩
  rw [PySem.W.find_K D.at_ hn]
  exact ⟨v, H2, I2.tok _, rv, q2⟩
/-- repr(x), x a text -/
def rRepT : List V → Hp → VK → Prop := fun xs H Q => ∃ z : Str, xs = [.str z] ∧ (reprText z).length ≤ sizeLine ∧ Q (.str (reprText z)) H
theorem call_repT : CallR X (.builtin "repr") rRepT := by
  intro pins s σ H xs us Q I r h
  obtain ⟨z, rfl, hz, q⟩ := h
  cases r with
  | cons r1 r2 =>
    cases r2
    obtain ⟨t, rfl⟩ := r1
    exact PySem.P.repr_of_str ⟨.str _, H, I.tok _, ⟨_, rfl⟩, q⟩ hz
end
/-- texts added -/
def rAddT : R2 := fun a b H Q => ∃ x y, a = .str x ∧ b = .str y ∧ x.length + y.length ≤ sizeLine ∧ Q (.str (x ++ y)) H
theorem op_addT {X : Cx} : OpR X (binaryOp .Add) rAddT := op_add_str
/-! ### joined texts -/
open TL
theorem mem_joinL {S : List Nat} {c : Nat} : ∀ {ps : List (List Nat)}, c ∈ joinL S ps → c ∈ S ∨ ∃ p ∈ ps, c ∈ p
  | [], h => by cases h
  | [p], h => .inr ⟨p, List.mem_singleton.mpr rfl, h⟩
  | p :: q :: r, h => by
    have h' : c ∈ p ++ (S ++ joinL S (q :: r)) := h
    rcases List.mem_append.mp h' with a | a
    · exact .inr ⟨p, List.mem_cons_self .., a⟩
    · rcases List.mem_append.mp a with a | a
      · exact .inl a
      · rcases mem_joinL a with b | ⟨x, m, b⟩
        · exact .inl b
        · exact .inr ⟨x, List.mem_cons_of_mem _ m, b⟩
theorem mem_join {y : Str} {c : Nat} {ps : List Str} (h : c ∈ tl (Txt.join y ps)) : c ∈ tl y ∨ ∃ p ∈ ps, c ∈ tl p := by
  rw [join_eq, tl_join] at h
  rcases mem_joinL h with a | ⟨x, m, a⟩
  · exact .inl a
  · obtain ⟨p, mp, rfl⟩ := List.mem_map.mp m
    exact .inr ⟨p, mp, a⟩
theorem join_len (y : Str) (ps : List Str) : (Txt.join y ps).length ≤ (ps.map (·.length)).sum + ps.length * y.length := by
  rw [join_eq]
  exact StrLaws.join_length_le y ps
theorem sum_lens {B : Nat} : ∀ {ts : List Str}, (∀ t ∈ ts, t.length ≤ B) → (ts.map (·.length)).sum ≤ ts.length * B
  | [], _ => Nat.zero_le _
  | t :: ts, h => by
    have h1 := h t (List.mem_cons_self ..)
    have ih := sum_lens fun t m => h t (List.mem_cons_of_mem _ m)
    rw [List.map_cons, List.sum_cons, List.length_cons, Nat.succ_mul]
    omega
end SE
namespace SE
open PySem PySem.Spec PyProof.Rows L2
theorem empty_app (z : Str) : Str.empty ++ z = z := by
  refine TL.ext_tl ?_
  rw [TL.tl_append]
  have a : TL.tl Str.empty = [] := by decide +kernel
  rw [a, List.nil_append]
theorem show_text {xs ys : List Str} {p : Int} : shownE (some (xs, ys, p)) = ("Effect(" : Str) ++ (PyData.tuple (xs.map .str)).shown ++ ", " ++ (PyData.tuple (ys.map .str)).shown ++ ", peak=" ++ (PyData.int p).shown ++ ")" := by
  show Str.empty ++ "Effect(" ++ (PyData.tuple (xs.map .str)).shown ++ ", " ++ (PyData.tuple (ys.map .str)).shown ++ ", peak=" ++ toString p ++ ")" = _
  rw [empty_app]
  rfl
/-! ### __eq__ beside any value -/
def rEffW (K : PySem.W.Frag) (C : Addr) (a : Addr) (y : V) (c : Bool) (H : Hp) : Prop := ∃ o1, EffV K C H a o1 ∧ EffOk o1 ∧
  ((∃ b o2, y = .ref b ∧ EffV K C H b o2 ∧ EffOk o2 ∧ c = decide (o1 = o2)) ∨ (c = false ∧ ∃ t, TyX K H y t ∧ PySem.W.kitOne K t (.ref C) = some false))
section
variable {P : Program} {w : World} {K : PySem.W.Frag} {mg : Str → Option Value} {base : Heap} {C : Addr}
theorem ok_eqW {f : Addr} {fd : FuncData} (F : Fun K "__eq__" "Effect.__eq__" sEq f fd) (T : EC K mg C) (TI : EI K C) (B : Blt mg) : FnOk P w K mg base CX0 1 f fd ["self", "other"] (spEqW (rEffW K C)) := by
  refine F.ok scEq (fun vs H Q E h => ?_) (fun cdv A outer s H vs Q E hr h => ?_)
  · obtain ⟨a, b, c, rfl, _⟩ := h
    rfl
  · obtain ⟨a, y, c, rfl, ⟨o1, h1, k1, hy⟩, k⟩ := h
    obtain ⟨dx, u, v, p, i1, d1, d2, d3⟩ := h1.dp
    refine ⟨_, pss_one (ps_ret (pe_and (pe_callB call_isi (by rfl) B.isi (by decide +kernel) (pa_cons (pv 1) (pa_cons (pe_glob (v := .ref C) rfl T.mgE rfl) pa_nil)))
      (pe_and (pe_cmpR (op_eqD hr.units) (pe_fld (pv 0) rfl) (pe_fld (pv 1) rfl) (nomark _)) (pe_and (pe_cmpR (op_eqD hr.units) (pe_fld (pv 0) rfl) (pe_fld (pv 1) rfl) (nomark _)) (pe_one (pe_cmpR (op_eqD hr.units) (pe_fld (pv 0) rfl) (pe_fld (pv 1) rfl) (nomark _))))))), ?_⟩
    rcases hy with ⟨b, o2, rfl, h2, k2, rfl⟩ | ⟨rfl, t, ty, ki⟩
    rotate_left
    · exact ⟨_, rfl, _, .ref C, t, .ref C, false, rfl, .own C, ty, ki, false, rfl, iteF (k H (Same.refl H))⟩
    obtain ⟨dy, u2, v2, p2, i2, g1, g2, g3⟩ := h2.dp
    obtain ⟨s1, s2, s3⟩ := k1.shaped
    obtain ⟨t1, t2, t3⟩ := k2.shaped
    have fin := k H (Same.refl H)
    rw [← eff_eqv] at fin
    refine ⟨_, rfl, _, .ref C, .ref C, .ref C, true, rfl, .own C, .base (.ins i2 T.cl TI.ha TI.hn TI.ht TI.hm), TI.ki, true, rfl, iteT ?_⟩
    refine ⟨_, rfl, a, C, dx, _, _, rfl, i1, T.cl, T.nN, eF_needs _ _ _, _, rfl, b, C, dy, _, _, rfl, i2, T.cl, T.nN, eF_needs _ _ _, dN o1, dN o2, d1, g1, s1, t1, _, rfl, ?_⟩
    cases e1 : PyData.eqv (dN o1) (dN o2) with
    | false =>
      rw [e1, Bool.false_and] at fin
      exact iteF fin
    | true =>
      rw [e1, Bool.true_and] at fin
      refine iteT ⟨_, rfl, a, C, dx, _, _, rfl, i1, T.cl, T.nL, eF_leaves _ _ _, _, rfl, b, C, dy, _, _, rfl, i2, T.cl, T.nL, eF_leaves _ _ _, dL o1, dL o2, d2, g2, s2, t2, _, rfl, ?_⟩
      cases e2 : PyData.eqv (dL o1) (dL o2) with
      | false =>
        rw [e2, Bool.false_and] at fin
        exact iteF fin
      | true =>
        rw [e2, Bool.true_and] at fin
        exact iteT ⟨_, rfl, a, C, dx, _, _, rfl, i1, T.cl, T.nH, eF_high _ _ _, _, rfl, b, C, dy, _, _, rfl, i2, T.cl, T.nH, eF_high _ _ _, dH o1, dH o2, d3, g3, s3, t3, fin⟩
def EqHasW (P : Program) (w : World) (K : PySem.W.Frag) (mg : Str → Option Value) (base : Heap) (C : Addr) : Prop := ∃ f fd, FnOk P w K mg base CX0 1 f fd ["self", "other"] (spEqW (rEffW K C)) ∧ PySem.W.findIn K (.ref C) "__eq__" = some (some (.ref f)) ∧ PySem.W.isFn K (.ref f) = true ∧ Binds K fd ["self", "other"] [] ∧ PySem.W.findIn K (.ref C) "__ne__" = some (some (.builtin "object.__ne__"))
def ReprHas (P : Program) (w : World) (K : PySem.W.Frag) (mg : Str → Option Value) (base : Heap) (C : Addr) : Prop := ∃ f fd, GOk P w K mg base 1 f fd ["self"] (spRepr K C) ∧ PySem.W.findIn K (.ref C) "__repr__" = some (some (.ref f)) ∧ PySem.W.isFn K (.ref f) = true ∧ Binds K fd ["self"] []
def ThenHas (P : Program) (w : World) (K : PySem.W.Frag) (mg : Str → Option Value) (base : Heap) (C : Addr) : Prop := ∃ f, Meth K C "then" f ∧ FnR P w K mg base CX0 8 f (spThen K C)
/-- two effects compared -/
theorem cmp_eff {H : Hp} {a b : Addr} {o1 o2 : Eff} {neg : Bool} {Q : VK} (T : EC K mg C) (TI : EI K C) (ha : EffV K C H a o1) (hb : EffV K C H b o2) (k1 : EffOk o1) (k2 : EffOk o2) (k : ∀ H', Same H H' → Q (.bl (decide (o1 = o2) != neg)) H') : rCmpW K C (rEffW K C) neg (.ref a) (.ref b) H Q := by
  obtain ⟨dx, fs, i1⟩ := ha.ins
  obtain ⟨dy, gs, i2⟩ := hb.ins
  exact ⟨a, decide (o1 = o2), dx, fs, .ref C, rfl, i1, .base (.ins i2 T.cl TI.ha TI.hn TI.ht TI.hm), by unfold PySem.W.notFirst; simp, ⟨o1, ha, k1, .inl ⟨b, o2, rfl, hb, k2, rfl⟩⟩, k⟩
/-- an effect beside another value -/
theorem cmp_oth {H : Hp} {a : Addr} {o1 : Eff} {neg : Bool} {Q : VK} {y : V} {T' : String} (T : EC K mg C) (tC : PySem.W.typeIn K (.ref C) = some (.type "type")) (ha : EffV K C H a o1) (k1 : EffOk o1) (ty : TyX K H y (.type T')) (hs : PySem.W.subIn K (.type T') (.ref C) = some false) (k : ∀ H', Same H H' → Q (.bl (false != neg)) H') : rCmpW K C (rEffW K C) neg (.ref a) y H Q := by
  obtain ⟨dx, fs, i1⟩ := ha.ins
  exact ⟨a, false, dx, fs, .type T', rfl, i1, ty, sub_ty (l := []) hs, ⟨o1, ha, k1, .inr ⟨rfl, _, ty, kit_ty0 hs tC T.cl.hd⟩⟩, k⟩
theorem sub_three : PySem.W.subIn K (.type "tuple") (.ref C) = some false ∧ PySem.W.subIn K (.type "NoneType") (.ref C) = some false ∧ PySem.W.subIn K (.type "str") (.ref C) = some false := by
  have l1 : fastBuiltinMro "tuple" = some [.type "tuple", .type "object"] := by decide +kernel
  have l2 : fastBuiltinMro "NoneType" = some [.type "NoneType", .type "object"] := by decide +kernel
  have l3 : fastBuiltinMro "str" = some [.type "str", .type "object"] := by decide +kernel
  refine ⟨sub_of l1 ?_, sub_of l2 ?_, sub_of l3 ?_⟩ <;> (intro v m; simp at m; rcases m with rfl | rfl <;> exact ⟨_, rfl⟩)
theorem seven {vs : List V} {xs : List V} {F : V → V → Prop} : True := trivial
theorem then_self {B : Prt} (h : 0 ≤ B.2.2) : thenM [some B] = some B := by
  obtain ⟨xs, ys, p⟩ := B
  show joinF ([], [], 0) [(xs, ys, p)] = _
  unfold joinF comp
  have e : (if (([] : List Str).length : Int) - (([] : List Str).length : Int) + p > 0 then (([] : List Str).length : Int) - (([] : List Str).length : Int) + p else 0) = p := by
    have z : (([] : List Str).length : Int) = 0 := rfl
    have h : 0 ≤ p := h
    rw [z]
    split <;> omega
  simp only [List.length_nil, Nat.zero_min, List.take_zero, if_true, List.drop_zero, List.nil_append, List.append_nil]
  have e2 : (if ((0 : Nat) : Int) - ((0 : Nat) : Int) + p > 0 then ((0 : Nat) : Int) - ((0 : Nat) : Int) + p else 0) = p := e
  rw [e2]
  rfl
end
section
variable {P : Program} {w : World} {K : PySem.W.Frag} {mg : Str → Option Value} {base : Heap} {C : Addr}
/-! ### _law_alike_right -/
def spAR (K : PySem.W.Frag) : Sp := fun vs H Q _ => ∃ (pl : V) (a b : Addr) (xs ys : List Str) (p : Int), vs = [pl, .ref a, .ref b, .int p] ∧ SqT K H a (xs.map V.str) ∧ SqT K H b (ys.map V.str) ∧ (∀ z ∈ xs, Item z) ∧ (∀ z ∈ ys, Item z) ∧ xs.length ≤ 5 ∧ ys.length ≤ 5 ∧ lp xs ys ≤ p ∧ p ≤ 100 ∧ ∀ H', Same H H' → Q (.bl true) H'
abbrev nAR : List Str := ["_law_pool_here", "_law_needed", "_law_added", "_law_high", "_law_effect", "_law_others", "_law_text", "_law_other"]
abbrev pAR : List Str := ["_law_pool_here", "_law_needed", "_law_added", "_law_high"]
theorem scAR : FnScope nAR pAR (defScope sLawAlikeRight) := ⟨rfl, rfl, rfl, by decide +kernel, rfl, by decide +kernel, by decide +kernel⟩
theorem ghas_ar (D : Def K mg "_law_alike_right" sLawAlikeRight) (T : EC K mg C) (TI : EI K C) (tC : PySem.W.typeIn K (.ref C) = some (.type "type")) (M : Makes P w K mg base C) (GN : NeverHas P w K mg base C) (EQ : EqHasW P w K mg base C) (RP : ReprHas P w K mg base C) (TH : ThenHas P w K mg base C) (mp : mg "repr" = none) : GHas P w K mg base "_law_alike_right" 9 pAR (spAR K) := by
  obtain ⟨fq, fdq, FQ, eq1, eq2, eq3, eq4⟩ := EQ
  obtain ⟨fr, fdr, FR, rp1, rp2, rp3⟩ := RP
  obtain ⟨ft, mt, Ft⟩ := TH
  have M' := M
  obtain ⟨fI, fdI, MkI, FI, FDI⟩ := M'
  obtain ⟨mvI, kbI⟩ := kb_some (ps := pInit) FDI 1 ["pushes", "pops", "peak"] [] (fun us _ ws => us ++ ((ws.drop 1).take 1 ++ (ws.take 1 ++ ws.drop 2))) (by simp) (fun q h => (by cases h)) (fun r1 _ r3 => r1.append (((r3.drop 1).take 1).append ((r3.take 1).append (r3.drop 2)))) (fun D doc pm an cv ct us mv ws h1 h2 h3 => match us, mv, ws, h1, h2, h3 with | [_], [], [_, _, _], _, _, _ => rfl)
  refine ghas_of D scAR (fun _ _ _ _ _ _ us hl => match us, hl with | [_, _, _, _], _ => rfl) (fun xs H Q E h => ?_) (fun f cv A out s H xs Q E hgu hr h => ?_)
  · obtain ⟨pl, a, b, xs, ys, p, rfl, _⟩ := h
    rfl
  · obtain ⟨pl, a, b, xs, ys, p, rfl, ha, hb, i1, i2, l1, l2, lp1, p2, k⟩ := h
    have hr1 : Room 1 _ := hr.mono (by decide)
    have hr2 : Room 2 _ := hr.mono (by decide)
    have hr5 : Room 5 _ := hr.mono (by decide)
    have hr6 : Room 6 _ := hr.mono (by decide)
    have hr8 : Room 8 _ := hr.mono (by decide)
    refine ⟨_, (pss_cons (ps_set (i := 4) scAR.nd rfl (.inr rfl) (pe_effK M T.mgE hr5 (pa_cons (pv 1) (pa_cons (pv 2) pa_nil)) (pv 3)))
      (pss_cons (ps_set (i := 5) scAR.nd rfl (.inl rfl) (pe_lst (pa_cons (pe_effK M T.mgE hr5 (pa_cons (pv 1) (pa_cons (pv 2) pa_nil)) (pe_op op_add (pv 3) pe_int)) (pa_cons (pe_effK M T.mgE hr5 (pa_cons (pe_op op_catS (pv 1) (pe_tup (pa_cons pe_str pa_nil))) (pa_cons (pv 2) pa_nil)) (pv 3)) (pa_cons (pe_never0 GN T.mgE hr6) pa_nil)))))
      (pss_cons (ps_set (i := 5) scAR.nd rfl (.inl rfl) (pe_op op_cat (pv 5) (pe_lst (pa_cons (pe_effK M T.mgE hr5 (pa_cons (pv 1) (pa_cons (pe_op op_catS (pv 2) (pe_tup (pa_cons pe_str pa_nil))) pa_nil)) (pe_op op_add (pv 3) pe_int)) (pa_cons (pe_tup (pa_cons (pv 1) (pa_cons (pv 2) (pa_cons (pv 3) pa_nil)))) (pa_cons pe_non (pa_cons (pe_callB (call_reprE FR rp1 rp2 rp3 hgu hr2) (by rfl) mp (by decide +kernel) (pa_cons (pv 4) pa_nil)) pa_nil)))))))
      (pss_cons (ps_if (pt_cmpR (op_neD hr.units) (pe_lc (own := [("_law_other", 7)]) (g := gName 7) (tt := (tOr (tTest (tOp (rCmpW K C (rEffW K C) false) (tVar 4) (tVar 7))) (tNot (tTest (tOp (rCmpW K C (rEffW K C) true) (tVar 4) (tVar 7)))))) (te := tVar 7) rfl scAR.nd (pi_list (pv 5)) (blkOk_by (own := [("_law_other", 7)]) (N := nAR) (sc := defScope sLawAlikeRight) (by decide +kernel))
          (fun _ _ _ _ _ => pg_name (i := 7) scAR.nd rfl (.inl rfl)) (fun _ _ _ _ _ => pts_one (PW.pt (pw_or (pt_cmpR (op_eqW FQ eq1 eq2 eq3 hr1) (pv 4) (pv 7) (nomark _)) (pw_or1 (pt_not (pt_cmpR (op_neW FQ eq1 eq2 eq3 TI.hm eq4 hr2) (pv 4) (pv 7) (nomark _))))))) (fun _ _ _ _ _ => pv 7)) (pe_lst pa_nil) (nomark _)) (pss_one (ps_ret pe_bl)) pss_nil)
      (pss_cons (ps_if (PW.pt (pw_or (pt_cmpR (op_neW FQ eq1 eq2 eq3 TI.hm eq4 hr2) (pv 4) (pe_makeK0 MkI FI hr5 rfl T.mgE kbI pass0 (pk_cons (pv 2) (pk_cons (pv 1) (pk_cons (pv 3) pk_nil)))) (nomark _)) (pw_or1 (pt_cmpR (op_neW FQ eq1 eq2 eq3 TI.hm eq4 hr2) (pe_never0 GN T.mgE hr6) (pe_never0 GN T.mgE hr6) (nomark _))))) (pss_one (ps_ret pe_bl)) pss_nil)
      (pss_cons (ps_set (i := 6) scAR.nd rfl (.inl rfl) (pe_op op_addT (pe_op op_addT (pe_op op_addT (pe_op op_addT (pe_op op_addT (pe_op op_addT pe_str (pe_callB (call_repX hgu hr.units) (by rfl) mp (by decide +kernel) (pa_cons (pv 1) pa_nil))) pe_str) (pe_callB (call_repX hgu hr.units) (by rfl) mp (by decide +kernel) (pa_cons (pv 2) pa_nil))) pe_str) (pe_callB (call_repX hgu hr.units) (by rfl) mp (by decide +kernel) (pa_cons (pv 3) pa_nil))) pe_str))
      (pss_one (ps_ret (pe_and (pe_cmpR op_eq (pe_callB (call_reprE FR rp1 rp2 rp3 hgu hr2) (by rfl) mp (by decide +kernel) (pa_cons (pv 4) pa_nil)) (pv 6) (nomark _)) (pe_and (pe_cmpR op_eq (pe_callB (call_reprE FR rp1 rp2 rp3 hgu hr2) (by rfl) mp (by decide +kernel) (pa_cons (pe_never0 GN T.mgE hr6) pa_nil)) pe_str (nomark _)) (pe_one (pe_cmpR op_eq (pe_callB (call_reprE FR rp1 rp2 rp3 hgu hr2) (by rfl) mp (by decide +kernel) (pa_cons (pe_methR0 (pv 4) T.cl mt Ft hr8 pass0) pa_nil)) (pv 6) (nomark _))))))))))))), ?_⟩
    have p0 : 0 ≤ p := by
      unfold lp at lp1
      split at lp1 <;> omega
    have lpv : ∀ {us vs : List Str} {j : Int}, (us.length : Int) ≤ j → 0 ≤ (us.length : Int) → True := fun _ _ => trivial
    have lpq : ∀ {us vs : List Str} {j : Int}, 0 ≤ j → (vs.length : Int) - (us.length : Int) ≤ j → lp us vs ≤ j := fun {us vs j} h1 h2 => by
      unfold lp
      split <;> omega
    have lpd : (ys.length : Int) - (xs.length : Int) ≤ p := by
      unfold lp at lp1
      split at lp1 <;> omega
    have ap : ∀ {zs : List Str}, zs.map V.str ++ [V.str "q"] = (zs ++ [("q" : Str)]).map V.str := fun {zs} => by rw [List.map_append]; rfl
    have iq : ∀ {zs : List Str}, (∀ z ∈ zs, Item z) → ∀ z ∈ zs ++ [("q" : Str)], Item z := fun hz z m => (List.mem_append.mp m).elim (hz z) fun m => (by rw [List.mem_singleton.mp m]; exact item_q)
    refine ⟨_, rfl, _, rfl, _, rfl, a, b, xs, ys, some p, rfl, rfl, ha, hb, by omega, by omega, i1, i2, fun q e => (by cases e; exact lp1), fun e0 H1 s1 _ he0 => ?_⟩
    replace he0 : EffV K C H1 e0 (some (xs, ys, p)) := he0
    refine ⟨_, rfl, _, rfl, _, rfl, p, 1, rfl, rfl, a, b, xs, ys, some (p + 1), rfl, rfl, Same.tup s1 ha, Same.tup s1 hb, by omega, by omega, i1, i2, fun q e => (by cases e; exact lpq (by omega) (by omega)), fun e1 H2 s2 _ he1 => ?_⟩
    replace he1 : EffV K C H2 e1 (some (xs, ys, p + 1)) := he1
    have s12 := s1.trans s2
    refine ⟨_, rfl, (by show 1 ≤ sizeLine; decide), fun q hq => ⟨a, q, _, [.str "q"], rfl, rfl, Same.tup (s12.trans (Same.new hq)) ha, .of upd_same, (by rw [List.length_map, sizeLine_eq]; show _ + 1 ≤ _; omega), fun u1 H3 s3 hu1 => ?_⟩⟩
    replace s3 := (Same.new (o := .tup [.str "q"]) hq).trans s3
    rw [ap] at hu1
    refine ⟨_, rfl, _, rfl, u1, b, xs ++ [("q" : Str)], ys, some p, rfl, rfl, hu1, Same.tup (s12.trans s3) hb, (by rw [List.length_append]; show _ + 1 ≤ _; omega), by omega, iq i1, i2, fun q e => (by cases e; exact lpq (by omega) (by rw [List.length_append]; omega)), fun e2 H4 s4 _ he2 => ?_⟩
    replace he2 : EffV K C H4 e2 (some (xs ++ [("q" : Str)], ys, p)) := he2
    refine ⟨rfl, rfl, fun e3 H5 s5 he3 => ?_⟩
    replace he3 : EffV K C H5 e3 none := he3
    refine ⟨by show 3 ≤ sizeLine; decide, fun L1 hL1 => ?_⟩
    have s6 := Same.new (o := .lst [.ref e1, .ref e2, .ref e3]) hL1
    have g1 : (upd H5 L1 (.lst [.ref e1, .ref e2, .ref e3])) L1 = some (.lst [.ref e1, .ref e2, .ref e3]) := upd_same
    generalize upd H5 L1 (.lst [.ref e1, .ref e2, .ref e3]) = H6 at s6 g1
    have s26 := ((s3.trans s4).trans s5).trans s6
    have s16 := s2.trans s26
    have sH6 := s1.trans s16
    -- the four others
    have ok0 : EffOk (some (xs, ys, p)) := ⟨i1, i2, by omega, by omega, p0, by omega⟩
    refine ⟨_, rfl, _, rfl, _, rfl, (by show 1 ≤ sizeLine; decide), fun q hq => ⟨b, q, _, [.str "q"], rfl, rfl, Same.tup (sH6.trans (Same.new hq)) hb, .of upd_same, (by rw [List.length_map, sizeLine_eq]; show _ + 1 ≤ _; omega), fun u2 H7 s7 hu2 => ?_⟩⟩
    replace s7 := (Same.new (o := .tup [.str "q"]) hq).trans s7
    rw [ap] at hu2
    have s17 := s16.trans s7
    refine ⟨_, rfl, p, 1, rfl, rfl, a, u2, xs, ys ++ [("q" : Str)], some (p + 1), rfl, rfl, Same.tup (s1.trans s17) ha, hu2, by omega, (by rw [List.length_append]; show _ + 1 ≤ _; omega), i1, iq i2, fun q e => (by cases e; exact lpq (by omega) (by rw [List.length_append]; show ((_ + 1 : Nat) : Int) - _ ≤ _; omega)), fun e4 H8 s8 _ he4 => ?_⟩
    replace he4 : EffV K C H8 e4 (some (xs, ys ++ [("q" : Str)], p + 1)) := he4
    refine ⟨_, rfl, _, rfl, _, rfl, by show 3 ≤ sizeLine; decide, fun t ht => ?_⟩
    have s9 := Same.new (o := .tup [.ref a, .ref b, .int p]) ht
    have gt : (upd H8 t (.tup [.ref a, .ref b, .int p])) t = some (.tup [.ref a, .ref b, .int p]) := upd_same
    generalize upd H8 t (.tup [.ref a, .ref b, .int p]) = H9 at s9 gt
    have s19 := (s17.trans s8).trans s9
    have he09 := he0.same s19
    obtain ⟨d0, f0, j0⟩ := he09.ins
    refine ⟨_, rfl, e0, d0, f0, rfl, j0, e0, _, rfl, he09, ok0, _, rfl, by show 4 ≤ sizeLine; decide, fun L2 hL2 => ?_⟩
    have sA := Same.new (o := .lst [.ref e4, .ref t, .non, .str (shownE (some (xs, ys, p)))]) hL2
    have g2 : (upd H9 L2 (.lst [.ref e4, .ref t, .non, .str (shownE (some (xs, ys, p)))])) L2 = some (.lst [.ref e4, .ref t, .non, .str (shownE (some (xs, ys, p)))]) := upd_same
    generalize upd H9 L2 (.lst [.ref e4, .ref t, .non, .str (shownE (some (xs, ys, p)))]) = HA at sA g2
    have g1A := sA _ _ (s9 _ _ (s8 _ _ (s7 _ _ g1)))
    refine ⟨L1, L2, _, _, rfl, rfl, g1A, g2, by show 3 + 4 ≤ sizeLine; decide, fun L3 hL3 => ?_⟩
    have sB := Same.new (o := .lst ([.ref e1, .ref e2, .ref e3] ++ [.ref e4, .ref t, .non, .str (shownE (some (xs, ys, p)))])) hL3
    have g3 : (upd HA L3 (.lst ([.ref e1, .ref e2, .ref e3] ++ [.ref e4, .ref t, .non, .str (shownE (some (xs, ys, p)))]))) L3 = some (.lst [.ref e1, .ref e2, .ref e3, .ref e4, .ref t, .non, .str (shownE (some (xs, ys, p)))]) := upd_same
    generalize upd HA L3 (.lst ([.ref e1, .ref e2, .ref e3] ++ [.ref e4, .ref t, .non, .str (shownE (some (xs, ys, p)))])) = HB at sB g3
    have s1B := (s19.trans sA).trans sB
    have s2B := (((s26.trans s7).trans s8).trans s9).trans (sA.trans sB)
    have he0B := he0.same s1B
    have he1B := he1.same s2B
    have he2B := he2.same (((((s5.trans s6).trans s7).trans s8).trans s9).trans (sA.trans sB))
    have he3B := he3.same ((((s6.trans s7).trans s8).trans s9).trans (sA.trans sB))
    have he4B := he4.same (s9.trans (sA.trans sB))
    have gtB := sB _ _ (sA _ _ gt)
    have sHB := s1.trans s1B
    -- none of them is equal
    have ok1 : EffOk (some (xs, ys, p + 1)) := ⟨i1, i2, by omega, by omega, by omega, by omega⟩
    have ok2 : EffOk (some (xs ++ [("q" : Str)], ys, p)) := ⟨iq i1, i2, by rw [List.length_append]; show _ + 1 ≤ _; omega, by omega, p0, by omega⟩
    have ok4 : EffOk (some (xs, ys ++ [("q" : Str)], p + 1)) := ⟨i1, iq i2, by omega, by rw [List.length_append]; show _ + 1 ≤ _; omega, by omega, by omega⟩
    obtain ⟨t1, t2, t3⟩ := sub_three (K := K) (C := C)
    refine ⟨_, rfl, L3, rfl, ⟨_, .of g3⟩, fun D hD => lc_list (K := K) (a := L3) (xs := [.ref e1, .ref e2, .ref e3, .ref e4, .ref t, .non, .str (shownE (some (xs, ys, p)))]) (fun j HX => HX D = some (.lst []) ∧ Same HB HX) ⟨upd_same, Same.new hD⟩ (fun j HX _ q => .of (q.2 _ _ g3)) ?_ ?_⟩
    · rintro j x HX hx ⟨gD, sX⟩
      have fact : ∀ {neg : Bool} {Qx : VK} {HY : Hp}, Same HB HY → (∀ H', Same HY H' → Qx (.bl (false != neg)) H') → rCmpW K C (rEffW K C) neg (.ref e0) x HY Qx := by
        intro neg Qx HY sY kq
        have eff : ∀ {e' : Addr} {o' : Eff}, EffV K C HB e' o' → EffOk o' → some (xs, ys, p) ≠ o' → rCmpW K C (rEffW K C) neg (.ref e0) (.ref e') HY Qx := fun h o n => cmp_eff T TI (he0B.same sY) (h.same sY) ok0 o fun H' s' => by
          rw [decide_eq_false n]
          exact kq H' s'
        match j, hx with
        | 0, hx =>
          cases hx
          exact eff he1B ok1 fun e => by
            have e := Option.some.inj e
            have e := congrArg (fun z => z.2.2) e
            have e : p = p + 1 := e
            omega
        | 1, hx =>
          cases hx
          exact eff he2B ok2 fun e => by
            have e := congrArg (fun z => z.1.length) (Option.some.inj e)
            have e : xs.length = (xs ++ [("q" : Str)]).length := e
            rw [List.length_append] at e
            have e : xs.length = xs.length + 1 := e
            omega
        | 2, hx =>
          cases hx
          exact eff he3B trivial fun e => by cases e
        | 3, hx =>
          cases hx
          exact eff he4B ok4 fun e => by
            have e := congrArg (fun z => z.2.2) (Option.some.inj e)
            have e : p = p + 1 := e
            omega
        | 4, hx =>
          cases hx
          exact cmp_oth T tC (he0B.same sY) ok0 (ty_tup (.of (sY _ _ gtB))) t1 kq
        | 5, hx =>
          cases hx
          exact cmp_oth T tC (he0B.same sY) ok0 (.base .non) t2 kq
        | 6, hx =>
          cases hx
          exact cmp_oth T tC (he0B.same sY) ok0 (.base (.str _)) t3 kq
      refine ⟨rfl, _, rfl, _, rfl, fact sX fun H9 s9 => ⟨false, rfl, iteF ⟨_, rfl, _, rfl, fact (sX.trans s9) fun HZ sZ => ⟨true, rfl, iteF ⟨sZ _ _ (s9 _ _ gD), (sX.trans s9).trans sZ⟩⟩⟩⟩⟩
    rintro HX ⟨gD, sX⟩
    refine ⟨Nat.zero_le _, fun N hN => ⟨.list [], .list [], .lst (.of ?_) .nil, .lst (.of upd_same) .nil, by decide, by decide, ?_⟩⟩
    · rw [upd_ne (ne_of_none gD hN)]
      exact gD
    refine ⟨false, rfl, iteF ?_⟩
    have sC := sX.trans (Same.new (o := .lst []) hN)
    generalize upd HX N (.lst []) = HC at sC
    have he0C := he0B.same sC
    have sHC := sHB.trans sC
    -- by keywords; never beside never
    refine ⟨_, rfl, _, rfl, _, rfl, _, rfl, rfl, rfl, fun z dz nz nd nzd => ?_⟩
    have s0 : Same HC (upd (upd HC dz (.own z)) z (.ins C dz [])) := Same.made nz nd fun b o e _ => e
    have haC := Same.tup sHC ha
    have hbC := Same.tup sHC hb
    refine ⟨z, dz, a, b, xs, ys, some p, rfl, upd_same, Same.tup s0 haC, Same.tup s0 hbC, by omega, by omega, i1, i2, fun q e => (by cases e; exact lp1), fun HE kp hz => ⟨rfl, ?_⟩⟩
    have sE : Same HC HE := fun c o e => kp c o (s0 c o e) (ne_of_none e nz)
    have hez : EffV K C HE z (some (xs, ys, p)) := ⟨dz, a, b, hz, Same.tup sE haC, Same.tup sE hbC⟩
    refine cmp_eff T TI (he0C.same sE) hez ok0 ok0 fun HF sF => ?_
    rw [decide_eq_true rfl]
    refine ⟨false, rfl, iteF ?_⟩
    refine ⟨rfl, rfl, fun n1 HG sG hn1 => ⟨rfl, rfl, fun n2 HI sI hn2 => ?_⟩⟩
    refine cmp_eff (o1 := none) (o2 := none) T TI (NevAt.same hn1 sI) hn2 trivial trivial fun HJ sJ => ?_
    refine ⟨false, rfl, iteF ?_⟩
    have sHJ := ((((sHC.trans sE).trans sF).trans sG).trans sI).trans sJ
    have he0J := he0C.same ((((sE.trans sF).trans sG).trans sI).trans sJ)
    have haJ := Same.tup sHJ ha
    have hbJ := Same.tup sHJ hb
    -- the text
    have n1' := nice_tuple (nice_strs i1)
    have n2' := nice_tuple (nice_strs i2)
    have z1 := n1'.shownLe
    have z2 := n2'.shownLe
    rw [List.length_map] at z1 z2
    have tl : (PyData.int p).shown.length ≤ 13 := PyData.shown_int_le (i := p) (by omega)
    have w1 : ("Effect(" : Str).length = 7 := by decide +kernel
    have w2 : (", " : Str).length = 2 := by decide +kernel
    have w3 : (", peak=" : Str).length = 7 := by decide +kernel
    have w4 : (")" : Str).length = 1 := by decide +kernel
    have lg : (PyData.int p).showable = true := decide_eq_true (PySem.Flt.log2_lt_of (by decide) (Nat.lt_of_lt_of_le (show p.natAbs < 2 ^ 17 by show _ < 131072; omega) (Nat.pow_le_pow_right (by decide) (by decide))))
    have big : ∀ m : Nat, m ≤ 400000 → m ≤ sizeLine := fun m hm => by
      rw [sizeLine_eq]
      omega
    refine ⟨_, rfl, .ref a, _, rfl, .tup haJ (dpx_strs xs), n1'.sh, Nat.le_trans n1'.dep (by decide), big _ (by omega), _, _, rfl, rfl, big _ ?_, ?_⟩
    · simp only [len_add, w1, w2, w3, w4]; omega
    refine ⟨_, _, rfl, rfl, big _ ?_, ?_⟩
    · simp only [len_add, w1, w2, w3, w4]; omega
    refine ⟨_, rfl, .ref b, _, rfl, .tup hbJ (dpx_strs ys), n2'.sh, Nat.le_trans n2'.dep (by decide), big _ (by omega), _, _, rfl, rfl, big _ ?_, ?_⟩
    · simp only [len_add, w1, w2, w3, w4]; omega
    refine ⟨_, _, rfl, rfl, big _ ?_, ?_⟩
    · simp only [len_add, w1, w2, w3, w4]; omega
    refine ⟨_, rfl, .int p, .int p, rfl, .int p, lg, (by show 0 ≤ 20; decide), big _ (by omega), _, _, rfl, rfl, big _ ?_, ?_⟩
    · simp only [len_add, w1, w2, w3, w4]; omega
    refine ⟨_, _, rfl, rfl, big _ ?_, ?_⟩
    · simp only [len_add, w1, w2, w3, w4]; omega
    rw [← show_text]
    -- three texts
    obtain ⟨d1, f1, j1⟩ := he0J.ins
    refine ⟨_, rfl, e0, d1, f1, rfl, j1, e0, _, rfl, he0J, ok0, _, rfl, _, rfl, rfl, true, congrArg V.bl (decide_eq_true rfl), iteT ?_⟩
    refine ⟨rfl, rfl, fun n3 HK sK hn3 => ?_⟩
    obtain ⟨d3, f3, j3⟩ := EffV.ins (K := K) (o := none) hn3
    refine ⟨n3, d3, f3, rfl, j3, n3, none, rfl, hn3, trivial, _, rfl, rfl, true, congrArg V.bl (decide_eq_true rfl), iteT ?_⟩
    have he0K := he0J.same sK
    obtain ⟨d5, f5, j5⟩ := he0K.ins
    obtain ⟨dx5, u5, v5, j6, _⟩ := EffAt.ex (show EffAt K C HK e0 xs ys p from he0K)
    refine ⟨_, rfl, e0, dx5, _, rfl, j6, rfl, [.ref e0], [some (xs, ys, p)], rfl, by simp, .cons ⟨e0, rfl, he0K⟩ .nil, fun o m B e => ?_, by simp, fun ps e => ?_, fun r HL sL hr' => ?_⟩
    · rw [List.mem_singleton.mp m] at e
      cases e
      exact ⟨i1, i2, p0, lpd⟩
    · match ps, e with
      | [B], e =>
        have e2 := (List.cons.inj e).1
        cases e2
        refine ⟨?_, fun D e3 => ?_⟩
        · show xs.length + ys.length + 0 ≤ 9000
          omega
        · have e4 : thenM [some (xs, ys, p)] = some D := e3
          rw [then_self p0] at e4
          cases e4
          exact ⟨by show xs.length ≤ 5000; omega, by show ys.length ≤ 5000; omega⟩
    rw [then_self p0] at hr'
    obtain ⟨d7, f7, j7⟩ := hr'.ins
    refine ⟨r, d7, f7, rfl, j7, r, _, rfl, hr', ok0, _, rfl, _, rfl, rfl, ?_⟩
    rw [decide_eq_true rfl]
    exact k _ (((sHJ.trans sK).trans sL))
end
end SE
namespace SE
open PySem PySem.Spec PyProof.Rows L2
theorem Same.but3 {H H3 H4 : Hp} {p : Addr} (s : Same H H3) (hp : H p = none) (b : But p H3 H4) : Same H H4 := fun c o e => b c o (ne_of_none e hp) (s c o e)
def rpS (z : Str) (n : Nat) : List Str := List.replicate n z
theorem rpS_len (z : Str) (n : Nat) : (rpS z n).length = n := List.length_replicate
theorem rpS_item {z : Str} (h : Item z) (n : Nat) : ∀ y ∈ rpS z n, Item y := fun y m => by
  rw [(List.mem_replicate.mp m).2]
  exact h
theorem rep_str {K : PySem.W.Frag} {H : Hp} {u : Addr} {z : Str} {k : Int} (n : Nat) (e : k.toNat = n) (h : SqT K H u (List.replicate k.toNat (V.str z))) : SqT K H u ((rpS z n).map V.str) := by
  unfold rpS
  rw [List.map_replicate, ← e]
  exact h
theorem item_a : Item ("a" : Str) := ⟨by decide +kernel, by decide +kernel, by decide +kernel⟩
theorem item_b : Item ("b" : Str) := ⟨by decide +kernel, by decide +kernel, by decide +kernel⟩
/-! ### effects of pushes alone; an effect whose pushes the next one pops -/
theorem join_push (z : Str) : ∀ (n : Nat) (ys : List Str) (p : Int), (ys.length : Int) = p → joinF ([], ys, p) ((List.replicate n ((true, z) : Stp)).map partM) = some ([], rpS z n ++ ys, p + n)
  | 0, ys, p, _ => by
    show some ([], ys, p) = _
    rw [show p + ((0 : Nat) : Int) = p by omega]
    rfl
  | n + 1, ys, p, e => by
    rw [List.replicate_succ, List.map_cons]
    have c : comp ([], ys, p) (partM (true, z)) = some ([], z :: ys, p + 1) := by
      unfold comp partM
      simp only [if_true, List.length_nil, Nat.min_zero, List.take_zero, List.drop_zero, List.append_nil, List.nil_append]
      have q : (if (ys.length : Int) - ((0 : Nat) : Int) + 1 > p then (ys.length : Int) - ((0 : Nat) : Int) + 1 else p) = p + 1 := by
        split <;> omega
      rw [q]
      rfl
    have st : joinF ([], ys, p) (partM (true, z) :: (List.replicate n ((true, z) : Stp)).map partM) = joinF ([], z :: ys, p + 1) ((List.replicate n ((true, z) : Stp)).map partM) := by
      conv => lhs; unfold joinF
      rw [c]
    rw [st, join_push z n (z :: ys) (p + 1) (by rw [List.length_cons]; omega)]
    have r : rpS z n ++ z :: ys = rpS z (n + 1) ++ ys := by
      unfold rpS
      rw [show z :: ys = [z] ++ ys from rfl, ← List.append_assoc, ← List.replicate_succ']
    rw [r, show p + 1 + (n : Int) = p + ((n + 1 : Nat) : Int) by omega]
theorem eff_push (z : Str) (n : Nat) : effM (List.replicate n ((true, z) : Stp)) = some ([], rpS z n, (n : Int)) := by
  have h := join_push z n [] 0 rfl
  rw [List.append_nil, Int.zero_add] at h
  exact h
theorem then_two {xs ys zs : List Str} {p q : Int} (hp : 0 ≤ p) (hq : (ys.length : Int) - (xs.length : Int) + q > p) : thenM [some (xs, ys, p), some (ys, zs, q)] = some (xs, zs, (ys.length : Int) - (xs.length : Int) + q) := by
  have c1 : comp ([], [], 0) (xs, ys, p) = some (xs, ys, p) := by
    unfold comp
    simp only [List.length_nil, Nat.zero_min, List.take_zero, if_true, List.drop_zero, List.nil_append, List.append_nil]
    have e : (if ((0 : Nat) : Int) - ((0 : Nat) : Int) + p > 0 then ((0 : Nat) : Int) - ((0 : Nat) : Int) + p else 0) = p := by split <;> omega
    rw [e]
  have c2 : comp (xs, ys, p) (ys, zs, q) = some (xs, zs, (ys.length : Int) - (xs.length : Int) + q) := by
    unfold comp
    simp only [Nat.min_self, List.take_length, if_true, List.drop_length, List.append_nil]
    rw [if_pos hq]
  show joinF ([], [], 0) [(xs, ys, p), (ys, zs, q)] = _
  unfold joinF
  rw [c1]
  dsimp only
  unfold joinF
  rw [c2]
  rfl
theorem ints_nice {i : Int} (h1 : -20 ≤ i) (h2 : i ≤ 40) : Nice 0 100 (.int i) := by
  have q : ∀ m : Fin 64, PyData.canLay0 (.int ((m.1 : Nat) - 20 : Int)) = true ∧ PyData.depth (.int ((m.1 : Nat) - 20 : Int)) ≤ 0 ∧ PyData.showable (.int ((m.1 : Nat) - 20 : Int)) = true ∧ PyData.hasDict (.int ((m.1 : Nat) - 20 : Int)) = false ∧ PyData.intsShort 13 (.int ((m.1 : Nat) - 20 : Int)) = true ∧ PyData.weight (.int ((m.1 : Nat) - 20 : Int)) ≤ 100 := by decide +kernel
  obtain ⟨q1, q2, q3, q4, q5, q6⟩ := q ⟨(i + 20).toNat, by omega⟩
  have e : (((i + 20).toNat : Nat) - 20 : Int) = i := by omega
  rw [e] at q1 q2 q3 q4 q5 q6
  exact ⟨q1, q2, q3, q4, q5, q6⟩
def FoundD (xs ys : List Str) (p c : Int) : PyData := .list [.tuple (xs.map .str), .tuple (ys.map .str), .int p, .int c, .bool false]
theorem found_nice {xs ys : List Str} {p c : Int} (i1 : ∀ z ∈ xs, Item z) (i2 : ∀ z ∈ ys, Item z) (l1 : xs.length ≤ 5) (l2 : ys.length ≤ 5) (h1 : 0 ≤ p) (h2 : p ≤ 40) (h3 : -20 ≤ c) (h4 : c ≤ 40) : Nice 2 505 (FoundD xs ys p c) :=
  nice_list (k := 1) (B := 100) (ds := [.tuple (xs.map .str), .tuple (ys.map .str), .int p, .int c, .bool false]) fun d m => by
    simp only [List.mem_cons, List.not_mem_nil, or_false] at m
    rcases m with q | q | q | q | q
    · rw [q]; exact (nice_tuple (nice_strs i1)).mono (by decide) (by rw [List.length_map]; omega)
    · rw [q]; exact (nice_tuple (nice_strs i2)).mono (by decide) (by rw [List.length_map]; omega)
    · rw [q]; exact (ints_nice (by omega) h2).mono (by decide) (by decide)
    · rw [q]; exact (ints_nice h3 h4).mono (by decide) (by decide)
    · rw [q]; exact ⟨by decide +kernel, by decide +kernel, by decide +kernel, by decide +kernel, by decide +kernel, by decide +kernel⟩
theorem rpS_add (z : Str) (a b c : Nat) (h : a + b = c) : rpS z c = rpS z a ++ rpS z b := by
  unfold rpS
  rw [List.replicate_append_replicate, h]
theorem ne_words {K : PySem.W.Frag} {H : Hp} {xs : List Str} {a b : Addr} {Q : VK} (i : ∀ z ∈ xs, Item z) (ha : SqT K H a (xs.map V.str)) (hb : SqT K H b (xs.map V.str)) (q : Q (.bl false) H) : rNeD K (.ref a) (.ref b) H Q := by
  have sh := (nice_tuple (nice_strs i)).shaped (by decide)
  refine ⟨.tuple (xs.map .str), .tuple (xs.map .str), .tup ha (dp_strs _), .tup hb (dp_strs _), sh, sh, ?_⟩
  rw [eqv_tupS, decide_eq_true rfl]
  exact q
theorem e20 : (10 : Int) ^ (20 : Int).toNat = 100000000000000000000 := by decide +kernel
theorem lp_long : lp (rpS "a" 2000) (rpS "b" 1500) = 0 := by
  unfold lp
  rw [rpS_len, rpS_len]
  decide
theorem lp_wide : lp (rpS "b" 1500) (rpS "a" 10) = 0 := by
  unfold lp
  rw [rpS_len, rpS_len]
  decide
section
variable {P : Program} {w : World} {K : PySem.W.Frag} {mg : Str → Option Value} {base : Heap} {C : Addr}
/-! ### effect_of(()) -/
def spEff0 (K : PySem.W.Frag) (C : Addr) : Sp := fun vs H Q _ => ∃ (a : Addr), vs = [.ref a] ∧ SqT K H a [] ∧ ∀ (e : Addr) (H' : Hp), Same H H' → EffV K C H' e (some ([], [], 0)) → Q (.ref e) H'
theorem has_eff0 (D : Def K mg "effect_of" sEffectOf) (GC : Has P w K mg base "check_steps" 3 ["steps"] [] (spChkSteps K)) (GP : Has P w K mg base "parts_of_step" 1 ["step"] [] (spPart K)) (GJ : Has P w K mg base "joined" 7 ["parts"] [] (spJoin K C)) :
    Has P w K mg base "effect_of" 8 ["steps"] [] (spEff0 K C) := by
  refine has_of D scEo (fun _ _ _ _ _ _ us hl => match us, hl with | [_], _ => rfl) (fun xs H Q E h => ?_) (fun f cv A out s H xs Q E hr h => ?_)
  · obtain ⟨a, rfl, _⟩ := h
    rfl
  · obtain ⟨a, rfl, hS, k⟩ := h
    have hr1 : Room 1 _ := hr.mono (by decide)
    have hr3 : Room 3 _ := hr.mono (by decide)
    refine ⟨_, pss_cons (ps_expr (pe_has GC hr3 (pa_cons (pv 0) pa_nil))) (pss_one (ps_ret (pe_has GJ hr (pa_cons
      (pe_lc (own := [("step", 1)]) (g := gName 1) (tt := tYes) (te := tCall (spPart K) [] E0 (tCons (tVar 1) tNil)) rfl scEo.nd (pi_tup (pv 0)) (blkOk_by (own := [("step", 1)]) (N := ["steps", "step"]) (sc := defScope sEffectOf) (by decide +kernel))
        (fun _ _ _ _ _ => pg_name (i := 1) scEo.nd rfl (.inl rfl)) (fun _ _ _ _ _ => pts_nil) (fun _ _ _ _ _ => pe_has GP hr1 (pa_cons (pv 1) pa_nil))) pa_nil)))), ?_⟩
    refine ⟨_, rfl, a, [], [], rfl, .inr hS, by decide, .nil, fun s m => (by cases m), fun H1 s1 => ?_⟩
    refine ⟨_, rfl, a, rfl, ⟨_, Same.tup s1 hS⟩, fun D hD => lc_tup (K := K) (a := a) (xs := []) (fun j H2 => H2 D = some (.lst []) ∧ Same H1 H2) ⟨upd_same, Same.new hD⟩ (fun j H2 _ q => Same.tup (s1.trans q.2) hS) ?_ ?_⟩
    · rintro j x H2 hx
      cases hx
    · rintro H2 ⟨hu, s2⟩
      exact ⟨D, [], [], rfl, .of hu, .nil, fun Bp m => (by cases m), by decide, fun e H3 s3 he => k e H3 ((s1.trans s2).trans s3) he⟩
end
end SE
namespace SE
open PySem PySem.Spec PyProof.Rows L2
section
variable {P : Program} {w : World} {K : PySem.W.Frag} {mg : Str → Option Value} {base : Heap} {C : Addr}
/-! ### law -/
def MethHas (P : Program) (w : World) (K : PySem.W.Frag) (mg : Str → Option Value) (base : Heap) (C : Addr) (m : Str) (k : Nat) (ps : List Str) (sp : Sp) : Prop := ∃ f fd, Meth K C m f ∧ FnOk P w K mg base CX0 k f fd ps sp ∧ Binds K fd ps []
theorem pe_mH0 {X : Cx} {C : Addr} {m : Str} {k : Nat} {ps : List Str} {sp : Sp} {o : Expr} {ta : TE} {apos pos : Pos} {pl : Sem Bool} (h : MethHas X.prog X.w X.K X.mg X.base C m k ps sp) (he : PE X o ta) (c : Cls X.K C) (hr : Room k X.A)
    (ht : eval (.Call (.Attribute o m apos) [] [] pos) X.env = (do
      let ov ← eval o X.env
      standAt apos.atName
      let (f, first) ← holding [ov] (getMethod ov m pl)
      callWith pos f first (backTo pos (starEach [] X.env)) (backToKw pos (keywordEach [] X.env))) := by rfl) : PE X (.Call (.Attribute o m apos) [] [] pos) (tMeth C m sp [] E0 ta tNil) := by
  obtain ⟨f, fd, hm, F, hb⟩ := h
  exact pe_meth0 (pl := pl) he c hm F hr hb .nil pass0 ht
def ApplyHas (P : Program) (w : World) (K : PySem.W.Frag) (mg : Str → Option Value) (base : Heap) (C : Addr) : Prop := ∃ f fd, Meth K C "apply" f ∧ FnOk P w K mg base CX0 5 f fd pApp (spAp0 K C) ∧ FunD K "apply" "Effect.apply" (defArgs sApply) (defBody sApply) (defScope sApply) [] [("limit", .non)] f fd
theorem ApplyHas.ds (h : ApplyHas P w K mg base C) : ∃ f fd ds, Meth K C "apply" f ∧ FnOk P w K mg base CX0 5 f fd pApp (spAp0 K C) ∧ Vals [V.non] ds ∧ Binds K fd pApp ds := by
  obtain ⟨f, fd, M, F, FD⟩ := h
  obtain ⟨ds, hd, hb⟩ := FD.binds0 (ps := pApp) 2 (by simp) rfl (fun D doc pm an cv ct us ks h1 h2 => match us, ks, h1, h2 with | [_, _], [_], _, _ => ⟨_, _, _, _, _, _, rfl, rfl, rfl⟩)
  exact ⟨f, fd, ds, M, F, hd, hb⟩
theorem rep_flat {α : Type} (x : α) : ∀ n : Nat, (List.replicate n [x]).flatten = List.replicate n x
  | 0 => rfl
  | n + 1 => by rw [List.replicate_succ, List.flatten_cons, rep_flat x n]; rfl
theorem paired_rep {α β : Type} {F : α → β → Prop} {x : α} {y : β} (h : F x y) : ∀ n : Nat, Paired F (List.replicate n x) (List.replicate n y)
  | 0 => .nil
  | n + 1 => .cons h (paired_rep h n)
theorem EffV.look {H : Hp} {e : Addr} {o : Eff} (h : EffV K C H e o) : ∃ dx fs, H e = some (.ins C dx fs) ∧ fs.lookup ("apply" : Str) = none ∧ fs.lookup ("then" : Str) = none ∧ fs.lookup ("reversal" : Str) = none := by
  obtain ⟨dx, u, v, p, h1, _⟩ := h.dp
  exact ⟨dx, _, h1, rfl, rfl, rfl⟩
def spLaw (K : PySem.W.Frag) : Sp := fun xs H Q _ => ∃ (a : Addr) (ns : List Int), xs = [.ref a] ∧ SqL K H a (ns.map V.int) ∧ ns.length ≤ 63 ∧ ∀ H', Q (.bl true) H'
abbrev nLaw : List Str := ["_law_script", "_law_k", "_law_pool_here", "_law_items_here", "_law_needed", "_law_added", "_law_least", "_law_high", "_law_effect", "_law_found", "_law_long", "_law_wide"]
theorem scLaw : FnScope nLaw ["_law_script"] (defScope sLaw) := ⟨rfl, rfl, rfl, by decide +kernel, rfl, by decide +kernel, by decide +kernel⟩
theorem ok_law {f : Addr} {fd : FuncData} (F : Fun K "law" "law" sLaw f fd) (T : EC K mg C) (TI : EI K C) (M : Makes P w K mg base C) (GNo : NothingHas P w K mg base C) (AP : ApplyHas P w K mg base C)
    (GI : PropHas P w K mg base C "is_never" 1 (spIsNev K C)) (GP : PropHas P w K mg base C "pops" 1 (spPops K C)) (GQ : PropHas P w K mg base C "pushes" 1 (spPush K C)) (GK : PropHas P w K mg base C "peak" 1 (spPeak K C)) (GC : PropHas P w K mg base C "change" 1 (spChan K C))
    (TH : ThenHas P w K mg base C) (RV : MethHas P w K mg base C "reversal" 7 ["self"] (spRevl K C)) (EQ : EqHasW P w K mg base C)
    (GPl : Has P w K mg base "_law_pool" 1 ["_law_script", "_law_k"] [] (spPool K)) (GIt : Has P w K mg base "_law_items" 2 ["_law_pool_here", "_law_many"] [] spItems2) (GT : Has P w K mg base "_law_take" 1 ["_law_pool_here", "_law_many"] [] spTake)
    (GW : Has P w K mg base "_law_word" 2 ["_law_pool_here", "_law_items_here", "_law_most"] [] spWord)
    (GE : Has P w K mg base "effect_of" 8 ["steps"] [] (spEffOf K C)) (GE0 : Has P w K mg base "effect_of" 8 ["steps"] [] (spEff0 K C)) (GA : GHas P w K mg base "_law_alike_right" 9 pAR (spAR K)) (GEr : GHas P w K mg base "_law_errors_right" 8 ["_law_pool_here", "_law_items_here"] (spEr K))
    (B : Blt mg) (mr : mg "range" = none) (mx : mg "max" = none) (mn : mg "min" = none) : GOk P w K mg base 10 f fd ["_law_script"] (spLaw K) := by
  obtain ⟨fq, fdq, FQ, eq1, eq2, eq3, eq4⟩ := EQ
  obtain ⟨ft, mt, Ft⟩ := TH
  obtain ⟨fA, fdA, dsA, mA, FA, hdA, hbA⟩ := AP.ds
  refine gok_mk F scLaw (fun xs H Q E h => ?_) (fun cv A out s H xs Q E hgu hr h => ?_)
  · obtain ⟨a, ns, rfl, _⟩ := h
    rfl
  · obtain ⟨a, ns, rfl, hS, hlen, k⟩ := h
    have hr1 : Room 1 _ := hr.mono (by decide)
    have hr2 : Room 2 _ := hr.mono (by decide)
    have hr5 : Room 5 _ := hr.mono (by decide)
    have hr6 : Room 6 _ := hr.mono (by decide)
    have hr7 : Room 7 _ := hr.mono (by decide)
    have hr8 : Room 8 _ := hr.mono (by decide)
    refine ⟨_, (pss_cons (ps_for PassesOwn.never rfl (pi_range1 (by rfl) mr (pa_cons (pe_callB (call_max2 rfl) (by rfl) mx (by decide +kernel) (pa_cons pe_int (pa_cons (pe_callB (call_min2 rfl) (by rfl) mn (by decide +kernel) (pa_cons (pe_callB call_len_seq (by rfl) B.len PySem.boot_len (pa_cons (pv 0) pa_nil)) (pa_cons pe_int pa_nil))) pa_nil))) pa_nil)) (pg_name (i := 1) scLaw.nd rfl (.inl rfl)) (pss_cons (ps_set (i := 2) scLaw.nd rfl (.inl rfl) (pe_has GPl hr1 (pa_cons (pv 0) (pa_cons (pv 1) pa_nil))))
      (pss_cons (ps_set (i := 3) scLaw.nd rfl (.inl rfl) (pe_has GIt hr2 (pa_cons (pv 2) (pa_cons pe_int pa_nil))))
      (pss_cons (ps_par (i := 4) (j := 5) rfl scLaw.nd rfl rfl (by decide) rfl rfl (pa_cons (pe_has GW hr2 (pa_cons (pv 2) (pa_cons (pv 3) (pa_cons pe_int pa_nil)))) (pa_cons (pe_has GW hr2 (pa_cons (pv 2) (pa_cons (pv 3) (pa_cons pe_int pa_nil)))) pa_nil)) (by rfl))
      (pss_cons (ps_set (i := 6) scLaw.nd rfl (.inl rfl) (pe_callB (call_max2 rfl) (by rfl) mx (by decide +kernel) (pa_cons pe_int (pa_cons (pe_op op_sub (pe_callB call_len_seq (by rfl) B.len PySem.boot_len (pa_cons (pv 5) pa_nil)) (pe_callB call_len_seq (by rfl) B.len PySem.boot_len (pa_cons (pv 4) pa_nil))) pa_nil))))
      (pss_cons (ps_set (i := 7) scLaw.nd rfl (.inl rfl) (pe_op op_add (pv 6) (pe_has GT hr1 (pa_cons (pv 2) (pa_cons pe_int pa_nil)))))
      (pss_cons (ps_set (i := 8) scLaw.nd rfl (.inl rfl) (pe_effK M T.mgE hr5 (pa_cons (pv 4) (pa_cons (pv 5) pa_nil)) (pv 7)))
      (pss_cons (ps_set (i := 9) scLaw.nd rfl (.inl rfl) (pe_lst (pa_cons (pe_propH GP (pv 8) T.cl hr2) (pa_cons (pe_propH GQ (pv 8) T.cl hr2) (pa_cons (pe_propH GK (pv 8) T.cl hr2) (pa_cons (pe_propH GC (pv 8) T.cl hr2) (pa_cons (pe_propH GI (pv 8) T.cl hr2) pa_nil)))))))
      (pss_cons (ps_if (PW.pt (pw_or (pt_cmpR (op_neD hr.units) (pv 9) (pe_lst (pa_cons (pv 4) (pa_cons (pv 5) (pa_cons (pv 7) (pa_cons (pe_op op_sub (pe_callB call_len_seq (by rfl) B.len PySem.boot_len (pa_cons (pv 5) pa_nil)) (pe_callB call_len_seq (by rfl) B.len PySem.boot_len (pa_cons (pv 4) pa_nil))) (pa_cons pe_bl pa_nil)))))) (nomark _)) (pw_or1 (pt_cmpR op_ne (pe_propH GK (pe_eff2 M T.mgE hr5 (pa_cons (pv 4) (pa_cons (pv 5) pa_nil))) T.cl hr2) (pv 6) (nomark _))))) (pss_one (ps_ret pe_bl)) pss_nil)
      (pss_cons (ps_if (pt_cmpR (op_neW FQ eq1 eq2 eq3 TI.hm eq4 hr2) (pe_effK M T.mgE hr5 (pa_cons (pv 4) (pa_cons (pv 5) pa_nil)) pe_non) (pe_effK M T.mgE hr5 (pa_cons (pv 4) (pa_cons (pv 5) pa_nil)) (pv 6)) (nomark _)) (pss_one (ps_ret pe_bl)) pss_nil)
      (pss_one (ps_if (PW.pt (pw_or (pt_not (pt_val (pe_ghas GA hgu hr (pa_cons (pv 2) (pa_cons (pv 4) (pa_cons (pv 5) (pa_cons (pv 7) pa_nil))))))) (pw_or1 (pt_not (pt_val (pe_ghas GEr hgu hr8 (pa_cons (pv 2) (pa_cons (pv 3) pa_nil)))))))) (pss_one (ps_ret pe_bl)) pss_nil))))))))))))
      (pss_cons (ps_par (i := 10) (j := 11) rfl scLaw.nd rfl rfl (by decide) rfl rfl (pa_cons (pe_eff2 M T.mgE hr5 (pa_cons (pe_op op_repS (pe_tup (pa_cons pe_str pa_nil)) pe_int) (pa_cons (pe_op op_repS (pe_tup (pa_cons pe_str pa_nil)) pe_int) pa_nil))) (pa_cons (pe_effK M T.mgE hr5 (pa_cons (pe_op op_repS (pe_tup (pa_cons pe_str pa_nil)) pe_int) (pa_cons (pe_op op_repS (pe_tup (pa_cons pe_str pa_nil)) pe_int) pa_nil)) (pe_op op_pow pe_int pe_int)) pa_nil)) (by rfl))
      (pss_cons (ps_if (PW.pt (pw_or (pt_cmpR (op_neD hr.units) (pe_meth (pv 10) T.cl mA FA hr5 hbA hdA pass0 (pa_cons (pe_op op_repS (pe_tup (pa_cons pe_str pa_nil)) pe_int) pa_nil)) (pe_op op_catS (pe_op op_repS (pe_tup (pa_cons pe_str pa_nil)) pe_int) (pe_tup (pa_cons pe_str pa_nil))) (nomark _)) (pw_or1 (pt_cmpR (op_neD hr.units) (pe_propH GQ (pe_methR (pv 10) T.cl mt Ft hr8 pass0 (pa_cons (pv 11) pa_nil)) T.cl hr2) (pe_op op_repS (pe_tup (pa_cons pe_str pa_nil)) pe_int) (nomark _))))) (pss_one (ps_ret pe_bl)) pss_nil)
      (pss_cons (ps_if (PW.pt (pw_or (pt_cmpR op_ne (pe_propH GK (pe_methR (pv 10) T.cl mt Ft hr8 pass0 (pa_cons (pv 11) pa_nil)) T.cl hr2) (pe_op op_sub (pe_op op_pow pe_int pe_int) pe_int) (nomark _)) (pw_or1 (pt_cmpR (op_neD hr.units) (pe_meth (pe_mH0 RV (pv 10) T.cl hr7) T.cl mA FA hr5 hbA hdA pass0 (pa_cons (pe_op op_repS (pe_tup (pa_cons pe_str pa_nil)) pe_int) pa_nil)) (pe_op op_repS (pe_tup (pa_cons pe_str pa_nil)) pe_int) (nomark _))))) (pss_one (ps_ret pe_bl)) pss_nil)
      (pss_one (ps_ret (pe_and (pe_cmpR (op_eqW FQ eq1 eq2 eq3 hr1) (pe_has GE0 hr8 (pa_cons (pe_tup pa_nil) pa_nil)) (pe_nothing0 GNo T.mgE hr6) (nomark _)) (pe_one (pe_cmpR op_eq (pe_propH GK (pe_has GE hr8 (pa_cons (pe_op op_rep (pe_lst (pa_cons (pe_tup (pa_cons pe_str (pa_cons pe_str pa_nil))) pa_nil)) pe_int) pa_nil)) T.cl hr2) pe_int (nomark _)))))))))), ?_⟩
    refine ⟨_, rfl, a, _, rfl, .inl hS, _, 8, rfl, 1, _, rfl, ?_⟩
    have hN : ∀ n : Nat, (1 : Int) ≤ (if (if (8 : Int) < (n : Int) then 8 else (n : Int)) > 1 then (if (8 : Int) < (n : Int) then 8 else (n : Int)) else 1) ∧ (if (if (8 : Int) < (n : Int) then 8 else (n : Int)) > 1 then (if (8 : Int) < (n : Int) then 8 else (n : Int)) else 1) ≤ 8 := by
      intro n
      split <;> split <;> omega
    have hN1 := hN (ns.map V.int).length
    generalize hM : (if (if (8 : Int) < ((ns.map V.int).length : Int) then 8 else ((ns.map V.int).length : Int)) > 1 then (if (8 : Int) < ((ns.map V.int).length : Int) then 8 else ((ns.map V.int).length : Int)) else 1) = N at hN1
    refine ⟨N, by rw [← hM], by omega, by omega, for_range (lo := 0) (n := N.toNat) (fun i σ H2 => ∃ (y1 y2 y3 y4 y5 y6 y7 y8 y9 yA yB : Option V), σ = [some (.ref a), y1, y2, y3, y4, y5, y6, y7, y8, y9, yA, yB] ∧ Same H H2) ⟨_, _, _, _, _, _, _, _, _, _, _, rfl, Same.refl H⟩ ?_ ?_⟩
    · rintro i σ H2 hi ⟨y1, y2, y3, y4, y5, y6, y7, y8, y9, yA, yB, rfl, s2⟩
      refine ⟨_, rfl, _, rfl, a, ns, 0 + i, rfl, Same.seq s2 hS, by omega, by omega, fun p H3 s3 hp p3 => ?_⟩
      have hpn : H p = none := s2.free hp
      refine ⟨_, rfl, p, 3, rfl, p3, by decide, by decide, fun l zs H5 b5 p5 hl lp' hl5 lz iz => ?_⟩
      have s5 : Same H H5 := Same.but3 (s2.trans s3) hpn b5
      have zl : zs.length = 3 := lz
      have zne : zs ≠ [] := fun e => by rw [e] at zl; cases zl
      refine ⟨_, rfl, _, rfl, p, l, 5, zs, rfl, p5, lp', hl5, zne, by omega, by decide, by decide, fun t1 xs H6 b6 p6 t10 ht1 lx ix => ?_⟩
      have hl6 := b6 _ _ lp' hl5
      have t1p : t1 ≠ p := p5.free t10
      refine ⟨_, rfl, _, rfl, p, l, 5, zs, rfl, p6, lp', hl6, zne, by omega, by decide, by decide, fun t2 ys H7 b7 p7 t20 ht2 ly iy => ?_⟩
      have hl7 := b7 _ _ lp' hl6
      have h1 : SqT K H7 t1 (xs.map V.str) := .of (b7 _ _ t1p ht1)
      have h2 : SqT K H7 t2 (ys.map V.str) := .of ht2
      have s7 : Same H H7 := Same.but3 (Same.but3 s5 hpn b6) hpn b7
      have i1 : ∀ z ∈ xs, Item z := fun z m => iz z (ix z m)
      have i2 : ∀ z ∈ ys, Item z := fun z m => iz z (iy z m)
      have l1 : xs.length ≤ 5 := by omega
      have l2 : ys.length ≤ 5 := by omega
      refine ⟨_, _, rfl, ?_⟩
      refine ⟨_, rfl, t2, _, rfl, .inr h2, _, rfl, t1, _, rfl, .inr h1, _, _, rfl, rfl, 0, _, rfl, ?_⟩
      rw [List.length_map, List.length_map]
      rw [show (if (ys.length : Int) - (xs.length : Int) > 0 then (ys.length : Int) - (xs.length : Int) else 0) = lp xs ys from rfl]
      have lp0 : 0 ≤ lp xs ys := by
        unfold lp
        split <;> omega
      have lp5 : lp xs ys ≤ 5 := by
        unfold lp
        split <;> omega
      refine ⟨_, rfl, _, rfl, p, 4, rfl, p7, by decide, by decide, fun r H8 b8 p8 r0 r1 => ⟨_, r, rfl, rfl, ?_⟩⟩
      have hl8 := b8 _ _ lp' hl7
      have t2p : t2 ≠ p := p6.free t20
      have h1 : SqT K H8 t1 (xs.map V.str) := .of (b8 _ _ t1p (b7 _ _ t1p ht1))
      have h2 : SqT K H8 t2 (ys.map V.str) := .of (b8 _ _ t2p ht2)
      have s8 := Same.but3 s7 hpn b8
      have hg0 : 0 ≤ lp xs ys + r := by omega
      have hg1 : lp xs ys + r ≤ 20 := by omega
      have hg2 : lp xs ys ≤ lp xs ys + r := by omega
      refine ⟨_, rfl, _, rfl, _, rfl, t1, t2, xs, ys, some (lp xs ys + r), rfl, rfl, h1, h2, by omega, by omega, i1, i2, fun q e => (by cases e; exact hg2), fun e H9 s9 _ he => ?_⟩
      have he : EffAt K C H9 e xs ys (lp xs ys + r) := he
      obtain ⟨dx, fs, hi⟩ := EffV.ins (o := some (xs, ys, lp xs ys + r)) he
      refine ⟨_, rfl, e, dx, fs, rfl, hi, e, xs, ys, lp xs ys + r, rfl, he, fun u1 hu1 => ⟨_, rfl, e, dx, fs, rfl, hi, e, xs, ys, lp xs ys + r, rfl, he, fun u2 hu2 => ?_⟩⟩
      refine ⟨_, rfl, e, dx, fs, rfl, hi, e, xs, ys, lp xs ys + r, rfl, he, _, rfl, e, dx, fs, rfl, hi, e, xs, ys, lp xs ys + r, rfl, he, _, rfl, e, dx, fs, rfl, hi, e, rfl, .inl ⟨xs, ys, lp xs ys + r, he, by show 5 ≤ sizeLine; decide, fun L hL => ?_⟩⟩
      have sL := Same.new (o := .lst [V.ref u1, .ref u2, .int (lp xs ys + r), .int ((ys.length : Int) - (xs.length : Int)), .bl false]) hL
      have gL : (upd H9 L (.lst [V.ref u1, .ref u2, .int (lp xs ys + r), .int ((ys.length : Int) - (xs.length : Int)), .bl false])) L = some (.lst [V.ref u1, .ref u2, .int (lp xs ys + r), .int ((ys.length : Int) - (xs.length : Int)), .bl false]) := upd_same
      have hu1 := Same.tup sL hu1
      have hu2 := Same.tup sL hu2
      have s9L := s9.trans sL
      have h1 := Same.tup s9L h1
      have h2 := Same.tup s9L h2
      have p9 : Pool (upd H9 L (.lst [V.ref u1, .ref u2, .int (lp xs ys + r), .int ((ys.length : Int) - (xs.length : Int)), .bl false])) p := Pool.same p8 s9L
      have hl9 := s9L _ _ hl8
      have sA := s8.trans s9L
      generalize upd H9 L (.lst [V.ref u1, .ref u2, .int (lp xs ys + r), .int ((ys.length : Int) - (xs.length : Int)), .bl false]) = HA at gL hu1 hu2 h1 h2 p9 hl9 sA
      -- found
      refine ⟨_, rfl, _, rfl, _, rfl, _, rfl, _, rfl, t2, _, rfl, .inr h2, _, rfl, t1, _, rfl, .inr h1, _, _, rfl, rfl, by show 5 ≤ sizeLine; decide, fun L2 hL2 => ?_⟩
      rw [List.length_map, List.length_map]
      have sB := Same.new (o := .lst [V.ref t1, .ref t2, .int (lp xs ys + r), .int ((ys.length : Int) - (xs.length : Int)), .bl false]) hL2
      have nn := found_nice i1 i2 l1 l2 hg0 (show lp xs ys + r ≤ 40 by omega) (show -20 ≤ (ys.length : Int) - (xs.length : Int) by omega) (show (ys.length : Int) - (xs.length : Int) ≤ 40 by omega)
      refine ne_data nn.lay (nn.shaped (by decide)) (.lst (.of (sB _ _ gL)) (.cons (.tup (Same.tup sB hu1) (dpx_strs xs)) (.cons (.tup (Same.tup sB hu2) (dpx_strs ys)) (.cons (.int _) (.cons (.int _) (.cons (.bl _) .nil))))))
        (.lst (.of (show _ = some (HO.lst [V.ref t1, .ref t2, .int (lp xs ys + r), .int ((ys.length : Int) - (xs.length : Int)), .bl false]) from upd_same)) (.cons (.tup (Same.tup sB h1) (dpx_strs xs)) (.cons (.tup (Same.tup sB h2) (dpx_strs ys)) (.cons (.int _) (.cons (.int _) (.cons (.bl _) .nil)))))) ⟨false, rfl, iteF ?_⟩
      have h1 := Same.tup sB h1
      have h2 := Same.tup sB h2
      have p9 := Pool.same p9 sB
      have hl9 := sB _ _ hl9
      have sA := sA.trans sB
      generalize upd HA L2 (.lst [V.ref t1, .ref t2, .int (lp xs ys + r), .int ((ys.length : Int) - (xs.length : Int)), .bl false]) = HB at h1 h2 p9 hl9 sA
      -- the least peak
      refine ⟨_, rfl, _, rfl, t1, t2, xs, ys, rfl, h1, h2, by omega, by omega, i1, i2, fun e2 HC sC _ he2 => ?_⟩
      obtain ⟨d2, f2, j2⟩ := EffV.ins (o := some (xs, ys, lp xs ys)) he2
      refine ⟨e2, d2, f2, rfl, j2, e2, xs, ys, _, rfl, he2, _, rfl, rfl, false, congrArg V.bl (by rw [decide_eq_true rfl]; rfl), iteF ?_⟩
      -- no peak
      have h1 := Same.tup sC h1
      have h2 := Same.tup sC h2
      refine ⟨_, rfl, _, rfl, t1, t2, xs, ys, none, rfl, rfl, h1, h2, by omega, by omega, i1, i2, fun q e => (by cases e), fun e3 HD sD _ he3 => ?_⟩
      refine ⟨_, rfl, _, rfl, _, rfl, t1, t2, xs, ys, some (lp xs ys), rfl, rfl, Same.tup sD h1, Same.tup sD h2, by omega, by omega, i1, i2, fun q e => (by cases e; exact Int.le_refl _), fun e4 HE sE _ he4 => ?_⟩
      have okL : EffOk (some (xs, ys, lp xs ys)) := ⟨i1, i2, by omega, by omega, lp0, by omega⟩
      have he3' : EffV K C HE e3 (some (xs, ys, lp xs ys)) := EffAt.same he3 sE
      refine cmp_eff (o2 := some (xs, ys, lp xs ys)) T TI he3' he4 okL okL fun HF sF => ?_
      rw [decide_eq_true rfl]
      refine ⟨false, rfl, iteF ?_⟩
      -- alike, errors
      have sCF := ((sC.trans sD).trans sE).trans sF
      have sDF := (sD.trans sE).trans sF
      refine ⟨_, rfl, _, rfl, _, rfl, _, rfl, _, t1, t2, xs, ys, lp xs ys + r, rfl, Same.tup sDF h1, Same.tup sDF h2, i1, i2, l1, l2, hg2, by omega, fun HG sG => ⟨true, rfl, iteF ?_⟩⟩
      have pG := Pool.same p9 (sCF.trans sG)
      have hlG := (sCF.trans sG) _ _ hl9
      refine ⟨_, rfl, _, rfl, p, l, zs, rfl, pG, lp', hlG, zne, by omega, iz, fun HI bI pI => ⟨true, rfl, iteF ?_⟩⟩
      exact ⟨_, _, _, _, _, _, _, _, _, _, _, rfl, Same.but3 (sA.trans (sCF.trans sG)) hpn bI⟩
    rintro σ H2 ⟨y1, y2, y3, y4, y5, y6, y7, y8, y9, yA, yB, rfl, s2⟩
    have iA := rpS_item item_a
    have iB := rpS_item item_b
    have le : ∀ {z : Str} {n m : Nat}, n ≤ m → (rpS z n).length ≤ m := fun h => by rw [rpS_len]; exact h
    refine ⟨by show 1 ≤ sizeLine; decide, fun q1 hq1 => ⟨q1, 2000, .str "a", rfl, rfl, .of upd_same, by decide, by decide, fun u1 H3 s3 hu1 => ?_⟩⟩
    have hu1 := rep_str 2000 rfl hu1
    refine ⟨by show 1 ≤ sizeLine; decide, fun q2 hq2 => ⟨q2, 1500, .str "b", rfl, rfl, .of upd_same, by decide, by decide, fun u2 H4 s4 hu2 => ?_⟩⟩
    have hu2 := rep_str 1500 rfl hu2
    replace s4 := (Same.new (o := .tup [.str "b"]) hq2).trans s4
    refine ⟨u1, u2, rpS "a" 2000, rpS "b" 1500, rfl, Same.tup s4 hu1, hu2, le (by decide), le (by decide), iA _, iB _, fun e1 H5 s5 _ he1 => ?_⟩
    rw [lp_long] at he1
    refine ⟨by show 1 ≤ sizeLine; decide, fun q3 hq3 => ⟨q3, 1500, .str "b", rfl, rfl, .of upd_same, by decide, by decide, fun u3 H6 s6 hu3 => ?_⟩⟩
    have hu3 := rep_str 1500 rfl hu3
    replace s6 := (Same.new (o := .tup [.str "b"]) hq3).trans s6
    refine ⟨by show 1 ≤ sizeLine; decide, fun q4 hq4 => ⟨q4, 10, .str "a", rfl, rfl, .of upd_same, by decide, by decide, fun u4 H7 s7 hu4 => ?_⟩⟩
    have hu4 := rep_str 10 rfl hu4
    replace s7 := (Same.new (o := .tup [.str "a"]) hq4).trans s7
    refine ⟨10, 20, rfl, rfl, ⟨by decide, by decide, by decide⟩, u3, u4, rpS "b" 1500, rpS "a" 10, some ((10 : Int) ^ (20 : Int).toNat), rfl, rfl, Same.tup s7 hu3, hu4, le (by decide), le (by decide), iB _, iA _, fun q e => (by cases e; rw [lp_wide, e20]; decide), fun e2 H8 s8 _ he2 => ⟨_, _, rfl, ?_⟩⟩
    have he2 : EffAt K C H8 e2 (rpS "b" 1500) (rpS "a" 10) ((10 : Int) ^ (20 : Int).toNat) := he2
    have he1 := he1.same ((s6.trans s7).trans s8)
    obtain ⟨d1, f1, j1, a1, t1, r1⟩ := EffV.look (o := some (rpS "a" 2000, rpS "b" 1500, 0)) he1
    -- apply
    refine ⟨_, rfl, e1, d1, f1, rfl, j1, a1, by show 1 ≤ sizeLine; decide, fun q5 hq5 => ⟨q5, 2001, .str "a", rfl, rfl, .of upd_same, by decide, by decide, fun u5 H9 s9 hu5 => ?_⟩⟩
    have hu5 := rep_str 2001 rfl hu5
    rw [rpS_add "a" 2000 1 2001 rfl] at hu5
    replace s9 := (Same.new (o := .tup [.str "a"]) hq5).trans s9
    refine ⟨e1, u5, rpS "a" 2000, rpS "b" 1500, rpS "a" 1, 0, rfl, he1.same s9, iA _, hu5, iA _, by rw [rpS_len, rpS_len]; decide, le (by decide), fun v1 HA sA hv1 => ?_⟩
    refine ⟨by show 1 ≤ sizeLine; decide, fun q6 hq6 => ⟨q6, 1500, .str "b", rfl, rfl, .of upd_same, by decide, by decide, fun u6 HB sB hu6 => ?_⟩⟩
    have hu6 := rep_str 1500 rfl hu6
    replace sB := (Same.new (o := .tup [.str "b"]) hq6).trans sB
    refine ⟨by show 1 ≤ sizeLine; decide, fun q7 hq7 => ⟨u6, q7, _, [.str "a"], rfl, rfl, Same.tup (Same.new hq7) hu6, .of upd_same, by rw [List.length_map, rpS_len]; show 1500 + 1 ≤ sizeLine; decide, fun u7 HC sC hu7 => ?_⟩⟩
    replace sC := (Same.new (o := .tup [.str "a"]) hq7).trans sC
    have hu7 : SqT K HC u7 ((rpS "b" 1500 ++ rpS "a" 1).map V.str) := by
      rw [List.map_append]
      exact hu7
    refine ne_words (fun z m => (List.mem_append.mp m).elim (iB _ z) (iA _ z)) (Same.tup (sB.trans sC) hv1) hu7 ⟨false, rfl, iteF ?_⟩
    have s8C := ((s9.trans sA).trans sB).trans sC
    -- then
    have P2 : ∀ {Hx : Hp}, Same H8 Hx → Paired (EfV K C Hx) [.ref e1, .ref e2] [some (rpS "a" 2000, rpS "b" 1500, 0), some (rpS "b" 1500, rpS "a" 10, (10 : Int) ^ (20 : Int).toNat)] := fun s => .cons ⟨e1, rfl, he1.same s⟩ (.cons ⟨e2, rfl, he2.same s⟩ .nil)
    have bg1 : PrtOk (rpS "a" 2000, rpS "b" 1500, 0) := ⟨iA _, iB _, Int.le_refl _, by show ((rpS "b" 1500).length : Int) - ((rpS "a" 2000).length : Int) ≤ 0; rw [rpS_len, rpS_len]; decide⟩
    have bg2 : PrtOk (rpS "b" 1500, rpS "a" 10, (10 : Int) ^ (20 : Int).toNat) := ⟨iB _, iA _, by show (0 : Int) ≤ (10 : Int) ^ (20 : Int).toNat; rw [e20]; decide, by show ((rpS "a" 10).length : Int) - ((rpS "b" 1500).length : Int) ≤ (10 : Int) ^ (20 : Int).toNat; rw [rpS_len, rpS_len, e20]; decide⟩
    have B2 : ∀ x ∈ ([some (rpS "a" 2000, rpS "b" 1500, 0), some (rpS "b" 1500, rpS "a" 10, (10 : Int) ^ (20 : Int).toNat)] : List Eff), EffBg x := fun x m B e => by
      rcases List.mem_cons.mp m with q | m
      · rw [q] at e; cases e; exact bg1
      · rw [List.mem_singleton.mp m] at e; cases e; exact bg2
    have T2 : thenM [some (rpS "a" 2000, rpS "b" 1500, 0), some (rpS "b" 1500, rpS "a" 10, (10 : Int) ^ (20 : Int).toNat)] = some (rpS "a" 2000, rpS "a" 10, 99999999999999999500) := by
      rw [then_two (Int.le_refl _) (by rw [rpS_len, rpS_len, e20]; decide), rpS_len, rpS_len, e20]
      rfl
    have Z2 : SzO [some (rpS "a" 2000, rpS "b" 1500, 0), some (rpS "b" 1500, rpS "a" 10, (10 : Int) ^ (20 : Int).toNat)] := fun ps e => by
      match ps, e with
      | [x, y], e =>
        have e1 := (List.cons.inj e).1
        have e2 := (List.cons.inj (List.cons.inj e).2).1
        cases e1
        cases e2
        refine ⟨?_, fun D e3 => ?_⟩
        · show (rpS "a" 2000).length + (rpS "b" 1500).length + ((rpS "b" 1500).length + (rpS "a" 10).length + 0) ≤ 9000
          rw [rpS_len, rpS_len, rpS_len]
          decide
        · have e4 : thenM [some (rpS "a" 2000, rpS "b" 1500, 0), some (rpS "b" 1500, rpS "a" 10, (10 : Int) ^ (20 : Int).toNat)] = some D := e3
          rw [T2] at e4
          cases e4
          exact ⟨le (by decide), le (by decide)⟩
    refine ⟨_, rfl, e1, d1, f1, rfl, s8C _ _ j1, t1, _, rfl, _, _, rfl, by simp, P2 s8C, B2, by simp, Z2, fun r HD sD hr' => ?_⟩
    rw [T2] at hr'
    obtain ⟨d2, f2, j2⟩ := hr'.ins
    refine ⟨r, d2, f2, rfl, j2, r, _, _, _, rfl, hr', fun v2 hv2 => ?_⟩
    refine ⟨by show 1 ≤ sizeLine; decide, fun q8 hq8 => ⟨q8, 10, .str "a", rfl, rfl, .of upd_same, by decide, by decide, fun u8 HE sE hu8 => ?_⟩⟩
    have hu8 := rep_str 10 rfl hu8
    replace sE := (Same.new (o := .tup [.str "a"]) hq8).trans sE
    refine ne_words (iA 10) (Same.tup sE hv2) hu8 ⟨false, rfl, iteF ?_⟩
    have s8E := (s8C.trans sD).trans sE
    -- its peak
    refine ⟨_, rfl, e1, d1, f1, rfl, s8E _ _ j1, t1, _, rfl, _, _, rfl, by simp, P2 s8E, B2, by simp, Z2, fun r HF sF hr' => ?_⟩
    rw [T2] at hr'
    obtain ⟨d3, f3, j3⟩ := hr'.ins
    refine ⟨r, d3, f3, rfl, j3, r, _, _, _, rfl, hr', 10, 20, rfl, rfl, ⟨by decide, by decide, by decide⟩, _, 500, rfl, rfl, rfl, false, congrArg V.bl (by rw [e20]; exact congrArg (fun b => !b) (decide_eq_true (show V.int 99999999999999999500 = V.int (100000000000000000000 - 500) from rfl))), iteF ?_⟩
    have s8F := s8E.trans sF
    -- reversal
    refine ⟨_, rfl, e1, d1, f1, rfl, s8F _ _ j1, r1, e1, some (rpS "a" 2000, rpS "b" 1500, 0), rfl, he1.same s8F, fun B e => (by cases e; exact bg1), fun B e => (by cases e; show (rpS "a" 2000).length + (rpS "b" 1500).length ≤ 5000; rw [rpS_len, rpS_len]; decide), fun r HG sG hr' => ?_⟩
    have hr' : EffAt K C HG r (rpS "b" 1500) (rpS "a" 2000) (0 - (((rpS "b" 1500).length : Int) - ((rpS "a" 2000).length : Int))) := hr'
    obtain ⟨d4, f4, j4, a4, _⟩ := EffV.look (o := some (rpS "b" 1500, rpS "a" 2000, 0 - (((rpS "b" 1500).length : Int) - ((rpS "a" 2000).length : Int)))) hr'
    refine ⟨r, d4, f4, rfl, j4, a4, by show 1 ≤ sizeLine; decide, fun q9 hq9 => ⟨q9, 1500, .str "b", rfl, rfl, .of upd_same, by decide, by decide, fun u9 HI sI hu9 => ?_⟩⟩
    have hu9 := rep_str 1500 rfl hu9
    replace sI := (Same.new (o := .tup [.str "b"]) hq9).trans sI
    rw [rpS_add "b" 1500 0 1500 rfl] at hu9
    refine ⟨r, u9, rpS "b" 1500, rpS "a" 2000, rpS "b" 0, _, rfl, hr'.same sI, iB _, hu9, iB _, by rw [rpS_len, rpS_len]; decide, le (by decide), fun v3 HJ sJ hv3 => ?_⟩
    refine ⟨by show 1 ≤ sizeLine; decide, fun qa hqa => ⟨qa, 2000, .str "a", rfl, rfl, .of upd_same, by decide, by decide, fun ua HK sK hua => ?_⟩⟩
    have hua := rep_str 2000 rfl hua
    replace sK := (Same.new (o := .tup [.str "a"]) hqa).trans sK
    rw [show rpS "b" 0 = [] from rfl, List.append_nil] at hv3
    refine ne_words (iA _) (Same.tup sK hv3) hua ⟨false, rfl, iteF ?_⟩
    -- the two last
    refine ⟨by show 0 ≤ sizeLine; decide, fun qb hqb => ⟨qb, rfl, .of upd_same, fun e5 HL sL he5 => ?_⟩⟩
    refine ⟨rfl, rfl, fun e6 HM sM he6 => ?_⟩
    have ok0 : EffOk (some ([], [], 0)) := ⟨fun z m => (by cases m), fun z m => (by cases m), by decide, by decide, by decide, by decide⟩
    refine cmp_eff (o2 := some ([], [], 0)) T TI (he5.same sM) he6 ok0 ok0 fun HN sN => ?_
    rw [decide_eq_true rfl]
    refine ⟨true, rfl, iteT ?_⟩
    refine ⟨by show 2 ≤ sizeLine; decide, fun qc hqc => ⟨by show 1 ≤ sizeLine; decide, fun qd hqd => ?_⟩⟩
    refine ⟨qd, 1000, [.ref qc], rfl, rfl, upd_same, by decide, by decide, (by show 1 * 1000 ≤ sizeLine; decide), fun qe hqe => ?_⟩
    have sX := (Same.new (o := .lst [V.ref qc]) hqd).trans (Same.new (o := .lst (List.replicate (1000 : Int).toNat [V.ref qc]).flatten) hqe)
    have gc := sX _ _ (upd_same (H := HN) (a := qc) (o := .tup [.str "push", .str "a"]))
    have ge : (upd (upd (upd HN qc (.tup [.str "push", .str "a"])) qd (.lst [.ref qc])) qe (.lst (List.replicate (1000 : Int).toNat [V.ref qc]).flatten)) qe = some (.lst (List.replicate 1000 (V.ref qc))) := by
      rw [upd_same]
      exact congrArg (fun l => some (HO.lst l)) (rep_flat (V.ref qc) 1000)
    refine ⟨qe, List.replicate 1000 (V.ref qc), List.replicate 1000 ((true, "a") : Stp), rfl, .of ge, by rw [List.length_replicate]; exact Nat.le_refl _, paired_rep ⟨qc, rfl, .of gc⟩ 1000, fun s m => (by rw [(List.mem_replicate.mp m).2]; exact item_a), fun e7 HO sO he7 => ?_⟩
    rw [eff_push] at he7
    obtain ⟨d7, f7, j7⟩ := he7.ins
    refine ⟨e7, d7, f7, rfl, j7, e7, _, _, _, rfl, he7, rfl, ?_⟩
    rw [decide_eq_true (show V.int ((1000 : Nat) : Int) = V.int 1000 from rfl)]
    exact k _
end
end SE
namespace SE
open PySem PySem.Spec PyProof.Rows L2
section
/-! ### what the top has left -/
theorem scI_InvalidWord : FnScope ["self", "value"] ["self", "value"] (defScope (inClass sInvalidword 0)) := ⟨rfl, rfl, rfl, by decide +kernel, rfl, by decide +kernel, by decide +kernel⟩
theorem scI_InvalidNumber : FnScope ["self", "value"] ["self", "value"] (defScope (inClass sInvalidnumber 0)) := ⟨rfl, rfl, rfl, by decide +kernel, rfl, by decide +kernel, by decide +kernel⟩
theorem scI_InvalidSteps : FnScope ["self", "index"] ["self", "index"] (defScope (inClass sInvalidsteps 0)) := ⟨rfl, rfl, rfl, by decide +kernel, rfl, by decide +kernel, by decide +kernel⟩
theorem kit_val {K : PySem.W.Frag} {C : Addr} (h1 : PySem.W.subIn K (.ref C) (.type "ValueError") = some true) : PySem.W.kitOne K (.ref C) (.type "ValueError") = some true := by
  unfold PySem.W.kitOne
  rw [if_neg (by simp)]
  show (if PySem.W.kitMeta "ValueError" = true then PySem.W.subIn K (.ref C) (.type "ValueError") else none) = some true
  rw [if_pos (by decide +kernel)]
  exact h1
theorem kit_below {K : PySem.W.Frag} {C S : Addr} (h1 : PySem.W.subIn K (.ref C) (.ref S) = some true) (h2 : PySem.W.typeIn K (.ref S) = some (.type "type")) (h3 : PySem.W.hasDictIn K S = true) : PySem.W.kitOne K (.ref C) (.ref S) = some true := by
  obtain ⟨cd, hc, _⟩ := PySem.W.any_some h3
  unfold PySem.W.kitOne
  split
  · rfl
  · show (if ((PySem.W.clsIn K S).isSome && PySem.W.typeIn K (.ref S) == some (.type "type")) = true then PySem.W.subIn K (.ref C) (.ref S) else none) = some true
    rw [if_pos (by rw [hc, h2]; rfl)]
    exact h1
theorem def_mk {K : PySem.W.Frag} {h : Heap} {mg : Str → Option Value} {x : Str} {st : Stmt} {f : Addr} {oc : Value} {od an : Option Addr} {osl : Array (Option Value)} {kV doc pm cdv ct : Value} (X : K.In h) (G : h.Ns mainGlobals mg)
    (a : PySem.W.nsIn K mainGlobals x = some (some (.ref f))) (l : K.lookup f = some ⟨oc, od, .func (PySem.W.fnOf x x (defArgs st) (defBody st) (defScope st) .none kV doc pm an cdv ct), osl⟩)
    (c : PySem.W.codeIn K cdv x = true) (k : PySem.W.keepIn K (.ref f) = true) : Def K mg x st := ⟨f, _, fun_mk l c k, PySem.W.mg_of X G a⟩
theorem defk_mk {K : PySem.W.Frag} {h : Heap} {mg : Str → Option Value} {x y : Str} {st : Stmt} {f d : Addr} {oc : Value} {od an : Option Addr} {osl : Array (Option Value)} {doc pm cdv ct : Value} (X : K.In h) (G : h.Ns mainGlobals mg)
    (a : PySem.W.nsIn K mainGlobals x = some (some (.ref f))) (l : K.lookup f = some ⟨oc, od, .func (PySem.W.fnOf x x (defArgs st) (defBody st) (defScope st) .none (.ref d) doc pm an cdv ct), osl⟩)
    (c : PySem.W.codeIn K cdv x = true) (k : PySem.W.keepIn K (.ref f) = true) (n : PySem.W.nsIn K d y = some (some .none)) : DefK K mg x st [(y, .non)] := by
  refine ⟨f, _, fun_mk l c k, ⟨⟨oc, od, .none, .ref d, doc, pm, an, cdv, ct, osl, rfl, l, c, .inl ⟨rfl, rfl⟩, .inr ⟨d, rfl, fun q hq => ?_⟩⟩, k⟩, PySem.W.mg_of X G a⟩
  rw [List.mem_singleton.mp hq]
  exact ⟨.none, n, rfl⟩
theorem init_mk {K : PySem.W.Frag} {x q y : Str} {st : Stmt} {f d : Addr} {oc : Value} {od an : Option Addr} {osl : Array (Option Value)} {doc pm cdv ct : Value}
    (l : K.lookup f = some ⟨oc, od, .func (PySem.W.fnOf x q (defArgs st) (defBody st) (defScope st) .none (.ref d) doc pm an cdv ct), osl⟩) (c : PySem.W.codeIn K cdv q = true) (k : PySem.W.keepIn K (.ref f) = true) (n : PySem.W.nsIn K d y = some (some .none)) :
    FunD K x q (defArgs st) (defBody st) (defScope st) [] [(y, .non)] f (PySem.W.fnOf x q (defArgs st) (defBody st) (defScope st) .none (.ref d) doc pm an cdv ct) := by
  refine ⟨⟨oc, od, .none, .ref d, doc, pm, an, cdv, ct, osl, rfl, l, c, .inl ⟨rfl, rfl⟩, .inr ⟨d, rfl, fun z hz => ?_⟩⟩, k⟩
  rw [List.mem_singleton.mp hz]
  exact ⟨.none, n, rfl⟩
theorem all_mk {l : PySem.W.OpenLaw} {w : World} {K : PySem.W.Frag} {h : Heap} {mg : Str → Option Value} {fa gI dI C D fL gP0 qP0 gP1 qP1 gP2 qP2 gP3 qP3 gP4 qP4 gM0 qM0 gM1 qM1 gQ gR gT gV gA dA gSM qSM S CX0 gX0 NX0 CX1 gX1 NX1 CX2 gX2 NX2 : Addr} {tk1 tk2 tk3 tk4 : Tok} (X : K.In h) (G : h.Ns mainGlobals mg) (hfa : mg "law" = some (.ref fa))
    {odI anI : Option Addr} {slI : Array (Option Value)} {ocI dcI pmI cdI ctI : Value}
    {odP0 anP0 : Option Addr} {slP0 : Array (Option Value)} {ocP0 kVP0 dcP0 pmP0 cdP0 ctP0 : Value}
    {rP0 : List Value}
    {odP1 anP1 : Option Addr} {slP1 : Array (Option Value)} {ocP1 kVP1 dcP1 pmP1 cdP1 ctP1 : Value}
    {rP1 : List Value}
    {odP2 anP2 : Option Addr} {slP2 : Array (Option Value)} {ocP2 kVP2 dcP2 pmP2 cdP2 ctP2 : Value}
    {rP2 : List Value}
    {odP3 anP3 : Option Addr} {slP3 : Array (Option Value)} {ocP3 kVP3 dcP3 pmP3 cdP3 ctP3 : Value}
    {rP3 : List Value}
    {odP4 anP4 : Option Addr} {slP4 : Array (Option Value)} {ocP4 kVP4 dcP4 pmP4 cdP4 ctP4 : Value}
    {rP4 : List Value}
    {odM0 anM0 : Option Addr} {slM0 : Array (Option Value)} {ocM0 kVM0 dcM0 pmM0 cdM0 ctM0 : Value}
    {rM0 : List Value}
    {odM1 anM1 : Option Addr} {slM1 : Array (Option Value)} {ocM1 kVM1 dcM1 pmM1 cdM1 ctM1 : Value}
    {rM1 : List Value}
    {odQ anQ : Option Addr} {slQ : Array (Option Value)} {ocQ kVQ dcQ pmQ cdQ ctQ : Value}
    {odR anR : Option Addr} {slR : Array (Option Value)} {ocR kVR dcR pmR cdR ctR : Value}
    {odT anT : Option Addr} {slT : Array (Option Value)} {ocT kVT dcT pmT cdT ctT : Value}
    {odV anV : Option Addr} {slV : Array (Option Value)} {ocV kVV dcV pmV cdV ctV : Value}
    {odSM anSM : Option Addr} {slSM : Array (Option Value)} {ocSM kVSM dcSM pmSM cdSM ctSM : Value}
    {odA anA : Option Addr} {slA : Array (Option Value)} {ocA dcA pmA cdA ctA : Value}
    {rSM : List Value}
    {nmX0 qX0 : Str} {bsX0 : List Value} {snX0 : List Str} {subX0 : List Value} {abX0 : Bool} {colX0 : Option Bool} {ddX0 odX0 anX0 : Option Addr} {m0X0 m1X0 m2X0 m3X0 m5X0 : Option Value} {slX0 : Array (Option Value)} {ocX0 kVX0 dcX0 pmX0 cdX0 ctX0 : Value}
    {nmX1 qX1 : Str} {bsX1 : List Value} {snX1 : List Str} {subX1 : List Value} {abX1 : Bool} {colX1 : Option Bool} {ddX1 odX1 anX1 : Option Addr} {m0X1 m1X1 m2X1 m3X1 m5X1 : Option Value} {slX1 : Array (Option Value)} {ocX1 kVX1 dcX1 pmX1 cdX1 ctX1 : Value}
    {nmX2 qX2 : Str} {bsX2 : List Value} {snX2 : List Str} {subX2 : List Value} {abX2 : Bool} {colX2 : Option Bool} {ddX2 odX2 anX2 : Option Addr} {m0X2 m1X2 m2X2 m3X2 m5X2 : Option Value} {slX2 : Array (Option Value)} {ocX2 kVX2 dcX2 pmX2 cdX2 ctX2 : Value}
    {odL anL : Option Addr} {slL : Array (Option Value)} {ocL kVL dcL pmL cdL ctL : Value} {es : Array DictEntry} {n : Nat} {uP uQ : Value}
    (d_is_whole : Def K mg "is_whole" sIsWhole)
    (d_is_between : Def K mg "is_between" sIsBetween)
    (d_is_item : Def K mg "is_item" sIsItem)
    (d_is_word : Def K mg "is_word" sIsWord)
    (d_is_step : Def K mg "is_step" sIsStep)
    (d_may_hold_steps : Def K mg "may_hold_steps" sMayHold)
    (d_is_limit : Def K mg "is_limit" sIsLimit)
    (d_check_steps : Def K mg "check_steps" sChkSteps)
    (d_check_word : Def K mg "check_word" sChkWord)
    (d_check_limit : Def K mg "check_limit" sChkLimit)
    (d_is_too_high : Def K mg "is_too_high" sTooHigh)
    (d_least_peak : Def K mg "least_peak" sLeastPeak)
    (d_replaced : Def K mg "replaced" sReplaced)
    (d_joined : Def K mg "joined" sJoined)
    (d_parts_of_step : Def K mg "parts_of_step" sPartsOfStep)
    (d_effect_of : Def K mg "effect_of" sEffectOf)
    (d__law_pool : Def K mg "_law_pool" sPool)
    (d__law_take : Def K mg "_law_take" sTake)
    (d__law_items : Def K mg "_law_items" sItems)
    (d__law_word : Def K mg "_law_word" sWord)
    (d__law_raised : Def K mg "_law_raised" sLawRaised)
    (d__law_alike_right : Def K mg "_law_alike_right" sLawAlikeRight)
    (d__law_errors_right : Def K mg "_law_errors_right" sLawErrorsRight)
    (z_isinstance : PySem.W.nsIn K mainGlobals "isinstance" = some none)
    (z_str : PySem.W.nsIn K mainGlobals "str" = some none)
    (z_len : PySem.W.nsIn K mainGlobals "len" = some none)
    (z_all : PySem.W.nsIn K mainGlobals "all" = some none)
    (z_tuple : PySem.W.nsIn K mainGlobals "tuple" = some none)
    (z_list : PySem.W.nsIn K mainGlobals "list" = some none)
    (z_enumerate : PySem.W.nsIn K mainGlobals "enumerate" = some none)
    (z_range : PySem.W.nsIn K mainGlobals "range" = some none)
    (z_abs : PySem.W.nsIn K mainGlobals "abs" = some none)
    (z_int : PySem.W.nsIn K mainGlobals "int" = some none)
    (z_bool : PySem.W.nsIn K mainGlobals "bool" = some none)
    (z_max : PySem.W.nsIn K mainGlobals "max" = some none)
    (z_min : PySem.W.nsIn K mainGlobals "min" = some none)
    (z_repr : PySem.W.nsIn K mainGlobals "repr" = some none)
    (z_any : PySem.W.nsIn K mainGlobals "any" = some none)
    (z_ValueError : PySem.W.nsIn K mainGlobals "ValueError" = some none)
    (cL : PySem.W.nsIn K mainGlobals "LETTERS" = some (some (.str abc tk1)))
    (cM : PySem.W.nsIn K mainGlobals "MOST_LETTERS" = some (some (.int 8 tk2)))
    (cS : PySem.W.nsIn K mainGlobals "MOST_STEPS" = some (some (.int 1000 tk3)))
    (cLM : PySem.W.nsIn K mainGlobals "MOST_LIMIT" = some (some (.int 1000 tk4)))
    (cO : PySem.W.nsIn K mainGlobals "OPPOSITES" = some (some (.ref D)))
    (lO : K.lookup D = some ⟨.type "dict", none, .dict es n, #[]⟩)
    (kO : PySem.W.KeysLit w.params es.toList)
    (wO : (D == sysModules) = false)
    (pO : PySem.W.nsIn K D "push" = some (some uP))
    (qO : PySem.W.nsIn K D "pop" = some (some uQ))
    (rP : RelV (.str "pop") uP)
    (rQ : RelV (.str "push") uQ)
    (aC : PySem.W.nsIn K mainGlobals "Effect" = some (some (.ref C)))
    (pg : PySem.W.plainGet K C Str.empty = true)
    (hd : PySem.W.hasDictIn K C = true)
    (po : PySem.W.plainOver K C = true)
    (sa : PySem.W.findIn K (.ref C) "__setattr__" = some (some (.builtin "object.__setattr__")))
    (nN : PySem.W.findIn K (.ref C) "needs" = some none)
    (nL : PySem.W.findIn K (.ref C) "leaves" = some none)
    (nH : PySem.W.findIn K (.ref C) "highest" = some none)
    (mkC : PySem.W.makesIn K C = true)
    (keC : PySem.W.keepIn K (.ref C) = true)
    (aI : PySem.W.findIn K (.ref C) "__init__" = some (some (.ref gI)))
    (iI : PySem.W.isFn K (.ref gI) = true)
    (lI : K.lookup gI = some ⟨ocI, odI, .func (PySem.W.fnOf "__init__" "Effect.__init__" (defArgs sInit) (defBody sInit) (defScope sInit) .none (.ref dI) dcI pmI anI cdI ctI), slI⟩)
    (cI : PySem.W.codeIn K cdI "Effect.__init__" = true)
    (kI : PySem.W.keepIn K (.ref gI) = true)
    (nI : PySem.W.nsIn K dI "peak" = some (some .none))
    (aP0 : PySem.W.findIn K (.ref C) "pops" = some (some (.ref qP0)))
    (bP0 : PySem.W.specialIn K (.ref qP0) "__get__" = some (some (.builtin "property.__get__")))
    (tP0 : PySem.W.takesIn K (.ref qP0) = some true)
    (uP0 : PySem.W.recIn K qP0 "property" = some (.ref gP0 :: rP0))
    (lP0 : K.lookup gP0 = some ⟨ocP0, odP0, .func (PySem.W.fnOf "pops" "Effect.pops" (defArgs sPops) (defBody sPops) (defScope sPops) .none kVP0 dcP0 pmP0 anP0 cdP0 ctP0), slP0⟩)
    (cP0 : PySem.W.codeIn K cdP0 "Effect.pops" = true)
    (kP0 : PySem.W.keepIn K (.ref gP0) = true)
    (aP1 : PySem.W.findIn K (.ref C) "pushes" = some (some (.ref qP1)))
    (bP1 : PySem.W.specialIn K (.ref qP1) "__get__" = some (some (.builtin "property.__get__")))
    (tP1 : PySem.W.takesIn K (.ref qP1) = some true)
    (uP1 : PySem.W.recIn K qP1 "property" = some (.ref gP1 :: rP1))
    (lP1 : K.lookup gP1 = some ⟨ocP1, odP1, .func (PySem.W.fnOf "pushes" "Effect.pushes" (defArgs sPushes) (defBody sPushes) (defScope sPushes) .none kVP1 dcP1 pmP1 anP1 cdP1 ctP1), slP1⟩)
    (cP1 : PySem.W.codeIn K cdP1 "Effect.pushes" = true)
    (kP1 : PySem.W.keepIn K (.ref gP1) = true)
    (aP2 : PySem.W.findIn K (.ref C) "is_never" = some (some (.ref qP2)))
    (bP2 : PySem.W.specialIn K (.ref qP2) "__get__" = some (some (.builtin "property.__get__")))
    (tP2 : PySem.W.takesIn K (.ref qP2) = some true)
    (uP2 : PySem.W.recIn K qP2 "property" = some (.ref gP2 :: rP2))
    (lP2 : K.lookup gP2 = some ⟨ocP2, odP2, .func (PySem.W.fnOf "is_never" "Effect.is_never" (defArgs sIsNever) (defBody sIsNever) (defScope sIsNever) .none kVP2 dcP2 pmP2 anP2 cdP2 ctP2), slP2⟩)
    (cP2 : PySem.W.codeIn K cdP2 "Effect.is_never" = true)
    (kP2 : PySem.W.keepIn K (.ref gP2) = true)
    (aP3 : PySem.W.findIn K (.ref C) "peak" = some (some (.ref qP3)))
    (bP3 : PySem.W.specialIn K (.ref qP3) "__get__" = some (some (.builtin "property.__get__")))
    (tP3 : PySem.W.takesIn K (.ref qP3) = some true)
    (uP3 : PySem.W.recIn K qP3 "property" = some (.ref gP3 :: rP3))
    (lP3 : K.lookup gP3 = some ⟨ocP3, odP3, .func (PySem.W.fnOf "peak" "Effect.peak" (defArgs sPeak) (defBody sPeak) (defScope sPeak) .none kVP3 dcP3 pmP3 anP3 cdP3 ctP3), slP3⟩)
    (cP3 : PySem.W.codeIn K cdP3 "Effect.peak" = true)
    (kP3 : PySem.W.keepIn K (.ref gP3) = true)
    (aP4 : PySem.W.findIn K (.ref C) "change" = some (some (.ref qP4)))
    (bP4 : PySem.W.specialIn K (.ref qP4) "__get__" = some (some (.builtin "property.__get__")))
    (tP4 : PySem.W.takesIn K (.ref qP4) = some true)
    (uP4 : PySem.W.recIn K qP4 "property" = some (.ref gP4 :: rP4))
    (lP4 : K.lookup gP4 = some ⟨ocP4, odP4, .func (PySem.W.fnOf "change" "Effect.change" (defArgs sChange) (defBody sChange) (defScope sChange) .none kVP4 dcP4 pmP4 anP4 cdP4 ctP4), slP4⟩)
    (cP4 : PySem.W.codeIn K cdP4 "Effect.change" = true)
    (kP4 : PySem.W.keepIn K (.ref gP4) = true)
    (rdC : PySem.W.readsIn K C (.type "type") = true)
    (gaC : PySem.W.specialIn K (.ref C) "__getattribute__" = some (some (.builtin "type.__getattribute__")))
    (aM0 : PySem.W.findCls K (.ref C) (.type "type") "never" = some (.get (.builtin "classmethod.__get__") (.ref qM0) .none (.ref C)))
    (uM0 : PySem.W.recIn K qM0 "classmethod" = some (.ref gM0 :: rM0))
    (fM0 : PySem.W.fnIn K gM0 = true)
    (lM0 : K.lookup gM0 = some ⟨ocM0, odM0, .func (PySem.W.fnOf "never" "Effect.never" (defArgs sNever) (defBody sNever) (defScope sNever) .none kVM0 dcM0 pmM0 anM0 cdM0 ctM0), slM0⟩)
    (cM0 : PySem.W.codeIn K cdM0 "Effect.never" = true)
    (kM0 : PySem.W.keepIn K (.ref gM0) = true)
    (aM1 : PySem.W.findCls K (.ref C) (.type "type") "nothing" = some (.get (.builtin "classmethod.__get__") (.ref qM1) .none (.ref C)))
    (uM1 : PySem.W.recIn K qM1 "classmethod" = some (.ref gM1 :: rM1))
    (fM1 : PySem.W.fnIn K gM1 = true)
    (lM1 : K.lookup gM1 = some ⟨ocM1, odM1, .func (PySem.W.fnOf "nothing" "Effect.nothing" (defArgs sNothing) (defBody sNothing) (defScope sNothing) .none kVM1 dcM1 pmM1 anM1 cdM1 ctM1), slM1⟩)
    (cM1 : PySem.W.codeIn K cdM1 "Effect.nothing" = true)
    (kM1 : PySem.W.keepIn K (.ref gM1) = true)
    (oK : OppKeys es.toList)
    (aQ : PySem.W.findIn K (.ref C) "__eq__" = some (some (.ref gQ)))
    (iQ : PySem.W.isFn K (.ref gQ) = true)
    (lQ : K.lookup gQ = some ⟨ocQ, odQ, .func (PySem.W.fnOf "__eq__" "Effect.__eq__" (defArgs sEq) (defBody sEq) (defScope sEq) .none kVQ dcQ pmQ anQ cdQ ctQ), slQ⟩)
    (cQ : PySem.W.codeIn K cdQ "Effect.__eq__" = true)
    (kQ : PySem.W.keepIn K (.ref gQ) = true)
    (aNE : PySem.W.findIn K (.ref C) "__ne__" = some (some (.builtin "object.__ne__")))
    (e1 : PySem.W.findIn K (.ref C) "__class__" = some (some (.builtin "object.__class__")))
    (e2 : PySem.W.specialIn K (.builtin "object.__class__") "__get__" = some (some (.builtin "getset_descriptor.__get__")))
    (e3 : PySem.W.takesIn K (.builtin "object.__class__") = some true)
    (e4 : PySem.W.mroIn K C (.type "object") = some true)
    (aR : PySem.W.findIn K (.ref C) "__repr__" = some (some (.ref gR)))
    (iR : PySem.W.isFn K (.ref gR) = true)
    (lR : K.lookup gR = some ⟨ocR, odR, .func (PySem.W.fnOf "__repr__" "Effect.__repr__" (defArgs sRepr) (defBody sRepr) (defScope sRepr) .none kVR dcR pmR anR cdR ctR), slR⟩)
    (cR : PySem.W.codeIn K cdR "Effect.__repr__" = true)
    (kR : PySem.W.keepIn K (.ref gR) = true)
    (aT : PySem.W.findIn K (.ref C) "then" = some (some (.ref gT)))
    (iT : PySem.W.isFn K (.ref gT) = true)
    (lT : K.lookup gT = some ⟨ocT, odT, .func (PySem.W.fnOf "then" "Effect.then" (defArgs sThen) (defBody sThen) (defScope sThen) .none kVT dcT pmT anT cdT ctT), slT⟩)
    (cT : PySem.W.codeIn K cdT "Effect.then" = true)
    (kT : PySem.W.keepIn K (.ref gT) = true)
    (aV : PySem.W.findIn K (.ref C) "reversal" = some (some (.ref gV)))
    (iV : PySem.W.isFn K (.ref gV) = true)
    (lV : K.lookup gV = some ⟨ocV, odV, .func (PySem.W.fnOf "reversal" "Effect.reversal" (defArgs sReversal) (defBody sReversal) (defScope sReversal) .none kVV dcV pmV anV cdV ctV), slV⟩)
    (cV : PySem.W.codeIn K cdV "Effect.reversal" = true)
    (kV : PySem.W.keepIn K (.ref gV) = true)
    (aA : PySem.W.findIn K (.ref C) "apply" = some (some (.ref gA)))
    (iA : PySem.W.isFn K (.ref gA) = true)
    (lA : K.lookup gA = some ⟨ocA, odA, .func (PySem.W.fnOf "apply" "Effect.apply" (defArgs sApply) (defBody sApply) (defScope sApply) .none (.ref dA) dcA pmA anA cdA ctA), slA⟩)
    (cA : PySem.W.codeIn K cdA "Effect.apply" = true)
    (kA : PySem.W.keepIn K (.ref gA) = true)
    (nA : PySem.W.nsIn K dA "limit" = some (some .none))
    (aSM : PySem.W.findCls K (.ref C) (.type "type") "of" = some (.get (.builtin "staticmethod.__get__") (.ref qSM) .none (.ref C)))
    (uSM : PySem.W.recIn K qSM "staticmethod" = some (.ref gSM :: rSM))
    (lSM : K.lookup gSM = some ⟨ocSM, odSM, .func (PySem.W.fnOf "of" "Effect.of" (defArgs sOf) (defBody sOf) (defScope sOf) .none kVSM dcSM pmSM anSM cdSM ctSM), slSM⟩)
    (cSM : PySem.W.codeIn K cdSM "Effect.of" = true)
    (kSM : PySem.W.keepIn K (.ref gSM) = true)
    (tCE : PySem.W.typeIn K (.ref C) = some (.type "type"))
    (aS : PySem.W.nsIn K mainGlobals "StackError" = some (some (.ref S)))
    (tS : PySem.W.typeIn K (.ref S) = some (.type "type"))
    (hS : PySem.W.hasDictIn K S = true)
    (cg : PySem.W.specialIn K (.builtin "object.__class__") "__get__" = some (some (.builtin "getset_descriptor.__get__")))
    (ct : PySem.W.takesIn K (.builtin "object.__class__") = some true)
    (aX0 : PySem.W.nsIn K mainGlobals "InvalidWord" = some (some (.ref CX0)))
    (xX0 : K.lookup CX0 = some (excClassObj nmX0 qX0 CX0 NX0 bsX0 [.ref S, .type "ValueError", .type "Exception", .type "BaseException", .type "object"] true snX0 subX0 abX0 colX0 ddX0 m0X0 m1X0 m2X0 m3X0 m5X0 "ValueError.__new__"))
    (saX0 : PySem.W.findIn K (.ref CX0) "__setattr__" = some (some (.builtin "object.__setattr__")))
    (gaX0 : PySem.W.findIn K (.ref CX0) "__getattribute__" = some (some (.builtin "BaseException.__getattribute__")))
    (ggX0 : PySem.W.findIn K (.ref CX0) "__getattr__" = some none)
    (nfX0 : PySem.W.findIn K (.ref CX0) "value" = some none)
    (iiX0 : PySem.W.findIn K (.ref CX0) "__init__" = some (some (.ref gX0)))
    (tiX0 : PySem.W.typeIn K (.ref gX0) = some (.type "function"))
    (lX0 : K.lookup gX0 = some ⟨ocX0, odX0, .func (PySem.W.fnOf "__init__" "InvalidWord.__init__" (defArgs (inClass sInvalidword 0)) (defBody (inClass sInvalidword 0)) (defScope (inClass sInvalidword 0)) .none kVX0 dcX0 pmX0 anX0 cdX0 ctX0), slX0⟩)
    (cX0 : PySem.W.codeIn K cdX0 "InvalidWord.__init__" = true)
    (kX0 : PySem.W.keepIn K (.ref gX0) = true)
    (kCX0 : PySem.W.keepIn K (.ref CX0) = true)
    (eCX0 : PySem.W.subIn K (.ref CX0) (.type "BaseException") = some true)
    (tCX0 : PySem.W.typeIn K (.ref CX0) = some (.type "type"))
    (hCX0 : PySem.W.hasDictIn K CX0 = true)
    (sCX0 : PySem.W.subIn K (.ref CX0) (.ref CX0) = some true)
    (sSX0 : PySem.W.subIn K (.ref CX0) (.ref S) = some true)
    (ccX0 : PySem.W.findIn K (.ref CX0) "__class__" = some (some (.builtin "object.__class__")))
    (moX0 : PySem.W.mroIn K CX0 (.type "object") = some true)
    (aX1 : PySem.W.nsIn K mainGlobals "InvalidNumber" = some (some (.ref CX1)))
    (xX1 : K.lookup CX1 = some (excClassObj nmX1 qX1 CX1 NX1 bsX1 [.ref S, .type "ValueError", .type "Exception", .type "BaseException", .type "object"] true snX1 subX1 abX1 colX1 ddX1 m0X1 m1X1 m2X1 m3X1 m5X1 "ValueError.__new__"))
    (saX1 : PySem.W.findIn K (.ref CX1) "__setattr__" = some (some (.builtin "object.__setattr__")))
    (gaX1 : PySem.W.findIn K (.ref CX1) "__getattribute__" = some (some (.builtin "BaseException.__getattribute__")))
    (ggX1 : PySem.W.findIn K (.ref CX1) "__getattr__" = some none)
    (nfX1 : PySem.W.findIn K (.ref CX1) "value" = some none)
    (iiX1 : PySem.W.findIn K (.ref CX1) "__init__" = some (some (.ref gX1)))
    (tiX1 : PySem.W.typeIn K (.ref gX1) = some (.type "function"))
    (lX1 : K.lookup gX1 = some ⟨ocX1, odX1, .func (PySem.W.fnOf "__init__" "InvalidNumber.__init__" (defArgs (inClass sInvalidnumber 0)) (defBody (inClass sInvalidnumber 0)) (defScope (inClass sInvalidnumber 0)) .none kVX1 dcX1 pmX1 anX1 cdX1 ctX1), slX1⟩)
    (cX1 : PySem.W.codeIn K cdX1 "InvalidNumber.__init__" = true)
    (kX1 : PySem.W.keepIn K (.ref gX1) = true)
    (kCX1 : PySem.W.keepIn K (.ref CX1) = true)
    (eCX1 : PySem.W.subIn K (.ref CX1) (.type "BaseException") = some true)
    (tCX1 : PySem.W.typeIn K (.ref CX1) = some (.type "type"))
    (hCX1 : PySem.W.hasDictIn K CX1 = true)
    (sCX1 : PySem.W.subIn K (.ref CX1) (.ref CX1) = some true)
    (sSX1 : PySem.W.subIn K (.ref CX1) (.ref S) = some true)
    (ccX1 : PySem.W.findIn K (.ref CX1) "__class__" = some (some (.builtin "object.__class__")))
    (moX1 : PySem.W.mroIn K CX1 (.type "object") = some true)
    (aX2 : PySem.W.nsIn K mainGlobals "InvalidSteps" = some (some (.ref CX2)))
    (xX2 : K.lookup CX2 = some (excClassObj nmX2 qX2 CX2 NX2 bsX2 [.ref S, .type "ValueError", .type "Exception", .type "BaseException", .type "object"] true snX2 subX2 abX2 colX2 ddX2 m0X2 m1X2 m2X2 m3X2 m5X2 "ValueError.__new__"))
    (saX2 : PySem.W.findIn K (.ref CX2) "__setattr__" = some (some (.builtin "object.__setattr__")))
    (gaX2 : PySem.W.findIn K (.ref CX2) "__getattribute__" = some (some (.builtin "BaseException.__getattribute__")))
    (ggX2 : PySem.W.findIn K (.ref CX2) "__getattr__" = some none)
    (nfX2 : PySem.W.findIn K (.ref CX2) "index" = some none)
    (iiX2 : PySem.W.findIn K (.ref CX2) "__init__" = some (some (.ref gX2)))
    (tiX2 : PySem.W.typeIn K (.ref gX2) = some (.type "function"))
    (lX2 : K.lookup gX2 = some ⟨ocX2, odX2, .func (PySem.W.fnOf "__init__" "InvalidSteps.__init__" (defArgs (inClass sInvalidsteps 0)) (defBody (inClass sInvalidsteps 0)) (defScope (inClass sInvalidsteps 0)) .none kVX2 dcX2 pmX2 anX2 cdX2 ctX2), slX2⟩)
    (cX2 : PySem.W.codeIn K cdX2 "InvalidSteps.__init__" = true)
    (kX2 : PySem.W.keepIn K (.ref gX2) = true)
    (kCX2 : PySem.W.keepIn K (.ref CX2) = true)
    (eCX2 : PySem.W.subIn K (.ref CX2) (.type "BaseException") = some true)
    (tCX2 : PySem.W.typeIn K (.ref CX2) = some (.type "type"))
    (hCX2 : PySem.W.hasDictIn K CX2 = true)
    (sCX2 : PySem.W.subIn K (.ref CX2) (.ref CX2) = some true)
    (sSX2 : PySem.W.subIn K (.ref CX2) (.ref S) = some true)
    (ccX2 : PySem.W.findIn K (.ref CX2) "__class__" = some (some (.builtin "object.__class__")))
    (moX2 : PySem.W.mroIn K CX2 (.type "object") = some true)
    (vN : PySem.W.subIn K (.ref CX1) (.type "ValueError") = some true)
    (n10 : PySem.W.subIn K (.ref CX1) (.ref CX0) = some false)
    (n20 : PySem.W.subIn K (.ref CX2) (.ref CX0) = some false)
    (n21 : PySem.W.subIn K (.ref CX2) (.ref CX1) = some false)
    (aL : PySem.W.nsIn K mainGlobals "law" = some (some (.ref fL)))
    (lL : K.lookup fL = some ⟨ocL, odL, .func (PySem.W.fnOf "law" "law" (defArgs sLaw) (defBody sLaw) (defScope sLaw) .none kVL dcL pmL anL cdL ctL), slL⟩)
    (ckL : PySem.W.codeIn K cdL "law" = true)
    (kL : PySem.W.keepIn K (.ref fL) = true) :
    ∃ fd : FuncData, (∀ (s : Shared) (v : Value), BindsTo s fd ⟨[v], []⟩ [("_law_script", v)]) ∧ ∀ base : Heap, K.In base → base.Ns mainGlobals mg → GOk l.prog w K mg base 10 fa fd ["_law_script"] (spLaw K) := by
  have e := hfa.symm.trans (PySem.W.mg_of X G aL)
  cases e
  have F := fun_mk (st := sLaw) lL ckL kL
  have m_isinstance : mg "isinstance" = none := PySem.W.mg_none_of X G z_isinstance
  have m_str : mg "str" = none := PySem.W.mg_none_of X G z_str
  have m_len : mg "len" = none := PySem.W.mg_none_of X G z_len
  have m_all : mg "all" = none := PySem.W.mg_none_of X G z_all
  have m_tuple : mg "tuple" = none := PySem.W.mg_none_of X G z_tuple
  have m_list : mg "list" = none := PySem.W.mg_none_of X G z_list
  have m_enumerate : mg "enumerate" = none := PySem.W.mg_none_of X G z_enumerate
  have m_range : mg "range" = none := PySem.W.mg_none_of X G z_range
  have m_abs : mg "abs" = none := PySem.W.mg_none_of X G z_abs
  have m_int : mg "int" = none := PySem.W.mg_none_of X G z_int
  have m_bool : mg "bool" = none := PySem.W.mg_none_of X G z_bool
  have m_max : mg "max" = none := PySem.W.mg_none_of X G z_max
  have m_min : mg "min" = none := PySem.W.mg_none_of X G z_min
  have m_repr : mg "repr" = none := PySem.W.mg_none_of X G z_repr
  have m_any : mg "any" = none := PySem.W.mg_none_of X G z_any
  have m_ValueError : mg "ValueError" = none := PySem.W.mg_none_of X G z_ValueError
  have B : Blt mg := ⟨m_isinstance, m_str, m_len, m_all, m_tuple, m_list, m_enumerate⟩
  have Co : Cons K w mg := ⟨⟨_, PySem.W.mg_of X G cL⟩, ⟨_, PySem.W.mg_of X G cM⟩, ⟨_, PySem.W.mg_of X G cS⟩, ⟨D, es, n, uP, uQ, PySem.W.mg_of X G cO, ⟨lO, kO, wO⟩, pO, rP, qO, rQ⟩⟩
  have T : EC K mg C := ⟨⟨pg, hd, po, sa⟩, nN, nL, nH, PySem.W.mg_of X G aC⟩
  refine ⟨PySem.W.fnOf "law" "law" (defArgs sLaw) (defBody sLaw) (defScope sLaw) .none kVL dcL pmL anL cdL ctL, fun s v => .of_eq rfl, fun base _ _ => ?_⟩
  have O2 := (⟨D, es, n, uP, uQ, PySem.W.mg_of X G cO, ⟨lO, kO, wO⟩, pO, qO, oK⟩ : Opp2 K w mg)
  have gTake := has_take (P := l.prog) (w := w) (base := base) d__law_take
  have gPool := has_pool (P := l.prog) (w := w) (base := base) d__law_pool m_len m_abs m_int
  have gItems := has_items2 d__law_items gTake
  have gWord := has_word d__law_word gTake m_range m_len m_tuple
  have gItem := has_isItem (P := l.prog) (w := w) (base := base) d_is_item B Co
  have gIsWord := has_isWord d_is_word gItem B
  have gCw := has_chkWord d_check_word gIsWord
  have gIsStep := has_isStep d_is_step gItem B Co
  have gMay := has_may (P := l.prog) (w := w) (base := base) d_may_hold_steps B Co
  have gChk := has_chkSteps d_check_steps gMay gIsStep B
  have gWh := has_whole (P := l.prog) (w := w) (base := base) d_is_whole B m_int m_bool
  have gLe := has_least (P := l.prog) (w := w) (base := base) d_least_peak B m_max
  have gM := (⟨gI, _, ⟨mkC, aI, iI, keC⟩, ok_init (fun_mk lI cI kI) T gCw gLe gWh, init_mk lI cI kI nI⟩ : Makes l.prog w K mg base C)
  have gPo := (⟨qP0, gP0, _, ⟨aP0, bP0, tP0, rP0, uP0⟩, ok_pops (fun_mk lP0 cP0 kP0) T, (fun_mk lP0 cP0 kP0).binds (ps := ["self"]) fun _ _ _ _ _ _ us hl => match us, hl with | [_], _ => rfl⟩ : PropHas l.prog w K mg base C "pops" 1 _)
  have gPu := (⟨qP1, gP1, _, ⟨aP1, bP1, tP1, rP1, uP1⟩, ok_push (fun_mk lP1 cP1 kP1) T, (fun_mk lP1 cP1 kP1).binds (ps := ["self"]) fun _ _ _ _ _ _ us hl => match us, hl with | [_], _ => rfl⟩ : PropHas l.prog w K mg base C "pushes" 1 _)
  have gNv := (⟨qP2, gP2, _, ⟨aP2, bP2, tP2, rP2, uP2⟩, ok_isNev (fun_mk lP2 cP2 kP2) T, (fun_mk lP2 cP2 kP2).binds (ps := ["self"]) fun _ _ _ _ _ _ us hl => match us, hl with | [_], _ => rfl⟩ : PropHas l.prog w K mg base C "is_never" 1 _)
  have gPk := (⟨qP3, gP3, _, ⟨aP3, bP3, tP3, rP3, uP3⟩, ok_peak (fun_mk lP3 cP3 kP3) T, (fun_mk lP3 cP3 kP3).binds (ps := ["self"]) fun _ _ _ _ _ _ us hl => match us, hl with | [_], _ => rfl⟩ : PropHas l.prog w K mg base C "peak" 1 _)
  have gCh := (⟨qP4, gP4, _, ⟨aP4, bP4, tP4, rP4, uP4⟩, ok_chan (fun_mk lP4 cP4 kP4) T B, (fun_mk lP4 cP4 kP4).binds (ps := ["self"]) fun _ _ _ _ _ _ us hl => match us, hl with | [_], _ => rfl⟩ : PropHas l.prog w K mg base C "change" 1 _)
  have fNe := ok_never (fun_mk lM0 cM0 kM0) T gM
  have bNe := (fun_mk (st := sNever) lM0 cM0 kM0).binds (ps := ["cls"]) fun _ _ _ _ _ _ us hl => match us, hl with | [_], _ => rfl
  have gNe := (⟨.type "type", qM0, gM0, ⟨rdC, gaC⟩, ⟨aM0, ⟨_, uM0⟩, fM0⟩, (fNe.raw bNe .nil).imp fun vs H Q E h => by rw [List.append_nil]; exact h⟩ : NeverHas l.prog w K mg base C)
  have fNo := ok_nothing (fun_mk lM1 cM1 kM1) gM
  have bNo := (fun_mk (st := sNothing) lM1 cM1 kM1).binds (ps := ["cls"]) fun _ _ _ _ _ _ us hl => match us, hl with | [_], _ => rfl
  have gNo := (⟨.type "type", qM1, gM1, ⟨rdC, gaC⟩, ⟨aM1, ⟨_, uM1⟩, fM1⟩, (fNo.raw bNo .nil).imp fun vs H Q E h => by rw [List.append_nil]; exact h⟩ : NothingHas l.prog w K mg base C)
  have gPart := has_part (P := l.prog) (w := w) (base := base) d_parts_of_step
  have gJn := has_join d_joined T gM gNe B m_max m_min
  have gJB := has_joinB d_joined T gM gNe B m_max m_min
  have gE := has_effOf d_effect_of gChk gPart gJn
  have gE0 := has_eff0 d_effect_of gChk gPart gJn
  have TI := (⟨e1, e2, e3, e4, if_pos (beq_self_eq_true _)⟩ : EI K C)
  have gEq := (⟨gQ, _, ok_eqW (fun_mk lQ cQ kQ) T TI B, aQ, iQ, (fun_mk lQ cQ kQ).binds (ps := ["self", "other"]) fun _ _ _ _ _ _ us hl => match us, hl with | [_, _], _ => rfl, aNE⟩ : EqHasW l.prog w K mg base C)
  have gRp := (⟨gR, _, ok_repr (fun_mk lR cR kR) T, aR, iR, (fun_mk lR cR kR).binds (ps := ["self"]) fun _ _ _ _ _ _ us hl => match us, hl with | [_], _ => rfl⟩ : ReprHas l.prog w K mg base C)
  have gTh := (⟨gT, ⟨aT, iT, kT⟩, ok_then (fun_mk lT cT kT) T gNe gNv gPo gPu gPk gJB m_any⟩ : ThenHas l.prog w K mg base C)
  have gRv := (⟨gV, _, ⟨aV, iV, kV⟩, ok_revl (fun_mk lV cV kV) T gM gNe gNv gPo gPu gPk gCh, (fun_mk lV cV kV).binds (ps := ["self"]) fun _ _ _ _ _ _ us hl => match us, hl with | [_], _ => rfl⟩ : MethHas l.prog w K mg base C "reversal" 7 ["self"] _)
  have gS := PySem.W.mg_of X G aS
  have oeX0 := (⟨⟨_, _, _, _, _, _, _, _, _, _, _, _, _, _, _, xX0, rfl⟩, saX0, eCX0, tCX0, kCX0⟩ : OexC K CX0)
  have FX0 := fun_mk (st := inClass sInvalidword 0) lX0 cX0 kX0
  have TX0 := (⟨oeX0, PySem.W.mg_of X G aX0, ⟨gX0, _, iiX0, tiX0, init_ok FX0 scI_InvalidWord oeX0 nfX0 rfl (.inl rfl) (.inl rfl) (by decide) (by decide), FX0.binds (ps := ["self", "value"]) fun _ _ _ _ _ _ us hl => match us, hl with | [_, _], _ => rfl⟩, ⟨gaX0, ggX0, eCX0, hCX0⟩, nfX0, ccX0, cg, ct, moX0, PySem.W.exm_ref eCX0 hCX0 tCX0 sCX0⟩ : XcC l.prog w K mg base "InvalidWord" "value" CX0)
  have kiX0 := kit_below sSX0 tS hS
  have oeX1 := (⟨⟨_, _, _, _, _, _, _, _, _, _, _, _, _, _, _, xX1, rfl⟩, saX1, eCX1, tCX1, kCX1⟩ : OexC K CX1)
  have FX1 := fun_mk (st := inClass sInvalidnumber 0) lX1 cX1 kX1
  have TX1 := (⟨oeX1, PySem.W.mg_of X G aX1, ⟨gX1, _, iiX1, tiX1, init_ok FX1 scI_InvalidNumber oeX1 nfX1 rfl (.inl rfl) (.inl rfl) (by decide) (by decide), FX1.binds (ps := ["self", "value"]) fun _ _ _ _ _ _ us hl => match us, hl with | [_, _], _ => rfl⟩, ⟨gaX1, ggX1, eCX1, hCX1⟩, nfX1, ccX1, cg, ct, moX1, PySem.W.exm_ref eCX1 hCX1 tCX1 sCX1⟩ : XcC l.prog w K mg base "InvalidNumber" "value" CX1)
  have kiX1 := kit_below sSX1 tS hS
  have oeX2 := (⟨⟨_, _, _, _, _, _, _, _, _, _, _, _, _, _, _, xX2, rfl⟩, saX2, eCX2, tCX2, kCX2⟩ : OexC K CX2)
  have FX2 := fun_mk (st := inClass sInvalidsteps 0) lX2 cX2 kX2
  have TX2 := (⟨oeX2, PySem.W.mg_of X G aX2, ⟨gX2, _, iiX2, tiX2, init_ok FX2 scI_InvalidSteps oeX2 nfX2 rfl (.inl rfl) (.inl rfl) (by decide) (by decide), FX2.binds (ps := ["self", "index"]) fun _ _ _ _ _ _ us hl => match us, hl with | [_, _], _ => rfl⟩, ⟨gaX2, ggX2, eCX2, hCX2⟩, nfX2, ccX2, cg, ct, moX2, PySem.W.exm_ref eCX2 hCX2 tCX2 sCX2⟩ : XcC l.prog w K mg base "InvalidSteps" "index" CX2)
  have kiX2 := kit_below sSX2 tS hS
  have gItX := has_itemX (P := l.prog) (w := w) (base := base) d_is_item B Co
  have gWoX := has_wordX d_is_word gItX B
  have gStX := has_stepX d_is_step gItX B O2
  have gMyX := has_mayX (P := l.prog) (w := w) (base := base) d_may_hold_steps B Co
  have gWh2 := has_whole2 (P := l.prog) (w := w) (base := base) d_is_whole m_isinstance m_int m_bool
  have gBe2 := has_bet2 d_is_between gWh2
  have gLmX := has_limX d_is_limit gBe2 ⟨_, PySem.W.mg_of X G cLM⟩
  have gCwX := hasX_cw d_check_word gWoX TX0
  have gClX := hasX_cl d_check_limit gLmX TX1
  have gChX := hasX_chk d_check_steps gMyX gStX TX2 B
  have gEoX := hasX_eo d_effect_of gChX
  have RX := (⟨TX0, TX1, TX2, gS, kiX0, kit_val vN, kiX2, PySem.W.exm_ref eCX0 hCX0 tCX0 n10, PySem.W.exm_ref eCX0 hCX0 tCX0 n20, PySem.W.exm_ref eCX1 hCX1 tCX1 n21, m_ValueError⟩ : RaX l.prog w K mg base CX0 CX1 CX2 S)
  have RD := (⟨⟨gI, _, ⟨mkC, aI, iI, keC⟩, ok_initX (fun_mk lI cI kI) gCwX gLe gWh2 TX1, init_mk lI cI kI nI⟩, ⟨gA, _, ⟨aA, iA, kA⟩, ok_applyX (fun_mk lA cA kA) gCwX gClX, init_mk lA cA kA nA⟩, ⟨qSM, gSM, ⟨aSM, ⟨_, uSM⟩, kSM⟩, ok_ofX (fun_mk lSM cSM kSM) gEoX⟩, ⟨rdC, gaC⟩⟩ : RaD l.prog w K mg base C CX0 CX1 CX2)
  have gRa := ghas_ra d__law_raised T gM gNe RX RD gEoX B m_repr
  have gEr := ghas_er d__law_errors_right gRa gWord m_repr m_range
  have gTh0 := has_th0 (P := l.prog) (w := w) (base := base) d_is_too_high
  have gCl0 := has_cl0 d_check_limit gLmX
  have gRd0 := has_rd0 d_replaced T B gNv gPo gPu
  have gAp := (⟨gA, _, ⟨aA, iA, kA⟩, ok_apply0 (fun_mk lA cA kA) T B gCw gCl0 gTh0 gRd0 gNv gPk, init_mk lA cA kA nA⟩ : ApplyHas l.prog w K mg base C)
  have gAr := ghas_ar d__law_alike_right T TI tCE gM gNe gEq gRp gTh m_repr
  exact ok_law F T TI gM gNo gAp gNv gPo gPu gPk gCh gTh gRv gEq gPool gItems gTake gWord gE gE0 gAr gEr B m_range m_max m_min
end
end SE
open PySem PySem.W PyProof.Rows
set_option maxHeartbeats 0 in
theorem PySem.Challenge.cw_stackeffect_k12_effects_built_holds : PySem.Challenge.rw_stackeffect_k12_effects_built.Holds := by
  w_on; o_law; k_head; (case hw => w_witness2)
  k_fill
  refine SE.walkG (l := PySem.Challenge.rw_stackeffect_k12_effects_built) (n := 63) (k := 10) (x := "_law_script") (sp := SE.spLaw) rfl (by decide) rfl ⟨rfl, by decide, by decide⟩ (fun w h Y => PySem.W.kIn_of Y) ?F (fun _ _ a ns hl hS => ⟨a, ns, rfl, hS, hl, fun _ => rfl⟩)
  case F =>
    intro w mg fa h KX G hmg
    refine' SE.all_mk KX G hmg ?d_is_whole ?d_is_between ?d_is_item ?d_is_word ?d_is_step ?d_may_hold_steps ?d_is_limit ?d_check_steps ?d_check_word ?d_check_limit ?d_is_too_high ?d_least_peak ?d_replaced ?d_joined ?d_parts_of_step ?d_effect_of ?d__law_pool ?d__law_take ?d__law_items ?d__law_word ?d__law_raised ?d__law_alike_right ?d__law_errors_right ?z_isinstance ?z_str ?z_len ?z_all ?z_tuple ?z_list ?z_enumerate ?z_range ?z_abs ?z_int ?z_bool ?z_max ?z_min ?z_repr ?z_any ?z_ValueError ?cL ?cM ?cS ?cLM ?cO ?lO ?kO ?wO ?pO ?qO ?rP ?rQ ?aC ?pg ?hd ?po ?sa ?nN ?nL ?nH ?mkC ?keC ?aI ?iI ?lI ?cI ?kI ?nI ?aP0 ?bP0 ?tP0 ?uP0 ?lP0 ?cP0 ?kP0 ?aP1 ?bP1 ?tP1 ?uP1 ?lP1 ?cP1 ?kP1 ?aP2 ?bP2 ?tP2 ?uP2 ?lP2 ?cP2 ?kP2 ?aP3 ?bP3 ?tP3 ?uP3 ?lP3 ?cP3 ?kP3 ?aP4 ?bP4 ?tP4 ?uP4 ?lP4 ?cP4 ?kP4 ?rdC ?gaC ?aM0 ?uM0 ?fM0 ?lM0 ?cM0 ?kM0 ?aM1 ?uM1 ?fM1 ?lM1 ?cM1 ?kM1 ?oK ?aQ ?iQ ?lQ ?cQ ?kQ ?aNE ?e1 ?e2 ?e3 ?e4 ?aR ?iR ?lR ?cR ?kR ?aT ?iT ?lT ?cT ?kT ?aV ?iV ?lV ?cV ?kV ?aA ?iA ?lA ?cA ?kA ?nA ?aSM ?uSM ?lSM ?cSM ?kSM ?tCE ?aS ?tS ?hS ?cg ?ct ?aX0 ?xX0 ?saX0 ?gaX0 ?ggX0 ?nfX0 ?iiX0 ?tiX0 ?lX0 ?cX0 ?kX0 ?kCX0 ?eCX0 ?tCX0 ?hCX0 ?sCX0 ?sSX0 ?ccX0 ?moX0 ?aX1 ?xX1 ?saX1 ?gaX1 ?ggX1 ?nfX1 ?iiX1 ?tiX1 ?lX1 ?cX1 ?kX1 ?kCX1 ?eCX1 ?tCX1 ?hCX1 ?sCX1 ?sSX1 ?ccX1 ?moX1 ?aX2 ?xX2 ?saX2 ?gaX2 ?ggX2 ?nfX2 ?iiX2 ?tiX2 ?lX2 ?cX2 ?kX2 ?kCX2 ?eCX2 ?tCX2 ?hCX2 ?sCX2 ?sSX2 ?ccX2 ?moX2 ?vN ?n10 ?n20 ?n21 ?aL ?lL ?ckL ?kL
    (case d_is_whole => refine' SE.def_mk KX G ?a ?l ?c ?k; (case a => k_is); (case l => k_is); (case c => k_is); (case k => k_is))
    (case d_is_between => refine' SE.def_mk KX G ?a ?l ?c ?k; (case a => k_is); (case l => k_is); (case c => k_is); (case k => k_is))
    (case d_is_item => refine' SE.def_mk KX G ?a ?l ?c ?k; (case a => k_is); (case l => k_is); (case c => k_is); (case k => k_is))
    (case d_is_word => refine' SE.def_mk KX G ?a ?l ?c ?k; (case a => k_is); (case l => k_is); (case c => k_is); (case k => k_is))
    (case d_is_step => refine' SE.def_mk KX G ?a ?l ?c ?k; (case a => k_is); (case l => k_is); (case c => k_is); (case k => k_is))
    (case d_may_hold_steps => refine' SE.def_mk KX G ?a ?l ?c ?k; (case a => k_is); (case l => k_is); (case c => k_is); (case k => k_is))
    (case d_is_limit => refine' SE.def_mk KX G ?a ?l ?c ?k; (case a => k_is); (case l => k_is); (case c => k_is); (case k => k_is))
    (case d_check_steps => refine' SE.def_mk KX G ?a ?l ?c ?k; (case a => k_is); (case l => k_is); (case c => k_is); (case k => k_is))
    (case d_check_word => refine' SE.def_mk KX G ?a ?l ?c ?k; (case a => k_is); (case l => k_is); (case c => k_is); (case k => k_is))
    (case d_check_limit => refine' SE.def_mk KX G ?a ?l ?c ?k; (case a => k_is); (case l => k_is); (case c => k_is); (case k => k_is))
    (case d_is_too_high => refine' SE.def_mk KX G ?a ?l ?c ?k; (case a => k_is); (case l => k_is); (case c => k_is); (case k => k_is))
    (case d_least_peak => refine' SE.def_mk KX G ?a ?l ?c ?k; (case a => k_is); (case l => k_is); (case c => k_is); (case k => k_is))
    (case d_replaced => refine' SE.def_mk KX G ?a ?l ?c ?k; (case a => k_is); (case l => k_is); (case c => k_is); (case k => k_is))
    (case d_joined => refine' SE.def_mk KX G ?a ?l ?c ?k; (case a => k_is); (case l => k_is); (case c => k_is); (case k => k_is))
    (case d_parts_of_step => refine' SE.def_mk KX G ?a ?l ?c ?k; (case a => k_is); (case l => k_is); (case c => k_is); (case k => k_is))
    (case d_effect_of => refine' SE.def_mk KX G ?a ?l ?c ?k; (case a => k_is); (case l => k_is); (case c => k_is); (case k => k_is))
    (case d__law_pool => refine' SE.def_mk KX G ?a ?l ?c ?k; (case a => k_is); (case l => k_is); (case c => k_is); (case k => k_is))
    (case d__law_take => refine' SE.def_mk KX G ?a ?l ?c ?k; (case a => k_is); (case l => k_is); (case c => k_is); (case k => k_is))
    (case d__law_items => refine' SE.def_mk KX G ?a ?l ?c ?k; (case a => k_is); (case l => k_is); (case c => k_is); (case k => k_is))
    (case d__law_word => refine' SE.def_mk KX G ?a ?l ?c ?k; (case a => k_is); (case l => k_is); (case c => k_is); (case k => k_is))
    (case d__law_raised => refine' SE.def_mk KX G ?a ?l ?c ?k; (case a => k_is); (case l => k_is); (case c => k_is); (case k => k_is))
    (case d__law_alike_right => refine' SE.def_mk KX G ?a ?l ?c ?k; (case a => k_is); (case l => k_is); (case c => k_is); (case k => k_is))
    (case d__law_errors_right => refine' SE.def_mk KX G ?a ?l ?c ?k; (case a => k_is); (case l => k_is); (case c => k_is); (case k => k_is))
    (case z_isinstance => k_is)
    (case z_str => k_is)
    (case z_len => k_is)
    (case z_all => k_is)
    (case z_tuple => k_is)
    (case z_list => k_is)
    (case z_enumerate => k_is)
    (case z_range => k_is)
    (case z_abs => k_is)
    (case z_int => k_is)
    (case z_bool => k_is)
    (case z_max => k_is)
    (case z_min => k_is)
    (case z_repr => k_is)
    (case z_any => k_is)
    (case z_ValueError => k_is)
    (case cL => k_is)
    (case cM => k_is)
    (case cS => k_is)
    (case cLM => k_is)
    (case cO => k_is)
    (case lO => k_is)
    (case kO => exact ⟨⟨_, _, rfl, rfl⟩, ⟨_, _, rfl, rfl⟩, trivial⟩)
    (case wO => rfl)
    (case pO => k_is)
    (case qO => k_is)
    (case rP => exact ⟨_, rfl⟩)
    (case rQ => exact ⟨_, rfl⟩)
    (case aC => k_is)
    (case pg => k_is)
    (case hd => k_is)
    (case po => k_is)
    (case sa => k_is)
    (case nN => k_is)
    (case nL => k_is)
    (case nH => k_is)
    (case mkC => k_is)
    (case keC => k_is)
    (case aI => k_is)
    (case iI => k_is)
    (case lI => k_is)
    (case cI => k_is)
    (case kI => k_is)
    (case nI => k_is)
    (case aP0 => k_is)
    (case bP0 => k_is)
    (case tP0 => k_is)
    (case uP0 => k_is)
    (case lP0 => k_is)
    (case cP0 => k_is)
    (case kP0 => k_is)
    (case aP1 => k_is)
    (case bP1 => k_is)
    (case tP1 => k_is)
    (case uP1 => k_is)
    (case lP1 => k_is)
    (case cP1 => k_is)
    (case kP1 => k_is)
    (case aP2 => k_is)
    (case bP2 => k_is)
    (case tP2 => k_is)
    (case uP2 => k_is)
    (case lP2 => k_is)
    (case cP2 => k_is)
    (case kP2 => k_is)
    (case aP3 => k_is)
    (case bP3 => k_is)
    (case tP3 => k_is)
    (case uP3 => k_is)
    (case lP3 => k_is)
    (case cP3 => k_is)
    (case kP3 => k_is)
    (case aP4 => k_is)
    (case bP4 => k_is)
    (case tP4 => k_is)
    (case uP4 => k_is)
    (case lP4 => k_is)
    (case cP4 => k_is)
    (case kP4 => k_is)
    (case rdC => k_is)
    (case gaC => k_is)
    (case aM0 => k_is)
    (case uM0 => k_is)
    (case fM0 => k_is)
    (case lM0 => k_is)
    (case cM0 => k_is)
    (case kM0 => k_is)
    (case aM1 => k_is)
    (case uM1 => k_is)
    (case fM1 => k_is)
    (case lM1 => k_is)
    (case cM1 => k_is)
    (case kM1 => k_is)
    (case oK => exact ⟨⟨_, _, rfl, .inl rfl⟩, ⟨_, _, rfl, .inr rfl⟩, trivial⟩)
    (case aQ => k_is)
    (case iQ => k_is)
    (case lQ => k_is)
    (case cQ => k_is)
    (case kQ => k_is)
    (case aNE => k_is)
    (case e1 => k_is)
    (case e2 => k_is)
    (case e3 => k_is)
    (case e4 => k_is)
    (case aR => k_is)
    (case iR => k_is)
    (case lR => k_is)
    (case cR => k_is)
    (case kR => k_is)
    (case aT => k_is)
    (case iT => k_is)
    (case lT => k_is)
    (case cT => k_is)
    (case kT => k_is)
    (case aV => k_is)
    (case iV => k_is)
    (case lV => k_is)
    (case cV => k_is)
    (case kV => k_is)
    (case aA => k_is)
    (case iA => k_is)
    (case lA => k_is)
    (case cA => k_is)
    (case kA => k_is)
    (case nA => k_is)
    (case aSM => k_is)
    (case uSM => k_is)
    (case lSM => k_is)
    (case cSM => k_is)
    (case kSM => k_is)
    (case tCE => k_is)
    (case aS => k_is)
    (case tS => k_is)
    (case hS => k_is)
    (case cg => k_is)
    (case ct => k_is)
    (case aX0 => k_is)
    (case xX0 => k_is)
    (case saX0 => k_is)
    (case gaX0 => k_is)
    (case ggX0 => k_is)
    (case nfX0 => k_is)
    (case iiX0 => k_is)
    (case tiX0 => k_is)
    (case lX0 => k_is)
    (case cX0 => k_is)
    (case kX0 => k_is)
    (case kCX0 => k_is)
    (case eCX0 => k_is)
    (case tCX0 => k_is)
    (case hCX0 => k_is)
    (case sCX0 => first | rfl | k_is)
    (case sSX0 => first | rfl | k_is)
    (case ccX0 => k_is)
    (case moX0 => k_is)
    (case aX1 => k_is)
    (case xX1 => k_is)
    (case saX1 => k_is)
    (case gaX1 => k_is)
    (case ggX1 => k_is)
    (case nfX1 => k_is)
    (case iiX1 => k_is)
    (case tiX1 => k_is)
    (case lX1 => k_is)
    (case cX1 => k_is)
    (case kX1 => k_is)
    (case kCX1 => k_is)
    (case eCX1 => k_is)
    (case tCX1 => k_is)
    (case hCX1 => k_is)
    (case sCX1 => first | rfl | k_is)
    (case sSX1 => first | rfl | k_is)
    (case ccX1 => k_is)
    (case moX1 => k_is)
    (case aX2 => k_is)
    (case xX2 => k_is)
    (case saX2 => k_is)
    (case gaX2 => k_is)
    (case ggX2 => k_is)
    (case nfX2 => k_is)
    (case iiX2 => k_is)
    (case tiX2 => k_is)
    (case lX2 => k_is)
    (case cX2 => k_is)
    (case kX2 => k_is)
    (case kCX2 => k_is)
    (case eCX2 => k_is)
    (case tCX2 => k_is)
    (case hCX2 => k_is)
    (case sCX2 => first | rfl | k_is)
    (case sSX2 => first | rfl | k_is)
    (case ccX2 => k_is)
    (case moX2 => k_is)
    (case vN => k_is)
    (case n10 => k_is)
    (case n20 => k_is)
    (case n21 => k_is)
    (case aL => k_is)
    (case lL => k_is)
    (case ckL => k_is)
    (case kL => k_is)
