import PyProof.Rows.All
import Wide.All
import OpenK.AllK
import Wide.FinOn
import PyProof.EqAt
import PyProof.EqKinds
import PyProof.TupleCall
import HandS.Base
import HandS.Call
import HandS.List
import HandS.Ends
import HandS.Words
import HandS.Comp
import HandS.Dict
import HandS.Iter
import HandS.Text
import HandS.WordsList
import HandS.Defaults
import PyProof.EnumMake
import PyProof.Draws
import KE.GoesMore
import KE.KRevSl
import PyProof.ReprLen
import PyProof.ReprText
import HandS.More
import HandS.Evl
import HandS.Walk
import HandS.IsInst
import HandS.TupAny
import HandS.Style
import HandS.TupMul
import HandS.Strs
import HandS.Set
import HandS.GenBody
import HandS.GenYield
import HandS.GenCall
import HandS.GenList
import PyProof.GenComp
import HandS.Property
import HandS.ClsMeth
import HandS.MakeKwOnly
import PyProof.InstEq
import KE.KFmtOwn
import HandS.OwnEq
import HandS.FStr
import PyProof.ReprNest
import PyProof.ReprRoads
import PyProof.ReprHeadsEmpty
import PyProof.ReprReads
import KE.KeyNested
import HandS.SetKeys
import HandS.DictTup
import KE.KDictWalk
import KE.DataMinKey
import HandS.SortKw
import KE.SortKeyHeap
import HandS.Keys
import HandS.DictComp
import KE.DataMinMax
import HandS.Star
import KE.SortData
import HandS.Exc
import HandS.ExcOwn
import HandS.ExcInit
import HandS.ExcField
import HandS.ExcIs
import HandS.WordsExc
import KE.KExcIs
import HandS.Deep
import HandS.Flow
import HandS.Replace
import PyProof.CallFns
import KE.IntBitsLaws
import PyProof.ReprDict
import HandS.ListItems
import PySem.Challenge.RW_stackeffect_k89_whole_renamed_and_writte
set_option Elab.async false
set_option linter.all false
set_option maxRecDepth 100000
set_option maxHeartbeats 4000000
/-! Defs called where no repr is under way: their promise (GOk), their call, the law's head, and repr of plain data. -/
namespace SE
open PySem PySem.Spec PyProof.Rows L2

/-- the promise of a def whose caller has no repr under way -/
structure GOk (P : Program) (w : World) (K : PySem.W.Frag) (mg : Str → Option Value) (base : Heap) (k : Nat) (f : Addr) (fd : FuncData) (ps : List Str) (sp : Sp) : Prop where
  len : ∀ xs H Q E, sp xs H Q E → xs.length = ps.length
  run : ∀ (A : Around) (out : List Env) (s : Shared) (H : Hp) (args : Args) (us : List Value) (xs : List V) (Q : VK) (E : XK), A.guards = some [] → Room k A → Env0 P w K mg base A out s H →
    BindsTo s fd args (ps.zip us) → Vals xs us → sp xs H Q E → codeAny (model P w) A (.call (.ref f) args) (CR (fun _ _ _ _ _ _ => False) out P w H s Q E) s

section
variable {P : Program} {w : World} {K : PySem.W.Frag} {mg : Str → Option Value} {base : Heap}
theorem gok_of {k : Nat} {f : Addr} {nm ql : Str} {pars : Arguments} {bd : List Stmt} {sc : Scope} {dV kV doc pm cv ct oc : Value} {an od : Option Addr}
    {osl : Array (Option Value)} {N ps : List Str} {sp : Sp} (look : K.lookup f = some ⟨oc, od, .func (PySem.W.fnOf nm ql pars bd sc dV kV doc pm an cv ct), osl⟩) (hcode : PySem.W.codeIn K cv ql = true) (S : FnScope N ps sc)
    (len : ∀ xs H Q E, sp xs H Q E → xs.length = ps.length)
    (hbd : ∀ (A : Around) (out : List Env) (s : Shared) (H : Hp) (xs : List V) (Q : VK) (E : XK), A.guards = some [] → Room k (A.deeper (envOfC ql sc s.heap.objs.size f cv)) → sp xs H Q E →
      ∃ t, PSs (cxOf (fun _ _ _ _ _ _ => False) P w K mg base N ql sc f cv A out s H E) bd t ∧ t { nx := fun _ H2 => Q .non H2, rt := Q } (start N xs) H) :
    GOk P w K mg base (k + 1) f (PySem.W.fnOf nm ql pars bd sc dV kV doc pm an cv ct) ps sp := by
  constructor
  · exact len
  intro A out s H args us xs Q E hgu hroom env hbind hvals hpre
  have hlen := len _ _ _ _ hpre
  have kin : K.In s.heap := env.mod.kin.keeps fun b o z => (env.bs b o z).1
  have nolim : s.heap.NoLimit := env.mod.nolimit.keeps fun b o z => (env.bs b o z).1
  have kinds : ∀ y ∈ ps.zip us, sc.names.lookup y.1 = some .local ∨ (sc.names.lookup y.1 = some .cell ∧ ((cellsFrom (s.heap.objs.size + 1) sc.names []).lookup y.1).isSome = true) := by
    rintro ⟨n, v⟩ hy
    rcases S.par n (List.of_mem_zip hy).1 with q | q
    · exact .inl q
    · exact .inr ⟨q, PySem.W.cellsFrom_some _ _ _ (.inl q)⟩
  apply codeAny_call_function hroom.depth (kin _ _ look) rfl S.co S.gen rfl (PySem.W.codeRec_of kin hcode)
  apply hbind
  refine wpAny_newFunctionEnv_cells S.kind kinds fun ev hev s2 inc => ?_
  subst hev
  refine ⟨nolim.keeps inc.toInCall.keep, codeAny_func ?_⟩
  obtain ⟨t, der, rd⟩ := hbd A out s H xs Q E hgu (hroom.deeper _) hpre
  have J0 : Inv (cxOf (fun _ _ _ _ _ _ => False) P w K mg base N ql sc f cv A out s H E) [] (start N xs) H s2 := inv_start S hroom.hd env hlen hvals inc
  refine wpAny_mono (der.run [] s2 (start N xs) H _ J0 rd) (fun fl s3 hs => ?_) fun e s3 hs => hs
  cases fl with
  | ret u =>
    obtain ⟨v, σ3, H3, J, rv, q⟩ := hs
    exact ⟨v, H3, J.os, J.bare, J.base, J.hok, rv, q⟩
  | next =>
    obtain ⟨σ3, H3, J, q⟩ := hs
    exact ⟨V.non, H3, J.os, J.bare, J.base, J.hok, rfl, q⟩
  | brk => exact hs.elim fun _ z => z.elim fun _ z => z.2.elim
  | cont => exact hs.elim fun _ z => z.elim fun _ z => z.2.elim
theorem gok_mk {x ql : Str} {st : Stmt} {f : Addr} {fd : FuncData} {N ps : List Str} {k : Nat} {sp : Sp} (F : Fun K x ql st f fd) (S : FnScope N ps (defScope st)) (len : ∀ xs H Q E, sp xs H Q E → xs.length = ps.length)
    (hbd : ∀ (cv : Value) (A : Around) (out : List Env) (s : Shared) (H : Hp) (xs : List V) (Q : VK) (E : XK), A.guards = some [] → Room k (A.deeper (envOfC ql (defScope st) s.heap.objs.size f cv)) → sp xs H Q E →
      ∃ t, PSs (cxOf CX0 P w K mg base N ql (defScope st) f cv A out s H E).nox (defBody st) t ∧ t { nx := fun _ H2 => Q .non H2, rt := Q } (start N xs) H) : GOk P w K mg base (k + 1) f fd ps sp := by
  obtain ⟨oc, od, kV, doc, pm, an, cv, ct, osl, rfl, look, hcode⟩ := F.ex
  refine gok_of look hcode S len fun A out s H xs Q E hgu hr hpre => ?_
  obtain ⟨t, a, b⟩ := hbd cv A out s H xs Q E hgu hr hpre
  exact ⟨t, a.nox, b⟩
end

section
variable {X : Cx} {k : Nat} {f : Addr} {fd : FuncData} {ps : List Str} {sp : Sp} {x : Str} {p pos : Pos} {e : Expr} {es : List Expr} {t : TA}
theorem pe_callG (F : GOk X.prog X.w X.K X.mg X.base k f fd ps sp) (hgu : X.A.guards = some []) (hr : Room k X.A) (hg : Gl X x) (hm : X.mg x = some (.ref f)) (hk : PySem.W.keepIn X.K (.ref f) = true) (hb : Binds X.K fd ps [])
    (ha : PA X (e :: es) t) (hdb : (x == ("__debug__" : Str)) = false := by decide) (he : starEach (e :: es) X.env = (false, eval e X.env) :: starEach es X.env := by rfl) (hpl : (backTo pos (starEach es X.env)).any (·.1) = false := by rfl) :
    PE X (.Call (.Name x p) (e :: es) [] pos) (tCall sp [] (fun _ _ _ => False) t) := by
  constructor
  intro pins s σ H Q I h
  apply wpAny_Call_Name_kw
  apply ld_glob I hg hm _ hdb
  refine PySem.W.callWith_K (h₀ := X.base) I.ok.mod.kin hk (thn (ha.run pos pins s σ H _ I h) fun us s1 hh => ?_) he hpl
  obtain ⟨xs, H1, I1, r, q⟩ := hh
  refine ⟨I1.kIn, ?_⟩
  have q' : sp xs H1 Q (fun _ _ _ => False) := by rw [List.append_nil] at q; exact q
  have hl : us.length = ps.length := by rw [← r.length]; exact F.len _ _ _ _ q'
  have hb' := hb s1 us I1.kIn (by rw [List.append_nil]; exact hl)
  rw [List.append_nil] at hb'
  refine wpAny_call (codeAny_mono (F.run X.A X.stack s1 H1 ⟨us, []⟩ us xs Q _ hgu hr I1.env0 hb' r q') fun r2 s2 hq => ?_)
  cases r2 with
  | error _ => exact hq.elim
  | ok fl =>
    cases fl with
    | ret _ => exact I1.after hq
    | next => exact hq.elim
    | brk => exact hq.elim
    | cont => exact hq.elim
end

section
variable {X : Cx}
/-- repr(x), x plain data -/
def rRep (K : PySem.W.Frag) : List V → Hp → VK → Prop := fun xs H Q => ∃ (x : V) (d : PyData), xs = [x] ∧ Dp K H x d ∧ (∃ a, x = .ref a) ∧ d.showable = true ∧ d.hasDict = false ∧ d.depth ≤ 20 ∧ d.shown.length ≤ sizeLine ∧ Q (.str d.shown) H
theorem call_rep (hgu : X.A.guards = some []) (hu : X.A.units + 64 < cLine) : CallR X (.builtin "repr") (rRep X.K) := by
  intro pins s σ H xs us Q I r h
  obtain ⟨x, d, rfl, hd, ⟨a, rfl⟩, hs, hn, hdep, hz, q⟩ := h
  cases r with
  | cons r1 r2 =>
    cases r2
    cases r1
    obtain ⟨as, rd⟩ := Dp.reads I d (.ref a) (.ref a) hd rfl
    refine repr_of_reads' rd hs (PyData.noDict_hsm hn) hgu (by omega) (fun _ _ z => z) (fun h' u tk hk => ?_) hz
    exact ⟨.str d.shown, H, I.kept (t' := tk) hk, ⟨_, rfl⟩, q⟩
end
/-! ### the law's head -/
theorem lawG {P : Program} {w : World} {K : PySem.W.Frag} {mg mb : Str → Option Value} {k : Nat} {fa a : Addr} {fd : FuncData} {x : Str} {sp : Sp} {s1 : Shared} {vs : List Value} {ns : List Int}
    (kin : K.In s1.heap) (hns : s1.heap.Ns mainGlobals mg) (hbn : s1.heap.Ns builtinsNs mb) (hbb : ∀ x : Str, x ≠ "__name__" → mb x = bootBuiltins x) (nolim : s1.heap.NoLimit) (hg : s1.gens = #[])
    (hobj : s1.heap.get? a = some { cls := .type "list", data := .seq vs.toArray }) (hi : IntsAre vs ns) (hz : ns.length ≤ sizeLine) (hr : Room k callerA)
    (F : ∀ base : Heap, K.In base → base.Ns mainGlobals mg → GOk P w K mg base k fa fd [x] sp) (hbind : ∀ (s : Shared) (u : Value), BindsTo s fd ⟨[u], []⟩ [(x, u)])
    (hsp : ∀ H : Hp, SqL K H a (ns.map V.int) → sp [.ref a] H (fun v _ => v = .bl true) fun _ _ _ => False) :
    codeAny (model P w) callerA (.call (.ref fa) ⟨[.ref a], []⟩) (fun r s2 => r = .ok (.ret (.bool true)) ∧ OldK s1.heap s2.heap ∧ s2.os = s1.os ∧ AllBare s2.gens) s1 := by
  have rel := vals_ints hi
  have same := hi.length
  have go : ∀ H : Hp, (∀ b u, H b = some u → b = a ∧ K.lookup a = none ∧ ∃ o xs, u = .frz o (.lst xs)) → SqL K H a (ns.map V.int) → HOk P w H s1.heap →
      codeAny (model P w) callerA (.call (.ref fa) ⟨[.ref a], []⟩) (fun r s2 => r = .ok (.ret (.bool true)) ∧ OldK s1.heap s2.heap ∧ s2.os = s1.os ∧ AllBare s2.gens) s1 := by
    intro H only hS hok
    have free : ∀ {b : Addr}, b ≠ a → H b = none := fun {b} hb => by
      cases q : H b with
      | none => rfl
      | some u => exact absurd (only b u q).1 hb
    have freeD : ∀ {b : Addr} {o : Obj} {es : Array DictEntry} {ep : Nat}, s1.heap.get? b = some o → o.data = .dict es ep → H b = none := fun {b o es ep} e d => by
      by_cases hb : b = a
      · subst hb
        rw [hobj] at e
        cases e
        cases d
      · exact free hb
    have ns2 : ∀ {b : Addr} {m : Str → Option Value}, s1.heap.Ns b m → (hidT s1.heap H).Ns b m := by
      rintro b m ⟨o, es, ep, e, d, r⟩
      exact ⟨o, es, ep, hidT_get e (freeD e d), d, r⟩
    have kin2 : K.In (hidT s1.heap H) := by
      intro b o e
      refine hidT_get (kin b o e) ?_
      cases q : H b with
      | none => rfl
      | some u =>
        obtain ⟨eb, nk, _⟩ := only b u q
        subst eb
        rw [nk] at e
        cases e
    have mod : Mod K mg (hidT s1.heap H) := by
      refine ⟨kin2, ns2 hns, ⟨mb, ns2 hbn, hbb⟩, ?_⟩
      obtain ⟨mc, h1, h2⟩ := nolim
      exact ⟨mc, ns2 h1, h2⟩
    have env : Env0 P w K mg (hidT s1.heap H) callerA [] s1 H :=
      ⟨rfl, mod, fun b o e => of_hidT e, Nat.le_of_eq (hidT_size _ _), trivial, fun b hb => (by cases (show b ∈ ([] : List Addr) from hb)), hok, .of_eq hg⟩
    have runs := (F _ kin2 (ns2 hns)).run callerA [] s1 H ⟨[.ref a], []⟩ [.ref a] [.ref a] (fun v _ => v = .bl true) (fun _ _ _ => False) rfl hr env (hbind s1 (.ref a)) (.cons rfl .nil) (hsp H hS)
    refine codeAny_mono runs fun r s2 h => ?_
    cases r with
    | error _ => exact h.elim
    | ok fl =>
      cases fl with
      | next => exact h.elim
      | brk => exact h.elim
      | cont => exact h.elim
      | ret u =>
        obtain ⟨v, H2, os, bare, un, hok2, r2, q⟩ := h
        have q2 : v = .bl true := q
        subst q2
        obtain rfl : u = Value.bool true := r2
        refine ⟨rfl, OldK.of_keep fun b o e => ?_, os, bare⟩
        cases z : H b with
        | none => exact un.keep b o e z (fun m => by cases (show b ∈ ([] : List Addr) from m)) (fun m => by cases m)
        | some u2 =>
          obtain ⟨_, _, ob, ys, eu⟩ := only b u2 z
          subst eu
          obtain ⟨e1, _⟩ := hok b _ z
          obtain ⟨e2, _⟩ := hok2 b _ (un.frzs b ob _ z)
          rw [e] at e1
          cases e1
          exact e2
  cases hk : K.lookup a with
  | some o =>
    have e := kin a o hk
    rw [hobj] at e
    cases e
    refine go (fun _ => none) (fun b u z => nomatch z) (.inr ⟨_, vs.toArray, _, hk, rfl, rfl, rfl, by rw [List.size_toArray, same]; exact hz, by simpa using rel⟩) (fun b u z => nomatch z)
  | none =>
    have at1 : ∀ {b : Addr} {u : HO}, (if b = a then some (HO.frz { cls := .type "list", data := .seq vs.toArray } (.lst (ns.map V.int))) else none) = some u → b = a ∧ u = .frz { cls := .type "list", data := .seq vs.toArray } (.lst (ns.map V.int)) := fun {b u} z => by
      by_cases hb : b = a
      · rw [if_pos hb] at z
        cases z
        exact ⟨hb, rfl⟩
      · rw [if_neg hb] at z
        cases z
    refine go (fun b => if b = a then some (.frz { cls := .type "list", data := .seq vs.toArray } (.lst (ns.map V.int))) else none) (fun b u z => ?_) (.inl (.inr ⟨{ cls := .type "list", data := .seq vs.toArray }, if_pos rfl⟩)) (fun b u z => ?_)
    · obtain ⟨e1, e2⟩ := at1 z
      exact ⟨e1, hk, _, _, e2⟩
    · obtain ⟨e1, e2⟩ := at1 z
      subst e1
      subst e2
      exact ⟨hobj, by rw [List.length_map]; exact hz, vs, _, rel, hobj⟩
theorem walkG {l : PySem.W.OpenLaw} {n k : Nat} {q : Program} {loose : List Str} {XP : (Str → Option Value) → Heap → Prop} {YP : World → Heap → Prop} {d : DefRec} {K : Params → PySem.W.Frag} {sp : PySem.W.Frag → Sp} {x : Str}
    (hn : l.most = some n) (hn2 : n ≤ sizeLine) (hdf : d.params.defaults = []) (hr : Room k callerA) (hY : ∀ (w : World) (h : Heap), YP w h → (K w.params).In h)
    (F : ∀ (w : World) (mg : Str → Option Value) (fa : Addr) (h : Heap), (K w.params).In h → h.Ns mainGlobals mg → mg d.name = some (.ref fa) →
      ∃ fd : FuncData, (∀ (s : Shared) (u : Value), BindsTo s fd ⟨[u], []⟩ [(x, u)]) ∧ ∀ base : Heap, (K w.params).In base → base.Ns mainGlobals mg → GOk l.prog w (K w.params) mg base k fa fd [x] (sp (K w.params)))
    (hsp : ∀ (K : PySem.W.Frag) (H : Hp) (a : Addr) (ns : List Int), ns.length ≤ n → SqL K H a (ns.map V.int) → sp K [.ref a] H (fun v _ => v = .bl true) fun _ _ _ => False) :
    PySem.W.WalkO q loose XP YP l.row.toRowW d [] (fun f vs => PySem.call f vs) := by
  apply Att.attach_call hn hdf
  intro w s0 s1 mg mb fa o pm cd doc a vs ns G Y ho hd hcd hmg hobj hints hlen hg
  have kin := hY w _ Y
  obtain ⟨fd, hb, hF⟩ := F w mg fa _ kin G.T.g hmg
  exact lawG kin G.T.g G.T.b G.T.builtins G.T.nolimit hg hobj hints (Nat.le_trans hlen hn2) hr hF hb fun H hS => hsp _ H a ns hlen hS
end SE
/-! Defs by their names. -/
namespace SE
open PySem PySem.Spec PyProof.Rows L2
section
variable {P : Program} {w : World} {K : PySem.W.Frag} {mg : Str → Option Value} {base : Heap}
/-- the def st stands under its name -/
def Def (K : PySem.W.Frag) (mg : Str → Option Value) (x : Str) (st : Stmt) : Prop := ∃ f fd, Fun K x x st f fd ∧ mg x = some (.ref f)
/-- a def that keeps the promise sp stands under the name x; dvs: the values of its defaults -/
def Has (P : Program) (w : World) (K : PySem.W.Frag) (mg : Str → Option Value) (base : Heap) (x : Str) (k : Nat) (ps : List Str) (dvs : List V) (sp : Sp) : Prop :=
  ∃ f fd ds, FnOk P w K mg base CX0 k f fd ps sp ∧ mg x = some (.ref f) ∧ PySem.W.keepIn K (.ref f) = true ∧ Binds K fd ps ds ∧ Vals dvs ds ∧ ∃ st, Fun K x x st f fd
def GHas (P : Program) (w : World) (K : PySem.W.Frag) (mg : Str → Option Value) (base : Heap) (x : Str) (k : Nat) (ps : List Str) (sp : Sp) : Prop :=
  ∃ f fd, GOk P w K mg base k f fd ps sp ∧ mg x = some (.ref f) ∧ PySem.W.keepIn K (.ref f) = true ∧ Binds K fd ps []
abbrev Bx (P : Program) (w : World) (K : PySem.W.Frag) (mg : Str → Option Value) (base : Heap) (N : List Str) (x : Str) (st : Stmt) (f : Addr) (cv : Value) (A : Around) (out : List Env) (s : Shared) (H : Hp) (E : XK) : Cx :=
  (cxOf CX0 P w K mg base N x (defScope st) f cv A out s H E).nox
theorem has_of {x : Str} {st : Stmt} {N ps : List Str} {k : Nat} {sp : Sp} (D : Def K mg x st) (S : FnScope N ps (defScope st))
    (hb : ∀ (kV doc pm : Value) (an : Option Addr) (cv ct : Value) (us : List Value), us.length = ps.length → bindArgs (PySem.W.fnOf x x (defArgs st) (defBody st) (defScope st) .none kV doc pm an cv ct) ⟨us, []⟩ = pure (ps.zip us))
    (len : ∀ xs H Q E, sp xs H Q E → xs.length = ps.length)
    (hbd : ∀ (f : Addr) (cv : Value) (A : Around) (out : List Env) (s : Shared) (H : Hp) (xs : List V) (Q : VK) (E : XK), Room k (A.deeper (envOfC x (defScope st) s.heap.objs.size f cv)) → sp xs H Q E →
      ∃ t, PSs (Bx P w K mg base N x st f cv A out s H E) (defBody st) t ∧ t { nx := fun _ H2 => Q .non H2, rt := Q } (start N xs) H) : Has P w K mg base x (k + 1) ps [] sp := by
  obtain ⟨f, fd, F, hm⟩ := D
  exact ⟨f, fd, [], F.ok S len fun cv A out s H xs Q E hr h => hbd f cv A out s H xs Q E hr h, hm, F.kp, F.binds hb, .nil, st, F⟩
theorem ghas_of {x : Str} {st : Stmt} {N ps : List Str} {k : Nat} {sp : Sp} (D : Def K mg x st) (S : FnScope N ps (defScope st))
    (hb : ∀ (kV doc pm : Value) (an : Option Addr) (cv ct : Value) (us : List Value), us.length = ps.length → bindArgs (PySem.W.fnOf x x (defArgs st) (defBody st) (defScope st) .none kV doc pm an cv ct) ⟨us, []⟩ = pure (ps.zip us))
    (len : ∀ xs H Q E, sp xs H Q E → xs.length = ps.length)
    (hbd : ∀ (f : Addr) (cv : Value) (A : Around) (out : List Env) (s : Shared) (H : Hp) (xs : List V) (Q : VK) (E : XK), A.guards = some [] → Room k (A.deeper (envOfC x (defScope st) s.heap.objs.size f cv)) → sp xs H Q E →
      ∃ t, PSs (Bx P w K mg base N x st f cv A out s H E) (defBody st) t ∧ t { nx := fun _ H2 => Q .non H2, rt := Q } (start N xs) H) : GHas P w K mg base x (k + 1) ps sp := by
  obtain ⟨f, fd, F, hm⟩ := D
  exact ⟨f, fd, gok_mk F S len fun cv A out s H xs Q E hg hr h => hbd f cv A out s H xs Q E hg hr h, hm, F.kp, F.binds hb⟩
theorem Has.mono {x : Str} {j k : Nat} {ps : List Str} {dvs : List V} {sp : Sp} (h : Has P w K mg base x j ps dvs sp) (hk : j ≤ k) : Has P w K mg base x k ps dvs sp := by
  obtain ⟨f, fd, ds, F, r⟩ := h
  exact ⟨f, fd, ds, F.mono hk, r⟩
theorem Has.fun {x : Str} {k : Nat} {ps : List Str} {dvs : List V} {sp : Sp} {st : Stmt} (h : Has P w K mg base x k ps dvs sp) (D : Def K mg x st) : ∃ f fd, FnOk P w K mg base CX0 k f fd ps sp ∧ mg x = some (.ref f) ∧ PySem.W.keepIn K (.ref f) = true ∧ Fun K x x st f fd := by
  obtain ⟨f, fd, ds, G, hm, hk, hb, hd, st2, F2⟩ := h
  obtain ⟨g, fe, F, hg⟩ := D
  have e : f = g := by
    rw [hm] at hg
    cases hg
    rfl
  subst e
  have e2 : fd = fe := by
    obtain ⟨_, _, _, _, _, _, _, _, _, _, l1, _⟩ := F.ex
    obtain ⟨_, _, _, _, _, _, _, _, _, _, l2, _⟩ := F2.ex
    rw [l1] at l2
    cases l2
    rfl
  subst e2
  exact ⟨f, fd, G, hm, hk, F⟩
end
section
variable {X : Cx} {k : Nat} {ps : List Str} {sp : Sp} {x : Str} {p pos : Pos} {e : Expr} {es : List Expr} {t : TA} {dvs : List V}
theorem pe_has (h : Has X.prog X.w X.K X.mg X.base x k ps dvs sp) (hr : Room k X.A) (ha : PA X (e :: es) t) (hg : Gl X x := by rfl) (hdb : (x == ("__debug__" : Str)) = false := by decide)
    (he : starEach (e :: es) X.env = (false, eval e X.env) :: starEach es X.env := by rfl) (hpl : (backTo pos (starEach es X.env)).any (·.1) = false := by rfl) : PE X (.Call (.Name x p) (e :: es) [] pos) (tCall sp dvs E0 t) := by
  obtain ⟨f, fd, ds, F, hm, hk, hb, hd, _⟩ := h
  exact pe_call F hr hg hm hk hb hd pass0 ha hdb he hpl
theorem pe_ghas (h : GHas X.prog X.w X.K X.mg X.base x k ps sp) (hgu : X.A.guards = some []) (hr : Room k X.A) (ha : PA X (e :: es) t) (hg : Gl X x := by rfl) (hdb : (x == ("__debug__" : Str)) = false := by decide)
    (he : starEach (e :: es) X.env = (false, eval e X.env) :: starEach es X.env := by rfl) (hpl : (backTo pos (starEach es X.env)).any (·.1) = false := by rfl) : PE X (.Call (.Name x p) (e :: es) [] pos) (tCall sp [] E0 t) := by
  obtain ⟨f, fd, F, hm, hk, hb⟩ := h
  exact pe_callG F hgu hr hg hm hk hb ha hdb he hpl
end
/-! ### heaps -/
theorem Same.tup {K : PySem.W.Frag} {H H' : Hp} {a : Addr} {xs : List V} (e : Same H H') (h : SqT K H a xs) : SqT K H' a xs := by
  rcases h with (h | ⟨o, h⟩) | h
  · exact .inl (.inl (e _ _ h))
  · exact .inl (.inr ⟨o, e _ _ h⟩)
  · exact .inr h
theorem Same.new {H : Hp} {p : Addr} {o : HO} (h : H p = none) : Same H (upd H p o) := fun b u z => by
  rw [upd_ne (ne_of_none z h)]
  exact z
/-- all but what stands at p -/
def But (p : Addr) (H H' : Hp) : Prop := ∀ b o, b ≠ p → H b = some o → H' b = some o
theorem But.refl (p : Addr) (H : Hp) : But p H H := fun _ _ _ h => h
theorem But.trans {p : Addr} {H H1 H2 : Hp} (a : But p H H1) (b : But p H1 H2) : But p H H2 := fun c o n h => b c o n (a c o n h)
theorem But.of {p : Addr} {H H1 : Hp} (a : Same H H1) : But p H H1 := fun c o _ h => a c o h
theorem But.at {p : Addr} {H : Hp} {o : HO} : But p H (upd H p o) := fun c u n h => by
  rw [upd_ne n]
  exact h
/-- what H does not know may change -/
theorem But.free {p q : Addr} {H H1 : Hp} {o : HO} (a : But p H H1) (h : H q = none) : But p H (upd H1 q o) := fun c u n z => by
  rw [upd_ne (ne_of_none z h)]
  exact a c u n z
theorem Same.free2 {q : Addr} {H H1 : Hp} {o : HO} (a : Same H H1) (h : H q = none) : Same H (upd H1 q o) := fun c u z => by
  rw [upd_ne (ne_of_none z h)]
  exact a c u z
theorem But.none {p q : Addr} {H H1 : Hp} (a : But p H H1) (n : q ≠ p) (h : H1 q = Option.none) : H q = Option.none := by
  cases z : H q with
  | none => rfl
  | some o =>
    rw [a q o n z] at h
    cases h
/-! ### the drawn numbers -/
/-- a pool: two numbers -/
structure Pool (H : Hp) (p : Addr) : Prop where
  ex : ∃ m s : Int, H p = some (.lst [.int m, .int s]) ∧ 0 ≤ m ∧ 0 ≤ s ∧ s < 2147483647
theorem Pool.ne {H : Hp} {p t : Addr} {xs : List V} (h : Pool H p) (ht : H t = some (.tup xs)) : t ≠ p := by
  obtain ⟨m, s, e, _⟩ := h.ex
  intro z
  rw [z, e] at ht
  cases ht
theorem Pool.free {H : Hp} {p q : Addr} (h : Pool H p) (hq : H q = none) : q ≠ p := by
  obtain ⟨m, s, e, _⟩ := h.ex
  intro z
  rw [z, e] at hq
  cases hq
theorem Pool.same {H H' : Hp} {p : Addr} (h : Pool H p) (s : Same H H') : Pool H' p := by
  obtain ⟨m, n, e, r⟩ := h.ex
  exact ⟨m, n, s _ _ e, r⟩
theorem Pool.upd {H : Hp} {p q : Addr} {o : HO} (h : Pool H p) (n : q ≠ p) : Pool (L2.upd H q o) p := by
  obtain ⟨m, k, e, r⟩ := h.ex
  exact ⟨m, k, by rw [upd_ne (Ne.symm n)]; exact e, r⟩
end SE
/-! enumerate(t) and t[::-1] of a tuple. -/
namespace SE
open PySem PySem.Spec PyProof.Rows L2
section
open Sem (wp)
open AutoSeq1 (wpAny_loadPart')
theorem meets_enum_newT (t : Addr) (items : Array Value) (n : Nat) (dct : Option Addr) (sl : Array (Option Value)) :
    Meets (Builtin.«enumerate.__new__» ⟨[.type "enumerate", .ref t], []⟩) (fun _ R s => s.heap.get? t = some { cls := .type "tuple", dict := dct, data := .seq items n, slots := sl } ∧
      R (.ok (.ret (.ref (s.heap.push { cls := .type "tuple_iterator", data := .fields #[.ref t, .int 0 0] }).objs.size)))
        { s with heap := (s.heap.push { cls := .type "tuple_iterator", data := .fields #[.ref t, .int 0 0] }).push { cls := .type "enumerate", data := .fields #[.none, .bool false, .ref s.heap.objs.size, rawInt 0, .none, .none] } }) := by
  refine .of_wp fun prog w A R s h => ?_
  obtain ⟨hp, g, d, tk, os⟩ := s
  obtain ⟨ht, h⟩ := h
  have hsub := sub_enumerate
  have hT : Heap.IsTuple (Shared.heap ⟨hp, g, d, tk, os⟩) t items := ⟨_, ht, rfl, n, rfl⟩
  wp_walk using wpAny_loadPart' ht
  refine wpAny_stack_any fun st => wpAny_pure ?_
  split
  · rename_i c _ _ _ _ _
    cases (c == Value.type "enumerate")
    · wp_walk using wpAny_loadPart' ht, wpAny_pyIter_tuple hT
      exact ⟨_, rfl, h⟩
    · wp_walk using wpAny_loadPart' ht, wpAny_pyIter_tuple hT
      exact ⟨_, rfl, h⟩
  · wp_walk using wpAny_loadPart' ht, wpAny_pyIter_tuple hT
    exact ⟨_, rfl, h⟩
end
section
variable {prog : Program} {w : World} {A : Around} {E : Value → Shared → Prop} {s : Shared}
theorem call_enumT {t : Addr} {items : Array Value} {Q : Value → Shared → Prop} (hT : s.heap.IsTuple t items)
    (h : ∀ h', IsEnum h' (s.heap.objs.size + 1) s.heap.objs.size 0 .none → h'.IsTupleIter s.heap.objs.size t 0 → (∀ b o, s.heap.get? b = some o → h'.get? b = some o) → Q (.ref (s.heap.objs.size + 1)) { s with heap := h' }) :
    wpAny (model prog w) A (call (.type "enumerate") [.ref t]) Q E s := by
  obtain ⟨⟨c, dct, dt, sl⟩, ht, hc, n, hd⟩ := hT
  simp only at hc hd
  subst hc hd
  refine callType_new F.called_enumerate (by decide) (F.typeCall_enumerate_1 _) (F.newCall_enumerate_1 _) (fun obj => F.args_object_init_2 obj _) F.entry_enumerate_new (meets_enum_newT t items n dct sl) ⟨ht, ?_⟩
  have hz : (s.heap.push { cls := .type "tuple_iterator", data := .fields #[.ref t, .int 0 0] }).objs.size = s.heap.objs.size + 1 := Heap.size_push ..
  show _ ∧ _
  rw [hz]
  have he : IsEnum ((s.heap.push { cls := .type "tuple_iterator", data := .fields #[.ref t, .int 0 0] }).push
      { cls := .type "enumerate", data := .fields #[.none, .bool false, .ref s.heap.objs.size, rawInt 0, .none, .none] }) (s.heap.objs.size + 1) s.heap.objs.size 0 .none := by
    have z := Heap.get?_push_size (s.heap.push { cls := .type "tuple_iterator", data := .fields #[.ref t, .int 0 0] })
      (o := { cls := .type "enumerate", data := .fields #[.none, .bool false, .ref s.heap.objs.size, rawInt 0, .none, .none] }) rfl
    rw [hz] at z
    exact z
  exact ⟨⟨_, he, rfl⟩, h _ he ⟨_, Heap.get?_push_of_some _ (Heap.get?_push_size _ rfl), rfl, rfl⟩ fun b o x => Heap.get?_push_of_some _ (Heap.get?_push_of_some _ x)⟩
end
/-- the tuple at a, each item in a new pair -/
def ItE (K : PySem.W.Frag) (a : Addr) : It :=
  ⟨fun i H => ∃ (xs : List V) (x : V), SqT K H a xs ∧ xs[i]? = some x, fun i H v H' => ∃ T x, v = .ref T ∧ H T = none ∧ H' = upd H T (.tup [.int (i : Nat), x]) ∧ ∀ xs, SqT K H a xs → xs[i]? = some x, fun i H => ∃ xs : List V, SqT K H a xs ∧ xs.length ≤ i⟩
theorem turn_enumT {P : Program} {w : World} {K : PySem.W.Frag} {elts : List Expr} {kk : Nat} {tpos : Pos} (a e it : Addr) :
    Turn P w K (.Tuple elts kk tpos) (ItE K a) [e, it] e (fun i h => (∃ old, IsEnum h e it ((i : Nat) : Int) old) ∧ h.IsTupleIter it a i ∧ e ≠ it ∧ a ≠ it ∧ a ≠ e) where
  mem := by simp
  obj := fun i h st b hb => by
    obtain ⟨⟨old, he⟩, ⟨o, ho, hc, hd⟩, _⟩ := st
    have ee : b = e ∨ b = it := by simpa using hb
    rcases ee with z | z
    · rw [z]
      exact ⟨_, he, fun v q => nomatch q⟩
    · rw [z]
      exact ⟨o, ho, fun v q => by rw [hd] at q; cases q⟩
  keep := fun i h h' st k => by
    obtain ⟨⟨old, he⟩, hi, hne⟩ := st
    exact ⟨⟨old, k e (by simp) _ he⟩, (let ⟨o, ho, r⟩ := hi; ⟨o, k it (by simp) o ho, r⟩), hne⟩
  item := by
    intro X hP hw hK hc i pins s σ H E I hf st hg
    subst hP hw hK
    obtain ⟨⟨old, he⟩, hit, hne, hai, hae⟩ := st
    obtain ⟨xs, x, hq, hx⟩ := hg
    obtain ⟨its, rv, p, hz⟩ := I.tuple hq
    obtain ⟨u, hu, ru⟩ := rv.get hx
    have hel : e < s.heap.objs.size := Heap.lt_size he
    have hil : it < s.heap.objs.size := by
      obtain ⟨_, q, _⟩ := hit
      exact Heap.lt_size q
    have hlt : i < its.toArray.size := by
      rw [List.size_toArray, ← rv.length]
      exact (List.getElem?_eq_some_iff.mp hx).1
    have D : Draws X.prog X.w X.A.in1 it [it, a] its.toArray.size (fun j v => its.toArray[j]? = some v) (fun j h => h.IsTupleIter it a j ∧ h.IsTuple a its.toArray) := Draws.tuple (A := X.A.in1) (I.ok.hd hc) it a hai its.toArray
    refine wpAny_pyNext_enum_itemD D he ⟨hit, p⟩ hlt hne (by simp [Ne.symm hae, hne]) fun v h1 tk hv ho hit1 hT hsz hk => ?_
    have ev : v = u := by
      have z : some v = some u := by rw [← hv]; simpa using hu
      exact Option.some.inj z
    subst ev
    refine ⟨_, rfl, wpAny_letOwnedTupleGo_enum (s := { s with heap := h1, toks := tk + 1 }) ho fun h2 he2 sb => ?_⟩
    have hT2 : h2.get? s.heap.objs.size = some { cls := .type "tuple", data := .seq #[.int i tk, v] } := (sb.2 _ (Nat.ne_of_gt hel)).trans hT
    have new : ObjOk X.prog X.w (upd H s.heap.objs.size (.tup [.int (i : Nat), x])) h2 s.heap.objs.size (.tup [.int (i : Nat), x]) :=
      ⟨by show 2 ≤ sizeLine; decide, [.int i tk, v], .cons ⟨_, rfl⟩ (.cons ru .nil), ⟨_, hT2, rfl, _, rfl⟩⟩
    have J : Inv X pins σ (upd H s.heap.objs.size (.tup [.int (i : Nat), x])) { s with heap := h2, toks := tk + 1 } :=
      I.turnedNew (ch := [e, it]) (fun b ob hb q => (sb.2 b (fun z => hb (by simp [z]))).trans (hk b ob (fun z => hb (by simp [z])) (fun z => hb (by simp [z])) q)) hf (Nat.le_refl _) new
    refine ⟨.ref s.heap.objs.size, _, J, rfl, ⟨_, x, rfl, I.hok.fresh (Nat.le_refl _), rfl, fun ys hy => by rw [I.tuple_inj hy hq]; exact hx⟩, ⟨⟨v, ?_⟩, ?_, hne, hai, hae⟩, fun b hb => ?_⟩
    · have e1 : ((i + 1 : Nat) : Int) = (i : Int) + 1 := by omega
      rw [e1]
      exact he2
    · obtain ⟨o, ho2, r⟩ := hit1.1
      exact ⟨o, (sb.2 it (Ne.symm hne)).trans ho2, r⟩
    · have hb2 : b < s.heap.objs.size := by
        have ee : b = e ∨ b = it := by simpa using hb
        rcases ee with z | z
        · rw [z]; exact hel
        · rw [z]; exact hil
      rw [upd_ne (Nat.ne_of_lt hb2)]
      exact (hf b hb).1
  done := by
    intro X hP hw hK hc i pins s σ H E I hf st hg
    subst hP hw hK
    obtain ⟨⟨old, he⟩, hit, hne, hai, hae⟩ := st
    obtain ⟨xs, hq, hx⟩ := hg
    obtain ⟨its, rv, p, hz⟩ := I.tuple hq
    obtain ⟨f0, f1, f2, f3, f4, f5⟩ := hf it (by simp)
    have hl := rv.length
    have D : Draws X.prog X.w X.A.in1 it [it, a] i (fun j v => its.toArray[j]? = some v) (fun j h => j = i ∧ h.IsTupleIter it a i ∧ h.IsTuple a its.toArray ∧ its.toArray.size ≤ i) := by
      have D0 := Draws.tuple (prog := X.prog) (w := X.w) (A := X.A.in1) (I.ok.hd hc) it a hai its.toArray
      refine ⟨fun j h z => D0.live i h ⟨z.2.1, z.2.2.1⟩, fun j h h' z k => ⟨z.1, (D0.frame i h h' ⟨z.2.1, z.2.2.1⟩ k).1, (D0.frame i h h' ⟨z.2.1, z.2.2.1⟩ k).2, z.2.2.2⟩, fun j s Q E hj z k => ?_, fun s Q E z k => ?_⟩
      · exact absurd z.1 (Nat.ne_of_lt hj)
      · exact wpAny_nextOf_tuple_end (I.ok.hd hc) z.2.1 z.2.2.1 (Array.getElem?_eq_none z.2.2.2) k
    exact wpAny_pyNext_enum_endD D he ⟨rfl, hit, p, by rw [List.size_toArray]; omega⟩ fun h' eb => ⟨rfl, I.turned (t' := s.toks) (fun b o hb q => eb b o hb q) f0 f1 f3 f4 f5⟩
  self := fun A i s Q E st h => let ⟨⟨_, he⟩, _⟩ := st; wpAny_pyIter_enum he h
def iEnumT (K : PySem.W.Frag) (ta : TA) : TI := fun σ H R => ta σ H fun vs H1 => ∃ a xs, vs = [.ref a] ∧ SqT K H1 a xs ∧ R (ItE K a) H1
theorem pi_enumT {X : Cx} {e : Expr} {ta : TA} {p pos tpos : Pos} {elts : List Expr} {kk : Nat} (hg : Gl X "enumerate") (hm : X.mg "enumerate" = none) (ha : PA X [e] ta) (hs : starEach [e] X.env = [(false, eval e X.env)] := by rfl) :
    PI X (.Tuple elts kk tpos) (.Call (.Name "enumerate" p) [e] [] pos) (iEnumT X.K ta) := by
  constructor
  intro pins s σ H R I h
  refine Call_ (ld_blt I hg hm boot_enumerate (PyProof.Rows.callWith_type1 (thn (ha.run pos pins s σ H _ I h) fun us s1 hh => ?_) hs rfl))
  obtain ⟨vs, H1, I1, r1, a, xs, ex, hq, q⟩ := hh
  subst ex
  cases r1 with
  | cons r rr =>
    cases rr
    cases r
    obtain ⟨its, rv, p2, hz⟩ := I1.tuple hq
    refine call_enumT p2 fun h2 he hit hk => wpAny_pyIter_enum he ?_
    have I2 : Inv X pins σ H1 { s1 with heap := h2 } := I1.kept (t' := s1.toks) hk
    have hlt : a < s1.heap.objs.size := p2.lt
    refine ⟨s1.heap.objs.size + 1, [s1.heap.objs.size + 1, s1.heap.objs.size], _, _, H1, rfl, I2, turn_enumT a (s1.heap.objs.size + 1) s1.heap.objs.size, ⟨⟨.none, he⟩, hit, Nat.succ_ne_self _, Nat.ne_of_lt hlt, Nat.ne_of_lt (Nat.lt_succ_of_lt hlt)⟩, fun b hb => ?_, q⟩
    have ee : b = s1.heap.objs.size + 1 ∨ b = s1.heap.objs.size := by simpa using hb
    have hle : s1.heap.objs.size ≤ b := by
      rcases ee with z | z
      · rw [z]; exact Nat.le_add_right _ _
      · rw [z]; exact Nat.le_refl _
    exact I1.fpOk hle (I1.hok.fresh hle)
/-! ### t[::-1] -/
section
variable {prog : Program} {w : World} {A : Around} {E : Value → Shared → Prop} {s : Shared}
theorem back_pick (xs : Array Value) (n : Nat) (hn : n = xs.size) : (List.range n).filterMap (fun (m : Nat) => xs[(((n : Int) - 1) + (m : Int) * (-1)).toNat]?) = xs.toList.reverse := by
  subst hn
  have e : (fun (m : Nat) => xs[(((xs.size : Nat) : Int) - 1 + (m : Int) * (-1)).toNat]?) = fun m => xs[xs.size - 1 - m]? := by
    funext m
    have z : (((xs.size : Nat) : Int) - 1 + (m : Int) * (-1)).toNat = xs.size - 1 - m := by omega
    rw [z]
  rw [e]
  have a := PySem.W.krv_pick xs
  have b : PySem.slicePick xs none none (some (-1)) = ((List.range xs.size).filterMap fun m => xs[xs.size - 1 - m]?).toArray := by
    unfold PySem.slicePick
    rw [PySem.W.krv_bounds]
    show ((PySem.sliceRange ((xs.size : Int) - 1) (-1) (-1)).filterMap (xs[·]?)).toArray = _
    rw [PySem.W.krv_sliceRange, List.filterMap_map]
    rfl
  have c := a.symm.trans b
  have d := congrArg Array.toList c
  exact d.symm
theorem applied_back {sl : Addr} {vs : Value} {n : Nat} {Q : Int × Int × Nat → Shared → Prop} (hs : s.heap.IsSliceOf sl .none .none vs) (pv : IsPart vs (some (-1)))
    (h : Q ((n : Int) - 1, -1, n) s) : wpAny (model prog w) A (Builtin.Slice.sliceApplied (.ref sl) (pure (n : Int))) Q E s := by
  obtain ⟨os, hos, hcs, hds⟩ := id hs
  unfold Builtin.Slice.sliceApplied Builtin.Slice.sliceFields
  refine wpAny_bind (wpAny_bind (wpAny_field hos hds (x := .none) rfl (wpAny_bind (wpAny_field hos hds (x := .none) rfl (wpAny_bind (wpAny_field hos hds (x := vs) rfl (wpAny_pure ?_)))))))
  refine wpAny_bind (HT.slicePart_ pv ?_)
  show wpAny _ _ (if ((-1 : Int) == 0) = true then _ else _) _ _ s
  rw [if_neg (by decide)]
  refine wpAny_bind (HT.slicePart_ .none (wpAny_bind (HT.slicePart_ .none (wpAny_bind (wpAny_pure ?_)))))
  show wpAny _ _ (pure ((n : Int) - 1, (-1 : Int), Builtin.Slice.slicePlaces ((n : Int) - 1) (-1) (-1))) _ _ s
  have e : Builtin.Slice.slicePlaces ((n : Int) - 1) (-1) (-1) = n := by
    unfold Builtin.Slice.slicePlaces
    rw [if_neg (by decide)]
    by_cases hn : (n : Int) - 1 > -1
    · rw [if_pos hn, show (- -1 : Int) = 1 by decide, Int.ediv_one]
      omega
    · rw [if_neg hn]
      omega
  rw [e]
  exact wpAny_pure h
theorem item_back {t sl : Addr} {items : Array Value} {vs : Value} {Q : Value → Shared → Prop} (ht : IsTup s.heap t items) (hs : s.heap.IsSliceOf sl .none .none vs) (pv : IsPart vs (some (-1)))
    (h : Q (.ref s.heap.objs.size) { s with heap := s.heap.push { cls := .type "tuple", data := .seq items.toList.reverse.toArray } }) (hsz : items.size ≤ sizeLine) : wpAny (model prog w) A (getItem (.ref t) (.ref sl)) Q E s := by
  have hok : sizeOk (.seq items.toList.reverse.toArray) := by
    show items.toList.reverse.toArray.size ≤ sizeLine
    rw [List.size_toArray, List.length_reverse, Array.length_toList]
    exact hsz
  obtain ⟨os, hos, hcs, hds⟩ := id hs
  have hTs : s.TypeIs (.ref sl) "slice" := ⟨os, hos, hcs⟩
  unfold getItem
  try with_reducible refine wpAny_holding ?_
  first | refine wpAny_bind (wpAny_pure ?_) | skip
  refine wpAny_bind (wpAny_sequenceKey ht.typeIs (by decide) ?_)
  refine wpAny_bind (wpAny_callSpecial?_slot (name := Str.ofString "__getitem__") ht.typeIs PyProof.Rows.slot_tuple_getitem (wpAny_call_entry PyProof.Rows.slot_tuple_getitem ht.typeIs entry_tuple_getitem ?_ (args_tuple_getitem _ _)))
  show wpAny _ _ (Builtin.Tuple.tupleItemsOf (.ref t) >>= _) _ _ s
  refine wpAny_bind (tupleItemsOf_ ht ?_)
  refine wpAny_bind (wpAny_typeOf hTs ?_)
  rw [if_pos (by decide)]
  refine wpAny_bind (applied_back hs pv ?_)
  have hno : ¬ ((((items.size : Int) - 1) == 0 && (-1 : Int) == 1 && items.size == items.size) = true) := by
    intro q
    rw [Bool.and_eq_true, Bool.and_eq_true] at q
    exact absurd q.1.2 (by decide)
  show wpAny _ _ (if (((items.size : Int) - 1) == 0 && (-1 : Int) == 1 && items.size == items.size) = true then _ else _) _ _ s
  rw [if_neg hno, back_pick items items.size rfl]
  first
    | exact wpAny_bind (m := Builtin.Tuple.tupleExact _) (wpAny_newObj_type (wpAny_pure ⟨_, rfl, wpAny_pure h⟩) hok)
    | exact wpAny_bind (m := Builtin.Tuple.tupleExact _) (wpAny_newObj_type (wpAny_bind (wpAny_pure (wpAny_pure ⟨_, rfl, wpAny_pure h⟩))) hok)
    | exact wpAny_bind (wpAny_bind (m := Builtin.Tuple.tupleExact _) (wpAny_newObj_type (wpAny_pure (wpAny_pure ⟨_, rfl, wpAny_pure h⟩)) hok))
    | exact wpAny_bind (wpAny_bind (m := Builtin.Tuple.tupleExact _) (wpAny_newObj_type (wpAny_pure ⟨_, rfl, wpAny_pure h⟩) hok))
end
def tRevT (K : PySem.W.Frag) (te : TE) : TE := fun σ H Q => te σ H fun x H1 => ∃ a xs, x = .ref a ∧ SqT K H1 a xs ∧ ∀ p, H1 p = none → Q (.ref p) (upd H1 p (.tup xs.reverse))
theorem pe_revT {X : Cx} {e : Expr} {te : TE} {k : Nat} {p1 p2 p3 pos : Pos} (he : PE X e te) : PE X (.Subscript e (.Slice none none (some (.UnaryOp .USub (.Constant (.int 1) k p1) p2)) p3) pos) (tRevT X.K te) := by
  constructor
  intro pins s σ H Q I h
  refine Subscript_ (thn (he.run pins s σ H _ I h) fun v s1 hh => ?_)
  obtain ⟨x, H1, I1, r1, a, xs, ex, hx, q⟩ := hh
  subst ex
  cases r1
  have hst : PO X (some (.UnaryOp .USub (.Constant (.int 1) k p1) p2)) (tPart (tUn (rU fun i => .int (-i)) (tC (.int 1)))) := po_some (pe_un un_neg pe_int)
  refine wpAny_Slice (thn (po_none.run pins s1 σ H1 (fun o H2 => o = none ∧ H2 = H1) I1 ⟨rfl, rfl⟩) fun vl s2 hl => ?_)
  obtain ⟨l, H2, I2, pl, el, e2⟩ := hl
  subst el e2
  refine thn (po_none.run pins s2 σ H2 (fun o H3 => o = none ∧ H3 = H2) I2 ⟨rfl, rfl⟩) fun vu s3 hu => ?_
  obtain ⟨u, H3, I3, pu, eu, e3⟩ := hu
  subst eu e3
  refine thn (hst.run pins s3 σ H3 (fun o H4 => o = some (-1) ∧ H4 = H3) I3 ⟨1, rfl, -1, rfl, rfl, rfl⟩) fun vs s4 ho => ?_
  obtain ⟨o, H4, I4, ps, eo, e4⟩ := ho
  subst eo e4
  cases pl
  cases pu
  have I5 : Inv X pins σ H4 { s4 with heap := s4.heap.push { cls := .type "slice", data := .fields #[.none, .none, vs] } } := I4.kept (t' := s4.toks) fun b ob q => Heap.get?_push_of_some _ q
  obtain ⟨its, r, ht, hz⟩ := I5.tuple hx
  have hlen := r.length
  show wpAny (model X.prog X.w) X.A (subscriptTail e (.Slice none none (some (.UnaryOp .USub (.Constant (.int 1) k p1) p2)) p3) (.ref a) (.ref s4.heap.objs.size)) (EP X pins σ Q) X.xe { s4 with heap := s4.heap.push { cls := .type "slice", data := .fields #[.none, .none, vs] } }
  refine tail_any (ops := [.ref a, .ref s4.heap.objs.size]) ht.typeIs (PyProof.Rows.slot_tuple_getitem.lookup) ?_ (by with_unfolding_all rfl)
  refine item_back ht (Heap.IsSliceOf.new _ .none .none vs) ps ?_ (by rw [List.size_toArray]; omega)
  refine ⟨.ref _, _, I5.laid (t' := s4.toks) (o := .tup xs.reverse) (fun b ob q => Heap.get?_push_of_some _ q) (Nat.le_refl _) ?_, rfl, q _ (I5.hok.fresh (Nat.le_refl _))⟩
  exact ⟨by rw [List.length_reverse]; exact hz, _, r.reverse, IsTup.new _ _⟩
end SE
/-! Plain data: texts, steps; when they are equal, how they are shown. -/
namespace SE
open PySem PySem.Spec PyProof.Rows L2
/-- a text that is an item -/
structure Item (z : Str) : Prop where
  pos : 1 ≤ z.length
  most : z.length ≤ 8
  low : ∀ c ∈ z.cps.toList, 97 ≤ c ∧ c ≤ 122
/-- data that may be compared and shown: its depth, its weight -/
structure Nice (k B : Nat) (d : PyData) : Prop where
  lay : d.canLay0 = true
  dep : d.depth ≤ k
  sh : d.showable = true
  nd : d.hasDict = false
  ish : d.intsShort 13 = true
  wt : d.weight ≤ B
theorem Nice.mono {k j B C : Nat} {d : PyData} (h : Nice k B d) (hk : k ≤ j) (hB : B ≤ C) : Nice j C d := ⟨h.lay, Nat.le_trans h.dep hk, h.sh, h.nd, h.ish, Nat.le_trans h.wt hB⟩
theorem nice_str {z : Str} {B : Nat} (hc : ∀ c ∈ z.cps.toList, c < 0x110000) (hB : z.length ≤ B) : Nice 0 B (.str z) := by
  refine ⟨?_, ?_, ?_, ?_, ?_, ?_⟩
  · simp only [PyData.canLay0, PyData.strOk]
    rw [← Array.all_toList, List.all_eq_true]
    intro c h
    exact decide_eq_true (hc c h)
  · simp only [PyData.depth]
    exact Nat.le_refl _
  · simp only [PyData.showable]
  · simp only [PyData.hasDict]
  · simp only [PyData.intsShort]
  · simp only [PyData.weight]
    exact hB
theorem Item.nice {z : Str} (h : Item z) : Nice 0 8 (.str z) := nice_str (fun c hc => by have := (h.low c hc).2; omega) h.most
theorem nice_all {k B : Nat} : ∀ {ds : List PyData}, (∀ d ∈ ds, Nice k B d) → PyData.canLayAll0 ds = true ∧ PyData.depthAll ds ≤ k ∧ PyData.showableAll ds = true ∧ PyData.hasDictAll ds = false ∧ PyData.intsShortAll 13 ds = true ∧ PyData.weightAll ds ≤ ds.length * (B + 1)
  | [], _ => by
    refine ⟨?_, ?_, ?_, ?_, ?_, ?_⟩
    · simp only [PyData.canLayAll0]
    · simp only [PyData.depthAll]
      exact Nat.zero_le _
    · simp only [PyData.showableAll]
    · simp only [PyData.hasDictAll]
    · simp only [PyData.intsShortAll]
    · simp only [PyData.weightAll]
      exact Nat.zero_le _
  | d :: ds, h => by
    obtain ⟨a1, a2, a3, a4, a5, a6⟩ := nice_all (ds := ds) fun x hx => h x (List.mem_cons_of_mem _ hx)
    have q := h d List.mem_cons_self
    refine ⟨?_, ?_, ?_, ?_, ?_, ?_⟩
    · simp only [PyData.canLayAll0, q.lay, a1, Bool.and_self]
    · simp only [PyData.depthAll]
      exact Nat.max_le.mpr ⟨q.dep, a2⟩
    · simp only [PyData.showableAll, q.sh, a3, Bool.and_self]
    · simp only [PyData.hasDictAll, q.nd, a4, Bool.or_self]
    · simp only [PyData.intsShortAll, q.ish, a5, Bool.and_self]
    · simp only [PyData.weightAll, List.length_cons]
      have := q.wt
      rw [Nat.add_mul]
      omega
theorem nice_list {k B : Nat} {ds : List PyData} (h : ∀ d ∈ ds, Nice k B d) : Nice (k + 1) (ds.length * (B + 1)) (.list ds) := by
  obtain ⟨a1, a2, a3, a4, a5, a6⟩ := nice_all h
  exact ⟨by simp only [PyData.canLay0]; exact a1, by simp only [PyData.depth]; omega, by simp only [PyData.showable]; exact a3, by simp only [PyData.hasDict]; exact a4, by simp only [PyData.intsShort]; exact a5, by simp only [PyData.weight]; exact a6⟩
theorem nice_tuple {k B : Nat} {ds : List PyData} (h : ∀ d ∈ ds, Nice k B d) : Nice (k + 1) (ds.length * (B + 1)) (.tuple ds) := by
  obtain ⟨a1, a2, a3, a4, a5, a6⟩ := nice_all h
  exact ⟨by simp only [PyData.canLay0]; exact a1, by simp only [PyData.depth]; omega, by simp only [PyData.showable]; exact a3, by simp only [PyData.hasDict]; exact a4, by simp only [PyData.intsShort]; exact a5, by simp only [PyData.weight]; exact a6⟩
theorem Nice.shaped {k B : Nat} {d : PyData} (h : Nice k B d) (hk : k ≤ 64) : SeqAt.shaped d = true := by
  unfold SeqAt.shaped
  rw [h.lay, Bool.true_and]
  exact decide_eq_true (Nat.le_trans h.dep hk)
theorem Nice.shown {k B : Nat} {d : PyData} (h : Nice k B d) (hk : k ≤ 64) (hB : B ≤ 2 ^ 20) : d.shown.length ≤ sizeLine := by
  refine PyData.shown_fits_of_layable0 (B := 13) (by decide) (by decide) ?_ h.ish
  unfold PyData.layable0
  rw [h.lay, Bool.true_and, Bool.and_eq_true]
  exact ⟨decide_eq_true (Nat.le_trans h.dep hk), decide_eq_true (Nat.le_trans h.wt hB)⟩
theorem Nice.eqv {k B : Nat} {d : PyData} (h : Nice k B d) : PyData.eqv d d = true := SeqAt.eqv_refl d h.lay
/-! ### texts -/
theorem dp_strs {K : PySem.W.Frag} {H : Hp} : ∀ zs : List Str, DpAll K H (zs.map V.str) (zs.map PyData.str)
  | [] => .nil
  | z :: zs => .cons (.str z) (dp_strs zs)
theorem eqvAll_strs : ∀ a b : List Str, PyData.eqvAll (a.map .str) (b.map .str) = decide (a = b)
  | [], [] => by simp [PyData.eqvAll]
  | [], y :: b => by simp [PyData.eqvAll]
  | x :: a, [] => by simp [PyData.eqvAll]
  | x :: a, y :: b => by
    rw [List.map_cons, List.map_cons]
    unfold PyData.eqvAll
    rw [eqvAll_strs a b]
    unfold PyData.eqv
    by_cases e : x = y
    · subst e
      simp
    · simp [e]
theorem eqv_listS (a b : List Str) : PyData.eqv (.list (a.map .str)) (.list (b.map .str)) = decide (a = b) := by
  unfold PyData.eqv
  exact eqvAll_strs a b
theorem eqv_tupS (a b : List Str) : PyData.eqv (.tuple (a.map .str)) (.tuple (b.map .str)) = decide (a = b) := by
  unfold PyData.eqv
  exact eqvAll_strs a b
theorem nice_strs {zs : List Str} (h : ∀ z ∈ zs, Item z) : ∀ d ∈ zs.map PyData.str, Nice 0 8 d := by
  intro d hd
  obtain ⟨z, hz, rfl⟩ := List.mem_map.mp hd
  exact (h z hz).nice
/-! ### steps -/
abbrev Stp := Bool × Str
def act (b : Bool) : Str := if b then "push" else "pop"
theorem act_nice (b : Bool) : Nice 0 8 (.str (act b)) := by
  cases b
  · exact nice_str (by decide +kernel) (by decide +kernel)
  · exact nice_str (by decide +kernel) (by decide +kernel)
def stepD (s : Stp) : PyData := .tuple [.str (act s.1), .str s.2]
theorem stepD_nice {s : Stp} (h : Item s.2) : Nice 1 18 (stepD s) := by
  refine (nice_tuple (k := 0) (B := 8) (ds := [.str (act s.1), .str s.2]) ?_).mono (Nat.le_refl _) (by show 2 * 9 ≤ 18; decide)
  intro d hd
  rcases List.mem_cons.mp hd with q | q
  · rw [q]
    exact act_nice _
  · rw [List.mem_singleton.mp q]
    exact h.nice
/-- a step -/
def StepV (K : PySem.W.Frag) (H : Hp) (v : V) (s : Stp) : Prop := ∃ t, v = .ref t ∧ SqT K H t [.str (act s.1), .str s.2]
abbrev StepsV (K : PySem.W.Frag) (H : Hp) : List V → List Stp → Prop := Paired (StepV K H)
theorem StepV.same {K : PySem.W.Frag} {H H' : Hp} {v : V} {s : Stp} (h : StepV K H v s) (e : Same H H') : StepV K H' v s := by
  obtain ⟨t, rfl, q⟩ := h
  exact ⟨t, rfl, Same.tup e q⟩
theorem StepsV.same {K : PySem.W.Frag} {H H' : Hp} {xs : List V} {ss : List Stp} (h : StepsV K H xs ss) (e : Same H H') : StepsV K H' xs ss := Paired.mapP h fun _ _ q => q.same e
theorem StepsV.at {K : PySem.W.Frag} {H : Hp} : ∀ {xs : List V} {ss : List Stp} {i : Nat} {v : V}, StepsV K H xs ss → xs[i]? = some v → ∃ s, ss[i]? = some s ∧ StepV K H v s
  | _, _, _, _, .nil, h => by simp at h
  | _, _, 0, _, .cons a _, h => by
    have e := Option.some.inj h
    subst e
    exact ⟨_, rfl, a⟩
  | _, _, i + 1, _, .cons _ r, h => StepsV.at (i := i) r h
theorem dp_steps {K : PySem.W.Frag} {H : Hp} : ∀ {xs : List V} {ss : List Stp}, StepsV K H xs ss → DpAll K H xs (ss.map stepD)
  | _, _, .nil => .nil
  | _, _, .cons a r => by
    obtain ⟨t, rfl, q⟩ := a
    exact .cons (.tup q (.cons (.str _) (.cons (.str _) .nil))) (dp_steps r)
theorem nice_steps {ss : List Stp} (h : ∀ s ∈ ss, Item s.2) : ∀ d ∈ ss.map stepD, Nice 1 18 d := by
  intro d hd
  obtain ⟨s, hs, rfl⟩ := List.mem_map.mp hd
  exact stepD_nice (h s hs)
theorem StepsV.rev {K : PySem.W.Frag} {H : Hp} : ∀ {xs : List V} {ss : List Stp}, StepsV K H xs ss → StepsV K H xs.reverse ss.reverse
  | _, _, .nil => .nil
  | _, _, .cons a r => by
    rw [List.reverse_cons, List.reverse_cons]
    exact (StepsV.rev r).snoc a
/-- the exchange of push and pop -/
def flip1 (s : Stp) : Stp := (!s.1, s.2)
def revM (ss : List Stp) : List Stp := ss.reverse.map flip1
/-- what a step makes of a stack -/
def stepM (s : Stp) (zs : List Str) : Option (List Str) := if s.1 then some (s.2 :: zs) else match zs with
  | [] => none
  | z :: r => if z = s.2 then some r else none
def runM : List Stp → List Str → Option (List Str)
  | [], zs => some zs
  | s :: ss, zs => match stepM s zs with
    | none => none
    | some ws => runM ss ws
theorem runM_append : ∀ (a b : List Stp) (zs : List Str), runM (a ++ b) zs = (runM a zs).bind (runM b)
  | [], b, zs => rfl
  | s :: a, b, zs => by
    show (match stepM s zs with | none => none | some ws => runM (a ++ b) ws) = (match stepM s zs with | none => none | some ws => runM a ws).bind (runM b)
    cases stepM s zs with
    | none => rfl
    | some ws => exact runM_append a b ws
theorem stepM_flip {s : Stp} {zs ws : List Str} (h : stepM s zs = some ws) : stepM (flip1 s) ws = some zs := by
  obtain ⟨b, x⟩ := s
  cases b with
  | true =>
    have e : x :: zs = ws := by
      have q : some (x :: zs) = some ws := h
      exact Option.some.inj q
    subst e
    show (if x = x then some zs else none) = some zs
    rw [if_pos rfl]
  | false =>
    cases zs with
    | nil => exact absurd h (by intro q; cases q)
    | cons z r =>
      have q : (if z = x then some r else none) = some ws := h
      by_cases e : z = x
      · rw [if_pos e] at q
        have e2 := Option.some.inj q
        subst e2
        subst e
        rfl
      · rw [if_neg e] at q
        cases q
theorem runM_rev : ∀ (ss : List Stp) (zs ws : List Str), runM ss zs = some ws → runM (revM ss) ws = some zs
  | [], zs, ws, h => by
    have e : zs = ws := Option.some.inj h
    subst e
    rfl
  | s :: ss, zs, ws, h => by
    have h' : (match stepM s zs with | none => none | some ys => runM ss ys) = some ws := h
    cases e : stepM s zs with
    | none =>
      rw [e] at h'
      cases h'
    | some ys =>
      rw [e] at h'
      have ih := runM_rev ss ys ws h'
      show runM ((s :: ss).reverse.map flip1) ws = some zs
      rw [List.reverse_cons, List.map_append, runM_append]
      have ih' : runM (ss.reverse.map flip1) ws = some ys := ih
      rw [ih']
      show (match stepM (flip1 s) ys with | none => none | some ws => runM [] ws) = some zs
      rw [stepM_flip e]
      rfl
theorem revM_revM (ss : List Stp) : revM (revM ss) = ss := by
  unfold revM
  rw [← List.map_reverse, List.reverse_reverse, List.map_map]
  have e : flip1 ∘ flip1 = id := by
    funext s
    obtain ⟨b, x⟩ := s
    cases b <;> rfl
  rw [e, List.map_id]
theorem revM_items {ss : List Stp} (h : ∀ s ∈ ss, Item s.2) : ∀ s ∈ revM ss, Item s.2 := by
  intro s hs
  obtain ⟨t, ht, rfl⟩ := List.mem_map.mp hs
  exact h t (List.mem_reverse.mp ht)
theorem stepM_items {s : Stp} {zs ws : List Str} (h : stepM s zs = some ws) (hs : Item s.2) (hz : ∀ z ∈ zs, Item z) : ∀ z ∈ ws, Item z := by
  obtain ⟨b, x⟩ := s
  cases b with
  | true =>
    have e : x :: zs = ws := Option.some.inj (show some (x :: zs) = some ws from h)
    subst e
    intro z m
    rcases List.mem_cons.mp m with q | q
    · rw [q]
      exact hs
    · exact hz z q
  | false =>
    cases zs with
    | nil => exact absurd h (by intro q; cases q)
    | cons y r =>
      have q : (if y = x then some r else none) = some ws := h
      by_cases e : y = x
      · rw [if_pos e] at q
        have e2 := Option.some.inj q
        subst e2
        exact fun z m => hz z (List.mem_cons_of_mem _ m)
      · rw [if_neg e] at q
        cases q
theorem stepM_len {s : Stp} {zs ws : List Str} (h : stepM s zs = some ws) : ws.length ≤ zs.length + 1 := by
  obtain ⟨b, x⟩ := s
  cases b with
  | true =>
    have e : x :: zs = ws := Option.some.inj (show some (x :: zs) = some ws from h)
    subst e
    exact Nat.le_refl _
  | false =>
    cases zs with
    | nil => exact absurd h (by intro q; cases q)
    | cons y r =>
      have q : (if y = x then some r else none) = some ws := h
      by_cases e : y = x
      · rw [if_pos e] at q
        have e2 := Option.some.inj q
        subst e2
        rw [List.length_cons]
        omega
      · rw [if_neg e] at q
        cases q
end SE
namespace SE
open PySem PySem.Spec PyProof.Rows L2
def topS (i : Nat) : Stmt := PySem.Challenge.pw_stackeffect_k89_whole_renamed_and_writte.main.body.getD i (.Pass ⟨0, 0, 0, 0⟩)
abbrev sWall : Stmt := topS 0
abbrev sStackerror : Stmt := topS 2
abbrev sInvalidword : Stmt := topS 3
abbrev sInvalidsteps : Stmt := topS 4
abbrev sInvalidnumber : Stmt := topS 5
abbrev sInvaliditems : Stmt := topS 6
abbrev sInvalidcandidates : Stmt := topS 7
abbrev sInvalidobservation : Stmt := topS 8
abbrev sInvalidtext : Stmt := topS 9
abbrev sIsWhole : Stmt := topS 11
abbrev sIsBetween : Stmt := topS 12
abbrev sPower : Stmt := topS 13
abbrev sIsItem : Stmt := topS 21
abbrev sIsWord : Stmt := topS 22
abbrev sIsStep : Stmt := topS 23
abbrev sMayHold : Stmt := topS 24
abbrev sIsSeq : Stmt := topS 25
abbrev sIsLimit : Stmt := topS 26
abbrev sChkSteps : Stmt := topS 27
abbrev sChkWord : Stmt := topS 28
abbrev sChkLimit : Stmt := topS 29
abbrev sTooHigh : Stmt := topS 30
abbrev sLeastPeak : Stmt := topS 32
abbrev sEffect : Stmt := topS 33
abbrev sReplaced : Stmt := topS 34
abbrev sJoined : Stmt := topS 35
abbrev sPartsOfStep : Stmt := topS 36
abbrev sEffectOf : Stmt := topS 37
abbrev sWordIn : Stmt := topS 46
abbrev sStepsIn : Stmt := topS 47
abbrev sNumberIn : Stmt := topS 48
abbrev sTextOfNumber : Stmt := topS 49
abbrev sEffectIn : Stmt := topS 50
abbrev sFormatWord : Stmt := topS 51
abbrev sFormatSteps : Stmt := topS 52
abbrev sFormatEffect : Stmt := topS 53
abbrev sParseWord : Stmt := topS 54
abbrev sParseSteps : Stmt := topS 55
abbrev sParseEffect : Stmt := topS 56
abbrev sByHeight : Stmt := topS 58
abbrev sFirstSuccess : Stmt := topS 59
abbrev sFirstBeyond : Stmt := topS 60
abbrev sDifference : Stmt := topS 61
abbrev sCommute : Stmt := topS 62
abbrev sAreCandidates : Stmt := topS 65
abbrev sCheckCandidates : Stmt := topS 66
abbrev sIsObservation : Stmt := topS 67
abbrev sCheckObservations : Stmt := topS 68
abbrev sGivesAll : Stmt := topS 69
abbrev sPossible : Stmt := topS 70
abbrev sIndexesByResult : Stmt := topS 71
abbrev sOutcomes : Stmt := topS 72
abbrev sLargestMany : Stmt := topS 73
abbrev sBestStack : Stmt := topS 74
abbrev sIsItemList : Stmt := topS 77
abbrev sCheckItems : Stmt := topS 78
abbrev sSurplus : Stmt := topS 79
abbrev sWaysMany : Stmt := topS 80
abbrev sShortestMany : Stmt := topS 81
abbrev sPool : Stmt := topS 83
abbrev sTake : Stmt := topS 84
abbrev sName : Stmt := topS 85
abbrev sItems : Stmt := topS 86
abbrev sSteps : Stmt := topS 87
abbrev sWord : Stmt := topS 88
abbrev sLawWordLed : Stmt := topS 89
abbrev sLawEffectLed : Stmt := topS 90
abbrev sLawWritten : Stmt := topS 91
abbrev sLawPairRight : Stmt := topS 92
abbrev sLawGroupsRight : Stmt := topS 93
abbrev sLawLimitsRight : Stmt := topS 94
abbrev sLawExchangedRight : Stmt := topS 95
abbrev sLaw : Stmt := topS 96
end SE
namespace SE
open PySem PySem.Spec PyProof.Rows L2
section
variable {P : Program} {w : World} {K : PySem.W.Frag} {mg : Str → Option Value} {base : Heap}
/-! ### _law_take -/
def spTake : Sp := fun xs H Q _ => ∃ (p : Addr) (n : Int), xs = [.ref p, .int n] ∧ Pool H p ∧ 1 ≤ n ∧ n ≤ 100000 ∧
  ∀ (r : Int) (H' : Hp), But p H H' → Pool H' p → 0 ≤ r → r < n → Q (.int r) H'
theorem scTake : FnScope ["_law_pool_here", "_law_many", "_law_found"] ["_law_pool_here", "_law_many"] (defScope sTake) := ⟨rfl, rfl, rfl, by decide +kernel, rfl, by decide +kernel, by decide +kernel⟩
theorem has_take (D : Def K mg "_law_take" sTake) : Has P w K mg base "_law_take" 1 ["_law_pool_here", "_law_many"] [] spTake := by
  refine has_of D scTake (fun _ _ _ _ _ _ us hl => match us, hl with | [_, _], _ => rfl) (fun xs H Q E h => ?_) (fun f cv A out s H xs Q E hr h => ?_)
  · obtain ⟨p, n, rfl, _⟩ := h
    rfl
  · obtain ⟨p, n, rfl, hp, h1, h2, k⟩ := h
    obtain ⟨m, z, e, hm, hz0, hz1⟩ := hp.ex
    have a0 : atI [V.int m, V.int z] 0 = some (.int m) := atI_nat (j := 0) rfl
    refine ⟨_, pss_cons (ps_if (pt_cmpR op_gt (pe_ix ix_list (pv 0) pe_int (fun _ _ => rfl)) pe_int (nomark _))
        (pss_cons (ps_set (i := 2) scTake.nd rfl (.inl rfl) (pe_op op_modN (pe_ix ix_list (pv 0) pe_int (fun _ _ => rfl)) (pv 1)))
        (pss_cons (ps_asg (pe_op op_fdivN (pe_ix ix_list (pv 0) pe_int (fun _ _ => rfl)) (pv 1)) (pg_sub (pv 0) pe_int set_list))
        (pss_one (ps_ret (pv 2))))) pss_nil)
      (pss_cons (ps_asg (pe_op op_mod (pe_op op_add (pe_op op_mul (pe_ix ix_list (pv 0) pe_int (fun _ _ => rfl)) pe_int) pe_int) pe_int) (pg_sub (pv 0) pe_int set_list))
      (pss_one (ps_ret (pe_op op_modN (pe_op op_fdiv (pe_op op_mod (pe_op op_mul (pe_ix ix_list (pv 0) pe_int (fun _ _ => rfl)) (pe_ix ix_list (pv 0) pe_int (fun _ _ => rfl))) pe_int) pe_int) (pv 1))))), ?_⟩
    refine ⟨.ref p, rfl, p, _, 0, _, rfl, rfl, .of e, a0, m, 0, rfl, rfl, _, rfl, ite2 (fun c => ?_) (fun c => ?_)⟩
    · refine ⟨.ref p, rfl, p, _, 0, _, rfl, rfl, .of e, a0, .int n, rfl, m, n, rfl, rfl, (by omega), ?_⟩
      refine ⟨.ref p, rfl, p, _, 0, _, rfl, rfl, .of e, a0, .int n, rfl, m, n, rfl, rfl, ⟨by omega, by omega⟩, .ref p, rfl, p, _, 0, 0, rfl, rfl, e, rfl, ?_⟩
      refine ⟨_, rfl, k _ _ .at ⟨m.fdiv n, z, upd_same, ?_, hz0, hz1⟩ ?_ ?_⟩
      · rw [Int.fdiv_eq_ediv_of_nonneg _ (by omega)]
        exact Int.ediv_nonneg hm (by omega)
      · rw [Int.fmod_eq_emod_of_nonneg _ (by omega)]
        exact Int.emod_nonneg _ (by omega)
      · rw [Int.fmod_eq_emod_of_nonneg _ (by omega)]
        exact Int.emod_lt_of_pos _ (by omega)
    · have a1 : atI [V.int m, V.int z] 1 = some (.int z) := atI_nat (j := 1) rfl
      refine ⟨.ref p, rfl, p, _, 1, _, rfl, rfl, .of e, a1, z, 48271, rfl, rfl, .inl ⟨by omega, by omega⟩, _, 11, rfl, rfl, _, 2147483647, rfl, rfl, (by show (0 : Int) < 2147483647; decide), .ref p, rfl, p, _, 1, 1, rfl, rfl, e, rfl, ?_⟩
      have q0 : 0 ≤ (z * 48271 + 11) % 2147483647 := Int.emod_nonneg _ (by omega)
      have q1 : (z * 48271 + 11) % 2147483647 < 2147483647 := Int.emod_lt_of_pos _ (by omega)
      have e' : (upd H p (.lst ([V.int m, V.int z].set 1 (.int ((z * 48271 + 11) % 2147483647))))) p = some (.lst [V.int m, .int ((z * 48271 + 11) % 2147483647)]) := upd_same
      have a1' : atI [V.int m, V.int ((z * 48271 + 11) % 2147483647)] 1 = some (.int ((z * 48271 + 11) % 2147483647)) := atI_nat (j := 1) rfl
      refine ⟨.ref p, rfl, p, _, 1, _, rfl, rfl, .of e', a1', .ref p, rfl, p, _, 1, _, rfl, rfl, .of e', a1', ((z * 48271 + 11) % 2147483647), ((z * 48271 + 11) % 2147483647), rfl, rfl, .inl ⟨by omega, by omega⟩, _, 2147483629, rfl, rfl, (by show (0 : Int) < 2147483629; decide), _, 64, rfl, rfl, ⟨by decide, by decide⟩, .int n, rfl, _, n, rfl, rfl, (by omega), ?_⟩
      refine k _ _ .at ⟨m, ((z * 48271 + 11) % 2147483647), upd_same, hm, q0, q1⟩ ?_ ?_
      · rw [Int.fmod_eq_emod_of_nonneg _ (by omega)]
        exact Int.emod_nonneg _ (by omega)
      · rw [Int.fmod_eq_emod_of_nonneg _ (by omega)]
        exact Int.emod_lt_of_pos _ (by omega)
/-! ### _law_pool -/
def spPool (K : PySem.W.Frag) : Sp := fun xs H Q _ => ∃ (a : Addr) (ns : List Int) (i : Int), xs = [.ref a, .int i] ∧ SqL K H a (ns.map V.int) ∧ 0 ≤ i ∧ i ≤ 63 ∧
  ∀ (p : Addr) (H' : Hp), Same H H' → H p = none → Pool H' p → Q (.ref p) H'
theorem scPool : FnScope ["_law_script", "_law_k", "_law_cell", "_law_size", "_law_seed"] ["_law_script", "_law_k"] (defScope sPool) := ⟨rfl, rfl, rfl, by decide +kernel, rfl, by decide +kernel, by decide +kernel⟩
theorem has_pool (D : Def K mg "_law_pool" sPool) (ml : mg "len" = none) (ma : mg "abs" = none) (mi : mg "int" = none) : Has P w K mg base "_law_pool" 1 ["_law_script", "_law_k"] [] (spPool K) := by
  refine has_of D scPool (fun _ _ _ _ _ _ us hl => match us, hl with | [_, _], _ => rfl) (fun xs H Q E h => ?_) (fun f cv A out s H xs Q E hr h => ?_)
  · obtain ⟨a, ns, i, rfl, _⟩ := h
    rfl
  · obtain ⟨a, ns, i, rfl, hS, h0, h1, k⟩ := h
    refine ⟨_, pss_cons (ps_set (i := 2) scPool.nd rfl (.inl rfl) pe_int)
      (Evl.pss_cut (ps_if (pt_cmpR op_lt (pv 1) (pe_callB call_len_seq (by rfl) ml PySem.boot_len (pa_cons (pv 0) pa_nil)) (nomark _))
        (pss_one (ps_set (i := 2) scPool.nd rfl (.inl rfl) (pe_ix ix_list (pv 0) (pv 1) (fun _ _ => rfl)))) pss_nil)
      (pss_cons (ps_set (i := 3) scPool.nd rfl (.inl rfl) (pe_callB call_abs (by rfl) ma (by decide +kernel) (pa_cons (pv 2) pa_nil)))
      (pss_cons (ps_set (i := 4) scPool.nd rfl (.inl rfl) (pe_op op_mod (pe_op op_pow (pe_op op_add (pe_op op_add (pe_op op_add (pe_op op_mod (pv 2) pe_int) (pe_op op_mul (pe_op op_mul pe_int (pv 1)) (pv 1))) (pe_op op_mul pe_int (pv 1))) pe_int) pe_int) pe_int))
      (pss_one (ps_ret (pe_lst (pa_cons (pe_op op_mul (pv 3) (pe_callTy call_int1 (by rfl) mi (by decide +kernel) (pa_cons (pe_cmpR op_ge (pv 3) (pe_op op_pow pe_int pe_int) (nomark _)) pa_nil))) (pa_cons (pv 4) pa_nil)))))))), ?_⟩
    refine ⟨fun σ H2 => H2 = H ∧ ∃ c : Int, σ = [some (.ref a), some (.int i), some (.int c), none, none], ?_, ?_⟩
    · refine ⟨_, rfl, .ref a, rfl, a, _, rfl, .inl hS, i, _, rfl, rfl, _, rfl, ite2 (fun c => ?_) (fun c => ?_)⟩
      · have hi : i < ((ns.map V.int).length : Int) := of_decide_eq_true c
        rw [List.length_map] at hi
        have hj : i.toNat < ns.length := by omega
        refine ⟨.ref a, rfl, .int i, rfl, a, _, i, .int ns[i.toNat], rfl, rfl, hS, at_of (j := i.toNat) (by omega) ?_, rfl, ns[i.toNat], rfl⟩
        rw [List.getElem?_map, List.getElem?_eq_getElem hj]
        rfl
      · exact ⟨rfl, 0, rfl⟩
    · rintro σ H2 ⟨rfl, c, rfl⟩
      refine ⟨_, rfl, c, rfl, ?_⟩
      refine ⟨_, rfl, c, 2147483629, rfl, rfl, (by show (0 : Int) < 2147483629; decide), _, rfl, 104729, i, rfl, rfl, .inl ⟨by decide, by decide⟩, _, rfl, _, i, rfl, rfl, .inr ⟨by omega, by omega⟩, _, _, rfl, rfl, _, rfl, 7919, i, rfl, rfl, .inl ⟨by decide, by decide⟩, _, _, rfl, rfl, _, 11, rfl, rfl, _, 3, rfl, rfl, ⟨by decide, by decide, ?_⟩, _, 2147483647, rfl, rfl, (by show (0 : Int) < 2147483647; decide), ?_⟩
      · have b0 : 0 ≤ c % 2147483629 := Int.emod_nonneg _ (by omega)
        have b1 : c % 2147483629 < 2147483629 := Int.emod_lt_of_pos _ (by omega)
        have b2 : 0 ≤ 104729 * i * i := Int.mul_nonneg (by omega) h0
        have b3 : 104729 * i * i ≤ 104729 * 63 * 63 := Int.mul_le_mul (by omega) h1 h0 (by omega)
        omega
      · have t0 : ∀ y : Int, 0 ≤ y ^ 3 % 2147483647 ∧ y ^ 3 % 2147483647 < 2147483647 := fun y => ⟨Int.emod_nonneg _ (by omega), Int.emod_lt_of_pos _ (by omega)⟩
        have u0 : 0 ≤ (if c < 0 then -c else c) := by
          split <;> omega
        refine ⟨_, rfl, _, rfl, 10, 18, rfl, rfl, ⟨by decide, by decide, by decide⟩, _, _, rfl, rfl, .inr ⟨_, rfl, ?_⟩⟩
        have b01 : ∀ b : Bool, (0 : Int) ≤ (if b = true then 1 else 0) ∧ (if b = true then (1 : Int) else 0) ≤ 1 := fun b => by cases b <;> decide
        have g := b01 (decide (10 ^ Int.toNat 18 ≤ if c < 0 then -c else c))
        refine ⟨_, _, rfl, rfl, .inr ⟨by omega, by omega⟩, _, rfl, (by show 2 ≤ sizeLine; decide), fun p hp => k p _ (Same.new hp) hp ⟨_, _, upd_same, Int.mul_nonneg u0 g.1, (t0 _).1, (t0 _).2⟩⟩
end
end SE
namespace SE
open PySem PySem.Spec PyProof.Rows L2
theorem len_add (x y : Str) : (x ++ y).length = x.length + y.length := by
  show (x.cps ++ y.cps).size = _
  rw [Array.size_append]
  rfl
theorem cps_add (x y : Str) : (x ++ y).cps.toList = x.cps.toList ++ y.cps.toList := by
  show (x.cps ++ y.cps).toList = _
  exact Array.toList_append
abbrev abc : Str := Str.ofString "abcdefghijklmnopqrstuvwxyz"
theorem abc_len : abc.length = 26 := by decide +kernel
theorem abc_at (i : Nat) (h : i < 26) : ∃ c, abc.cps[i]? = some c ∧ 97 ≤ c ∧ c ≤ 122 := by
  have q : ∀ j : Fin 26, (abc.cps[j.1]?).any (fun c => decide (97 ≤ c) && decide (c ≤ 122)) = true := by decide +kernel
  have z := q ⟨i, h⟩
  simp only [Option.any_eq_true, Bool.and_eq_true, decide_eq_true_eq] at z
  obtain ⟨c, h1, h2, h3⟩ := z
  exact ⟨c, h1, h2, h3⟩
section
variable {P : Program} {w : World} {K : PySem.W.Frag} {mg : Str → Option Value} {base : Heap}
/-! ### _law_name -/
def spName : Sp := fun xs H Q _ => ∃ (p : Addr), xs = [.ref p] ∧ Pool H p ∧ ∀ (z : Str) (H' : Hp), But p H H' → Pool H' p → Item z → Q (.str z) H'
theorem scName : FnScope ["_law_pool_here", "_law_letters", "_law_found", "_law_turn"] ["_law_pool_here"] (defScope sName) := ⟨rfl, rfl, rfl, by decide +kernel, rfl, by decide +kernel, by decide +kernel⟩
theorem has_name (D : Def K mg "_law_name" sName) (GT : Has P w K mg base "_law_take" 1 ["_law_pool_here", "_law_many"] [] spTake) (mr : mg "range" = none) : Has P w K mg base "_law_name" 2 ["_law_pool_here"] [] spName := by
  refine has_of D scName (fun _ _ _ _ _ _ us hl => match us, hl with | [_], _ => rfl) (fun xs H Q E h => ?_) (fun f cv A out s H xs Q E hr h => ?_)
  · obtain ⟨p, rfl, _⟩ := h
    rfl
  · obtain ⟨p, rfl, hp, k⟩ := h
    refine ⟨_, pss_cons (ps_set (i := 1) scName.nd rfl (.inl rfl) pe_str)
      (pss_cons (ps_set (i := 2) scName.nd rfl (.inl rfl) (pe_item_str (pv 1) (pe_has GT hr (pa_cons (pv 0) (pa_cons pe_int pa_nil))) (fun _ _ => rfl)))
      (pss_cons (ps_for PassesOwn.never rfl (pi_range1 (by rfl) mr (pa_cons (pe_has GT hr (pa_cons (pv 0) (pa_cons pe_int pa_nil))) pa_nil)) (pg_name (i := 3) scName.nd rfl (.inl rfl))
        (pss_one (ps_set (i := 2) scName.nd rfl (.inl rfl) (pe_op op_add_str (pv 2) (pe_item_str (pv 1) (pe_has GT hr (pa_cons (pv 0) (pa_cons pe_int pa_nil))) (fun _ _ => rfl))))))
      (pss_one (ps_ret (pv 2))))), ?_⟩
    refine ⟨_, rfl, _, rfl, p, 26, rfl, hp, by decide, by decide, fun r H1 b1 p1 r0 r1 => ?_⟩
    obtain ⟨c, hc, c0, c1⟩ := abc_at r.toNat (by omega)
    refine ⟨abc, r, c, rfl, rfl, r0, by omega, ?_, hc, ?_⟩
    · have := abc_len
      rw [this]
      omega
    refine ⟨_, rfl, p, 8, rfl, p1, by decide, by decide, fun n H2 b2 p2 n0 n1 => ?_⟩
    refine ⟨n, rfl, by omega, by omega, for_range (lo := 0) (n := n.toNat) (fun i σ H3 => ∃ (z : Str) (y : Option V), σ = [some (.ref p), some (.str abc), some (.str z), y] ∧ But p H H3 ∧ Pool H3 p ∧ z.length = i + 1 ∧ ∀ c ∈ z.cps.toList, 97 ≤ c ∧ c ≤ 122) ?_ ?_ ?_⟩
    · refine ⟨⟨#[c]⟩, none, rfl, b1.trans b2, p2, rfl, fun d hd => ?_⟩
      obtain rfl : d = c := by simpa using hd
      exact ⟨c0, c1⟩
    · rintro i σ H3 hi ⟨z, y, rfl, b3, p3, hz, hl⟩
      refine ⟨_, rfl, _, rfl, _, rfl, p, 26, rfl, p3, by decide, by decide, fun r2 H4 b4 p4 s0 s1 => ?_⟩
      obtain ⟨d, hd, d0, d1⟩ := abc_at r2.toNat (by omega)
      refine ⟨abc, r2, d, rfl, rfl, s0, by omega, ?_, hd, z, ⟨#[d]⟩, rfl, rfl, ?_, z ++ ⟨#[d]⟩, _, rfl, b3.trans b4, p4, ?_, fun e he => ?_⟩
      · have := abc_len
        rw [this]
        omega
      · rw [hz]
        exact Nat.le_of_lt (small1000 (show i + 1 + 1 ≤ 1000 by omega))
      · rw [len_add, hz]
        rfl
      · rw [cps_add] at he
        rcases List.mem_append.mp he with q | q
        · exact hl e q
        · obtain rfl : e = d := by simpa using q
          exact ⟨d0, d1⟩
    · rintro σ H3 ⟨z, y, rfl, b3, p3, hz, hl⟩
      exact ⟨_, rfl, k z H3 b3 p3 ⟨by omega, by omega, hl⟩⟩
end
end SE
namespace SE
open PySem PySem.Spec PyProof.Rows L2
theorem nodup_le {α : Type} [DecidableEq α] : ∀ {ys zs : List α}, ys.Nodup → (∀ y ∈ ys, y ∈ zs) → ys.length ≤ zs.length
  | [], _, _, _ => Nat.zero_le _
  | y :: ys, zs, nd, h => by
    obtain ⟨n1, n2⟩ := List.nodup_cons.mp nd
    have hy : y ∈ zs := h y List.mem_cons_self
    have ih := nodup_le (zs := zs.erase y) n2 fun x hx => (List.mem_erase_of_ne (fun e => n1 (by rw [← e]; exact hx))).mpr (h x (List.mem_cons_of_mem _ hx))
    rw [List.length_erase_of_mem hy] at ih
    have : 0 < zs.length := List.length_pos_of_mem hy
    rw [List.length_cons]
    omega
theorem yes_in {σ : L2.St} {H : Hp} {F G : Hp → Prop} (h : F H) : tYes σ H (fun b H3 => if b = true then F H3 else G H3) := by
  show if true = true then F H else G H
  exact iteT h
theorem eqV_str (a b : Str) : eqV (.str a) (.str b) = (a == b) := by
  unfold eqV
  rfl
theorem inV_str (z : Str) : ∀ zs : List Str, inV (.str z) (zs.map V.str) = decide (z ∈ zs)
  | [] => by simp [inV]
  | y :: zs => by
    have ih := inV_str z zs
    unfold inV at ih ⊢
    rw [List.map_cons, List.any_cons, ih, eqV_str]
    by_cases e : y = z
    · subst e
      simp
    · have e2 : ¬ z = y := fun q => e q.symm
      simp [e, e2]
theorem flat_strs : ∀ zs : List Str, (zs.map V.str).all flatV = true
  | [] => rfl
  | y :: zs => by
    rw [List.map_cons, List.all_cons, flat_strs zs]
    rfl
/-- the names that are taken where one is drawn twice -/
def spare : List Str := abc.cps.toList.map fun c => (⟨#[c]⟩ : Str) ++ "zz"
theorem spare_len : spare.length = 26 := by decide +kernel
theorem spare_nd : spare.Nodup := by decide +kernel
theorem spare_item {z : Str} (h : z ∈ spare) : Item z := by
  have q : ∀ y ∈ spare, (decide (1 ≤ y.length) && decide (y.length ≤ 8) && y.cps.toList.all fun c => decide (97 ≤ c) && decide (c ≤ 122)) = true := by decide +kernel
  have e := q z h
  simp only [Bool.and_eq_true, decide_eq_true_eq, List.all_eq_true] at e
  exact ⟨e.1.1, e.1.2, e.2⟩
theorem spare_at {i c : Nat} (h : abc.cps[i]? = some c) : spare[i]? = some ((⟨#[c]⟩ : Str) ++ "zz") := by
  unfold spare
  rw [List.getElem?_map, Array.getElem?_toList, h]
  rfl
theorem abc_size : abc.cps.size = 26 := by decide +kernel
section
variable {P : Program} {w : World} {K : PySem.W.Frag} {mg : Str → Option Value} {base : Heap}
/-! ### _law_items -/
def spItems : Sp := fun xs H Q _ => ∃ (p : Addr) (n : Int), xs = [.ref p, .int n] ∧ Pool H p ∧ 0 ≤ n ∧ n ≤ 20 ∧
  ∀ (l : Addr) (zs : List Str) (H' : Hp), But p H H' → Pool H' p → H l = none → l ≠ p → H' l = some (.lst (zs.map V.str)) → zs.length = n.toNat → (∀ z ∈ zs, Item z) → zs.Nodup → Q (.ref l) H'
theorem scItems : FnScope ["_law_pool_here", "_law_many", "_law_found", "_law_at", "_law_name_here", "_law_some", "_law_one"] ["_law_pool_here", "_law_many"] (defScope sItems) := ⟨rfl, rfl, rfl, by decide +kernel, rfl, by decide +kernel, by decide +kernel⟩
abbrev nItems : List Str := ["_law_pool_here", "_law_many", "_law_found", "_law_at", "_law_name_here", "_law_some", "_law_one"]
theorem has_items (D : Def K mg "_law_items" sItems) (GN : Has P w K mg base "_law_name" 2 ["_law_pool_here"] [] spName) (mr : mg "range" = none) : Has P w K mg base "_law_items" 3 ["_law_pool_here", "_law_many"] [] spItems := by
  refine has_of D scItems (fun _ _ _ _ _ _ us hl => match us, hl with | [_, _], _ => rfl) (fun xs H Q E h => ?_) (fun f cv A out s H xs Q E hr h => ?_)
  · obtain ⟨p, n, rfl, _⟩ := h
    rfl
  · obtain ⟨p, n, rfl, hp, h0, h1, k⟩ := h
    refine ⟨_, pss_cons (ps_set (i := 2) scItems.nd rfl (.inr rfl) (pe_lst pa_nil))
      (pss_cons (ps_for PassesOwn.never rfl (pi_range1 (by rfl) mr (pa_cons (pv 1) pa_nil)) (pg_name (i := 3) scItems.nd rfl (.inl rfl))
        (pss_cons (ps_set (i := 4) scItems.nd rfl (.inl rfl) (pe_has GN hr (pa_cons (pv 0) pa_nil)))
        (Evl.pss_cut (ps_if (pt_cmpR op_in_seq (pv 4) (pv 2) (by rfl))
          (pss_cons (ps_setLc (i := 5) (own := [("_law_one", 6)]) (g := gName 6) (tt := tYes) rfl scItems.nd rfl rfl (sw_true rfl rfl rfl (by decide +kernel)) (pi_str pe_str) (blkOk_by (own := [("_law_one", 6)]) (N := nItems) (sc := defScope sItems) (by decide +kernel))
              (fun _ _ _ _ _ => pg_name (i := 6) scItems.nd rfl (.inl rfl)) (fun _ _ _ _ _ => pts_nil) (fun _ _ _ _ _ => pe_op op_add_str (pv 6) pe_str))
          (pss_one (ps_set (i := 4) scItems.nd rfl (.inl rfl) (pe_ix ix_list (pe_lc (own := [("_law_one", 6)]) (g := gName 6) (tt := tTest (tOp (rIn K true) (tVar 6) (tVar 2))) (te := tVar 6) rfl scItems.nd (pi_list (pv 5)) (blkOk_by (own := [("_law_one", 6)]) (N := nItems) (sc := defScope sItems) (by decide +kernel))
              (fun _ _ _ _ _ => pg_name (i := 6) scItems.nd rfl (.inl rfl)) (fun _ _ _ _ _ => pts_one (pt_cmpR op_notIn_seq (pv 6) (pv 2) (by rfl))) (fun _ _ _ _ _ => pv 6)) pe_int (fun _ _ => rfl))))) pss_nil)
        (pss_one (ps_expr (pe_bm PySem.F.plainAttrs_list PySem.F.slot_list_append PySem.F.type_list_append mt_append (pv 2) (pa_cons (pv 4) pa_nil)))))))
      (pss_one (ps_ret (pv 2)))), ?_⟩
    refine ⟨Nat.zero_le _, fun l hl => ?_⟩
    have lp : l ≠ p := hp.free hl
    refine ⟨_, rfl, n, rfl, by omega, by omega, for_range (lo := 0) (n := n.toNat) (fun i σ H3 => ∃ (zs : List Str) (y3 y4 y5 y6 : Option V), σ = [some (.ref p), some (.int n), some (.ref l), y3, y4, y5, y6] ∧ But p H H3 ∧ Pool H3 p ∧ H3 l = some (.lst (zs.map V.str)) ∧ zs.length = i ∧ (∀ z ∈ zs, Item z) ∧ zs.Nodup) ?_ ?_ ?_⟩
    · exact ⟨[], none, none, none, none, rfl, .of (Same.new hl), hp.upd lp, upd_same, rfl, (fun z h => (by cases h)), .nil⟩
    · rintro i σ H3 hi ⟨zs, y3, y4, y5, y6, rfl, b3, p3, hl3, hz, hI, hND⟩
      refine ⟨_, rfl, p, rfl, p3, fun z H4 b4 p4 iz => ?_⟩
      have hl4 : H4 l = some (.lst (zs.map V.str)) := b4 l _ lp hl3
      have bb := b3.trans b4
      refine ⟨fun σ H5 => ∃ (z : Str) (y5 y6 : Option V), σ = [some (.ref p), some (.int n), some (.ref l), some (.int (0 + i)), some (.str z), y5, y6] ∧ But p H H5 ∧ Pool H5 p ∧ H5 l = some (.lst (zs.map V.str)) ∧ Item z ∧ z ∉ zs, ?_, ?_⟩
      · refine ⟨_, rfl, _, rfl, l, _, rfl, .inl (.of hl4), rfl, flat_strs _, _, rfl, ite2 (fun c => ?_) (fun c => ?_)⟩
        · refine ⟨abc, rfl, fun D hD => lc_it walk_str (fun j H5 => H5 D = some (.lst ((spare.take j).map V.str)) ∧ But p H H5 ∧ Pool H5 p ∧ H5 l = some (.lst (zs.map V.str))) ?_ (fun _ _ _ _ => trivial) ?_ ?_⟩
          · have Dp : D ≠ p := p4.free hD
            exact ⟨upd_same, bb.free (bb.none Dp hD), p4.upd Dp, by rw [upd_ne (ne_of_none hl4 hD)]; exact hl4⟩
          · rintro j x H5 H6 hj ⟨hD5, b5, p5, hl5⟩ ⟨rfl, d, hd, rfl⟩
            have Dp : D ≠ p := p4.free hD
            refine ⟨rfl, yes_in ⟨_, rfl, ⟨#[d]⟩, "zz", rfl, rfl, (by show 1 + 2 ≤ sizeLine; decide), _, hD5, ?_, ?_, b5.free (bb.none Dp hD), p5.upd Dp, ?_⟩⟩
            · rw [List.length_map, List.length_take, spare_len]
              exact small1000 (by omega)
            · rw [upd_same, List.take_add_one, spare_at hd, List.map_append]
              rfl
            · rw [upd_ne (ne_of_none hl4 hD)]
              exact hl5
          · rintro H5 ⟨hD5, b5, p5, hl5⟩
            have full : spare.take abc.cps.size = spare := List.take_of_length_le (by rw [spare_len, abc_size]; omega)
            rw [full] at hD5
            have Dp : D ≠ p := p4.free hD
            have Dl : l ≠ D := ne_of_none hl4 hD
            refine ⟨_, rfl, D, rfl, ⟨_, .of hD5⟩, fun E2 hE => lc_list (K := K) (a := D) (xs := spare.map V.str) (fun j H6 => H6 D = some (.lst (spare.map V.str)) ∧ H6 E2 = some (.lst (((spare.take j).filter fun y => !decide (y ∈ zs)).map V.str)) ∧ But p H H6 ∧ Pool H6 p ∧ H6 l = some (.lst (zs.map V.str))) ?_ (fun _ _ _ q => .of q.1) ?_ ?_⟩
            · have Ep : E2 ≠ p := p5.free hE
              refine ⟨?_, upd_same, b5.free (b5.none Ep hE), p5.upd Ep, ?_⟩
              · rw [upd_ne (ne_of_none hD5 hE)]
                exact hD5
              · rw [upd_ne (ne_of_none hl5 hE)]
                exact hl5
            · rintro j x H6 hj ⟨hD6, hE6, b6, p6, hl6⟩
              have Ep : E2 ≠ p := p5.free hE
              rw [List.getElem?_map] at hj
              obtain ⟨y, hy, rfl⟩ : ∃ y, spare[j]? = some y ∧ V.str y = x := by
                cases e : spare[j]? with
                | none => rw [e] at hj; cases hj
                | some y => rw [e] at hj; exact ⟨y, rfl, Option.some.inj hj⟩
              have tk : spare.take (j + 1) = spare.take j ++ [y] := by
                rw [List.take_add_one, hy]
                rfl
              refine ⟨rfl, _, rfl, _, rfl, l, _, rfl, .inl (.of hl6), rfl, flat_strs _, _, rfl, ?_⟩
              rw [if_pos rfl, inV_str]
              by_cases m : y ∈ zs
              · rw [decide_eq_true m]
                refine iteF ⟨hD6, ?_, b6, p6, hl6⟩
                rw [tk, List.filter_append, List.filter_cons_of_neg (by simp [m]), List.filter_nil, List.append_nil]
                exact hE6
              · rw [decide_eq_false m]
                refine iteT ⟨_, rfl, _, hE6, ?_, ?_, ?_, b6.free (b5.none Ep hE), p6.upd Ep, ?_⟩
                · rw [List.length_map]
                  have z1 := List.length_filter_le (fun y => !decide (y ∈ zs)) (spare.take j)
                  have z2 : (spare.take j).length ≤ 26 := by
                    rw [List.length_take, spare_len]
                    omega
                  exact small1000 (by omega)
                · rw [upd_ne (ne_of_none hD5 hE)]
                  exact hD6
                · rw [upd_same, tk, List.filter_append, List.filter_cons_of_pos (by simp [m]), List.filter_nil, List.map_append]
                  rfl
                · rw [upd_ne (ne_of_none hl5 hE)]
                  exact hl6
            · rintro H6 ⟨hD6, hE6, b6, p6, hl6⟩
              rw [List.length_map, List.take_length] at hE6
              have some1 : ∃ y0 r, (spare.filter fun y => !decide (y ∈ zs)) = y0 :: r := by
                cases e : spare.filter fun y => !decide (y ∈ zs) with
                | cons y0 r => exact ⟨y0, r, rfl⟩
                | nil =>
                  have all : ∀ y ∈ spare, y ∈ zs := fun y hy => by
                    by_cases m : y ∈ zs
                    · exact m
                    · have q : y ∈ spare.filter fun y => !decide (y ∈ zs) := List.mem_filter.mpr ⟨hy, by simp [m]⟩
                      rw [e] at q
                      cases q
                  have q := nodup_le spare_nd all
                  rw [spare_len] at q
                  omega
              obtain ⟨y0, r, e0⟩ := some1
              have y0s : y0 ∈ spare := (List.mem_filter.mp (show y0 ∈ spare.filter fun y => !decide (y ∈ zs) by rw [e0]; exact List.mem_cons_self)).1
              have y0n : y0 ∉ zs := by
                have := (List.mem_filter.mp (show y0 ∈ spare.filter fun y => !decide (y ∈ zs) by rw [e0]; exact List.mem_cons_self)).2
                simpa using this
              rw [e0] at hE6
              exact ⟨E2, _, 0, .str y0, rfl, rfl, .of hE6, atI_nat (j := 0) rfl, y0, _, _, rfl, b6, p6, hl6, spare_item y0s, y0n⟩
        · exact ⟨z, _, _, rfl, bb, p4, hl4, iz, fun m => by rw [inV_str, decide_eq_true m] at c; exact c rfl⟩
      · rintro σ H5 ⟨z, y5, y6, rfl, b5, p5, hl5, iz, zn⟩
        refine ⟨.ref l, rfl, .inl ⟨rfl, _, .inl (.inl hl5)⟩, _, rfl, l, _, _, rfl, rfl, hl5, ?_, zs ++ [z], _, _, _, _, rfl, b5.free hl, p5.upd lp, ?_, ?_, ?_, ?_⟩
        · rw [List.length_map, hz]
          exact small1000 (by omega)
        · rw [upd_same, List.map_append]
          rfl
        · rw [List.length_append, hz]
          rfl
        · intro y hy
          rcases List.mem_append.mp hy with q | q
          · exact hI y q
          · rw [List.mem_singleton.mp q]
            exact iz
        · exact List.nodup_append.mpr ⟨hND, List.nodup_cons.mpr ⟨fun m => (by cases m), .nil⟩, fun a ha b hb e => zn (by rw [← List.mem_singleton.mp hb, ← e]; exact ha)⟩
    · rintro σ H3 ⟨zs, y3, y4, y5, y6, rfl, b3, p3, hl3, hz, hI, hND⟩
      exact ⟨_, rfl, k l zs H3 b3 p3 hl lp hl3 hz hI hND⟩
end
end SE
namespace SE
open PySem PySem.Spec PyProof.Rows L2
section
variable {P : Program} {w : World} {K : PySem.W.Frag} {mg : Str → Option Value} {base : Heap}
/-! ### _law_word -/
def spWord : Sp := fun xs H Q _ => ∃ (p l : Addr) (m : Int) (zs : List Str), xs = [.ref p, .ref l, .int m] ∧ Pool H p ∧ l ≠ p ∧ H l = some (.lst (zs.map V.str)) ∧ zs ≠ [] ∧ zs.length ≤ 100 ∧ 0 ≤ m ∧ m ≤ 900 ∧
  ∀ (t : Addr) (ws : List Str) (H' : Hp), But p H H' → Pool H' p → H t = none → H' t = some (.tup (ws.map V.str)) → (ws.length : Int) ≤ m → (∀ z ∈ ws, z ∈ zs) → Q (.ref t) H'
abbrev nWord : List Str := ["_law_pool_here", "_law_items_here", "_law_most", "_law_turn"]
theorem scWord : FnScope nWord ["_law_pool_here", "_law_items_here", "_law_most"] (defScope sWord) := ⟨rfl, rfl, rfl, by decide +kernel, rfl, by decide +kernel, by decide +kernel⟩
theorem pick_str {zs : List Str} {r : Int} (h0 : 0 ≤ r) (h1 : r < (zs.length : Int)) : ∃ z, z ∈ zs ∧ atI (zs.map V.str) r = some (.str z) := by
  have hj : r.toNat < zs.length := by omega
  refine ⟨zs[r.toNat], List.getElem_mem hj, at_of (j := r.toNat) (by omega) ?_⟩
  rw [List.getElem?_map, List.getElem?_eq_getElem hj]
  rfl
theorem has_word (D : Def K mg "_law_word" sWord) (GT : Has P w K mg base "_law_take" 1 ["_law_pool_here", "_law_many"] [] spTake) (mr : mg "range" = none) (ml : mg "len" = none) (mt : mg "tuple" = none) : Has P w K mg base "_law_word" 2 ["_law_pool_here", "_law_items_here", "_law_most"] [] spWord := by
  refine has_of D scWord (fun _ _ _ _ _ _ us hl => match us, hl with | [_, _, _], _ => rfl) (fun xs H Q E h => ?_) (fun f cv A out s H xs Q E hr h => ?_)
  · obtain ⟨p, l, m, zs, rfl, _⟩ := h
    rfl
  · obtain ⟨p, l, m, zs, rfl, hp, lp, hl, hne, hz, h0, h1, k⟩ := h
    refine ⟨_, pss_one (ps_ret (pe_callTy call_tuple_of (by rfl) mt (by decide +kernel) (pa_cons
      (pe_lc (own := [("_law_turn", 3)]) (g := gName 3) (tt := tYes) (te := tOp (rIxL K) (tVar 1) (tCall spTake [] E0 (tCons (tVar 0) (tCons (tCB (Evl.rLenS K) (tCons (tVar 1) tNil)) tNil)))) rfl scWord.nd
        (pi_range1 (by rfl) mr (pa_cons (pe_has GT hr (pa_cons (pv 0) (pa_cons (pe_op op_add (pv 2) pe_int) pa_nil))) pa_nil)) (blkOk_by (own := [("_law_turn", 3)]) (N := nWord) (sc := defScope sWord) (by decide +kernel))
        (fun _ _ _ _ _ => pg_name (i := 3) scWord.nd rfl (.inl rfl)) (fun _ _ _ _ _ => pts_nil)
        (fun _ _ _ _ _ => pe_ix ix_list (pv 1) (pe_has GT hr (pa_cons (pv 0) (pa_cons (pe_callB call_len_seq (by rfl) ml PySem.boot_len (pa_cons (pv 1) pa_nil)) pa_nil))) (fun _ _ => rfl))) pa_nil))), ?_⟩
    refine ⟨_, rfl, _, rfl, m, 1, rfl, rfl, p, m + 1, rfl, hp, by omega, by omega, fun n H1 b1 p1 n0 n1 => ?_⟩
    have hl1 : H1 l = some (.lst (zs.map V.str)) := b1 l _ lp hl
    refine ⟨n, rfl, by omega, by omega, fun D hD => lc_range (lo := 0) (n := n.toNat) (fun i H2 => ∃ ws : List Str, H2 D = some (.lst (ws.map V.str)) ∧ ws.length = i ∧ (∀ z ∈ ws, z ∈ zs) ∧ But p H H2 ∧ Pool H2 p ∧ H2 l = some (.lst (zs.map V.str))) ?_ ?_ ?_⟩
    · have Dp : D ≠ p := p1.free hD
      exact ⟨[], upd_same, rfl, fun z q => (by cases q), b1.free (b1.none Dp hD), p1.upd Dp, by rw [upd_ne (ne_of_none hl1 hD)]; exact hl1⟩
    · rintro i H2 hi ⟨ws, hw, wl, wz, b2, p2, hl2⟩
      have Dp : D ≠ p := p1.free hD
      have Dl : l ≠ D := ne_of_none hl1 hD
      have hzp : 0 < zs.length := List.length_pos_iff.mpr hne
      refine ⟨rfl, yes_in ⟨_, rfl, _, rfl, _, rfl, l, _, rfl, .inl (.of hl2), p, _, rfl, p2, ?_, ?_, fun r H3 b3 p3 r0 r1 => ?_⟩⟩
      · rw [List.length_map]
        omega
      · rw [List.length_map]
        omega
      · rw [List.length_map] at r1
        obtain ⟨z, zm, az⟩ := pick_str r0 r1
        have hl3 : H3 l = some (.lst (zs.map V.str)) := b3 l _ lp hl2
        have hD3 : H3 D = some (.lst (ws.map V.str)) := b3 D _ Dp hw
        refine ⟨l, _, r, _, rfl, rfl, .of hl3, az, _, hD3, ?_, ws ++ [z], ?_, ?_, ?_, (b2.trans b3).free (b1.none Dp hD), p3.upd Dp, ?_⟩
        · rw [List.length_map, wl]
          exact small1000 (by omega)
        · rw [upd_same, List.map_append]
          rfl
        · rw [List.length_append, wl]
          rfl
        · intro y hy
          rcases List.mem_append.mp hy with q | q
          · exact wz y q
          · rw [List.mem_singleton.mp q]
            exact zm
        · rw [upd_ne Dl]
          exact hl3
    · rintro H2 ⟨ws, hw, wl, wz, b2, p2, hl2⟩
      refine ⟨D, _, rfl, .inl ⟨.of hw, fun t ht => ?_⟩⟩
      have tp : t ≠ p := p2.free ht
      refine k t ws _ (b2.free (b2.none tp ht)) (p2.upd tp) (b2.none tp ht) upd_same ?_ wz
      omega
end
end SE
namespace SE
open PySem PySem.Spec PyProof.Rows L2
/-- a test whose ways meet -/
def tCutT (t : TT) : TT := fun σ H Q => ∃ M : Bool → Hp → Prop, t σ H M ∧ ∀ b H2, M b H2 → Q b H2
theorem pt_cut {X : Cx} {e : Expr} {t : TT} (h : PT X e t) : PT X e (tCutT t) := ⟨fun pins s σ H Q I hw => by
  obtain ⟨M, h1, h2⟩ := hw
  refine thn (h.run pins s σ H M I h1) fun b s2 z => ?_
  obtain ⟨H2, I2, q⟩ := z
  exact ⟨H2, I2, h2 b H2 q⟩⟩
theorem cut_map {α : Type} (f : α → V) (hs : List α) (lo hi : Option Int) : cutV (hs.map f) lo hi = ((hs.drop (HT.sIx hs.length 0 lo)).take (HT.sIx hs.length hs.length hi - HT.sIx hs.length 0 lo)).map f := by
  unfold cutV
  rw [List.length_map, List.map_take, List.map_drop]
theorem cut_mem {α : Type} {x : α} {hs : List α} {a b : Nat} (h : x ∈ (hs.drop a).take b) : x ∈ hs := List.mem_of_mem_drop (List.mem_of_mem_take h)
/-- steps whose tuples stand in the heap -/
abbrev StepsH (H : Hp) : List V → List Stp → Prop := Paired fun v s => ∃ t, v = .ref t ∧ H t = some (.tup [.str (act s.1), .str s.2])
theorem StepsH.v {K : PySem.W.Frag} {H : Hp} {xs : List V} {ss : List Stp} (h : StepsH H xs ss) : StepsV K H xs ss := Paired.mapP h fun _ _ q => by
  obtain ⟨t, e, z⟩ := q
  exact ⟨t, e, .of z⟩
theorem StepsH.but {H H' : Hp} {p : Addr} {xs : List V} {ss : List Stp} (h : StepsH H xs ss) (hp : Pool H p) (b : But p H H') : StepsH H' xs ss := Paired.mapP h fun _ _ q => by
  obtain ⟨t, e, z⟩ := q
  exact ⟨t, e, b t _ (hp.ne z) z⟩
theorem StepsH.upd {H : Hp} {q : Addr} {o : HO} {xs : List V} {ss : List Stp} (h : StepsH H xs ss) (hq : ∀ ys, H q ≠ some (.tup ys)) : StepsH (upd H q o) xs ss := Paired.mapP h fun _ _ r => by
  obtain ⟨t, e, z⟩ := r
  refine ⟨t, e, ?_⟩
  rw [upd_ne (fun w => hq _ (by rw [← w]; exact z))]
  exact z
structure SI (p l f h : Addr) (zs : List Str) (H H3 : Hp) (xs : List V) (ss : List Stp) (hs : List Str) : Prop where
  b : But p H H3
  pl : Pool H3 p
  it : H3 l = some (.lst (zs.map V.str))
  fl : H3 f = some (.lst xs)
  st : StepsH H3 xs ss
  sz : ∀ s ∈ ss, s.2 ∈ zs
  hl : H3 h = some (.lst (hs.map V.str))
  hz : ∀ z ∈ hs, z ∈ zs
  lp : l ≠ p
  fp : f ≠ p
  fn : H f = none
  hp : h ≠ p
  hn : H h = none
  hf : h ≠ f
  hnl : h ≠ l
  lf : l ≠ f
section
variable {p l f h : Addr} {zs : List Str} {H H3 : Hp} {xs : List V} {ss : List Stp} {hs : List Str}
theorem SI.new (a : SI p l f h zs H H3 xs ss hs) {q : Addr} {o : HO} (hq : H3 q = none) : SI p l f h zs H (upd H3 q o) xs ss hs := by
  have qp : q ≠ p := a.pl.free hq
  exact ⟨a.b.free (a.b.none qp hq), a.pl.upd qp, by rw [upd_ne (ne_of_none a.it hq)]; exact a.it, by rw [upd_ne (ne_of_none a.fl hq)]; exact a.fl, a.st.upd (fun ys z => by rw [hq] at z; cases z), a.sz,
    by rw [upd_ne (ne_of_none a.hl hq)]; exact a.hl, a.hz, a.lp, a.fp, a.fn, a.hp, a.hn, a.hf, a.hnl, a.lf⟩
theorem SI.draw (a : SI p l f h zs H H3 xs ss hs) {H4 : Hp} (b : But p H3 H4) (q : Pool H4 p) : SI p l f h zs H H4 xs ss hs :=
  ⟨a.b.trans b, q, b _ _ a.lp a.it, b _ _ a.fp a.fl, a.st.but a.pl b, a.sz, b _ _ a.hp a.hl, a.hz, a.lp, a.fp, a.fn, a.hp, a.hn, a.hf, a.hnl, a.lf⟩
theorem SI.app (a : SI p l f h zs H H3 xs ss hs) {t : Addr} {c : Bool} {z : Str} (ht : H3 t = some (.tup [.str (act c), .str z])) (hz : z ∈ zs) : SI p l f h zs H (upd H3 f (.lst (xs ++ [.ref t]))) (xs ++ [.ref t]) (ss ++ [(c, z)]) hs := by
  have tf : t ≠ f := ne_of ht a.fl (by intro w; cases w)
  refine ⟨a.b.free a.fn, a.pl.upd a.fp, by rw [upd_ne a.lf]; exact a.it, upd_same, (a.st.upd (fun ys w => by rw [a.fl] at w; cases w)).snoc ⟨t, rfl, by rw [upd_ne tf]; exact ht⟩, fun s hs' => ?_, by rw [upd_ne a.hf]; exact a.hl, a.hz, a.lp, a.fp, a.fn, a.hp, a.hn, a.hf, a.hnl, a.lf⟩
  rcases List.mem_append.mp hs' with q | q
  · exact a.sz s q
  · rw [List.mem_singleton.mp q]
    exact hz
theorem SI.hset (a : SI p l f h zs H H3 xs ss hs) {ys : List Str} (hy : ∀ z ∈ ys, z ∈ zs) : SI p l f h zs H (upd H3 h (.lst (ys.map V.str))) xs ss ys :=
  ⟨a.b.free a.hn, a.pl.upd a.hp, by rw [upd_ne (Ne.symm a.hnl)]; exact a.it, by rw [upd_ne (Ne.symm a.hf)]; exact a.fl, a.st.upd (fun us w => by rw [a.hl] at w; cases w), a.sz, upd_same, hy, a.lp, a.fp, a.fn, a.hp, a.hn, a.hf, a.hnl, a.lf⟩
theorem SI.hnew (a : SI p l f h zs H H3 xs ss hs) {q : Addr} {ys : List Str} (hq : H3 q = none) (hy : ∀ z ∈ ys, z ∈ zs) : SI p l f q zs H (upd H3 q (.lst (ys.map V.str))) xs ss ys := by
  have b := a.new (o := .lst (ys.map V.str)) hq
  have qp : q ≠ p := a.pl.free hq
  exact ⟨b.b, b.pl, b.it, b.fl, b.st, b.sz, upd_same, hy, a.lp, a.fp, a.fn, qp, a.b.none qp hq, Ne.symm (ne_of_none a.fl hq), Ne.symm (ne_of_none a.it hq), a.lf⟩
end
section
variable {P : Program} {w : World} {K : PySem.W.Frag} {mg : Str → Option Value} {base : Heap}
/-! ### _law_steps -/
def spSteps : Sp := fun xs H Q _ => ∃ (p l : Addr) (m : Int) (zs : List Str), xs = [.ref p, .ref l, .int m] ∧ Pool H p ∧ l ≠ p ∧ H l = some (.lst (zs.map V.str)) ∧ zs ≠ [] ∧ zs.length ≤ 100 ∧ (∀ z ∈ zs, Item z) ∧ 0 ≤ m ∧ m ≤ 100 ∧
  ∀ (t : Addr) (us : List V) (ss : List Stp) (H' : Hp), But p H H' → Pool H' p → H t = none → H' t = some (.lst us) → StepsH H' us ss → ss.length = m.toNat → (∀ s ∈ ss, s.2 ∈ zs) → Q (.ref t) H'
abbrev nSteps : List Str := ["_law_pool_here", "_law_items_here", "_law_many", "_law_found", "_law_held", "_law_turn", "_law_way", "_law_item"]
theorem scSteps : FnScope nSteps ["_law_pool_here", "_law_items_here", "_law_many"] (defScope sSteps) := ⟨rfl, rfl, rfl, by decide +kernel, rfl, by decide +kernel, by decide +kernel⟩
theorem has_steps (D : Def K mg "_law_steps" sSteps) (GT : Has P w K mg base "_law_take" 1 ["_law_pool_here", "_law_many"] [] spTake) (mr : mg "range" = none) (ml : mg "len" = none) : Has P w K mg base "_law_steps" 2 ["_law_pool_here", "_law_items_here", "_law_many"] [] spSteps := by
  refine has_of D scSteps (fun _ _ _ _ _ _ us hl => match us, hl with | [_, _, _], _ => rfl) (fun xs H Q E h => ?_) (fun f cv A out s H xs Q E hr h => ?_)
  · obtain ⟨p, l, m, zs, rfl, _⟩ := h
    rfl
  · obtain ⟨p, l, m, zs, rfl, hp, lp, hl, hne, hz, hI, h0, h1, k⟩ := h
    refine ⟨_, pss_cons (ps_par (i := 3) (j := 4) (by rfl) scSteps.nd rfl rfl (by decide) rfl rfl (pa_cons (pe_lst pa_nil) (pa_cons (pe_lst pa_nil) pa_nil)) (by rfl))
      (pss_cons (ps_for PassesOwn.never rfl (pi_range1 (by rfl) mr (pa_cons (pv 2) pa_nil)) (pg_name (i := 5) scSteps.nd rfl (.inl rfl))
        (pss_cons (ps_set (i := 6) scSteps.nd rfl (.inl rfl) (pe_has GT hr (pa_cons (pv 0) (pa_cons pe_int pa_nil))))
        (pss_cons (ps_set (i := 7) scSteps.nd rfl (.inl rfl) (pe_ix ix_list (pv 1) (pe_has GT hr (pa_cons (pv 0) (pa_cons (pe_callB call_len_seq (by rfl) ml PySem.boot_len (pa_cons (pv 1) pa_nil)) pa_nil))) (fun _ _ => rfl)))
        (pss_one (ps_if (pt_cut (PW.pt (pw_and (pt_cmpR op_lt (pv 6) pe_int (nomark _)) (pw_and1 (pt_cmpR (op_neD hr.units) (pv 4) (pe_lst pa_nil) (nomark _))))))
          (pss_cons (ps_set (i := 7) scSteps.nd rfl (.inl rfl) (pe_bm0 PySem.F.plainAttrs_list PySem.F.slot_list_pop PySem.F.type_list_pop mt_pop (pv 4)))
          (pss_one (ps_expr (pe_bm PySem.F.plainAttrs_list PySem.F.slot_list_append PySem.F.type_list_append mt_append (pv 3) (pa_cons (pe_tup (pa_cons pe_str (pa_cons (pv 7) pa_nil))) pa_nil)))))
          (pss_one (ps_if (pt_cut (PW.pt (pw_or (pt_cmpR op_eq (pv 6) pe_int (nomark _)) (pw_or1 (PW.pt (pw_and (pt_cmpR op_eq (pv 6) pe_int (nomark _)) (pw_and1 (pt_cmpR (op_eqD hr.units) (pv 4) (pe_lst pa_nil) (nomark _)))))))))
            (pss_cons (ps_expr (pe_bm PySem.F.plainAttrs_list PySem.F.slot_list_append PySem.F.type_list_append mt_append (pv 3) (pa_cons (pe_tup (pa_cons pe_str (pa_cons (pv 7) pa_nil))) pa_nil)))
            (pss_one (ps_set (i := 4) scSteps.nd rfl (.inl rfl) (pe_ifExp (pt_cut (pt_cmpR (op_eqD hr.units) (pe_slice sl_list (pv 4) (po_some (pe_un un_neg pe_int)) po_none) (pe_lst (pa_cons (pv 7) pa_nil)) (nomark _))) (pe_slice sl_list (pv 4) po_none (po_some (pe_un un_neg pe_int))) (pv 4)))))
            (pss_cons (ps_expr (pe_bm PySem.F.plainAttrs_list PySem.F.slot_list_append PySem.F.type_list_append mt_append (pv 3) (pa_cons (pe_tup (pa_cons pe_str (pa_cons (pv 7) pa_nil))) pa_nil)))
            (pss_one (ps_expr (pe_bm PySem.F.plainAttrs_list PySem.F.slot_list_append PySem.F.type_list_append mt_append (pv 4) (pa_cons (pv 7) pa_nil)))))))))))
      ) (pss_one (ps_ret (pv 3)))), ?_⟩
    refine ⟨Nat.zero_le _, fun g hg => ⟨Nat.zero_le _, fun h0' hh => ⟨_, _, rfl, ?_⟩⟩⟩
    have gp : g ≠ p := hp.free hg
    have hh0 : H h0' = none := (Same.new hg).free hh
    have hgne : g ≠ h0' := ne_of_none upd_same hh
    have ofz : ∀ {hs : List Str}, (∀ z ∈ hs, z ∈ zs) → SeqAt.shaped (.list (hs.map PyData.str)) = true := fun {hs} q => (nice_list (nice_strs fun z m => hI z (q z m))).shaped (by decide)
    refine ⟨_, rfl, m, rfl, by omega, by omega, for_range (lo := 0) (n := m.toNat) (fun i σ H3 => ∃ (h : Addr) (xs : List V) (ss : List Stp) (hs : List Str) (y5 y6 y7 : Option V), σ = [some (.ref p), some (.ref l), some (.int m), some (.ref g), some (.ref h), y5, y6, y7] ∧ SI p l g h zs H H3 xs ss hs ∧ ss.length = i ∧ xs.length = i ∧ hs.length ≤ i) ?_ ?_ ?_⟩
    · refine ⟨h0', [], [], [], none, none, none, rfl, ⟨(But.of (Same.new hg)).free hh0, (hp.upd gp).upd (hp.free hh0), ?_, ?_, .nil, fun s q => (by cases q), upd_same, fun z q => (by cases q), lp, gp, hg, hp.free hh0, hh0, Ne.symm hgne, Ne.symm (ne_of_none hl hh0), ne_of_none hl hg⟩, rfl, rfl, Nat.le_refl _⟩
      · rw [upd_ne (ne_of_none hl hh0), upd_ne (ne_of_none hl hg)]
        exact hl
      · rw [upd_ne hgne]
        exact upd_same
    · rintro i σ H3 hi ⟨h, xs, ss, hs, y5, y6, y7, rfl, a, hsl, hxl, hhl⟩
      refine ⟨_, rfl, p, 8, rfl, a.pl, by decide, by decide, fun r H4 b4 p4 r0 r1 => ?_⟩
      have a4 := a.draw b4 p4
      have hzp : 0 < zs.length := List.length_pos_iff.mpr hne
      refine ⟨_, rfl, _, rfl, _, rfl, l, _, rfl, .inl (.of a4.it), p, _, rfl, a4.pl, ?_, ?_, fun r2 H5 b5 p5 s0 s1 => ?_⟩
      · rw [List.length_map]
        omega
      · rw [List.length_map]
        omega
      rw [List.length_map] at s1
      obtain ⟨z, zm, az⟩ := pick_str s0 s1
      have a5 := a4.draw b5 p5
      refine ⟨l, _, r2, _, rfl, rfl, .of a5.it, az, ?_⟩
      -- way < 3 and held != []
      refine ⟨fun b H6 => SI p l g h zs H H6 xs ss hs ∧ (b = true → hs ≠ []), ?_, ?_⟩
      · refine ⟨_, rfl, r, 3, rfl, rfl, _, rfl, ite2 (fun c => ?_) (fun c => ?_)⟩
        · refine ⟨_, rfl, Nat.zero_le _, fun q hq => ⟨.list (hs.map .str), .list (([] : List Str).map .str), .lst (.of (a5.new hq).hl) (dp_strs hs), .lst (.of upd_same) .nil, ofz a5.hz, ofz (fun z w => (by cases w)), _, rfl, a5.new hq, fun e => ?_⟩⟩
          rw [eqv_listS] at e
          intro z
          rw [z] at e
          exact absurd e (by decide)
        · exact ⟨a5, fun e => (by cases e)⟩
      rintro b H6 ⟨a6, hb⟩
      cases b with
      | true =>
        have hs0 : hs ≠ [] := hb rfl
        refine iteT ?_
        have hlast : (hs.map V.str)[(hs.map V.str).length - 1]? = some (.str (hs.getLast hs0)) := by
          rw [List.length_map, List.getElem?_map, ← List.getLast?_eq_getElem?, List.getLast?_eq_getLast hs0]
          rfl
        have hmem : hs.getLast hs0 ∈ zs := a6.hz _ (List.getLast_mem hs0)
        have a7 : SI p l g h zs H (upd H6 h (.lst (hs.dropLast.map V.str))) xs ss hs.dropLast := a6.hset fun z m => a6.hz z ((List.dropLast_sublist hs).subset m)
        refine ⟨.ref h, rfl, .inl ⟨rfl, _, .of a6.hl⟩, h, _, _, rfl, rfl, a6.hl, hlast, ?_⟩
        rw [← List.map_dropLast]
        refine ⟨.ref g, rfl, .inl ⟨rfl, _, .of a7.fl⟩, _, rfl, (by show 2 ≤ sizeLine; decide), fun t ht => ⟨g, _, _, rfl, rfl, (a7.new ht).fl, ?_, ?_⟩⟩
        · rw [hxl]
          exact small1000 (by omega)
        · refine ⟨h, _, ss ++ [(false, hs.getLast hs0)], _, _, _, _, rfl, (a7.new ht).app (c := false) upd_same hmem, ?_, ?_, ?_⟩
          · rw [List.length_append, hsl]
            rfl
          · rw [List.length_append, hxl]
            rfl
          · rw [List.length_dropLast]
            omega
      | false =>
        refine iteF ?_
        -- the other ways
        refine ⟨fun b H7 => SI p l g h zs H H7 xs ss hs, ?_, ?_⟩
        · refine ⟨_, rfl, rfl, _, rfl, ite2 (fun c => ?_) (fun c => ?_)⟩
          · exact a6
          · refine ⟨_, rfl, rfl, _, rfl, ite2 (fun c2 => ?_) (fun c2 => ?_)⟩
            · exact ⟨_, rfl, Nat.zero_le _, fun q hq => ⟨.list (hs.map .str), .list (([] : List Str).map .str), .lst (.of (a6.new hq).hl) (dp_strs hs), .lst (.of upd_same) .nil, ofz a6.hz, ofz (fun z w => (by cases w)), _, rfl, a6.new hq⟩⟩
            · exact a6
        rintro b H7 a7
        cases b with
        | true =>
          refine iteT ?_
          refine ⟨.ref g, rfl, .inl ⟨rfl, _, .of a7.fl⟩, _, rfl, (by show 2 ≤ sizeLine; decide), fun t ht => ⟨g, _, _, rfl, rfl, (a7.new ht).fl, ?_, ?_⟩⟩
          · rw [hxl]
            exact small1000 (by omega)
          have a8 := (a7.new ht).app (c := false) upd_same zm
          have fin : ∀ (v : Addr) (H9 : Hp) (ks : List Str), SI p l g v zs H H9 (xs ++ [.ref t]) (ss ++ [(false, z)]) ks → ks.length ≤ i → ∃ (h : Addr) (xs : List V) (ss : List Stp) (hs : List Str) (y5 y6 y7 : Option V), [some (.ref p), some (.ref l), some (.int m), some (.ref g), some (.ref v), some (.int (0 + i)), some (.int r), some (.str z)] = [some (V.ref p), some (.ref l), some (.int m), some (.ref g), some (.ref h), y5, y6, y7] ∧ SI p l g h zs H H9 xs ss hs ∧ ss.length = i + 1 ∧ xs.length = i + 1 ∧ hs.length ≤ i + 1 := by
            intro v H9 ks a9 kl
            refine ⟨v, _, _, ks, _, _, _, rfl, a9, ?_, ?_, by omega⟩
            · rw [List.length_append, hsl]
              rfl
            · rw [List.length_append, hxl]
              rfl
          refine ⟨fun b H8 => SI p l g h zs H H8 (xs ++ [.ref t]) (ss ++ [(false, z)]) hs, ?_, ?_⟩
          · refine ⟨_, rfl, 1, rfl, -1, rfl, h, _, rfl, .of a8.hl, fun q hq => ⟨_, rfl, (by show 1 ≤ sizeLine; decide), fun q2 hq2 => ?_⟩⟩
            have a9 := (a8.new hq (o := .lst (cutV (hs.map V.str) (some (-1)) none))).new hq2 (o := .lst [.str z])
            have ne2 : q ≠ q2 := ne_of_none upd_same hq2
            refine ⟨.list (((hs.drop (HT.sIx hs.length 0 (some (-1)))).take (HT.sIx hs.length hs.length none - HT.sIx hs.length 0 (some (-1)))).map .str), .list ([z].map .str), .lst (.of ?_) (dp_strs _), .lst (.of upd_same) (dp_strs [z]), ofz (fun y m => a8.hz y (cut_mem m)), ofz (fun y m => (by rw [List.mem_singleton.mp m]; exact zm)), _, rfl, a9⟩
            rw [upd_ne ne2, upd_same, cut_map]
          rintro b H8 a9
          cases b with
          | true =>
            refine iteT ?_
            refine ⟨_, rfl, 1, rfl, -1, rfl, h, _, rfl, .of a9.hl, fun q hq => ?_⟩
            rw [cut_map]
            refine fin q _ _ (a9.hnew hq fun y m => a9.hz y (cut_mem m)) ?_
            rw [List.length_take, List.length_drop]
            omega
          | false =>
            refine iteF ?_
            exact ⟨_, rfl, fin h H8 hs a9 hhl⟩
        | false =>
          refine iteF ?_
          refine ⟨.ref g, rfl, .inl ⟨rfl, _, .of a7.fl⟩, _, rfl, (by show 2 ≤ sizeLine; decide), fun t ht => ⟨g, _, _, rfl, rfl, (a7.new ht).fl, ?_, ?_⟩⟩
          · rw [hxl]
            exact small1000 (by omega)
          have a8 := (a7.new ht).app (c := true) upd_same zm
          refine ⟨.ref h, rfl, .inl ⟨rfl, _, .of a8.hl⟩, _, rfl, h, _, _, rfl, rfl, a8.hl, ?_, ?_⟩
          · rw [List.length_map]
            exact small1000 (by omega)
          · have a9 : SI p l g h zs H (upd _ h (.lst ((hs ++ [z]).map V.str))) (xs ++ [.ref t]) (ss ++ [(true, z)]) (hs ++ [z]) := a8.hset fun y m => by
              rcases List.mem_append.mp m with q | q
              · exact a8.hz y q
              · rw [List.mem_singleton.mp q]
                exact zm
            rw [List.map_append] at a9
            refine ⟨h, _, _, _, _, _, _, rfl, a9, ?_, ?_, ?_⟩
            · rw [List.length_append, hsl]
              rfl
            · rw [List.length_append, hxl]
              rfl
            · rw [List.length_append]
              show hs.length + 1 ≤ i + 1
              omega
    · rintro σ H3 ⟨h, xs, ss, hs, y5, y6, y7, rfl, a, hsl, hxl, hhl⟩
      exact ⟨_, rfl, k g xs ss H3 a.b a.pl hg a.fl a.st hsl a.sz⟩
end
end SE
namespace SE
open PySem PySem.Spec PyProof.Rows L2
/-! ### what is never reached; types -/
theorem pe_never {X : Cx} {e : Expr} : PE X e (fun _ _ _ => False) := ⟨fun _ _ _ _ _ _ h => h.elim⟩
theorem ty_tup {K : PySem.W.Frag} {H : Hp} {a : Addr} {xs : List V} (h : SqT K H a xs) : TyX K H (.ref a) (.type "tuple") := by
  rcases h with (h | ⟨o, h⟩) | ⟨o, its, n, h1, h2, _⟩
  · exact .base (.tup h)
  · exact .fTuple h
  · exact .kTuple h1 h2
theorem ty_lst {K : PySem.W.Frag} {H : Hp} {a : Addr} {xs : List V} (h : SqL K H a xs) : TyX K H (.ref a) (.type "list") := by
  rcases h with (h | ⟨o, h⟩) | ⟨o, its, n, h1, h2, _⟩
  · exact .base (.lst h)
  · exact .base (.frz h)
  · exact .kList h1 h2
theorem bl_snoc (n : Nat) : (List.replicate n true).map V.bl ++ [V.bl true] = (List.replicate (n + 1) true).map V.bl := by
  rw [List.replicate_succ', List.map_append]
  rfl
theorem all_true (n : Nat) : (List.replicate n true).all id = true := by
  rw [List.all_eq_true]
  intro b hb
  rw [(List.mem_replicate.mp hb).2]
  rfl
theorem abc_has {c : Nat} (h : 97 ≤ c ∧ c ≤ 122) : c ∈ abc.cps.toList := by
  have q : ∀ j : Fin 26, (97 + j.1) ∈ abc.cps.toList := by decide +kernel
  have z := q ⟨c - 97, by omega⟩
  have e : 97 + (c - 97) = c := by omega
  rw [← e]
  exact z
/-- the module's constants -/
structure Cons (K : PySem.W.Frag) (w : World) (mg : Str → Option Value) : Prop where
  let_ : ∃ t, mg "LETTERS" = some (.str abc t)
  ml : ∃ t, mg "MOST_LETTERS" = some (.int 8 t)
  ms : ∃ t, mg "MOST_STEPS" = some (.int 1000 t)
  opp : ∃ (d : Addr) (es : Array DictEntry) (n : Nat) (u v : Value), mg "OPPOSITES" = some (.ref d) ∧ KDict K w d es n ∧ PySem.W.nsIn K d "push" = some (some u) ∧ RelV (.str "pop") u ∧ PySem.W.nsIn K d "pop" = some (some v) ∧ RelV (.str "push") v
/-- built-in names that the module leaves as they are -/
structure Blt (mg : Str → Option Value) : Prop where
  isi : mg "isinstance" = none
  str : mg "str" = none
  len : mg "len" = none
  all : mg "all" = none
  tup : mg "tuple" = none
  lst : mg "list" = none
  enu : mg "enumerate" = none
section
variable {P : Program} {w : World} {K : PySem.W.Frag} {mg : Str → Option Value} {base : Heap}
/-! ### is_item -/
def spIsItem : Sp := fun xs H Q _ => ∃ (z : Str), xs = [.str z] ∧ Item z ∧ ∀ H', Same H H' → Q (.bl true) H'
theorem scIsItem : FnScope ["value", "letter"] ["value"] (defScope sIsItem) := ⟨rfl, rfl, rfl, by decide +kernel, rfl, by decide +kernel, by decide +kernel⟩
theorem has_isItem (D : Def K mg "is_item" sIsItem) (B : Blt mg) (C : Cons K w mg) : Has P w K mg base "is_item" 1 ["value"] [] spIsItem := by
  obtain ⟨tl, hL⟩ := C.let_
  obtain ⟨tm, hM⟩ := C.ml
  refine has_of D scIsItem (fun _ _ _ _ _ _ us hl => match us, hl with | [_], _ => rfl) (fun xs H Q E h => ?_) (fun f cv A out s H xs Q E hr h => ?_)
  · obtain ⟨z, rfl, _⟩ := h
    rfl
  · obtain ⟨z, rfl, iz, k⟩ := h
    refine ⟨_, pss_cons (ps_if (PW.pt (pw_or (pt_not (pt_val (pe_callB call_isi (by rfl) B.isi (by decide +kernel) (pa_cons (pv 0) (pa_cons (pe_bltn (v := .ty "str") (by rfl) B.str (by decide +kernel) rfl) pa_nil)))))
        (pw_or1 (pt_not (pt_chain op_le op_le pe_int (pe_callB call_len_str (by rfl) B.len PySem.boot_len (pa_cons (pv 0) pa_nil)) (pe_glob (v := .int 8) rfl hM ⟨_, rfl⟩)))))) (pss_one (ps_ret pe_bl)) pss_nil)
      (pss_one (ps_ret (pe_callB (cr_all rfl) (by rfl) B.all (by decide +kernel) (pa_cons
        (pe_lc (own := [("letter", 1)]) (g := gName 1) (tt := tYes) rfl scIsItem.nd (pi_str (pv 0)) (blkOk_by (own := [("letter", 1)]) (N := ["value", "letter"]) (sc := defScope sIsItem) (by decide +kernel))
          (fun _ _ _ _ _ => pg_name (i := 1) scIsItem.nd rfl (.inl rfl)) (fun _ _ _ _ _ => pts_nil) (fun _ _ _ _ _ => pe_cmpR op_in_sign (pv 1) (pe_glob (v := .str abc) rfl hL ⟨_, rfl⟩) (by rfl))) pa_nil)))), ?_⟩
    refine ⟨_, rfl, _, .ty "str", .type "str", .type "str", true, rfl, .ty _, .base (.str z), kit_ty (by decide +kernel), true, rfl, iteF ?_⟩
    have p1 : (1 : Int) ≤ (z.length : Int) := by have := iz.pos; omega
    have p2 : (z.length : Int) ≤ 8 := by have := iz.most; omega
    refine ⟨_, rfl, z, rfl, Nat.le_of_lt (small1000 (by have := iz.most; omega)), 1, _, rfl, rfl, true, congrArg V.bl (decide_eq_true p1), iteT ⟨_, 8, rfl, rfl, true, congrArg V.bl (decide_eq_true p2), iteF ?_⟩⟩
    refine ⟨_, rfl, z, rfl, fun D hD => lc_it walk_str (fun j H2 => H2 D = some (.lst ((List.replicate j true).map V.bl)) ∧ Same H H2) ⟨upd_same, Same.new hD⟩ (fun _ _ _ _ => trivial) ?_ ?_⟩
    · rintro j x H2 H3 hj ⟨h2, s2⟩ ⟨rfl, c, hc, rfl⟩
      refine ⟨rfl, yes_in ⟨_, rfl, c, abc, rfl, rfl, _, h2, ?_, ?_, ?_⟩⟩
      · rw [List.length_map, List.length_replicate]
        have : j < z.length := hj
        have := iz.most
        exact small1000 (by omega)
      · have cm : c ∈ z.cps.toList := by
          have q : z.cps.toList[j]? = some c := by rw [Array.getElem?_toList]; exact hc
          exact List.mem_of_getElem? q
        rw [upd_same, decide_eq_true (abc_has (iz.low c cm)), bl_snoc]
      · exact Same.free2 s2 hD
    · rintro H2 ⟨h2, s2⟩
      refine ⟨D, _, rfl, .of h2, ?_⟩
      rw [all_true]
      exact k H2 s2
/-! ### is_word -/
def spIsWord (K : PySem.W.Frag) : Sp := fun xs H Q _ => ∃ (a : Addr) (zs : List Str), xs = [.ref a] ∧ SqT K H a (zs.map V.str) ∧ zs.length ≤ 5000 ∧ (∀ z ∈ zs, Item z) ∧ ∀ H', Same H H' → Q (.bl true) H'
theorem scIsWord : FnScope ["value", "item"] ["value"] (defScope sIsWord) := ⟨rfl, rfl, rfl, by decide +kernel, rfl, by decide +kernel, by decide +kernel⟩
theorem has_isWord (D : Def K mg "is_word" sIsWord) (G : Has P w K mg base "is_item" 1 ["value"] [] spIsItem) (B : Blt mg) : Has P w K mg base "is_word" 2 ["value"] [] (spIsWord K) := by
  refine has_of D scIsWord (fun _ _ _ _ _ _ us hl => match us, hl with | [_], _ => rfl) (fun xs H Q E h => ?_) (fun f cv A out s H xs Q E hr h => ?_)
  · obtain ⟨a, zs, rfl, _⟩ := h
    rfl
  · obtain ⟨a, zs, rfl, hT, hz, hI, k⟩ := h
    refine ⟨_, pss_one (ps_ret (pe_and (pe_callB call_isi (by rfl) B.isi (by decide +kernel) (pa_cons (pv 0) (pa_cons (pe_bltn (v := .ty "tuple") (by rfl) B.tup (by decide +kernel) rfl) pa_nil)))
      (pe_one (pe_callB (cr_all rfl) (by rfl) B.all (by decide +kernel) (pa_cons
        (pe_lc (own := [("item", 1)]) (g := gName 1) (tt := tYes) (te := tCall spIsItem [] E0 (tCons (tVar 1) tNil)) rfl scIsWord.nd (pi_tup (pv 0)) (blkOk_by (own := [("item", 1)]) (N := ["value", "item"]) (sc := defScope sIsWord) (by decide +kernel))
          (fun _ _ _ _ _ => pg_name (i := 1) scIsWord.nd rfl (.inl rfl)) (fun _ _ _ _ _ => pts_nil) (fun _ _ _ _ _ => pe_has G hr (pa_cons (pv 1) pa_nil))) pa_nil))))), ?_⟩
    refine ⟨_, rfl, _, .ty "tuple", .type "tuple", .type "tuple", true, rfl, .ty _, ty_tup hT, kit_ty (by decide +kernel), true, rfl, iteT ?_⟩
    refine ⟨_, rfl, a, rfl, ⟨_, hT⟩, fun D hD => lc_tup (K := K) (a := a) (xs := zs.map V.str) (fun j H2 => H2 D = some (.lst ((List.replicate j true).map V.bl)) ∧ Same H H2) ⟨upd_same, Same.new hD⟩ (fun _ _ _ q => Same.tup q.2 hT) ?_ ?_⟩
    · rintro j x H2 hj ⟨h2, s2⟩
      have jl : j < zs.length := by
        have := (List.getElem?_eq_some_iff.mp hj).1
        rwa [List.length_map] at this
      rw [List.getElem?_map, List.getElem?_eq_getElem jl] at hj
      have e := Option.some.inj hj
      subst e
      refine ⟨rfl, yes_in ⟨_, rfl, zs[j], rfl, hI _ (List.getElem_mem jl), fun H3 s3 => ⟨_, s3 _ _ h2, ?_, ?_, ?_⟩⟩⟩
      · rw [List.length_map, List.length_replicate]
        exact Nat.lt_of_lt_of_le jl (Nat.le_trans hz (by decide))
      · rw [upd_same, bl_snoc]
      · exact Same.free2 (s2.trans s3) hD
    · rintro H2 ⟨h2, s2⟩
      refine ⟨D, _, rfl, .of h2, ?_⟩
      rw [all_true]
      exact k H2 s2
/-! ### is_step -/
def spIsStep (K : PySem.W.Frag) : Sp := fun xs H Q _ => ∃ (v : V) (s : Stp), xs = [v] ∧ StepV K H v s ∧ Item s.2 ∧ ∀ H', Same H H' → Q (.bl true) H'
theorem scIsStep : FnScope ["value", "action", "item"] ["value"] (defScope sIsStep) := ⟨rfl, rfl, rfl, by decide +kernel, rfl, by decide +kernel, by decide +kernel⟩
theorem has_isStep (D : Def K mg "is_step" sIsStep) (G : Has P w K mg base "is_item" 1 ["value"] [] spIsItem) (B : Blt mg) (C : Cons K w mg) : Has P w K mg base "is_step" 2 ["value"] [] (spIsStep K) := by
  obtain ⟨d, es, n, u1, u2, hO, KD, n1, r1, n2, r2⟩ := C.opp
  refine has_of D scIsStep (fun _ _ _ _ _ _ us hl => match us, hl with | [_], _ => rfl) (fun xs H Q E h => ?_) (fun f cv A out s H xs Q E hr h => ?_)
  · obtain ⟨v, st, rfl, _⟩ := h
    rfl
  · obtain ⟨v, st, rfl, ⟨t, rfl, hT⟩, iz, k⟩ := h
    refine ⟨_, pss_cons (ps_if (PW.pt (pw_or (pt_not (pt_val (pe_callB call_isi (by rfl) B.isi (by decide +kernel) (pa_cons (pv 0) (pa_cons (pe_bltn (v := .ty "tuple") (by rfl) B.tup (by decide +kernel) rfl) pa_nil)))))
        (pw_or1 (pt_cmpR op_ne (pe_callB call_len_seq (by rfl) B.len PySem.boot_len (pa_cons (pv 0) pa_nil)) pe_int (nomark _))))) (pss_one (ps_ret pe_bl)) pss_nil)
      (pss_cons (ps_asg (pv 0) (pg_tup (by rfl) (pgs_cons (pg_name (i := 1) scIsStep.nd rfl (.inl rfl)) (pgs_cons (pg_name (i := 2) scIsStep.nd rfl (.inl rfl)) pgs_nil))))
      (pss_one (ps_ret (pe_and (pe_callB call_isi (by rfl) B.isi (by decide +kernel) (pa_cons (pv 1) (pa_cons (pe_bltn (v := .ty "str") (by rfl) B.str (by decide +kernel) rfl) pa_nil)))
        (pe_and (pe_cmpR (op_in_kd KD) (pv 1) (pe_glob (v := .ref d) rfl hO rfl) (by rfl)) (pe_one (pe_has G hr (pa_cons (pv 2) pa_nil)))))))), ?_⟩
    refine ⟨_, rfl, _, .ty "tuple", .type "tuple", .type "tuple", true, rfl, .ty _, ty_tup hT, kit_ty (by decide +kernel), true, rfl, iteF ?_⟩
    refine ⟨_, rfl, t, _, rfl, .inr hT, rfl, _, rfl, iteF ?_⟩
    refine ⟨_, rfl, t, _, rfl, hT, rfl, _, _, rfl, _, _, rfl, rfl, ?_⟩
    refine ⟨_, rfl, _, .ty "str", .type "str", .type "str", true, rfl, .ty _, .base (.str _), kit_ty (by decide +kernel), true, rfl, iteT ?_⟩
    have inO : ∃ r, PySem.W.nsIn K d (act st.1) = some r ∧ r.isSome = true := by
      cases e : st.1 with
      | true => exact ⟨some u1, n1, rfl⟩
      | false => exact ⟨some u2, n2, rfl⟩
    obtain ⟨r, hr1, hr2⟩ := inO
    refine ⟨_, rfl, act st.1, r, rfl, rfl, hr1, r.isSome, rfl, ?_⟩
    rw [hr2]
    exact iteT ⟨_, rfl, st.2, rfl, iz, k⟩
end
end SE
namespace SE
open PySem PySem.Spec PyProof.Rows L2
section
variable {P : Program} {w : World} {K : PySem.W.Frag} {mg : Str → Option Value} {base : Heap}
/-! ### may_hold_steps -/
def spMay (K : PySem.W.Frag) : Sp := fun xs H Q _ => ∃ (a : Addr) (ys : List V), xs = [.ref a] ∧ (SqL K H a ys ∨ SqT K H a ys) ∧ ys.length ≤ 1000 ∧ ∀ H', Same H H' → Q (.bl true) H'
theorem scMay : FnScope ["value"] ["value"] (defScope sMayHold) := ⟨rfl, rfl, rfl, by decide +kernel, rfl, by decide +kernel, by decide +kernel⟩
theorem has_may (D : Def K mg "may_hold_steps" sMayHold) (B : Blt mg) (C : Cons K w mg) : Has P w K mg base "may_hold_steps" 1 ["value"] [] (spMay K) := by
  obtain ⟨tm, hM⟩ := C.ms
  refine has_of D scMay (fun _ _ _ _ _ _ us hl => match us, hl with | [_], _ => rfl) (fun xs H Q E h => ?_) (fun f cv A out s H xs Q E hr h => ?_)
  · obtain ⟨a, ys, rfl, _⟩ := h
    rfl
  · obtain ⟨a, ys, rfl, hS, hl, k⟩ := h
    refine ⟨_, pss_one (ps_ret (pe_and (pe_callB call_isiT (by rfl) B.isi (by decide +kernel) (pa_cons (pv 0) (pa_cons (pe_tup (pa_cons (pe_bltn (v := .ty "list") (by rfl) B.lst (by decide +kernel) rfl) (pa_cons (pe_bltn (v := .ty "tuple") (by rfl) B.tup (by decide +kernel) rfl) pa_nil))) pa_nil)))
      (pe_one (pe_cmpR op_le (pe_callB call_len_seq (by rfl) B.len PySem.boot_len (pa_cons (pv 0) pa_nil)) (pe_glob (v := .int 1000) rfl hM ⟨_, rfl⟩) (nomark _))))), ?_⟩
    refine ⟨_, rfl, (by show 2 ≤ sizeLine; decide), fun t ht => ?_⟩
    have s1 : Same H (upd H t (.tup [.ty "list", .ty "tuple"])) := Same.new ht
    have p1 : (ys.length : Int) ≤ 1000 := by omega
    have ty : ∃ T, TyX K (upd H t (.tup [.ty "list", .ty "tuple"])) (.ref a) T ∧ PySem.W.kitAny K T [.type "list", .type "tuple"] = some true := by
      rcases hS with q | q
      · exact ⟨_, ty_lst (Same.seq s1 q), kitAny_cons (b := true) (kit_ty (by decide +kernel)) (fun z => (by cases z)) (fun _ => rfl)⟩
      · exact ⟨_, ty_tup (Same.tup s1 q), kitAny_cons (b := false) (kit_ty (by decide +kernel)) (fun _ => kitAny_cons (b := true) (kit_ty (by decide +kernel)) (fun z => (by cases z)) (fun _ => rfl)) (fun z => (by cases z))⟩
    obtain ⟨T, ty1, ty2⟩ := ty
    refine ⟨_, t, _, T, _, true, rfl, upd_same, .cons (.ty _) (.cons (.ty _) .nil), ty1, ty2, true, rfl, iteT ?_⟩
    refine ⟨_, rfl, a, ys, rfl, hS.imp (Same.seq s1) (Same.tup s1), _, 1000, rfl, rfl, ?_⟩
    show Q (V.bl (decide ((ys.length : Int) ≤ 1000))) _
    rw [decide_eq_true p1]
    exact k _ s1
/-! ### check_steps -/
def spChkSteps (K : PySem.W.Frag) : Sp := fun xs H Q _ => ∃ (a : Addr) (ys : List V) (ss : List Stp), xs = [.ref a] ∧ (SqL K H a ys ∨ SqT K H a ys) ∧ ys.length ≤ 1000 ∧ StepsV K H ys ss ∧ (∀ s ∈ ss, Item s.2) ∧ ∀ H', Same H H' → Q .non H'
theorem scChk : FnScope ["steps", "index", "step"] ["steps"] (defScope sChkSteps) := ⟨rfl, rfl, rfl, by decide +kernel, rfl, by decide +kernel, by decide +kernel⟩
theorem walk_enumT {K : PySem.W.Frag} {a : Addr} {xs : List V} : Walk (ItE K a) xs.length (fun H => SqT K H a xs) (YPair (fun i => some (.int (i : Nat))) (fun i => xs[i]?)) := by
  refine ⟨fun i _ hi q => ⟨xs, xs[i], q, by simp [hi]⟩, fun _ q => ⟨xs, q, Nat.le_refl _⟩, fun i H v H2 _ q y => ?_⟩
  obtain ⟨T, x, h1, h2, h3, h4⟩ := y
  exact ⟨T, .int (i : Nat), x, h1, h2, h3, rfl, h4 xs q⟩
theorem has_chkSteps (D : Def K mg "check_steps" sChkSteps) (GM : Has P w K mg base "may_hold_steps" 1 ["value"] [] (spMay K)) (GS : Has P w K mg base "is_step" 2 ["value"] [] (spIsStep K)) (B : Blt mg) : Has P w K mg base "check_steps" 3 ["steps"] [] (spChkSteps K) := by
  refine has_of D scChk (fun _ _ _ _ _ _ us hl => match us, hl with | [_], _ => rfl) (fun xs H Q E h => ?_) (fun f cv A out s H xs Q E hr h => ?_)
  · obtain ⟨a, ys, ss, rfl, _⟩ := h
    rfl
  · obtain ⟨a, ys, ss, rfl, hS, hl, hV, hI, k⟩ := h
    have hr1 : Room 1 _ := hr.mono (by decide)
    have one : ∀ {i : Nat} {y : V} {H2 : Hp}, ys[i]? = some y → Same H H2 → ∃ s, StepV K H2 y s ∧ Item s.2 := by
      intro i y H2 hy s2
      obtain ⟨st, h1, h2⟩ := StepsV.at hV hy
      exact ⟨st, h2.same s2, hI st (List.mem_of_getElem? h1)⟩
    rcases hS with hS | hS
    · refine ⟨_, pss_cons (ps_if (pt_not (pt_val (pe_has GM hr1 (pa_cons (pv 0) pa_nil)))) pss_never pss_nil)
        (pss_one (ps_for PassesOwn.never rfl (pi_enum (by rfl) B.enu (pa_cons (pv 0) pa_nil)) (pg_tup (by rfl) (pgs_cons (pg_name (i := 1) scChk.nd rfl (.inl rfl)) (pgs_cons (pg_name (i := 2) scChk.nd rfl (.inl rfl)) pgs_nil)))
          (pss_one (ps_if (pt_not (pt_val (pe_has GS hr (pa_cons (pv 2) pa_nil)))) pss_never pss_nil)))), ?_⟩
      refine ⟨_, rfl, a, ys, rfl, .inl hS, hl, fun H1 s1 => ⟨true, rfl, iteF ?_⟩⟩
      refine ⟨_, rfl, a, ys, rfl, Same.seq s1 hS, for_it (walk_enum (K := K) (a := a) (xs := ys)) (fun i σ H2 => ∃ y1 y2, σ = [some (.ref a), y1, y2] ∧ Same H H2) ⟨none, none, rfl, s1⟩ (fun i σ H2 _ q => ?_) ?_ ?_⟩
      · obtain ⟨_, _, _, s2⟩ := q
        exact Same.seq s2 hS
      · rintro i x σ H2 H3 hi ⟨y1, y2, rfl, s2⟩ ⟨T, p, y, rfl, nT, rfl, hp, hy⟩
        refine ⟨T, _, rfl, .of upd_same, rfl, _, _, rfl, _, _, rfl, rfl, ?_⟩
        have s3 : Same H (upd H2 T (.tup [p, y])) := Same.free2 s2 (s2.free nT)
        obtain ⟨st, h1, h2⟩ := one hy s3
        exact ⟨_, rfl, y, st, rfl, h1, h2, fun H4 s4 => ⟨true, rfl, iteF ⟨_, _, rfl, s3.trans s4⟩⟩⟩
      · rintro σ H2 ⟨y1, y2, rfl, s2⟩
        exact k H2 s2
    · refine ⟨_, pss_cons (ps_if (pt_not (pt_val (pe_has GM hr1 (pa_cons (pv 0) pa_nil)))) pss_never pss_nil)
        (pss_one (ps_for PassesOwn.never rfl (pi_enumT (by rfl) B.enu (pa_cons (pv 0) pa_nil)) (pg_tup (by rfl) (pgs_cons (pg_name (i := 1) scChk.nd rfl (.inl rfl)) (pgs_cons (pg_name (i := 2) scChk.nd rfl (.inl rfl)) pgs_nil)))
          (pss_one (ps_if (pt_not (pt_val (pe_has GS hr (pa_cons (pv 2) pa_nil)))) pss_never pss_nil)))), ?_⟩
      refine ⟨_, rfl, a, ys, rfl, .inr hS, hl, fun H1 s1 => ⟨true, rfl, iteF ?_⟩⟩
      refine ⟨_, rfl, a, ys, rfl, Same.tup s1 hS, for_it (walk_enumT (K := K) (a := a) (xs := ys)) (fun i σ H2 => ∃ y1 y2, σ = [some (.ref a), y1, y2] ∧ Same H H2) ⟨none, none, rfl, s1⟩ (fun i σ H2 _ q => ?_) ?_ ?_⟩
      · obtain ⟨_, _, _, s2⟩ := q
        exact Same.tup s2 hS
      · rintro i x σ H2 H3 hi ⟨y1, y2, rfl, s2⟩ ⟨T, p, y, rfl, nT, rfl, hp, hy⟩
        refine ⟨T, _, rfl, .of upd_same, rfl, _, _, rfl, _, _, rfl, rfl, ?_⟩
        have s3 : Same H (upd H2 T (.tup [p, y])) := Same.free2 s2 (s2.free nT)
        obtain ⟨st, h1, h2⟩ := one hy s3
        exact ⟨_, rfl, y, st, rfl, h1, h2, fun H4 s4 => ⟨true, rfl, iteF ⟨_, _, rfl, s3.trans s4⟩⟩⟩
      · rintro σ H2 ⟨y1, y2, rfl, s2⟩
        exact k H2 s2
/-! ### check_word, is_limit, check_limit, check_run, is_too_high -/
def spChkWord (K : PySem.W.Frag) : Sp := fun xs H Q _ => ∃ (a : Addr) (zs : List Str), xs = [.ref a] ∧ SqT K H a (zs.map V.str) ∧ zs.length ≤ 5000 ∧ (∀ z ∈ zs, Item z) ∧ ∀ H', Same H H' → Q .non H'
theorem scCw : FnScope ["word"] ["word"] (defScope sChkWord) := ⟨rfl, rfl, rfl, by decide +kernel, rfl, by decide +kernel, by decide +kernel⟩
theorem has_chkWord (D : Def K mg "check_word" sChkWord) (G : Has P w K mg base "is_word" 2 ["value"] [] (spIsWord K)) : Has P w K mg base "check_word" 3 ["word"] [] (spChkWord K) := by
  refine has_of D scCw (fun _ _ _ _ _ _ us hl => match us, hl with | [_], _ => rfl) (fun xs H Q E h => ?_) (fun f cv A out s H xs Q E hr h => ?_)
  · obtain ⟨a, zs, rfl, _⟩ := h
    rfl
  · obtain ⟨a, zs, rfl, hT, hz, hI, k⟩ := h
    refine ⟨_, pss_one (ps_if (pt_not (pt_val (pe_has G hr (pa_cons (pv 0) pa_nil)))) pss_never pss_nil), ?_⟩
    exact ⟨_, rfl, a, zs, rfl, hT, hz, hI, fun H1 s1 => ⟨true, rfl, iteF (k H1 s1)⟩⟩
end
end SE
namespace SE
open PySem PySem.Spec PyProof.Rows L2
/-- a def with keyword-only defaults alone -/
def DefK (K : PySem.W.Frag) (mg : Str → Option Value) (x : Str) (st : Stmt) (kws : List (Str × V)) : Prop := ∃ f fd, Fun K x x st f fd ∧ FunD K x x (defArgs st) (defBody st) (defScope st) [] kws f fd ∧ mg x = some (.ref f)
end SE
namespace SE
open PySem PySem.Spec PyProof.Rows L2
section
variable {P : Program} {w : World} {K : PySem.W.Frag} {mg : Str → Option Value} {base : Heap}
/-! ### is_whole, is_between, check_between -/
def spWhole : Sp := fun xs H Q _ => ∃ n : Int, xs = [.int n] ∧ Q (.bl true) H
theorem scWh : FnScope ["value"] ["value"] (defScope sIsWhole) := ⟨rfl, rfl, rfl, by decide +kernel, rfl, by decide +kernel, by decide +kernel⟩
theorem has_whole (D : Def K mg "is_whole" sIsWhole) (B : Blt mg) (mi : mg "int" = none) (mb : mg "bool" = none) : Has P w K mg base "is_whole" 1 ["value"] [] spWhole := by
  refine has_of D scWh (fun _ _ _ _ _ _ us hl => match us, hl with | [_], _ => rfl) (fun xs H Q E h => ?_) (fun f cv A out s H xs Q E hr h => ?_)
  · obtain ⟨n, rfl, _⟩ := h
    rfl
  · obtain ⟨n, rfl, k⟩ := h
    refine ⟨_, pss_one (ps_ret (pe_and (pe_callB call_isi (by rfl) B.isi (by decide +kernel) (pa_cons (pv 0) (pa_cons (pe_bltn (v := .ty "int") (by rfl) mi (by decide +kernel) rfl) pa_nil)))
      (pe_one (pe_not (pe_callB call_isi (by rfl) B.isi (by decide +kernel) (pa_cons (pv 0) (pa_cons (pe_bltn (v := .ty "bool") (by rfl) mb (by decide +kernel) rfl) pa_nil))))))), ?_⟩
    refine ⟨_, rfl, _, .ty "int", .type "int", .type "int", true, rfl, .ty _, .base (.int n), kit_ty (by decide +kernel), true, rfl, iteT ?_⟩
    exact ⟨_, rfl, _, .ty "bool", .type "int", .type "bool", false, rfl, .ty _, .base (.int n), kit_ty (by decide +kernel), false, rfl, k⟩
end
end SE
/-! (x,) * n for n up to 5000. -/
namespace SE
open PySem PySem.Spec PyProof.Rows L2
def rRepB (K : PySem.W.Frag) : R2 := fun x y H Q => ∃ (l : Addr) (k : Int) (v : V), x = .ref l ∧ y = .int k ∧ SqT K H l [v] ∧ 2 ≤ k ∧ k ≤ 5000 ∧ ∀ p, H p = none → Q (.ref p) (upd H p (.tup (List.replicate k.toNat v)))
theorem op_repB {X : Cx} : OpR X (binaryOp .Mult) (rRepB X.K) := by
  intro pins s σ H x y a u Q I rx ry h
  obtain ⟨l, k, v, rfl, rfl, hT, h1, h2, q⟩ := h
  cases rx
  obtain ⟨t, rfl⟩ := ry
  obtain ⟨its, r, ⟨⟨cls, dd, data, sl⟩, ho, hc, n, hd⟩, hs⟩ := I.tuple hT
  simp only at hc hd
  subst hc hd
  obtain ⟨w, rfl⟩ : ∃ w, its = [w] := by
    cases r with
    | cons r1 r2 =>
      cases r2
      exact ⟨_, rfl⟩
  have sz : (([w] : List Value).toArray.size : Int) * k = k := by
    show ((1 : Nat) : Int) * k = k
    omega
  have rep : ∀ {α : Type} (z : α), (List.replicate k.toNat [z]).flatten = List.replicate k.toNat z := fun z => List.flatten_replicate_singleton
  have big : k.toNat ≤ sizeLine := by
    rw [sizeLine_eq]
    omega
  refine wpAny_binaryOp_repeat_ref (T := "tuple") (U := "int") (by decide) ⟨_, ho, rfl⟩ (fun s2 => typeIs_int s2 k t) noFill_tuple_mul F.fills_int_mul F.slot_int_rmul repeat_tuple F.slot_int_index.lookup ?_
  refine call_meets F.slot_int_rmul (typeIs_int s k t) F.entry_int_rmul (F.args_int_rmul_2 _ _) (int_rmul_tuple k t l _ n dd sl) ⟨ho, rfl, ⟨_, ho, rfl⟩, ?_⟩
  refine call_meets F.slot_tuple_mul ⟨_, ho, rfl⟩ F.entry_tuple_mul (F.args_tuple_mul_2 _ _) (tuple_mulW l _ n dd sl k t ?_ ?_ ?_ ?_ ?_ ?_) ⟨ho, ?_⟩
  · rw [decide_eq_false (by omega), decide_eq_false (by omega)]
    rfl
  · show (false || k == 1) = false
    rw [Bool.false_or]
    exact beq_eq_false_iff_ne.mpr (by omega)
  · show (decide (k ≤ 0) || false) = false
    rw [Bool.or_false]
    exact decide_eq_false (by omega)
  · rw [sz]
    omega
  · rw [sz]
    unfold Builtin.Tuple.tupleTooMany
    rw [sizeLine_eq]
    exact decide_eq_false (by omega)
  · rw [size_rep, List.size_toArray, rep, List.length_replicate]
    exact big
  · rw [size_rep, rep]
    refine ⟨.ref s.heap.objs.size, _, I.laid (t' := s.toks) (o := .tup (List.replicate k.toNat v)) (fun b ob e => Heap.get?_push_of_some _ e) (Nat.le_refl _) ?_, rfl, q _ (I.hok.fresh (Nat.le_refl _))⟩
    refine ⟨by rw [List.length_replicate]; exact big, _, ?_, IsTup.new _ _⟩
    have z := r.rep k.toNat
    rw [rep, rep] at z
    exact z
end SE
/-! Tuples: t * n, t + u, t[a:b] whichever object comes out; len(set(t)) of texts. -/
namespace SE
open PySem PySem.Spec PyProof.Rows L2
section
variable {X : Cx}
theorem tmul_one (l : Addr) (w : Value) (n : Nat) (dd : Option Addr) (sl : Array (Option Value)) (u : Tok) :
    Meets (Builtin.«tuple.__mul__» ⟨[.ref l, .int 1 u], []⟩) (fun _ R s => s.heap.get? l = some { cls := .type "tuple", dict := dd, data := .seq #[w] n, slots := sl } ∧ R (.ok (.ret (Value.ref l))) s) :=
  .of_wp fun prog wd A R s h => by
    obtain ⟨hp, g, d, tk, os⟩ := s
    obtain ⟨hl, h⟩ := h
    have f1 := AutoSeq1.idx_int
    wp_walk using AutoSeq1.wpAny_loadPart' hl
    exact ⟨_, rfl, h⟩
theorem tmul_none (l : Addr) (w : Value) (n : Nat) (dd : Option Addr) (sl : Array (Option Value)) (k : Int) (u : Tok) (h0 : -1000000 ≤ k) (h1 : k ≤ 0) :
    Meets (Builtin.«tuple.__mul__» ⟨[.ref l, .int k u], []⟩) (fun _ R s => s.heap.get? l = some { cls := .type "tuple", dict := dd, data := .seq #[w] n, slots := sl } ∧
      R (.ok (.ret (Value.ref s.heap.objs.size))) { s with heap := s.heap.push { cls := .type "tuple", data := .seq #[] } }) :=
  .of_wp fun prog wd A R s h => by
    obtain ⟨hp, g, d, tk, os⟩ := s
    obtain ⟨hl, h⟩ := h
    have f1 := AutoSeq1.idx_int
    have c0 : (decide (k < -(2 ^ 63)) || decide (k ≥ 2 ^ 63)) = false := by
      rw [decide_eq_false (by omega), decide_eq_false (by omega)]
      rfl
    have c1 : ((#[w] : Array Value).isEmpty || k == 1) = false := by
      show (false || k == 1) = false
      rw [Bool.false_or]
      exact beq_eq_false_iff_ne.mpr (by omega)
    have c2 : (decide (k ≤ 0) || (#[w] : Array Value).isEmpty) = true := by
      rw [decide_eq_true h1]
      rfl
    wp_walk using AutoSeq1.wpAny_loadPart' hl
    repeat (first
      | (refine wpAny_ite_false (decide_eq_false (by rw [c0]; exact Bool.false_ne_true)) ?_; wp_walk using AutoSeq1.wpAny_loadPart' hl)
      | (refine wpAny_ite_false (decide_eq_false (by rw [c1]; exact Bool.false_ne_true)) ?_; wp_walk using AutoSeq1.wpAny_loadPart' hl)
      | (refine wpAny_ite_true (decide_eq_true (by rw [c2])) ?_; wp_walk using AutoSeq1.wpAny_loadPart' hl))
    exact ⟨_, rfl, h⟩
/-- (x,) * k, any k -/
def rRepS (K : PySem.W.Frag) : R2 := fun x y H Q => ∃ (l : Addr) (k : Int) (v : V), x = .ref l ∧ y = .int k ∧ SqT K H l [v] ∧ -1000000 ≤ k ∧ k ≤ 5000 ∧ ∀ (p : Addr) (H' : Hp), Same H H' → SqT K H' p (List.replicate k.toNat v) → Q (.ref p) H'
theorem op_repS : OpR X (binaryOp .Mult) (rRepS X.K) := by
  intro pins s σ H x y a u Q I rx ry h
  obtain ⟨l, k, v, rfl, rfl, hT, h1, h2, q⟩ := h
  by_cases c : 2 ≤ k
  · exact op_repB pins s σ H _ _ a u Q I rx ry ⟨l, k, v, rfl, rfl, hT, c, h2, fun p hp => q p _ (Same.new hp) (.of upd_same)⟩
  cases rx
  obtain ⟨t, rfl⟩ := ry
  obtain ⟨its, r, ⟨⟨cls, dd, data, sl⟩, ho, hc, n, hd⟩, hs⟩ := I.tuple hT
  simp only at hc hd
  subst hc hd
  obtain ⟨w, rfl⟩ : ∃ w, its = [w] := by
    cases r with
    | cons r1 r2 =>
      cases r2
      exact ⟨_, rfl⟩
  refine wpAny_binaryOp_repeat_ref (T := "tuple") (U := "int") (by decide) ⟨_, ho, rfl⟩ (fun s2 => typeIs_int s2 k t) noFill_tuple_mul F.fills_int_mul F.slot_int_rmul repeat_tuple F.slot_int_index.lookup ?_
  refine call_meets F.slot_int_rmul (typeIs_int s k t) F.entry_int_rmul (F.args_int_rmul_2 _ _) (int_rmul_tuple k t l _ n dd sl) ⟨ho, rfl, ⟨_, ho, rfl⟩, ?_⟩
  by_cases c1 : k = 1
  · subst c1
    refine call_meets F.slot_tuple_mul ⟨_, ho, rfl⟩ F.entry_tuple_mul (F.args_tuple_mul_2 _ _) (tmul_one l w n dd sl t) ⟨ho, ?_⟩
    exact ⟨.ref l, H, I, rfl, q l H (Same.refl H) hT⟩
  · have k0 : k ≤ 0 := by omega
    refine call_meets F.slot_tuple_mul ⟨_, ho, rfl⟩ F.entry_tuple_mul (F.args_tuple_mul_2 _ _) (tmul_none l w n dd sl k t h1 k0) ⟨ho, ?_⟩
    refine ⟨.ref s.heap.objs.size, _, I.laid (t' := s.toks) (o := .tup []) (fun b ob e => Heap.get?_push_of_some _ e) (Nat.le_refl _) ?_, rfl, q _ _ (Same.new (I.hok.fresh (Nat.le_refl _))) ?_⟩
    · exact ⟨Nat.zero_le _, [], .nil, IsTup.new _ _⟩
    · rw [show k.toNat = 0 by omega]
      exact .of upd_same
/-- t + u -/
def rCatS (K : PySem.W.Frag) : R2 := fun x y H Q => ∃ (a b : Addr) (xs ys : List V), x = .ref a ∧ y = .ref b ∧ SqT K H a xs ∧ SqT K H b ys ∧ xs.length + ys.length ≤ sizeLine ∧ ∀ (p : Addr) (H' : Hp), Same H H' → SqT K H' p (xs ++ ys) → Q (.ref p) H'
theorem op_catS : OpR X (binaryOp .Add) (rCatS X.K) := by
  intro pins s σ H x y v u Q I rx ry h
  obtain ⟨a, b, xs, ys, rfl, rfl, ha, hb, hz, q⟩ := h
  refine op_catA pins s σ H _ _ v u Q I rx ry ⟨a, b, xs, ys, rfl, rfl, ha, hb, hz, fun e => ?_, fun _ e => ?_, fun _ _ p hp => q p _ (Same.new hp) (.of upd_same)⟩
  · subst e
    exact q b H (Same.refl H) hb
  · subst e
    exact q a H (Same.refl H) (by rw [List.append_nil]; exact ha)
/-- t[lo:hi] -/
def rSlS (K : PySem.W.Frag) : V → Option Int → Option Int → Hp → VK → Prop := fun x lo hi H Q => ∃ (a : Addr) (xs : List V), x = .ref a ∧ SqT K H a xs ∧ ∀ (p : Addr) (H' : Hp), Same H H' → SqT K H' p (cutV xs lo hi) → Q (.ref p) H'
theorem sl_tupS : SlR X (rSlS X.K) := by
  intro pins s σ H x v vl vu lo hi sl Q I rx hs pl pu h
  obtain ⟨a, xs, rfl, hx, q⟩ := h
  refine sl_tupA pins s σ H _ v vl vu lo hi sl Q I rx hs pl pu ⟨a, xs, rfl, hx, fun e => q a H (Same.refl H) ?_, fun _ p hp => q p _ (Same.new hp) (.of upd_same)⟩
  have e2 : cutV xs lo hi = xs := by
    unfold cutV
    rw [e.1, e.2, List.drop_zero, Nat.sub_zero, List.take_length]
  rw [e2]
  exact hx
end
end SE
/-! A for in a generator's body; a generator def called with keywords. -/
namespace SE
open PySem PySem.Spec PyProof.Rows L2 GenW
section
variable {X : Cx}
def tGFor (wi : TI) (g : TG) (tb : TGn) : TGn := fun D ys σ H => wi σ H fun J H1 => ∃ W : Nat → Nat → List V → L2.St → Hp → Prop, (∃ m, W 0 m ys σ H1) ∧ ∀ i m ys σ H, W i m ys σ H →
  (J.stop i H ∧ D.nx ys σ H) ∨ (J.go i H ∧ ∃ N : List V → L2.St → Hp → Prop, (∀ zs σ2 H2, N zs σ2 H2 → ∃ j, j < m ∧ W (i + 1) j zs σ2 H2) ∧ ∀ x H2, J.yld i H x H2 → g x σ H2 fun σ3 H3 => tb { D with nx := N, ct := N, bk := D.nx } ys σ3 H3)
theorem gs_for {tg iter : Expr} {body : List Stmt} {pos : Pos} {wi : TI} {g : TG} {tb : TGn} (hp : PassesOwn (model X.prog X.w) X.A X.env X.xe) (hc : X.calm = true) (hi : PI X tg iter wi) (hg : PG X tg g) (hb : GSs X body tb)
    (hs : ∀ x, foldedSetIterable iter X.env x = pure x := by intro _; rfl) : GS X (.For tg iter body [] pos) (tGFor wi g tb) := by
  constructor
  intro A S ip R n ys s₀ c fs K J gd lv s σ H D gc hn k hI ht
  obtain ⟨acc, cc, r, I⟩ := hI
  rw [exec_For]
  refine seg_bind_wrap (wpAny_standAt ?_)
  refine seg_bind_wrap ?_
  rw [gc.over]
  refine wpAny_mono (hi.run _ s σ H _ I ht) (fun v s1 h1 => ?_) fun x s2 hx => k.exc n s₀ x s2 hx
  refine seg_bind_wrap (wpAny_of_eq (hs v) ?_)
  refine seg_bind_wrap (wpAny_standAt ?_)
  refine seg_bind_wrap (wpAny_holding ?_)
  rw [gc.over]
  refine wpAny_mono h1 (fun itv s2 h2 => ?_) fun x s3 hx => k.exc n s₀ x s3 hx
  obtain ⟨it, fp, tn, Jt, H2, e2, I2, T, st2, f2, W, ⟨m0, w0⟩, turn⟩ := h2
  subst e2
  refine seg_call fun p => ?_
  have gl := fun (kk : Result → Sem PySem.Fin) => gc_loop (X := X) (k := kk) (c' := .forLoop tg (.ref it) body [] X.env) (l := lv []) (kp := []) (p := p) gc rfl rfl
  have apart : ∀ b ∈ fp, b ≠ S := fun b hb z => by
    obtain ⟨_, _, _, _, _, q⟩ := f2 b hb
    exact q (S, lstObj acc cc) (List.mem_append_right _ List.mem_cons_self) z.symm
  have fpok : ∀ {acc2 : Array Value} {c2 : Nat} {H3 : Hp}, (∀ b ∈ fp, H3 b = none) → ∀ b ∈ fp, FpOk X ((S, lstObj acc2 c2) :: ip) H3 b := by
    intro acc2 c2 H3 hn3 b hb
    obtain ⟨_, a2, a3, a4, a5, a6⟩ := f2 b hb
    refine ⟨hn3 b hb, a2, a3, a4, a5, fun q hq => ?_⟩
    rcases List.mem_append.mp hq with z | z
    · exact a6 q (List.mem_append_left _ z)
    · rcases List.mem_cons.mp z with y | y
      · rw [y]
        exact Ne.symm (apart b hb)
      · exact a6 q (List.mem_append_right _ (List.mem_cons_of_mem _ y))
  have loop : ∀ (m n i : Nat) (ys : List V) (s₀ s : Shared) (σ : L2.St) (H : Hp), n + ys.length = sizeLine → W i m ys σ H → GI X S ip ys σ H s → tn i s.heap → (∀ b ∈ fp, H b = none) →
      Seg (model X.prog X.w) A R (GY X S) n s₀ (.forLoop tg (.ref it) body [] X.env) ((model X.prog X.w).den (.forLoop tg (.ref it) body [] X.env))
        (.ret (fun r => ((match r with | .ok f => (.pure f : Sem Flow) | .error e => .raise e).onRaise (cameBack X.env)).wrap K J gd lv) none (gd false) (lv []) c p [] :: fs) s := by
    intro m
    induction m using Nat.strongRecOn with
    | ind m ih =>
      intro n i ys s₀ s σ H hn w hI st fr
      have ee : ∀ (n : Nat) (s₀ : Shared) (x : Value) (s4 : Shared), X.xe x s4 → Seg (model X.prog X.w) A R (GY X S) n s₀ (.forLoop tg (.ref it) body [] X.env)
          ((do noteFrame x X.env; theTreesLotGoes x : Sem Unit).bind fun _ => .raise x)
          (.ret (fun r => ((match r with | .ok f => (.pure f : Sem Flow) | .error e => .raise e).onRaise (cameBack X.env)).wrap K J gd lv) none (gd false) (lv []) c p [] :: fs) s4 := fun n s₀ x s4 hx => by
        rw [Sem.bind_eq_wrap]
        refine seg_wrap ?_
        rw [(gl _).over]
        refine wpAny_bind (wpAny_mono (hp x s4 hx) (fun _ s5 hcb => wpAny_theTreesLotGoes ?_) fun y s5 hcb => ?_)
        · exact seg_leaf (.error x) (seg_cameBack gc k hcb)
        · exact seg_leaf (.error y) (seg_cameBack gc k hcb)
      show Seg _ A R _ n s₀ _ ((forTurn tg (.ref it) body [] X.env).onRaise (fun x => do noteFrame x X.env; theTreesLotGoes x)) _ s
      unfold forTurn
      rw [Sem.onRaise_eq_wrap]
      refine seg_bind_wrap (wpAny_standAt ?_)
      refine seg_bind_wrap ?_
      rw [(gl _).over]
      obtain ⟨acc3, c3, r3, I3⟩ := hI
      rcases turn i m ys σ H w with ⟨stop, qn⟩ | ⟨go, N, hN, step⟩
      · refine wpAny_onRaise (wpAny_mono (T.done X rfl rfl rfl hc i _ s σ H X.xe I3 (fpok fr) st stop) (fun rr s4 hh => ?_) fun x s4 hx => wpAny_standAt (ee n s₀ x s4 hx))
        obtain ⟨hr, I4⟩ := hh
        subst hr
        refine seg_again rfl ?_
        show Seg _ A R _ n s₀ _ (do return Fin.done (← (execs [] X.env).onRaise (fun x => do noteFrame x X.env; theTreesLotGoes x))) _ s4
        exact seg_leaf (.ok .next) (k.ok n ys s₀ s4 .next hn ⟨σ, H, ⟨acc3, c3, r3, I4⟩, qn⟩)
      · refine wpAny_onRaise (wpAny_mono (T.item X rfl rfl rfl hc i _ s σ H X.xe I3 (fpok fr) st go) (fun rr s4 hh => ?_) fun x s4 hx => wpAny_standAt (ee n s₀ x s4 hx))
        obtain ⟨u, hr, h4⟩ := hh
        subst hr
        refine seg_bind_wrap ?_
        rw [(gl _).over]
        refine wpAny_mono h4 (fun _ s5 hh => ?_) fun x s5 hx => ee n s₀ x s5 hx
        obtain ⟨x, H5, I5, r5, y5, st5, fr5⟩ := hh
        have I6 := I5.pinned (fpok fr5) (T.obj _ _ st5)
        refine seg_bind_wrap ?_
        rw [(gl _).over]
        refine wpAny_mono (hg.run _ s5 σ H5 x u _ I6 r5 (step x H5 y5)) (fun _ s6 hh => ?_) fun x s6 hx => ee n s₀ x s6 hx
        obtain ⟨σ6, H6, I7, q6⟩ := hh
        have gb : GC X S (ip ++ pinsAt fp s5.heap) A (.forLoop tg (.ref it) body [] X.env) (.ret (fun r => ((match r with | .ok f => (.pure f : Sem Flow) | .error e => .raise e).onRaise (cameBack X.env)).wrap K J gd lv) none (gd false) (lv []) c p [] :: fs) id := by
          have q := gl (fun r => ((match r with | .ok f => (.pure f : Sem Flow) | .error e => .raise e).onRaise (cameBack X.env)).wrap K J gd lv)
          refine ⟨q.pn, fun z hz => ?_, q.apart, q.over, q.split, q.guard, q.gd⟩
          rcases List.mem_append.mp hz with y | y
          · exact q.ip z y
          · exact apart z.1 (of_pinsAt y).1
        rw [Sem.bind_eq_wrap', Sem.wrap_wrap]
        refine hb.run A S (ip ++ pinsAt fp s5.heap) R n ys s₀ _ _ _ _ id id s6 σ6 H6 { D with nx := N, ct := N, bk := D.nx } gb hn ⟨fun n2 zs s7 s8 f hn2 hs8 => ?_, fun n2 s7 x s8 hx => ee n2 s7 x s8 hx⟩ ⟨acc3, c3, r3, I7⟩ q6
        have again : ∀ {σ8 : L2.St} {H8 : Hp}, GI X S (ip ++ pinsAt fp s5.heap) zs σ8 H8 s8 → N zs σ8 H8 → Seg (model X.prog X.w) A R (GY X S) n2 s7 (.forLoop tg (.ref it) body [] X.env) ((model X.prog X.w).den (.forLoop tg (.ref it) body [] X.env))
            (.ret (fun r => ((match r with | .ok f => (.pure f : Sem Flow) | .error e => .raise e).onRaise (cameBack X.env)).wrap K J gd lv) none (gd false) (lv []) c p [] :: fs) s8 := by
          intro σ8 H8 G8 n8
          obtain ⟨j, hj, w8⟩ := hN zs σ8 H8 n8
          obtain ⟨acc8, c8, r8, I8⟩ := G8
          have pin8 : ∀ b ∈ fp, ∀ o, s5.heap.get? b = some o → s8.heap.get? b = some o ∧ H8 b = none := fun b hb o e => by
            have q := I8.pin (b, o) (List.mem_append_right _ (List.mem_cons_of_mem _ (List.mem_append_right _ (mem_pinsAt hb e))))
            exact ⟨q.1, q.2.1⟩
          refine ih j hj n2 (i + 1) zs s7 s8 σ8 H8 hn2 w8 ⟨acc8, c8, r8, I8.pins_of fun q hq => I8.pin q (List.mem_append_right _ ?_)⟩ (T.keep _ _ _ st5 fun b hb o e => (pin8 b hb o e).1) fun b hb => ?_
          · rcases List.mem_cons.mp hq with y | y
            · rw [y]
              exact List.mem_cons_self
            · exact List.mem_cons_of_mem _ (List.mem_append_left _ y)
          · obtain ⟨o, e, _⟩ := T.obj _ _ st5 b hb
            exact (pin8 b hb o e).2
        have thin : ∀ {σ8 : L2.St} {H8 : Hp}, GI X S (ip ++ pinsAt fp s5.heap) zs σ8 H8 s8 → GI X S ip zs σ8 H8 s8 := by
          intro σ8 H8 G8
          obtain ⟨acc8, c8, r8, I8⟩ := G8
          refine ⟨acc8, c8, r8, I8.pins_of fun q hq => I8.pin q (List.mem_append_right _ ?_)⟩
          rcases List.mem_cons.mp hq with y | y
          · rw [y]
            exact List.mem_cons_self
          · exact List.mem_cons_of_mem _ (List.mem_append_left _ y)
        cases f with
        | next =>
          obtain ⟨σ8, H8, G8, n8⟩ := hs8
          exact seg_again rfl (again G8 n8)
        | cont =>
          obtain ⟨σ8, H8, G8, n8⟩ := hs8
          exact seg_again rfl (again G8 n8)
        | brk =>
          obtain ⟨σ8, H8, G8, n8⟩ := hs8
          exact seg_leaf (.ok .next) (k.ok n2 zs s7 s8 .next hn2 ⟨σ8, H8, thin G8, n8⟩)
        | ret v =>
          obtain ⟨x8, σ8, H8, G8, r8, n8⟩ := hs8
          exact seg_leaf (.ok (.ret v)) (k.ok n2 zs s7 s8 (.ret v) hn2 ⟨x8, σ8, H8, thin G8, r8, n8⟩)
  exact loop m0 n 0 ys s₀ s2 σ H2 hn w0 ⟨acc, cc, r, I2⟩ st2 fun b hb => (f2 b hb).1
end
end SE
/-! Calls by keywords. -/
namespace SE
open PySem PySem.Spec PyProof.Rows L2 GenW
section
variable {K : PySem.W.Frag} {x qual : Str} {params : Arguments} {body : List Stmt} {scope : Scope} {kws : List (Str × V)} {f : Addr} {fd : FuncData} {ps : List Str}
/-- keyword-only defaults alone; ms: those that lack -/
theorem kb_some (F : FunD K x qual params body scope [] kws f fd) (n : Nat) (ks : List Str) (ms : List (Str × V)) (g : {α : Type} → List α → List α → List α → List α) (hk : kws ≠ []) (hms : ∀ q ∈ ms, q ∈ kws)
    (hrel : ∀ {vs mz zs : List V} {us mv ws : List Value}, Vals vs us → Vals mz mv → Vals zs ws → Vals (g vs mz zs) (g us mv ws))
    (h : ∀ (D : Addr) (doc pm : Value) (an : Option Addr) (cv ct : Value) (us mv ws : List Value), us.length = n → mv.length = ms.length → ws.length = ks.length →
      KwChain D ((ms.map (·.1)).zip mv) (bindArgs (PySem.W.fnOf x qual params body scope .none (.ref D) doc pm an cv ct) ⟨us, ks.zip ws⟩) (ps.zip (g us mv ws))) :
    ∃ mv : List Value, KBn K fd ps n ks (fun us ws => g us mv ws) (fun vs zs => g vs (ms.map (·.2)) zs) := by
  obtain ⟨oc, od, dV, kV, doc, pm, an, cv, ct, osl, rfl, look, hc, hD, hK⟩ := F.ex
  rcases hD with ⟨_, rfl⟩ | ⟨e, _⟩
  · rcases hK with e | ⟨D, rfl, hq⟩
    · exact absurd e hk
    · obtain ⟨mv, hl, rk, hks⟩ := kwd_vals (ms := ms) fun q hm => hq q (hms q hm)
      exact ⟨mv, fun s us ws X l1 l2 => BindsTo.of_looks fun M => KwChain.looks X hks (h D doc pm an cv ct us mv ws l1 hl l2), fun r1 r2 => hrel r1 rk r2⟩
  · exact absurd rfl e
theorem kb_all {st : Stmt} (F : Fun K x qual st f fd) (n : Nat) (ks : List Str) (g : {α : Type} → List α → List α → List α)
    (hrel : ∀ {vs zs : List V} {us ws : List Value}, Vals vs us → Vals zs ws → Vals (g vs zs) (g us ws))
    (h : ∀ (kV doc pm : Value) (an : Option Addr) (cv ct : Value) (us ws : List Value), us.length = n → ws.length = ks.length → bindArgs (PySem.W.fnOf x qual (defArgs st) (defBody st) (defScope st) .none kV doc pm an cv ct) ⟨us, ks.zip ws⟩ = pure (ps.zip (g us ws))) :
    KBn K fd ps n ks (fun us ws => g us ws) (fun vs zs => g vs zs) := by
  obtain ⟨oc, od, kV, doc, pm, an, cv, ct, osl, rfl, look, hc⟩ := F.ex
  exact ⟨fun s us ws X l1 l2 => .of_eq (h kV doc pm an cv ct us ws l1 l2), fun r1 r2 => hrel r1 r2⟩
end
section
variable {X : Cx} {k n : Nat} {f : Addr} {fd : FuncData} {ps ks : List Str} {sp : Sp} {E : XK} {x : Str} {p pos : Pos} {e : Expr} {es : List Expr} {kws : List Keyword} {t tk : TA} {g : List Value → List Value → List Value} {gV : List V → List V → List V}
/-- f(k = v, ..) -/
theorem pe_kw0 (F : FnOk X.prog X.w X.K X.mg X.base CX0 k f fd ps sp) (hr : Room k X.A) (hg : Gl X x) (hm : X.mg x = some (.ref f)) (hk : PySem.W.keepIn X.K (.ref f) = true) (hb : KBn X.K fd ps 0 ks g gV)
    (hkw : PK X kws tk) (hall : (backToKw pos (keywordEach kws X.env)).all (·.1.isSome) = true := by rfl) (hks : (backToKw pos (keywordEach kws X.env)).filterMap (·.1) = ks := by rfl)
    (hdb : (x == ("__debug__" : Str)) = false := by decide) (hpl : ((backTo pos (starEach [] X.env)).any (·.1) || (backToKw pos (keywordEach kws X.env)).any (·.1.isNone)) = false := by rfl) :
    PE X (.Call (.Name x p) [] kws pos) (tCallN 0 ks.length sp gV E0 tNil tk) := by
  constructor
  intro pins s σ H Q I h
  apply wpAny_Call_Name_kw
  apply ld_glob I hg hm _ hdb
  refine PySem.W.callWith_KW0 (h₀ := X.base) I.ok.mod.kin hk hall (thn (hkw.run pos pins s σ H _ I h) fun ws s2 hh => ?_) hpl
  obtain ⟨zs, H2, I2, rz, l1, l2, q2⟩ := hh
  refine ⟨I2.kIn, ?_⟩
  rw [hks]
  exact run_fnN F hr hb pass0 I2 .nil rz l1 l2 q2
/-! ### generators -/
variable {sg : SpG}
theorem run_gkw {pins : List (Addr × Obj)} {σ : L2.St} {H : Hp} {s : Shared} {us ws : List Value} {vs zs : List V} {cont : List V → Hp → Prop} {E1 : Value → Shared → Prop} (F : GFn X.prog X.w X.K X.mg X.base k f fd ps sg) (hr : Room k X.A) (hb : KBn X.K fd ps n ks g gV)
    (I : Inv X pins σ H s) (r : Vals vs us) (rz : Vals zs ws) (l1 : vs.length = n) (l2 : zs.length = ks.length) (h : sg (gV vs zs) H cont E) :
    wpAny (model X.prog X.w) X.A (call (.ref f) us (ks.zip ws)) (fun u s2 => ∃ H1 sc ex, Inv X pins σ H1 sc ∧ ExOk X pins ex ∧ GMade X.prog X.w k X.stack H1 sc ex cont E u s2) E1 s := by
  have r2 := hb.rel r rz
  refine wpAny_call (codeAny_mono (F.run X.A X.stack s H ⟨us, ks.zip ws⟩ (g us ws) (gV vs zs) cont E hr I.env0 (hb.to s us ws I.kIn (r.length.symm.trans l1) (rz.length.symm.trans l2)) r2 h) fun rr s2 hq => ?_)
  cases rr with
  | error _ => exact hq.elim
  | ok fl =>
    cases fl with
    | ret u => exact ⟨H, s, [], I, .nil, hq⟩
    | next => exact hq.elim
    | brk => exact hq.elim
    | cont => exact hq.elim
def tGenN (n m : Nat) (sg : SpG) (gV : List V → List V → List V) (E : XK) (t tk : TA) : TGen := fun σ H cont => t σ H fun vs H1 => tk σ H1 fun zs H2 => vs.length = n ∧ zs.length = m ∧ sg (gV vs zs) H2 cont E
theorem pgen_kw (F : GFn X.prog X.w X.K X.mg X.base k f fd ps sg) (hr : Room k X.A) (hg : Gl X x) (hm : X.mg x = some (.ref f)) (hk : PySem.W.keepIn X.K (.ref f) = true) (hb : KBn X.K fd ps n ks g gV)
    (ha : PA X (e :: es) t) (hkw : PK X kws tk) (hall : (backToKw pos (keywordEach kws X.env)).all (·.1.isSome) = true := by rfl) (hks : (backToKw pos (keywordEach kws X.env)).filterMap (·.1) = ks := by rfl)
    (hdb : (x == ("__debug__" : Str)) = false := by decide) (he : starEach (e :: es) X.env = (false, eval e X.env) :: starEach es X.env := by rfl)
    (hpl : ((backTo pos (starEach (e :: es) X.env)).any (·.1) || (backToKw pos (keywordEach kws X.env)).any (·.1.isNone)) = false := by rfl) :
    PGen X k (.Call (.Name x p) (e :: es) kws pos) (tGenN n ks.length sg gV E t tk) E := by
  constructor
  intro pins s σ H cont I h
  apply wpAny_Call_Name_kw
  apply ld_glob I hg hm _ hdb
  refine PySem.W.callWith_KW (h₀ := X.base) I.ok.mod.kin hk hall (thn (ha.run pos pins s σ H _ I h) fun us s1 hh => ?_) hpl he
  obtain ⟨vs, H1, I1, r, q⟩ := hh
  refine thn (hkw.run pos pins s1 σ H1 _ I1 q) fun ws s2 hh => ?_
  obtain ⟨zs, H2, I2, rz, l1, l2, q2⟩ := hh
  refine ⟨I2.kIn, ?_⟩
  rw [hks]
  exact run_gkw F hr hb I2 r rz l1 l2 q2
theorem pgen_kw0 (F : GFn X.prog X.w X.K X.mg X.base k f fd ps sg) (hr : Room k X.A) (hg : Gl X x) (hm : X.mg x = some (.ref f)) (hk : PySem.W.keepIn X.K (.ref f) = true) (hb : KBn X.K fd ps 0 ks g gV)
    (hkw : PK X kws tk) (hall : (backToKw pos (keywordEach kws X.env)).all (·.1.isSome) = true := by rfl) (hks : (backToKw pos (keywordEach kws X.env)).filterMap (·.1) = ks := by rfl)
    (hdb : (x == ("__debug__" : Str)) = false := by decide) (hpl : ((backTo pos (starEach [] X.env)).any (·.1) || (backToKw pos (keywordEach kws X.env)).any (·.1.isNone)) = false := by rfl) :
    PGen X k (.Call (.Name x p) [] kws pos) (tGenN 0 ks.length sg gV E tNil tk) E := by
  constructor
  intro pins s σ H cont I h
  apply wpAny_Call_Name_kw
  apply ld_glob I hg hm _ hdb
  refine PySem.W.callWith_KW0 (h₀ := X.base) I.ok.mod.kin hk hall (thn (hkw.run pos pins s σ H _ I h) fun ws s2 hh => ?_) hpl
  obtain ⟨zs, H2, I2, rz, l1, l2, q2⟩ := hh
  refine ⟨I2.kIn, ?_⟩
  rw [hks]
  exact run_gkw F hr hb I2 .nil rz l1 l2 q2
/-- nothing is raised by a generator that raises nothing -/
theorem pass_gen : Passes (CX X.prog X.w) X E0 := by
  intro pins σ H s e s2 I h
  obtain ⟨a, B, H2, cls, d, _, _, _, _, _, _, _, q⟩ := h
  exact q.elim
theorem nostop0 {K : PySem.W.Frag} : NoStop K E0 := fun _ _ _ h => h.elim
end
end SE
namespace SE
open PySem PySem.Spec PyProof.Rows L2
/-! ### rules: a class held by a local name, called; a classmethod called with nothing -/
section
variable {X : Cx} {CX : CXT} {k i : Nat} {f C p g : Addr} {mc : Value} {fd : FuncData} {ps : List Str} {sp : Sp} {dvs : List V} {ds : List Value} {E : XK} {x m : Str} {pn pos apos : Pos} {o e : Expr} {es : List Expr} {ta : TE} {t : TA} {pl : Sem Bool}
def tMakeL (i : Nat) (C : Addr) (sp : Sp) (dvs : List V) (E : XK) (t : TA) : TE := fun σ H Q => σ[i]? = some (some (.ref C)) ∧ tMake C sp dvs E t σ H Q
theorem pe_makeL (M : Mk X.K C f) (F : FnOk X.prog X.w X.K X.mg X.base CX k f fd ps sp) (hr : Room (k + 1) X.A) (hN : X.N[i]? = some x) (hv : Vis X.env.scope x) (hb : Binds X.K fd ps ds) (hd : Vals dvs ds) (hx : Passes CX X E)
    (ha : PA X (e :: es) t) (hdb : (x == ("__debug__" : Str)) = false := by decide) (hcd : (x == ("__classdict__" : Str)) = false := by decide)
    (he : starEach (e :: es) X.env = (false, eval e X.env) :: starEach es X.env := by rfl) (hpl : (backTo pos (starEach es X.env)).any (·.1) = false := by rfl) :
    PE X (.Call (.Name x pn) (e :: es) [] pos) (tMakeL i C sp dvs E t) := by
  constructor
  intro pins s σ H Q I h
  obtain ⟨hs, ht⟩ := h
  refine wpAny_Call_Name_kw (thn ((pe_var (pos := pn) hN hv hdb hcd).run pins s σ H (fun v H1 => v = .ref C ∧ H1 = H) I ⟨.ref C, hs, rfl, rfl⟩) fun u s1 hh => ?_)
  obtain ⟨v, H1, I1, r1, rfl, rfl⟩ := hh
  cases r1
  refine PySem.W.callWith_K (h₀ := X.base) I.ok.mod.kin M.kp (thn (ha.run pos pins s1 σ _ _ I1 ht) fun us s2 hh => ?_) he hpl
  obtain ⟨vs, H2, I2, r, q⟩ := hh
  exact ⟨I2.kIn, run_make M F hr hb hd hx I2 r q⟩
/-- C.m() -/
def tCMeth0 (C : Addr) (sp : Sp) (E : XK) (ta : TE) : TE := fun σ H Q => ta σ H fun x H1 => x = .ref C ∧ sp [.ref C] H1 Q E
theorem pe_cmeth0 (he : PE X o ta) (r : ClX.CRead X.K C mc) (c : ClX.CMet X.K C mc m p g) (F : FnR X.prog X.w X.K X.mg X.base CX k g sp) (hr : Room k X.A) (hx : Passes CX X E)
    (ht : eval (.Call (.Attribute o m apos) [] [] pos) X.env = (do
      let v ← eval o X.env
      standAt apos.atName
      let (f, first) ← holding [v] (getMethod v m pl)
      callWith pos f first (backTo pos (starEach [] X.env)) (backToKw pos (keywordEach [] X.env))) := by rfl) :
    PE X (.Call (.Attribute o m apos) [] [] pos) (tCMeth0 C sp E ta) := by
  constructor
  intro pins s σ H Q I h
  refine PySem.W.methodCall_KW (pl := pl) (thn (he.run pins s σ H _ I h) fun u s1 hh => ?_) ht
  obtain ⟨v, H1, I1, rx, ex, q⟩ := hh
  subst ex
  obtain rfl : u = Value.ref C := rx
  refine ClX.getmethcm_ok I1 r c fun s2 I2 => ?_
  exact PySem.W.callWith_M0 ⟨ClX.pin_at I2, I2.kIn⟩ c.fi (ClX.run_cm (us := []) (vs := []) F hr hx I2 .nil q)
end
end SE
namespace SE
open PySem PySem.Spec PyProof.Rows L2
/-! ### the class Effect -/
abbrev sInit : Stmt := inClass sEffect 0
abbrev sNever : Stmt := inClass sEffect 2
abbrev sPops : Stmt := inClass sEffect 4
abbrev sPushes : Stmt := inClass sEffect 5
abbrev sPeak : Stmt := inClass sEffect 6
abbrev sChange : Stmt := inClass sEffect 7
abbrev sIsNever : Stmt := inClass sEffect 8
def eF (a b c : V) : List (Str × V) := [("needs", a), ("leaves", b), ("highest", c)]
theorem eF_new (a b c : V) : putF "highest" c (putF "leaves" b (putF "needs" a [])) = eF a b c := by
  have h1 : ¬ (("needs" : Str) = "leaves") := by decide +kernel
  have h2 : ¬ (("needs" : Str) = "highest") := by decide +kernel
  have h3 : ¬ (("leaves" : Str) = "highest") := by decide +kernel
  simp only [putF, h1, h2, h3, if_false]
  rfl
theorem eF_two (a b : V) : (putF "leaves" b (putF "needs" a [])).length < 1000 := by
  have h1 : ¬ (("needs" : Str) = "leaves") := by decide +kernel
  simp only [putF, h1, if_false]
  show 2 < 1000
  decide
theorem eF_n (x a b c : V) : putF "needs" x (eF a b c) = eF x b c := by
  unfold eF
  simp only [putF, if_true]
theorem eF_l (x a b c : V) : putF "leaves" x (eF a b c) = eF a x c := by
  have h1 : ¬ (("needs" : Str) = "leaves") := by decide +kernel
  unfold eF
  simp only [putF, h1, if_false, if_true]
theorem eF_h (x a b c : V) : putF "highest" x (eF a b c) = eF a b x := by
  have h2 : ¬ (("needs" : Str) = "highest") := by decide +kernel
  have h3 : ¬ (("leaves" : Str) = "highest") := by decide +kernel
  unfold eF
  simp only [putF, h2, h3, if_false, if_true]
theorem eF_needs (a b c : V) : (eF a b c).lookup ("needs" : Str) = some a := by
  rw [← eF_new, lookup_putF, if_neg (by decide +kernel), lookup_putF, if_neg (by decide +kernel), lookup_putF, if_pos rfl]
theorem eF_leaves (a b c : V) : (eF a b c).lookup ("leaves" : Str) = some b := by
  rw [← eF_new, lookup_putF, if_neg (by decide +kernel), lookup_putF, if_pos rfl]
theorem eF_high (a b c : V) : (eF a b c).lookup ("highest" : Str) = some c := by
  rw [← eF_new, lookup_putF, if_pos rfl]
/-- an effect that is not never -/
structure EffAt (K : PySem.W.Frag) (C : Addr) (H : Hp) (e : Addr) (xs ys : List Str) (p : Int) : Prop where
  ex : ∃ dx u v, H e = some (.ins C dx (eF (.ref u) (.ref v) (.int p))) ∧ SqT K H u (xs.map V.str) ∧ SqT K H v (ys.map V.str)
theorem EffAt.same {K : PySem.W.Frag} {C : Addr} {H H' : Hp} {e : Addr} {xs ys : List Str} {p : Int} (h : EffAt K C H e xs ys p) (s : Same H H') : EffAt K C H' e xs ys p := by
  obtain ⟨dx, u, v, h1, h2, h3⟩ := h.ex
  exact ⟨dx, u, v, s _ _ h1, Same.tup s h2, Same.tup s h3⟩
structure NevAt (C : Addr) (H : Hp) (e : Addr) : Prop where
  ex : ∃ dx, H e = some (.ins C dx (eF .non .non .non))
theorem NevAt.same {C : Addr} {H H' : Hp} {e : Addr} (h : NevAt C H e) (s : Same H H') : NevAt C H' e := by
  obtain ⟨dx, h1⟩ := h.ex
  exact ⟨dx, s _ _ h1⟩
/-- the least peak -/
def lp (xs ys : List Str) : Int := if (ys.length : Int) - (xs.length : Int) > 0 then (ys.length : Int) - (xs.length : Int) else 0
def pkV : Option Int → V
  | none => .non
  | some p => .int p
structure EC (K : PySem.W.Frag) (mg : Str → Option Value) (C : Addr) : Prop where
  cl : Cls K C
  nN : NoAttr K C "needs"
  nL : NoAttr K C "leaves"
  nH : NoAttr K C "highest"
  mgE : mg "Effect" = some (.ref C)
section
variable {P : Program} {w : World} {K : PySem.W.Frag} {mg : Str → Option Value} {base : Heap} {C : Addr}
def spLeast (K : PySem.W.Frag) : Sp := fun vs H Q _ => ∃ (a b : Addr) (xs ys : List Str), vs = [.ref a, .ref b] ∧ SqT K H a (xs.map V.str) ∧ SqT K H b (ys.map V.str) ∧ Q (.int (lp xs ys)) H
theorem scLe : FnScope ["pops", "pushes"] ["pops", "pushes"] (defScope sLeastPeak) := ⟨rfl, rfl, rfl, by decide +kernel, rfl, by decide +kernel, by decide +kernel⟩
theorem has_least (D : Def K mg "least_peak" sLeastPeak) (B : Blt mg) (mx : mg "max" = none) : Has P w K mg base "least_peak" 1 ["pops", "pushes"] [] (spLeast K) := by
  refine has_of D scLe (fun _ _ _ _ _ _ us hl => match us, hl with | [_, _], _ => rfl) (fun xs H Q E h => ?_) (fun f cv A out s H xs Q E hr h => ?_)
  · obtain ⟨a, b, xs, ys, rfl, _⟩ := h
    rfl
  · obtain ⟨a, b, xs, ys, rfl, ha, hb, k⟩ := h
    refine ⟨_, pss_one (ps_ret (pe_callB (call_max2 rfl) (by rfl) mx (by decide +kernel) (pa_cons pe_int (pa_cons (pe_op op_sub (pe_callB call_len_seq (by rfl) B.len PySem.boot_len (pa_cons (pv 1) pa_nil)) (pe_callB call_len_seq (by rfl) B.len PySem.boot_len (pa_cons (pv 0) pa_nil))) pa_nil)))), ?_⟩
    refine ⟨_, rfl, b, _, rfl, .inr hb, _, rfl, a, _, rfl, .inr ha, _, _, rfl, rfl, 0, _, rfl, ?_⟩
    rw [List.length_map, List.length_map]
    exact k
def spInit (K : PySem.W.Frag) (C : Addr) : Sp := fun vs H Q _ => ∃ (x dx a b : Addr) (xs ys : List Str) (pk : Option Int), vs = [.ref x, .ref a, .ref b, pkV pk] ∧ H x = some (.ins C dx []) ∧ SqT K H a (xs.map V.str) ∧ SqT K H b (ys.map V.str) ∧
  xs.length ≤ 5000 ∧ ys.length ≤ 5000 ∧ (∀ z ∈ xs, Item z) ∧ (∀ z ∈ ys, Item z) ∧ (∀ p, pk = some p → lp xs ys ≤ p) ∧
  ∀ H', (∀ b o, H b = some o → b ≠ x → H' b = some o) → H' x = some (.ins C dx (eF (.ref a) (.ref b) (.int (pk.getD (lp xs ys))))) → Q .non H'
abbrev pInit : List Str := ["self", "pops", "pushes", "peak"]
theorem scIn : FnScope ["self", "pops", "pushes", "peak", "least"] pInit (defScope sInit) := ⟨rfl, rfl, rfl, by decide +kernel, rfl, by decide +kernel, by decide +kernel⟩
theorem ok_init {f : Addr} {fd : FuncData} (F : Fun K "__init__" "Effect.__init__" sInit f fd) (T : EC K mg C) (GW : Has P w K mg base "check_word" 3 ["word"] [] (spChkWord K)) (GL : Has P w K mg base "least_peak" 1 ["pops", "pushes"] [] (spLeast K)) (GH : Has P w K mg base "is_whole" 1 ["value"] [] spWhole) :
    FnOk P w K mg base CX0 4 f fd pInit (spInit K C) := by
  refine F.ok scIn (fun vs H Q E h => ?_) (fun cdv A outer s H vs Q E hr h => ?_)
  · obtain ⟨x, dx, a, b, xs, ys, pk, rfl, _⟩ := h
    rfl
  · obtain ⟨x, dx, a, b, xs, ys, pk, rfl, hx, ha, hb, l1, l2, i1, i2, hp, k⟩ := h
    have hr1 : Room 1 _ := hr.mono (by decide)
    refine ⟨_, pss_cons (ps_expr (pe_has GW hr (pa_cons (pv 1) pa_nil))) (pss_cons (ps_expr (pe_has GW hr (pa_cons (pv 2) pa_nil)))
      (pss_cons (ps_set (i := 4) scIn.nd rfl (.inl rfl) (pe_has GL hr1 (pa_cons (pv 1) (pa_cons (pv 2) pa_nil))))
      (pss_cons (ps_if (pt_cut (PW.pt (pw_and (pt_cmpR op_notN (pv 3) pe_non (nomark _)) (pw_and1 (PW.pt (pw_or (pt_not (pt_val (pe_has GH hr1 (pa_cons (pv 3) pa_nil)))) (pw_or1 (pt_cmpR op_lt (pv 3) (pv 4) (nomark _))))))))) pss_never pss_nil)
      (pss_cons (ps_fld (pv 0) (pv 1) rfl) (pss_cons (ps_fld (pv 0) (pv 2) rfl)
      (pss_one (ps_fld (pv 0) (pe_ifExp (pt_cmpR op_isN (pv 3) pe_non (nomark _)) (pv 4) (pv 3)) rfl))))))), ?_⟩
    refine ⟨_, rfl, a, xs, rfl, ha, l1, i1, fun H1 s1 => ⟨_, rfl, b, ys, rfl, Same.tup s1 hb, l2, i2, fun H2 s2 => ?_⟩⟩
    have s12 := s1.trans s2
    refine ⟨_, rfl, _, rfl, a, b, xs, ys, rfl, Same.tup s12 ha, Same.tup s12 hb, ?_⟩
    refine ⟨fun c H3 => c = false ∧ H3 = H2, ?_, ?_⟩
    · cases pk with
      | none => exact ⟨_, rfl, rfl, false, rfl, iteF ⟨rfl, rfl⟩⟩
      | some p =>
        have hq := hp p rfl
        refine ⟨_, rfl, rfl, true, rfl, iteT ⟨_, rfl, p, rfl, true, rfl, iteF ⟨_, rfl, _, rfl, p, lp xs ys, rfl, rfl, _, rfl, ?_, rfl⟩⟩⟩
        exact decide_eq_false (by omega)
    rintro c H3 ⟨rfl, rfl⟩
    refine iteF ?_
    have hx3 := s12 _ _ hx
    have fin : ∀ z : V, z = .int (pk.getD (lp xs ys)) → Q .non (upd (upd (upd H3 x (.ins C dx (putF "needs" (.ref a) []))) x (.ins C dx (putF "leaves" (.ref b) (putF "needs" (.ref a) [])))) x (.ins C dx (putF "highest" z (putF "leaves" (.ref b) (putF "needs" (.ref a) []))))) := by
      intro z ez
      refine k _ (fun c o e ne => ?_) ?_
      · rw [upd_ne ne, upd_ne ne, upd_ne ne]
        exact s12 _ _ e
      · rw [upd_same, eF_new, ez]
    refine ⟨_, rfl, _, rfl, x, C, dx, [], rfl, hx3, T.cl, T.nN, (by show 0 < 1000; decide), _, rfl, _, rfl, x, C, dx, _, rfl, upd_same, T.cl, T.nL, (by show 1 < 1000; decide), ?_⟩
    cases pk with
    | none => exact ⟨_, rfl, rfl, true, rfl, iteT ⟨_, rfl, _, rfl, x, C, dx, _, rfl, upd_same, T.cl, T.nH, eF_two _ _, fin _ rfl⟩⟩
    | some p => exact ⟨_, rfl, rfl, false, rfl, iteF ⟨_, rfl, _, rfl, x, C, dx, _, rfl, upd_same, T.cl, T.nH, eF_two _ _, fin _ rfl⟩⟩
end
end SE
namespace SE
open PySem PySem.Spec PyProof.Rows L2
/-- a property of the class C with its promise -/
def PropHas (P : Program) (w : World) (K : PySem.W.Frag) (mg : Str → Option Value) (base : Heap) (C : Addr) (f : Str) (k : Nat) (sp : Sp) : Prop := ∃ p g fd, PropOf K C f p g ∧ FnOk P w K mg base CX0 k g fd ["self"] sp ∧ Binds K fd ["self"] []
theorem pe_propH {X : Cx} {C : Addr} {f : Str} {k : Nat} {sp : Sp} {e : Expr} {ta : TE} {pos : Pos} (h : PropHas X.prog X.w X.K X.mg X.base C f k sp) (he : PE X e ta) (c : Cls X.K C) (hr : Room (k + 1) X.A)
    (hab : attributeBase e f X.env (eval e X.env) = eval e X.env := by rfl) : PE X (.Attribute e f pos) (tProp C sp [] E0 ta) := by
  obtain ⟨p, g, fd, hp, F, hb⟩ := h
  exact pe_prop he c hp F hr hb .nil pass0 hab
section
variable {P : Program} {w : World} {K : PySem.W.Frag} {mg : Str → Option Value} {base : Heap} {C : Addr}
/-! ### properties -/
/-- of an effect that is not never: its parts -/
def spPops (K : PySem.W.Frag) (C : Addr) : Sp := fun vs H Q _ => ∃ (e : Addr) (xs ys : List Str) (p : Int), vs = [.ref e] ∧ EffAt K C H e xs ys p ∧ ∀ u, SqT K H u (xs.map V.str) → Q (.ref u) H
def spPush (K : PySem.W.Frag) (C : Addr) : Sp := fun vs H Q _ => ∃ (e : Addr) (xs ys : List Str) (p : Int), vs = [.ref e] ∧ EffAt K C H e xs ys p ∧ ∀ u, SqT K H u (ys.map V.str) → Q (.ref u) H
def spIsNev (K : PySem.W.Frag) (C : Addr) : Sp := fun vs H Q _ => ∃ (e : Addr), vs = [.ref e] ∧ ((∃ xs ys p, EffAt K C H e xs ys p ∧ Q (.bl false) H) ∨ (NevAt C H e ∧ Q (.bl true) H))
theorem scPo : FnScope ["self"] ["self"] (defScope sPops) := ⟨rfl, rfl, rfl, by decide +kernel, rfl, by decide +kernel, by decide +kernel⟩
theorem scPu : FnScope ["self"] ["self"] (defScope sPushes) := ⟨rfl, rfl, rfl, by decide +kernel, rfl, by decide +kernel, by decide +kernel⟩
theorem scNv : FnScope ["self"] ["self"] (defScope sIsNever) := ⟨rfl, rfl, rfl, by decide +kernel, rfl, by decide +kernel, by decide +kernel⟩
theorem ok_pops {f : Addr} {fd : FuncData} (F : Fun K "pops" "Effect.pops" sPops f fd) (T : EC K mg C) : FnOk P w K mg base CX0 1 f fd ["self"] (spPops K C) := by
  refine F.ok scPo (fun vs H Q E h => ?_) (fun cdv A outer s H vs Q E hr h => ?_)
  · obtain ⟨e, xs, ys, p, rfl, _⟩ := h
    rfl
  · obtain ⟨e, xs, ys, p, rfl, h, k⟩ := h
    obtain ⟨dx, u, v, h1, h2, h3⟩ := h.ex
    exact ⟨_, pss_one (ps_ret (pe_fld (pv 0) rfl)), _, rfl, e, C, dx, _, _, rfl, h1, T.cl, T.nN, eF_needs _ _ _, k u h2⟩
theorem ok_push {f : Addr} {fd : FuncData} (F : Fun K "pushes" "Effect.pushes" sPushes f fd) (T : EC K mg C) : FnOk P w K mg base CX0 1 f fd ["self"] (spPush K C) := by
  refine F.ok scPu (fun vs H Q E h => ?_) (fun cdv A outer s H vs Q E hr h => ?_)
  · obtain ⟨e, xs, ys, p, rfl, _⟩ := h
    rfl
  · obtain ⟨e, xs, ys, p, rfl, h, k⟩ := h
    obtain ⟨dx, u, v, h1, h2, h3⟩ := h.ex
    exact ⟨_, pss_one (ps_ret (pe_fld (pv 0) rfl)), _, rfl, e, C, dx, _, _, rfl, h1, T.cl, T.nL, eF_leaves _ _ _, k v h3⟩
theorem ok_isNev {f : Addr} {fd : FuncData} (F : Fun K "is_never" "Effect.is_never" sIsNever f fd) (T : EC K mg C) : FnOk P w K mg base CX0 1 f fd ["self"] (spIsNev K C) := by
  refine F.ok scNv (fun vs H Q E h => ?_) (fun cdv A outer s H vs Q E hr h => ?_)
  · obtain ⟨e, rfl, _⟩ := h
    rfl
  · obtain ⟨e, rfl, h⟩ := h
    refine ⟨_, pss_one (ps_ret (pe_cmpR op_isN (pe_fld (pv 0) rfl) pe_non (nomark _))), ?_⟩
    rcases h with ⟨xs, ys, p, h, k⟩ | ⟨h, k⟩
    · obtain ⟨dx, u, v, h1, h2, h3⟩ := h.ex
      exact ⟨_, rfl, e, C, dx, _, _, rfl, h1, T.cl, T.nN, eF_needs _ _ _, rfl, k⟩
    · obtain ⟨dx, h1⟩ := h.ex
      exact ⟨_, rfl, e, C, dx, _, _, rfl, h1, T.cl, T.nN, eF_needs _ _ _, rfl, k⟩
/-! ### Effect(a, b), Effect.never() -/
/-- the class can be called -/
def Makes (P : Program) (w : World) (K : PySem.W.Frag) (mg : Str → Option Value) (base : Heap) (C : Addr) : Prop := ∃ f fd, Mk K C f ∧ FnOk P w K mg base CX0 4 f fd pInit (spInit K C) ∧ FunD K "__init__" "Effect.__init__" (defArgs sInit) (defBody sInit) (defScope sInit) [] [("peak", .non)] f fd
theorem Makes.two (h : Makes P w K mg base C) : ∃ f fd ds, Mk K C f ∧ FnOk P w K mg base CX0 4 f fd pInit (spInit K C) ∧ Vals [V.non] ds ∧ Binds K fd pInit ds := by
  obtain ⟨f, fd, M, F, FD⟩ := h
  obtain ⟨ds, hd, hb⟩ := FD.binds0 (ps := pInit) 3 (by simp) rfl (fun D doc pm an cv ct us ks h1 h2 => match us, ks, h1, h2 with | [_, _, _], [_], _, _ => ⟨_, _, _, _, _, _, rfl, rfl, rfl⟩)
  exact ⟨f, fd, ds, M, F, hd, hb⟩
/-- what Effect(a, b) asks -/
def tEff2 (K : PySem.W.Frag) (C : Addr) (t : TA) : TE := fun σ H Q => t σ H fun vs H1 => ∃ (a b : Addr) (xs ys : List Str), vs = [.ref a, .ref b] ∧ SqT K H1 a (xs.map V.str) ∧ SqT K H1 b (ys.map V.str) ∧ xs.length ≤ 5000 ∧ ys.length ≤ 5000 ∧ (∀ z ∈ xs, Item z) ∧ (∀ z ∈ ys, Item z) ∧
  ∀ (e : Addr) (H' : Hp), Same H1 H' → H1 e = none → EffAt K C H' e xs ys (lp xs ys) → Q (.ref e) H'
theorem make_imp {vs : List V} {H1 : Hp} {Q : VK} (h : ∃ (a b : Addr) (xs ys : List Str), vs = [.ref a, .ref b] ∧ SqT K H1 a (xs.map V.str) ∧ SqT K H1 b (ys.map V.str) ∧ xs.length ≤ 5000 ∧ ys.length ≤ 5000 ∧ (∀ z ∈ xs, Item z) ∧ (∀ z ∈ ys, Item z) ∧
    ∀ (e : Addr) (H' : Hp), Same H1 H' → H1 e = none → EffAt K C H' e xs ys (lp xs ys) → Q (.ref e) H') : ∀ x dx, H1 x = none → H1 dx = none → dx ≠ x →
    spInit K C (.ref x :: (vs ++ [V.non])) (upd (upd H1 dx (.own x)) x (.ins C dx [])) (fun v H2 => v = .non ∧ Q (.ref x) H2) E0 := by
  intro x dx nx nd ne
  obtain ⟨a, b, xs, ys, rfl, ha, hb, l1, l2, i1, i2, k⟩ := h
  have s0 : Same H1 (upd (upd H1 dx (.own x)) x (.ins C dx [])) := Same.made nx nd fun b o e _ => e
  refine ⟨x, dx, a, b, xs, ys, none, rfl, upd_same, Same.tup s0 ha, Same.tup s0 hb, l1, l2, i1, i2, fun p z => (by cases z), fun H' kp hx => ⟨rfl, ?_⟩⟩
  have s1 : Same H1 H' := fun c o e => kp c o (s0 c o e) (ne_of_none e nx)
  exact k x H' s1 nx ⟨dx, a, b, hx, Same.tup s1 ha, Same.tup s1 hb⟩
theorem pe_eff2 {X : Cx} {p pos : Pos} {e1 e2 : Expr} {t : TA} (M : Makes X.prog X.w X.K X.mg X.base C) (mgE : X.mg "Effect" = some (.ref C)) (hr : Room 5 X.A) (ha : PA X [e1, e2] t) (hg : Gl X "Effect" := by rfl)
    (he : starEach [e1, e2] X.env = (false, eval e1 X.env) :: starEach [e2] X.env := by rfl) (hpl : (backTo pos (starEach [e2] X.env)).any (·.1) = false := by rfl) :
    PE X (.Call (.Name "Effect" p) [e1, e2] [] pos) (tEff2 X.K C t) := by
  obtain ⟨f, fd, ds, Mk1, F, hd, hb⟩ := M.two
  constructor
  intro pins s σ H Q I h
  refine wpAny_Call_Name_kw (ld_glob I hg mgE ?_ (by decide))
  refine PySem.W.callWith_K (h₀ := X.base) I.ok.mod.kin Mk1.kp (thn (ha.run pos pins s σ H _ I h) fun us s1 hh => ?_) he hpl
  obtain ⟨vs, H1, I1, r, q⟩ := hh
  exact ⟨I1.kIn, run_make Mk1 F hr hb hd pass0 I1 r (make_imp q)⟩
/-! ### Effect.never() -/
def spNever (C : Addr) : Sp := fun vs H Q _ => vs = [.ref C] ∧ ∀ (e : Addr) (H' : Hp), Same H H' → NevAt C H' e → Q (.ref e) H'
theorem scNe : FnScope ["cls", "effect"] ["cls"] (defScope sNever) := ⟨rfl, rfl, rfl, by decide +kernel, rfl, by decide +kernel, by decide +kernel⟩
theorem ok_never {g : Addr} {gd : FuncData} (F : Fun K "never" "Effect.never" sNever g gd) (T : EC K mg C) (M : Makes P w K mg base C) : FnOk P w K mg base CX0 6 g gd ["cls"] (spNever C) := by
  obtain ⟨f, fd, ds, Mk1, FI, hd, hb⟩ := M.two
  refine F.ok scNe (fun vs H Q E h => ?_) (fun cdv A outer s H vs Q E hr h => ?_)
  · obtain ⟨rfl, _⟩ := h
    rfl
  · obtain ⟨rfl, k⟩ := h
    refine ⟨_, pss_cons (ps_set (i := 1) scNe.nd rfl (.inl rfl) (pe_makeL (i := 0) Mk1 FI hr rfl (.inl rfl) hb hd pass0 (pa_cons (pe_tup pa_nil) (pa_cons (pe_tup pa_nil) pa_nil))))
      (pss_cons (ps_fld (pv 1) pe_non rfl) (pss_cons (ps_fld (pv 1) pe_non rfl) (pss_cons (ps_fld (pv 1) pe_non rfl) (pss_one (ps_ret (pv 1)))))), ?_⟩
    refine ⟨rfl, Nat.zero_le _, fun t1 h1 => ⟨Nat.zero_le _, fun t2 h2 => ?_⟩⟩
    have n2 : t1 ≠ t2 := ne_of_none upd_same h2
    have s2 : Same H (upd (upd H t1 (.tup [])) t2 (.tup [])) := Same.free2 (Same.new h1) ((Same.new h1).free h2)
    intro y dy ny nd nyd
    have s3 : Same (upd (upd H t1 (.tup [])) t2 (.tup [])) (upd (upd (upd (upd H t1 (.tup [])) t2 (.tup [])) dy (.own y)) y (.ins C dy [])) := Same.made ny nd fun b o z _ => z
    refine ⟨y, dy, t1, t2, [], [], none, rfl, upd_same, Same.tup s3 (.of (by rw [upd_ne n2]; exact upd_same)), Same.tup s3 (.of upd_same), Nat.zero_le _, Nat.zero_le _, fun z m => (by cases m), fun z m => (by cases m), fun p z => (by cases z), fun H' kp e1 => ⟨rfl, ?_⟩⟩
    have s4 : Same H H' := fun c o z => kp c o (s3 _ _ (s2 c o z)) (ne_of_none z (s2.free ny))
    have hne : H y = none := s2.free ny
    refine ⟨_, rfl, y, C, dy, _, rfl, e1, T.cl, T.nN, (by show 3 < 1000; decide), _, rfl, y, C, dy, _, rfl, upd_same, T.cl, T.nL, (by rw [eF_n]; show 3 < 1000; decide), _, rfl, y, C, dy, _, rfl, upd_same, T.cl, T.nH, (by rw [eF_n, eF_l]; show 3 < 1000; decide), _, rfl, ?_⟩
    refine k y _ ?_ ⟨dy, ?_⟩
    · exact Same.free2 (Same.free2 (Same.free2 s4 hne) hne) hne
    · rw [upd_same, eF_n, eF_l, eF_h]
/-- the classmethod -/
def NeverHas (P : Program) (w : World) (K : PySem.W.Frag) (mg : Str → Option Value) (base : Heap) (C : Addr) : Prop := ∃ mc p g, ClX.CRead K C mc ∧ ClX.CMet K C mc "never" p g ∧ FnR P w K mg base CX0 6 g (spNever C)
theorem pe_never0 {X : Cx} {p apos pos : Pos} {pl : Sem Bool} (h : NeverHas X.prog X.w X.K X.mg X.base C) (mgE : X.mg "Effect" = some (.ref C)) (hr : Room 6 X.A) (hg : Gl X "Effect" := by rfl)
    (ht : eval (.Call (.Attribute (.Name "Effect" p) "never" apos) [] [] pos) X.env = (do
      let v ← eval (.Name "Effect" p) X.env
      standAt apos.atName
      let (f, first) ← holding [v] (getMethod v "never" pl)
      callWith pos f first (backTo pos (starEach [] X.env)) (backToKw pos (keywordEach [] X.env))) := by rfl) :
    PE X (.Call (.Attribute (.Name "Effect" p) "never" apos) [] [] pos) (tCMeth0 C (spNever C) E0 (tC (.ref C))) := by
  obtain ⟨mc, q, g, r, c, F⟩ := h
  exact pe_cmeth0 (pl := pl) (pe_glob hg mgE rfl) r c F hr pass0 ht
end
end SE
namespace SE
open PySem PySem.Spec PyProof.Rows L2
section
variable {P : Program} {w : World} {K : PySem.W.Frag} {mg : Str → Option Value} {base : Heap} {C : Addr}
/-! ### Effect(a, b, peak = c) -/
def tEffK (K : PySem.W.Frag) (C : Addr) (t : TA) (tk : TE) : TE := fun σ H Q => t σ H fun vs H1 => tCons tk tNil σ H1 fun zs H2 => ∃ (a b : Addr) (xs ys : List Str) (pk : Option Int), vs = [.ref a, .ref b] ∧ zs = [pkV pk] ∧ SqT K H2 a (xs.map V.str) ∧ SqT K H2 b (ys.map V.str) ∧ xs.length ≤ 5000 ∧ ys.length ≤ 5000 ∧
  (∀ z ∈ xs, Item z) ∧ (∀ z ∈ ys, Item z) ∧ (∀ p, pk = some p → lp xs ys ≤ p) ∧ ∀ (e : Addr) (H' : Hp), Same H2 H' → H2 e = none → EffAt K C H' e xs ys (pk.getD (lp xs ys)) → Q (.ref e) H'
theorem pe_effK {X : Cx} {p pos q1 : Pos} {e1 e2 c : Expr} {t : TA} {tk : TE} (M : Makes X.prog X.w X.K X.mg X.base C) (mgE : X.mg "Effect" = some (.ref C)) (hr : Room 5 X.A) (ha : PA X [e1, e2] t) (hc : PE X c tk) (hg : Gl X "Effect" := by rfl)
    (he : starEach [e1, e2] X.env = (false, eval e1 X.env) :: starEach [e2] X.env := by rfl) (hpl : ((backTo pos (starEach [e1, e2] X.env)).any (·.1) || (backToKw pos (keywordEach [⟨some "peak", c, q1⟩] X.env)).any (·.1.isNone)) = false := by rfl) :
    PE X (.Call (.Name "Effect" p) [e1, e2] [⟨some "peak", c, q1⟩] pos) (tEffK X.K C t tk) := by
  obtain ⟨f, fd, Mk1, F, FD⟩ := M
  obtain ⟨mv, kb⟩ := kb_some (ps := pInit) FD 3 ["peak"] [] (fun us _ ws => us ++ ws) (by simp) (fun q h => (by cases h)) (fun r1 _ r3 => r1.append r3) (fun D doc pm an cv ct us mv ws h1 h2 h3 => match us, mv, ws, h1, h2, h3 with | [_, _, _], [], [_], _, _, _ => rfl)
  constructor
  intro pins s σ H Q I h
  refine wpAny_Call_Name_kw (ld_glob I hg mgE ?_ (by decide))
  refine PySem.W.callWith_KW (h₀ := X.base) I.ok.mod.kin Mk1.kp rfl (thn (ha.run pos pins s σ H _ I h) fun us s1 hh => ?_) hpl he
  obtain ⟨vs, H1, I1, r, q⟩ := hh
  refine thn ((pk_cons (nm := some "peak") (kpos := q1) hc pk_nil).run pos pins s1 σ H1 _ I1 q) fun ws s2 hh => ?_
  obtain ⟨zs, H2, I2, rz, a, b, xs, ys, pk, rfl, rfl, ha2, hb2, l1, l2, i1, i2, hp, k⟩ := hh
  refine ⟨I2.kIn, ?_⟩
  refine run_makeK (ks := ["peak"]) (n := 2) Mk1 F hr kb pass0 I2 r rz rfl rfl ?_
  intro x dx nx nd ne
  have s0 : Same H2 (upd (upd H2 dx (.own x)) x (.ins C dx [])) := Same.made nx nd fun b o e _ => e
  refine ⟨x, dx, a, b, xs, ys, pk, rfl, upd_same, Same.tup s0 ha2, Same.tup s0 hb2, l1, l2, i1, i2, hp, fun H' kp hx => ⟨rfl, ?_⟩⟩
  have s3 : Same H2 H' := fun c o e => kp c o (s0 c o e) (ne_of_none e nx)
  exact k x H' s3 nx ⟨dx, a, b, hx, Same.tup s3 ha2, Same.tup s3 hb2⟩
/-! ### effects as values -/
abbrev Eff := Option (List Str × List Str × Int)
def EffV (K : PySem.W.Frag) (C : Addr) (H : Hp) (e : Addr) : Eff → Prop
  | none => NevAt C H e
  | some (xs, ys, p) => EffAt K C H e xs ys p
theorem EffV.same {H H' : Hp} {e : Addr} : ∀ {o : Eff}, EffV K C H e o → Same H H' → EffV K C H' e o
  | none, h, s => NevAt.same h s
  | some (_, _, _), h, s => EffAt.same h s
theorem EffV.ins {H : Hp} {e : Addr} : ∀ {o : Eff}, EffV K C H e o → ∃ dx fs, H e = some (.ins C dx fs)
  | none, h => by
    obtain ⟨dx, h1⟩ := NevAt.ex h
    exact ⟨dx, _, h1⟩
  | some (_, _, _), h => by
    obtain ⟨dx, u, v, h1, _⟩ := EffAt.ex h
    exact ⟨dx, _, h1⟩
/-! ### peak, nothing -/
def spPeak (K : PySem.W.Frag) (C : Addr) : Sp := fun vs H Q _ => ∃ (e : Addr) (xs ys : List Str) (p : Int), vs = [.ref e] ∧ EffAt K C H e xs ys p ∧ Q (.int p) H
theorem scPk : FnScope ["self"] ["self"] (defScope sPeak) := ⟨rfl, rfl, rfl, by decide +kernel, rfl, by decide +kernel, by decide +kernel⟩
theorem ok_peak {f : Addr} {fd : FuncData} (F : Fun K "peak" "Effect.peak" sPeak f fd) (T : EC K mg C) : FnOk P w K mg base CX0 1 f fd ["self"] (spPeak K C) := by
  refine F.ok scPk (fun vs H Q E h => ?_) (fun cdv A outer s H vs Q E hr h => ?_)
  · obtain ⟨e, xs, ys, p, rfl, _⟩ := h
    rfl
  · obtain ⟨e, xs, ys, p, rfl, h, k⟩ := h
    obtain ⟨dx, u, v, h1, h2, h3⟩ := h.ex
    exact ⟨_, pss_one (ps_ret (pe_fld (pv 0) rfl)), _, rfl, e, C, dx, _, _, rfl, h1, T.cl, T.nH, eF_high _ _ _, k⟩
end
end SE
namespace SE
open PySem PySem.Spec PyProof.Rows L2
/-! ### effects one after the other: the mathematics' side -/
abbrev Prt := List Str × List Str × Int
def comp (A B : Prt) : Option Prt :=
  if A.2.1.take (min A.2.1.length B.1.length) = B.1.take (min A.2.1.length B.1.length) then
    some (A.1 ++ B.1.drop (min A.2.1.length B.1.length), B.2.1 ++ A.2.1.drop (min A.2.1.length B.1.length), if (A.2.1.length : Int) - (A.1.length : Int) + B.2.2 > A.2.2 then (A.2.1.length : Int) - (A.1.length : Int) + B.2.2 else A.2.2)
  else none
def joinF : Prt → List Prt → Eff
  | A, [] => some A
  | A, B :: r => match comp A B with
    | none => none
    | some D => joinF D r
def joinM (ps : List Prt) : Eff := joinF ([], [], 0) ps
def szP (ps : List Prt) : Nat := (ps.map fun B => B.1.length + B.2.1.length).sum
/-- a part that may be joined -/
structure PrtOk (B : Prt) : Prop where
  i1 : ∀ z ∈ B.1, Item z
  i2 : ∀ z ∈ B.2.1, Item z
  h0 : 0 ≤ B.2.2
  h1 : (B.2.1.length : Int) - (B.1.length : Int) ≤ B.2.2
theorem comp_ok {A B D : Prt} (hA : PrtOk A) (hB : PrtOk B) (h : comp A B = some D) : PrtOk D ∧ D.1.length + D.2.1.length ≤ A.1.length + A.2.1.length + (B.1.length + B.2.1.length) := by
  unfold comp at h
  split at h
  · cases h
    have q1 := hA.h0
    have q2 := hA.h1
    have q3 := hB.h1
    refine ⟨⟨fun z m => ?_, fun z m => ?_, ?_, ?_⟩, ?_⟩
    · rcases List.mem_append.mp m with q | q
      · exact hA.i1 z q
      · exact hB.i1 z (List.mem_of_mem_drop q)
    · rcases List.mem_append.mp m with q | q
      · exact hB.i2 z q
      · exact hA.i2 z (List.mem_of_mem_drop q)
    · dsimp only
      split <;> omega
    · dsimp only
      rw [List.length_append, List.length_append, List.length_drop, List.length_drop]
      have m1 := Nat.min_le_left A.2.1.length B.1.length
      have m2 := Nat.min_le_right A.2.1.length B.1.length
      generalize min A.2.1.length B.1.length = m at m1 m2 ⊢
      split <;> omega
    · show (A.1 ++ B.1.drop (min A.2.1.length B.1.length)).length + (B.2.1 ++ A.2.1.drop (min A.2.1.length B.1.length)).length ≤ _
      rw [List.length_append, List.length_append, List.length_drop, List.length_drop]
      omega
  · cases h
theorem PrtOk.lp {D : Prt} (h : PrtOk D) : lp D.1 D.2.1 ≤ D.2.2 := by
  have q1 := h.h0
  have q2 := h.h1
  unfold SE.lp
  split <;> omega
theorem cutF_to {α : Type} (f : α → V) (xs : List α) (j : Nat) : cutV (xs.map f) none (some (j : Int)) = (xs.take j).map f := by
  unfold cutV
  rw [List.length_map]
  have e1 : HT.sIx xs.length 0 none = 0 := rfl
  rw [e1, HT.sIx_nat, List.drop_zero, Nat.sub_zero, ← List.map_take]
  congr 1
  by_cases c : j ≤ xs.length
  · rw [Nat.min_eq_left c]
  · rw [Nat.min_eq_right (by omega), List.take_length, List.take_of_length_le (by omega)]
theorem cutF_from {α : Type} (f : α → V) (xs : List α) (j : Nat) : cutV (xs.map f) (some (j : Int)) none = (xs.drop j).map f := by
  unfold cutV
  rw [List.length_map]
  have e1 : HT.sIx xs.length xs.length none = xs.length := rfl
  rw [e1, HT.sIx_nat, ← List.map_drop, ← List.map_take]
  congr 1
  by_cases c : j ≤ xs.length
  · rw [Nat.min_eq_left c, List.take_of_length_le (by rw [List.length_drop]; exact Nat.le_refl _)]
  · rw [Nat.min_eq_right (by omega), List.drop_of_length_le (Nat.le_refl _), List.drop_of_length_le (by omega), List.take_nil]
theorem min_int (a b : Nat) : (if (b : Int) < (a : Int) then (b : Int) else (a : Int)) = ((min a b : Nat) : Int) := by
  split <;> omega
/-- a part as a tuple -/
def PrtV (K : PySem.W.Frag) (H : Hp) (v : V) (B : Prt) : Prop := ∃ t a b, v = .ref t ∧ SqT K H t [.ref a, .ref b, .int B.2.2] ∧ SqT K H a (B.1.map V.str) ∧ SqT K H b (B.2.1.map V.str)
theorem PrtV.same {K : PySem.W.Frag} {H H' : Hp} {v : V} {B : Prt} (h : PrtV K H v B) (s : Same H H') : PrtV K H' v B := by
  obtain ⟨t, a, b, e, h1, h2, h3⟩ := h
  exact ⟨t, a, b, e, Same.tup s h1, Same.tup s h2, Same.tup s h3⟩
section
variable {P : Program} {w : World} {K : PySem.W.Frag} {mg : Str → Option Value} {base : Heap} {C : Addr}
/-! ### joined -/
def spJoin (K : PySem.W.Frag) (C : Addr) : Sp := fun vs H Q _ => ∃ (a : Addr) (us : List V) (ps : List Prt), vs = [.ref a] ∧ SqL K H a us ∧ Paired (PrtV K H) us ps ∧ (∀ B ∈ ps, PrtOk B) ∧ szP ps ≤ 5000 ∧ ∀ (e : Addr) (H' : Hp), Same H H' → EffV K C H' e (joinM ps) → Q (.ref e) H'
theorem scJo : FnScope ["parts", "pops", "pushes", "peak", "needed", "left", "highest", "shared"] ["parts"] (defScope sJoined) := ⟨rfl, rfl, rfl, by decide +kernel, rfl, by decide +kernel, by decide +kernel⟩
theorem paired_at {α β : Type} {F : α → β → Prop} : ∀ {l₁ : List α} {l₂ : List β} {i : Nat} {x : α}, Paired F l₁ l₂ → l₁[i]? = some x → ∃ y, l₂[i]? = some y ∧ F x y
  | _, _, _, _, .nil, h => by simp at h
  | _, _, 0, _, .cons r _, h => ⟨_, rfl, by cases h; exact r⟩
  | _, _, i + 1, _, .cons _ t, h => by
    obtain ⟨y, h1, h2⟩ := paired_at t (i := i) h
    exact ⟨y, h1, h2⟩
theorem paired_len {α β : Type} {F : α → β → Prop} : ∀ {l₁ : List α} {l₂ : List β}, Paired F l₁ l₂ → l₁.length = l₂.length
  | _, _, .nil => rfl
  | _, _, .cons _ t => congrArg Nat.succ (paired_len t)
theorem has_join (D : Def K mg "joined" sJoined) (T : EC K mg C) (M : Makes P w K mg base C) (GN : NeverHas P w K mg base C) (B : Blt mg) (mx : mg "max" = none) (mn : mg "min" = none) : Has P w K mg base "joined" 7 ["parts"] [] (spJoin K C) := by
  refine has_of D scJo (fun _ _ _ _ _ _ us hl => match us, hl with | [_], _ => rfl) (fun xs H Q E h => ?_) (fun f cv A out s H xs Q E hr h => ?_)
  · obtain ⟨a, us, ps, rfl, _⟩ := h
    rfl
  · obtain ⟨a, us, ps, rfl, hS, hV, hO, hz, k⟩ := h
    have hr5 : Room 5 _ := hr.mono (by decide)
    refine ⟨_, pss_cons (ps_asg (pe_tup (pa_cons (pe_tup pa_nil) (pa_cons (pe_tup pa_nil) (pa_cons pe_int pa_nil)))) (pg_tup (by rfl) (pgs_cons (pg_name (i := 1) scJo.nd rfl (.inl rfl)) (pgs_cons (pg_name (i := 2) scJo.nd rfl (.inl rfl)) (pgs_cons (pg_name (i := 3) scJo.nd rfl (.inl rfl)) pgs_nil)))))
      (pss_cons (ps_for PassesOwn.never rfl (pi_list (pv 0)) (pg_tup (by rfl) (pgs_cons (pg_name (i := 4) scJo.nd rfl (.inl rfl)) (pgs_cons (pg_name (i := 5) scJo.nd rfl (.inl rfl)) (pgs_cons (pg_name (i := 6) scJo.nd rfl (.inl rfl)) pgs_nil))))
        (pss_cons (ps_set (i := 7) scJo.nd rfl (.inl rfl) (pe_callB (call_min2 rfl) (by rfl) mn (by decide +kernel) (pa_cons (pe_callB call_len_seq (by rfl) B.len PySem.boot_len (pa_cons (pv 2) pa_nil)) (pa_cons (pe_callB call_len_seq (by rfl) B.len PySem.boot_len (pa_cons (pv 4) pa_nil)) pa_nil))))
        (pss_cons (ps_if (pt_cut (pt_cmpR (op_neD hr.units) (pe_slice sl_tupS (pv 2) po_none (po_some (pv 7))) (pe_slice sl_tupS (pv 4) po_none (po_some (pv 7))) (nomark _))) (pss_one (ps_ret (pe_never0 GN T.mgE hr))) pss_nil)
        (pss_cons (ps_set (i := 3) scJo.nd rfl (.inl rfl) (pe_callB (call_max2 rfl) (by rfl) mx (by decide +kernel) (pa_cons (pv 3) (pa_cons (pe_op op_add (pe_op op_sub (pe_callB call_len_seq (by rfl) B.len PySem.boot_len (pa_cons (pv 2) pa_nil)) (pe_callB call_len_seq (by rfl) B.len PySem.boot_len (pa_cons (pv 1) pa_nil))) (pv 6)) pa_nil))))
        (pss_cons (ps_set (i := 1) scJo.nd rfl (.inl rfl) (pe_op op_catS (pv 1) (pe_slice sl_tupS (pv 4) (po_some (pv 7)) po_none)))
        (pss_one (ps_set (i := 2) scJo.nd rfl (.inl rfl) (pe_op op_catS (pv 5) (pe_slice sl_tupS (pv 2) (po_some (pv 7)) po_none)))))))))
      (pss_one (ps_ret (pe_effK M T.mgE hr5 (pa_cons (pv 1) (pa_cons (pv 2) pa_nil)) (pv 3))))), ?_⟩
    refine ⟨Nat.zero_le _, fun t1 ht1 => ⟨Nat.zero_le _, fun t2 ht2 => ?_⟩⟩
    have n12 : t1 ≠ t2 := ne_of_none upd_same ht2
    have s0 : Same H (upd (upd H t1 (.tup [])) t2 (.tup [])) := Same.free2 (Same.new ht1) ((Same.new ht1).free ht2)
    have shp : ∀ {zs : List Str}, (∀ z ∈ zs, Item z) → SeqAt.shaped (.tuple (zs.map PyData.str)) = true := fun {zs} q => (nice_tuple (nice_strs q)).shaped (by decide)
    refine ⟨(by show 3 ≤ sizeLine; decide), fun t3 ht3 => ⟨t3, _, rfl, .of upd_same, rfl, _, _, rfl, _, _, rfl, _, _, rfl, rfl, ?_⟩⟩
    have s00 := Same.new (o := .tup [.ref t1, .ref t2, .int 0]) ht3
    generalize upd (upd (upd H t1 (.tup [])) t2 (.tup [])) t3 (.tup [.ref t1, .ref t2, .int 0]) = H1 at s00 ⊢
    have w1 : SqT K H1 t1 (([] : List Str).map V.str) := Same.tup s00 (.of (by rw [upd_ne n12]; exact upd_same))
    have w2 : SqT K H1 t2 (([] : List Str).map V.str) := Same.tup s00 (.of upd_same)
    replace s0 := s0.trans s00
    refine ⟨_, rfl, a, rfl, ⟨_, Same.seq s0 hS⟩, for_list (K := K) (a := a) (xs := us) (fun i σ H2 => ∃ (u v : Addr) (A : Prt) (y4 y5 y6 y7 : Option V), σ = [some (.ref a), some (.ref u), some (.ref v), some (.int A.2.2), y4, y5, y6, y7] ∧ Same H H2 ∧ SqT K H2 u (A.1.map V.str) ∧ SqT K H2 v (A.2.1.map V.str) ∧ PrtOk A ∧ joinM ps = joinF A (ps.drop i) ∧ A.1.length + A.2.1.length + szP (ps.drop i) ≤ 5000)
      ⟨t1, t2, ([], [], 0), none, none, none, none, rfl, s0, w1, w2, ⟨fun z m => (by cases m), fun z m => (by cases m), Int.le_refl _, Int.le_refl _⟩, rfl, by rw [List.drop_zero]; show 0 + 0 + szP ps ≤ 5000; omega⟩ (fun i σ H2 _ q => ?_) ?_ ?_⟩
    · obtain ⟨_, _, _, _, _, _, _, _, s2, _⟩ := q
      exact Same.seq s2 hS
    · rintro i x σ H2 hx ⟨u, v, A, y4, y5, y6, y7, rfl, s2, hu, hv, oA, hj, hsz⟩
      obtain ⟨Bp, hB, hP⟩ := paired_at hV hx
      obtain ⟨t, p1, p2, rfl, q1, q2, q3⟩ := hP.same s2
      have oB := hO Bp (List.mem_of_getElem? hB)
      have hd : ps.drop i = Bp :: ps.drop (i + 1) := by
        obtain ⟨hl, he⟩ := List.getElem?_eq_some_iff.mp hB
        rw [List.drop_eq_getElem_cons hl, he]
      have hsz2 : A.1.length + A.2.1.length + (Bp.1.length + Bp.2.1.length) + szP (ps.drop (i + 1)) ≤ 5000 := by
        rw [hd] at hsz
        have e : szP (Bp :: ps.drop (i + 1)) = Bp.1.length + Bp.2.1.length + szP (ps.drop (i + 1)) := by
          unfold szP
          rw [List.map_cons, List.sum_cons]
        omega
      refine ⟨t, _, rfl, q1, rfl, _, _, rfl, _, _, rfl, _, _, rfl, rfl, ?_⟩
      refine ⟨_, rfl, v, _, rfl, .inr hv, _, rfl, p1, _, rfl, .inr q2, _, _, rfl, ?_⟩
      rw [List.length_map, List.length_map, min_int]
      -- do they fit
      refine ⟨fun b H3 => b = !decide (A.2.1.take (min A.2.1.length Bp.1.length) = Bp.1.take (min A.2.1.length Bp.1.length)) ∧ Same H2 H3, ?_, ?_⟩
      · refine ⟨_, rfl, _, rfl, _, rfl, v, _, rfl, hv, fun c1 H3 s3 hc1 => ⟨_, rfl, _, rfl, _, rfl, p1, _, rfl, Same.tup s3 q2, fun c2 H4 s4 hc2 => ?_⟩⟩
        rw [cutF_to] at hc1 hc2
        refine ⟨.tuple ((A.2.1.take (min A.2.1.length Bp.1.length)).map .str), .tuple ((Bp.1.take (min A.2.1.length Bp.1.length)).map .str), .tup (Same.tup s4 hc1) (dp_strs _), .tup hc2 (dp_strs _), shp (fun z m => oA.i2 z (List.mem_of_mem_take m)), shp (fun z m => oB.i1 z (List.mem_of_mem_take m)), _, rfl, ?_, s3.trans s4⟩
        rw [eqv_tupS]
      rintro b H3 ⟨rfl, s3⟩
      have s23 := s2.trans s3
      by_cases c : A.2.1.take (min A.2.1.length Bp.1.length) = Bp.1.take (min A.2.1.length Bp.1.length)
      rotate_left
      · rw [decide_eq_false c]
        refine iteT ⟨rfl, rfl, fun e H4 s4 he => k e H4 (s23.trans s4) ?_⟩
        have ej : joinM ps = none := by
          rw [hj, hd]
          unfold joinF comp
          rw [if_neg c]
        rw [ej]
        exact he
      rw [decide_eq_true c]
      refine iteF ?_
      refine ⟨_, rfl, _, rfl, v, _, rfl, .inr (Same.tup s3 hv), _, rfl, u, _, rfl, .inr (Same.tup s3 hu), _, _, rfl, rfl, _, rfl, _, _, rfl, rfl, _, _, rfl, ?_⟩
      rw [List.length_map, List.length_map]
      refine ⟨_, rfl, _, rfl, _, rfl, _, rfl, p1, _, rfl, Same.tup s3 q2, fun c1 H4 s4 hc1 => ?_⟩
      rw [cutF_from] at hc1
      refine ⟨u, c1, _, _, rfl, rfl, Same.tup (s3.trans s4) hu, hc1, ?_, fun u2 H5 s5 hu2 => ?_⟩
      · rw [List.length_map, List.length_map, List.length_drop, sizeLine_eq]
        omega
      have s35 := (s3.trans s4).trans s5
      refine ⟨_, rfl, _, rfl, _, rfl, _, rfl, v, _, rfl, Same.tup s35 hv, fun c2 H6 s6 hc2 => ?_⟩
      rw [cutF_from] at hc2
      refine ⟨p2, c2, _, _, rfl, rfl, Same.tup (s35.trans s6) q3, hc2, ?_, fun v2 H7 s7 hv2 => ?_⟩
      · rw [List.length_map, List.length_map, List.length_drop, sizeLine_eq]
        omega
      obtain ⟨Dp, hD⟩ : ∃ Dp, comp A Bp = some Dp := by
        unfold comp
        rw [if_pos c]
        exact ⟨_, rfl⟩
      have oD := comp_ok oA oB hD
      have e1 : Dp.1 = A.1 ++ Bp.1.drop (min A.2.1.length Bp.1.length) ∧ Dp.2.1 = Bp.2.1 ++ A.2.1.drop (min A.2.1.length Bp.1.length) ∧ Dp.2.2 = if (A.2.1.length : Int) - (A.1.length : Int) + Bp.2.2 > A.2.2 then (A.2.1.length : Int) - (A.1.length : Int) + Bp.2.2 else A.2.2 := by
        unfold comp at hD
        rw [if_pos c] at hD
        cases hD
        exact ⟨rfl, rfl, rfl⟩
      rw [← List.map_append, ← e1.1] at hu2
      rw [← List.map_append, ← e1.2.1] at hv2
      refine ⟨u2, v2, Dp, some (.ref p1), some (.ref p2), some (.int Bp.2.2), some (.int ((min A.2.1.length Bp.1.length : Nat) : Int)), ?_, s2.trans ((s35.trans s6).trans s7), Same.tup (s6.trans s7) hu2, hv2, oD.1, ?_, ?_⟩
      · rw [e1.2.2]
        rfl
      · rw [hj, hd]
        conv => lhs; unfold joinF
        rw [hD]
      · have := oD.2
        omega
    · rintro σ H2 ⟨u, v, A, y4, y5, y6, y7, rfl, s2, hu, hv, oA, hj, hsz⟩
      rw [paired_len hV, List.drop_length] at hj
      refine ⟨_, rfl, _, rfl, _, rfl, u, v, A.1, A.2.1, some A.2.2, rfl, rfl, hu, hv, by omega, by omega, oA.i1, oA.i2, fun p z => ?_, fun e H3 s3 _ he => ?_⟩
      · cases z
        exact oA.lp
      · refine k e H3 (s2.trans s3) ?_
        rw [hj]
        exact he
end
end SE
namespace SE
open PySem PySem.Spec PyProof.Rows L2
/-! ### effect_of -/
def partM (s : Stp) : Prt := if s.1 = true then ([], [s.2], 1) else ([s.2], [], 0)
def effM (ss : List Stp) : Eff := joinM (ss.map partM)
theorem partM_ok {s : Stp} (h : Item s.2) : PrtOk (partM s) := by
  unfold partM
  split
  · exact ⟨fun z m => (by cases m), fun z m => (by rw [List.mem_singleton.mp m]; exact h), (by show (0 : Int) ≤ 1; decide), (by show ((1 : Nat) : Int) - ((0 : Nat) : Int) ≤ 1; decide)⟩
  · exact ⟨fun z m => (by rw [List.mem_singleton.mp m]; exact h), fun z m => (by cases m), (by show (0 : Int) ≤ 0; decide), (by show ((0 : Nat) : Int) - ((1 : Nat) : Int) ≤ 0; decide)⟩
theorem szP_steps : ∀ ss : List Stp, szP (ss.map partM) = ss.length
  | [] => rfl
  | s :: ss => by
    have ih := szP_steps ss
    unfold szP at ih ⊢
    rw [List.map_cons, List.map_cons, List.sum_cons, ih, List.length_cons]
    unfold partM
    split
    · show 0 + 1 + ss.length = _
      omega
    · show 1 + 0 + ss.length = _
      omega
theorem tup_updL {K : PySem.W.Frag} {H : Hp} {D t : Addr} {xs us : List V} {o : HO} (hD : H D = some (.lst us)) (h : SqT K H t xs) : SqT K (upd H D o) t xs := by
  rcases h with (h | ⟨p, h⟩) | h
  · exact .inl (.inl (by rw [upd_ne (ne_of h hD (by intro z; cases z))]; exact h))
  · exact .inl (.inr ⟨p, by rw [upd_ne (ne_of h hD (by intro z; cases z))]; exact h⟩)
  · exact .inr h
theorem PrtV.updL {K : PySem.W.Frag} {H : Hp} {D : Addr} {us : List V} {v : V} {B : Prt} {o : HO} (hD : H D = some (.lst us)) (h : PrtV K H v B) : PrtV K (upd H D o) v B := by
  obtain ⟨t, a, b, e, h1, h2, h3⟩ := h
  exact ⟨t, a, b, e, tup_updL hD h1, tup_updL hD h2, tup_updL hD h3⟩
theorem Paired.snoc2 {α β : Type} {F : α → β → Prop} : ∀ {l₁ : List α} {l₂ : List β} {x : α} {y : β}, Paired F l₁ l₂ → F x y → Paired F (l₁ ++ [x]) (l₂ ++ [y])
  | _, _, _, _, .nil, h => .cons h .nil
  | _, _, _, _, .cons r t, h => .cons r (Paired.snoc2 t h)
section
variable {P : Program} {w : World} {K : PySem.W.Frag} {mg : Str → Option Value} {base : Heap} {C : Addr}
def spPart (K : PySem.W.Frag) : Sp := fun vs H Q _ => ∃ (v : V) (s : Stp), vs = [v] ∧ StepV K H v s ∧ ∀ (u : V) (H' : Hp), Same H H' → PrtV K H' u (partM s) → Q u H'
theorem scPt : FnScope ["step", "action", "item"] ["step"] (defScope sPartsOfStep) := ⟨rfl, rfl, rfl, by decide +kernel, rfl, by decide +kernel, by decide +kernel⟩
theorem has_part (D : Def K mg "parts_of_step" sPartsOfStep) : Has P w K mg base "parts_of_step" 1 ["step"] [] (spPart K) := by
  refine has_of D scPt (fun _ _ _ _ _ _ us hl => match us, hl with | [_], _ => rfl) (fun xs H Q E h => ?_) (fun f cv A out s H xs Q E hr h => ?_)
  · obtain ⟨v, st, rfl, _⟩ := h
    rfl
  · obtain ⟨v, st, rfl, ⟨t, rfl, hT⟩, k⟩ := h
    refine ⟨_, pss_cons (ps_asg (pv 0) (pg_tup (by rfl) (pgs_cons (pg_name (i := 1) scPt.nd rfl (.inl rfl)) (pgs_cons (pg_name (i := 2) scPt.nd rfl (.inl rfl)) pgs_nil))))
      (pss_one (ps_ret (pe_ifExp (pt_cmpR op_eq (pv 1) pe_str (nomark _)) (pe_tup (pa_cons (pe_tup pa_nil) (pa_cons (pe_tup (pa_cons (pv 2) pa_nil)) (pa_cons pe_int pa_nil)))) (pe_tup (pa_cons (pe_tup (pa_cons (pv 2) pa_nil)) (pa_cons (pe_tup pa_nil) (pa_cons pe_int pa_nil))))))), ?_⟩
    refine ⟨_, rfl, t, _, rfl, hT, rfl, _, _, rfl, _, _, rfl, rfl, ?_⟩
    obtain ⟨b, z⟩ := st
    cases b with
    | true =>
      refine ⟨_, rfl, rfl, true, congrArg V.bl (decide_eq_true (show V.str (act true) = V.str "push" from rfl)), iteT ?_⟩
      refine ⟨Nat.zero_le _, fun a ha => ⟨_, rfl, (by show 1 ≤ sizeLine; decide), fun c hc => ⟨(by show 3 ≤ sizeLine; decide), fun q hq => ?_⟩⟩⟩
      have nac : a ≠ c := ne_of_none upd_same hc
      have naq : a ≠ q := ne_of_none (by rw [upd_ne nac]; exact upd_same) hq
      have ncq : c ≠ q := ne_of_none upd_same hq
      refine k (.ref q) _ ?_ ⟨q, a, c, rfl, .of upd_same, .of ?_, .of ?_⟩
      · exact Same.free2 (Same.free2 (Same.new ha) ((Same.new ha).free hc)) ((Same.free2 (Same.new ha) ((Same.new ha).free hc)).free hq)
      · rw [upd_ne naq, upd_ne nac]
        exact upd_same
      · rw [upd_ne ncq]
        exact upd_same
    | false =>
      refine ⟨_, rfl, rfl, false, congrArg V.bl (decide_eq_false (fun y => absurd (V.str.inj (show V.str (act false) = V.str "push" from y)) (by decide +kernel))), iteF ?_⟩
      refine ⟨_, rfl, (by show 1 ≤ sizeLine; decide), fun a ha => ⟨Nat.zero_le _, fun c hc => ⟨(by show 3 ≤ sizeLine; decide), fun q hq => ?_⟩⟩⟩
      have nac : a ≠ c := ne_of_none upd_same hc
      have naq : a ≠ q := ne_of_none (by rw [upd_ne nac]; exact upd_same) hq
      have ncq : c ≠ q := ne_of_none upd_same hq
      refine k (.ref q) _ ?_ ⟨q, a, c, rfl, .of upd_same, .of ?_, .of ?_⟩
      · exact Same.free2 (Same.free2 (Same.new ha) ((Same.new ha).free hc)) ((Same.free2 (Same.new ha) ((Same.new ha).free hc)).free hq)
      · rw [upd_ne naq, upd_ne nac]
        exact upd_same
      · rw [upd_ne ncq]
        exact upd_same
def spEffOf (K : PySem.W.Frag) (C : Addr) : Sp := fun vs H Q _ => ∃ (a : Addr) (ys : List V) (ss : List Stp), vs = [.ref a] ∧ SqL K H a ys ∧ ys.length ≤ 1000 ∧ StepsV K H ys ss ∧ (∀ s ∈ ss, Item s.2) ∧ ∀ (e : Addr) (H' : Hp), Same H H' → EffV K C H' e (effM ss) → Q (.ref e) H'
theorem scEo : FnScope ["steps", "step"] ["steps"] (defScope sEffectOf) := ⟨rfl, rfl, rfl, by decide +kernel, rfl, by decide +kernel, by decide +kernel⟩
theorem has_effOf (D : Def K mg "effect_of" sEffectOf) (GC : Has P w K mg base "check_steps" 3 ["steps"] [] (spChkSteps K)) (GP : Has P w K mg base "parts_of_step" 1 ["step"] [] (spPart K)) (GJ : Has P w K mg base "joined" 7 ["parts"] [] (spJoin K C)) :
    Has P w K mg base "effect_of" 8 ["steps"] [] (spEffOf K C) := by
  refine has_of D scEo (fun _ _ _ _ _ _ us hl => match us, hl with | [_], _ => rfl) (fun xs H Q E h => ?_) (fun f cv A out s H xs Q E hr h => ?_)
  · obtain ⟨a, ys, ss, rfl, _⟩ := h
    rfl
  · obtain ⟨a, ys, ss, rfl, hS, hl, hV, hI, k⟩ := h
    have hr1 : Room 1 _ := hr.mono (by decide)
    have hr3 : Room 3 _ := hr.mono (by decide)
    have hln : ys.length = ss.length := hV.length
    refine ⟨_, pss_cons (ps_expr (pe_has GC hr3 (pa_cons (pv 0) pa_nil))) (pss_one (ps_ret (pe_has GJ hr (pa_cons
      (pe_lc (own := [("step", 1)]) (g := gName 1) (tt := tYes) (te := tCall (spPart K) [] E0 (tCons (tVar 1) tNil)) rfl scEo.nd (pi_list (pv 0)) (blkOk_by (own := [("step", 1)]) (N := ["steps", "step"]) (sc := defScope sEffectOf) (by decide +kernel))
        (fun _ _ _ _ _ => pg_name (i := 1) scEo.nd rfl (.inl rfl)) (fun _ _ _ _ _ => pts_nil) (fun _ _ _ _ _ => pe_has GP hr1 (pa_cons (pv 1) pa_nil))) pa_nil)))), ?_⟩
    refine ⟨_, rfl, a, ys, ss, rfl, .inl hS, hl, hV, hI, fun H1 s1 => ?_⟩
    refine ⟨_, rfl, a, rfl, ⟨_, Same.seq s1 hS⟩, fun D hD => lc_list (K := K) (a := a) (xs := ys) (fun j H2 => ∃ us, H2 D = some (.lst us) ∧ Paired (PrtV K H2) us ((ss.take j).map partM) ∧ Same H1 H2) ⟨[], upd_same, .nil, Same.new hD⟩ (fun j H2 _ q => ?_) ?_ ?_⟩
    · obtain ⟨_, _, _, s2⟩ := q
      exact Same.seq (s1.trans s2) hS
    · rintro j x H2 hx ⟨us, hu, hP, s2⟩
      obtain ⟨st, h1, h2⟩ := StepsV.at hV hx
      refine ⟨rfl, yes_in ⟨_, rfl, x, st, rfl, h2.same (s1.trans s2), fun u H3 s3 hp => ⟨us, s3 _ _ hu, ?_, us ++ [u], upd_same, ?_, ?_⟩⟩⟩
      · have l2 := paired_len hP
        rw [List.length_map, List.length_take] at l2
        rw [sizeLine_eq]
        omega
      · have e1 : (ss.take (j + 1)).map partM = (ss.take j).map partM ++ [partM st] := by
          rw [List.take_add_one, h1, List.map_append]
          rfl
        rw [e1]
        have hu3 := s3 _ _ hu
        exact Paired.snoc2 (Paired.mapP hP fun v B q => (q.same s3).updL hu3) (hp.updL hu3)
      · exact Same.free2 (s2.trans s3) hD
    · rintro H2 ⟨us, hu, hP, s2⟩
      rw [hln, List.take_length] at hP
      refine ⟨D, us, ss.map partM, rfl, .of hu, hP, fun Bp m => ?_, ?_, fun e H3 s3 he => k e H3 ((s1.trans s2).trans s3) he⟩
      · obtain ⟨st, ms, rfl⟩ := List.mem_map.mp m
        exact partM_ok (hI st ms)
      · rw [szP_steps]
        omega
end
end SE
/-! == and != by an own __eq__, whatever it answers; repr by an own __repr__. -/
namespace SE
open PySem PySem.Spec PyProof.Rows L2
section
variable {prog : Program} {w : World} {A : Around} {E : Value → Shared → Prop} {s : Shared} {K : PySem.W.Frag} {x y C f : Addr} {ox oy : Obj} {od oe : Option Obj} {Q : Value → Shared → Prop}
/-- a special method that is a built-in's slot -/
theorem bound_slot {M : Model} {name : Str} {id : String} {args : List Value} {R : Option Value → Shared → Prop} (X : K.In s.heap) (I : PySem.W.InstAt s.heap x ox C od) (hs : PySem.W.findIn K (.ref C) name = some (some (.builtin id)))
    (hb : ∀ v, bindSpecial (.builtin id) v = pure (.builtin id, [v])) (h : wpAny M A (call (.builtin id) (.ref x :: args)) (fun v => R (some v)) E s) : wpAny M A (callSpecialIfBound? (.ref x) name args) R E s := by
  simp only [callSpecialIfBound?, bindSpecialIfBound?]
  refine wpAny_holding (wpAny_bind (wpAny_bind (wpAny_bind (I.type.here ((PySem.W.looks_findIn X hs).here (wpAny_bind (wpAny_askSetting (wpAny_ite ?_))))))))
  have last : wpAny M A (call (.builtin id) ([.ref x] ++ args) >>= fun v => pure (some v)) R E s := wpAny_bind (wpAny_mono h (fun v s2 z => wpAny_pure z) fun _ _ z => z)
  split
  · exact wpAny_bind ((PySem.W.Looks.of_pure (hb _)).here (wpAny_pure (by exact last)))
  · exact wpAny_tryCatch (wpAny_bind ((PySem.W.Looks.of_pure (hb _)).here (wpAny_pure (by exact last))))
open Builtin in
theorem ne_call {v : Value} (hu : A.in1.units < cLine) (X : K.In s.heap) (I : PySem.W.InstAt s.heap x ox C od) (hm : PySem.W.mroIn K C (.type "object") = some true) (hs : PySem.W.findIn K (.ref C) "__eq__" = some (some (.ref f))) (hf : PySem.W.isFn K (.ref f) = true)
    (h : wpAny (model prog w) A.in1 (call (.ref f) [.ref x, v]) (fun r s2 => ∃ b, r = .bool b ∧ Q (.bool (!b)) s2) E s) : wpAny (model prog w) A (call (.builtin "object.__ne__") [.ref x, v]) Q E s := by
  refine wpAny_call (codeAny_call_builtin PySem.F.cmp_object.ne.plain PySem.F.cmpEntry_ne (PySem.W.check_slot PySem.F.cmpKind_ne PySem.F.cmpSplit_ne (I.type.andThen (PySem.W.looks_mroIn X hm)) (PySem.F.cmpArgs_ne _ _) ?_))
  unfold Builtin.«object.__ne__»
  refine wpAny_bind (m := slotArgs "__ne__" 1 _) (wpAny_pure ?_)
  refine wpAny_bind (m := cRoomFor _ _) (wpAny_cRoomFor hu ?_)
  refine wpAny_bind (m := callSpecialIfBound? (.ref x) (Str.ofString "__eq__") _) (PySem.W.ifBound_K X I hs hf (wpAny_mono h (fun r s2 z => ?_) fun _ _ z => z))
  obtain ⟨b, rfl, q⟩ := z
  exact wpAny_bind (wpAny_truthy_bool (wpAny_pure q))
theorem ne_inst (hu : A.units + 1 < cLine) (X : K.In s.heap) (I : PySem.W.InstAt s.heap x ox C od) (J : PySem.W.InstAt s.heap y oy C oe) (hm : PySem.W.mroIn K C (.type "object") = some true)
    (hn : PySem.W.findIn K (.ref C) "__ne__" = some (some (.builtin "object.__ne__"))) (hs : PySem.W.findIn K (.ref C) "__eq__" = some (some (.ref f))) (hf : PySem.W.isFn K (.ref f) = true)
    (h : wpAny (model prog w) A.in1 (call (.ref f) [.ref x, .ref y]) (fun r s2 => ∃ b, r = .bool b ∧ Q (.bool (!b)) s2) E s) : wpAny (model prog w) A (richCompare .NotEq (.ref x) (.ref y)) Q E s := by
  have one : wpAny (model prog w) A (tryCompare (.ref x) (cmpInfo .NotEq).2.1 (.ref y)) (fun r s2 => ∃ v, r = some v ∧ Q v s2) E s := by
    unfold tryCompare
    refine wpAny_bind (bound_slot X I hn PySem.F.cmp_object.ne.bind (ne_call hu X I hm hs hf (wpAny_mono h (fun v s2 z => ?_) fun _ _ z => z)))
    obtain ⟨b, rfl, q⟩ := z
    exact ⟨b, rfl, wpAny_pure ⟨_, rfl, q⟩⟩
  unfold richCompare
  simp only [oneThing_ref]
  refine wpAny_holding (wpAny_bind (wpAny_cRoomFor (Nat.lt_of_succ_lt hu) (wpAny_bind (I.type.here (wpAny_bind (J.type.here ?_))))))
  rw [show (Value.ref C != Value.ref C) = false by simp]
  simp only [Bool.false_eq_true, if_false]
  refine wpAny_bind (wpAny_pure ?_)
  simp only [Bool.false_eq_true, if_false]
  refine wpAny_bind (wpAny_mono one (fun r s2 z => ?_) fun _ _ z => z)
  obtain ⟨v, rfl, q⟩ := z
  exact wpAny_pure q
end
/-! ### the rules -/
/-- what an own == promises -/
def spEqB (R : Addr → Addr → Bool → Hp → Prop) : Sp := fun vs H Q _ => ∃ (a b : Addr) (c : Bool), vs = [.ref a, .ref b] ∧ R a b c H ∧ ∀ H', Same H H' → Q (.bl c) H'
def rCmp (C : Addr) (R : Addr → Addr → Bool → Hp → Prop) (neg : Bool) : R2 := fun x y H Q => ∃ (a b : Addr) (c : Bool) (dx dy : Addr) (fs gs : List (Str × V)), x = .ref a ∧ y = .ref b ∧ H a = some (.ins C dx fs) ∧ H b = some (.ins C dy gs) ∧ R a b c H ∧ ∀ H', Same H H' → Q (.bl (c != neg)) H'
section
variable {X : Cx} {n : Nat} {C f : Addr} {fd : FuncData} {ps : List Str} {R : Addr → Addr → Bool → Hp → Prop}
theorem op_eqE (F : FnOk X.prog X.w X.K X.mg X.base CX0 n f fd ps (spEqB R)) (hs : PySem.W.findIn X.K (.ref C) "__eq__" = some (some (.ref f))) (hf : PySem.W.isFn X.K (.ref f) = true) (hb : Binds X.K fd ps []) (hr : Room n X.A) : OpR X (compareOp .Eq) (rCmp C R false) := by
  intro pins s σ H x y u v Q I rx ry hq
  obtain ⟨a, b, c, dx, dy, fs, gs, rfl, rfl, ha, hb2, hR, k⟩ := hq
  cases rx
  cases ry
  obtain ⟨mA, J, _⟩ := ins_get I.hok ha
  obtain ⟨mB, J2, _⟩ := ins_get I.hok hb2
  obtain ⟨od, J, _⟩ := J.look
  obtain ⟨oe, J2, _⟩ := J2.look
  obtain ⟨m, hF⟩ := I.fr
  show wpAny (model X.prog X.w) X.A (richCompare .Eq (.ref a) (.ref b)) (EP X pins σ Q) X.xe s
  refine PySem.W.cmp_K (op := .Eq) (tb := .ref C) hr.units0 hF I.ok.mod.kin J J2.type (by simp [PySem.W.notFirst]) hs hf ?_
  have hsp : spEqB R [.ref a, .ref b] H (fun z H' => z = .bl c ∧ Same H H') (fun _ _ _ => False) := ⟨a, b, c, rfl, hR, fun H' e => ⟨rfl, e⟩⟩
  have hl := F.len _ _ _ _ hsp
  refine wpAny_call (codeAny_mono (F.run X.A X.stack s H ⟨[.ref a, .ref b], []⟩ [.ref a, .ref b] [.ref a, .ref b] _ _ hr I.env0 (by simpa using hb s [.ref a, .ref b] I.kIn (by simpa using hl)) (.cons rfl (.cons rfl .nil)) hsp) fun r s2 hq => ?_)
  cases r with
  | error e => exact hq.elim
  | ok fl =>
    cases fl with
    | ret z =>
      obtain ⟨y, H2, I2, rz, ez, ex⟩ := I.after hq
      subst ez
      cases rz
      refine ⟨.bl c, H2, I2, rfl, ?_⟩
      have q := k H2 ex
      rw [show (c != false) = c by cases c <;> rfl] at q
      exact q
    | next => exact hq.elim
    | brk => exact hq.elim
    | cont => exact hq.elim
theorem op_neE (F : FnOk X.prog X.w X.K X.mg X.base CX0 n f fd ps (spEqB R)) (hs : PySem.W.findIn X.K (.ref C) "__eq__" = some (some (.ref f))) (hf : PySem.W.isFn X.K (.ref f) = true) (hb : Binds X.K fd ps []) (hm : PySem.W.mroIn X.K C (.type "object") = some true)
    (hn : PySem.W.findIn X.K (.ref C) "__ne__" = some (some (.builtin "object.__ne__"))) (hr : Room (n + 1) X.A) : OpR X (compareOp .NotEq) (rCmp C R true) := by
  intro pins s σ H x y u v Q I rx ry hq
  obtain ⟨a, b, c, dx, dy, fs, gs, rfl, rfl, ha, hb2, hR, k⟩ := hq
  cases rx
  cases ry
  obtain ⟨mA, J, _⟩ := ins_get I.hok ha
  obtain ⟨mB, J2, _⟩ := ins_get I.hok hb2
  obtain ⟨od, J, _⟩ := J.look
  obtain ⟨oe, J2, _⟩ := J2.look
  show wpAny (model X.prog X.w) X.A (richCompare .NotEq (.ref a) (.ref b)) (EP X pins σ Q) X.xe s
  refine ne_inst (by have := hr.in1.units0; exact this) I.kIn J J2 hm hn hs hf ?_
  have hsp : spEqB R [.ref a, .ref b] H (fun z H' => z = .bl c ∧ Same H H') (fun _ _ _ => False) := ⟨a, b, c, rfl, hR, fun H' e => ⟨rfl, e⟩⟩
  have hl := F.len _ _ _ _ hsp
  refine wpAny_call (codeAny_mono (F.run X.A.in1 X.stack s H ⟨[.ref a, .ref b], []⟩ [.ref a, .ref b] [.ref a, .ref b] _ _ hr.in1 I.env0.in1 (by simpa using hb s [.ref a, .ref b] I.kIn (by simpa using hl)) (.cons rfl (.cons rfl .nil)) hsp) fun r s2 hq => ?_)
  cases r with
  | error e => exact hq.elim
  | ok fl =>
    cases fl with
    | ret z =>
      obtain ⟨y, H2, I2, rz, ez, ex⟩ := I.after hq
      subst ez
      cases rz
      refine ⟨c, rfl, .bl (!c), H2, I2, rfl, ?_⟩
      have q := k H2 ex
      rw [show (c != true) = !c by cases c <;> rfl] at q
      exact q
    | next => exact hq.elim
    | brk => exact hq.elim
    | cont => exact hq.elim
/-- repr(o), an own __repr__ -/
theorem call_reprE {sp : Sp} (F : GOk X.prog X.w X.K X.mg X.base n f fd ["self"] sp) (hs : PySem.W.findIn X.K (.ref C) "__repr__" = some (some (.ref f))) (hf : PySem.W.isFn X.K (.ref f) = true) (hb : Binds X.K fd ["self"] []) (hgu : X.A.guards = some []) (hr : Room (n + 1) X.A) :
    CallR X (.builtin "repr") (fun xs H Q => ∃ (a dx : Addr) (fs : List (Str × V)), xs = [.ref a] ∧ H a = some (.ins C dx fs) ∧ sp [.ref a] H (fun v H' => ∃ z, v = .str z ∧ Q (.str z) H') (fun _ _ _ => False)) := by
  intro pins s σ H xs us Q I r h
  obtain ⟨a, dx, fs, rfl, ha, hsp⟩ := h
  cases r with
  | cons r1 r2 =>
    cases r2
    cases r1
    obtain ⟨mA, J, _⟩ := ins_get I.hok ha
    obtain ⟨od, J, _⟩ := J.look
    obtain ⟨m, hF⟩ := I.fr
    refine PySem.W.repr_K hr.in1.units0 hF I.ok.mod.kin J hs hf ?_
    refine wpAny_call (codeAny_mono (F.run X.A.in1 X.stack s H ⟨[.ref a], []⟩ [.ref a] [.ref a] _ _ hgu hr.in1 I.env0.in1 (by simpa using hb s [.ref a] I.kIn rfl) (.cons rfl .nil) hsp) fun r s2 hq => ?_)
    cases r with
    | error e => exact hq.elim
    | ok fl =>
      cases fl with
      | ret z =>
        obtain ⟨y, H2, I2, rz, t, ez, q⟩ := I.after hq
        subst ez
        obtain ⟨tk, rfl⟩ := rz
        exact ⟨.str t, H2, I2, ⟨_, rfl⟩, q⟩
      | next => exact hq.elim
      | brk => exact hq.elim
      | cont => exact hq.elim
/-- {x!r}, x plain data -/
def tFmtT (K : PySem.W.Frag) (te : TE) : TE := fun σ H Q => te σ H fun x H1 => ∃ (a : Addr) (d : PyData), x = .ref a ∧ Dp K H1 x d ∧ d.showable = true ∧ d.hasDict = false ∧ d.depth ≤ 20 ∧ d.shown.length ≤ sizeLine ∧ Q (.str d.shown) H1
theorem pe_fmtT {e : Expr} {te : TE} {pos : Pos} (hgu : X.A.guards = some []) (hu : X.A.units + 64 < cLine) (he : PE X e te) : PE X (.FormattedValue e 114 none pos) (tFmtT X.K te) := by
  constructor
  intro pins s σ H Q I h
  refine wpAny_FormattedValue_repr (thn (he.run pins s σ H _ I h) fun v s1 hv => ?_)
  obtain ⟨x, H1, I1, r1, a, d, rfl, hd, hs, hn, hdep, hz, q⟩ := hv
  cases r1
  obtain ⟨as, rd⟩ := Dp.reads I1 d (.ref a) (.ref a) hd rfl
  refine pyReprObj_of_reads rd hs (PyData.noDict_hsm hn) hgu (by omega) (fun _ _ z => z) (fun h2 u tk keep => ?_) hz
  have I2 := I1.kept (t' := tk) keep
  exact wpAny_formatField_str ⟨.str d.shown, H1, I2, ⟨u, rfl⟩, q⟩ ⟨.str d.shown, H1, I2.tok _, ⟨_, rfl⟩, q⟩ hz
end
theorem Nice.shownLe {k B : Nat} {d : PyData} (h : Nice k B d) : d.shown.length ≤ 15 * B + 13 := by
  have q := PyData.shown_le 13 (by decide) d (PyData.leavesShort_of_canLay0 13 d h.lay h.ish)
  have := h.wt
  omega
end SE
namespace SE
open PySem PySem.Spec PyProof.Rows L2
abbrev sEq : Stmt := inClass sEffect 13
abbrev sRepr : Stmt := inClass sEffect 14
/-- what isinstance asks of the class -/
structure EI (K : PySem.W.Frag) (C : Addr) : Prop where
  ha : PySem.W.findIn K (.ref C) "__class__" = some (some (.builtin "object.__class__"))
  hn : PySem.W.specialIn K (.builtin "object.__class__") "__get__" = some (some (.builtin "getset_descriptor.__get__"))
  ht : PySem.W.takesIn K (.builtin "object.__class__") = some true
  hm : PySem.W.mroIn K C (.type "object") = some true
  ki : PySem.W.kitOne K (.ref C) (.ref C) = some true
/-- the parts of an effect as data -/
def dN : Eff → PyData
  | none => .none
  | some (xs, _, _) => .tuple (xs.map .str)
def dL : Eff → PyData
  | none => .none
  | some (_, ys, _) => .tuple (ys.map .str)
def dH : Eff → PyData
  | none => .none
  | some (_, _, p) => .int p
/-- an effect whose words are of items -/
def EffOk : Eff → Prop
  | none => True
  | some (xs, ys, p) => (∀ z ∈ xs, Item z) ∧ (∀ z ∈ ys, Item z) ∧ xs.length ≤ 1000 ∧ ys.length ≤ 1000 ∧ 0 ≤ p ∧ p ≤ 100000
theorem eff_eqv (a b : Eff) : (PyData.eqv (dN a) (dN b) && (PyData.eqv (dL a) (dL b) && PyData.eqv (dH a) (dH b))) = decide (a = b) := by
  cases a with
  | none =>
    cases b with
    | none => simp [dN, dL, dH, PyData.eqv]
    | some b =>
      obtain ⟨x, y, p⟩ := b
      simp [dN, dL, dH, PyData.eqv]
  | some a =>
    obtain ⟨x, y, p⟩ := a
    cases b with
    | none => simp [dN, dL, dH, PyData.eqv]
    | some b =>
      obtain ⟨x2, y2, p2⟩ := b
      show (PyData.eqv (.tuple (x.map .str)) (.tuple (x2.map .str)) && (PyData.eqv (.tuple (y.map .str)) (.tuple (y2.map .str)) && PyData.eqv (.int p) (.int p2))) = _
      rw [eqv_tupS, eqv_tupS]
      have e : PyData.eqv (.int p) (.int p2) = decide (p = p2) := by
        unfold PyData.eqv
        by_cases c : p = p2
        · subst c
          simp
        · simp [c]
      rw [e]
      by_cases c1 : x = x2 <;> by_cases c2 : y = y2 <;> by_cases c3 : p = p2 <;> simp [c1, c2, c3]
def shownE : Eff → Str
  | none => "Effect.never()"
  | some (xs, ys, p) => Str.empty ++ "Effect(" ++ (PyData.tuple (xs.map .str)).shown ++ ", " ++ (PyData.tuple (ys.map .str)).shown ++ ", peak=" ++ toString p ++ ")"
section
variable {P : Program} {w : World} {K : PySem.W.Frag} {mg : Str → Option Value} {base : Heap} {C : Addr}
theorem EffV.dp {H : Hp} {e : Addr} : ∀ {o : Eff}, EffV K C H e o → ∃ dx u v p, H e = some (.ins C dx (eF u v p)) ∧ Dp K H u (dN o) ∧ Dp K H v (dL o) ∧ Dp K H p (dH o)
  | none, h => by
    obtain ⟨dx, h1⟩ := NevAt.ex h
    exact ⟨dx, _, _, _, h1, .non, .non, .non⟩
  | some (_, _, _), h => by
    obtain ⟨dx, u, v, h1, h2, h3⟩ := EffAt.ex h
    exact ⟨dx, _, _, _, h1, .tup h2 (dp_strs _), .tup h3 (dp_strs _), .int _⟩
theorem EffOk.shaped : ∀ {o : Eff}, EffOk o → SeqAt.shaped (dN o) = true ∧ SeqAt.shaped (dL o) = true ∧ SeqAt.shaped (dH o) = true
  | none, _ => ⟨rfl, rfl, rfl⟩
  | some (_, _, _), h => ⟨(nice_tuple (nice_strs h.1)).shaped (by decide), (nice_tuple (nice_strs h.2.1)).shaped (by decide), rfl⟩
/-! ### __eq__ -/
def rEff (K : PySem.W.Frag) (C : Addr) (a b : Addr) (c : Bool) (H : Hp) : Prop := ∃ o1 o2, EffV K C H a o1 ∧ EffV K C H b o2 ∧ EffOk o1 ∧ EffOk o2 ∧ c = decide (o1 = o2)
theorem scEq : FnScope ["self", "other"] ["self", "other"] (defScope sEq) := ⟨rfl, rfl, rfl, by decide +kernel, rfl, by decide +kernel, by decide +kernel⟩
theorem ok_eq {f : Addr} {fd : FuncData} (F : Fun K "__eq__" "Effect.__eq__" sEq f fd) (T : EC K mg C) (TI : EI K C) (B : Blt mg) : FnOk P w K mg base CX0 1 f fd ["self", "other"] (spEqB (rEff K C)) := by
  refine F.ok scEq (fun vs H Q E h => ?_) (fun cdv A outer s H vs Q E hr h => ?_)
  · obtain ⟨a, b, c, rfl, _⟩ := h
    rfl
  · obtain ⟨a, b, c, rfl, ⟨o1, o2, h1, h2, k1, k2, rfl⟩, k⟩ := h
    obtain ⟨dx, u, v, p, i1, d1, d2, d3⟩ := h1.dp
    obtain ⟨dy, u2, v2, p2, i2, g1, g2, g3⟩ := h2.dp
    obtain ⟨s1, s2, s3⟩ := k1.shaped
    obtain ⟨t1, t2, t3⟩ := k2.shaped
    refine ⟨_, pss_one (ps_ret (pe_and (pe_callB call_isi (by rfl) B.isi (by decide +kernel) (pa_cons (pv 1) (pa_cons (pe_glob (v := .ref C) rfl T.mgE rfl) pa_nil)))
      (pe_and (pe_cmpR (op_eqD hr.units) (pe_fld (pv 0) rfl) (pe_fld (pv 1) rfl) (nomark _)) (pe_and (pe_cmpR (op_eqD hr.units) (pe_fld (pv 0) rfl) (pe_fld (pv 1) rfl) (nomark _)) (pe_one (pe_cmpR (op_eqD hr.units) (pe_fld (pv 0) rfl) (pe_fld (pv 1) rfl) (nomark _))))))), ?_⟩
    have fin := k H (Same.refl H)
    rw [← eff_eqv] at fin
    refine ⟨_, rfl, _, .ref C, .ref C, .ref C, true, rfl, .own C, .base (.ins i2 T.cl TI.ha TI.hn TI.ht TI.hm), TI.ki, true, rfl, iteT ?_⟩
    refine ⟨_, rfl, a, C, dx, _, _, rfl, i1, T.cl, T.nN, eF_needs _ _ _, _, rfl, b, C, dy, _, _, rfl, i2, T.cl, T.nN, eF_needs _ _ _, dN o1, dN o2, d1, g1, s1, t1, _, rfl, ?_⟩
    cases e1 : PyData.eqv (dN o1) (dN o2) with
    | false =>
      rw [e1, Bool.false_and] at fin
      exact iteF fin
    | true =>
      rw [e1, Bool.true_and] at fin
      refine iteT ⟨_, rfl, a, C, dx, _, _, rfl, i1, T.cl, T.nL, eF_leaves _ _ _, _, rfl, b, C, dy, _, _, rfl, i2, T.cl, T.nL, eF_leaves _ _ _, dL o1, dL o2, d2, g2, s2, t2, _, rfl, ?_⟩
      cases e2 : PyData.eqv (dL o1) (dL o2) with
      | false =>
        rw [e2, Bool.false_and] at fin
        exact iteF fin
      | true =>
        rw [e2, Bool.true_and] at fin
        exact iteT ⟨_, rfl, a, C, dx, _, _, rfl, i1, T.cl, T.nH, eF_high _ _ _, _, rfl, b, C, dy, _, _, rfl, i2, T.cl, T.nH, eF_high _ _ _, dH o1, dH o2, d3, g3, s3, t3, fin⟩
/-! ### __repr__ -/
def spRepr (K : PySem.W.Frag) (C : Addr) : Sp := fun vs H Q _ => ∃ (e : Addr) (o : Eff), vs = [.ref e] ∧ EffV K C H e o ∧ EffOk o ∧ Q (.str (shownE o)) H
theorem scRp : FnScope ["self"] ["self"] (defScope sRepr) := ⟨rfl, rfl, rfl, by decide +kernel, rfl, by decide +kernel, by decide +kernel⟩
theorem ok_repr {f : Addr} {fd : FuncData} (F : Fun K "__repr__" "Effect.__repr__" sRepr f fd) (T : EC K mg C) : GOk P w K mg base 1 f fd ["self"] (spRepr K C) := by
  obtain ⟨oc, od, kV, doc, pm, an, cv, ct, osl, rfl, look, hcode⟩ := F.ex
  refine gok_of look hcode scRp (fun vs H Q E h => ?_) (fun A out s H vs Q E hgu hr h => ?_)
  · obtain ⟨e, o, rfl, _⟩ := h
    rfl
  · obtain ⟨e, o, rfl, h, ok, k⟩ := h
    have body : ∃ t, PSs (cxOf CX0 P w K mg base ["self"] "Effect.__repr__" (defScope sRepr) f cv A out s H E).nox (defBody sRepr) t ∧ t { nx := fun _ H2 => Q .non H2, rt := Q } (start ["self"] [.ref e]) H := by
      refine ⟨_, pss_cons (ps_if (pt_cmpR op_isN (pe_fld (pv 0) rfl) pe_non (nomark _)) (pss_one (ps_ret pe_str)) pss_nil)
        (pss_one (ps_ret (pe_joined (.cons pe_str (.cons (pe_fmtT hgu hr.units (pe_fld (pv 0) rfl)) (.cons pe_str (.cons (pe_fmtT hgu hr.units (pe_fld (pv 0) rfl)) (.cons pe_str (.cons (pe_fmtR (pe_fld (pv 0) rfl)) (.cons pe_str .nil)))))))))), ?_⟩
      cases o with
      | none =>
        obtain ⟨dx, h1⟩ := NevAt.ex h
        exact ⟨_, rfl, e, C, dx, _, _, rfl, h1, T.cl, T.nN, eF_needs _ _ _, rfl, true, rfl, iteT k⟩
      | some o =>
        obtain ⟨xs, ys, p⟩ := o
        obtain ⟨dx, u, v, h1, h2, h3⟩ := EffAt.ex h
        obtain ⟨i1, i2, l1, l2, p0, p1⟩ := ok
        have n1 := nice_tuple (nice_strs i1)
        have n2 := nice_tuple (nice_strs i2)
        have z1 := n1.shownLe
        have z2 := n2.shownLe
        rw [List.length_map] at z1 z2
        have tl : (toString p : Str).length ≤ 13 := by
          have := PyData.shown_int_le (i := p) (by omega)
          exact this
        have big : ∀ m : Nat, m ≤ 400000 → m ≤ sizeLine := fun m hm => by
          rw [sizeLine_eq]
          omega
        have w0 : (Str.empty : Str).length = 0 := by decide +kernel
        have w1 : ("Effect(" : Str).length = 7 := by decide +kernel
        have w2 : (", " : Str).length = 2 := by decide +kernel
        have w3 : (", peak=" : Str).length = 7 := by decide +kernel
        have w4 : (")" : Str).length = 1 := by decide +kernel
        have lg : p.natAbs.log2 < 1920 := PySem.Flt.log2_lt_of (by decide) (Nat.lt_of_lt_of_le (show p.natAbs < 2 ^ 17 by show _ < 131072; omega) (Nat.pow_le_pow_right (by decide) (by decide)))
        refine ⟨_, rfl, e, C, dx, _, _, rfl, h1, T.cl, T.nN, eF_needs _ _ _, rfl, false, rfl, iteF ?_⟩
        refine ⟨_, rfl, big _ ?_, _, rfl, e, C, dx, _, _, rfl, h1, T.cl, T.nN, eF_needs _ _ _, u, _, rfl, .tup h2 (dp_strs xs), n1.sh, n1.nd, Nat.le_trans n1.dep (by decide), big _ (by omega), _, rfl, big _ ?_, _, rfl, big _ ?_, _, rfl, e, C, dx, _, _, rfl, h1, T.cl, T.nL, eF_leaves _ _ _, v, _, rfl, .tup h3 (dp_strs ys), n2.sh, n2.nd, Nat.le_trans n2.dep (by decide), big _ (by omega), _, rfl, big _ ?_, _, rfl, big _ ?_, _, rfl, e, C, dx, _, _, rfl, h1, T.cl, T.nH, eF_high _ _ _, .inr ⟨p, rfl, lg, _, rfl, big _ ?_, _, rfl, big _ ?_, k⟩⟩
        all_goals (simp only [len_add, w0, w1, w2, w3, w4]; omega)
    obtain ⟨t, a, b⟩ := body
    exact ⟨t, a.nox, b⟩
end
end SE
namespace SE
open PySem PySem.Spec PyProof.Rows L2
/-! ### the effect of a repeated sequence -/
def cw : List Str → List Str → Option (List Str × List Str)
  | [], R => some (R, [])
  | a :: P, [] => some ([], a :: P)
  | a :: P, b :: R => if a = b then cw P R else none
def mx (a b : Int) : Int := if b > a then b else a
def hg (A : Prt) : Int := (A.2.1.length : Int) - (A.1.length : Int)
theorem cw_nil (P : List Str) : cw P [] = some ([], P) := by
  cases P <;> rfl
theorem cw_eq : ∀ P R : List Str, cw P R = if P.take (min P.length R.length) = R.take (min P.length R.length) then some (R.drop (min P.length R.length), P.drop (min P.length R.length)) else none
  | [], R => by simp [cw]
  | a :: P, [] => by simp [cw]
  | a :: P, b :: R => by
    have ih := cw_eq P R
    unfold cw
    have e : min (a :: P).length (b :: R).length = min P.length R.length + 1 := by
      rw [List.length_cons, List.length_cons]
      omega
    rw [e, List.take_succ_cons, List.take_succ_cons, List.drop_succ_cons, List.drop_succ_cons]
    by_cases c : a = b
    · subst c
      rw [if_pos rfl, ih]
      simp
    · rw [if_neg c, if_neg (fun z => c (List.cons.inj z).1)]
theorem comp_cw (A B : Prt) : comp A B = (cw A.2.1 B.1).map fun z => (A.1 ++ z.1, B.2.1 ++ z.2, mx A.2.2 (hg A + B.2.2)) := by
  unfold comp
  rw [cw_eq]
  split
  · rfl
  · rfl
theorem assoc1 (A E : Prt) (s : Stp) : ((comp A (partM s)).bind fun D => comp D E) = (comp (partM s) E).bind (comp A) := by
  obtain ⟨x, y, p⟩ := A
  obtain ⟨u, v, q⟩ := E
  obtain ⟨b, z⟩ := s
  cases b with
  | true =>
    have e1 : partM (true, z) = ([], [z], 1) := rfl
    rw [e1]
    simp only [comp_cw, cw_nil, Option.map_some, Option.bind_some]
    cases u with
    | nil =>
      simp only [comp_cw, cw_nil, Option.map_some, Option.bind_some, hg, List.append_nil, List.nil_append]
      refine congrArg some (Prod.ext rfl (Prod.ext (by simp) ?_))
      simp only [List.length_append, List.length_cons, List.length_nil, mx]
      grind
    | cons t r =>
      simp only [cw]
      by_cases c : z = t
      · subst c
        simp only [List.cons_append, List.nil_append, cw, if_true, Option.map_some, Option.bind_some, List.append_nil, comp_cw]
        cases cw y r with
        | none => rfl
        | some g =>
          simp only [Option.map_some, hg]
          refine congrArg some (Prod.ext rfl (Prod.ext rfl ?_))
          simp only [List.length_append, List.length_cons, List.length_nil, mx]
          grind
      · simp [cw, c]
  | false =>
    have e1 : partM (false, z) = ([z], [], 0) := rfl
    rw [e1]
    simp only [comp_cw, cw, Option.map_some, Option.bind_some, List.append_nil]
    cases y with
    | nil =>
      simp only [cw, Option.map_some, Option.bind_some, hg, List.append_nil]
      refine congrArg some (Prod.ext (by simp) (Prod.ext (by simp) ?_))
      simp only [List.length_append, List.length_cons, List.length_nil, mx]
      grind
    | cons t r =>
      simp only [List.cons_append, List.nil_append, cw, cw_nil]
      by_cases c : t = z
      · subst c
        simp only [if_true, Option.map_some, Option.bind_some, List.append_nil, List.nil_append]
        cases cw r u with
        | none => rfl
        | some g =>
          simp only [Option.map_some, hg]
          refine congrArg some (Prod.ext rfl (Prod.ext rfl ?_))
          simp only [List.length_append, List.length_cons, List.length_nil, mx]
          grind
      · simp [c]
theorem joinF_cons (A B : Prt) (r : List Prt) : joinF A (B :: r) = (comp A B).bind fun D => joinF D r := by
  rw [joinF]
  cases comp A B <;> rfl
theorem comp_one (s : Stp) : comp ([], [], 0) (partM s) = some (partM s) := by
  obtain ⟨b, z⟩ := s
  cases b <;> simp [comp_cw, partM, cw, hg, mx]
theorem cw_len : ∀ (P R : List Str) (z : List Str × List Str), cw P R = some z → (z.2.length : Int) - z.1.length = P.length - R.length
  | [], R, z, h => by
    cases h
    show ((0 : Nat) : Int) - R.length = ((0 : Nat) : Int) - R.length
    rfl
  | a :: P, [], z, h => by
    cases h
    rfl
  | a :: P, b :: R, z, h => by
    unfold cw at h
    split at h
    · have ih := cw_len P R z h
      rw [List.length_cons, List.length_cons]
      omega
    · cases h
theorem hg_comp {A B D : Prt} (h : comp A B = some D) : hg D = hg A + hg B := by
  rw [comp_cw] at h
  cases e : cw A.2.1 B.1 with
  | none =>
    rw [e] at h
    cases h
  | some z =>
    rw [e] at h
    cases h
    have := cw_len _ _ _ e
    unfold hg
    simp only [List.length_append]
    omega
theorem pk_comp {A B D : Prt} (h : comp A B = some D) : D.2.2 = mx A.2.2 (hg A + B.2.2) := by
  rw [comp_cw] at h
  cases e : cw A.2.1 B.1 with
  | none =>
    rw [e] at h
    cases h
  | some z =>
    rw [e] at h
    cases h
    rfl
theorem hgp (s : Stp) : hg (partM s) ≤ (partM s).2.2 ∧ 0 ≤ (partM s).2.2 ∧ (partM s).2.2 ≤ 1 := by
  obtain ⟨b, z⟩ := s
  cases b
  · exact ⟨(by show ((0 : Nat) : Int) - ((1 : Nat) : Int) ≤ 0; decide), (by show (0 : Int) ≤ 0; decide), (by show (0 : Int) ≤ 1; decide)⟩
  · exact ⟨(by show ((1 : Nat) : Int) - ((0 : Nat) : Int) ≤ 1; decide), (by show (0 : Int) ≤ 1; decide), (by show (1 : Int) ≤ 1; decide)⟩
theorem joinF_eff : ∀ (ss : List Stp) (A : Prt), hg A ≤ A.2.2 → joinF A (ss.map partM) = (effM ss).bind (comp A)
  | [], A, h => by
    obtain ⟨x, y, p⟩ := A
    show some (x, y, p) = comp (x, y, p) ([], [], 0)
    rw [comp_cw, cw_nil]
    simp only [Option.map_some, List.append_nil, List.nil_append]
    refine congrArg some (Prod.ext rfl (Prod.ext rfl ?_))
    have h' : hg (x, y, p) ≤ p := h
    simp only [mx]
    split <;> omega
  | s :: ss, A, h => by
    have ih := joinF_eff ss
    rw [List.map_cons, joinF_cons]
    have hs := hgp s
    have e : effM (s :: ss) = (effM ss).bind (comp (partM s)) := by
      rw [← ih _ hs.1]
      unfold effM joinM
      rw [List.map_cons, joinF_cons, comp_one, Option.bind_some]
    rw [e]
    have e2 : ((comp A (partM s)).bind fun D => joinF D (ss.map partM)) = (comp A (partM s)).bind fun D => (effM ss).bind (comp D) := by
      cases q : comp A (partM s) with
      | none => rfl
      | some D =>
        rw [Option.bind_some, Option.bind_some]
        refine ih D ?_
        rw [hg_comp q, pk_comp q]
        unfold mx
        split <;> omega
    rw [e2]
    cases effM ss with
    | none =>
      simp only [Option.bind_none]
      cases comp A (partM s) <;> rfl
    | some E => exact assoc1 A E s
theorem joinF_app : ∀ (ps qs : List Prt) (A : Prt), joinF A (ps ++ qs) = (joinF A ps).bind fun D => joinF D qs
  | [], qs, A => rfl
  | B :: ps, qs, A => by
    rw [List.cons_append, joinF_cons, joinF_cons]
    cases comp A B with
    | none => rfl
    | some D =>
      rw [Option.bind_some, Option.bind_some]
      exact joinF_app ps qs D
/-- what the effect of a sequence keeps to -/
theorem joinF_ok : ∀ (ss : List Stp) (A D : Prt), PrtOk A → (∀ s ∈ ss, Item s.2) → joinF A (ss.map partM) = some D → PrtOk D ∧ D.1.length + D.2.1.length ≤ A.1.length + A.2.1.length + ss.length ∧ D.2.2 ≤ A.2.2 + ss.length
  | [], A, D, h, _, e => by
    cases e
    refine ⟨h, by simp, by simp⟩
  | s :: ss, A, D, h, hI, e => by
    rw [List.map_cons, joinF_cons] at e
    cases q : comp A (partM s) with
    | none =>
      rw [q] at e
      cases e
    | some B =>
      rw [q, Option.bind_some] at e
      have ok := comp_ok h (partM_ok (hI s List.mem_cons_self)) q
      have ih := joinF_ok ss B D ok.1 (fun z m => hI z (List.mem_cons_of_mem _ m)) e
      have pk := pk_comp q
      have hs := hgp s
      have l1 : (partM s).1.length + (partM s).2.1.length = 1 := by
        unfold partM
        split <;> rfl
      have hh : hg A ≤ A.2.2 := h.h1
      refine ⟨ih.1, ?_, ?_⟩
      · rw [List.length_cons]
        omega
      · have i3 := ih.2.2
        rw [pk] at i3
        have : mx A.2.2 (hg A + (partM s).2.2) ≤ A.2.2 + 1 := by
          unfold mx
          split <;> omega
        rw [List.length_cons]
        omega
theorem effM_ok {ss : List Stp} {D : Prt} (hI : ∀ s ∈ ss, Item s.2) (h : effM ss = some D) : PrtOk D ∧ D.1.length + D.2.1.length ≤ ss.length ∧ D.2.2 ≤ ss.length := by
  have q := joinF_ok ss ([], [], 0) D ⟨fun z m => (by cases m), fun z m => (by cases m), Int.le_refl _, Int.le_refl _⟩ hI h
  refine ⟨q.1, ?_, ?_⟩
  · have := q.2.1
    simpa using this
  · have := q.2.2
    simpa using this
theorem effM_app {ss tt : List Stp} (hI : ∀ s ∈ ss, Item s.2) : effM (ss ++ tt) = (effM ss).bind fun A => (effM tt).bind (comp A) := by
  unfold effM joinM
  rw [List.map_append, joinF_app]
  cases q : joinF ([], [], 0) (ss.map partM) with
  | none => rfl
  | some A =>
    rw [Option.bind_some, Option.bind_some]
    exact joinF_eff tt A (effM_ok hI q).1.h1
theorem cw_self_left : ∀ (w r : List Str), cw w (w ++ r) = some (r, [])
  | [], r => rfl
  | a :: w, r => by
    rw [List.cons_append, cw, if_pos rfl]
    exact cw_self_left w r
theorem cw_self_right : ∀ (w r : List Str), cw (w ++ r) w = some ([], r)
  | [], r => cw_nil r
  | a :: w, r => by
    rw [List.cons_append, cw, if_pos rfl]
    exact cw_self_right w r
theorem effM_EffOk {ss : List Stp} (hI : ∀ s ∈ ss, Item s.2) (hl : ss.length ≤ 1000) : EffOk (effM ss) := by
  cases h : effM ss with
  | none => exact trivial
  | some o =>
    obtain ⟨x, y, p⟩ := o
    obtain ⟨a, b, c⟩ := effM_ok hI h
    have b' : x.length + y.length ≤ ss.length := b
    have c' : p ≤ ss.length := c
    exact ⟨a.i1, a.i2, by omega, by omega, a.h0, by omega⟩
end SE
/-! repr of a list of objects with an own __repr__; an own __repr__ while a list's repr is under way. -/
namespace SE
open PySem PySem.Spec PyProof.Rows L2
/-- the promise of a def that is called while the reprs g are under way -/
structure GOkG (P : Program) (w : World) (K : PySem.W.Frag) (mg : Str → Option Value) (base : Heap) (g : List Code) (k : Nat) (f : Addr) (fd : FuncData) (ps : List Str) (sp : Sp) : Prop where
  len : ∀ xs H Q E, sp xs H Q E → xs.length = ps.length
  run : ∀ (A : Around) (out : List Env) (s : Shared) (H : Hp) (args : Args) (us : List Value) (xs : List V) (Q : VK) (E : XK), A.guards = some g → Room k A → Env0 P w K mg base A out s H →
    BindsTo s fd args (ps.zip us) → Vals xs us → sp xs H Q E → codeAny (model P w) A (.call (.ref f) args) (CR (fun _ _ _ _ _ _ => False) out P w H s Q E) s
section
variable {P : Program} {w : World} {K : PySem.W.Frag} {mg : Str → Option Value} {base : Heap} {g : List Code}
theorem gok_ofG {k : Nat} {f : Addr} {nm ql : Str} {pars : Arguments} {bd : List Stmt} {sc : Scope} {dV kV doc pm cv ct oc : Value} {an od : Option Addr}
    {osl : Array (Option Value)} {N ps : List Str} {sp : Sp} (look : K.lookup f = some ⟨oc, od, .func (PySem.W.fnOf nm ql pars bd sc dV kV doc pm an cv ct), osl⟩) (hcode : PySem.W.codeIn K cv ql = true) (S : FnScope N ps sc)
    (len : ∀ xs H Q E, sp xs H Q E → xs.length = ps.length)
    (hbd : ∀ (A : Around) (out : List Env) (s : Shared) (H : Hp) (xs : List V) (Q : VK) (E : XK), A.guards = some g → Room k (A.deeper (envOfC ql sc s.heap.objs.size f cv)) → sp xs H Q E →
      ∃ t, PSs (cxOf (fun _ _ _ _ _ _ => False) P w K mg base N ql sc f cv A out s H E) bd t ∧ t { nx := fun _ H2 => Q .non H2, rt := Q } (start N xs) H) :
    GOkG P w K mg base g (k + 1) f (PySem.W.fnOf nm ql pars bd sc dV kV doc pm an cv ct) ps sp := by
  constructor
  · exact len
  intro A out s H args us xs Q E hgu hroom env hbind hvals hpre
  have hlen := len _ _ _ _ hpre
  have kin : K.In s.heap := env.mod.kin.keeps fun b o z => (env.bs b o z).1
  have nolim : s.heap.NoLimit := env.mod.nolimit.keeps fun b o z => (env.bs b o z).1
  have kinds : ∀ y ∈ ps.zip us, sc.names.lookup y.1 = some .local ∨ (sc.names.lookup y.1 = some .cell ∧ ((cellsFrom (s.heap.objs.size + 1) sc.names []).lookup y.1).isSome = true) := by
    rintro ⟨n, v⟩ hy
    rcases S.par n (List.of_mem_zip hy).1 with q | q
    · exact .inl q
    · exact .inr ⟨q, PySem.W.cellsFrom_some _ _ _ (.inl q)⟩
  apply codeAny_call_function hroom.depth (kin _ _ look) rfl S.co S.gen rfl (PySem.W.codeRec_of kin hcode)
  apply hbind
  refine wpAny_newFunctionEnv_cells S.kind kinds fun ev hev s2 inc => ?_
  subst hev
  refine ⟨nolim.keeps inc.toInCall.keep, codeAny_func ?_⟩
  obtain ⟨t, der, rd⟩ := hbd A out s H xs Q E hgu (hroom.deeper _) hpre
  have J0 : Inv (cxOf (fun _ _ _ _ _ _ => False) P w K mg base N ql sc f cv A out s H E) [] (start N xs) H s2 := inv_start S hroom.hd env hlen hvals inc
  refine wpAny_mono (der.run [] s2 (start N xs) H _ J0 rd) (fun fl s3 hs => ?_) fun e s3 hs => hs
  cases fl with
  | ret u =>
    obtain ⟨v, σ3, H3, J, rv, q⟩ := hs
    exact ⟨v, H3, J.os, J.bare, J.base, J.hok, rv, q⟩
  | next =>
    obtain ⟨σ3, H3, J, q⟩ := hs
    exact ⟨V.non, H3, J.os, J.bare, J.base, J.hok, rfl, q⟩
  | brk => exact hs.elim fun _ z => z.elim fun _ z => z.2.elim
  | cont => exact hs.elim fun _ z => z.elim fun _ z => z.2.elim
end
section
variable {prog : Program} {w : World} {A : Around} {E : Value → Shared → Prop} {s : Shared} {K : PySem.W.Frag} {x C f : Addr} {ox : Obj} {od : Option Obj}
/-- the repr of an object with an own __repr__, inside a list's -/
theorem under_own {b : Nat} {Q : Value → Shared → Prop} (hu : A.units < cLine) (X : K.In s.heap) (I : PySem.W.InstAt s.heap x ox C od) (hs : PySem.W.findIn K (.ref C) "__repr__" = some (some (.ref f))) (hf : PySem.W.isFn K (.ref f) = true)
    (h : wpAny (model prog w) A (call (.ref f) [.ref x]) (fun r s' => ∃ t u, r = .str t u ∧ Q (.str t u) s') E s) : wpAny (model prog w) A (pyReprObjUnder b (.ref x)) Q E s := by
  unfold pyReprObjUnder pyReprObjBy
  refine wpAny_bind (wpAny_cRoomFor hu ?_)
  refine wpAny_bind (wpAny_bind (I.type.here ((PySem.W.looks_findIn X hs).here ?_)))
  show wpAny _ _ (if (some (Value.ref f)).isNone = true then _ else _) _ _ _
  rw [if_neg (by simp)]
  simp only [callSpecialIfBoundBy?, bindSpecialIfBound?]
  have fin : ∀ {R : Option Value → Shared → Prop}, (∀ t u s', Q (.str t u) s' → R (some (.str t u)) s') → wpAny (model prog w) A (call (.ref f) ([.ref x] ++ []) >>= fun v => pure (some v)) R E s := fun hR =>
    wpAny_bind (wpAny_mono h (fun v s' h' => by
      obtain ⟨t, u, rfl, q⟩ := h'
      exact wpAny_pure (hR t u s' q)) fun _ _ h' => h')
  have post : ∀ t u s', Q (.str t u) s' → wpAny (model prog w) A (do
      if ← isInstance (.str t u) (.type "str") then pure (Value.str t u) else raiseError "TypeError" s!"__repr__ returned non-string (type {← typeNameOf (.str t u)})") Q E s' := fun t u s' q =>
    wpAny_bind (wpAny_isInstance (typeIs_str _ _ _) isSubtype_str_str (by exact wpAny_pure q))
  refine wpAny_bind (wpAny_holding (wpAny_bind (wpAny_bind (wpAny_bind (I.type.here ((PySem.W.looks_findIn X hs).here ?_))))))
  refine wpAny_bind (wpAny_askSetting (wpAny_ite ?_))
  split
  · exact wpAny_bind ((PySem.W.bind_fn X _ (beq_iff_eq.mp hf)).here (wpAny_pure (by exact fin post)))
  · exact wpAny_tryCatch (wpAny_bind ((PySem.W.bind_fn X _ (beq_iff_eq.mp hf)).here (wpAny_pure (by exact fin post))))
end
theorem vals_strs : ∀ {ts : List Str} {its : List Value}, Vals (ts.map V.str) its → ∃ done : List (Str × Tok), its = strValues done ∧ done.map (·.1) = ts
  | [], _, h => by
    cases h
    exact ⟨[], rfl, rfl⟩
  | t :: ts, _, h => by
    cases h with
    | cons r q =>
      obtain ⟨u, rfl⟩ := r
      obtain ⟨done, rfl, e⟩ := vals_strs q
      exact ⟨(t, u) :: done, rfl, by rw [List.map_cons, e]⟩
theorem vals_refs : ∀ {es : List Addr} {its : List Value}, Vals (es.map V.ref) its → its = es.map Value.ref
  | [], _, h => by
    cases h
    rfl
  | e :: es, _, h => by
    cases h with
    | cons r q =>
      cases r
      rw [vals_refs q]
      rfl
theorem loop_depth {A : Around} {args : Args} : (A.under (.builtin "list.__repr__.loop" args)).depth ≤ A.depth + 1 := by
  simp [Around.under, Code.weight, Code.isCreation, Code.isGuard, Code.isCaller, Code.frames, Code.isFrame, guardIds]
theorem Room.loop {k : Nat} {A : Around} (r : Room (k + 1) A) (args : Args) : Room k (A.under (.builtin "list.__repr__.loop" args)) :=
  ⟨r.hd, by have := r.dp; have := loop_depth (A := A) (args := args); omega, by have := r.un; rw [units_under_list_loop]; omega⟩
theorem Env0.loop {P : Program} {w : World} {K : PySem.W.Frag} {mg : Str → Option Value} {base : Heap} {A : Around} {outer : List Env} {s : Shared} {H : Hp} (e : Env0 P w K mg base A outer s H) (args : Args) :
    Env0 P w K mg base (A.under (.builtin "list.__repr__.loop" args)) outer s H := ⟨by first | exact e.frames | (simpa [Around.under, Code.envs, Code.isFrame, pushEnvs] using e.frames), e.mod, e.bs, e.bsz, e.funs, e.frf, e.hok, e.bare⟩
section
variable {X : Cx} {n : Nat} {C f : Addr} {fd : FuncData}
open Builtin Builtin.List in
theorem repr_go {pins : List (Addr × Obj)} {σ : L2.St} {H : Hp} {sp : List Code → Sp} {R : Result → Shared → Prop} {L P : Addr} {es : List Addr} {ts : List Str} (F : ∀ g, GOkG X.prog X.w X.K X.mg X.base g n f fd ["self"] (sp g)) (hs : PySem.W.findIn X.K (.ref C) "__repr__" = some (some (.ref f))) (hf : PySem.W.isFn X.K (.ref f) = true) (hb : Binds X.K fd ["self"] [])
    (hgu : X.A.guards = some []) (hr : Room (n + 3) X.A) (hLP : L ≠ P) (hL : H L = some (.lst (es.map V.ref))) (hP : H P = none) (hlen : es.length = ts.length) (hsz : (listText ts).length ≤ sizeLine)
    (hT : ∀ (i : Nat) (e : Addr), es[i]? = some e → ∃ t, ts[i]? = some t ∧ (∃ dx fs, H e = some (.ins C dx fs)) ∧ ∀ (rest : List Value) (ys : List V), sp [.builtin "list.__repr__.loop" ⟨.ref L :: rest, []⟩] [.ref e] (upd H P (.lst ys)) (fun v H' => v = .str t ∧ H' = upd H P (.lst ys)) (fun _ _ _ => False))
    (hR : ∀ u s', Inv X pins σ (upd H P (.lst (ts.map V.str))) s' → R (.ok (.ret (.str (listText ts) u))) s') :
    ∀ (k i : Nat) (s : Shared), es.length - i = k → i ≤ es.length → Inv X pins σ (upd H P (.lst ((ts.take i).map V.str))) s →
    codeAny (model X.prog X.w) X.A.in1 (.builtin "list.__repr__.loop" ⟨[.ref L, rawInt i, .ref P, rawInt ((0 + piled (ts.take i) : Nat) : Int)], []⟩) R s := by
  have hX : (listText ts).length = (textFrom 0 "[" ts).length + 1 := by
    show (textFrom 0 "[" ts ++ "]").length = _
    rw [strLen_append]; rfl
  have hLn := textFrom_len ts 0 "["
  have hsz1 : es.length ≤ sizeLine := by
    have h1 := hLn.1
    rw [if_neg (Nat.lt_irrefl 0)] at h1
    omega
  have hsz2 : ∀ t ∈ ts, t.length ≤ sizeLine := fun t ht => by
    have h2 := hLn.2.1 t ht
    omega
  have hp3 := piled_le_listText ts
  intro k
  induction k with
  | zero =>
    intro i s hk hi I
    have hin : i = es.length := by omega
    have hLs : (upd H P (.lst ((ts.take i).map V.str))) L = some (.lst (es.map V.ref)) := by rw [upd_ne hLP]; exact hL
    obtain ⟨_, its, nL, rL, lL, eL⟩ := I.lstM hLs
    obtain ⟨_, itp, nP, rP, lP, eP⟩ := I.lstM (l := P) upd_same
    obtain ⟨done, rfl, hdone⟩ := vals_strs rP
    refine codeAny_builtin PySem.F.entry_list_repr_loop ?_
    show wpAny _ _ («list.__repr__.loop» ⟨[.ref L, .int i 0, .ref P, .int ((0 + piled (ts.take i) : Nat) : Int) 0], []⟩) _ _ s
    rw [repr_loop_tree]
    refine wpAny_bind (wpAny_listItems eL rfl ?_)
    have hnone : its.toArray[(i : Int).toNat]? = none := by
      rw [List.length_map] at lL
      simp only [Int.toNat_natCast, List.getElem?_toArray]
      exact List.getElem?_eq_none (by omega)
    simp only [hnone]
    unfold reprEnd
    refine wpAny_bind (wpAny_listItems eP rfl ?_)
    rw [show (strValues done).toArray.toList = strValues done from List.toList_toArray .., repr_fold]
    refine wpAny_bind (wpAny_pure ?_)
    have hall : done.map (·.1) = ts := by rw [hdone, hin, hlen, List.take_length]
    rw [hall]
    refine wpAny_bind (wpAny_mkStr (wpAny_pure ?_) hsz)
    rw [hin, hlen, List.take_length] at I
    exact hR _ _ (I.tok _)
  | succ k ih =>
    intro i s hk hi I
    have hlt : i < es.length := by omega
    have hLs : (upd H P (.lst ((ts.take i).map V.str))) L = some (.lst (es.map V.ref)) := by rw [upd_ne hLP]; exact hL
    obtain ⟨_, its, nL, rL, lL, eL⟩ := I.lstM hLs
    have hits := vals_refs rL
    subst hits
    obtain ⟨t, ht, ⟨dx, fs, he⟩, hsp⟩ := hT i es[i] (by simp [hlt])
    have hp1 := piled_take_succ ht
    have hp2 := piled_take_le ts (i + 1)
    refine codeAny_builtin PySem.F.entry_list_repr_loop ?_
    show wpAny _ _ («list.__repr__.loop» ⟨[.ref L, .int i 0, .ref P, .int ((0 + piled (ts.take i) : Nat) : Int) 0], []⟩) _ _ s
    rw [repr_loop_tree]
    refine wpAny_bind (wpAny_listItems eL rfl ?_)
    have hsome : (es.map Value.ref).toArray[(i : Int).toNat]? = some (.ref es[i]) := by simp [hlt]
    simp only [hsome]
    rw [Int.toNat_natCast]
    have ePne : es[i] ≠ P := fun z => by rw [z, hP] at he; cases he
    have heP : (upd H P (.lst ((ts.take i).map V.str))) es[i] = some (.ins C dx fs) := by rw [upd_ne ePne]; exact he
    obtain ⟨mA, J, _⟩ := ins_get I.hok heP
    obtain ⟨od, J, _⟩ := J.look
    have gG : ((X.A.in1).under (.builtin "list.__repr__.loop" ⟨[.ref L, .int i 0, .ref P, .int ((0 + piled (ts.take i) : Nat) : Int) 0], []⟩)).guards = some [.builtin "list.__repr__.loop" ⟨[.ref L, .int i 0, .ref P, .int ((0 + piled (ts.take i) : Nat) : Int) 0], []⟩] := guards_under_guard (isGuard_list_loop _) hgu
    have hrA := Room.loop (k := n) ((show Room (n + 2) X.A.in1 from Room.in1 hr).mono (by omega)) ⟨[.ref L, .int i 0, .ref P, .int ((0 + piled (ts.take i) : Nat) : Int) 0], []⟩
    refine wpAny_bind (wpAny_holding (wpAny_pyReprUnder_ref (by omega) (under_own hrA.units0 I.kIn J hs hf ?_)))
    refine wpAny_call (codeAny_mono ((F _).run _ X.stack s _ ⟨[.ref es[i]], []⟩ [.ref es[i]] [.ref es[i]] _ _ gG hrA (Env0.loop I.env0.in1 _) (by simpa using hb s [.ref es[i]] I.kIn rfl) (.cons rfl .nil) (hsp _ ((ts.take i).map V.str))) fun r s2 hq => ?_)
    cases r with
    | error e => exact hq.elim
    | ok fl =>
      cases fl with
      | next => exact hq.elim
      | brk => exact hq.elim
      | cont => exact hq.elim
      | ret z =>
        obtain ⟨y, H2, I2, rz, ey, eH⟩ := I.after hq
        subst ey
        subst eH
        obtain ⟨tk, rfl⟩ := rz
        refine ⟨t, tk, rfl, t, tk, rfl, ?_⟩
        refine wpAny_bind (wpAny_mkStr ?_ (hsz2 t (List.mem_of_getElem? ht)))
        refine wpAny_bind ?_
        show wpAny _ _ (updateSeq P _) _ _ _
        have I3 := I2.tok (s2.toks + 1)
        obtain ⟨zP, itp, nP, rP, lP, eP⟩ := I3.lstM (l := P) upd_same
        have lt : ((ts.take i).map V.str).length ≤ i := by rw [List.length_map, List.length_take]; omega
        have hasz : itp.toArray.size ≤ sizeLine := by rw [List.size_toArray]; omega
        refine wpAny_updateSeq eP rfl (wpAny_pure ⟨PySem.F.quiet_list_repr_loop _, ?_⟩) hasz
        have e1 : ((i : Int) + 1) = ((i + 1 : Nat) : Int) := by omega
        have e2 : 0 + piled (ts.take i) + (t.length + 2) = 0 + piled (ts.take (i + 1)) := by omega
        rw [e1, e2]
        refine ih (i + 1) _ (by omega) hlt ?_
        have ev : (ts.take (i + 1)).map V.str = (ts.take i).map V.str ++ [V.str t] := by
          rw [List.take_add_one, ht, List.map_append]
          rfl
        have I4 := I3.lset (its' := itp ++ [.str t s2.toks]) (f := fun x => x.push (.str t s2.toks)) (ys := (ts.take (i + 1)).map V.str) (t' := s2.toks + 1) upd_same eP (by simp) (by rw [ev]; exact rP.append (.cons ⟨_, rfl⟩ .nil)) (by rw [List.length_map, List.length_take]; omega)
        rw [upd_upd] at I4
        exact I4
/-- repr of a list of objects with an own __repr__ -/
def rReprL (C : Addr) (sp : List Code → Sp) : List V → Hp → VK → Prop := fun xs H Q => ∃ (L : Addr) (es : List Addr) (ts : List Str), xs = [.ref L] ∧ H L = some (.lst (es.map V.ref)) ∧ es ≠ [] ∧ es.length = ts.length ∧ (listText ts).length ≤ sizeLine ∧
  (∀ (i : Nat) (e : Addr), es[i]? = some e → ∃ t, ts[i]? = some t ∧ (∃ dx fs, H e = some (.ins C dx fs)) ∧ ∀ (P : Addr) (rest : List Value) (ys : List V), H P = none → sp [.builtin "list.__repr__.loop" ⟨.ref L :: rest, []⟩] [.ref e] (upd H P (.lst ys)) (fun v H' => v = .str t ∧ H' = upd H P (.lst ys)) (fun _ _ _ => False)) ∧
  ∀ P, H P = none → Q (.str (listText ts)) (upd H P (.lst (ts.map V.str)))
theorem call_reprL {sp : List Code → Sp} (F : ∀ g, GOkG X.prog X.w X.K X.mg X.base g n f fd ["self"] (sp g)) (hs : PySem.W.findIn X.K (.ref C) "__repr__" = some (some (.ref f))) (hf : PySem.W.isFn X.K (.ref f) = true) (hb : Binds X.K fd ["self"] [])
    (hgu : X.A.guards = some []) (hr : Room (n + 3) X.A) : CallR X (.builtin "repr") (rReprL C sp) := by
  intro pins s σ H xs us Q I r h
  obtain ⟨L, es, ts, rfl, hL, hne, hlen, hsz, hT, k⟩ := h
  cases r with
  | cons r1 r2 =>
    cases r2
    cases r1
    obtain ⟨_, its, nL, rL, lL, eL⟩ := I.lstM hL
    have hits := vals_refs rL
    subst hits
    cases es with
    | nil => exact absurd rfl hne
    | cons e es =>
      have hu := hr.units
      refine call_repr_slot (T := "list") (by omega) ⟨_, eL, rfl⟩ PySem.F.slot_list_repr.toG ?_
      refine wpAny_call (codeAny_call_builtin PySem.F.slot_list_repr.plain PySem.F.entry_list_repr (PySem.F.slot_list_repr.check _ _ _ _ _ _ _ _ ⟨_, eL, rfl⟩ (PySem.F.args_list_repr_1 _) ?_))
      have hg2 : (X.A.in1).in1.guards = some [] := hgu
      refine wpAny_list_repr_head (A := X.A.in1.in1) hg2 (fun v rest kw hm => (by cases hm)) eL rfl ?_
      refine wpAny_bind (m := newList []) (wpAny_newObj_type ?_)
      refine wpAny_pure ⟨PySem.F.quiet_list_repr_loop _, ?_⟩
      have hP : H s.heap.objs.size = none := I.hok.fresh (Nat.le_refl _)
      have I1 : Inv X pins σ (upd H s.heap.objs.size (.lst [])) { s with heap := s.heap.push ({ cls := .type "list", data := .seq #[] } : Obj) } := I.laid (t' := s.toks) (fun b u q => Heap.get?_push_of_some _ q) (Nat.le_refl _) ⟨Nat.zero_le _, [], 0, .nil, Heap.get?_push_size _ rfl⟩
      have hLP : L ≠ s.heap.objs.size := fun z => by rw [z, hP] at hL; cases hL
      exact repr_go (R := callEnd (fun r s₁ => ∃ x t, r = .str x t ∧ EP X pins σ Q r s₁) X.xe) F hs hf hb hgu hr hLP hL hP hlen hsz (fun i e he => by
        obtain ⟨t, ht, hi, q⟩ := hT i e he
        exact ⟨t, ht, hi, fun rest ys => q _ rest ys hP⟩) (fun u s' I' => ⟨_, _, rfl, .str (listText ts), _, I', ⟨u, rfl⟩, k _ hP⟩) _ 0 _ rfl (Nat.zero_le _) I1
end
theorem repr_strs {prog : Program} {w : World} {h₀ : Heap} : ∀ (done : List (Str × Tok)), (∀ z ∈ done.map (·.1), (reprText z).length ≤ sizeLine) → ReprAllK prog w [] h₀ 0 (strValues done) (PyData.shownAll ((done.map (·.1)).map PyData.str))
  | [], _ => .nil
  | (z, t) :: r, h => .cons (.of_is (.str z t (h z (List.mem_cons_self ..))) _ _ _) (repr_strs r fun y m => h y (List.mem_cons_of_mem _ m))
theorem mem_shownAll {z : Str} : ∀ {zs : List Str}, z ∈ zs → reprText z ∈ PyData.shownAll (zs.map PyData.str)
  | [], m => by cases m
  | y :: r, m => by
    rcases List.mem_cons.mp m with e | e
    · rw [e]
      exact List.mem_cons_self ..
    · exact List.mem_cons_of_mem _ (mem_shownAll e)
section
variable {X : Cx}
/-- the reprs under way are those of lists -/
def GuL (g : List Code) (H : Hp) : Prop := ∀ id v rest kw, Code.builtin id ⟨v :: rest, kw⟩ ∈ g → ∃ L us, v = .ref L ∧ H L = some (.lst us)
/-- {x!r}, x a tuple of texts, while the reprs g are under way -/
def tFmtG (K : PySem.W.Frag) (g : List Code) (te : TE) : TE := fun σ H Q => te σ H fun x H1 => ∃ (a : Addr) (zs : List Str), x = .ref a ∧ SqT K H1 a (zs.map V.str) ∧ GuL g H1 ∧ (PyData.tuple (zs.map PyData.str)).shown.length ≤ sizeLine ∧ Q (.str (PyData.tuple (zs.map PyData.str)).shown) H1
theorem pe_fmtG {e : Expr} {te : TE} {pos : Pos} {g : List Code} (hgu : X.A.guards = some g) (hu : X.A.units + 64 < cLine) (he : PE X e te) : PE X (.FormattedValue e 114 none pos) (tFmtG X.K g te) := by
  constructor
  intro pins s σ H Q I h
  refine wpAny_FormattedValue_repr (thn (he.run pins s σ H _ I h) fun v s1 hv => ?_)
  obtain ⟨x, H1, I1, r1, a, zs, rfl, hT, hc, hz, q⟩ := hv
  cases r1
  obtain ⟨its, rv, ⟨o, ho, oc, n, od⟩, _⟩ := I1.tuple hT
  have hc : Clear g a := fun id v rest kw hm => by
    obtain ⟨L, us, rfl, hL⟩ := hc id v rest kw hm
    intro e
    cases e
    obtain ⟨_, _, _, _, _, eL⟩ := I1.lstM hL
    rw [ho] at eL
    cases eL
    simp at oc
  obtain ⟨done, rfl, ed⟩ := vals_strs rv
  subst ed
  have hz' : (tupleText (PyData.shownAll ((done.map (·.1)).map PyData.str))).length ≤ sizeLine := by simpa only [PyData.shown] using hz
  have hall : ∀ z ∈ done.map (·.1), (reprText z).length ≤ sizeLine := fun z m => by
    have mm := mem_shownAll m
    exact Nat.le_trans (tupleText_mem_le mm) hz'
  refine wpAny_pyReprObj_tupleK (as := []) (d := 0) ho oc od (by simp) (repr_strs done hall) hgu (fun b hb => by rw [List.mem_singleton.mp hb]; exact hc) (by omega) (fun _ _ z => z) (fun h2 u tk keep => ?_) hz'
  have I2 := I1.kept (t' := tk) keep
  exact wpAny_formatField_str ⟨.str _, H1, I2, ⟨u, rfl⟩, q⟩ ⟨.str _, H1, I2.tok _, ⟨_, rfl⟩, q⟩ hz'
end
end SE
namespace SE
open PySem PySem.Spec PyProof.Rows L2
section
variable {P : Program} {w : World} {K : PySem.W.Frag} {mg : Str → Option Value} {base : Heap} {C : Addr}
/-! ### __repr__ while a list's repr is under way -/
def spReprG (K : PySem.W.Frag) (C : Addr) (g : List Code) : Sp := fun vs H Q _ => ∃ (e : Addr) (o : Eff), vs = [.ref e] ∧ EffV K C H e o ∧ EffOk o ∧ GuL g H ∧ Q (.str (shownE o)) H
theorem ok_reprG {f : Addr} {fd : FuncData} {g : List Code} (F : Fun K "__repr__" "Effect.__repr__" sRepr f fd) (T : EC K mg C) : GOkG P w K mg base g 1 f fd ["self"] (spReprG K C g) := by
  obtain ⟨oc, od, kV, doc, pm, an, cv, ct, osl, rfl, look, hcode⟩ := F.ex
  refine gok_ofG look hcode scRp (fun vs H Q E h => ?_) (fun A out s H vs Q E hgu hr h => ?_)
  · obtain ⟨e, o, rfl, _⟩ := h
    rfl
  · obtain ⟨e, o, rfl, h, ok, hc, k⟩ := h
    have body : ∃ t, PSs (cxOf CX0 P w K mg base ["self"] "Effect.__repr__" (defScope sRepr) f cv A out s H E).nox (defBody sRepr) t ∧ t { nx := fun _ H2 => Q .non H2, rt := Q } (start ["self"] [.ref e]) H := by
      refine ⟨_, pss_cons (ps_if (pt_cmpR op_isN (pe_fld (pv 0) rfl) pe_non (nomark _)) (pss_one (ps_ret pe_str)) pss_nil)
        (pss_one (ps_ret (pe_joined (.cons pe_str (.cons (pe_fmtG hgu hr.units (pe_fld (pv 0) rfl)) (.cons pe_str (.cons (pe_fmtG hgu hr.units (pe_fld (pv 0) rfl)) (.cons pe_str (.cons (pe_fmtR (pe_fld (pv 0) rfl)) (.cons pe_str .nil)))))))))), ?_⟩
      cases o with
      | none =>
        obtain ⟨dx, h1⟩ := NevAt.ex h
        exact ⟨_, rfl, e, C, dx, _, _, rfl, h1, T.cl, T.nN, eF_needs _ _ _, rfl, true, rfl, iteT k⟩
      | some o =>
        obtain ⟨xs, ys, p⟩ := o
        obtain ⟨dx, u, v, h1, h2, h3⟩ := EffAt.ex h
        obtain ⟨i1, i2, l1, l2, p0, p1⟩ := ok
        have n1 := nice_tuple (nice_strs i1)
        have n2 := nice_tuple (nice_strs i2)
        have z1 := n1.shownLe
        have z2 := n2.shownLe
        rw [List.length_map] at z1 z2
        have tl : (toString p : Str).length ≤ 13 := by
          have := PyData.shown_int_le (i := p) (by omega)
          exact this
        have big : ∀ m : Nat, m ≤ 400000 → m ≤ sizeLine := fun m hm => by
          rw [sizeLine_eq]
          omega
        have w0 : (Str.empty : Str).length = 0 := by decide +kernel
        have w1 : ("Effect(" : Str).length = 7 := by decide +kernel
        have w2 : (", " : Str).length = 2 := by decide +kernel
        have w3 : (", peak=" : Str).length = 7 := by decide +kernel
        have w4 : (")" : Str).length = 1 := by decide +kernel
        have lg : p.natAbs.log2 < 1920 := PySem.Flt.log2_lt_of (by decide) (Nat.lt_of_lt_of_le (show p.natAbs < 2 ^ 17 by show _ < 131072; omega) (Nat.pow_le_pow_right (by decide) (by decide)))
        refine ⟨_, rfl, e, C, dx, _, _, rfl, h1, T.cl, T.nN, eF_needs _ _ _, rfl, false, rfl, iteF ?_⟩
        refine ⟨_, rfl, big _ ?_, _, rfl, e, C, dx, _, _, rfl, h1, T.cl, T.nN, eF_needs _ _ _, u, xs, rfl, h2, hc, big _ (by omega), _, rfl, big _ ?_, _, rfl, big _ ?_, _, rfl, e, C, dx, _, _, rfl, h1, T.cl, T.nL, eF_leaves _ _ _, v, ys, rfl, h3, hc, big _ (by omega), _, rfl, big _ ?_, _, rfl, big _ ?_, _, rfl, e, C, dx, _, _, rfl, h1, T.cl, T.nH, eF_high _ _ _, .inr ⟨p, rfl, lg, _, rfl, big _ ?_, _, rfl, big _ ?_, k⟩⟩
        all_goals (simp only [len_add, w0, w1, w2, w3, w4]; omega)
    obtain ⟨t, a, b⟩ := body
    exact ⟨t, a.nox, b⟩
def ReprHasG (P : Program) (w : World) (K : PySem.W.Frag) (mg : Str → Option Value) (base : Heap) (C : Addr) : Prop := ∃ f fd, (∀ g, GOkG P w K mg base g 1 f fd ["self"] (spReprG K C g)) ∧ PySem.W.findIn K (.ref C) "__repr__" = some (some (.ref f)) ∧ PySem.W.isFn K (.ref f) = true ∧ Binds K fd ["self"] []
end
end SE
namespace SE
open PySem PySem.Spec PyProof.Rows L2
/-! ### what an effect makes of a stack -/
def replM (o : Eff) (zs : List Str) : Option (List Str) := match o with
  | none => none
  | some (xs, ys, _) => if zs.take xs.length = xs then some (ys ++ zs.drop xs.length) else none
theorem take_snoc_iff (zs x : List Str) (z : Str) : zs.take (x ++ [z]).length = x ++ [z] ↔ zs.take x.length = x ∧ (zs.drop x.length).head? = some z := by
  rw [List.length_append, List.length_singleton, List.take_add_one]
  constructor
  · intro h
    have hl := congrArg List.length h
    have h1 : zs.take x.length = x := by
      refine List.append_inj_left h ?_
      simp only [List.length_append, List.length_take, List.length_singleton] at hl ⊢
      have : (zs[x.length]?.toList).length ≤ 1 := by cases zs[x.length]? <;> simp
      omega
    refine ⟨h1, ?_⟩
    rw [h1] at h
    have := List.append_cancel_left h
    rw [List.head?_drop]
    cases e : zs[x.length]? with
    | none =>
      rw [e] at this
      cases this
    | some y =>
      rw [e] at this
      cases this
      rfl
  · rintro ⟨h1, h2⟩
    rw [List.head?_drop] at h2
    rw [h1, h2]
    rfl
theorem comp_push (x y : List Str) (p : Int) (z : Str) : ∃ q, comp (x, y, p) (partM (true, z)) = some (x, z :: y, q) := by
  refine ⟨if (y.length : Int) - (x.length : Int) + 1 > p then (y.length : Int) - (x.length : Int) + 1 else p, ?_⟩
  simp [comp, partM]
theorem comp_pop0 (x : List Str) (p : Int) (z : Str) : ∃ q, comp (x, [], p) (partM (false, z)) = some (x ++ [z], [], q) := by
  refine ⟨if ((0 : Nat) : Int) - (x.length : Int) + 0 > p then ((0 : Nat) : Int) - (x.length : Int) + 0 else p, ?_⟩
  simp [comp, partM]
theorem comp_pop (x r : List Str) (p : Int) (t z : Str) : ∃ q, comp (x, t :: r, p) (partM (false, z)) = if t = z then some (x, r, q) else none := by
  refine ⟨if ((t :: r).length : Int) - (x.length : Int) + 0 > p then ((t :: r).length : Int) - (x.length : Int) + 0 else p, ?_⟩
  have em : min (t :: r).length [z].length = 1 := by
    rw [List.length_cons, List.length_singleton]
    omega
  by_cases c : t = z
  · simp [comp, partM, em, c]
  · simp [comp, partM, em, c]
theorem repl_step (A : Prt) (s : Stp) (zs : List Str) : ((comp A (partM s)).bind fun D => replM (some D) zs) = (replM (some A) zs).bind (stepM s) := by
  obtain ⟨x, y, p⟩ := A
  obtain ⟨b, z⟩ := s
  cases b with
  | true =>
    obtain ⟨q, e⟩ := comp_push x y p z
    rw [e, Option.bind_some]
    unfold replM
    dsimp only
    split
    · rfl
    · rfl
  | false =>
    cases y with
    | nil =>
      obtain ⟨q, e0⟩ := comp_pop0 x p z
      rw [e0, Option.bind_some]
      clear e0
      unfold replM
      dsimp only
      rw [List.nil_append, List.nil_append]
      by_cases c : zs.take x.length = x
      · rw [if_pos c, Option.bind_some]
        cases e : zs.drop x.length with
        | nil =>
          rw [if_neg]
          · rfl
          · intro q
            have := ((take_snoc_iff zs x z).mp q).2
            rw [e] at this
            cases this
        | cons t r =>
          by_cases ct : t = z
          · subst ct
            rw [if_pos ((take_snoc_iff zs x t).mpr ⟨c, by rw [e]; rfl⟩)]
            have er : zs.drop (x ++ [t]).length = r := by
              rw [List.length_append, List.length_singleton, ← List.drop_drop, e]
              rfl
            rw [er]
            show some r = if t = t then some r else none
            rw [if_pos rfl]
          · rw [if_neg]
            · show none = if t = z then some r else none
              rw [if_neg ct]
            · intro q
              have := ((take_snoc_iff zs x z).mp q).2
              rw [e] at this
              exact ct (Option.some.inj this)
      · rw [if_neg c, if_neg fun q => c ((take_snoc_iff zs x z).mp q).1]
        rfl
    | cons t r =>
      obtain ⟨q, e⟩ := comp_pop x r p t z
      rw [e]
      unfold replM
      dsimp only
      by_cases ct : t = z
      · subst ct
        rw [if_pos rfl, Option.bind_some]
        dsimp only
        split
        · show some (r ++ _) = if t = t then some (r ++ _) else none
          rw [if_pos rfl]
        · rfl
      · rw [if_neg ct]
        split
        · show none = if t = z then _ else none
          rw [if_neg ct]
        · rfl
theorem joinF_run : ∀ (ss : List Stp) (A : Prt) (zs : List Str), replM (joinF A (ss.map partM)) zs = (replM (some A) zs).bind (runM ss)
  | [], A, zs => by
    show replM (some A) zs = _
    cases replM (some A) zs <;> rfl
  | s :: ss, A, zs => by
    have h := repl_step A s zs
    rw [List.map_cons]
    unfold joinF
    have e : (replM (some A) zs).bind (runM (s :: ss)) = ((replM (some A) zs).bind (stepM s)).bind (runM ss) := by
      cases replM (some A) zs with
      | none => rfl
      | some ws =>
        show (match stepM s ws with | none => none | some ws => runM ss ws) = (stepM s ws).bind (runM ss)
        cases stepM s ws <;> rfl
    rw [e, ← h]
    cases comp A (partM s) with
    | none => rfl
    | some D => exact joinF_run ss D zs
theorem repl_run (ss : List Stp) (zs : List Str) : replM (effM ss) zs = runM ss zs := by
  unfold effM joinM
  rw [joinF_run]
  show (if zs.take 0 = [] then some ([] ++ zs.drop 0) else none).bind (runM ss) = _
  rw [List.take_zero, if_pos rfl]
  rfl
/-- the peak does not tell -/
theorem replM_peak (xs ys zs : List Str) (p q : Int) : replM (some (xs, ys, p)) zs = replM (some (xs, ys, q)) zs := rfl
/-! ### words or None -/
def OW (K : PySem.W.Frag) (H : Hp) (v : V) : Option (List Str) → Prop
  | none => v = .non
  | some zs => ∃ a, v = .ref a ∧ SqT K H a (zs.map V.str)
def oD : Option (List Str) → PyData
  | none => .none
  | some zs => .tuple (zs.map .str)
def OWOk (o : Option (List Str)) : Prop := ∀ zs, o = some zs → (∀ z ∈ zs, Item z) ∧ zs.length ≤ 5000
theorem OW.same {K : PySem.W.Frag} {H H' : Hp} {v : V} : ∀ {o : Option (List Str)}, OW K H v o → Same H H' → OW K H' v o
  | none, h, _ => h
  | some _, ⟨a, e, h⟩, s => ⟨a, e, Same.tup s h⟩
theorem OW.dp {K : PySem.W.Frag} {H : Hp} {v : V} : ∀ {o : Option (List Str)}, OW K H v o → Dp K H v (oD o)
  | none, h => by
    cases h
    exact .non
  | some _, ⟨a, e, h⟩ => by
    cases e
    exact .tup h (dp_strs _)
theorem OWOk.shaped : ∀ {o : Option (List Str)}, OWOk o → SeqAt.shaped (oD o) = true
  | none, _ => rfl
  | some _, h => (nice_tuple (nice_strs (h _ rfl).1)).shaped (by decide)
theorem oD_eqv : ∀ (a b : Option (List Str)), PyData.eqv (oD a) (oD b) = decide (a = b)
  | none, none => by simp [oD, PyData.eqv]
  | none, some _ => by simp [oD, PyData.eqv]
  | some _, none => by simp [oD, PyData.eqv]
  | some a, some b => by
    show PyData.eqv (.tuple (a.map .str)) (.tuple (b.map .str)) = _
    rw [eqv_tupS]
    by_cases c : a = b <;> simp [c]
end SE
namespace SE
open PySem PySem.Spec PyProof.Rows L2
section
variable {P : Program} {w : World} {K : PySem.W.Frag} {mg : Str → Option Value} {base : Heap} {C : Addr}
/-! ### replaced -/
def spRepd (K : PySem.W.Frag) (C : Addr) : Sp := fun vs H Q _ => ∃ (e a : Addr) (o : Eff) (zs : List Str), vs = [.ref e, .ref a] ∧ EffV K C H e o ∧ EffOk o ∧ SqT K H a (zs.map V.str) ∧ (∀ z ∈ zs, Item z) ∧ zs.length ≤ 1000 ∧
  ∀ v H', Same H H' → OW K H' v (replM o zs) → Q v H'
theorem scRd : FnScope ["effect", "stack", "depth"] ["effect", "stack"] (defScope sReplaced) := ⟨rfl, rfl, rfl, by decide +kernel, rfl, by decide +kernel, by decide +kernel⟩
theorem has_repd (D : Def K mg "replaced" sReplaced) (T : EC K mg C) (B : Blt mg) (GI : PropHas P w K mg base C "is_never" 1 (spIsNev K C)) (GP : PropHas P w K mg base C "pops" 1 (spPops K C)) (GQ : PropHas P w K mg base C "pushes" 1 (spPush K C)) :
    Has P w K mg base "replaced" 3 ["effect", "stack"] [] (spRepd K C) := by
  refine has_of D scRd (fun _ _ _ _ _ _ us hl => match us, hl with | [_, _], _ => rfl) (fun xs H Q E h => ?_) (fun f cv A out s H xs Q E hr h => ?_)
  · obtain ⟨e, a, o, zs, rfl, _⟩ := h
    rfl
  · obtain ⟨e, a, o, zs, rfl, h, ok, hT, hI, hl, k⟩ := h
    have hr2 : Room 2 _ := hr.mono (by decide)
    refine ⟨_, pss_cons (ps_if (pt_val (pe_propH GI (pv 0) T.cl hr2)) (pss_one (ps_ret pe_non)) pss_nil)
      (pss_cons (ps_set (i := 2) scRd.nd rfl (.inl rfl) (pe_callB call_len_seq (by rfl) B.len PySem.boot_len (pa_cons (pe_propH GP (pv 0) T.cl hr2) pa_nil)))
      (pss_one (ps_ret (pe_ifExp (pt_cut (pt_cmpR (op_eqD hr.units) (pe_slice sl_tupS (pv 1) po_none (po_some (pv 2))) (pe_propH GP (pv 0) T.cl hr2) (nomark _))) (pe_op op_catS (pe_propH GQ (pv 0) T.cl hr2) (pe_slice sl_tupS (pv 1) (po_some (pv 2)) po_none)) pe_non)))), ?_⟩
    obtain ⟨dx, fs, hi⟩ := h.ins
    cases o with
    | none => exact ⟨_, rfl, e, dx, fs, rfl, hi, e, rfl, .inr ⟨h, true, rfl, iteT (k _ H (Same.refl H) rfl)⟩⟩
    | some Bp =>
      obtain ⟨xs, ys, p⟩ := Bp
      have hA : EffAt K C H e xs ys p := h
      obtain ⟨i1, i2, l1, l2, _⟩ := ok
      have shp : ∀ {zs : List Str}, (∀ z ∈ zs, Item z) → SeqAt.shaped (.tuple (zs.map PyData.str)) = true := fun {zs} q => (nice_tuple (nice_strs q)).shaped (by decide)
      refine ⟨_, rfl, e, dx, fs, rfl, hi, e, rfl, .inl ⟨xs, ys, p, hA, false, rfl, iteF ?_⟩⟩
      refine ⟨_, rfl, e, dx, fs, rfl, hi, e, xs, ys, p, rfl, hA, fun u hu => ⟨u, _, rfl, .inr hu, ?_⟩⟩
      rw [List.length_map]
      refine ⟨fun b H3 => b = decide (zs.take xs.length = xs) ∧ Same H H3, ?_, ?_⟩
      · refine ⟨_, rfl, _, rfl, _, rfl, a, _, rfl, hT, fun c1 H3 s3 hc1 => ?_⟩
        rw [cutF_to] at hc1
        refine ⟨_, rfl, e, dx, fs, rfl, s3 _ _ hi, e, xs, ys, p, rfl, EffAt.same hA s3, fun u2 hu2 => ?_⟩
        refine ⟨.tuple ((zs.take xs.length).map .str), .tuple (xs.map .str), .tup hc1 (dp_strs _), .tup hu2 (dp_strs _), shp (fun z m => hI z (List.mem_of_mem_take m)), shp i1, _, rfl, ?_, s3⟩
        rw [eqv_tupS]
      rintro b H3 ⟨rfl, s3⟩
      by_cases c : zs.take xs.length = xs
      · rw [decide_eq_true c]
        refine iteT ⟨_, rfl, e, dx, fs, rfl, s3 _ _ hi, e, xs, ys, p, rfl, EffAt.same hA s3, fun u1 hu1 => ⟨_, rfl, _, rfl, _, rfl, a, _, rfl, Same.tup s3 hT, fun c1 H4 s4 hc1 => ?_⟩⟩
        rw [cutF_from] at hc1
        refine ⟨u1, c1, _, _, rfl, rfl, Same.tup s4 hu1, hc1, ?_, fun u2 H5 s5 hu2 => ?_⟩
        · rw [List.length_map, List.length_map, List.length_drop, sizeLine_eq]
          omega
        · rw [← List.map_append] at hu2
          refine k _ H5 ((s3.trans s4).trans s5) ?_
          unfold replM
          dsimp only
          rw [if_pos c]
          exact ⟨u2, rfl, hu2⟩
      · rw [decide_eq_false c]
        refine iteF (k _ H3 s3 ?_)
        unfold replM
        dsimp only
        rw [if_neg c]
        rfl
end
end SE
namespace SE
open PySem PySem.Spec PyProof.Rows L2
/-! ### candidates, observations -/
abbrev Ob := List Str × Option (List Str)
def ObV (K : PySem.W.Frag) (H : Hp) (v : V) (b : Ob) : Prop := ∃ t a r, v = .ref t ∧ SqT K H t [.ref a, r] ∧ SqT K H a (b.1.map V.str) ∧ OW K H r b.2
structure ObOk (b : Ob) : Prop where
  i : ∀ z ∈ b.1, Item z
  l : b.1.length ≤ 1000
  o : OWOk b.2
theorem ObV.same {K : PySem.W.Frag} {H H' : Hp} {v : V} {b : Ob} (h : ObV K H v b) (s : Same H H') : ObV K H' v b := by
  obtain ⟨t, a, r, e, h1, h2, h3⟩ := h
  exact ⟨t, a, r, e, Same.tup s h1, Same.tup s h2, h3.same s⟩
theorem effs_same {K : PySem.W.Frag} {C : Addr} {H H' : Hp} {es : List Addr} {os : List Eff} (h : Paired (EffV K C H) es os) (s : Same H H') : Paired (EffV K C H') es os := Paired.mapP h fun _ _ q => q.same s
theorem obs_same {K : PySem.W.Frag} {H H' : Hp} {us : List V} {bs : List Ob} (h : Paired (ObV K H) us bs) (s : Same H H') : Paired (ObV K H') us bs := Paired.mapP h fun _ _ q => q.same s
section
variable {P : Program} {w : World} {K : PySem.W.Frag} {mg : Str → Option Value} {base : Heap} {C : Addr}
def spAreC (K : PySem.W.Frag) (C : Addr) : Sp := fun vs H Q _ => ∃ (L : Addr) (es : List Addr) (os : List Eff), vs = [.ref L] ∧ SqL K H L (es.map V.ref) ∧ Paired (EffV K C H) es os ∧ 1 ≤ es.length ∧ es.length ≤ 20 ∧ ∀ H', Same H H' → Q (.bl true) H'
theorem scAc : FnScope ["value", "effect"] ["value"] (defScope sAreCandidates) := ⟨rfl, rfl, rfl, by decide +kernel, rfl, by decide +kernel, by decide +kernel⟩
theorem has_areC (D : Def K mg "are_candidates" sAreCandidates) (T : EC K mg C) (TI : EI K C) (B : Blt mg) (mc : ∃ t, mg "MOST_CANDIDATES" = some (.int 20 t)) : Has P w K mg base "are_candidates" 1 ["value"] [] (spAreC K C) := by
  obtain ⟨tm, hM⟩ := mc
  refine has_of D scAc (fun _ _ _ _ _ _ us hl => match us, hl with | [_], _ => rfl) (fun xs H Q E h => ?_) (fun f cv A out s H xs Q E hr h => ?_)
  · obtain ⟨L, es, os, rfl, _⟩ := h
    rfl
  · obtain ⟨L, es, os, rfl, hL, hP, l0, l1, k⟩ := h
    refine ⟨_, pss_cons (ps_if (PW.pt (pw_or (pt_not (pt_val (pe_callB call_isi (by rfl) B.isi (by decide +kernel) (pa_cons (pv 0) (pa_cons (pe_bltn (v := .ty "list") (by rfl) B.lst (by decide +kernel) rfl) pa_nil)))))
        (pw_or1 (pt_not (pt_chain op_le op_le pe_int (pe_callB call_len_seq (by rfl) B.len PySem.boot_len (pa_cons (pv 0) pa_nil)) (pe_glob (v := .int 20) rfl hM ⟨_, rfl⟩)))))) (pss_one (ps_ret pe_bl)) pss_nil)
      (pss_one (ps_ret (pe_callB (cr_all rfl) (by rfl) B.all (by decide +kernel) (pa_cons
        (pe_lc (own := [("effect", 1)]) (g := gName 1) (tt := tYes) (te := tCB (rIsi K) (tCons (tVar 1) (tCons (tC (.ref C)) tNil))) rfl scAc.nd (pi_list (pv 0)) (blkOk_by (own := [("effect", 1)]) (N := ["value", "effect"]) (sc := defScope sAreCandidates) (by decide +kernel))
          (fun _ _ _ _ _ => pg_name (i := 1) scAc.nd rfl (.inl rfl)) (fun _ _ _ _ _ => pts_nil) (fun _ _ _ _ _ => pe_callB (id := "isinstance") call_isi (by rfl) B.isi (by decide +kernel) (pa_cons (pv 1) (pa_cons (pe_glob (v := .ref C) rfl T.mgE rfl) pa_nil)))) pa_nil)))), ?_⟩
    refine ⟨_, rfl, _, .ty "list", .type "list", .type "list", true, rfl, .ty _, ty_lst hL, kit_ty (by decide +kernel), true, rfl, iteF ?_⟩
    refine ⟨_, rfl, L, _, rfl, .inl hL, 1, _, rfl, rfl, true, ?_, iteT ⟨_, 20, rfl, rfl, true, ?_, iteF ?_⟩⟩
    · rw [List.length_map]
      exact congrArg V.bl (decide_eq_true (by omega))
    · rw [List.length_map]
      exact congrArg V.bl (decide_eq_true (by omega))
    refine ⟨_, rfl, L, rfl, ⟨_, hL⟩, fun D hD => lc_list (K := K) (a := L) (xs := es.map V.ref) (fun j H2 => H2 D = some (.lst ((List.replicate j true).map V.bl)) ∧ Same H H2) ⟨upd_same, Same.new hD⟩ (fun _ _ _ q => Same.seq q.2 hL) ?_ ?_⟩
    · rintro j x H2 hj ⟨h2, s2⟩
      rw [List.getElem?_map] at hj
      cases he : es[j]? with
      | none =>
        rw [he] at hj
        cases hj
      | some e =>
        rw [he] at hj
        cases hj
        obtain ⟨o, ho, hE⟩ := paired_at hP he
        obtain ⟨dx, fs, hi⟩ := (hE.same s2).ins
        refine ⟨rfl, yes_in ⟨_, rfl, _, .ref C, .ref C, .ref C, true, rfl, .own C, .base (.ins hi T.cl TI.ha TI.hn TI.ht TI.hm), TI.ki, _, h2, ?_, ?_, ?_⟩⟩
        · have jl := (List.getElem?_eq_some_iff.mp he).1
          rw [List.length_map, List.length_replicate]
          exact small1000 (by omega)
        · rw [upd_same, bl_snoc]
        · exact Same.free2 s2 hD
    · rintro H2 ⟨h2, s2⟩
      refine ⟨D, _, rfl, .of h2, ?_⟩
      rw [all_true]
      exact k H2 s2
def spChkC (K : PySem.W.Frag) (C : Addr) : Sp := fun vs H Q _ => ∃ (L : Addr) (es : List Addr) (os : List Eff), vs = [.ref L] ∧ SqL K H L (es.map V.ref) ∧ Paired (EffV K C H) es os ∧ 1 ≤ es.length ∧ es.length ≤ 20 ∧ ∀ H', Same H H' → Q .non H'
theorem scCc : FnScope ["candidates"] ["candidates"] (defScope sCheckCandidates) := ⟨rfl, rfl, rfl, by decide +kernel, rfl, by decide +kernel, by decide +kernel⟩
theorem has_chkC (D : Def K mg "check_candidates" sCheckCandidates) (G : Has P w K mg base "are_candidates" 1 ["value"] [] (spAreC K C)) : Has P w K mg base "check_candidates" 2 ["candidates"] [] (spChkC K C) := by
  refine has_of D scCc (fun _ _ _ _ _ _ us hl => match us, hl with | [_], _ => rfl) (fun xs H Q E h => ?_) (fun f cv A out s H xs Q E hr h => ?_)
  · obtain ⟨L, es, os, rfl, _⟩ := h
    rfl
  · obtain ⟨L, es, os, rfl, hL, hP, l0, l1, k⟩ := h
    refine ⟨_, pss_one (ps_if (pt_not (pt_val (pe_has G hr (pa_cons (pv 0) pa_nil)))) pss_never pss_nil), ?_⟩
    exact ⟨_, rfl, L, es, os, rfl, hL, hP, l0, l1, fun H1 s1 => ⟨true, rfl, iteF (k H1 s1)⟩⟩
def spIsOb (K : PySem.W.Frag) : Sp := fun vs H Q _ => ∃ (v : V) (b : Ob), vs = [v] ∧ ObV K H v b ∧ ObOk b ∧ ∀ H', Same H H' → Q (.bl true) H'
theorem scIo : FnScope ["value", "stack", "result"] ["value"] (defScope sIsObservation) := ⟨rfl, rfl, rfl, by decide +kernel, rfl, by decide +kernel, by decide +kernel⟩
theorem has_isOb (D : Def K mg "is_observation" sIsObservation) (G : Has P w K mg base "is_word" 2 ["value"] [] (spIsWord K)) (B : Blt mg) : Has P w K mg base "is_observation" 3 ["value"] [] (spIsOb K) := by
  refine has_of D scIo (fun _ _ _ _ _ _ us hl => match us, hl with | [_], _ => rfl) (fun xs H Q E h => ?_) (fun f cv A out s H xs Q E hr h => ?_)
  · obtain ⟨v, b, rfl, _⟩ := h
    rfl
  · obtain ⟨v, b, rfl, ⟨t, a, r, rfl, hT, ha, ho⟩, ok, k⟩ := h
    refine ⟨_, pss_cons (ps_if (PW.pt (pw_or (pt_not (pt_val (pe_callB call_isi (by rfl) B.isi (by decide +kernel) (pa_cons (pv 0) (pa_cons (pe_bltn (v := .ty "tuple") (by rfl) B.tup (by decide +kernel) rfl) pa_nil)))))
        (pw_or1 (pt_cmpR op_ne (pe_callB call_len_seq (by rfl) B.len PySem.boot_len (pa_cons (pv 0) pa_nil)) pe_int (nomark _))))) (pss_one (ps_ret pe_bl)) pss_nil)
      (pss_cons (ps_asg (pv 0) (pg_tup (by rfl) (pgs_cons (pg_name (i := 1) scIo.nd rfl (.inl rfl)) (pgs_cons (pg_name (i := 2) scIo.nd rfl (.inl rfl)) pgs_nil))))
      (pss_one (ps_ret (pe_and (pe_has G hr (pa_cons (pv 1) pa_nil)) (pe_one (pe_or (pe_cmpR op_isN (pv 2) pe_non (nomark _)) (pe_one (pe_has G hr (pa_cons (pv 2) pa_nil))))))))), ?_⟩
    refine ⟨_, rfl, _, .ty "tuple", .type "tuple", .type "tuple", true, rfl, .ty _, ty_tup hT, kit_ty (by decide +kernel), true, rfl, iteF ?_⟩
    refine ⟨_, rfl, t, _, rfl, .inr hT, rfl, _, rfl, iteF ?_⟩
    refine ⟨_, rfl, t, _, rfl, hT, rfl, _, _, rfl, _, _, rfl, rfl, ?_⟩
    refine ⟨_, rfl, a, b.1, rfl, ha, Nat.le_trans ok.l (by decide), ok.i, fun H1 s1 => ⟨true, rfl, iteT ?_⟩⟩
    have oko := ok.o
    generalize b.2 = o at ho oko
    cases o with
    | none =>
      cases ho
      exact ⟨_, rfl, rfl, true, rfl, iteT (k H1 s1)⟩
    | some zs =>
      obtain ⟨c, rfl, hc⟩ := ho
      obtain ⟨q1, q2⟩ := oko zs rfl
      exact ⟨_, rfl, rfl, false, rfl, iteF ⟨_, rfl, c, zs, rfl, Same.tup s1 hc, q2, q1, fun H2 s2 => k H2 (s1.trans s2)⟩⟩
def spChkO (K : PySem.W.Frag) : Sp := fun vs H Q _ => ∃ (L : Addr) (us : List V) (bs : List Ob), vs = [.ref L] ∧ SqL K H L us ∧ Paired (ObV K H) us bs ∧ (∀ b ∈ bs, ObOk b) ∧ us.length ≤ 1000 ∧ ∀ H', Same H H' → Q .non H'
theorem scCo : FnScope ["observations", "index", "observation"] ["observations"] (defScope sCheckObservations) := ⟨rfl, rfl, rfl, by decide +kernel, rfl, by decide +kernel, by decide +kernel⟩
theorem has_chkO (D : Def K mg "check_observations" sCheckObservations) (G : Has P w K mg base "is_observation" 3 ["value"] [] (spIsOb K)) (B : Blt mg) : Has P w K mg base "check_observations" 4 ["observations"] [] (spChkO K) := by
  refine has_of D scCo (fun _ _ _ _ _ _ us hl => match us, hl with | [_], _ => rfl) (fun xs H Q E h => ?_) (fun f cv A out s H xs Q E hr h => ?_)
  · obtain ⟨L, us, bs, rfl, _⟩ := h
    rfl
  · obtain ⟨a, ys, bs, rfl, hS, hV, hI, hl, k⟩ := h
    refine ⟨_, pss_cons (ps_if (pt_not (pt_val (pe_callB call_isi (by rfl) B.isi (by decide +kernel) (pa_cons (pv 0) (pa_cons (pe_bltn (v := .ty "list") (by rfl) B.lst (by decide +kernel) rfl) pa_nil))))) pss_never pss_nil)
        (pss_one (ps_for PassesOwn.never rfl (pi_enum (by rfl) B.enu (pa_cons (pv 0) pa_nil)) (pg_tup (by rfl) (pgs_cons (pg_name (i := 1) scCo.nd rfl (.inl rfl)) (pgs_cons (pg_name (i := 2) scCo.nd rfl (.inl rfl)) pgs_nil)))
          (pss_one (ps_if (pt_not (pt_val (pe_has G hr (pa_cons (pv 2) pa_nil)))) pss_never pss_nil)))), ?_⟩
    refine ⟨_, rfl, _, .ty "list", .type "list", .type "list", true, rfl, .ty _, ty_lst hS, kit_ty (by decide +kernel), true, rfl, iteF ?_⟩
    refine ⟨_, rfl, a, ys, rfl, hS, for_it (walk_enum (K := K) (a := a) (xs := ys)) (fun i σ H2 => ∃ y1 y2, σ = [some (.ref a), y1, y2] ∧ Same H H2) ⟨none, none, rfl, Same.refl H⟩ (fun i σ H2 _ q => ?_) ?_ ?_⟩
    · obtain ⟨_, _, _, s2⟩ := q
      exact Same.seq s2 hS
    · rintro i x σ H2 H3 hi ⟨y1, y2, rfl, s2⟩ ⟨T, p, y, rfl, nT, rfl, hp, hy⟩
      refine ⟨T, _, rfl, .of upd_same, rfl, _, _, rfl, _, _, rfl, rfl, ?_⟩
      have s3 : Same H (upd H2 T (.tup [p, y])) := Same.free2 s2 (s2.free nT)
      obtain ⟨b, h1, h2⟩ := paired_at hV hy
      exact ⟨_, rfl, y, b, rfl, h2.same s3, hI b (List.mem_of_getElem? h1), fun H4 s4 => ⟨true, rfl, iteF ⟨_, _, rfl, s3.trans s4⟩⟩⟩
    · rintro σ H2 ⟨y1, y2, rfl, s2⟩
      exact k H2 s2
end
end SE
namespace SE
open PySem PySem.Spec PyProof.Rows L2
def givM (o : Eff) (bs : List Ob) : Bool := bs.all fun b => decide (replM o b.1 = b.2)
def posM (os : List Eff) (bs : List Ob) (n : Nat) : List Nat := (List.range n).filter fun i => givM (os.getD i none) bs
theorem posM_succ (os : List Eff) (bs : List Ob) (n : Nat) : posM os bs (n + 1) = if givM (os.getD n none) bs = true then posM os bs n ++ [n] else posM os bs n := by
  unfold posM
  rw [List.range_succ, List.filter_append]
  by_cases c : givM (os.getD n none) bs = true
  · rw [if_pos c, List.filter_cons_of_pos (p := fun i => givM (os.getD i none) bs) c]
    rfl
  · rw [if_neg c, List.filter_cons_of_neg (p := fun i => givM (os.getD i none) bs) c]
    exact List.append_nil _
theorem posM_len (os : List Eff) (bs : List Ob) (n : Nat) : (posM os bs n).length ≤ n := by
  have := List.length_filter_le (fun i => givM (os.getD i none) bs) (List.range n)
  rw [List.length_range] at this
  exact this
def nV (n : Nat) : V := .int (n : Int)
theorem replM_ok {o : Eff} {zs : List Str} (h : EffOk o) (hI : ∀ z ∈ zs, Item z) (hl : zs.length ≤ 1000) : OWOk (replM o zs) := by
  intro ws e
  cases o with
  | none => cases e
  | some B =>
    obtain ⟨xs, ys, p⟩ := B
    obtain ⟨i1, i2, l1, l2, _⟩ := h
    unfold replM at e
    dsimp only at e
    split at e
    · cases e
      refine ⟨fun z m => ?_, ?_⟩
      · rcases List.mem_append.mp m with q | q
        · exact i2 z q
        · exact hI z (List.mem_of_mem_drop q)
      · rw [List.length_append, List.length_drop]
        omega
    · cases e
section
variable {P : Program} {w : World} {K : PySem.W.Frag} {mg : Str → Option Value} {base : Heap} {C : Addr}
/-! ### gives_all -/
def spGiv (K : PySem.W.Frag) (C : Addr) : Sp := fun vs H Q _ => ∃ (e L : Addr) (o : Eff) (us : List V) (bs : List Ob), vs = [.ref e, .ref L] ∧ EffV K C H e o ∧ EffOk o ∧ SqL K H L us ∧ Paired (ObV K H) us bs ∧ (∀ b ∈ bs, ObOk b) ∧ us.length ≤ 1000 ∧
  ∀ H', Same H H' → Q (.bl (givM o bs)) H'
theorem scGi : FnScope ["effect", "observations", "stack", "result"] ["effect", "observations"] (defScope sGivesAll) := ⟨rfl, rfl, rfl, by decide +kernel, rfl, by decide +kernel, by decide +kernel⟩
theorem has_giv (D : Def K mg "gives_all" sGivesAll) (G : Has P w K mg base "replaced" 3 ["effect", "stack"] [] (spRepd K C)) (B : Blt mg) : Has P w K mg base "gives_all" 4 ["effect", "observations"] [] (spGiv K C) := by
  refine has_of D scGi (fun _ _ _ _ _ _ us hl => match us, hl with | [_, _], _ => rfl) (fun xs H Q E h => ?_) (fun f cv A out s H xs Q E hr h => ?_)
  · obtain ⟨e, L, o, us, bs, rfl, _⟩ := h
    rfl
  · obtain ⟨e, L, o, us, bs, rfl, hE, oE, hL, hP, hI, hl, k⟩ := h
    refine ⟨_, pss_one (ps_ret (pe_callB (cr_all rfl) (by rfl) B.all (by decide +kernel) (pa_cons
        (pe_lc (own := [("stack", 2), ("result", 3)]) (g := gTup K 2 (gCons (gName 2) (gCons (gName 3) gNil))) (tt := tYes) (te := tOp (rEqD K) (tCall (spRepd K C) [] E0 (tCons (tVar 0) (tCons (tVar 2) tNil))) (tVar 3)) rfl scGi.nd (pi_list (pv 1)) (blkOk_by (own := [("stack", 2), ("result", 3)]) (N := ["effect", "observations", "stack", "result"]) (sc := defScope sGivesAll) (by decide +kernel))
          (fun _ _ _ _ _ => pg_tup (by rfl) (pgs_cons (pg_name (i := 2) scGi.nd rfl (.inl rfl)) (pgs_cons (pg_name (i := 3) scGi.nd rfl (.inl rfl)) pgs_nil))) (fun _ _ _ _ _ => pts_nil) (fun _ _ _ _ _ => pe_cmpR (op_eqD hr.units) (pe_has G hr (pa_cons (pv 0) (pa_cons (pv 2) pa_nil))) (pv 3) (nomark _))) pa_nil))), ?_⟩
    refine ⟨_, rfl, L, rfl, ⟨_, hL⟩, fun D hD => lc_list (K := K) (a := L) (xs := us) (fun j H2 => H2 D = some (.lst (((bs.take j).map fun b => decide (replM o b.1 = b.2)).map V.bl)) ∧ Same H H2) ⟨upd_same, Same.new hD⟩ (fun _ _ _ q => Same.seq q.2 hL) ?_ ?_⟩
    · rintro j x H2 hj ⟨h2, s2⟩
      obtain ⟨b, hb, t, a, r, rfl, q1, q2, q3⟩ := paired_at hP hj
      have ob := hI b (List.mem_of_getElem? hb)
      refine ⟨t, _, rfl, Same.tup s2 q1, rfl, _, _, rfl, _, _, rfl, rfl, ?_⟩
      refine ⟨rfl, yes_in ⟨_, rfl, _, rfl, e, a, o, b.1, rfl, hE.same s2, oE, Same.tup s2 q2, ob.i, ob.l, fun v H3 s3 hv => ?_⟩⟩
      refine ⟨_, rfl, oD (replM o b.1), oD b.2, hv.dp, ((q3.same s2).same s3).dp, (replM_ok oE ob.i ob.l).shaped, ob.o.shaped, _, s3 _ _ h2, ?_, ?_, ?_⟩
      · have jl := (List.getElem?_eq_some_iff.mp hj).1
        rw [List.length_map, List.length_map, List.length_take]
        exact small1000 (by omega)
      · rw [upd_same, oD_eqv, List.take_add_one, hb, List.map_append, List.map_append]
        rfl
      · exact Same.free2 (s2.trans s3) hD
    · rintro H2 ⟨h2, s2⟩
      rw [paired_len hP, List.take_length] at h2
      refine ⟨D, _, rfl, .of h2, ?_⟩
      have e1 : (bs.map fun b => decide (replM o b.1 = b.2)).all id = givM o bs := by
        unfold givM
        rw [List.all_map]
        rfl
      rw [e1]
      exact k H2 s2
/-! ### possible -/
def spPoss (K : PySem.W.Frag) (C : Addr) : Sp := fun vs H Q _ => ∃ (M L : Addr) (es : List Addr) (os : List Eff) (us : List V) (bs : List Ob), vs = [.ref M, .ref L] ∧ SqL K H M (es.map V.ref) ∧ Paired (EffV K C H) es os ∧ (∀ o ∈ os, EffOk o) ∧ 1 ≤ es.length ∧ es.length ≤ 20 ∧ SqL K H L us ∧ Paired (ObV K H) us bs ∧ (∀ b ∈ bs, ObOk b) ∧ us.length ≤ 1000 ∧
  ∀ (l : Addr) (H' : Hp), Same H H' → H l = none → H' l = some (.lst ((posM os bs os.length).map nV)) → Q (.ref l) H'
theorem scPs : FnScope ["candidates", "observations", "index", "effect"] ["candidates", "observations"] (defScope sPossible) := ⟨rfl, rfl, rfl, by decide +kernel, rfl, by decide +kernel, by decide +kernel⟩
theorem has_poss (D : Def K mg "possible" sPossible) (GC : Has P w K mg base "check_candidates" 2 ["candidates"] [] (spChkC K C)) (GO : Has P w K mg base "check_observations" 4 ["observations"] [] (spChkO K)) (GG : Has P w K mg base "gives_all" 4 ["effect", "observations"] [] (spGiv K C)) (B : Blt mg) : Has P w K mg base "possible" 5 ["candidates", "observations"] [] (spPoss K C) := by
  refine has_of D scPs (fun _ _ _ _ _ _ us hl => match us, hl with | [_, _], _ => rfl) (fun xs H Q E h => ?_) (fun f cv A out s H xs Q E hr h => ?_)
  · obtain ⟨M, L, es, os, us, bs, rfl, _⟩ := h
    rfl
  · obtain ⟨M, L, es, os, us, bs, rfl, hM, hE, oE, l0, l1, hL, hP, hI, hl, k⟩ := h
    have hr2 : Room 2 _ := hr.mono (by decide)
    refine ⟨_, pss_cons (ps_expr (pe_has GC hr2 (pa_cons (pv 0) pa_nil))) (pss_cons (ps_expr (pe_has GO hr (pa_cons (pv 1) pa_nil)))
      (pss_one (ps_ret (pe_lc (own := [("index", 2), ("effect", 3)]) (g := gTup K 2 (gCons (gName 2) (gCons (gName 3) gNil))) (tt := tB (tCall (spGiv K C) [] E0 (tCons (tVar 3) (tCons (tVar 1) tNil)))) (te := tVar 2) rfl scPs.nd (pi_enum (by rfl) B.enu (pa_cons (pv 0) pa_nil)) (blkOk_by (own := [("index", 2), ("effect", 3)]) (N := ["candidates", "observations", "index", "effect"]) (sc := defScope sPossible) (by decide +kernel))
          (fun _ _ _ _ _ => pg_tup (by rfl) (pgs_cons (pg_name (i := 2) scPs.nd rfl (.inl rfl)) (pgs_cons (pg_name (i := 3) scPs.nd rfl (.inl rfl)) pgs_nil))) (fun _ _ _ _ _ => pts_one (pt_val (pe_has GG hr (pa_cons (pv 3) (pa_cons (pv 1) pa_nil))))) (fun _ _ _ _ _ => pv 2))))), ?_⟩
    refine ⟨_, rfl, M, es, os, rfl, hM, hE, l0, l1, fun H1 s1 => ⟨_, rfl, L, us, bs, rfl, Same.seq s1 hL, obs_same hP s1, hI, hl, fun H2 s2' => ?_⟩⟩
    have s2 := s1.trans s2'
    have hln := paired_len hE
    refine ⟨_, rfl, M, es.map V.ref, rfl, Same.seq s2 hM, fun D hD => lc_it (walk_enum (K := K) (a := M) (xs := es.map V.ref)) (fun j H3 => H3 D = some (.lst ((posM os bs j).map nV)) ∧ Same H2 H3) ⟨upd_same, Same.new hD⟩ (fun _ _ _ q => Same.seq (s2.trans q.2) hM) ?_ ?_⟩
    · rintro j x H3 H4 hj ⟨h3, s3⟩ ⟨T, p, y, rfl, nT, rfl, hp, hy⟩
      have hp := Option.some.inj hp
      subst hp
      dsimp only at hy
      rw [List.getElem?_map] at hy
      cases he : es[j]? with
      | none =>
        rw [he] at hy
        cases hy
      | some e =>
        rw [he] at hy
        have hy := Option.some.inj hy
        subst hy
        obtain ⟨o, ho, hV⟩ := paired_at hE he
        have s4 : Same H3 (upd H3 T (.tup [.int (j : Nat), .ref e])) := Same.new nT
        have s24 := (s2.trans s3).trans s4
        have eo : os.getD j none = o := by
          rw [List.getD_eq_getElem?_getD, ho]
          rfl
        refine ⟨T, _, rfl, .of upd_same, rfl, _, _, rfl, _, _, rfl, rfl, ?_⟩
        refine ⟨rfl, _, rfl, _, rfl, e, L, o, us, bs, rfl, hV.same s24, oE o (List.mem_of_getElem? ho), Same.seq s24 hL, obs_same hP s24, hI, hl, fun H5 s5 => ⟨_, rfl, ?_⟩⟩
        have h5 := (s4.trans s5) _ _ h3
        cases c : givM o bs with
        | true =>
          refine iteT ⟨_, rfl, _, h5, ?_, ?_, ?_⟩
          · have := posM_len os bs j
            have jl := (List.getElem?_eq_some_iff.mp he).1
            rw [List.length_map]
            exact small1000 (by omega)
          · rw [upd_same, posM_succ, eo, if_pos c, List.map_append]
            rfl
          · exact Same.free2 ((s3.trans s4).trans s5) hD
        | false =>
          refine iteF ⟨?_, (s3.trans s4).trans s5⟩
          rw [h5, posM_succ, eo, c]
          rfl
    · rintro H3 ⟨h3, s3⟩
      rw [List.length_map, hln] at h3
      exact k D H3 (s2.trans s3) (s2.free hD) h3
end
end SE
/-! repr of lists that hold objects with an own __repr__, texts, numbers, tuples and further lists. -/
namespace SE
open PySem PySem.Spec PyProof.Rows L2
/-! ### data without lists: what its repr asks of stands in tuples -/
mutual
def noLst : PyData → Bool
  | .none | .bool _ | .int _ | .str _ => true
  | .tuple xs => noLstAll xs
  | .list _ | .dict _ => false
def noLstAll : List PyData → Bool
  | [] => true
  | x :: xs => noLst x && noLstAll xs
end
def TupsAt (h : Heap) (bs : List Addr) : Prop := ∀ b ∈ bs, ∃ o, h.get? b = some o ∧ o.cls = .type "tuple"
section
variable {prog : Program} {w : World} {h₀ : Heap}
mutual
theorem reprK_t : ∀ {v : Value} {d : PyData} {as : List Addr}, Reads h₀ v d as → d.showable = true → noLst d = true → d.shown.length ≤ sizeLine → ∃ bs, ReadAtMost h₀ d.depth bs ∧ TupsAt h₀ bs ∧ ReprK prog w bs h₀ d.depth v d.shown
  | _, _, _, .none, _, _, _ => ⟨[], (fun _ h => nomatch h), (fun _ h => nomatch h), by simp only [PyData.shown]; exact .of_is ReprIs.none _ _ _⟩
  | _, _, _, .bool b, _, _, _ => ⟨[], (fun _ h => nomatch h), (fun _ h => nomatch h), by simp only [PyData.shown]; exact .of_is (ReprIs.bool b) _ _ _⟩
  | _, _, _, .int i t, hs, _, _ => ⟨[], (fun _ h => nomatch h), (fun _ h => nomatch h), by simp only [PyData.shown]; exact .of_is (ReprIs.int t (by simpa [PyData.showable] using hs)) _ _ _⟩
  | _, _, _, .str x t, _, _, hz => ⟨[], (fun _ h => nomatch h), (fun _ h => nomatch h), by simp only [PyData.shown]; exact .of_is (ReprIs.str x t (by simpa only [PyData.shown] using hz)) _ _ _⟩
  | _, _, _, .list _ _ _ _, _, hn, _ => by simp [noLst] at hn
  | _, _, _, .tuple (a := a) (xs := xs) h1 h2 h3 h4, hs, hn, hz => by
    have hz' : (tupleText (PyData.shownAll xs)).length ≤ sizeLine := by simpa only [PyData.shown] using hz
    obtain ⟨bs, hb, ht, hk⟩ := reprAll_t h4 (by simpa [PyData.showable] using hs) (by simpa [noLst] using hn) (fun t ht => Nat.le_trans (tupleText_mem_le ht) hz')
    have r : Reads h₀ (.ref a) (.tuple xs) _ := .tuple h1 h2 h3 h4
    have hna : a ∉ bs := not_mem_of_deeper r (by simp only [PyData.depth]; omega) hb
    refine ⟨a :: bs, ReadAtMost.cons r (by simp only [PyData.depth]; omega) hb, fun b m => ?_, ?_⟩
    · rcases List.mem_cons.mp m with e | m
      · exact e ▸ ⟨_, h1, h2⟩
      · exact ht b m
    · simp only [PyData.depth, PyData.shown]
      exact ReprK.tuple h1 h2 h3 hna hk
  | _, _, _, .dict _ _ _ _ _, _, hn, _ => by simp [noLst] at hn
theorem reprAll_t : ∀ {vs : List Value} {ds : List PyData} {as : List Addr}, ReadsAll h₀ vs ds as → PyData.showableAll ds = true → noLstAll ds = true → (∀ t ∈ PyData.shownAll ds, t.length ≤ sizeLine) →
    ∃ bs, ReadAtMost h₀ (PyData.depthAll ds) bs ∧ TupsAt h₀ bs ∧ ReprAllK prog w bs h₀ (PyData.depthAll ds) vs (PyData.shownAll ds)
  | _, _, _, .nil, _, _, _ => ⟨[], (fun _ h => nomatch h), (fun _ h => nomatch h), by simp only [PyData.shownAll]; exact .nil⟩
  | _, _, _, .cons (d := d) (ds := ds) r rs, hs, hn, hz => by
    have hs' : d.showable = true ∧ PyData.showableAll ds = true := by simpa [PyData.showableAll] using hs
    have hn' : noLst d = true ∧ noLstAll ds = true := by simpa [noLstAll] using hn
    obtain ⟨b1, hb1, t1, k1⟩ := reprK_t r hs'.1 hn'.1 (hz _ (by simp only [PyData.shownAll]; exact List.mem_cons_self ..))
    obtain ⟨b2, hb2, t2, k2⟩ := reprAll_t rs hs'.2 hn'.2 (fun t ht => hz t (by simp only [PyData.shownAll]; exact List.mem_cons_of_mem _ ht))
    refine ⟨b1 ++ b2, ?_, fun b m => ?_, ?_⟩
    · simp only [PyData.depthAll]
      exact (hb1.mono (Nat.le_max_left _ _)).append (hb2.mono (Nat.le_max_right _ _))
    · rcases List.mem_append.mp m with m | m
      · exact t1 b m
      · exact t2 b m
    · simp only [PyData.depthAll, PyData.shownAll]
      exact .cons ((k1.more fun b hb => List.mem_append_left _ hb).level_le (Nat.le_max_left _ _)) (k2.more_le (fun b hb => List.mem_append_right _ hb) (Nat.le_max_right _ _))
end
end
/-! ### a value's repr while the reprs g are under way -/
def EnvTo (X : Cx) (A : Around) : Prop := ∀ (s : Shared) (H : Hp), Env0 X.prog X.w X.K X.mg X.base X.A X.stack s H → Env0 X.prog X.w X.K X.mg X.base A X.stack s H
structure RU (X : Cx) (g : List Code) (n : Nat) (v : V) (t : Str) (H : Hp) : Prop where
  run : ∀ {A : Around} {pins : List (Addr × Obj)} {σ : L2.St} {H' : Hp} {s : Shared} {u : Value} {b : Nat} {E : Value → Shared → Prop} {Q : Str → Shared → Prop}, A.guards = some g → Room n A → EnvTo X A → Same H H' → Inv X pins σ H' s → RelV v u → b + t.length ≤ sizeLine →
    (∀ H'' s', Same H' H'' → Inv X pins σ H'' s' → Q t s') → wpAny (model X.prog X.w) A (pyReprUnder b u) Q E s
section
variable {X : Cx} {g : List Code} {n : Nat} {H : Hp}
theorem RU.mono {v : V} {t : Str} {m : Nat} (h : RU X g n v t H) (hm : n ≤ m) : RU X g m v t H := ⟨fun hg hr he s I r hb k => h.run hg (hr.mono hm) he s I r hb k⟩
theorem RU.same {v : V} {t : Str} {H1 : Hp} (h : RU X g n v t H) (s1 : Same H H1) : RU X g n v t H1 := ⟨fun hg hr he s I r hb k => h.run hg hr he (Same.trans s1 s) I r hb k⟩
theorem GuL.same {H' : Hp} (h : GuL g H) (s : Same H H') : GuL g H' := fun id v rest kw m => by
  obtain ⟨L, us, e, hL⟩ := h id v rest kw m
  exact ⟨L, us, e, s _ _ hL⟩
theorem GuL.nil : GuL [] H := fun _ _ _ _ m => by cases m
theorem GuL.cons {id : String} {L : Addr} {us : List V} {rest : List Value} {kw : List (Str × Value)} (h : GuL g H) (hL : H L = some (.lst us)) : GuL (.builtin id ⟨.ref L :: rest, kw⟩ :: g) H := fun id' v rest' kw' m => by
  rcases List.mem_cons.mp m with e | m
  · cases e
    exact ⟨L, us, rfl, hL⟩
  · exact h _ _ _ _ m
/-- data without lists -/
theorem ru_dp {v : V} {d : PyData} (hD : ∀ H', Same H H' → Dp X.K H' v d) (hs : d.showable = true) (hn : noLst d = true) (hdep : d.depth ≤ 20) (hG : GuL g H) : RU X g n v d.shown H := by
  constructor
  intro A pins σ H' s u b E Q hg hr he sm I r hb k
  obtain ⟨as, rd⟩ := Dp.reads I d v u (hD H' sm) r
  obtain ⟨bs, _, ht, hk⟩ := reprK_t (prog := X.prog) (w := X.w) rd hs hn (by omega)
  have un := hr.un
  refine hk b hb A g E s Q hg (fun c hc => ?_) (by omega) (fun _ _ z => z) (fun h' tk keep => k H' _ (fun _ _ z => z) (I.kept (t' := tk) keep))
  obtain ⟨o, ho, oc⟩ := ht c hc
  intro id v rest kw hm
  obtain ⟨L, us, rfl, hL⟩ := (hG.same sm) id v rest kw hm
  intro e
  cases e
  obtain ⟨_, _, _, _, _, eL⟩ := I.lstM hL
  rw [ho] at eL
  cases eL
  simp at oc
/-- an object with an own __repr__ -/
theorem ru_own {C f e : Addr} {fd : FuncData} {sp : List Code → Sp} {t : Str} (F : GOkG X.prog X.w X.K X.mg X.base g n f fd ["self"] (sp g)) (hs : PySem.W.findIn X.K (.ref C) "__repr__" = some (some (.ref f))) (hf : PySem.W.isFn X.K (.ref f) = true) (hb : Binds X.K fd ["self"] [])
    (hi : ∃ dx fs, H e = some (.ins C dx fs)) (hsp : ∀ H', Same H H' → sp g [.ref e] H' (fun v H'' => v = .str t ∧ Same H' H'') (fun _ _ _ => False)) : RU X g n (.ref e) t H := by
  constructor
  intro A pins σ H' s u b E Q hg hr he sm I r hb2 k
  cases r
  obtain ⟨dx, fs, hi⟩ := hi
  obtain ⟨mA, J, _⟩ := ins_get I.hok (sm _ _ hi)
  obtain ⟨od, J, _⟩ := J.look
  refine wpAny_pyReprUnder_ref (by omega) (under_own hr.units0 I.kIn J hs hf ?_)
  refine wpAny_call (codeAny_mono (F.run A X.stack s H' ⟨[.ref e], []⟩ [.ref e] [.ref e] _ _ hg hr (he _ _ I.env0) (by simpa using hb s [.ref e] I.kIn rfl) (.cons rfl .nil) (hsp H' sm)) fun r s2 hq => ?_)
  cases r with
  | error e => exact hq.elim
  | ok fl =>
    cases fl with
    | next => exact hq.elim
    | brk => exact hq.elim
    | cont => exact hq.elim
    | ret z =>
      obtain ⟨y, H2, I2, rz, ey, eH⟩ := I.after hq
      subst ey
      obtain ⟨tk, rfl⟩ := rz
      exact ⟨t, tk, rfl, t, tk, rfl, k H2 s2 eH I2⟩
open Builtin Builtin.List in
theorem ru_loop {A : Around} {pins : List (Addr × Obj)} {σ : L2.St} {R : Result → Shared → Prop} {L P : Addr} {vs : List V} {ts : List Str} {base : Nat} (hg : A.guards = some g) (hr : Room (n + 1) A) (he : EnvTo X A) (hLP : L ≠ P) (hL : H L = some (.lst vs)) (hP : H P = none) (hlen : vs.length = ts.length)
    (hsz : base + (listText ts).length ≤ sizeLine) (hT : ∀ (i : Nat) (v : V), vs[i]? = some v → ∃ t, ts[i]? = some t ∧ ∀ rest, RU X (.builtin "list.__repr__.loop" ⟨.ref L :: rest, []⟩ :: g) n v t H)
    (hR : ∀ H' u s', Same H H' → Inv X pins σ H' s' → R (.ok (.ret (.str (listText ts) u))) s') :
    ∀ (k i : Nat) (s : Shared) (Hc : Hp), vs.length - i = k → i ≤ vs.length → Same H Hc → Hc P = some (.lst ((ts.take i).map V.str)) → Inv X pins σ Hc s →
    codeAny (model X.prog X.w) A (.builtin "list.__repr__.loop" ⟨[.ref L, rawInt i, .ref P, rawInt ((base + piled (ts.take i) : Nat) : Int)], []⟩) R s := by
  have hX : (listText ts).length = (textFrom 0 "[" ts).length + 1 := by
    show (textFrom 0 "[" ts ++ "]").length = _
    rw [strLen_append]; rfl
  have hLn := textFrom_len ts 0 "["
  have hsz1 : vs.length ≤ sizeLine := by
    have h1 := hLn.1
    rw [if_neg (Nat.lt_irrefl 0)] at h1
    omega
  have hsz2 : ∀ t ∈ ts, t.length ≤ sizeLine := fun t ht => by
    have h2 := hLn.2.1 t ht
    omega
  have hp3 := piled_le_listText ts
  have hsz3 : (listText ts).length ≤ sizeLine := by omega
  intro k
  induction k with
  | zero =>
    intro i s Hc hk hi sm hPc I
    have hin : i = vs.length := by omega
    obtain ⟨_, its, nL, rL, lL, eL⟩ := I.lstM (sm _ _ hL)
    obtain ⟨_, itp, nP, rP, lP, eP⟩ := I.lstM hPc
    obtain ⟨done, rfl, hdone⟩ := vals_strs rP
    refine codeAny_builtin PySem.F.entry_list_repr_loop ?_
    show wpAny _ _ («list.__repr__.loop» ⟨[.ref L, .int i 0, .ref P, .int ((base + piled (ts.take i) : Nat) : Int) 0], []⟩) _ _ s
    rw [repr_loop_tree]
    refine wpAny_bind (wpAny_listItems eL rfl ?_)
    have hnone : its.toArray[(i : Int).toNat]? = none := by
      simp only [Int.toNat_natCast, List.getElem?_toArray]
      exact List.getElem?_eq_none (by omega)
    simp only [hnone]
    unfold reprEnd
    refine wpAny_bind (wpAny_listItems eP rfl ?_)
    rw [show (strValues done).toArray.toList = strValues done from List.toList_toArray .., repr_fold]
    refine wpAny_bind (wpAny_pure ?_)
    have hall : done.map (·.1) = ts := by rw [hdone, hin, hlen, List.take_length]
    rw [hall]
    refine wpAny_bind (wpAny_mkStr (wpAny_pure ?_) hsz3)
    exact hR Hc _ _ sm (I.tok _)
  | succ k ih =>
    intro i s Hc hk hi sm hPc I
    have hlt : i < vs.length := by omega
    obtain ⟨_, its, nL, rL, lL, eL⟩ := I.lstM (sm _ _ hL)
    obtain ⟨t, ht, hru⟩ := hT i vs[i] (by simp [hlt])
    obtain ⟨u, hu, ru⟩ := rL.get (i := i) (x := vs[i]) (by simp [hlt])
    have hp1 := piled_take_succ ht
    have hp2 := piled_take_le ts (i + 1)
    refine codeAny_builtin PySem.F.entry_list_repr_loop ?_
    show wpAny _ _ («list.__repr__.loop» ⟨[.ref L, .int i 0, .ref P, .int ((base + piled (ts.take i) : Nat) : Int) 0], []⟩) _ _ s
    rw [repr_loop_tree]
    refine wpAny_bind (wpAny_listItems eL rfl ?_)
    have hsome : its.toArray[(i : Int).toNat]? = some u := by simpa using hu
    simp only [hsome]
    rw [Int.toNat_natCast]
    refine wpAny_bind (wpAny_holding ((hru _).run (guards_under_guard (isGuard_list_loop _) hg) (Room.loop hr _) (fun s' H' e => Env0.loop (he s' H' e) _) sm I ru (by omega) fun H2 s2 sm2 I2 => ?_))
    refine wpAny_bind (wpAny_mkStr ?_ (hsz2 t (List.mem_of_getElem? ht)))
    refine wpAny_bind ?_
    show wpAny _ _ (updateSeq P _) _ _ _
    have I3 := I2.tok (s2.toks + 1)
    have hP2 := sm2 _ _ hPc
    obtain ⟨zP, itp, nP, rP, lP, eP⟩ := I3.lstM hP2
    have lt : ((ts.take i).map V.str).length ≤ i := by rw [List.length_map, List.length_take]; omega
    have hasz : itp.toArray.size ≤ sizeLine := by rw [List.size_toArray]; omega
    refine wpAny_updateSeq eP rfl (wpAny_pure ⟨PySem.F.quiet_list_repr_loop _, ?_⟩) hasz
    have e1 : ((i : Int) + 1) = ((i + 1 : Nat) : Int) := by omega
    have e2 : base + piled (ts.take i) + (t.length + 2) = base + piled (ts.take (i + 1)) := by omega
    rw [e1, e2]
    have ev : (ts.take (i + 1)).map V.str = (ts.take i).map V.str ++ [V.str t] := by
      rw [List.take_add_one, ht, List.map_append]
      rfl
    have I4 := I3.lset (its' := itp ++ [.str t s2.toks]) (f := fun x => x.push (.str t s2.toks)) (ys := (ts.take (i + 1)).map V.str) (t' := s2.toks + 1) hP2 eP (by simp) (by rw [ev]; exact rP.append (.cons ⟨_, rfl⟩ .nil)) (by rw [List.length_map, List.length_take]; omega)
    exact ih (i + 1) _ _ (by omega) hlt (Same.free2 (Same.trans sm sm2) hP) upd_same I4
open Builtin Builtin.List in
theorem listAt {A : Around} {pins : List (Addr × Obj)} {σ : L2.St} {R : Result → Shared → Prop} {L : Addr} {v : V} {vs : List V} {ts : List Str} {base : Nat} {s : Shared} (hg : A.guards = some g) (hr : Room (n + 1) A) (he : EnvTo X A) (hL : H L = some (.lst (v :: vs))) (hc : Clear g L) (hlen : (v :: vs).length = ts.length)
    (hsz : base + (listText ts).length ≤ sizeLine) (hT : ∀ (i : Nat) (y : V), (v :: vs)[i]? = some y → ∃ t, ts[i]? = some t ∧ ∀ rest, RU X (.builtin "list.__repr__.loop" ⟨.ref L :: rest, []⟩ :: g) n y t H) (I : Inv X pins σ H s)
    (hR : ∀ H' u s', Same H H' → Inv X pins σ H' s' → R (.ok (.ret (.str (listText ts) u))) s') :
    wpAny (model X.prog X.w) A.in1 (Builtin.listReprAt base ⟨[.ref L], []⟩) (fun fin s' => match fin with | .done f => R (.ok f) s' | .again c' => c'.quiet = true ∧ codeAny (model X.prog X.w) A c' R s') (fun e s' => R (.error e) s') s := by
  obtain ⟨_, its, nL, rL, lL, eL⟩ := I.lstM hL
  cases its with
  | nil => simp at lL
  | cons u us =>
    refine wpAny_list_repr_head (A := A.in1) hg (fun v rest kw hm => listSameRef_of_ne (hc _ _ _ _ hm)) eL rfl ?_
    refine wpAny_bind (m := newList []) (wpAny_newObj_type ?_)
    refine wpAny_pure ⟨PySem.F.quiet_list_repr_loop _, ?_⟩
    have hP : H s.heap.objs.size = none := I.hok.fresh (Nat.le_refl _)
    have I1 : Inv X pins σ (upd H s.heap.objs.size (.lst [])) { s with heap := s.heap.push ({ cls := .type "list", data := .seq #[] } : Obj) } := I.laid (t' := s.toks) (fun b u q => Heap.get?_push_of_some _ q) (Nat.le_refl _) ⟨Nat.zero_le _, [], 0, .nil, Heap.get?_push_size _ rfl⟩
    have hLP : L ≠ s.heap.objs.size := fun z => by rw [z, hP] at hL; cases hL
    exact ru_loop hg hr he hLP hL hP hlen hsz hT hR _ 0 _ _ rfl (Nat.zero_le _) (Same.new hP) upd_same I1
theorem ru_list {L : Addr} {vs : List V} {ts : List Str} (hL : H L = some (.lst vs)) (hc : Clear g L) (hlen : vs.length = ts.length)
    (hT : ∀ (i : Nat) (y : V), vs[i]? = some y → ∃ t, ts[i]? = some t ∧ ∀ rest, RU X (.builtin "list.__repr__.loop" ⟨.ref L :: rest, []⟩ :: g) n y t H) : RU X g (n + 1) (.ref L) (listText ts) H := by
  constructor
  intro A pins σ H' s u b E Q hg hr he sm I r hb k
  cases r
  have hL' := sm _ _ hL
  obtain ⟨_, its, nL, rL, lL, eL⟩ := I.lstM hL'
  cases vs with
  | nil =>
    cases ts with
    | cons t ts => simp at hlen
    | nil =>
      cases its with
      | cons u us => simp at lL
      | nil =>
        rw [listText_nil] at k
        exact wpAny_pyReprUnder_ref (by omega) (wpAny_pyReprObjUnder_list_empty ⟨_, eL, rfl⟩ hr.units0 eL rfl ⟨_, _, rfl, k H' _ (fun _ _ z => z) (I.tok _)⟩)
  | cons v vs =>
    refine wpAny_pyReprUnder_ref (by omega) (wpAny_pyReprObjUnder_twin (twin := "list.__repr__.under") ⟨_, eL, rfl⟩ PySem.F.slot_list_repr.toG rfl hr.units0 ?_)
    refine call_twin_plain PySem.F.plain_list_repr_under PySem.F.entry_list_repr_under PySem.F.check_list_repr_under ⟨_, eL, rfl⟩ PySem.F.slot_list_repr.toG (PySem.F.args_list_repr_1 _) ?_
    exact listAt hg hr he hL' hc hlen hb (fun i y hy => by
      obtain ⟨t, ht, q⟩ := hT i y hy
      exact ⟨t, ht, fun rest => (q rest).same sm⟩) I fun H2 u s2 sm2 I2 => ⟨⟨_, _, rfl⟩, _, _, rfl, k H2 s2 sm2 I2⟩
/-- repr of a list -/
def rReprR (X : Cx) (n : Nat) : List V → Hp → VK → Prop := fun xs H Q => ∃ (L : Addr) (vs : List V) (ts : List Str), xs = [.ref L] ∧ H L = some (.lst vs) ∧ vs.length = ts.length ∧ (listText ts).length ≤ sizeLine ∧
  (∀ (i : Nat) (y : V), vs[i]? = some y → ∃ t, ts[i]? = some t ∧ ∀ rest, RU X [.builtin "list.__repr__.loop" ⟨.ref L :: rest, []⟩] n y t H) ∧ ∀ H', Same H H' → Q (.str (listText ts)) H'
theorem call_reprR (hgu : X.A.guards = some []) (hr : Room (n + 3) X.A) : CallR X (.builtin "repr") (rReprR X n) := by
  intro pins s σ H xs us Q I r h
  obtain ⟨L, vs, ts, rfl, hL, hlen, hsz, hT, k⟩ := h
  cases r with
  | cons r1 r2 =>
    cases r2
    cases r1
    obtain ⟨_, its, nL, rL, lL, eL⟩ := I.lstM hL
    have hu := hr.units
    refine call_repr_slot (T := "list") (by omega) ⟨_, eL, rfl⟩ PySem.F.slot_list_repr.toG ?_
    cases vs with
    | nil =>
      cases ts with
      | cons t ts => simp at hlen
      | nil =>
        cases its with
        | cons u us => simp at lL
        | nil =>
          rw [listText_nil] at k
          exact call_list_repr_empty ⟨_, eL, rfl⟩ eL rfl ⟨_, _, rfl, .str "[]", H, I.tok _, ⟨_, rfl⟩, k H fun _ _ z => z⟩
    | cons v vs =>
      refine wpAny_call (codeAny_call_builtin PySem.F.slot_list_repr.plain PySem.F.entry_list_repr (PySem.F.slot_list_repr.check _ _ _ _ _ _ _ _ ⟨_, eL, rfl⟩ (PySem.F.args_list_repr_1 _) ?_))
      exact listAt (A := X.A.in1) (R := callEnd (fun r s₁ => ∃ x t, r = .str x t ∧ EP X pins σ Q r s₁) X.xe) (base := 0) (g := []) (n := n) hgu (Room.in1 (hr.mono (by omega))) (fun s' H' e => e.in1) hL (Clear.nil _) hlen (by omega) hT I fun H2 u s2 sm2 I2 => ⟨_, _, rfl, .str (listText ts), _, I2, ⟨u, rfl⟩, k _ sm2⟩
end
end SE
namespace SE
open PySem PySem.Spec PyProof.Rows L2
/-! ### heaps without some objects -/
def hid (S : List Addr) (H : Hp) : Hp := fun b => if b ∈ S then none else H b
theorem hid_ne {S : List Addr} {b : Addr} {H : Hp} (h : b ∉ S) : hid S H b = H b := if_neg h
theorem hid_out (S : List Addr) (H : Hp) : Same (hid S H) H := fun b o h => by
  unfold hid at h
  by_cases c : b ∈ S
  · rw [if_pos c] at h
    cases h
  · rw [if_neg c] at h
    exact h
theorem hid_map {S T : List Addr} {H H' : Hp} (h : ∀ b o, b ∉ S → H b = some o → b ∉ T ∧ H' b = some o) : Same (hid S H) (hid T H') := fun b o q => by
  unfold hid at q
  by_cases c : b ∈ S
  · rw [if_pos c] at q
    cases q
  · rw [if_neg c] at q
    obtain ⟨h1, h2⟩ := h b o c q
    rw [hid_ne h1]
    exact h2
theorem hid_of {S : List Addr} {H H' : Hp} (h : Same H H') : Same (hid S H) (hid S H') := hid_map fun b o c q => ⟨c, h b o q⟩
theorem hid_but {S : List Addr} {p : Addr} {H H' : Hp} (h : But p H H') (hp : p ∈ S) : Same (hid S H) (hid S H') := hid_map fun b o c q => ⟨c, h b o (fun e => c (e ▸ hp)) q⟩
theorem hid_upd {S : List Addr} {D : Addr} {H : Hp} {o : HO} (hD : D ∈ S) : Same (hid S H) (hid S (upd H D o)) := hid_map fun b u c q => ⟨c, by
  have e : b ≠ D := fun e => c (by rw [e]; exact hD)
  rw [upd_ne e]
  exact q⟩
/-- what H does not know may be hidden too -/
theorem hid_free {S : List Addr} {D : Addr} {H : Hp} (hD : H D = none) : Same (hid S H) (hid (D :: S) H) := hid_map fun b o c q => ⟨fun m => by
  rcases List.mem_cons.mp m with e | m
  · rw [e, hD] at q
    cases q
  · exact c m, q⟩
theorem hid_less {S : List Addr} {D : Addr} {H : Hp} : Same (hid (D :: S) H) (hid S H) := hid_map fun b o c q => ⟨fun m => c (List.mem_cons_of_mem _ m), q⟩
/-! ### a list of steps -/
def StW (H : Hp) (v : V) (ss : List Stp) : Prop := ∃ a us, v = .ref a ∧ H a = some (.lst us) ∧ StepsH H us ss
theorem stepsH_same {H H' : Hp} {xs : List V} {ss : List Stp} (h : StepsH H xs ss) (s : Same H H') : StepsH H' xs ss := Paired.mapP h fun _ _ q => by
  obtain ⟨t, e, z⟩ := q
  exact ⟨t, e, s _ _ z⟩
theorem StW.same {H H' : Hp} {v : V} {ss : List Stp} (h : StW H v ss) (s : Same H H') : StW H' v ss := by
  obtain ⟨a, us, e, h1, h2⟩ := h
  exact ⟨a, us, e, s _ _ h1, stepsH_same h2 s⟩
theorem stW_all {H H' : Hp} {vs : List V} {sss : List (List Stp)} (h : Paired (StW H) vs sss) (s : Same H H') : Paired (StW H') vs sss := Paired.mapP h fun _ _ q => q.same s
/-! ### observations as data -/
def obD (b : Ob) : PyData := .tuple [.tuple (b.1.map .str), oD b.2]
section
variable {K : PySem.W.Frag} {C : Addr}
theorem ObV.dp {H : Hp} {v : V} {b : Ob} (h : ObV K H v b) : Dp K H v (obD b) := by
  obtain ⟨t, a, r, rfl, h1, h2, h3⟩ := h
  exact .tup h1 (.cons (.tup h2 (dp_strs _)) (.cons h3.dp .nil))
theorem oD_nice {o : Option (List Str)} (h : OWOk o) : Nice 1 45000 (oD o) := by
  cases o with
  | none =>
    have q : Nice 0 1 .none := by
      refine ⟨?_, ?_, ?_, ?_, ?_, ?_⟩
      · simp only [PyData.canLay0]
      · simp only [PyData.depth]; exact Nat.le_refl _
      · simp only [PyData.showable]
      · simp only [PyData.hasDict]
      · simp only [PyData.intsShort]
      · simp only [PyData.weight]; first | exact Nat.le_refl _ | decide
    exact q.mono (by decide) (by decide)
  | some zs =>
    obtain ⟨h1, h2⟩ := h zs rfl
    exact (nice_tuple (nice_strs h1)).mono (by decide) (by rw [List.length_map]; omega)
theorem obD_nice {b : Ob} (h : ObOk b) : Nice 2 90002 (obD b) := by
  refine (nice_tuple (k := 1) (B := 45000) fun d m => ?_).mono (Nat.le_refl _) (by show 2 * 45001 ≤ _; decide)
  rcases List.mem_cons.mp m with e | m
  · rw [e]
    exact (nice_tuple (nice_strs h.i)).mono (by decide) (by rw [List.length_map]; have := h.l; omega)
  · rw [List.mem_singleton.mp m]
    exact oD_nice h.o
theorem noLst_strs : ∀ zs : List Str, noLstAll (zs.map PyData.str) = true
  | [] => by simp [noLstAll]
  | z :: zs => by simp [noLstAll, noLst, noLst_strs zs]
theorem noLst_oD : ∀ o : Option (List Str), noLst (oD o) = true
  | none => by simp [oD, noLst]
  | some zs => by simp [oD, noLst, noLst_strs]
theorem noLst_ob (b : Ob) : noLst (obD b) = true := by
  simp [obD, noLst, noLstAll, noLst_strs, noLst_oD]
def reprTwo (os : List Eff) (bs : List Ob) : Str := listText [listText (os.map shownE), listText (bs.map fun b => (obD b).shown)]
theorem shownE_le {o : Eff} (h : EffOk o) : (shownE o).length ≤ 300000 := by
  cases o with
  | none => decide +kernel
  | some o =>
    obtain ⟨xs, ys, p⟩ := o
    obtain ⟨i1, i2, l1, l2, p0, p1⟩ := h
    have z1 := (nice_tuple (nice_strs i1)).shownLe
    have z2 := (nice_tuple (nice_strs i2)).shownLe
    rw [List.length_map] at z1 z2
    have tl : (toString p : Str).length ≤ 13 := by
      have := PyData.shown_int_le (i := p) (by omega)
      exact this
    have w0 : (Str.empty : Str).length = 0 := by decide +kernel
    have w1 : ("Effect(" : Str).length = 7 := by decide +kernel
    have w2 : (", " : Str).length = 2 := by decide +kernel
    have w3 : (", peak=" : Str).length = 7 := by decide +kernel
    have w4 : (")" : Str).length = 1 := by decide +kernel
    unfold shownE
    simp only [len_add, w0, w1, w2, w3, w4]
    omega
theorem sum_le {n B : Nat} : ∀ {ts : List Str}, (∀ t ∈ ts, t.length ≤ B) → ts.length ≤ n → (ts.map fun x : Str => x.length).sum ≤ n * B
  | [], _, _ => Nat.zero_le _
  | t :: ts, h, hl => by
    have h1 := h t (List.mem_cons_self ..)
    match n, hl with
    | m + 1, hl =>
      have ih := sum_le (n := m) (fun t m => h t (List.mem_cons_of_mem _ m)) (Nat.le_of_succ_le_succ hl)
      rw [List.map_cons, List.sum_cons, Nat.succ_mul]
      omega
theorem repr_two {X : Cx} (RP : ReprHasG X.prog X.w X.K X.mg X.base C) {H : Hp} {T E B : Addr} {es : List Addr} {os : List Eff} {us : List V} {bs : List Ob} {Q : VK} (hT : H T = some (.lst [.ref E, .ref B])) (hE : H E = some (.lst (es.map V.ref))) (hB : H B = some (.lst us)) (hTE : T ≠ E) (hTB : T ≠ B)
    (hP : Paired (EffV X.K C H) es os) (oE : ∀ o ∈ os, EffOk o) (hO : Paired (ObV X.K H) us bs) (oB : ∀ b ∈ bs, ObOk b) (le : es.length ≤ 12) (lb : us.length ≤ 5) (k : ∀ H', Same H H' → Q (.str (reprTwo os bs)) H') : rReprR X 2 [.ref T] H Q := by
  obtain ⟨f, fd, F, r1, r2, r3⟩ := RP
  have lo := paired_len hP
  have lbs := paired_len hO
  refine ⟨T, _, _, rfl, hT, rfl, ?_, fun i y hy => ?_, k⟩
  · have q := listText_len_le [listText (os.map shownE), listText (bs.map fun b => (obD b).shown)]
    have q1 := listText_len_le (os.map shownE)
    have q2 := listText_len_le (bs.map fun b => (obD b).shown)
    have z1 := sum_le (n := 12) (B := 300000) (ts := os.map shownE) (fun t m => by
      obtain ⟨o, mo, rfl⟩ := List.mem_map.mp m
      exact shownE_le (oE o mo)) (by rw [List.length_map]; omega)
    have z2 := sum_le (n := 5) (B := 1400000) (ts := bs.map fun b => (obD b).shown) (fun t m => by
      obtain ⟨b, mb, rfl⟩ := List.mem_map.mp m
      have := (obD_nice (oB b mb)).shownLe
      omega) (by rw [List.length_map]; omega)
    simp only [List.map_cons, List.map_nil, List.sum_cons, List.sum_nil, List.length_cons, List.length_nil] at q
    rw [List.length_map] at q1 q2
    rw [sizeLine_eq]
    omega
  · have h2 : i = 0 ∨ i = 1 := by
      have := (List.getElem?_eq_some_iff.mp hy).1
      simp only [List.length_cons, List.length_nil] at this
      omega
    rcases h2 with rfl | rfl
    · cases hy
      refine ⟨_, rfl, fun rest => ru_list (n := 1) hE ((Clear.nil E).cons hTE) (by rw [List.length_map, List.length_map]; exact lo) fun j z hz => ?_⟩
      rw [List.getElem?_map] at hz
      cases he : es[j]? with
      | none =>
        rw [he] at hz
        cases hz
      | some e =>
        rw [he] at hz
        cases hz
        obtain ⟨o, ho, hV⟩ := paired_at hP he
        refine ⟨shownE o, by rw [List.getElem?_map, ho]; rfl, fun rest2 => ru_own (F _) r1 r2 r3 hV.ins fun H' s => ⟨e, o, rfl, hV.same s, oE o (List.mem_of_getElem? ho), ((GuL.nil.cons hT).cons hE).same s, rfl, Same.refl _⟩⟩
    · cases hy
      refine ⟨_, rfl, fun rest => ru_list (n := 1) hB ((Clear.nil B).cons hTB) (by rw [List.length_map]; exact lbs) fun j z hz => ?_⟩
      obtain ⟨b, hb, hV⟩ := paired_at hO hz
      have ob := obD_nice (oB b (List.mem_of_getElem? hb))
      exact ⟨_, by rw [List.getElem?_map, hb]; rfl, fun rest2 => ru_dp (fun H' s => (hV.same s).dp) ob.sh (noLst_ob b) (Nat.le_trans ob.dep (by decide)) ((GuL.nil.cons hT).cons hB)⟩
end
end SE
/-! A dict whose keys are None and tuples of texts together. -/
namespace SE
open PySem PySem.Spec PyProof.Rows L2 SeqAt
/-- a row: what the key is, the key as it stands, the value -/
abbrev Row := NestedKey × Value × Value
def rowE (w : World) (r : Row) : DictEntry := ⟨r.1.hash w, r.2.1, r.2.2⟩
def NoneRef (v : Value) : Prop := v = .none ∨ ∃ a, v = .ref a
/-- rows that may stand in a dict -/
structure RowsOk (h : Heap) (rows : List Row) : Prop where
  is : ∀ r ∈ rows, NestedIs h r.1 r.2.1
  dp : ∀ r ∈ rows, r.1.depth ≤ 8
  nr : ∀ r ∈ rows, NoneRef r.2.1
  nd : (rows.map (·.1)).Nodup
def idxR : List Row → NestedKey → Option Nat
  | [], _ => none
  | r :: rest, k => if r.1 = k then some 0 else (idxR rest k).map (· + 1)
theorem idxR_some : ∀ {rows : List Row} {k : NestedKey} {j : Nat}, idxR rows k = some j → ∃ p, rows[j]? = some (k, p)
  | [], _, _, h => by cases h
  | r :: rest, k, j, h => by
    unfold idxR at h
    split at h
    · rename_i e
      cases h
      exact ⟨r.2, by rw [← e]; rfl⟩
    · obtain ⟨i, hi, rfl⟩ := Option.map_eq_some_iff.mp h
      obtain ⟨p, q⟩ := idxR_some hi
      exact ⟨p, q⟩
theorem idxR_none : ∀ {rows : List Row} {k : NestedKey}, idxR rows k = none → ∀ (j : Nat) p, rows[j]? ≠ some (k, p)
  | [], _, _, j, p => by simp
  | r :: rest, k, h, j, p => by
    unfold idxR at h
    split at h
    · cases h
    · rename_i ne
      have h2 := Option.map_eq_none_iff.mp h
      cases j with
      | zero =>
        intro q
        have q2 : r = (k, p) := Option.some.inj q
        exact ne (by rw [q2])
      | succ j => exact idxR_none h2 j p
theorem idxR_of : ∀ {rows : List Row} {k : NestedKey} {j : Nat} {p : Value × Value}, (rows.map (·.1)).Nodup → rows[j]? = some (k, p) → idxR rows k = some j
  | [], _, j, _, _, h => by simp at h
  | r :: rest, k, 0, p, _, h => by
    have e : r = (k, p) := Option.some.inj h
    unfold idxR
    rw [if_pos (by rw [e])]
  | r :: rest, k, j + 1, p, nd, h => by
    have nd2 := (List.nodup_cons.mp nd)
    have h2 : rest[j]? = some (k, p) := h
    have ne : ¬ r.1 = k := fun e => nd2.1 (by
      show r.1 ∈ _
      rw [e]
      exact List.mem_map.mpr ⟨_, List.mem_of_getElem? h2, rfl⟩)
    unfold idxR
    rw [if_neg ne, idxR_of nd2.2 h2]
    rfl
section
variable {prog : Program} {w : World} {A : Around} {E : Value → Shared → Prop} {s : Shared} {d : Addr} {ob : Obj} {es : Array DictEntry} {ep : Nat} {rows : List Row} {k : NestedKey} {key : Value}
theorem row_at (he : es.toList = rows.map (rowE w)) (j : Nat) : es[j]? = (rows[j]?).map (rowE w) := by
  rw [← Array.getElem?_toList, he, List.getElem?_map]
theorem row_size (he : es.toList = rows.map (rowE w)) : es.size = rows.length := by
  rw [← Array.length_toList, he, List.length_map]
theorem tell_not {stored : List Value} {Q : Bool → Shared → Prop} (hk : NestedIs s.heap k key) (hd : k.depth ≤ 8) (hst : ∀ v ∈ stored, ∃ k', NestedIs s.heap k' v ∧ k'.depth ≤ 8) (h : Q false s) :
    wpAny (model prog w) A (tableMayTell key stored) Q E s := by
  unfold tableMayTell
  split
  · exact wpAny_pure h
  refine wpAny_bind (quiet_key k key 8 s hk hd A E _ ?_)
  rw [if_neg (show ¬ (!true) = true by decide)]
  refine wpAny_bind (wpAny_forIn_list _ (fun left out t => t = s ∧ out = (none, ()) ∧ ∀ v ∈ left, ∃ k', NestedIs s.heap k' v ∧ k'.depth ≤ 8) _ ?_ ?_ _ _ ⟨rfl, rfl, hst⟩)
  · rintro v left out t ⟨rfl, rfl, all⟩
    obtain ⟨k', q1, q2⟩ := all v List.mem_cons_self
    refine wpAny_bind (quiet_key k' v 8 t q1 q2 A E _ ?_)
    rw [if_neg (show ¬ (!true) = true by decide)]
    exact wpAny_pure ⟨rfl, rfl, fun u m => all u (List.mem_cons_of_mem _ m)⟩
  · rintro out t ⟨rfl, rfl, _⟩
    exact wpAny_pure h
/-- where a key stands -/
theorem find_row {Q : Option Nat → Shared → Prop} (room : A.units + 8 < cLine) (hk : NestedIs s.heap k key) (dk : k.depth ≤ 8) (nr : NoneRef key) (at_d : s.heap.get? d = some ob) (in_d : ob.data = .dict es ep) (he : es.toList = rows.map (rowE w)) (ok : RowsOk s.heap rows)
    (h : Q (idxR rows k) s) : wpAny (model prog w) A (dictFind d key (k.hash w)) Q E s := by
  have sz := row_size he
  have has : ∀ (j : Nat) (p : Value × Value), rows[j]? = some (k, p) → ((es[j]?.map (·.hash)) == some (k.hash w)) = true := fun j p hj => by
    rw [row_at he j, hj]
    simp [rowE]
  have mem : ∀ e ∈ es, ∃ r ∈ rows, e = rowE w r := fun e m => by
    have m2 : e ∈ rows.map (rowE w) := he ▸ Array.mem_toList_iff.mpr m
    obtain ⟨r, m3, q⟩ := List.mem_map.mp m2
    exact ⟨r, m3, q.symm⟩
  have held : ∀ v ∈ (placesWithHash es.size (fun i => es[i]?.map (·.hash)) (k.hash w)).filterMap (fun i => es[i]?.map (·.key)), ∃ k', NestedIs s.heap k' v ∧ k'.depth ≤ 8 := fun v m => by
    obtain ⟨i, _, q⟩ := List.mem_filterMap.mp m
    obtain ⟨e, e1, e2⟩ := Option.map_eq_some_iff.mp q
    obtain ⟨r, m3, rfl⟩ := mem e (Array.mem_of_getElem? e1)
    exact ⟨r.1, by rw [← e2]; exact ok.is r m3, ok.dp r m3⟩
  -- what is known of the places before i
  have low : ∀ {i x : Nat} {rest : List Nat}, x :: rest = (List.range' i (es.size - i)).filter (fun i => (es[i]?.map (·.hash)) == some (k.hash w)) → i ≤ x := fun hr => (filter_range'_cons _ _ _ _ _ hr.symm).1
  have next : ∀ {i x : Nat} {rest : List Nat}, x :: rest = (List.range' i (es.size - i)).filter (fun i => (es[i]?.map (·.hash)) == some (k.hash w)) → i ≤ es.size →
      x < es.size ∧ rest = (List.range' (x + 1) (es.size - (x + 1))).filter (fun i => (es[i]?.map (·.hash)) == some (k.hash w)) ∧ ((∀ j p, j < i → rows[j]? ≠ some (k, p)) → ∀ j p, j < x → rows[j]? ≠ some (k, p)) := fun {i x rest} hr hi => by
    obtain ⟨a1, a2, a3, a4, a5⟩ := filter_range'_cons _ _ _ _ _ hr.symm
    refine ⟨by omega, by rw [a5]; congr 2; omega, fun hn j p hj q => ?_⟩
    rcases Nat.lt_or_ge j i with c | c
    · exact hn j p c q
    · have z := a4 j c hj
      rw [has j p q] at z
      cases z
  have done : ∀ {i : Nat}, ([] : List Nat) = (List.range' i (es.size - i)).filter (fun i => (es[i]?.map (·.hash)) == some (k.hash w)) → i ≤ es.size → (∀ j p, j < i → rows[j]? ≠ some (k, p)) → idxR rows k = none := fun {i} hr hi hn => by
    cases q : idxR rows k with
    | none => rfl
    | some j =>
      obtain ⟨p, hj⟩ := idxR_some q
      rcases Nat.lt_or_ge j i with c | c
      · exact absurd hj (hn j p c)
      · have jl : j < es.size := by
          rw [sz]
          exact (List.getElem?_eq_some_iff.mp hj).1
        have z := List.filter_eq_nil_iff.mp hr.symm j (List.mem_range'_1.mpr ⟨c, by omega⟩)
        exact absurd (has j p hj) z
  have eqv : ∀ {r : Row} {Q2 : Bool → Shared → Prop}, r ∈ rows → Q2 (decide (r.1 = k)) s → wpAny (model prog w) A (eqBool r.2.1 key) Q2 E s := fun {r Q2} m q => by
    refine eqAt_key r.1 k A s _ _ (ok.is r m) hk (by have := Nat.min_le_right r.1.depth k.depth; omega) _ _ _ _ ?_
    rw [← NestedKey.decide_eq]
    exact q
  unfold dictFind
  refine wpAny_holding (wpAny_bind (wpAny_dictEntries at_d in_d ?_))
  rcases nr with rfl | ⟨a, rfl⟩
  · dsimp only
    generalize hst : (placesWithHash es.size (fun i => es[i]?.map (·.hash)) (k.hash w)).filterMap (fun i => es[i]?.map (·.key)) = stored at held ⊢
    by_cases all : ((Value.none :: stored).all carriedByValue) = true
    · rw [if_pos all]
      refine wpAny_bind ?_
      refine wpAny_forIn_list _ (fun rest out t => t = s ∧ out = (none, ()) ∧ ∃ i, rest = (List.range' i (es.size - i)).filter (fun i => (es[i]?.map (·.hash)) == some (k.hash w)) ∧ i ≤ es.size ∧ ∀ j p, j < i → rows[j]? ≠ some (k, p)) _ ?_ ?_ _ _
        ⟨rfl, rfl, 0, by rw [placesWithHash, List.range_eq_range', Nat.sub_zero], Nat.zero_le _, fun _ _ z => absurd z (Nat.not_lt_zero _)⟩
      · rintro x rest out t ⟨rfl, rfl, i, hr, hi, hn⟩
        obtain ⟨lt, tl, sk⟩ := next hr hi
        obtain ⟨r, hrow⟩ : ∃ r, rows[x]? = some r := ⟨rows[x]'(by rw [← sz]; exact lt), List.getElem?_eq_getElem _⟩
        have mr := List.mem_of_getElem? hrow
        have ex : es[x]? = some (rowE w r) := by rw [row_at he x, hrow]; rfl
        have before := sk hn
        have stay : ¬ r.1 = k → ∀ j p, j < x + 1 → rows[j]? ≠ some (k, p) := fun ne j p hj q => by
          rcases Nat.lt_or_ge j x with c | c
          · exact before j p c q
          · have e : j = x := by omega
            rw [e, hrow] at q
            have e2 : r = (k, p) := Option.some.inj q
            exact ne (by rw [e2])
        rw [ex]
        dsimp only
        by_cases same : ((rowE w r).hash == k.hash w) = true
        · rw [if_pos same]
          refine wpAny_bind (wpAny_dictEpoch at_d in_d (wpAny_bind (eqv mr (wpAny_bind (wpAny_dictEpoch at_d in_d ?_)))))
          rw [if_neg (by simp)]
          by_cases eq : r.1 = k
          · rw [decide_eq_true eq, if_pos rfl]
            have hk2 : rows[x]? = some (k, r.2) := by rw [hrow, ← eq]
            rw [idxR_of ok.nd hk2] at h
            exact wpAny_bind (wpAny_rule (wpAny_pure (wpAny_pure h)))
          · rw [decide_eq_false eq, if_neg (by simp)]
            exact wpAny_bind (wpAny_rule (wpAny_pure ⟨rfl, rfl, x + 1, tl, lt, stay eq⟩))
        · rw [if_neg same]
          refine wpAny_pure ⟨rfl, rfl, x + 1, tl, lt, stay fun eq => same ?_⟩
          show (r.1.hash w == k.hash w) = true
          rw [eq]
          simp
      · rintro out t ⟨rfl, rfl, i, hr, hi, hn⟩
        rw [done hr hi hn] at h
        exact wpAny_pure h
    · rw [if_neg all]
      by_cases one : (stored == [Value.none]) = true
      · rw [if_pos one]
        refine wpAny_bind (wpAny_pure ?_)
        rw [if_neg (by simp)]
        refine wpAny_bind (wpAny_forIn_list _ (fun rest out t => t = s ∧ ∃ i hit, out = (none, hit) ∧ rest = (List.range' i (es.size - i)).filter (fun i => (es[i]?.map (·.hash)) == some (k.hash w)) ∧ i ≤ es.size ∧
          ((hit = none ∧ ∀ j p, j < i → rows[j]? ≠ some (k, p)) ∨ ∃ j p, hit = some j ∧ j < i ∧ rows[j]? = some (k, p))) _ ?_ ?_ _ _ ⟨rfl, 0, none, rfl, by rw [placesWithHash, List.range_eq_range', Nat.sub_zero], Nat.zero_le _, .inl ⟨rfl, fun _ _ z => absurd z (Nat.not_lt_zero _)⟩⟩)
        · rintro x rest out t ⟨rfl, i, hit, rfl, hr, hi, hh⟩
          obtain ⟨lt, tl, sk⟩ := next hr hi
          obtain ⟨r, hrow⟩ : ∃ r, rows[x]? = some r := ⟨rows[x]'(by rw [← sz]; exact lt), List.getElem?_eq_getElem _⟩
          have mr := List.mem_of_getElem? hrow
          have ex : es[x]? = some (rowE w r) := by rw [row_at he x, hrow]; rfl
          have before : (hit = none ∧ ∀ j p, j < x → rows[j]? ≠ some (k, p)) ∨ ∃ j p, hit = some j ∧ j < x ∧ rows[j]? = some (k, p) := by
            rcases hh with ⟨h0, hn⟩ | ⟨j, p, h1, h2, h3⟩
            · exact .inl ⟨h0, sk hn⟩
            · refine .inr ⟨j, p, h1, ?_, h3⟩
              have := low hr
              omega
          have stay : ¬ r.1 = k → (hit = none ∧ ∀ j p, j < x + 1 → rows[j]? ≠ some (k, p)) ∨ ∃ j p, hit = some j ∧ j < x + 1 ∧ rows[j]? = some (k, p) := fun ne => by
            rcases before with ⟨h0, hn⟩ | ⟨j, p, h1, h2, h3⟩
            · refine .inl ⟨h0, fun j p hj q => ?_⟩
              rcases Nat.lt_or_ge j x with c | c
              · exact hn j p c q
              · have e : j = x := by omega
                rw [e, hrow] at q
                have e2 : r = (k, p) := Option.some.inj q
                exact ne (by rw [e2])
            · exact .inr ⟨j, p, h1, by omega, h3⟩
          rw [ex]
          dsimp only
          by_cases same : ((rowE w r).hash == k.hash w) = true
          · rw [if_pos same]
            refine wpAny_bind (wpAny_dictEpoch at_d in_d (wpAny_bind (eqv mr (wpAny_bind (wpAny_dictEpoch at_d in_d ?_)))))
            rw [if_neg (by simp)]
            by_cases eq : r.1 = k
            · rw [decide_eq_true eq, if_pos rfl]
              have hk2 : rows[x]? = some (k, r.2) := by rw [hrow, ← eq]
              rcases before with ⟨rfl, _⟩ | ⟨j, p, _, h2, h3⟩
              · rw [if_neg (by simp)]
                refine wpAny_bind (wpAny_rule ?_)
                split
                · refine wpAny_pure (wpAny_pure ?_)
                  rw [idxR_of ok.nd hk2] at h
                  exact h
                · exact wpAny_pure ⟨rfl, x + 1, some x, rfl, tl, lt, .inr ⟨x, _, rfl, Nat.lt_succ_self x, hk2⟩⟩
              · have z1 := idxR_of ok.nd h3
                rw [idxR_of ok.nd hk2] at z1
                have z2 := Option.some.inj z1
                omega
            · rw [decide_eq_false eq, if_neg (by simp)]
              refine wpAny_bind (wpAny_rule ?_)
              rw [if_neg (by simp)]
              exact wpAny_pure ⟨rfl, x + 1, hit, rfl, tl, lt, stay eq⟩
          · rw [if_neg same]
            refine wpAny_pure ⟨rfl, x + 1, hit, rfl, tl, lt, stay fun eq => same ?_⟩
            show (r.1.hash w == k.hash w) = true
            rw [eq]
            simp
        · rintro out t ⟨rfl, i, hit, rfl, hr, hi, hh⟩
          rcases hh with ⟨rfl, hn⟩ | ⟨j, p, rfl, _, h3⟩
          · rw [done hr hi hn] at h
            exact wpAny_pure h
          · rw [idxR_of ok.nd h3] at h
            exact wpAny_pure h
      · rw [if_neg one]
        refine wpAny_bind (tell_not hk dk held ?_)
        rw [if_neg (by simp)]
        refine wpAny_bind (wpAny_forIn_list _ (fun rest out t => t = s ∧ ∃ i hit, out = (none, hit) ∧ rest = (List.range' i (es.size - i)).filter (fun i => (es[i]?.map (·.hash)) == some (k.hash w)) ∧ i ≤ es.size ∧
          ((hit = none ∧ ∀ j p, j < i → rows[j]? ≠ some (k, p)) ∨ ∃ j p, hit = some j ∧ j < i ∧ rows[j]? = some (k, p))) _ ?_ ?_ _ _ ⟨rfl, 0, none, rfl, by rw [placesWithHash, List.range_eq_range', Nat.sub_zero], Nat.zero_le _, .inl ⟨rfl, fun _ _ z => absurd z (Nat.not_lt_zero _)⟩⟩)
        · rintro x rest out t ⟨rfl, i, hit, rfl, hr, hi, hh⟩
          obtain ⟨lt, tl, sk⟩ := next hr hi
          obtain ⟨r, hrow⟩ : ∃ r, rows[x]? = some r := ⟨rows[x]'(by rw [← sz]; exact lt), List.getElem?_eq_getElem _⟩
          have mr := List.mem_of_getElem? hrow
          have ex : es[x]? = some (rowE w r) := by rw [row_at he x, hrow]; rfl
          have before : (hit = none ∧ ∀ j p, j < x → rows[j]? ≠ some (k, p)) ∨ ∃ j p, hit = some j ∧ j < x ∧ rows[j]? = some (k, p) := by
            rcases hh with ⟨h0, hn⟩ | ⟨j, p, h1, h2, h3⟩
            · exact .inl ⟨h0, sk hn⟩
            · refine .inr ⟨j, p, h1, ?_, h3⟩
              have := low hr
              omega
          have stay : ¬ r.1 = k → (hit = none ∧ ∀ j p, j < x + 1 → rows[j]? ≠ some (k, p)) ∨ ∃ j p, hit = some j ∧ j < x + 1 ∧ rows[j]? = some (k, p) := fun ne => by
            rcases before with ⟨h0, hn⟩ | ⟨j, p, h1, h2, h3⟩
            · refine .inl ⟨h0, fun j p hj q => ?_⟩
              rcases Nat.lt_or_ge j x with c | c
              · exact hn j p c q
              · have e : j = x := by omega
                rw [e, hrow] at q
                have e2 : r = (k, p) := Option.some.inj q
                exact ne (by rw [e2])
            · exact .inr ⟨j, p, h1, by omega, h3⟩
          rw [ex]
          dsimp only
          by_cases same : ((rowE w r).hash == k.hash w) = true
          · rw [if_pos same]
            refine wpAny_bind (wpAny_dictEpoch at_d in_d (wpAny_bind (eqv mr (wpAny_bind (wpAny_dictEpoch at_d in_d ?_)))))
            rw [if_neg (by simp)]
            by_cases eq : r.1 = k
            · rw [decide_eq_true eq, if_pos rfl]
              have hk2 : rows[x]? = some (k, r.2) := by rw [hrow, ← eq]
              rcases before with ⟨rfl, _⟩ | ⟨j, p, _, h2, h3⟩
              · rw [if_neg (by simp)]
                refine wpAny_bind (wpAny_rule ?_)
                split
                · refine wpAny_pure (wpAny_pure ?_)
                  rw [idxR_of ok.nd hk2] at h
                  exact h
                · exact wpAny_pure ⟨rfl, x + 1, some x, rfl, tl, lt, .inr ⟨x, _, rfl, Nat.lt_succ_self x, hk2⟩⟩
              · have z1 := idxR_of ok.nd h3
                rw [idxR_of ok.nd hk2] at z1
                have z2 := Option.some.inj z1
                omega
            · rw [decide_eq_false eq, if_neg (by simp)]
              refine wpAny_bind (wpAny_rule ?_)
              rw [if_neg (by simp)]
              exact wpAny_pure ⟨rfl, x + 1, hit, rfl, tl, lt, stay eq⟩
          · rw [if_neg same]
            refine wpAny_pure ⟨rfl, x + 1, hit, rfl, tl, lt, stay fun eq => same ?_⟩
            show (r.1.hash w == k.hash w) = true
            rw [eq]
            simp
        · rintro out t ⟨rfl, i, hit, rfl, hr, hi, hh⟩
          rcases hh with ⟨rfl, hn⟩ | ⟨j, p, rfl, _, h3⟩
          · rw [done hr hi hn] at h
            exact wpAny_pure h
          · rw [idxR_of ok.nd h3] at h
            exact wpAny_pure h
  · dsimp only
    generalize hst : (placesWithHash es.size (fun i => es[i]?.map (·.hash)) (k.hash w)).filterMap (fun i => es[i]?.map (·.key)) = stored at held ⊢
    rw [if_neg (show ¬ ((Value.ref a :: stored).all carriedByValue) = true by simp [carriedByValue])]
    have kept : ¬ (es.any fun e => e.key == Value.ref a && e.hash != k.hash w) = true := by
      rw [← Array.any_toList, List.any_eq_true]
      rintro ⟨e, m, c⟩
      obtain ⟨r, m2, rfl⟩ := mem e (Array.mem_toList_iff.mp m)
      simp only [rowE, Bool.and_eq_true, beq_iff_eq, bne_iff_ne, ne_eq] at c
      have q := ok.is r m2
      rw [c.1] at q
      exact c.2 (by rw [NestedIs.inj _ _ _ q hk])
    rw [if_neg kept]
    by_cases one : (stored == [Value.ref a]) = true
    · rw [if_pos one]
      refine wpAny_bind (wpAny_pure ?_)
      rw [if_neg (by simp)]
      refine wpAny_bind (wpAny_forIn_list _ (fun rest out t => t = s ∧ ∃ i hit, out = (none, hit) ∧ rest = (List.range' i (es.size - i)).filter (fun i => (es[i]?.map (·.hash)) == some (k.hash w)) ∧ i ≤ es.size ∧
        ((hit = none ∧ ∀ j p, j < i → rows[j]? ≠ some (k, p)) ∨ ∃ j p, hit = some j ∧ j < i ∧ rows[j]? = some (k, p))) _ ?_ ?_ _ _ ⟨rfl, 0, none, rfl, by rw [placesWithHash, List.range_eq_range', Nat.sub_zero], Nat.zero_le _, .inl ⟨rfl, fun _ _ z => absurd z (Nat.not_lt_zero _)⟩⟩)
      · rintro x rest out t ⟨rfl, i, hit, rfl, hr, hi, hh⟩
        obtain ⟨lt, tl, sk⟩ := next hr hi
        obtain ⟨r, hrow⟩ : ∃ r, rows[x]? = some r := ⟨rows[x]'(by rw [← sz]; exact lt), List.getElem?_eq_getElem _⟩
        have mr := List.mem_of_getElem? hrow
        have ex : es[x]? = some (rowE w r) := by rw [row_at he x, hrow]; rfl
        have before : (hit = none ∧ ∀ j p, j < x → rows[j]? ≠ some (k, p)) ∨ ∃ j p, hit = some j ∧ j < x ∧ rows[j]? = some (k, p) := by
          rcases hh with ⟨h0, hn⟩ | ⟨j, p, h1, h2, h3⟩
          · exact .inl ⟨h0, sk hn⟩
          · refine .inr ⟨j, p, h1, ?_, h3⟩
            have := low hr
            omega
        have stay : ¬ r.1 = k → (hit = none ∧ ∀ j p, j < x + 1 → rows[j]? ≠ some (k, p)) ∨ ∃ j p, hit = some j ∧ j < x + 1 ∧ rows[j]? = some (k, p) := fun ne => by
          rcases before with ⟨h0, hn⟩ | ⟨j, p, h1, h2, h3⟩
          · refine .inl ⟨h0, fun j p hj q => ?_⟩
            rcases Nat.lt_or_ge j x with c | c
            · exact hn j p c q
            · have e : j = x := by omega
              rw [e, hrow] at q
              have e2 : r = (k, p) := Option.some.inj q
              exact ne (by rw [e2])
          · exact .inr ⟨j, p, h1, by omega, h3⟩
        rw [ex]
        dsimp only
        by_cases same : ((rowE w r).hash == k.hash w) = true
        · rw [if_pos same]
          refine wpAny_bind (wpAny_dictEpoch at_d in_d (wpAny_bind (eqv mr (wpAny_bind (wpAny_dictEpoch at_d in_d ?_)))))
          rw [if_neg (by simp)]
          by_cases eq : r.1 = k
          · rw [decide_eq_true eq, if_pos rfl]
            have hk2 : rows[x]? = some (k, r.2) := by rw [hrow, ← eq]
            rcases before with ⟨rfl, _⟩ | ⟨j, p, _, h2, h3⟩
            · rw [if_neg (by simp)]
              refine wpAny_bind (wpAny_rule ?_)
              split
              · refine wpAny_pure (wpAny_pure ?_)
                rw [idxR_of ok.nd hk2] at h
                exact h
              · exact wpAny_pure ⟨rfl, x + 1, some x, rfl, tl, lt, .inr ⟨x, _, rfl, Nat.lt_succ_self x, hk2⟩⟩
            · have z1 := idxR_of ok.nd h3
              rw [idxR_of ok.nd hk2] at z1
              have z2 := Option.some.inj z1
              omega
          · rw [decide_eq_false eq, if_neg (by simp)]
            refine wpAny_bind (wpAny_rule ?_)
            rw [if_neg (by simp)]
            exact wpAny_pure ⟨rfl, x + 1, hit, rfl, tl, lt, stay eq⟩
        · rw [if_neg same]
          refine wpAny_pure ⟨rfl, x + 1, hit, rfl, tl, lt, stay fun eq => same ?_⟩
          show (r.1.hash w == k.hash w) = true
          rw [eq]
          simp
      · rintro out t ⟨rfl, i, hit, rfl, hr, hi, hh⟩
        rcases hh with ⟨rfl, hn⟩ | ⟨j, p, rfl, _, h3⟩
        · rw [done hr hi hn] at h
          exact wpAny_pure h
        · rw [idxR_of ok.nd h3] at h
          exact wpAny_pure h
    · rw [if_neg one]
      refine wpAny_bind (tell_not hk dk held ?_)
      rw [if_neg (by simp)]
      refine wpAny_bind (wpAny_forIn_list _ (fun rest out t => t = s ∧ ∃ i hit, out = (none, hit) ∧ rest = (List.range' i (es.size - i)).filter (fun i => (es[i]?.map (·.hash)) == some (k.hash w)) ∧ i ≤ es.size ∧
        ((hit = none ∧ ∀ j p, j < i → rows[j]? ≠ some (k, p)) ∨ ∃ j p, hit = some j ∧ j < i ∧ rows[j]? = some (k, p))) _ ?_ ?_ _ _ ⟨rfl, 0, none, rfl, by rw [placesWithHash, List.range_eq_range', Nat.sub_zero], Nat.zero_le _, .inl ⟨rfl, fun _ _ z => absurd z (Nat.not_lt_zero _)⟩⟩)
      · rintro x rest out t ⟨rfl, i, hit, rfl, hr, hi, hh⟩
        obtain ⟨lt, tl, sk⟩ := next hr hi
        obtain ⟨r, hrow⟩ : ∃ r, rows[x]? = some r := ⟨rows[x]'(by rw [← sz]; exact lt), List.getElem?_eq_getElem _⟩
        have mr := List.mem_of_getElem? hrow
        have ex : es[x]? = some (rowE w r) := by rw [row_at he x, hrow]; rfl
        have before : (hit = none ∧ ∀ j p, j < x → rows[j]? ≠ some (k, p)) ∨ ∃ j p, hit = some j ∧ j < x ∧ rows[j]? = some (k, p) := by
          rcases hh with ⟨h0, hn⟩ | ⟨j, p, h1, h2, h3⟩
          · exact .inl ⟨h0, sk hn⟩
          · refine .inr ⟨j, p, h1, ?_, h3⟩
            have := low hr
            omega
        have stay : ¬ r.1 = k → (hit = none ∧ ∀ j p, j < x + 1 → rows[j]? ≠ some (k, p)) ∨ ∃ j p, hit = some j ∧ j < x + 1 ∧ rows[j]? = some (k, p) := fun ne => by
          rcases before with ⟨h0, hn⟩ | ⟨j, p, h1, h2, h3⟩
          · refine .inl ⟨h0, fun j p hj q => ?_⟩
            rcases Nat.lt_or_ge j x with c | c
            · exact hn j p c q
            · have e : j = x := by omega
              rw [e, hrow] at q
              have e2 : r = (k, p) := Option.some.inj q
              exact ne (by rw [e2])
          · exact .inr ⟨j, p, h1, by omega, h3⟩
        rw [ex]
        dsimp only
        by_cases same : ((rowE w r).hash == k.hash w) = true
        · rw [if_pos same]
          refine wpAny_bind (wpAny_dictEpoch at_d in_d (wpAny_bind (eqv mr (wpAny_bind (wpAny_dictEpoch at_d in_d ?_)))))
          rw [if_neg (by simp)]
          by_cases eq : r.1 = k
          · rw [decide_eq_true eq, if_pos rfl]
            have hk2 : rows[x]? = some (k, r.2) := by rw [hrow, ← eq]
            rcases before with ⟨rfl, _⟩ | ⟨j, p, _, h2, h3⟩
            · rw [if_neg (by simp)]
              refine wpAny_bind (wpAny_rule ?_)
              split
              · refine wpAny_pure (wpAny_pure ?_)
                rw [idxR_of ok.nd hk2] at h
                exact h
              · exact wpAny_pure ⟨rfl, x + 1, some x, rfl, tl, lt, .inr ⟨x, _, rfl, Nat.lt_succ_self x, hk2⟩⟩
            · have z1 := idxR_of ok.nd h3
              rw [idxR_of ok.nd hk2] at z1
              have z2 := Option.some.inj z1
              omega
          · rw [decide_eq_false eq, if_neg (by simp)]
            refine wpAny_bind (wpAny_rule ?_)
            rw [if_neg (by simp)]
            exact wpAny_pure ⟨rfl, x + 1, hit, rfl, tl, lt, stay eq⟩
        · rw [if_neg same]
          refine wpAny_pure ⟨rfl, x + 1, hit, rfl, tl, lt, stay fun eq => same ?_⟩
          show (r.1.hash w == k.hash w) = true
          rw [eq]
          simp
      · rintro out t ⟨rfl, i, hit, rfl, hr, hi, hh⟩
        rcases hh with ⟨rfl, hn⟩ | ⟨j, p, rfl, _, h3⟩
        · rw [done hr hi hn] at h
          exact wpAny_pure h
        · rw [idxR_of ok.nd h3] at h
          exact wpAny_pure h
end
end SE
/-! A dict whose keys are None and tuples of texts together: d[k], d[k] = v, d.get, d.setdefault, in. -/
namespace SE
open PySem PySem.Spec PyProof.Rows L2 SeqAt
/-! ### rows as they change -/
def putR (k : NestedKey) (key v : Value) : List Row → List Row
  | [] => [(k, key, v)]
  | r :: rest => if r.1 = k then (r.1, r.2.1, v) :: rest else r :: putR k key v rest
def valR (k : NestedKey) : List Row → Option Value
  | [] => none
  | r :: rest => if r.1 = k then some r.2.2 else valR k rest
theorem valR_none : ∀ {rows : List Row} {k : NestedKey}, idxR rows k = none → valR k rows = none
  | [], _, _ => rfl
  | r :: rest, k, h => by
    unfold idxR at h
    split at h
    · cases h
    · rename_i ne
      unfold valR
      rw [if_neg ne]
      exact valR_none (Option.map_eq_none_iff.mp h)
theorem valR_some : ∀ {rows : List Row} {k : NestedKey} {j : Nat}, idxR rows k = some j → valR k rows = (rows[j]?).map (·.2.2)
  | [], _, _, h => by cases h
  | r :: rest, k, j, h => by
    unfold idxR at h
    unfold valR
    split at h
    · rename_i e
      cases h
      rw [if_pos e]
      rfl
    · rename_i ne
      obtain ⟨i, hi, rfl⟩ := Option.map_eq_some_iff.mp h
      rw [if_neg ne, valR_some hi]
      rfl
theorem putR_none : ∀ {rows : List Row} {k : NestedKey} {key v : Value}, idxR rows k = none → putR k key v rows = rows ++ [(k, key, v)]
  | [], _, _, _, _ => rfl
  | r :: rest, k, key, v, h => by
    unfold idxR at h
    unfold putR
    split at h
    · cases h
    · rename_i ne
      rw [if_neg ne, putR_none (Option.map_eq_none_iff.mp h)]
      rfl
theorem putR_some (w : World) : ∀ {rows : List Row} {k : NestedKey} {key v : Value} {j : Nat}, idxR rows k = some j → (putR k key v rows).map (rowE w) = (rows.map (rowE w)).modify j fun e => { e with val := v }
  | [], _, _, _, _, h => by cases h
  | r :: rest, k, key, v, j, h => by
    unfold idxR at h
    unfold putR
    split at h
    · rename_i e
      cases h
      rw [if_pos e]
      rfl
    · rename_i ne
      obtain ⟨i, hi, rfl⟩ := Option.map_eq_some_iff.mp h
      rw [if_neg ne, List.map_cons, List.map_cons, putR_some w hi]
      rfl
theorem putR_length (k : NestedKey) (key v : Value) : ∀ rows : List Row, (putR k key v rows).length ≤ rows.length + 1
  | [] => Nat.le_refl _
  | r :: rest => by
    unfold putR
    split
    · simp
    · have := putR_length k key v rest
      simp only [List.length_cons]
      omega
/-- at d stands a dict of these rows -/
def RowsAt (w : World) (h : Heap) (d : Addr) (rows : List Row) : Prop :=
  (d == sysModules) = false ∧ rows.length ≤ sizeLine ∧ ∃ o es ep, h.get? d = some o ∧ o.ExactDict ∧ o.data = .dict es ep ∧ es.toList = rows.map (rowE w)
/-- the key -/
structure KeyOk (h : Heap) (k : NestedKey) (key : Value) : Prop where
  is : NestedIs h k key
  dp : k.depth ≤ 8
  nr : NoneRef key
section
variable {prog : Program} {w : World} {A : Around} {E : Value → Shared → Prop} {s : Shared} {d : Addr} {rows : List Row} {k : NestedKey} {key v dflt : Value}
theorem RowsAt.typeIs (m : RowsAt w s.heap d rows) : s.TypeIs (.ref d) "dict" := by
  obtain ⟨_, _, o, es, ep, ho, hc, _⟩ := m
  exact ⟨o, ho, hc.1⟩
theorem rows_get {Q : Option Value → Shared → Prop} (room : A.units + 8 < cLine) (hk : KeyOk s.heap k key) (m : RowsAt w s.heap d rows) (ok : RowsOk s.heap rows) (h : Q (valR k rows) { s with toks := s.toks + k.draws }) :
    wpAny (model prog w) A (dictGet d key) Q E s := by
  obtain ⟨hd, hz, o, es, ep, ho, hc, hdat, he⟩ := m
  unfold dictGet
  refine wpAny_holding (wpAny_bind (pyHash_key k key A s _ hk.is (by have := hk.dp; omega) (wpAny_bind ?_)))
  refine find_row (s := { s with toks := s.toks + k.draws }) room hk.is hk.dp hk.nr ho hdat he ok ?_
  cases q : idxR rows k with
  | none =>
    rw [valR_none q] at h
    exact wpAny_pure h
  | some j =>
    rw [valR_some q] at h
    refine wpAny_bind (wpAny_dictEntries (s := { s with toks := s.toks + k.draws }) ho hdat (wpAny_pure ?_))
    rw [row_at he j, Option.map_map]
    exact h
theorem rows_write {o : Obj} {es : Array DictEntry} {ep : Nat} {j : Nat} (hd : (d == sysModules) = false) (hz : rows.length ≤ sizeLine) (ho : s.heap.get? d = some o) (hc : o.ExactDict) (hdat : o.data = .dict es ep) (he : es.toList = rows.map (rowE w)) (q : idxR rows k = some j) :
    RowsAt w (s.heap.update d (Obj.mapDict fun es => es.modify j fun e => { e with val := v })) d (putR k key v rows) := by
  refine ⟨hd, ?_, _, _, ep, Heap.get?_update_self _ ho (Obj.isFreed_of_dict (Obj.data_mapDict hdat _)), hc.mapDict _, Obj.data_mapDict hdat _, ?_⟩
  · have e := congrArg List.length (putR_some w (key := key) (v := v) q)
    rw [List.length_map, List.length_modify, List.length_map] at e
    omega
  · rw [putR_some w q, ← he]
    obtain ⟨l⟩ := es
    simp
theorem rows_push {o : Obj} {es : Array DictEntry} {ep : Nat} (hd : (d == sysModules) = false) (hz : rows.length < sizeLine) (ho : s.heap.get? d = some o) (hc : o.ExactDict) (hdat : o.data = .dict es ep) (he : es.toList = rows.map (rowE w)) (q : idxR rows k = none) :
    RowsAt w (s.heap.update d (Obj.mapDictKeys fun es => es.push ⟨k.hash w, key, v⟩)) d (putR k key v rows) := by
  refine ⟨hd, Nat.le_trans (putR_length k key v rows) hz, _, _, ep + 1, Heap.get?_update_self _ ho (Obj.isFreed_of_dict (Obj.data_mapDictKeys hdat _)), hc.mapDictKeys _, Obj.data_mapDictKeys hdat _, ?_⟩
  rw [putR_none q]
  simp [he, rowE]
theorem rows_set {Q : Unit → Shared → Prop} (room : A.units + 8 < cLine) (hk : KeyOk s.heap k key) (m : RowsAt w s.heap d rows) (ok : RowsOk s.heap rows) (hz : rows.length < sizeLine)
    (h : ∀ h', RowsAt w h' d (putR k key v rows) → Heap.SameBut d s.heap h' → Q () { s with heap := h', toks := s.toks + k.draws }) : wpAny (model prog w) A (dictSet d key v) Q E s := by
  obtain ⟨hd, _, o, es, ep, ho, hc, hdat, he⟩ := m
  unfold dictSet
  refine wpAny_holding (wpAny_bind (pyHash_key k key A s _ hk.is (by have := hk.dp; omega) ?_))
  unfold dictSetHashed
  refine wpAny_holding (wpAny_bind ?_)
  refine find_row (s := { s with toks := s.toks + k.draws }) room hk.is hk.dp hk.nr ho hdat he ok ?_
  cases q : idxR rows k with
  | none =>
    exact wpAny_bind (wpAny_rule (wpAny_updateDictKeys (hz := by have e := row_size he; omega) (s := { s with toks := s.toks + k.draws }) ho hdat (h _ (rows_push hd hz ho hc hdat he q) (Heap.SameBut.update ..))))
  | some j =>
    exact wpAny_bind (wpAny_rule (wpAny_bind (wpAny_updateDict (s := { s with toks := s.toks + k.draws }) ho hdat (wpAny_point (h _ (rows_write hd (Nat.le_of_lt hz) ho hc hdat he q) (Heap.SameBut.update ..))))))
theorem rows_setdefault {Q : Value → Shared → Prop} (room : A.units + 8 < cLine) (hk : KeyOk s.heap k key) (m : RowsAt w s.heap d rows) (ok : RowsOk s.heap rows) (hz : rows.length < sizeLine)
    (h1 : ∀ x, valR k rows = some x → Q x { s with toks := s.toks + k.draws })
    (h2 : valR k rows = none → ∀ h', RowsAt w h' d (putR k key dflt rows) → Heap.SameBut d s.heap h' → Q dflt { s with heap := h', toks := s.toks + k.draws }) : wpAny (model prog w) A (dictSetDefault d key dflt) Q E s := by
  obtain ⟨hd, _, o, es, ep, ho, hc, hdat, he⟩ := m
  unfold dictSetDefault
  refine wpAny_holding (wpAny_bind (pyHash_key k key A s _ hk.is (by have := hk.dp; omega) (wpAny_bind ?_)))
  refine find_row (s := { s with toks := s.toks + k.draws }) room hk.is hk.dp hk.nr ho hdat he ok ?_
  cases q : idxR rows k with
  | none =>
    exact wpAny_bind (wpAny_rule (wpAny_bind (wpAny_updateDictKeys (hz := by have e := row_size he; omega) (s := { s with toks := s.toks + k.draws }) ho hdat (wpAny_pure (h2 (valR_none q) _ (rows_push hd hz ho hc hdat he q) (Heap.SameBut.update ..))))))
  | some j =>
    refine wpAny_bind (wpAny_dictEntries (s := { s with toks := s.toks + k.draws }) ho hdat ?_)
    obtain ⟨p, hj⟩ := idxR_some q
    rw [row_at he j, hj]
    refine wpAny_bind (wpAny_rule (wpAny_pure (h1 _ ?_)))
    rw [valR_some q, hj]
    rfl
/-! ### the operations -/
theorem rows_in {Q : Value → Shared → Prop} (room : A.units + 9 < cLine) (hk : KeyOk s.heap k key) (m : RowsAt w s.heap d rows) (ok : RowsOk s.heap rows) (h : Q (.bool (valR k rows).isSome) { s with toks := s.toks + k.draws }) :
    wpAny (model prog w) A (compareOp .In key (.ref d)) Q E s := by
  have room1 : A.in1.units + 8 < cLine := by rw [Around.in1_units]; omega
  show wpAny _ _ (do return .bool (← contains (.ref d) key)) Q E s
  refine wpAny_bind ?_
  unfold contains
  refine wpAny_holding (wpAny_bind (wpAny_specialOf m.typeIs slot_dict_contains.lookup ?_))
  show wpAny _ _ (if (some (Value.builtin "dict.__contains__") == some Value.none) = true then _ else _) _ E s
  rw [if_neg (by rw [beq_builtin_none]; exact Bool.false_ne_true)]
  refine wpAny_bind (wpAny_callSpecialUnlessNone?_slot (name := Str.ofString "__contains__") m.typeIs slot_dict_contains (wpAny_call_entry slot_dict_contains m.typeIs entry_dict_contains ?_ (args_dict_contains _ _)))
  show wpAny _ _ (dictGet d key >>= _) _ _ s
  refine wpAny_bind (rows_get room1 hk m ok ?_)
  cases hf : valR k rows with
  | some p =>
    rw [hf] at h
    show wpAny _ _ (ret (.bool true)) _ _ _
    exact wpAny_pure ⟨_, rfl, wpAny_truthy_bool (wpAny_pure h)⟩
  | none =>
    rw [hf] at h
    show wpAny _ _ (Builtin.Dict.pendingKey? d key >>= _) _ _ _
    exact wpAny_bind (wpAny_pendingKey_other m.1 (wpAny_pure ⟨_, rfl, wpAny_truthy_bool (wpAny_pure h)⟩))
theorem rows_item {Q : Value → Shared → Prop} (room : A.units + 9 < cLine) (hk : KeyOk s.heap k key) (m : RowsAt w s.heap d rows) (ok : RowsOk s.heap rows) (hv : valR k rows = some v) (h : Q v { s with toks := s.toks + k.draws }) :
    wpAny (model prog w) A (getItem (.ref d) key) Q E s := by
  have room1 : A.in1.units + 8 < cLine := by rw [Around.in1_units]; omega
  unfold getItem
  refine wpAny_holding (wpAny_bind (wpAny_sequenceKey m.typeIs (by decide) ?_))
  refine wpAny_bind (wpAny_callSpecial?_slot (name := Str.ofString "__getitem__") m.typeIs slot_dict_getitem (wpAny_call_entry slot_dict_getitem m.typeIs entry_dict_getitem ?_ (args_dict_getitem _ _)))
  show wpAny _ _ (dictGet d key >>= _) _ _ s
  refine wpAny_bind (rows_get room1 hk m ok ?_)
  rw [hv]
  exact wpAny_pure ⟨v, rfl, wpAny_pure h⟩
theorem rows_setItem {Q : Unit → Shared → Prop} (room : A.units + 9 < cLine) (hk : KeyOk s.heap k key) (m : RowsAt w s.heap d rows) (ok : RowsOk s.heap rows) (hz : rows.length < sizeLine)
    (h : ∀ h', RowsAt w h' d (putR k key v rows) → Heap.SameBut d s.heap h' → Q () { s with heap := h', toks := s.toks + k.draws }) : wpAny (model prog w) A (setItem (.ref d) key v) Q E s := by
  have room1 : A.in1.units + 8 < cLine := by rw [Around.in1_units]; omega
  unfold setItem
  refine wpAny_holding (wpAny_bind (wpAny_sequenceKey m.typeIs (by decide) ?_))
  refine wpAny_bind (wpAny_callSpecial?_slot (name := Str.ofString "__setitem__") m.typeIs slot_dict_setitem (wpAny_call_entry slot_dict_setitem m.typeIs entry_dict_setitem ?_ (args_dict_setitem _ _ _)))
  show wpAny _ _ (Builtin.Dict.notOrdered "__setitem__" ⟨[.ref d, key, v], []⟩ >>= _) _ _ s
  refine wpAny_bind (wpAny_notOrdered_dict m.typeIs ?_)
  show wpAny _ _ (dictSet d key v >>= _) _ _ s
  exact wpAny_bind (rows_set room1 hk m ok hz fun h' m' sb => wpAny_pure ⟨.none, rfl, wpAny_pure (h h' m' sb)⟩)
theorem rows_getD {Q : Value → Shared → Prop} (room : A.units + 9 < cLine) (hk : KeyOk s.heap k key) (m : RowsAt w s.heap d rows) (ok : RowsOk s.heap rows) (h : Q ((valR k rows).getD dflt) { s with toks := s.toks + k.draws }) :
    wpAny (model prog w) A (call (.builtin "dict.get") [.ref d, key, dflt]) Q E s := by
  have room1 : A.in1.units + 8 < cLine := by rw [Around.in1_units]; omega
  refine call_meetsIn (S := fun A' R s' => A' = A ∧ s' = s ∧ R (.ok (.ret ((valR k rows).getD dflt))) { s with toks := s.toks + k.draws }) F.slot_dict_get m.typeIs F.entry_dict_get (F.args_dict_get_3 _ _ _) (.of_wp ?_) ⟨rfl, rfl, h⟩
  rintro A' R s' ⟨rfl, rfl, hR⟩
  show wpAny _ _ (dictGet d key >>= _) _ _ _
  refine wpAny_bind (rows_get room1 hk m ok ?_)
  cases hf : valR k rows with
  | some v =>
    rw [hf] at hR
    exact wpAny_pure ⟨v, rfl, hR⟩
  | none =>
    rw [hf] at hR
    show wpAny _ _ (Builtin.Dict.missed d key >>= _) _ _ _
    exact wpAny_bind (wpAny_missed_other m.1 (wpAny_pure ⟨dflt, rfl, hR⟩))
theorem rows_setD {Q : Value → Shared → Prop} (room : A.units + 9 < cLine) (hk : KeyOk s.heap k key) (m : RowsAt w s.heap d rows) (ok : RowsOk s.heap rows) (hz : rows.length < sizeLine)
    (h1 : ∀ x, valR k rows = some x → Q x { s with toks := s.toks + k.draws })
    (h2 : valR k rows = none → ∀ h', RowsAt w h' d (putR k key dflt rows) → Heap.SameBut d s.heap h' → Q dflt { s with heap := h', toks := s.toks + k.draws }) : wpAny (model prog w) A (call (.builtin "dict.setdefault") [.ref d, key, dflt]) Q E s := by
  have room1 : A.in1.units + 8 < cLine := by rw [Around.in1_units]; omega
  refine call_meetsIn (S := fun A' R s' => A' = A ∧ s' = s ∧ (∀ x, valR k rows = some x → R (.ok (.ret x)) { s with toks := s.toks + k.draws }) ∧ (valR k rows = none → ∀ h', RowsAt w h' d (putR k key dflt rows) → Heap.SameBut d s.heap h' → R (.ok (.ret dflt)) { s with heap := h', toks := s.toks + k.draws }))
    F.slot_dict_setdefault m.typeIs F.entry_dict_setdefault (F.args_dict_setdefault_3 _ _ _) (.of_wp ?_) ⟨rfl, rfl, h1, h2⟩
  rintro A' R s' ⟨rfl, rfl, r1, r2⟩
  unfold Builtin.«dict.setdefault»
  refine wpAny_bind ?_
  unfold Builtin.Dict.keyAndDefault
  refine wpAny_bind (wpAny_notOrdered_dict m.typeIs ?_)
  show wpAny _ _ (pure (d, key, some dflt)) _ _ _
  refine wpAny_pure ?_
  show wpAny _ _ (if (d == sysModules) = true then _ else (dictSetDefault d key dflt >>= _)) _ _ _
  rw [if_neg (by rw [m.1]; exact Bool.false_ne_true)]
  exact wpAny_bind (rows_setdefault room1 hk m ok hz (fun p hp => wpAny_pure ⟨p, rfl, r1 p hp⟩) fun hn h' m' sb => wpAny_pure ⟨dflt, rfl, r2 hn h' m' sb⟩)
end
end SE
/-! Rules for a dict whose keys are None and tuples of texts, whose values are objects. -/
namespace SE
open PySem PySem.Spec PyProof.Rows L2 SeqAt
def keyT : Option (List Str) → NestedKey
  | none => .none
  | some xs => .tup (xs.map .text)
theorem texts_inj : ∀ {xs ys : List Str}, xs.map NestedKey.text = ys.map NestedKey.text → xs = ys
  | [], [], _ => rfl
  | [], _ :: _, h => by cases h
  | _ :: _, [], h => by cases h
  | x :: xs, y :: ys, h => by
    obtain ⟨h1, h2⟩ := List.cons.inj h
    cases h1
    rw [texts_inj h2]
theorem keyT_inj : ∀ {a b : Option (List Str)}, keyT a = keyT b → a = b
  | none, none, _ => rfl
  | none, some _, h => by cases h
  | some _, none, h => by cases h
  | some xs, some ys, h => by rw [texts_inj (NestedKey.tup.inj h)]
theorem texts_flat : ∀ xs : List Str, NestedKey.depthAll (xs.map .text) = 0
  | [] => rfl
  | x :: xs => by
    show max 0 (NestedKey.depthAll (xs.map .text)) = 0
    rw [texts_flat xs]
    rfl
theorem keyT_depth (k : Option (List Str)) : (keyT k).depth ≤ 8 := by
  cases k with
  | none => exact Nat.zero_le _
  | some xs =>
    show NestedKey.depthAll (xs.map .text) + 1 ≤ 8
    rw [texts_flat]
    decide
/-- a row: the key, the key's value, the object -/
abbrev RowV := Option (List Str) × V × Addr
def keyVal : V → Value
  | .ref b => .ref b
  | _ => .none
def toRow (r : RowV) : Row := (keyT r.1, keyVal r.2.1, .ref r.2.2)
def rowAt (k : Option (List Str)) : List RowV → Option Addr
  | [] => none
  | r :: rest => if r.1 = k then some r.2.2 else rowAt k rest
def rowPut (k : Option (List Str)) (y : V) (l : Addr) : List RowV → List RowV
  | [] => [(k, y, l)]
  | r :: rest => if r.1 = k then (r.1, r.2.1, l) :: rest else r :: rowPut k y l rest
theorem valR_rows (k : Option (List Str)) : ∀ rows : List RowV, valR (keyT k) (rows.map toRow) = (rowAt k rows).map .ref
  | [] => rfl
  | r :: rest => by
    rw [List.map_cons]
    unfold valR rowAt
    by_cases e : r.1 = k
    · rw [if_pos e, if_pos (show (toRow r).1 = keyT k by rw [← e]; rfl)]
      rfl
    · rw [if_neg e, if_neg (show ¬ (toRow r).1 = keyT k from fun z => e (keyT_inj z)), valR_rows k rest]
theorem putR_rows (k : Option (List Str)) (y : V) (l : Addr) : ∀ rows : List RowV, putR (keyT k) (keyVal y) (.ref l) (rows.map toRow) = (rowPut k y l rows).map toRow
  | [] => rfl
  | r :: rest => by
    rw [List.map_cons]
    unfold putR rowPut
    by_cases e : r.1 = k
    · rw [if_pos e, if_pos (show (toRow r).1 = keyT k by rw [← e]; rfl)]
      rfl
    · rw [if_neg e, if_neg (show ¬ (toRow r).1 = keyT k from fun z => e (keyT_inj z)), putR_rows k y l rest]
      rfl
theorem rowPut_length (k : Option (List Str)) (y : V) (l : Addr) : ∀ rows : List RowV, (rowPut k y l rows).length ≤ rows.length + 1
  | [] => Nat.le_refl _
  | r :: rest => by
    unfold rowPut
    split
    · simp
    · have := rowPut_length k y l rest
      simp only [List.length_cons]
      omega
theorem rowPut_mem {k : Option (List Str)} {y : V} {l : Addr} : ∀ {rows : List RowV} {r : RowV}, r ∈ rowPut k y l rows → (∃ r0 ∈ rows, r.1 = r0.1 ∧ r.2.1 = r0.2.1) ∨ r = (k, y, l)
  | [], r, h => by
    have e : r = (k, y, l) := by simpa [rowPut] using h
    exact .inr e
  | q :: rest, r, h => by
    unfold rowPut at h
    split at h
    · rcases List.mem_cons.mp h with e | m
      · exact .inl ⟨q, List.mem_cons_self, by rw [e], by rw [e]⟩
      · exact .inl ⟨r, List.mem_cons_of_mem _ m, rfl, rfl⟩
    · rcases List.mem_cons.mp h with e | m
      · exact .inl ⟨q, List.mem_cons_self, by rw [e], by rw [e]⟩
      · rcases rowPut_mem m with ⟨r0, m0, e⟩ | e
        · exact .inl ⟨r0, List.mem_cons_of_mem _ m0, e⟩
        · exact .inr e
theorem rowPut_keys {k : Option (List Str)} {y : V} {l : Addr} : ∀ {rows : List RowV}, (rows.map (·.1)).Nodup → ((rowPut k y l rows).map (·.1)).Nodup
  | [], _ => by simp [rowPut]
  | q :: rest, h => by
    have h2 := List.nodup_cons.mp h
    unfold rowPut
    split
    · exact h
    · rename_i ne
      refine List.nodup_cons.mpr ⟨fun m => ?_, rowPut_keys h2.2⟩
      obtain ⟨r, m1, e⟩ := List.mem_map.mp m
      rcases rowPut_mem m1 with ⟨r0, m0, e0, _⟩ | z
      · exact h2.1 (List.mem_map.mpr ⟨r0, m0, e0.symm.trans e⟩)
      · exact ne ((show q.1 = r.1 from e.symm).trans (by rw [z]))
/-- the dict's object -/
def rowsO (w : World) (d : Addr) (rows : List RowV) : HO := .ext fun h => RowsAt w h d (rows.map toRow)
/-- a key's value -/
def KeyV (K : PySem.W.Frag) (H : Hp) (y : V) : Option (List Str) → Prop
  | none => y = .non
  | some xs => ∃ b, y = .ref b ∧ SqT K H b (xs.map .str)
structure RowsK (K : PySem.W.Frag) (H : Hp) (rows : List RowV) : Prop where
  keys : ∀ r ∈ rows, KeyV K H r.2.1 r.1
  nd : (rows.map (·.1)).Nodup
theorem KeyV.mono {K : PySem.W.Frag} {H H' : Hp} {y : V} (t : ∀ b xs, SqT K H b xs → SqT K H' b xs) : ∀ {k : Option (List Str)}, KeyV K H y k → KeyV K H' y k
  | none, h => h
  | some xs, ⟨b, e, q⟩ => ⟨b, e, t b _ q⟩
theorem RowsK.mono {K : PySem.W.Frag} {H H' : Hp} {rows : List RowV} (t : ∀ b xs, SqT K H b xs → SqT K H' b xs) (r : RowsK K H rows) : RowsK K H' rows := ⟨fun q m => (r.keys q m).mono t, r.nd⟩
theorem RowsK.nil {K : PySem.W.Frag} {H : Hp} : RowsK K H [] := ⟨fun q m => (by cases m), List.nodup_nil⟩
theorem RowsK.put {K : PySem.W.Frag} {H : Hp} {rows : List RowV} {k : Option (List Str)} {y : V} (l : Addr) (r : RowsK K H rows) (q : KeyV K H y k) : RowsK K H (rowPut k y l rows) := by
  refine ⟨fun z m => ?_, rowPut_keys r.nd⟩
  rcases rowPut_mem m with ⟨r0, m0, e1, e2⟩ | e
  · rw [e1, e2]
    exact r.keys r0 m0
  · rw [e]
    exact q
/-- a dict that is written leaves the tuples -/
theorem rows_tup {K : PySem.W.Frag} {H : Hp} {w : World} {d : Addr} {rows : List RowV} {o : HO} (e : H d = some (rowsO w d rows)) : ∀ b xs, SqT K H b xs → SqT K (upd H d o) b xs := fun b xs q => by
  rcases q with (q | ⟨ob, q⟩) | q
  · exact .inl (.inl (by rw [upd_ne (ne_of q e (fun z => nomatch z))]; exact q))
  · exact .inl (.inr ⟨ob, by rw [upd_ne (ne_of q e (fun z => nomatch z))]; exact q⟩)
  · exact .inr q
theorem rowsAt_at {w : World} {h h' : Heap} {d : Addr} {rows : List Row} (m : RowsAt w h d rows) (k : ∀ o, h.get? d = some o → h'.get? d = some o) : RowsAt w h' d rows := by
  obtain ⟨a, b, o, es, ep, ho, r⟩ := m
  exact ⟨a, b, o, es, ep, k o ho, r⟩
theorem rowsO_ok {P : Program} {w : World} {H : Hp} {h : Heap} {d : Addr} {rows : List RowV} (m : RowsAt w h d (rows.map toRow)) : ObjOk P w H h d (rowsO w d rows) := by
  have ⟨_, _, o, _, _, ho, _⟩ := m
  exact ⟨m, ⟨o, ho⟩, fun h1 h2 p k => rowsAt_at p k⟩
section
variable {X : Cx} {pins : List (Addr × Obj)} {σ : L2.St} {H : Hp} {s : Shared} {d : Addr} {rows : List RowV} {y : V} {k : Option (List Str)} {u : Value} {A : Around} {E : Value → Shared → Prop}
theorem rows_read (I : Inv X pins σ H s) (e : Rd H d (rowsO X.w d rows)) : RowsAt X.w s.heap d (rows.map toRow) := (e.ok I.hok).1
theorem texts_all {h : Heap} : ∀ {xs : List Str} {us : List Value}, Vals (xs.map .str) us → NestedAll h (xs.map .text) us
  | [], _, r => by cases r; exact .nil
  | x :: xs, _, r => by
    cases r with
    | cons a b =>
      obtain ⟨t, rfl⟩ := a
      exact .cons (.text x t) (texts_all b)
theorem key_ok (I : Inv X pins σ H s) (q : KeyV X.K H y k) (r : RelV y u) : u = keyVal y ∧ KeyOk s.heap (keyT k) u := by
  cases k with
  | none =>
    cases q
    cases r
    exact ⟨rfl, .none, Nat.zero_le _, .inl rfl⟩
  | some xs =>
    obtain ⟨b, rfl, q⟩ := q
    cases r
    obtain ⟨its, rv, ⟨o, h1, h2, n, h3⟩, _⟩ := I.tuple q
    exact ⟨rfl, .tup h1 h2 h3 (texts_all (by simpa using rv)), keyT_depth _, .inr ⟨b, rfl⟩⟩
theorem rows_ok (I : Inv X pins σ H s) (rk : RowsK X.K H rows) : RowsOk s.heap (rows.map toRow) := by
  have rel : ∀ r ∈ rows, RelV r.2.1 (keyVal r.2.1) := fun r m => by
    have q := rk.keys r m
    revert q
    cases e : r.1 with
    | none =>
      intro q
      rw [show r.2.1 = .non from q]
      rfl
    | some xs =>
      rintro ⟨b, eb, _⟩
      rw [eb]
      rfl
  refine ⟨?_, ?_, ?_, ?_⟩
  · intro r m
    obtain ⟨q, m2, rfl⟩ := List.mem_map.mp m
    exact (key_ok I (rk.keys q m2) (rel q m2)).2.is
  · intro r m
    obtain ⟨q, m, rfl⟩ := List.mem_map.mp m
    exact keyT_depth _
  · intro r m
    obtain ⟨q, m2, rfl⟩ := List.mem_map.mp m
    exact (key_ok I (rk.keys q m2) (rel q m2)).2.nr
  · rw [List.map_map, show ((·.1) ∘ toRow) = keyT ∘ (fun r : RowV => r.1) from rfl, ← List.map_map]
    exact (List.pairwise_map.mpr (rk.nd.imp fun ne z => ne (keyT_inj z)))
theorem rows_turned {h' : Heap} {t' : Nat} {rows' : List RowV} (I : Inv X pins σ H s) (e : H d = some (rowsO X.w d rows)) (m : RowsAt X.w h' d (rows'.map toRow)) (sb : Heap.SameBut d s.heap h') : Inv X pins σ (upd H d (rowsO X.w d rows')) { s with heap := h', toks := t' } :=
  d_write I (by rw [e]; exact True.intro) sb (let ⟨_, _, o, _, _, ho, _⟩ := m; ⟨o, ho⟩) (rowsO_ok m)
end
/-! ### rules -/
/-- {} -/
def tRowsNew (w : World) : TE := fun _ H Q => ∀ p, H p = none → Q (.ref p) (upd H p (rowsO w p []))
/-- d[y] -/
def tRowGet (w : World) (K : PySem.W.Frag) (td ty : TE) : TE := fun σ H Q => td σ H fun x H1 => ty σ H1 fun y H2 => ∃ d rows k l, x = .ref d ∧ Rd H2 d (rowsO w d rows) ∧ RowsK K H2 rows ∧ KeyV K H2 y k ∧ rowAt k rows = some l ∧ Q (.ref l) H2
/-- d.get(y, z) -/
def tRowGetD (w : World) (K : PySem.W.Frag) (td ty tx : TE) : TE := fun σ H Q => td σ H fun x H1 => ∃ d rows, x = .ref d ∧ Rd H1 d (rowsO w d rows) ∧ ty σ H1 fun y H2 => tx σ H2 fun z H3 => ∃ k, Rd H3 d (rowsO w d rows) ∧ RowsK K H3 rows ∧ KeyV K H3 y k ∧
  (∀ l, rowAt k rows = some l → Q (.ref l) H3) ∧ (rowAt k rows = none → Q z H3)
/-- d.setdefault(y, z) -/
def tRowSetD (w : World) (K : PySem.W.Frag) (td ty tx : TE) : TE := fun σ H Q => td σ H fun x H1 => ∃ d rows, x = .ref d ∧ Rd H1 d (rowsO w d rows) ∧ ty σ H1 fun y H2 => tx σ H2 fun z H3 => ∃ k l, z = .ref l ∧ H3 d = some (rowsO w d rows) ∧ RowsK K H3 rows ∧ KeyV K H3 y k ∧ rows.length < sizeLine ∧
  (∀ l, rowAt k rows = some l → Q (.ref l) H3) ∧ (rowAt k rows = none → Q (.ref l) (upd H3 d (rowsO w d (rowPut k y l rows))))
/-- y in d -/
def tRowIn (w : World) (K : PySem.W.Frag) (ty td : TE) : TE := fun σ H Q => ty σ H fun y H1 => td σ H1 fun x H2 => ∃ d rows k, x = .ref d ∧ Rd H2 d (rowsO w d rows) ∧ RowsK K H2 rows ∧ KeyV K H2 y k ∧ Q (.bl (rowAt k rows).isSome) H2
/-- d[y] = v -/
def sRowPut (w : World) (K : PySem.W.Frag) (td ty tv : TE) : TS := fun D σ H => tv σ H fun v H1 => td σ H1 fun x H2 => ty σ H2 fun y H3 => ∃ d rows k l, v = .ref l ∧ x = .ref d ∧ H3 d = some (rowsO w d rows) ∧ RowsK K H3 rows ∧ KeyV K H3 y k ∧ rows.length < sizeLine ∧ D.nx σ (upd H3 d (rowsO w d (rowPut k y l rows)))
section
variable {X : Cx} {o i e f value : Expr} {pos pos' apos cpos : Pos} {td ty tx tv : TE}
theorem pe_rowsNew : PE X (.Dict [] [] pos) (tRowsNew X.w) := ⟨fun pins s σ H Q I h => by
  have big : (s.heap.objs.size == sysModules) = false := beq_eq_false_iff_ne.mpr (Ne.symm (Nat.ne_of_lt I.big))
  refine wpAny_Dict_empty ⟨.ref s.heap.objs.size, _, I.laid (a := s.heap.objs.size) (o := rowsO X.w s.heap.objs.size []) (t' := s.toks) (fun _ _ q => Heap.get?_push_of_some _ q) (Nat.le_refl _) (rowsO_ok ?_), rfl, h _ (I.hok.fresh (Nat.le_refl _))⟩
  exact ⟨big, Nat.zero_le _, _, #[], 0, Heap.get?_push_size _ rfl, ⟨rfl, rfl, rfl⟩, rfl, rfl⟩⟩
theorem pe_rowGet (room : X.A.units + 9 < cLine) (ho : PE X o td) (hi : PE X i ty) (hs : NoSl i) : PE X (.Subscript o i pos) (tRowGet X.w X.K td ty) := by
  refine ⟨fun pins s σ H Q I h => ?_⟩
  refine subD_of PySem.F.slot_dict_getitem.lookup hs (thn (ho.run pins s σ H _ I h) fun u s1 ⟨x, H1, I1, rx, q1⟩ => thn (hi.run pins s1 σ H1 _ I1 q1) fun iv s2 ⟨y, H2, I2, ry, d, rows, k, l, ex, rd, rk, kv, at_k, q2⟩ => ?_)
  subst ex
  obtain rfl : u = Value.ref d := rx
  have m := rows_read I2 rd
  refine ⟨m.typeIs, rows_item (v := .ref l) room (key_ok I2 kv ry).2 m (rows_ok I2 rk) (by rw [valR_rows, at_k]; rfl) ?_⟩
  exact ⟨.ref l, H2, I2.tok _, rfl, q2⟩
theorem pc_rowIn (room : X.A.units + 9 < cLine) (hi : PE X i ty) (ho : PE X o td) : PC X .In i o (tRowIn X.w X.K ty td) := by
  refine ⟨fun pins s σ H Q I h => ?_⟩
  refine thn (hi.run pins s σ H _ I h) fun iv s1 ⟨y, H1, I1, ry, q1⟩ => thn (ho.run pins s1 σ H1 _ I1 q1) fun u s2 ⟨x, H2, I2, rx, d, rows, k, ex, rd, rk, kv, q2⟩ => ?_
  subst ex
  obtain rfl : u = Value.ref d := rx
  refine rows_in room (key_ok I2 kv ry).2 (rows_read I2 rd) (rows_ok I2 rk) ?_
  refine ⟨.bl (rowAt k rows).isSome, H2, I2.tok _, ?_, q2⟩
  rw [valR_rows, Option.isSome_map]
  rfl
theorem ps_rowPut (room : X.A.units + 9 < cLine) (ho : PE X o td) (hi : PE X i ty) (hv : PE X value tv) (hs : swapsWith value (some (.Subscript o i pos')) pos.line X.env = pure false) :
    PS X (.Assign [.Subscript o i pos'] value pos) (sRowPut X.w X.K td ty tv) := by
  refine ⟨fun pins s σ H D I h => ?_⟩
  refine wpAny_Assign_Subscript (thn (hv.run pins s σ H _ I h) fun r s1 ⟨v, H1, I1, rv, q1⟩ => thn (ho.run pins s1 σ H1 _ I1 q1) fun u s2 ⟨x, H2, I2, rx, q2⟩ => thn (hi.run pins s2 σ H2 _ I2 q2) fun iv s3 ⟨y, H3, I3, ry, d, rows, k, l, ev, ex, e, rk, kv, hz, q3⟩ => ?_) hs
  subst ev ex
  obtain rfl : u = Value.ref d := rx
  obtain rfl : r = Value.ref l := rv
  obtain ⟨ey, kk⟩ := key_ok I3 kv ry
  refine rows_setItem room kk (rows_read I3 (.of e)) (rows_ok I3 rk) (by rw [List.length_map]; exact hz) fun h' m sb => ?_
  rw [ey, putR_rows] at m
  exact ⟨σ, _, rows_turned I3 e m sb, q3⟩
theorem rows_at (I : Inv X pins σ H s) {d : Addr} {rows : List RowV} (e : Rd H d (rowsO X.w d rows)) : s.TypeIs (.ref d) "dict" ∧ ∀ b, Value.ref d = .ref b → ∃ ob, s.heap.get? b = some ob ∧ ob.dict = none := by
  have m := rows_read I e
  refine ⟨m.typeIs, fun b q => ?_⟩
  cases q
  obtain ⟨_, _, ob, _, _, h1, h2, _⟩ := m
  exact ⟨ob, h1, h2.2.1⟩
theorem pe_rowGetD (room : X.A.units + 9 < cLine) (ho : PE X o td) (he : PE X e ty) (hf : PE X f tx) (m : M2 X o "get" apos e f cpos) : PE X (.Call (.Attribute o "get" apos) [e, f] [] cpos) (tRowGetD X.w X.K td ty tx) := by
  refine ⟨fun pins s σ H Q I h => ?_⟩
  refine wpAny_Call_method m.base m.few m.line PySem.F.plainAttrs_dict PySem.F.slot_dict_get PySem.F.type_dict_get (thn (ho.run pins s σ H _ I h) fun u s1 ⟨x, H1, I1, rx, d, rows, ex, rd, q1⟩ => ?_)
  subst ex
  obtain rfl : u = Value.ref d := rx
  obtain ⟨t1, t2⟩ := rows_at I1 rd
  refine ⟨t1, t2, ?_⟩
  rw [m.trees]
  refine Calls.callWith_builtin rfl (Calls.evalArgs_plain (Calls.spliced_cons (thn (he.run pins s1 σ H1 _ I1 q1) fun iv s2 ⟨y, H2, I2, ry, q2⟩ => Calls.spliced_cons (thn (hf.run pins s2 σ H2 _ I2 q2) fun fv s3 ⟨z, H3, I3, rz, k, rd3, rk, kv, c1, c2⟩ => Calls.spliced_nil ?_))))
  refine rows_getD room (key_ok I3 kv ry).2 (rows_read I3 rd3) (rows_ok I3 rk) ?_
  rw [valR_rows]
  cases q : rowAt k rows with
  | some l => exact ⟨.ref l, H3, I3.tok _, rfl, c1 l q⟩
  | none => exact ⟨z, H3, I3.tok _, rz, c2 q⟩
theorem pe_rowSetD (room : X.A.units + 9 < cLine) (ho : PE X o td) (he : PE X e ty) (hf : PE X f tx) (m : M2 X o "setdefault" apos e f cpos) : PE X (.Call (.Attribute o "setdefault" apos) [e, f] [] cpos) (tRowSetD X.w X.K td ty tx) := by
  refine ⟨fun pins s σ H Q I h => ?_⟩
  refine wpAny_Call_method m.base m.few m.line PySem.F.plainAttrs_dict PySem.F.slot_dict_setdefault PySem.F.type_dict_setdefault (thn (ho.run pins s σ H _ I h) fun u s1 ⟨x, H1, I1, rx, d, rows, ex, rd, q1⟩ => ?_)
  subst ex
  obtain rfl : u = Value.ref d := rx
  obtain ⟨t1, t2⟩ := rows_at I1 rd
  refine ⟨t1, t2, ?_⟩
  rw [m.trees]
  refine Calls.callWith_builtin rfl (Calls.evalArgs_plain (Calls.spliced_cons (thn (he.run pins s1 σ H1 _ I1 q1) fun iv s2 ⟨y, H2, I2, ry, q2⟩ => Calls.spliced_cons (thn (hf.run pins s2 σ H2 _ I2 q2) fun fv s3 ⟨z, H3, I3, rz, k, l, ez, e3, rk, kv, hz, c1, c2⟩ => Calls.spliced_nil ?_))))
  subst ez
  obtain rfl : fv = Value.ref l := rz
  obtain ⟨ey, kk⟩ := key_ok I3 kv ry
  refine rows_setD room kk (rows_read I3 (.of e3)) (rows_ok I3 rk) (by rw [List.length_map]; exact hz) (fun x hx => ?_) fun hn h' m' sb => ?_
  · rw [valR_rows] at hx
    obtain ⟨l', q, rfl⟩ := Option.map_eq_some_iff.mp hx
    exact ⟨.ref l', H3, I3.tok _, rfl, c1 l' q⟩
  · rw [valR_rows] at hn
    rw [ey, putR_rows] at m'
    exact ⟨.ref l, _, rows_turned I3 e3 m' sb, rfl, c2 (Option.map_eq_none_iff.mp hn)⟩
end
/-! ### walks -/
/-- the keys of the locked dict at d -/
def ItRk (w : World) (d : Addr) (o : Obj) (rows : List RowV) : It :=
  ⟨fun i H => H d = some (.frz o (rowsO w d rows)) ∧ i < rows.length, fun i H x H' => H' = H ∧ ∃ r, rows[i]? = some r ∧ keyVal x = keyVal r.2.1 ∧ (x = .non ∨ ∃ b, x = .ref b), fun i H => H d = some (.frz o (rowsO w d rows)) ∧ rows.length ≤ i⟩
/-- its values -/
def ItRv (w : World) (d : Addr) (o : Obj) (rows : List RowV) : It :=
  ⟨fun i H => H d = some (.frz o (rowsO w d rows)) ∧ i < rows.length, fun i H x H' => H' = H ∧ ∃ r, rows[i]? = some r ∧ x = .ref r.2.2, fun i H => H d = some (.frz o (rowsO w d rows)) ∧ rows.length ≤ i⟩
section
variable {X : Cx} {pins : List (Addr × Obj)} {σ : L2.St} {H : Hp} {s : Shared} {d : Addr} {o : Obj} {rows : List RowV}
theorem rows_frz (I : Inv X pins σ H s) (h : H d = some (.frz o (rowsO X.w d rows))) : (d == sysModules) = false ∧ ∃ (es : Array DictEntry) (ep : Nat), o.data = .dict es ep ∧ s.heap.DictRaw d es ep ∧ es.size = rows.length ∧ ∀ (i : Nat) (r : RowV), rows[i]? = some r → es[i]? = some (rowE X.w (toRow r)) := by
  obtain ⟨hd, ⟨a, b, o', es, ep, ho, hx, hdt, he⟩, _⟩ := I.hok d _ h
  rw [hd] at ho
  cases ho
  refine ⟨a, es, ep, hdt, ⟨o, hd, hx, hdt⟩, ?_, fun i r e => ?_⟩
  · rw [row_size he, List.length_map]
  · rw [row_at he i, List.getElem?_map, e]
    rfl
end
section
variable {P : Program} {w : World} {K : PySem.W.Frag} {tg : Expr} {d : Addr} {o : Obj} {es : Array DictEntry} {ep : Nat} {rows : List RowV}
theorem turn_rowKeys (it : Addr) (hod : o.data = .dict es ep) : Turn P w K tg (ItRk w d o rows) [it] it (fun i h => h.IsKeyIter it d i rows.length ep) where
  mem := by simp
  obj := fun i h st b hb => by
    obtain rfl : b = it := by simpa using hb
    obtain ⟨oi, e, c, dd⟩ := st
    exact ⟨oi, e, fun v z => by rw [dd] at z; cases z⟩
  keep := fun i h h' st k => st.at fun oi e => k it (by simp) oi e
  item := by
    intro X hP hw hK hc i pins s σ H E I hf st hg
    subst hP hw hK
    obtain ⟨hd, hi⟩ := hg
    obtain ⟨f0, f1, f2, f3, f4, f5⟩ := hf it (by simp)
    obtain ⟨hs, es', ep', hdt, raw, hsz, ent⟩ := rows_frz I hd
    obtain ⟨rfl, rfl⟩ := dict_ep hod hdt
    obtain ⟨r, hr⟩ : ∃ r, rows[i]? = some r := ⟨rows[i], List.getElem?_eq_getElem hi⟩
    have en := ent i r hr
    have hlt : i < es'.size := by omega
    have ei : es'[i].key = keyVal r.2.1 := by
      rw [Array.getElem?_eq_getElem hlt] at en
      rw [Option.some.inj en]
      rfl
    rw [← hsz] at st
    refine wpAny_pyNext_keys_item_raw st raw hlt fun h' st' sb => ?_
    have I1 : Inv X pins σ H { s with heap := h' } := I.turned (t' := s.toks) (fun b ob hb e => (sb.2 b hb).trans e) f0 f1 f3 f4 f5
    obtain ⟨oi, e, c, dd⟩ := id st'
    rw [hsz] at st'
    refine ⟨_, rfl, go_of (s := { s with heap := h' }) e c dd (by decide) ?_⟩
    rw [ei]
    cases ev : r.2.1 with
    | ref b => exact ⟨.ref b, H, I1, rfl, ⟨rfl, r, hr, by rw [ev], .inr ⟨b, rfl⟩⟩, st', fun b hb => (hf b hb).1⟩
    | _ => exact ⟨.non, H, I1, rfl, ⟨rfl, r, hr, by rw [ev] <;> rfl, .inl rfl⟩, st', fun b hb => (hf b hb).1⟩
  done := by
    intro X hP hw hK hc i pins s σ H E I hf st hg
    subst hP hw hK
    obtain ⟨hd, hi⟩ := hg
    obtain ⟨f0, f1, f2, f3, f4, f5⟩ := hf it (by simp)
    obtain ⟨hs, es', ep', hdt, raw, hsz, ent⟩ := rows_frz I hd
    obtain ⟨rfl, rfl⟩ := dict_ep hod hdt
    rw [← hsz] at st
    exact wpAny_pyNext_keys_end_raw (I.ok.hd hc) st raw (by omega) fun h' eb => ⟨rfl, I.turned (t' := s.toks) (fun b ob hb e => eb b ob hb e) f0 f1 f3 f4 f5⟩
  self := fun A i s Q E st h => wpAny_pyIter_keyiter st h
theorem turn_rowVals (it : Addr) (hod : o.data = .dict es ep) : Turn P w K tg (ItRv w d o rows) [it] it (fun i h => h.IsValIter it d i rows.length ep) where
  mem := by simp
  obj := fun i h st b hb => by
    obtain rfl : b = it := by simpa using hb
    obtain ⟨oi, e, c, dd⟩ := st
    exact ⟨oi, e, fun v z => by rw [dd] at z; cases z⟩
  keep := fun i h h' st k => st.at fun oi e => k it (by simp) oi e
  item := by
    intro X hP hw hK hc i pins s σ H E I hf st hg
    subst hP hw hK
    obtain ⟨hd, hi⟩ := hg
    obtain ⟨f0, f1, f2, f3, f4, f5⟩ := hf it (by simp)
    obtain ⟨hs, es', ep', hdt, raw, hsz, ent⟩ := rows_frz I hd
    obtain ⟨rfl, rfl⟩ := dict_ep hod hdt
    obtain ⟨r, hr⟩ : ∃ r, rows[i]? = some r := ⟨rows[i], List.getElem?_eq_getElem hi⟩
    have en := ent i r hr
    have hlt : i < es'.size := by omega
    have ei : es'[i].val = .ref r.2.2 := by
      rw [Array.getElem?_eq_getElem hlt] at en
      rw [Option.some.inj en]
      rfl
    rw [← hsz] at st
    refine wpAny_pyNext_values_item_raw st raw hlt fun h' st' sb => ?_
    have I1 : Inv X pins σ H { s with heap := h' } := I.turned (t' := s.toks) (fun b ob hb e => (sb.2 b hb).trans e) f0 f1 f3 f4 f5
    obtain ⟨oi, e, c, dd⟩ := id st'
    rw [hsz] at st'
    refine ⟨_, rfl, go_of (s := { s with heap := h' }) e c dd (by decide) ?_⟩
    rw [ei]
    exact ⟨.ref r.2.2, H, I1, rfl, ⟨rfl, r, hr, rfl⟩, st', fun b hb => (hf b hb).1⟩
  done := by
    intro X hP hw hK hc i pins s σ H E I hf st hg
    subst hP hw hK
    obtain ⟨hd, hi⟩ := hg
    obtain ⟨f0, f1, f2, f3, f4, f5⟩ := hf it (by simp)
    obtain ⟨hs, es', ep', hdt, raw, hsz, ent⟩ := rows_frz I hd
    obtain ⟨rfl, rfl⟩ := dict_ep hod hdt
    rw [← hsz] at st
    exact wpAny_pyNext_values_end_raw (I.ok.hd hc) st raw (by omega) fun h' eb => ⟨rfl, I.turned (t' := s.toks) (fun b ob hb e => eb b ob hb e) f0 f1 f3 f4 f5⟩
  self := fun A i s Q E st h => wpAny_pyIter_valiter st h
end
def iRows (w : World) (td : TE) : TI := fun σ H R => td σ H fun x H1 => ∃ d o rows, x = .ref d ∧ H1 d = some (.frz o (rowsO w d rows)) ∧ R (ItRk w d o rows) H1
def iRowVals (w : World) (td : TE) : TI := fun σ H R => td σ H fun x H1 => ∃ d o rows, x = .ref d ∧ H1 d = some (.frz o (rowsO w d rows)) ∧ R (ItRv w d o rows) H1
section
variable {X : Cx} {tg e : Expr} {td : TE} {apos cpos : Pos}
theorem pi_rows (he : PE X e td) : PI X tg e (iRows X.w td) := by
  refine ⟨fun pins s σ H R I h => ?_⟩
  refine thn (he.run pins s σ H _ I h) fun u s1 ⟨x, H1, I1, rx, d, o, rows, ex, hd, q⟩ => ?_
  subst ex
  obtain rfl : u = Value.ref d := rx
  obtain ⟨hs, es, ep, hdt, raw, hsz, ent⟩ := rows_frz I1 hd
  refine wpAny_pyIter_dict_raw hs raw (pi_one (tk := s1.toks) I1 _ (turn_rowKeys _ hdt) ⟨_, Heap.get?_push_size _ rfl, rfl, ?_⟩ q)
  rw [hsz] <;> rfl
theorem pi_rowVals (he : PE X e td) (hbase : attributeBase e "values" X.env (eval e X.env) = eval e X.env := by rfl) (hline : (apos.endLine == cpos.line) = true := by rfl) : PI X tg (.Call (.Attribute e "values" apos) [] [] cpos) (iRowVals X.w td) := by
  refine ⟨fun pins s σ H R I h => ?_⟩
  refine wpAny_Call_method (T := "dict") (id := "dict.values") hbase rfl hline F.plainAttrs_dict F.slot_dict_values F.type_dict_values (thn (he.run pins s σ H _ I h) fun u s1 ⟨x, H1, I1, rx, d, o, rows, ex, hd, q⟩ => ?_)
  subst ex
  obtain rfl : u = Value.ref d := rx
  obtain ⟨t1, t2⟩ := rows_at I1 (.inr ⟨o, hd⟩)
  obtain ⟨hs, es, ep, hdt, raw, hsz, ent⟩ := rows_frz I1 hd
  refine ⟨t1, t2, ?_⟩
  have I2 : Inv X pins σ H1 { s1 with heap := s1.heap.push { cls := .type "dict_values", data := .fields #[.ref d] } } := I1.kept (t' := s1.toks) fun b ob q => Heap.get?_push_of_some _ q
  have raw2 : (s1.heap.push { cls := .type "dict_values", data := .fields #[.ref d] }).DictRaw d es ep := raw.at fun ob e => Heap.get?_push_of_some _ e
  have fin : wpAny (model X.prog X.w) X.A (pyIter (.ref s1.heap.objs.size)) (PIE X pins σ tg R) X.xe { s1 with heap := s1.heap.push { cls := .type "dict_values", data := .fields #[.ref d] } } := by
    refine wpAny_pyIter_values_raw (d := d) ⟨_, Heap.get?_push_size _ rfl, rfl, rfl⟩ raw2 (pi_one (tk := s1.toks) I2 _ (turn_rowVals _ hdt) ⟨_, Heap.get?_push_size _ rfl, rfl, ?_⟩ q)
    rw [hsz] <;> rfl
  show wpAny _ _ (callWith cpos (.builtin "dict.values") [.ref d] [] []) _ X.xe s1
  exact method_meetsIn F.slot_dict_values F.entry_dict_values rfl (PySem.evalArgs_none ⟨rfl, t1, F.args_dict_values_1 _, _, meets_dict_values_raw d hs, ⟨es, ep, raw⟩, fin⟩)
end
end SE
/-! min(list, key = own function, default = ..): the keys are data. -/
namespace SE
open PySem PySem.Spec PyProof.Rows L2 SeqAt
open PySem.W (alike dataLt rcLt_alike)
/-- an object of a built-in's own: it may turn, and be pinned as it stands -/
structure Mine (X : Cx) (pins : List (Addr × Obj)) (b : Addr) : Prop where
  l : b ≠ X.env.locals
  f : b ∉ X.fs
  a : b ∈ X.ex ∨ X.s_0.heap.objs.size ≤ b
  c : ∀ x c, X.env.cells.lookup x = some c → c ≠ b
  p : ∀ p ∈ X.pn ++ pins, p.1 ≠ b
section
variable {X : Cx} {pins : List (Addr × Obj)} {σ : L2.St} {H H' : Hp} {s : Shared} {b : Addr} {o : Obj} {h' : Heap} {t' : Nat}
theorem Mine.of (I : Inv X pins σ H s) (hb : s.heap.objs.size ≤ b) (hn : H b = none) : Mine X pins b := by
  obtain ⟨h0, h1, h2, h3, h4, h5⟩ := I.fpOk (H' := H) hb hn
  exact ⟨h1, h2, h3, h4, h5⟩
theorem repin (I : Inv X pins σ H s) (m : Mine X pins b) (hn : H b = none) (ho : s.heap.get? b = some o) (hc : ∀ v, o.data ≠ .cell v) : Inv X ((b, o) :: pins) σ H s :=
  I.pins_of fun q hq => by
    rcases List.mem_cons.mp hq with rfl | hq
    · exact ⟨ho, hn, m.l, m.f, hc⟩
    · exact I.pin q (List.mem_append_right _ hq)
theorem Mine.turn (m : Mine X pins b) (I : Inv X pins σ H s) (hn : H b = none) (k : ∀ c o, c ≠ b → s.heap.get? c = some o → h'.get? c = some o) : Inv X pins σ H { s with heap := h', toks := t' } :=
  I.turned k hn m.l m.a m.c m.p
/-- an own function called within a built-in -/
theorem call_in1 {k : Nat} {f : Addr} {fd : FuncData} {px : Str} {sp : Sp} {x : V} {u : Value} {Q : VK} {E : Value → Shared → Prop} (F : FnOk X.prog X.w X.K X.mg X.base CX0 k f fd [px] sp) (hb : Binds X.K fd [px] []) (hr : Room (k + 1) X.A) (I : Inv X pins σ H s) (r : RelV x u)
    (h : sp [x] H Q (fun _ _ _ => False)) : wpAny (model X.prog X.w) X.A.in1 (call (.ref f) [u]) (EP X pins σ Q) E s := by
  refine wpAny_call (codeAny_mono (F.run X.A.in1 X.stack s H ⟨[u], []⟩ [u] [x] _ _ hr.in1 I.env0.in1 (by simpa using hb s [u] I.kIn rfl) (.cons r .nil) h) fun r s2 hq => ?_)
  cases r with
  | error e => exact hq.elim
  | ok fl =>
    cases fl with
    | ret z => exact I.after hq
    | next => exact hq.elim
    | brk => exact hq.elim
    | cont => exact hq.elim
end
section
variable {K : PySem.W.Frag} {H H' : Hp}
mutual
theorem dpSame (s : Same H H') : ∀ (d : PyData) (v : V), Dp K H v d → Dp K H' v d
  | .none, _, h => by cases h; exact .non
  | .bool b, _, h => by cases h; exact .bl b
  | .int i, _, h => by cases h; exact .int i
  | .str x, _, h => by cases h; exact .str x
  | .list ds, _, h => by
    cases h with
    | lst a b => exact .lst (Same.seq s a) (dpsSame s ds _ b)
  | .tuple ds, _, h => by
    cases h with
    | tup a b => exact .tup (Same.tup s a) (dpsSame s ds _ b)
  | .dict kvs, _, h => by cases h
theorem dpsSame (s : Same H H') : ∀ (ds : List PyData) (vs : List V), DpAll K H vs ds → DpAll K H' vs ds
  | [], _, h => by cases h; exact .nil
  | d :: ds, _, h => by
    cases h with
    | cons a b => exact .cons (dpSame s d _ a) (dpsSame s ds _ b)
end
end
def seqO (us : Array Value) (c : Nat) : Obj := { cls := .type "list", dict := none, data := .seq us c, slots := #[] }
/-- what is asked of the keys of xs -/
structure Keys (K : PySem.W.Frag) (sp : Sp) (H0 : Hp) (xs : List V) (kd : Nat → PyData) : Prop where
  k : ∀ i x H1, xs[i]? = some x → Same H0 H1 → sp [x] H1 (fun y H2 => Same H1 H2 ∧ Dp K H2 y (kd i)) (fun _ _ _ => False)
  al : ∀ i j, i < xs.length → j < xs.length → alike (kd i) (kd j) = true
  nn : ∀ i, i < xs.length → kd i ≠ .none
  dp : ∀ i, i < xs.length → (kd i).depth ≤ 20
def ltK (kd : Nat → PyData) (i j : Nat) : Bool := dataLt (kd i) (kd j)
theorem argBest_le (bt : Nat → Nat → Bool) : ∀ k, argBest bt k ≤ k
  | 0 => Nat.le_refl _
  | k + 1 => by
    unfold argBest
    split
    · exact Nat.le_refl _
    · exact Nat.le_succ_of_le (argBest_le bt k)
section
variable {X : Cx} {k : Nat} {f : Addr} {fd : FuncData} {px : Str} {sp : Sp} {pins : List (Addr × Obj)} {σ : L2.St} {H0 : Hp} {a it S : Addr} {xs : List V} {kd : Nat → PyData} {Q : VK} {R : Result → Shared → Prop}
theorem mk_loop (FF : FnOk X.prog X.w X.K X.mg X.base CX0 k f fd [px] sp) (hb : Binds X.K fd [px] []) (hr : Room (k + 1) X.A) (hcalm : X.calm = true) (KY : Keys X.K sp H0 xs kd) (hl : SqL X.K H0 a xs) (mi : Mine X pins it) (mS : Mine X pins S) (nS : it ≠ S) (kw : List (Str × Value))
    (hq : ∀ x H', xs[argBest (ltK kd) (xs.length - 1)]? = some x → Same H0 H' → Q x H') (hR : ∀ v s', EP X pins σ Q v s' → R (.ok (.ret v)) s') :
    ∀ (m j : Nat) (s : Shared) (H : Hp) (vb kb : Value) (xb yb : V) (c : Nat), xs.length - (j + 1) = m → j + 1 ≤ xs.length → Inv X pins σ H s → Same H0 H → H it = none → H S = none → s.heap.IsListIter it a (j + 1) → s.heap.get? S = some (seqO #[vb, kb] c) →
    xs[argBest (ltK kd) j]? = some xb → RelV xb vb → RelV yb kb → Dp X.K H yb (kd (argBest (ltK kd) j)) → codeAny (model X.prog X.w) X.A (.builtin "min.loop" ⟨[.ref it, .ref f, .ref S], kw⟩) R s := by
  have hname : (toString "min" ++ toString ".loop" : String) = "min.loop" := by decide
  have nc : ∀ (us : Array Value) (c : Nat) (v : Option Value), (seqO us c).data ≠ .cell v := fun us c v z => by cases z
  intro m
  induction m with
  | zero =>
    intro j s H vb kb xb yb c hm hj I s0 ni nSn st hS hx rb ry hd
    have hin : j + 1 = xs.length := by omega
    obtain ⟨its, rv, pl, hz⟩ := I.list (Same.seq s0 hl)
    have lv := rv.length
    refine codeAny_builtin F.entry_min_loop ?_
    rw [Around.under_plainId F.plain_min_loop _]
    show wpAny _ X.A.in1 (seqItems? (.ref S) >>= _) _ _ s
    refine wpAny_bind (wpAny_seqItems hS rfl ?_)
    show wpAny _ X.A.in1 (tryCatch (pyNext (.ref it)) _ >>= _) _ _ s
    refine wpAny_bind (wpAny_tryCatch (wpAny_pyNext_list_end (I.ok.hd hcalm) st pl.isList (by simp; omega) fun h' eb => ?_))
    have hS' : h'.get? S = some (seqO #[vb, kb] c) := eb S _ (Ne.symm nS) hS
    have I1 : Inv X pins σ H { s with heap := h' } := mi.turn (t' := s.toks) I ni fun b o hb e => eb b o hb e
    show wpAny _ X.A.in1 (updateSeq S (fun _ => #[]) >>= _) _ _ _
    refine wpAny_bind ?_
    refine wpAny_updateSeq hS' rfl (wpAny_bind (wpAny_letGo (wpAny_pure ?_)))
    refine hR _ _ ⟨xb, H, mS.turn (s := { s with heap := h' }) (t' := s.toks) I1 nSn fun b o hb e => (Heap.get?_update_other _ _ (Ne.symm hb)).trans e, rb, hq xb H ?_ s0⟩
    rw [← hin]
    exact hx
  | succ m ih =>
    intro j s H vb kb xb yb c hm hj I s0 ni nSn st hS hx rb ry hd
    have hlt : j + 1 < xs.length := by omega
    obtain ⟨its, rv, pl, hz⟩ := I.list (Same.seq s0 hl)
    have hx1 : xs[j + 1]? = some xs[j + 1] := List.getElem?_eq_getElem hlt
    obtain ⟨u, hu, ru⟩ := rv.get hx1
    refine codeAny_builtin F.entry_min_loop ?_
    rw [Around.under_plainId F.plain_min_loop _]
    show wpAny _ X.A.in1 (seqItems? (.ref S) >>= _) _ _ s
    refine wpAny_bind (wpAny_seqItems hS rfl ?_)
    show wpAny _ X.A.in1 (tryCatch (pyNext (.ref it)) _ >>= _) _ _ s
    refine wpAny_bind (wpAny_tryCatch (wpAny_pyNext_list_item st pl.isList (x := u) (by simpa using hu) fun h' st' sb => ?_))
    have hS' : h'.get? S = some (seqO #[vb, kb] c) := (sb.2 S (Ne.symm nS)).trans hS
    have I1 : Inv X pins σ H { s with heap := h' } := mi.turn (t' := s.toks) I ni fun b o hb e => (sb.2 b hb).trans e
    obtain ⟨io, ie, ic, idt⟩ := id st'
    have I2 := repin I1 mS nSn hS' (nc _ _)
    have mi2 : Mine X ((S, seqO #[vb, kb] c) :: pins) it := ⟨mi.l, mi.f, mi.a, mi.c, fun q hq => by
      rcases List.mem_append.mp hq with z | z
      · exact mi.p q (List.mem_append_left _ z)
      · rcases List.mem_cons.mp z with rfl | z
        · exact Ne.symm nS
        · exact mi.p q (List.mem_append_right _ z)⟩
    have I3 := repin I2 mi2 ni ie (fun v z => by rw [idt] at z; cases z)
    show wpAny _ X.A.in1 (tryCatch (holding [u] (call (.ref f) [u])) _ >>= _) _ _ _
    refine wpAny_bind (wpAny_tryCatch (wpAny_holding (wpAny_mono (call_in1 FF hb hr I3 ru (KY.k (j + 1) _ H hx1 s0)) (fun kx s2 hh => ?_) fun _ _ z => z)))
    obtain ⟨yk, H2, I4, rk, s12, hdk⟩ := hh
    have s02 := s0.trans s12
    have ie2 := ClX.pin_at I4
    have ni2 := ClX.pin_un I4
    have I5 := ClX.unpin I4
    have hS2 := ClX.pin_at I5
    have nS2 := ClX.pin_un I5
    have I6 := ClX.unpin I5
    have st2 : s2.heap.IsListIter it a (j + 1 + 1) := ⟨io, ie2, ic, idt⟩
    have le := argBest_le (ltK kd) j
    have lt0 : argBest (ltK kd) j < xs.length := by omega
    obtain ⟨as1, r1⟩ := Dp.reads I6 (kd (j + 1)) yk kx hdk rk
    obtain ⟨as2, r2⟩ := Dp.reads I6 (kd (argBest (ltK kd) j)) yb kb (dpSame s12 _ _ hd) ry
    have cmp : RcLt X.A.in1 s2 kx kb (ltK kd (j + 1) (argBest (ltK kd) j)) := rcLt_alike _ _ X.A.in1 s2 kx kb as1 as2 r1 r2 (KY.al _ _ hlt lt0) (KY.nn _ hlt) (by
      have h1 := KY.dp _ hlt
      have h2 := hr.in1.units
      have : min (kd (j + 1)).depth (kd (argBest (ltK kd) j)).depth ≤ 20 := Nat.le_trans (Nat.min_le_left _ _) h1
      omega)
    show wpAny _ X.A.in1 (tryCatch (holding [u, kx] (richCompare .Lt kx kb >>= _)) _ >>= _) _ _ _
    refine wpAny_bind (wpAny_tryCatch (wpAny_holding (wpAny_bind (cmp X.prog X.w _ _ ?_))))
    refine wpAny_bind (wpAny_holding (wpAny_truthy_bool ?_))
    refine wpAny_bind (wpAny_letGo (wpAny_pure ?_))
    cases hbt : ltK kd (j + 1) (argBest (ltK kd) j) with
    | true =>
      simp only [if_true]
      have e1 : argBest (ltK kd) (j + 1) = j + 1 := by simp only [argBest, hbt, if_true]
      refine wpAny_bind ?_
      refine wpAny_updateSeq hS2 rfl (wpAny_bind (wpAny_letGo ?_))
      rw [hname]
      refine wpAny_pure ⟨plainId_quiet F.plain_min_loop _, ih (j + 1) _ H2 u kx xs[j + 1] yk _ (by omega) hlt (mS.turn (t' := s2.toks) I6 nS2 fun b o hb e => (Heap.get?_update_other _ _ (Ne.symm hb)).trans e) s02 ni2 nS2 (st2.at fun o e => (Heap.get?_update_other _ _ (Ne.symm nS)).trans e)
        (Heap.get?_update_self _ hS2 rfl) (by rw [e1]; exact hx1) ru rk (by rw [e1]; exact hdk)⟩
    | false =>
      simp only [Bool.false_eq_true, if_false]
      have e1 : argBest (ltK kd) (j + 1) = argBest (ltK kd) j := by simp only [argBest, hbt, Bool.false_eq_true, if_false]
      refine wpAny_bind (wpAny_letGo ?_)
      rw [hname]
      exact wpAny_pure ⟨plainId_quiet F.plain_min_loop _, ih (j + 1) _ H2 vb kb xb yb c (by omega) hlt I6 s02 ni2 nS2 st2 hS2 (by rw [e1]; exact hx) rb ry (by rw [e1]; exact dpSame s12 _ _ hd)⟩
/-- min(list, key = f, default = d) -/
def rMinK (K : PySem.W.Frag) (f : Addr) (sp : Sp) : List V → List V → Hp → VK → Prop := fun vs zs H Q => ∃ (a : Addr) (xs : List V) (d : V) (kd : Nat → PyData), vs = [.ref a] ∧ zs = [.ref f, d] ∧ SqL K H a xs ∧ Keys K sp H xs kd ∧ (xs = [] → ∀ H', Same H H' → Q d H') ∧
  (xs ≠ [] → ∀ x H', xs[argBest (ltK kd) (xs.length - 1)]? = some x → Same H H' → Q x H')
theorem call_minK (FF : FnOk X.prog X.w X.K X.mg X.base CX0 k f fd [px] sp) (hb : Binds X.K fd [px] []) (hr : Room (k + 1) X.A) (hcalm : X.calm = true) : CallRK X (.builtin "min") [Str.ofString "key", Str.ofString "default"] (rMinK X.K f sp) := by
  intro pins s σ H vs zs us ws Q I r1 r2 h
  obtain ⟨a, xs, d, kd, rfl, rfl, hl, KY, hq0, hq⟩ := h
  have hname : (toString "min" ++ toString ".loop" : String) = "min.loop" := by decide
  have nc : ∀ (us : Array Value) (c : Nat) (v : Option Value), (seqO us c).data ≠ .cell v := fun us c v z => by cases z
  obtain ⟨ua, rfl, ra⟩ : ∃ ua, us = [ua] ∧ RelV (.ref a) ua := by
    cases r1 with
    | cons p q =>
      cases q
      exact ⟨_, rfl, p⟩
  cases ra
  obtain ⟨uf, ud, rfl, rf, rd⟩ := vals2 r2
  cases rf
  show wpAny (model X.prog X.w) X.A (call (.builtin "min") [.ref a] [(Str.ofString "key", .ref f), (Str.ofString "default", ud)]) (EP X pins σ Q) X.xe s
  refine PyProof.Rows.kmk_tree F.kind_min F.plain_min F.entry_min (args_min_key_default _ _ _) ?_
  show wpAny _ X.A.in1 (Builtin.Builtins.bindParams "min" ["key", "default"] 0 ⟨[], [(Str.ofString "key", .ref f), (Str.ofString "default", ud)]⟩ >>= _) _ _ s
  refine wpAny_bind (wpAny_of_eq (show Builtin.Builtins.bindParams "min" ["key", "default"] 0 ⟨[], [(Str.ofString "key", .ref f), (Str.ofString "default", ud)]⟩ = pure [some (.ref f), some ud] from rfl) ?_)
  refine wpAny_bind (wpAny_pure ?_)
  obtain ⟨its, rv, pl, hz⟩ := I.list hl
  have lv := rv.length
  refine wpAny_bind (wpAny_pyIter_list pl.isList ?_)
  have ni : H s.heap.objs.size = none := I.hok.fresh (Nat.le_refl _)
  have I1 : Inv X pins σ H { s with heap := s.heap.push { cls := .type "list_iterator", data := .fields #[.ref a, .int 0 0] }, toks := s.toks } := I.kept fun b o e => Heap.get?_push_of_some _ e
  have mi : Mine X pins s.heap.objs.size := Mine.of I (Nat.le_refl _) ni
  have st : (s.heap.push { cls := .type "list_iterator", data := .fields #[.ref a, .int 0 0] }).IsListIter s.heap.objs.size a 0 := ⟨_, Heap.get?_push_size _ rfl, rfl, rfl⟩
  generalize hs1 : s.heap.push { cls := .type "list_iterator", data := .fields #[.ref a, .int 0 0] } = h1 at I1 st
  have z1 : s.heap.objs.size < h1.objs.size := by
    rw [← hs1, Heap.size_push]
    exact Nat.lt_succ_self _
  show wpAny _ _ (newList [] >>= _) _ _ _
  refine wpAny_bind (wpAny_newObj_type ?_)
  have nS : H h1.objs.size = none := I1.hok.fresh (Nat.le_refl _)
  have mS : Mine X pins h1.objs.size := Mine.of I1 (Nat.le_refl _) nS
  have I2 : Inv X pins σ H { s with heap := h1.push { cls := .type "list", data := .seq #[] 0 }, toks := s.toks } := I1.kept fun b o e => Heap.get?_push_of_some _ e
  have st2 : (h1.push { cls := .type "list", data := .seq #[] 0 }).IsListIter s.heap.objs.size a 0 := st.at fun o e => Heap.get?_push_of_some _ e
  have hS2 : (h1.push { cls := .type "list", data := .seq #[] 0 }).get? h1.objs.size = some (seqO #[] 0) := Heap.get?_push_size _ rfl
  have nn : s.heap.objs.size ≠ h1.objs.size := Nat.ne_of_lt z1
  rw [hname]
  refine wpAny_pure ⟨plainId_quiet F.plain_min_loop _, ?_⟩
  generalize h1.push { cls := .type "list", data := .seq #[] 0 } = h2 at I2 st2 hS2
  generalize s.heap.objs.size = it at *
  generalize h1.objs.size = S at *
  refine codeAny_builtin F.entry_min_loop ?_
  rw [Around.under_plainId F.plain_min_loop _]
  obtain ⟨its, rv, pl, hz⟩ := I2.list hl
  have lv := rv.length
  show wpAny _ X.A.in1 (seqItems? (.ref S) >>= _) _ _ _
  refine wpAny_bind (wpAny_seqItems hS2 rfl ?_)
  show wpAny _ X.A.in1 (tryCatch (pyNext (.ref it)) _ >>= _) _ _ _
  cases hxs : xs with
  | nil =>
    have l0 : its = [] := List.length_eq_zero_iff.mp (by rw [← lv, hxs]; rfl)
    refine wpAny_bind (wpAny_tryCatch (wpAny_pyNext_list_end (I.ok.hd hcalm) st2 pl.isList (by simp [l0]) fun h' eb => ?_))
    have I3 : Inv X pins σ H { s with heap := h', toks := s.toks } := mi.turn (s := { s with heap := h2, toks := s.toks }) (t' := s.toks) I2 ni fun b o hb e => eb b o hb e
    refine wpAny_bind (wpAny_rule (wpAny_pure ?_))
    exact ⟨d, H, I3, rd, hq0 hxs H (Same.refl H)⟩
  | cons x r =>
    have hlt : 0 < xs.length := by rw [hxs]; exact Nat.succ_pos _
    have hx1 : xs[0]? = some xs[0] := List.getElem?_eq_getElem hlt
    obtain ⟨u, hu, ru⟩ := rv.get hx1
    refine wpAny_bind (wpAny_tryCatch (wpAny_pyNext_list_item st2 pl.isList (x := u) (by simpa using hu) fun h' st' sb => ?_))
    have hS' : h'.get? S = some (seqO #[] 0) := (sb.2 S (Ne.symm nn)).trans hS2
    have I1 : Inv X pins σ H { s with heap := h', toks := s.toks } := mi.turn (s := { s with heap := h2, toks := s.toks }) (t' := s.toks) I2 ni fun b o hb e => (sb.2 b hb).trans e
    obtain ⟨io, ie, ic, idt⟩ := id st'
    have I3 := repin I1 mS nS hS' (nc _ _)
    have mi2 : Mine X ((S, seqO #[] 0) :: pins) it := ⟨mi.l, mi.f, mi.a, mi.c, fun q hq => by
      rcases List.mem_append.mp hq with z | z
      · exact mi.p q (List.mem_append_left _ z)
      · rcases List.mem_cons.mp z with rfl | z
        · exact Ne.symm nn
        · exact mi.p q (List.mem_append_right _ z)⟩
    have I4 := repin I3 mi2 ni ie (fun v z => by rw [idt] at z; cases z)
    show wpAny _ X.A.in1 (tryCatch (holding [u] (call (.ref f) [u])) _ >>= _) _ _ _
    refine wpAny_bind (wpAny_tryCatch (wpAny_holding (wpAny_mono (call_in1 FF hb hr I4 ru (KY.k 0 _ H hx1 (Same.refl H))) (fun kx s2 hh => ?_) fun _ _ z => z)))
    obtain ⟨yk, H2, I5, rk, s12, hdk⟩ := hh
    have ie2 := ClX.pin_at I5
    have ni2 := ClX.pin_un I5
    have I6 := ClX.unpin I5
    have hS3 := ClX.pin_at I6
    have nS2 := ClX.pin_un I6
    have I7 := ClX.unpin I6
    have st3 : s2.heap.IsListIter it a 1 := ⟨io, ie2, ic, idt⟩
    show wpAny _ X.A.in1 (updateSeq S (fun _ => #[u, kx]) >>= _) _ _ _
    refine wpAny_bind ?_
    refine wpAny_updateSeq hS3 rfl ?_
    rw [hname]
    refine wpAny_pure ⟨plainId_quiet F.plain_min_loop _, mk_loop FF hb hr hcalm KY hl mi mS nn _ (hq (by rw [hxs]; simp)) (fun v s' e => e) _ 0 _ H2 u kx xs[0] yk _ rfl hlt (mS.turn (t' := s2.toks) I7 nS2 fun b o hb e => (Heap.get?_update_other _ _ (Ne.symm hb)).trans e) s12 ni2 nS2 (st3.at fun o e => (Heap.get?_update_other _ _ (Ne.symm nn)).trans e)
      (Heap.get?_update_self _ hS3 rfl) hx1 ru rk hdk⟩
end
end SE
/-! sorted(list, key = own function), the keys are data; sorted(list of data). -/
namespace SE
open PySem PySem.Spec PyProof.Rows L2 SeqAt
open PySem.W (alike dataLt AllAlike Sortable dataLe KeyedOut)
/-- the heap without the object at a -/
def lessO (h : Heap) (a : Addr) : Heap := h.update a fun _ => { cls := .none, data := .freed }
theorem lessO_at (h : Heap) (a : Addr) : (lessO h a).get? a = none := by
  unfold lessO Heap.update Heap.get?
  by_cases l : a < h.objs.size
  · simp [l, Array.getElem_modify]
  · simp [l]
theorem lessO_ne {h : Heap} {a b : Addr} (n : b ≠ a) : (lessO h a).get? b = h.get? b := Heap.get?_update_ne _ _ _ _ n
section
variable {X : Cx} {pins : List (Addr × Obj)} {σ : L2.St} {H H' : Hp} {s : Shared} {b : Addr} {o : Obj} {h' : Heap} {t' : Nat}
theorem Mine.fp (m : Mine X pins b) (hn : H b = none) : FpOk X pins H b := ⟨hn, m.l, m.f, m.a, m.c, m.p⟩
theorem call_in2 {k : Nat} {f : Addr} {fd : FuncData} {px : Str} {sp : Sp} {x : V} {u : Value} {Q : VK} {E : Value → Shared → Prop} (F : FnOk X.prog X.w X.K X.mg X.base CX0 k f fd [px] sp) (hb : Binds X.K fd [px] []) (hr : Room (k + 2) X.A) (I : Inv X pins σ H s) (r : RelV x u)
    (h : sp [x] H Q (fun _ _ _ => False)) : wpAny (model X.prog X.w) X.A.in1.in1 (call (.ref f) [u]) (EP X pins σ Q) E s := by
  refine wpAny_call (codeAny_mono (F.run X.A.in1.in1 X.stack s H ⟨[u], []⟩ [u] [x] _ _ hr.in1.in1 I.env0.in1.in1 (by simpa using hb s [u] I.kIn rfl) (.cons r .nil) h) fun r s2 hq => ?_)
  cases r with
  | error e => exact hq.elim
  | ok fl =>
    cases fl with
    | ret z => exact I.after hq
    | next => exact hq.elim
    | brk => exact hq.elim
    | cont => exact hq.elim
end
def sortedI (xs : List V) (kd : Nat → PyData) : List V := ((List.range xs.length).mergeSort (dataLe false kd)).map fun i => xs.getD i .non
theorem vals_each {xs : List V} {us : List Value} (r : Vals xs us) : PySem.W.EachIs (fun v i => ∃ x, xs[i]? = some x ∧ RelV x v) us (List.range xs.length) := by
  refine PySem.W.EachIs.of_zip (by rw [List.length_range, r.length]) ?_
  rintro ⟨v, i⟩ m
  obtain ⟨j, hj⟩ := List.mem_iff_getElem?.mp m
  rw [List.getElem?_zip_eq_some] at hj
  obtain ⟨h1, h2⟩ := hj
  have lt : j < xs.length := by
    have := (List.getElem?_eq_some_iff.mp h1).1
    rw [r.length]
    exact this
  rw [List.getElem?_range lt] at h2
  obtain rfl : j = i := Option.some.inj h2
  obtain ⟨u, hu, ru⟩ := r.get (List.getElem?_eq_getElem lt)
  rw [h1] at hu
  cases hu
  exact ⟨_, List.getElem?_eq_getElem lt, ru⟩
theorem each_vals {xs : List V} : ∀ {out : List Value} {js : List Nat}, PySem.W.EachIs (fun v i => ∃ x, xs[i]? = some x ∧ RelV x v) out js → Vals (js.map fun i => xs.getD i .non) out
  | _, _, .nil => .nil
  | _, _, .cons ⟨x, h1, h2⟩ t => .cons (show L2.RelV (xs.getD _ V.non) _ by rw [List.getD_eq_getElem?_getD, h1]; exact h2) (each_vals t)
section
variable {X : Cx} {k : Nat} {f : Addr} {fd : FuncData} {px : Str} {sp : Sp} {pins : List (Addr × Obj)} {σ : L2.St} {H0 : Hp} {a kS : Addr} {xs : List V} {kd : Nat → PyData} {Q : VK}
/-- the keys so far -/
def KeysAt (K : PySem.W.Frag) (H : Hp) (kd : Nat → PyData) (ys : List V) : Prop := ∀ (j : Nat) y, ys[j]? = some y → Dp K H y (kd j)
theorem KeysAt.snoc {K : PySem.W.Frag} {H : Hp} {ys : List V} {y : V} (h : KeysAt K H kd ys) (d : Dp K H y (kd ys.length)) : KeysAt K H kd (ys ++ [y]) := fun j z e => by
  rcases Nat.lt_or_ge j ys.length with l | l
  · rw [List.getElem?_append_left l] at e
    exact h j z e
  · rw [List.getElem?_append_right l] at e
    have e0 : j - ys.length = 0 := by
      have := (List.getElem?_eq_some_iff.mp e).1
      simp at this
      omega
    have ej : j = ys.length := by omega
    rw [e0] at e
    obtain rfl : y = z := Option.some.inj e
    rw [ej]
    exact d
theorem KeysAt.mono {K : PySem.W.Frag} {H H' : Hp} {ys : List V} (h : KeysAt K H kd ys) (s : Same H H') : KeysAt K H' kd ys := fun j y e => dpSame s _ _ (h j y e)
theorem vals_snoc {ys : List V} {us : List Value} {y : V} {u : Value} (r : Vals ys us) (q : RelV y u) : Vals (ys ++ [y]) (us ++ [u]) := by
  induction r with
  | nil => exact .cons q .nil
  | cons a b ih => exact .cons a ih
theorem keys_read {s : Shared} {H : Hp} {ys : List V} {us : List Value} {n : Nat} (I : Inv X pins σ H s) (r : Vals ys us) (ka : KeysAt X.K H kd ys) (hn : ys.length = n) : PySem.W.EachIs (fun v d => ∃ as, Reads s.heap v d as) us ((List.range n).map kd) := by
  refine PySem.W.EachIs.of_zip (by rw [List.length_map, List.length_range, ← hn, r.length]) ?_
  rintro ⟨v, d⟩ m
  obtain ⟨j, hj⟩ := List.mem_iff_getElem?.mp m
  rw [List.getElem?_zip_eq_some] at hj
  obtain ⟨h1, h2⟩ := hj
  have lt : j < ys.length := by
    have := (List.getElem?_eq_some_iff.mp h1).1
    rw [r.length]
    exact this
  rw [List.getElem?_map, List.getElem?_range (by omega)] at h2
  obtain rfl : kd j = d := Option.some.inj h2
  obtain ⟨u, hu, ru⟩ := r.get (List.getElem?_eq_getElem lt)
  rw [h1] at hu
  cases hu
  exact Dp.reads I (kd j) _ _ (ka j _ (List.getElem?_eq_getElem lt)) ru
theorem sk_rest {vs : List Value} {e1 : Nat} {s : Shared} {E : Value → Shared → Prop} {P : PySem.Fin → Shared → Prop} (FF : FnOk X.prog X.w X.K X.mg X.base CX0 k f fd [px] sp) (hb : Binds X.K fd [px] []) (hr : Room (k + 2) X.A) (KY : Keys X.K sp H0 xs kd) (hal : AllAlike ((List.range xs.length).map kd)) (hsk : Sortable ((List.range xs.length).map kd))
    (I : Inv X pins σ H0 s) (rv : Vals xs vs) (hz : xs.length ≤ sizeLine) (ma : Mine X pins a) (mS : Mine X pins kS) (hne : kS ≠ a) (na : H0 a = none) (nS : H0 kS = none) (at_a : s.heap.get? a = some (seqO #[] e1)) (at_S : s.heap.get? kS = some (seqO #[] 0))
    (hq : ∀ s' H', Inv X pins σ H' s' → Same H0 H' → H' a = some (.lst (sortedI xs kd)) → (∃ H1, Same H0 H1 ∧ H1 a = none ∧ H' = upd H1 a (.lst (sortedI xs kd))) → P (.done (.ret .none)) s') :
    wpAny (model X.prog X.w) X.A.in1.in1 (ksk_rest a (.ref f) false vs.toArray e1 (.ref kS)) P E s := by
  have nc : ∀ (us : Array Value) (c : Nat) (v : Option Value), (seqO us c).data ≠ .cell v := fun us c v z => by cases z
  have lv := rv.length
  unfold ksk_rest
  refine wpAny_bind (wpAny_rule ?_)
  first
    | rw [List.forIn_toArray]
    | (rw [← Array.forIn_toList]; simp only [List.toList_toArray])
  refine wpAny_bind (ksk_fold (fun i s' => ∃ H ys kA e, Inv X pins σ H s' ∧ Same H0 H ∧ H a = none ∧ H kS = none ∧ s'.heap.get? kS = some (seqO kA e) ∧ s'.heap.get? a = some (seqO #[] e1) ∧ Vals ys kA.toList ∧ ys.length = i ∧ KeysAt X.K H kd ys) vs 0 s
    ⟨H0, [], #[], 0, I, Same.refl H0, na, nS, at_S, at_a, .nil, rfl, fun j y e => by simp at e⟩ ?_ ?_)
  · rintro j v s' hv ⟨H, ys, kA, e, I, s0, na, nS, at_S, at_a, ry, hl, ka⟩
    have hj : j < xs.length := by
      rw [lv]
      exact (List.getElem?_eq_some_iff.mp hv).1
    obtain ⟨u, hu, ru⟩ := rv.get (List.getElem?_eq_getElem hj)
    rw [hv] at hu
    cases hu
    have kz : kA.size ≤ sizeLine := by
      have z : ys.length = kA.toList.length := Paired.length ry
      rw [Array.length_toList (xs := kA)] at z
      rw [← z, hl, Nat.zero_add]
      omega
    have I2 := repin I mS nS at_S (nc _ _)
    have ma2 : Mine X ((kS, seqO kA e) :: pins) a := ⟨ma.l, ma.f, ma.a, ma.c, fun q hq => by
      rcases List.mem_append.mp hq with z | z
      · exact ma.p q (List.mem_append_left _ z)
      · rcases List.mem_cons.mp z with rfl | z
        · exact hne
        · exact ma.p q (List.mem_append_right _ z)⟩
    have I3 := repin I2 ma2 na at_a (nc _ _)
    refine wpAny_bind (wpAny_attempt (wpAny_mono (call_in2 FF hb hr I3 ru (KY.k j _ H (List.getElem?_eq_getElem hj) s0)) (fun kx s2 hh => ?_) fun _ _ z => z))
    obtain ⟨yk, H2, I4, rk, s12, hdk⟩ := hh
    have at_a2 := ClX.pin_at I4
    have na2 := ClX.pin_un I4
    have I5 := ClX.unpin I4
    have at_S2 := ClX.pin_at I5
    have nS2 := ClX.pin_un I5
    have I6 := ClX.unpin I5
    dsimp only
    refine wpAny_bind (listUpdate_at at_S2 rfl ?_ kz (by rw [Array.size_push]; omega))
    refine wpAny_pure ⟨rfl, H2, ys ++ [yk], kA.push kx, _, mS.turn (t' := s2.toks) I6 nS2 fun b o hb e => (Heap.get?_update_other _ _ (Ne.symm hb)).trans e, s0.trans s12, na2, nS2, Heap.get?_update_self _ at_S2 rfl, (Heap.get?_update_other _ _ hne).trans at_a2, ?_, by rw [List.length_append, hl]; simp, ?_⟩
    · rw [Array.toList_push]
      exact vals_snoc ry rk
    · refine (ka.mono s12).snoc ?_
      rw [hl, Nat.zero_add]
      exact hdk
  · rintro s' ⟨H, ys, kA, e, I, s0, na, nS, at_S, at_a, ry, hl, ka⟩
    rw [Nat.zero_add, ← lv] at hl
    refine wpAny_bind (listItems_at at_S rfl ?_)
    have hk := keys_read I ry ka hl
    have hu : ∀ d ∈ (List.range xs.length).map kd, X.A.in1.in1.units + d.depth < cLine := fun d m => by
      obtain ⟨i, m2, rfl⟩ := List.mem_map.mp m
      have h1 := KY.dp i (List.mem_range.mp m2)
      have h2 := hr.in1.in1.units
      omega
    have kAl : kA.size = vs.length := by
      have z : ys.length = kA.toList.length := Paired.length ry
      rw [Array.length_toList (xs := kA)] at z
      omega
    refine PySem.W.keyH_end (κ := PySem.W.dataKind s'.heap ((List.range xs.length).map kd)) (h₁ := lessO s'.heap kS) (vs := vs) (fun b o hb q => ?_) (lessO_at _ _) at_S at_a hne (PySem.W.SortsAt.data hk hal hsk hu) kAl (by rw [← lv]; exact hz) fun h3 tk3 c k3 n3 => ?_
    · by_cases e : b = kS
      · rw [e, lessO_at] at q
        cases q
      · rw [lessO_ne e] at q
        exact q
    · have out := PySem.W.keyedOut_each kd (rev := false) ⟨s'.heap, kA.toList, hal, rfl, hk⟩ (vals_each rv)
      have outV := each_vals out
      have I2 : Inv X pins σ H { s' with heap := h3, toks := tk3 } := I.turnedL (t' := tk3) (ch := [a, kS]) (fun b o hb q => k3 b o (fun z => hb (by simp [z])) (by rw [lessO_ne (fun z => hb (by simp [z]))]; exact q)) fun b hb => by
        rcases List.mem_cons.mp hb with rfl | hb
        · exact ma.fp na
        · obtain rfl : b = kS := by simpa using hb
          exact mS.fp nS
      have l2 : (sortedI xs kd).length = xs.length := by
        unfold sortedI
        rw [List.length_map, List.length_mergeSort, List.length_range]
      have I3 : Inv X pins σ (upd H a (.lst (sortedI xs kd))) { s' with heap := h3, toks := tk3 } := I2.take (t' := tk3) (fun b o _ e => e) (ma.fp na) ⟨by rw [l2]; exact hz, _, _, outV, n3⟩
      exact hq _ _ I3 (s0.trans (Same.new na)) upd_same ⟨H, s0, na, rfl⟩
/-- sorted(list, key = f) -/
def rSortK (K : PySem.W.Frag) (f : Addr) (sp : Sp) : List V → List V → Hp → VK → Prop := fun vs zs H Q => ∃ (l : Addr) (xs : List V) (kd : Nat → PyData), vs = [.ref l] ∧ zs = [.ref f] ∧ SqL K H l xs ∧ Keys K sp H xs kd ∧ AllAlike ((List.range xs.length).map kd) ∧ Sortable ((List.range xs.length).map kd) ∧
  ∀ H1 p, Same H H1 → H1 p = none → Q (.ref p) (upd H1 p (.lst (sortedI xs kd)))
theorem call_sortK (FF : FnOk X.prog X.w X.K X.mg X.base CX0 k f fd [px] sp) (hb : Binds X.K fd [px] []) (hr : Room (k + 2) X.A) : CallRK X (.builtin "sorted") [Str.ofString "key"] (rSortK X.K f sp) := by
  intro pins s σ H vs zs us ws Q I r1 r2 h
  obtain ⟨l, xs, kd, rfl, rfl, hl, KY, hal, hsk, hq⟩ := h
  obtain ⟨ul, rfl, rl⟩ : ∃ ul, us = [ul] ∧ RelV (.ref l) ul := by
    cases r1 with
    | cons p q =>
      cases q
      exact ⟨_, rfl, p⟩
  cases rl
  obtain ⟨uf, rfl, rf⟩ : ∃ uf, ws = [uf] ∧ RelV (.ref f) uf := by
    cases r2 with
    | cons p q =>
      cases q
      exact ⟨_, rfl, p⟩
  cases rf
  show wpAny (model X.prog X.w) X.A (call (.builtin "sorted") [.ref l] [(Str.ofString "key", .ref f)]) (EP X pins σ Q) X.xe s
  obtain ⟨its, rv, pl, hz⟩ := I.list hl
  have lv := rv.length
  have hzi : its.length ≤ sizeLine := by omega
  refine PySem.W.sorted_of_sort pl.isList hzi (ksk_s1 _ _) (fun _ => ksk_l1 _ _) fun E' => ?_
  rw [ksk_t1]
  unfold ksk_tree
  have at1 := PySem.W.copyHeap_at s.heap its
  obtain ⟨e1, at2⟩ : ∃ e1, ((PySem.W.copyHeap s.heap its).update (s.heap.objs.size + 1) (Obj.mapSeq fun _ => (#[] : Array Value))).get? (s.heap.objs.size + 1) = some (seqObj "list" #[] e1) := ⟨_, get?_update_seq at1 fun _ => #[]⟩
  refine wpAny_bind (listItems_at at1 rfl ?_)
  refine wpAny_bind (listUpdate_at at1 rfl ?_ (by rw [List.size_toArray]; exact hzi) (Nat.zero_le _))
  refine wpAny_bind (seqEpoch_at at2 rfl ?_)
  refine wpAny_bind (wpAny_newTuple ?_ (by show its.length ≤ _; exact hzi))
  refine wpAny_bind (wpAny_newList ?_ (Nat.zero_le _))
  refine wpAny_holding ?_
  have I1 : Inv X pins σ H { s with heap := PySem.W.sortingHeap (PySem.W.copyHeap s.heap its) (s.heap.objs.size + 1) its } := I.kept (t' := s.toks) fun b o e => PySem.W.sorting_copy_old e
  have na : H (s.heap.objs.size + 1) = none := I.hok.fresh (Nat.le_succ _)
  generalize hS : (((PySem.W.copyHeap s.heap its).update (s.heap.objs.size + 1) (Obj.mapSeq fun _ => (#[] : Array Value))).push { cls := .type "tuple", data := .seq its.toArray }).objs.size = kS
  have big : s.heap.objs.size + 1 < kS := by
    have h1 := Heap.lt_size at1
    rw [← hS, size_push', Heap.size_update]
    exact Nat.lt_succ_of_lt h1
  have nS : H kS = none := I.hok.fresh (by omega)
  have at_S : (PySem.W.sortingHeap (PySem.W.copyHeap s.heap its) (s.heap.objs.size + 1) its).get? kS = some (seqO #[] 0) := by
    rw [← hS]
    exact Heap.get?_push_size _ rfl
  have at_a : (PySem.W.sortingHeap (PySem.W.copyHeap s.heap its) (s.heap.objs.size + 1) its).get? (s.heap.objs.size + 1) = some (seqO #[] e1) := Heap.get?_push_of_some _ (Heap.get?_push_of_some _ at2)
  refine sk_rest (s := { s with heap := PySem.W.sortingHeap (PySem.W.copyHeap s.heap its) (s.heap.objs.size + 1) its }) FF hb hr KY hal hsk I1 rv hz (Mine.of I (Nat.le_succ _) na) (Mine.of I (Nat.le_of_lt (Nat.lt_of_succ_lt big)) nS) (Nat.ne_of_gt big) na nS at_a at_S fun s' H' I' _ _ ⟨H1, s1, n1, eH⟩ => ⟨rfl, ?_⟩
  rw [eH] at I'
  exact ⟨.ref (s.heap.objs.size + 1), _, I', rfl, hq H1 _ s1 n1⟩
/-- sorted(list of data) -/
def rSortD (K : PySem.W.Frag) : List V → Hp → VK → Prop := fun vs H Q => ∃ (l : Addr) (xs : List V) (kd : Nat → PyData), vs = [.ref l] ∧ SqL K H l xs ∧ (∀ (i : Nat) x, xs[i]? = some x → Dp K H x (kd i)) ∧ AllAlike ((List.range xs.length).map kd) ∧ Sortable ((List.range xs.length).map kd) ∧ (∀ i, i < xs.length → (kd i).depth ≤ 20) ∧
  ∀ p, H p = none → Q (.ref p) (upd H p (.lst (sortedI xs kd)))
theorem call_sortD (hu : X.A.units + 30 < cLine) : CallR X (.builtin "sorted") (rSortD X.K) := by
  intro pins s σ H vs us Q I r h
  obtain ⟨l, xs, kd, rfl, hl, hd, hal, hsk, hdp, hq⟩ := h
  obtain ⟨ul, rfl, rl⟩ := vals1 r
  cases rl
  obtain ⟨its, rv, pl, hz⟩ := I.list hl
  have lv := rv.length
  refine PySem.W.sorted_data (enc := kd) (bs := List.range xs.length) pl.isList (vals_each rv) (keys_read I rv (fun j y e => hd j y e) rfl |> PySem.W.each_of_map kd) hal hsk (by rw [List.length_range]; exact hz) (fun i m => ?_) fun out l2 eo => ?_
  · have := hdp i (List.mem_range.mp m)
    omega
  · obtain ⟨c, hc⟩ := sortedAll_at s.heap its out.toArray
    have na : H (s.heap.objs.size + 1) = none := I.hok.fresh (Nat.le_succ _)
    have l3 : (sortedI xs kd).length = xs.length := by
      unfold sortedI
      rw [List.length_map, List.length_mergeSort, List.length_range]
    have I2 : Inv X pins σ (upd H (s.heap.objs.size + 1) (.lst (sortedI xs kd))) { s with heap := sortedAll s.heap its out.toArray } := I.laid (t' := s.toks) (fun b o e => sortedAll_old e) (Nat.le_succ _) ⟨by rw [l3]; exact hz, _, _, each_vals eo, hc⟩
    exact ⟨.ref (s.heap.objs.size + 1), _, I2, rfl, hq _ na⟩
end
end SE
namespace SE
open PySem PySem.Spec PyProof.Rows L2 SeqAt
open PySem.W (alike alikeAll dataLt)
/-! ### groups of indexes by result -/
abbrev Res := Option (List Str)
abbrev Grp := List (Res × List Nat)
def addG (k : Res) (i : Nat) : Grp → Grp
  | [] => [(k, [i])]
  | g :: rest => if g.1 = k then (g.1, g.2 ++ [i]) :: rest else g :: addG k i rest
def grpM (rs : List Res) : Nat → Grp
  | 0 => []
  | n + 1 => addG (rs.getD n none) n (grpM rs n)
theorem addG_len (k : Res) (i : Nat) : ∀ G : Grp, (addG k i G).length ≤ G.length + 1
  | [] => Nat.le_refl _
  | g :: rest => by
    unfold addG
    split
    · simp
    · have := addG_len k i rest
      simp only [List.length_cons]
      omega
theorem grpM_len (rs : List Res) : ∀ n, (grpM rs n).length ≤ n
  | 0 => Nat.le_refl _
  | n + 1 => Nat.le_trans (addG_len _ _ _) (Nat.succ_le_succ (grpM_len rs n))
theorem addG_mem {k : Res} {i : Nat} : ∀ {G : Grp} {g : Res × List Nat}, g ∈ addG k i G → (∃ g0 ∈ G, g.1 = g0.1 ∧ (g.2 = g0.2 ∨ g.2 = g0.2 ++ [i])) ∨ g = (k, [i])
  | [], g, h => .inr (by simpa [addG] using h)
  | q :: rest, g, h => by
    unfold addG at h
    split at h
    · rcases List.mem_cons.mp h with e | m
      · exact .inl ⟨q, List.mem_cons_self, by rw [e], .inr (by rw [e])⟩
      · exact .inl ⟨g, List.mem_cons_of_mem _ m, rfl, .inl rfl⟩
    · rcases List.mem_cons.mp h with e | m
      · exact .inl ⟨q, List.mem_cons_self, by rw [e], .inl (by rw [e])⟩
      · rcases addG_mem m with ⟨g0, m0, e⟩ | e
        · exact .inl ⟨g0, List.mem_cons_of_mem _ m0, e⟩
        · exact .inr e
theorem grpM_lists (rs : List Res) : ∀ n, ∀ g ∈ grpM rs n, g.2.length ≤ n ∧ ∀ j ∈ g.2, j < n
  | 0, g, h => by cases h
  | n + 1, g, h => by
    rcases addG_mem h with ⟨g0, m0, _, e | e⟩ | e
    · obtain ⟨a, b⟩ := grpM_lists rs n g0 m0
      rw [e]
      exact ⟨by omega, fun j hj => Nat.lt_succ_of_lt (b j hj)⟩
    · obtain ⟨a, b⟩ := grpM_lists rs n g0 m0
      rw [e, List.length_append, List.length_singleton]
      refine ⟨by omega, fun j hj => ?_⟩
      rcases List.mem_append.mp hj with q | q
      · exact Nat.lt_succ_of_lt (b j q)
      · rw [List.mem_singleton.mp q]
        exact Nat.lt_succ_self _
    · rw [e]
      refine ⟨by show 1 ≤ n + 1; omega, fun j hj => ?_⟩
      rw [List.mem_singleton.mp hj]
      exact Nat.lt_succ_self _
theorem grpM_keys {rs : List Res} : ∀ {n : Nat}, n ≤ rs.length → ∀ g ∈ grpM rs n, g.1 ∈ rs
  | 0, _, g, h => by cases h
  | n + 1, l, g, h => by
    rcases addG_mem h with ⟨g0, m0, e, _⟩ | e
    · rw [e]
      exact grpM_keys (by omega) g0 m0
    · rw [e]
      show rs.getD n none ∈ rs
      rw [List.getD_eq_getElem?_getD, List.getElem?_eq_getElem (show n < rs.length by omega)]
      exact List.getElem_mem _
/-- a row and its group -/
def RowG (H : Hp) (r : RowV) (g : Res × List Nat) : Prop := r.1 = g.1 ∧ H r.2.2 = some (.lst (g.2.map nV))
theorem RowG.mono {H H' : Hp} {rows : List RowV} {G : Grp} (h : Paired (RowG H) rows G) (s : ∀ r ∈ rows, ∀ us, H r.2.2 = some (.lst us) → H' r.2.2 = some (.lst us)) : Paired (RowG H') rows G := by
  induction h with
  | nil => exact .nil
  | @cons r g rows G a b ih => exact .cons ⟨a.1, s r List.mem_cons_self _ a.2⟩ (ih fun q m => s q (List.mem_cons_of_mem _ m))
theorem row_absent {k : Res} : ∀ {rows : List RowV} {G : Grp} {H : Hp} (i : Nat) (y : V) (l : Addr), Paired (RowG H) rows G → rowAt k rows = none → addG k i G = G ++ [(k, [i])] ∧ rowPut k y l rows = rows ++ [(k, y, l)]
  | [], _, _, i, y, l, .nil, _ => ⟨rfl, rfl⟩
  | r :: rows, g :: G, H, i, y, l, .cons a b, h => by
    unfold rowAt at h
    by_cases e : r.1 = k
    · rw [if_pos e] at h
      cases h
    · rw [if_neg e] at h
      obtain ⟨h1, h2⟩ := row_absent i y l b h
      unfold addG rowPut
      rw [if_neg e, if_neg (show ¬ g.1 = k from fun z => e (a.1.trans z)), h1, h2]
      exact ⟨rfl, rfl⟩
theorem rowAt_mem {k : Res} {l : Addr} : ∀ {rows : List RowV}, rowAt k rows = some l → ∃ r ∈ rows, r.1 = k ∧ r.2.2 = l
  | [], h => by cases h
  | r :: rows, h => by
    unfold rowAt at h
    split at h
    · rename_i e
      exact ⟨r, List.mem_cons_self, e, Option.some.inj h⟩
    · obtain ⟨q, m, e⟩ := rowAt_mem h
      exact ⟨q, List.mem_cons_of_mem _ m, e⟩
/-- the list of a row grows -/
theorem row_grows {k : Res} {l : Addr} : ∀ {rows : List RowV} {G : Grp} {H : Hp} (i : Nat), Paired (RowG H) rows G → (rows.map (·.2.2)).Nodup → rowAt k rows = some l → ∃ xs : List Nat, H l = some (.lst (xs.map nV)) ∧ (∃ g ∈ G, g.2 = xs) ∧ Paired (RowG (upd H l (.lst ((xs ++ [i]).map nV)))) rows (addG k i G)
  | [], _, _, _, .nil, _, h => by cases h
  | r :: rows, g :: G, H, i, .cons a b, nd, h => by
    have nd2 := List.nodup_cons.mp nd
    unfold rowAt at h
    by_cases e : r.1 = k
    · rw [if_pos e] at h
      have el : r.2.2 = l := Option.some.inj h
      refine ⟨g.2, by rw [← el]; exact a.2, ⟨g, List.mem_cons_self, rfl⟩, ?_⟩
      unfold addG
      rw [if_pos (show g.1 = k from a.1.symm.trans e)]
      refine .cons ⟨a.1, by rw [el]; exact upd_same⟩ (RowG.mono b fun q m us hq => ?_)
      rw [upd_ne (fun z => nd2.1 (by show r.2.2 ∈ _; rw [el, ← z]; exact List.mem_map.mpr ⟨q, m, rfl⟩))]
      exact hq
    · rw [if_neg e] at h
      obtain ⟨xs, h1, ⟨g0, m0, e0⟩, h2⟩ := row_grows i b nd2.2 h
      obtain ⟨q, m, _, eq⟩ := rowAt_mem h
      refine ⟨xs, h1, ⟨g0, List.mem_cons_of_mem _ m0, e0⟩, ?_⟩
      unfold addG
      rw [if_neg (show ¬ g.1 = k from fun z => e (a.1.trans z))]
      refine .cons ⟨a.1, ?_⟩ h2
      rw [upd_ne (fun z => nd2.1 (by show r.2.2 ∈ _; rw [z, ← eq]; exact List.mem_map.mpr ⟨q, m, rfl⟩))]
      exact a.2
/-- a row gets another list -/
theorem row_other {k : Res} {l : Addr} : ∀ {rows : List RowV} {G : Grp} {H : Hp} (i : Nat) (y : V), Paired (RowG H) rows G → rowAt k rows = some l → ∃ xs : List Nat, H l = some (.lst (xs.map nV)) ∧ (∃ g ∈ G, g.2 = xs) ∧ ∀ (H' : Hp) (m : Addr), (∀ r ∈ rows, ∀ us, H r.2.2 = some (.lst us) → H' r.2.2 = some (.lst us)) → H' m = some (.lst ((xs ++ [i]).map nV)) → Paired (RowG H') (rowPut k y m rows) (addG k i G)
  | [], _, _, _, _, .nil, h => by cases h
  | r :: rows, g :: G, H, i, y, .cons a b, h => by
    unfold rowAt at h
    by_cases e : r.1 = k
    · rw [if_pos e] at h
      have el : r.2.2 = l := Option.some.inj h
      refine ⟨g.2, by rw [← el]; exact a.2, ⟨g, List.mem_cons_self, rfl⟩, fun H' m s hm => ?_⟩
      unfold addG rowPut
      rw [if_pos e, if_pos (show g.1 = k from a.1.symm.trans e)]
      exact .cons ⟨a.1, hm⟩ (RowG.mono b fun q mq => s q (List.mem_cons_of_mem _ mq))
    · rw [if_neg e] at h
      obtain ⟨xs, h1, ⟨g0, m0, e0⟩, h2⟩ := row_other i y b h
      refine ⟨xs, h1, ⟨g0, List.mem_cons_of_mem _ m0, e0⟩, fun H' m s hm => ?_⟩
      unfold addG rowPut
      rw [if_neg e, if_neg (show ¬ g.1 = k from fun z => e (a.1.trans z))]
      exact .cons ⟨a.1, s r List.mem_cons_self _ a.2⟩ (h2 H' m (fun q mq => s q (List.mem_cons_of_mem _ mq)) hm)
theorem rowG_snoc {H : Hp} {r : RowV} {g : Res × List Nat} : ∀ {rows : List RowV} {G : Grp}, Paired (RowG H) rows G → RowG H r g → Paired (RowG H) (rows ++ [r]) (G ++ [g])
  | _, _, .nil, q => .cons q .nil
  | _, _, .cons a b, q => .cons a (rowG_snoc b q)
theorem ow_key {K : PySem.W.Frag} {H : Hp} {v : V} : ∀ {o : Res}, OW K H v o → KeyV K H v o
  | none, h => h
  | some _, h => h
theorem key_ow {K : PySem.W.Frag} {H : Hp} {v : V} : ∀ {o : Res}, KeyV K H v o → OW K H v o
  | none, h => h
  | some _, h => h
/-- the dict at d holds the groups G, in lists of its own -/
structure DictG (w : World) (K : PySem.W.Frag) (H0 H : Hp) (d : Addr) (G : Grp) : Prop where
  ex : ∃ rows, H d = some (rowsO w d rows) ∧ RowsK K H rows ∧ Paired (RowG H) rows G ∧ (rows.map (·.2.2)).Nodup ∧ ∀ r ∈ rows, H0 r.2.2 = none
end SE
namespace SE
open PySem PySem.Spec PyProof.Rows L2 SeqAt
open PySem.W (alike alikeAll dataLt)
structure RowsG (w : World) (K : PySem.W.Frag) (H0 H : Hp) (d : Addr) (rows : List RowV) (G : Grp) : Prop where
  d : H d = some (rowsO w d rows)
  k : RowsK K H rows
  p : Paired (RowG H) rows G
  n : (rows.map (·.2.2)).Nodup
  z : ∀ r ∈ rows, H0 r.2.2 = none
section
variable {w : World} {K : PySem.W.Frag} {H0 H H' : Hp} {d l m : Addr} {rows : List RowV} {G : Grp} {k : Res} {y : V}
theorem RowsG.lists (g : RowsG w K H0 H d rows G) : ∀ r ∈ rows, ∃ us, H r.2.2 = some (.lst us) := by
  have := g.p
  clear g
  induction this with
  | nil => exact fun r h => by cases h
  | cons a b ih => exact fun r h => (List.mem_cons.mp h).elim (fun e => by rw [e]; exact ⟨_, a.2⟩) (ih r)
theorem RowsG.same (g : RowsG w K H0 H d rows G) (s : Same H H') : RowsG w K H0 H' d rows G :=
  ⟨s _ _ g.d, g.k.mono fun b xs q => Same.tup s q, RowG.mono g.p fun r _ us q => s _ _ q, g.n, g.z⟩
theorem tup_lst {us vs : List V} (h : H l = some (.lst us)) : ∀ b xs, SqT K H b xs → SqT K (upd H l (.lst vs)) b xs := fun b xs q => by
  rcases q with (q | ⟨o, q⟩) | q
  · exact .inl (.inl (by rw [upd_ne (ne_of q h (fun z => nomatch z))]; exact q))
  · exact .inl (.inr ⟨o, by rw [upd_ne (ne_of q h (fun z => nomatch z))]; exact q⟩)
  · exact .inr q
theorem rowPut_adr : ∀ {rows : List RowV}, (rows.map (·.2.2)).Nodup → (∀ r ∈ rows, r.2.2 ≠ m) → ((rowPut k y m rows).map (·.2.2)).Nodup
  | [], _, _ => by simp [rowPut]
  | q :: rest, h, hm => by
    have h2 := List.nodup_cons.mp h
    have hm2 : ∀ r ∈ rest, r.2.2 ≠ m := fun r mr => hm r (List.mem_cons_of_mem _ mr)
    unfold rowPut
    split
    · refine List.nodup_cons.mpr ⟨fun mm => ?_, h2.2⟩
      obtain ⟨r, mr, e⟩ := List.mem_map.mp mm
      exact hm2 r mr e
    · refine List.nodup_cons.mpr ⟨fun mm => ?_, rowPut_adr h2.2 hm2⟩
      obtain ⟨r, mr, e⟩ := List.mem_map.mp mm
      rcases rowPut_adr_mem mr with ⟨r0, m0, e0⟩ | e0
      · exact h2.1 (List.mem_map.mpr ⟨r0, m0, e0.symm.trans e⟩)
      · exact hm q List.mem_cons_self ((show q.2.2 = r.2.2 from e.symm).trans e0)
where
  rowPut_adr_mem : ∀ {rows : List RowV} {r : RowV}, r ∈ rowPut k y m rows → (∃ r0 ∈ rows, r.2.2 = r0.2.2) ∨ r.2.2 = m
    | [], r, h => by
      have e : r = (k, y, m) := by simpa [rowPut] using h
      exact .inr (by rw [e])
    | q :: rest, r, h => by
      unfold rowPut at h
      split at h
      · rcases List.mem_cons.mp h with e | mr
        · exact .inr (by rw [e])
        · exact .inl ⟨r, List.mem_cons_of_mem _ mr, rfl⟩
      · rcases List.mem_cons.mp h with e | mr
        · exact .inl ⟨q, List.mem_cons_self, by rw [e]⟩
        · rcases rowPut_adr_mem mr with ⟨r0, m0, e⟩ | e
          · exact .inl ⟨r0, List.mem_cons_of_mem _ m0, e⟩
          · exact .inr e
theorem RowsG.grow (i : Nat) (g : RowsG w K H0 H d rows G) (h : rowAt k rows = some l) : ∃ xs : List Nat, H l = some (.lst (xs.map nV)) ∧ (∃ q ∈ G, q.2 = xs) ∧ H0 l = none ∧ RowsG w K H0 (upd H l (.lst ((xs ++ [i]).map nV))) d rows (addG k i G) := by
  obtain ⟨xs, h1, h2, h3⟩ := row_grows i g.p g.n h
  obtain ⟨r, mr, _, er⟩ := rowAt_mem h
  refine ⟨xs, h1, h2, by rw [← er]; exact g.z r mr, ?_, g.k.mono (tup_lst h1), h3, g.n, g.z⟩
  rw [upd_ne (ne_of g.d h1 (fun z => nomatch z))]
  exact g.d
theorem RowsG.put (i : Nat) (g : RowsG w K H0 H d rows G) (xs : List Nat) (hx : ∀ l, rowAt k rows = some l → H l = some (.lst (xs.map nV))) (h0 : rowAt k rows = none → xs = []) (hy : KeyV K H y k) (hm : H m = some (.lst ((xs ++ [i]).map nV))) (ne : ∀ r ∈ rows, r.2.2 ≠ m) (z0 : H0 m = none) :
    RowsG w K H0 (upd H d (rowsO w d (rowPut k y m rows))) d (rowPut k y m rows) (addG k i G) := by
  have nd : ∀ {b : Addr} {us : List V} {o : HO}, H b = some (.lst us) → (upd H d o) b = some (.lst us) := fun q => by
    rw [upd_ne (ne_of q g.d (fun z => nomatch z))]
    exact q
  have t := rows_tup (K := K) (o := rowsO w d (rowPut k y m rows)) g.d
  refine ⟨upd_same, (g.k.put m hy).mono t, ?_, rowPut_adr g.n ne, fun r mr => ?_⟩
  · cases q : rowAt k rows with
    | none =>
      obtain ⟨e1, e2⟩ := row_absent i y m g.p q
      rw [e1, e2]
      refine rowG_snoc (RowG.mono g.p fun r _ us hr => nd hr) ⟨rfl, ?_⟩
      have := h0 q
      subst this
      exact nd hm
    | some l =>
      obtain ⟨xs2, h1, _, h3⟩ := row_other i y g.p q
      have e : xs2.map nV = xs.map nV := by
        have e := h1.symm.trans (hx l q)
        exact HO.lst.inj (Option.some.inj e)
      refine h3 _ m (fun r _ us hr => nd hr) ?_
      rw [List.map_append, e, ← List.map_append]
      exact nd hm
  · rcases rowPut_adr.rowPut_adr_mem mr with ⟨r0, m0, e⟩ | e
    · rw [e]
      exact g.z r0 m0
    · rw [e]
      exact z0
end
end SE
namespace SE
open PySem PySem.Spec PyProof.Rows L2 SeqAt
open PySem.W (alike alikeAll dataLt)
section
variable {P : Program} {w : World} {K : PySem.W.Frag} {mg : Str → Option Value} {base : Heap} {C : Addr}
/-! ### indexes_by_result -/
def resM (os : List Eff) (zs : List Str) : List Res := os.map fun o => replM o zs
def spIdx (w : World) (K : PySem.W.Frag) (C : Addr) : Sp := fun vs H Q _ => ∃ (L a : Addr) (es : List Addr) (os : List Eff) (zs : List Str), vs = [.ref L, .ref a] ∧ SqL K H L (es.map V.ref) ∧ Paired (EffV K C H) es os ∧ (∀ o ∈ os, EffOk o) ∧ es.length ≤ 20 ∧ SqT K H a (zs.map V.str) ∧ (∀ z ∈ zs, Item z) ∧ zs.length ≤ 1000 ∧
  ∀ (d : Addr) (rows : List RowV) (H' : Hp), Same H H' → H d = none → RowsG w K H H' d rows (grpM (resM os zs) es.length) → Q (.ref d) H'
abbrev nIx : List Str := ["candidates", "stack", "indexes", "index", "effect"]
theorem scIx : FnScope nIx ["candidates", "stack"] (defScope sIndexesByResult) := ⟨rfl, rfl, rfl, by decide +kernel, rfl, by decide +kernel, by decide +kernel⟩
theorem has_idx (D : Def K mg "indexes_by_result" sIndexesByResult) (GR : Has P w K mg base "replaced" 3 ["effect", "stack"] [] (spRepd K C)) (B : Blt mg) : Has P w K mg base "indexes_by_result" 4 ["candidates", "stack"] [] (spIdx w K C) := by
  refine has_of D scIx (fun _ _ _ _ _ _ us hl => match us, hl with | [_, _], _ => rfl) (fun xs H Q E h => ?_) (fun f cv A out s H xs Q E hr h => ?_)
  · obtain ⟨L, a, es, os, zs, rfl, _⟩ := h
    rfl
  · obtain ⟨L, a, es, os, zs, rfl, hL, hE, oE, l1, hT, hI, hl, k⟩ := h
    refine ⟨_, pss_cons (ps_set (i := 2) scIx.nd rfl (.inl rfl) pe_rowsNew)
      (pss_cons (ps_for PassesOwn.never rfl (pi_enum (by rfl) B.enu (pa_cons (pv 0) pa_nil)) (pg_tup (by rfl) (pgs_cons (pg_name (i := 3) scIx.nd rfl (.inl rfl)) (pgs_cons (pg_name (i := 4) scIx.nd rfl (.inl rfl)) pgs_nil)))
        (pss_one (ps_expr (pe_bm PySem.F.plainAttrs_list PySem.F.slot_list_append PySem.F.type_list_append mt_append (pe_rowSetD (by have := hr.un; show (A.deeper _).units + 9 < cLine; omega) (pv 2) (pe_has GR hr (pa_cons (pv 4) (pa_cons (pv 1) pa_nil))) (pe_lst pa_nil) ⟨rfl, rfl, rfl, rfl⟩) (pa_cons (pv 3) pa_nil)))))
      (pss_one (ps_ret (pv 2)))), ?_⟩
    intro d hd
    have s1 : Same H (upd H d (rowsO w d [])) := Same.new hd
    have g1 : RowsG w K H (upd H d (rowsO w d [])) d [] (grpM (resM os zs) 0) := ⟨upd_same, RowsK.nil, .nil, List.nodup_nil, fun r h => by cases h⟩
    refine ⟨_, rfl, L, es.map V.ref, rfl, Same.seq s1 hL, for_it (walk_enum (K := K) (a := L) (xs := es.map V.ref)) (fun i σ H2 => ∃ y3 y4 rows, σ = [some (.ref L), some (.ref a), some (.ref d), y3, y4] ∧ Same H H2 ∧ RowsG w K H H2 d rows (grpM (resM os zs) i)) ⟨none, none, [], rfl, s1, g1⟩ (fun i σ H2 _ q => ?_) ?_ ?_⟩
    · obtain ⟨_, _, _, _, s2, _⟩ := q
      exact Same.seq s2 hL
    · rintro i x σ H2 H3 hi ⟨y3, y4, rows, rfl, s2, g⟩ ⟨T, p, y, rfl, nT, rfl, hp, hy⟩
      refine ⟨T, _, rfl, .of upd_same, rfl, _, _, rfl, _, _, rfl, rfl, ?_⟩
      have hp := Option.some.inj hp
      subst hp
      dsimp only at hy
      rw [List.getElem?_map] at hy
      obtain ⟨e, he, rfl⟩ := Option.map_eq_some_iff.mp hy
      obtain ⟨o, ho, hV⟩ := paired_at hE he
      have s3 : Same H2 (upd H2 T (.tup [.int (i : Nat), .ref e])) := Same.new nT
      have g3 := g.same s3
      have s03 := s2.trans s3
      generalize upd H2 T (.tup [.int (i : Nat), .ref e]) = H4 at s3 g3 s03
      have er : (resM os zs).getD i none = replM o zs := by
        unfold resM
        rw [List.getD_eq_getElem?_getD, List.getElem?_map, ho]
        rfl
      have il : i < es.length := (List.getElem?_eq_some_iff.mp he).1
      refine ⟨_, rfl, d, rows, rfl, .of g3.d, _, rfl, _, rfl, e, a, o, zs, rfl, hV.same s03, oE o (List.mem_of_getElem? ho), Same.tup s03 hT, hI, hl, fun v H5 s5 hv => ?_⟩
      refine ⟨(by show 0 ≤ sizeLine; decide), fun l hl5 => ?_⟩
      have s6 : Same H5 (upd H5 l (.lst [])) := Same.new hl5
      have s06 := (s03.trans s5).trans s6
      have g6 := g3.same (s5.trans s6)
      have ne : ∀ r ∈ rows, r.2.2 ≠ l := fun r mr z => by
        obtain ⟨us, hu⟩ := (g3.same s5).lists r mr
        rw [z, hl5] at hu
        cases hu
      have hl6 : (upd H5 l (.lst [])) l = some (.lst []) := upd_same
      have z0 : H l = none := by
        cases q : H l with
        | none => rfl
        | some u =>
          have := (s03.trans s5) _ _ q
          rw [hl5] at this
          cases this
      have kv : KeyV K (upd H5 l (.lst [])) v (replM o zs) := ow_key (hv.same s6)
      generalize upd H5 l (.lst []) = H6 at s6 s06 g6 hl6 kv
      have lg : rows.length ≤ i := by
        rw [paired_len g6.p]
        exact grpM_len _ _
      have fin : ∀ {H7 : Hp} {rows' : List RowV}, Same H H7 → RowsG w K H H7 d rows' (addG (replM o zs) i (grpM (resM os zs) i)) → ∃ y3 y4 rows, [some (V.ref L), some (V.ref a), some (V.ref d), some (V.int (i : Nat)), some (V.ref e)] = [some (V.ref L), some (V.ref a), some (V.ref d), y3, y4] ∧ Same H H7 ∧ RowsG w K H H7 d rows (grpM (resM os zs) (i + 1)) := fun {H7 rows'} s7 g7 => by
        refine ⟨_, _, rows', rfl, s7, ?_⟩
        show RowsG w K H H7 d rows' (addG ((resM os zs).getD i none) i (grpM (resM os zs) i))
        rw [er]
        exact g7
      refine ⟨replM o zs, l, rfl, g6.d, g6.k, kv, Nat.lt_of_le_of_lt (Nat.le_trans lg (show i ≤ 20 by omega)) (by decide), fun l0 q => ?_, fun q => ?_⟩
      · obtain ⟨xs, h1, ⟨g0, m0, e0⟩, z1, g7⟩ := g6.grow i q
        have lx := (grpM_lists _ _ g0 m0).1
        rw [e0] at lx
        refine ⟨.inl ⟨rfl, _, .inl (.inl h1)⟩, _, rfl, l0, _, .int (i : Nat), rfl, rfl, h1, ?_, ?_⟩
        · rw [List.length_map]
          exact Nat.lt_of_le_of_lt (show xs.length ≤ 20 by omega) (by decide)
        · rw [List.map_append] at g7
          exact fin (Same.free2 s06 z1) g7
      · have h7 : (upd H6 d (rowsO w d (rowPut (replM o zs) v l rows))) l = some (.lst []) := by
          rw [upd_ne (ne_of hl6 g6.d (fun z => nomatch z))]
          exact hl6
        refine ⟨.inl ⟨rfl, _, .inl (.inl h7)⟩, _, rfl, l, _, .int (i : Nat), rfl, rfl, h7, (by show 0 < sizeLine; decide), ?_⟩
        have g8 := (RowsG.put (w := w) (m := l) (H := upd H6 l (.lst [nV i])) i ⟨by rw [upd_ne (ne_of g6.d hl6 (fun z => nomatch z))]; exact g6.d, g6.k.mono (tup_lst hl6), RowG.mono g6.p fun r mr us hr => by rw [upd_ne (ne r mr)]; exact hr, g6.n, g6.z⟩ [] (fun l2 q2 => by rw [q] at q2; cases q2) (fun _ => rfl) (kv.mono (tup_lst hl6)) upd_same ne z0)
        have e8 : upd (upd H6 l (.lst [nV i])) d (rowsO w d (rowPut (replM o zs) v l rows)) = upd (upd H6 d (rowsO w d (rowPut (replM o zs) v l rows))) l (.lst ([] ++ [V.int (i : Nat)])) := by
          funext b
          unfold upd
          by_cases b1 : b = d
          · have n1 : ¬ b = l := fun z => ne_of g6.d hl6 (fun z => nomatch z) (b1.symm.trans z)
            simp only [if_pos b1, if_neg n1]
          · simp only [if_neg b1]
            rfl
        rw [e8] at g8
        exact fin (Same.free2 (Same.free2 s06 hd) z0) g8
    · rintro σ H2 ⟨y3, y4, rows, rfl, s2, g⟩
      rw [List.length_map] at g
      exact ⟨_, rfl, k d rows H2 s2 hd g⟩
end
end SE
namespace SE
open PySem PySem.Spec PyProof.Rows L2 SeqAt
open PySem.W (alike alikeAll dataLt AllAlike Sortable dataLe)
/-! ### words by their height -/
def keyD (xs : List Str) : PyData := .tuple [.int xs.length, .tuple (xs.map .str)]
theorem alike_strs : ∀ xs ys : List Str, alikeAll (xs.map PyData.str) (ys.map PyData.str) = true
  | [], [] => by unfold alikeAll; rfl
  | [], _ :: _ => by simp [alikeAll]
  | _ :: _, [] => by simp [alikeAll]
  | x :: xs, y :: ys => by
    have ih := alike_strs xs ys
    simp only [List.map_cons, alikeAll, ih, Bool.and_true]
    simp [alike]
theorem alike_key (xs ys : List Str) : alike (keyD xs) (keyD ys) = true := by
  have h := alike_strs xs ys
  unfold keyD
  simp [alike, alikeAll, h]
theorem depth_strs : ∀ xs : List Str, PyData.depthAll (xs.map .str) = 0
  | [] => by simp [PyData.depthAll]
  | x :: xs => by simp [PyData.depthAll, PyData.depth, depth_strs xs]
theorem depth_key (xs : List Str) : (keyD xs).depth ≤ 20 := by
  unfold keyD
  simp [PyData.depth, PyData.depthAll, depth_strs]
def keyI (ws : List (List Str)) (i : Nat) : PyData := keyD (ws.getD i [])
theorem keyI_alike (ws : List (List Str)) (l : List Nat) : AllAlike (l.map (keyI ws)) := AllAlike.of fun _ _ => alike_key _ _
theorem keyI_sortable (ws : List (List Str)) (l : List Nat) : Sortable (l.map (keyI ws)) := Sortable.tuples fun _ => ⟨_, _, rfl⟩
def sortIx (ws : List (List Str)) : List Nat := (List.range ws.length).mergeSort (dataLe false (keyI ws))
def sortW (ws : List (List Str)) : List (List Str) := (sortIx ws).map fun i => ws.getD i []
theorem sortIx_lt {ws : List (List Str)} : ∀ i ∈ sortIx ws, i < ws.length := fun i m => List.mem_range.mp (List.mem_mergeSort.mp m)
theorem sortW_mem {ws : List (List Str)} {x : List Str} (h : x ∈ sortW ws) : x ∈ ws := by
  obtain ⟨i, m, rfl⟩ := List.mem_map.mp h
  have := sortIx_lt i m
  rw [List.getD_eq_getElem?_getD, List.getElem?_eq_getElem this]
  exact List.getElem_mem _
theorem sortW_len (ws : List (List Str)) : (sortW ws).length = ws.length := by
  unfold sortW sortIx
  rw [List.length_map, List.length_mergeSort, List.length_range]
def WdV (K : PySem.W.Frag) (H : Hp) (v : V) (w : List Str) : Prop := ∃ a, v = .ref a ∧ SqT K H a (w.map V.str)
theorem words_same {K : PySem.W.Frag} {H H' : Hp} {vs : List V} {ws : List (List Str)} (h : Paired (WdV K H) vs ws) (s : Same H H') : Paired (WdV K H') vs ws := Paired.mapP h fun _ _ q => by
  obtain ⟨a, e, q⟩ := q
  exact ⟨a, e, Same.tup s q⟩
theorem paired_idx {α β : Type} {F : α → β → Prop} {l : List α} {k : List β} (a : α) (b : β) (h : Paired F l k) : ∀ js : List Nat, (∀ j ∈ js, j < k.length) → Paired F (js.map fun i => l.getD i a) (js.map fun i => k.getD i b)
  | [], _ => .nil
  | j :: js, lt => by
    refine .cons ?_ (paired_idx a b h js fun i m => lt i (List.mem_cons_of_mem _ m))
    have hl := paired_len h
    have jl := lt j List.mem_cons_self
    have j2 : j < l.length := by omega
    obtain ⟨y, hy, q⟩ := paired_at h (List.getElem?_eq_getElem j2)
    show F (l.getD j a) (k.getD j b)
    rw [List.getD_eq_getElem?_getD, List.getD_eq_getElem?_getD, List.getElem?_eq_getElem j2, hy]
    exact q
theorem sorted_words {K : PySem.W.Frag} {H : Hp} {vs : List V} {ws : List (List Str)} (h : Paired (WdV K H) vs ws) : Paired (WdV K H) (sortedI vs (keyI ws)) (sortW ws) := by
  unfold sortedI sortW sortIx
  rw [paired_len h]
  exact paired_idx _ _ h _ sortIx_lt
/-! ### what outcomes gives -/
def lookG (k : Res) : Grp → List Nat
  | [] => []
  | g :: rest => if g.1 = k then g.2 else lookG k rest
def hasG (k : Res) (G : Grp) : Bool := G.any fun g => decide (g.1 = k)
def wordsG (G : Grp) : List (List Str) := G.filterMap (·.1)
def keysG (G : Grp) : List Res := (if hasG none G = true then [none] else []) ++ (sortW (wordsG G)).map some
def outM (G : Grp) : Grp := (keysG G).map fun k => (k, lookG k G)
theorem row_look {k : Res} {H : Hp} : ∀ {rows : List RowV} {G : Grp}, Paired (RowG H) rows G → if hasG k G = true then ∃ l, rowAt k rows = some l ∧ H l = some (.lst ((lookG k G).map nV)) else rowAt k rows = none
  | _, _, .nil => by
    rw [if_neg (by simp [hasG])]
    rfl
  | r :: rows, g :: G, .cons a b => by
    have ih := row_look (k := k) b
    unfold rowAt lookG hasG
    rw [List.any_cons]
    by_cases e : g.1 = k
    · rw [decide_eq_true e, Bool.true_or, if_pos rfl, if_pos e, if_pos (a.1.trans e)]
      exact ⟨_, rfl, a.2⟩
    · rw [decide_eq_false e, Bool.false_or, if_neg e, if_neg (fun z => e (a.1.symm.trans z))]
      exact ih
theorem row_has {k : Res} {H : Hp} {rows : List RowV} {G : Grp} (h : Paired (RowG H) rows G) (c : hasG k G = true) : ∃ l, rowAt k rows = some l ∧ H l = some (.lst ((lookG k G).map nV)) := by
  have := row_look (k := k) h
  rw [if_pos c] at this
  exact this
theorem row_is {k : Res} {H : Hp} {rows : List RowV} {G : Grp} (h : Paired (RowG H) rows G) : (rowAt k rows).isSome = hasG k G := by
  have := row_look (k := k) h
  cases c : hasG k G with
  | true =>
    rw [if_pos c] at this
    obtain ⟨l, q, _⟩ := this
    rw [q]
    rfl
  | false =>
    rw [if_neg (by rw [c]; decide)] at this
    rw [this]
    rfl
theorem keysG_has {G : Grp} : ∀ k ∈ keysG G, hasG k G = true := fun k m => by
  rcases List.mem_append.mp m with q | q
  · split at q
    · rename_i c
      rw [List.mem_singleton.mp q]
      exact c
    · cases q
  · obtain ⟨w, mw, rfl⟩ := List.mem_map.mp q
    obtain ⟨g, mg, e⟩ := List.mem_filterMap.mp (sortW_mem mw)
    exact List.any_eq_true.mpr ⟨g, mg, decide_eq_true e⟩
theorem wordsG_len (G : Grp) : (wordsG G).length ≤ G.length := List.length_filterMap_le _ _
theorem keysG_len (G : Grp) : (keysG G).length ≤ G.length + 1 := by
  have := wordsG_len G
  unfold keysG
  rw [List.length_append, List.length_map, sortW_len]
  split
  · simp only [List.length_singleton]
    omega
  · simp only [List.length_nil]
    omega
/-! ### the walk over the keys -/
theorem walk_rows {w : World} {d : Addr} {o : Obj} {rows : List RowV} : Walk (ItRk w d o rows) rows.length (fun H => H d = some (.frz o (rowsO w d rows))) (fun i H x H' => H' = H ∧ ∃ r, rows[i]? = some r ∧ keyVal x = keyVal r.2.1 ∧ (x = .non ∨ ∃ b, x = .ref b)) :=
  ⟨fun _ _ hi q => ⟨q, hi⟩, fun _ q => ⟨q, Nat.le_refl _⟩, fun _ _ _ _ _ _ y => y⟩
theorem key_same {K : PySem.W.Frag} {H : Hp} {v x : V} {k : Res} (h : KeyV K H v k) (e : keyVal x = keyVal v) (c : x = .non ∨ ∃ b, x = .ref b) : x = v := by
  cases k with
  | none =>
    cases h
    rcases c with rfl | ⟨b, rfl⟩
    · rfl
    · cases e
  | some ws =>
    obtain ⟨a, rfl, _⟩ := h
    rcases c with rfl | ⟨b, rfl⟩
    · cases e
    · cases e
      rfl
structure RowsR (w : World) (K : PySem.W.Frag) (H : Hp) (d : Addr) (rows : List RowV) (G : Grp) : Prop where
  d : Rd H d (rowsO w d rows)
  k : RowsK K H rows
  p : Paired (RowG H) rows G
theorem RowsR.same {w : World} {K : PySem.W.Frag} {H H' : Hp} {d : Addr} {rows : List RowV} {G : Grp} (g : RowsR w K H d rows G) (s : Same H H') : RowsR w K H' d rows G :=
  ⟨g.d.elim (fun q => .inl (s _ _ q)) (fun ⟨o, q⟩ => .inr ⟨o, s _ _ q⟩), g.k.mono fun b xs q => Same.tup s q, RowG.mono g.p fun r _ us q => s _ _ q⟩
theorem RowsG.lock {w : World} {K : PySem.W.Frag} {H0 H : Hp} {d : Addr} {rows : List RowV} {G : Grp} (g : RowsG w K H0 H d rows G) (o : Obj) : RowsR w K (upd H d (.frz o (rowsO w d rows))) d rows G :=
  ⟨.inr ⟨o, upd_same⟩, g.k.mono (rows_tup g.d), RowG.mono g.p fun r _ us q => by
    rw [upd_ne (ne_of q g.d (fun z => nomatch z))]
    exact q⟩
section
variable {P : Program} {w : World} {K : PySem.W.Frag} {mg : Str → Option Value} {base : Heap} {C : Addr}
theorem keys_words {H : Hp} {spBy : Sp} (hb : ∀ (a : Addr) (xs : List Str) (H : Hp) (Q : VK), SqT K H a (xs.map V.str) → (∀ v H', Same H H' → Dp K H' v (keyD xs) → Q v H') → spBy [.ref a] H Q (fun _ _ _ => False)) {vs : List V} {ws : List (List Str)} (h : Paired (WdV K H) vs ws) : Keys K spBy H vs (keyI ws) where
  k := fun i x H1 hx s => by
    obtain ⟨w, hw, a, rfl, ha⟩ := paired_at h hx
    refine hb a w H1 _ (Same.tup s ha) fun v H' s' hv => ⟨s', ?_⟩
    unfold keyI
    rw [List.getD_eq_getElem?_getD, hw]
    exact hv
  al := fun i j _ _ => alike_key _ _
  nn := fun i _ z => by cases z
  dp := fun i _ => depth_key _
def spBy (K : PySem.W.Frag) : Sp := fun vs H Q _ => ∃ (a : Addr) (xs : List Str), vs = [.ref a] ∧ SqT K H a (xs.map V.str) ∧ ∀ v H', Same H H' → Dp K H' v (keyD xs) → Q v H'
theorem scBy : FnScope ["stack"] ["stack"] (defScope sByHeight) := ⟨rfl, rfl, rfl, by decide +kernel, rfl, by decide +kernel, by decide +kernel⟩
theorem ok_by {f : Addr} {fd : FuncData} (F : Fun K "by_height" "by_height" sByHeight f fd) (B : Blt mg) : FnOk P w K mg base CX0 1 f fd ["stack"] (spBy K) := by
  refine F.ok scBy (fun vs H Q E h => ?_) (fun cdv A outer s H vs Q E hr h => ?_)
  · obtain ⟨a, xs, rfl, _⟩ := h
    rfl
  · obtain ⟨a, xs, rfl, ha, k⟩ := h
    refine ⟨_, pss_one (ps_ret (pe_tup (pa_cons (pe_callB call_len_seq (by rfl) B.len PySem.boot_len (pa_cons (pv 0) pa_nil)) (pa_cons (pv 0) pa_nil)))), ?_⟩
    refine ⟨_, rfl, a, _, rfl, .inr ha, _, rfl, (by show 2 ≤ sizeLine; decide), fun t ht => k (.ref t) _ (Same.new ht) ?_⟩
    rw [List.length_map]
    exact .tup (.of upd_same) (.cons (.int _) (.cons (.tup (Same.tup (Same.new ht) ha) (dp_strs _)) .nil))
def ByHas (P : Program) (w : World) (K : PySem.W.Frag) (mg : Str → Option Value) (base : Heap) : Prop := ∃ f fd, FnOk P w K mg base CX0 1 f fd ["stack"] (spBy K) ∧ Binds K fd ["stack"] [] ∧ mg "by_height" = some (.ref f)
theorem by_of (D : Def K mg "by_height" sByHeight) (B : Blt mg) : ByHas P w K mg base := by
  obtain ⟨f, fd, F, hm⟩ := D
  exact ⟨f, fd, ok_by F B, F.binds (ps := ["stack"]) fun _ _ _ _ _ _ us hl => match us, hl with | [_], _ => rfl, hm⟩
end
end SE
/-! Dicts: a comprehension over any walk; a value that is locked for good. -/
namespace SE
open PySem PySem.Spec PyProof.Rows L2
section
variable {J : It} {n : Nat} {G : Hp → Prop} {Y : Nat → Hp → V → Hp → Prop}
theorem dc_it (w : Walk J n G Y) {g : TG} {tt : TT} {tk tv : TE} {vs : List Nat} {σ : L2.St} {H1 : Hp} {D : Addr} {Qd : Hp → Prop} (Pv : Nat → Hp → Prop) (h0 : Pv 0 (upd H1 D (.dK []))) (hG : ∀ i H, i ≤ n → Pv i H → G H)
    (hs : ∀ i x H H', i < n → Pv i H → Y i H x H' → g x (wipe σ vs) H' fun σ2 H2 => wipe σ2 vs = wipe σ vs ∧ tt σ2 H2 fun b H3 =>
      if b = true then tk σ2 H3 fun y H4 => tv σ2 H4 fun z H5 => ∃ kvs k, y = kV k ∧ H5 D = some (.dK kvs) ∧ kvs.length < sizeLine ∧ Pv (i + 1) (upd H5 D (.dK (putK kvs k z))) else Pv (i + 1) H3) (hd : ∀ H, Pv n H → Qd H) :
    ∃ W : Nat → Nat → Hp → Prop, (∃ m, W 0 m (upd H1 D (.dK []))) ∧ ∀ i m H, W i m H →
      (J.stop i H ∧ Qd H) ∨ (J.go i H ∧ ∃ Nx : Hp → Prop, (∀ H', Nx H' → ∃ m', m' < m ∧ W (i + 1) m' H') ∧ ∀ x H', J.yld i H x H' → g x (wipe σ vs) H' fun σ2 H2 => wipe σ2 vs = wipe σ vs ∧ tt σ2 H2 fun b H3 =>
        if b = true then tk σ2 H3 fun y H4 => tv σ2 H4 fun z H5 => ∃ kvs k, y = kV k ∧ H5 D = some (.dK kvs) ∧ kvs.length < sizeLine ∧ Nx (upd H5 D (.dK (putK kvs k z))) else Nx H3) := by
  refine ⟨fun i m H => m = n - i ∧ i ≤ n ∧ Pv i H, ⟨n, by simp, Nat.zero_le _, h0⟩, ?_⟩
  rintro i m H ⟨rfl, hi, p⟩
  have q := hG i H hi p
  by_cases hlt : i < n
  · exact .inr ⟨w.goes i H hlt q, Pv (i + 1), fun H' p' => ⟨n - (i + 1), by omega, rfl, hlt, p'⟩, fun x H' y => hs i x H H' hlt p (w.yields i H x H' hlt q y)⟩
  · have e : i = n := by omega
    subst e
    exact .inl ⟨w.stops H q, hd H p⟩
end
/-- the value of e, from now on locked -/
def tFrz (te : TE) : TE := fun σ H Q => te σ H fun x H1 => ∃ d u, x = .ref d ∧ H1 d = some u ∧ Mut (some u) ∧ ∀ od, Q x (upd H1 d (.frz od u))
section
variable {X : Cx}
theorem pe_frz {e : Expr} {te : TE} (h : PE X e te) : PE X e (tFrz te) := by
  refine ⟨fun pins s σ H Q I hw => thn (h.run pins s σ H _ I hw) fun v s1 ⟨x, H1, I1, r, d, u, ex, hd, mu, q⟩ => ?_⟩
  obtain ⟨od, I2⟩ := I1.lock hd mu
  exact ⟨x, _, I2, r, q od⟩
end
/-! ### name = {.. for ..} on one line -/
section
variable {X : Cx}
theorem ps_setDc {i : Nat} {y : Str} {yp : Pos} {kx vx tgt itx : Expr} {cs : List Expr} {sco : Scope} {ow : List (Str × Nat)} {dp sp : Pos} {wi : TI} {g : TG} {tt : TT} {tk tv : TE} (calm : X.calm = true) (nod : X.N.Nodup) (hy : X.N[i]? = some y) (loc : X.env.scope.names.lookup y = some .local)
    (sw : swapsWith (.DictComp kx vx [⟨tgt, itx, cs, 0⟩] sco dp) (some (.Name y yp)) sp.line X.env = pure true) (hi : PI X tgt itx wi) (ok : BlkOk X.N X.env.scope sco ow)
    (hg : ∀ (s : Shared) (H : Hp) (U : Addr) (cl : List (Str × Addr)) (fp : List Addr), PG (X.blk s H sco (compEnvC sco cl U X.env) fp) tgt g) (ht : ∀ (s : Shared) (H : Hp) (U : Addr) (cl : List (Str × Addr)) (fp : List Addr), PTs (X.blk s H sco (compEnvC sco cl U X.env) fp) cs tt)
    (hk : ∀ (s : Shared) (H : Hp) (U : Addr) (cl : List (Str × Addr)) (fp : List Addr), PE (X.blk s H sco (compEnvC sco cl U X.env) fp) kx tk)
    (hv : ∀ (s : Shared) (H : Hp) (U : Addr) (cl : List (Str × Addr)) (fp : List Addr), PE (X.blk s H sco (compEnvC sco cl U X.env) fp) vx tv) (fold : ∀ x, foldedSetIterable itx X.env x = pure x := by intro _; rfl) :
    PS X (.Assign [.Name y yp] (.DictComp kx vx [⟨tgt, itx, cs, 0⟩] sco dp) sp) (tAsg (tDc wi g tt tk tv (ow.map (·.2))) (gName i)) := by
  constructor
  intro pins s σ H Dn I q
  rw [exec_Assign_Name_used _ _ _ _ sw]
  refine wpAny_bind (wpAny_standAt (wpAny_bind ?_))
  show wpAny _ X.A (do let _ ← comprehension (.DictComp kx vx [⟨tgt, itx, cs, 0⟩] sco dp) sco X.env (firstIterPos [⟨tgt, itx, cs, 0⟩] dp) newDict false (eval itx X.env) (some (assign (.Name y yp) X.env))) _ _ s
  have q : tDc wi g tt tk tv (ow.map (·.2)) σ H (fun x H1 => gName i x σ H1 Dn.nx) := q
  refine wpAny_bind (thn (dc_core (Qf := fun _ s' => SP X pins Dn .next s') calm nod I hi ok hg ht hk hv fold q fun L U s' m H' J r nm fp => ?_) fun _ s' z => wpAny_pure (wpAny_pure z))
  show wpAny _ _ (assign (.Name y yp) X.env (.ref L)) _ _ _
  obtain ⟨p0, p1, p2, p3, p4, p5⟩ := fp
  refine wpAny_assign_Name (store_ok2 (v := V.ref L) J nod hy (.inl loc) rfl (fun s2 J2 ⟨a, same, wh⟩ => ?_) (.inr loc))
  have ne : U ≠ a := by
    rcases wh with z | z
    · rw [z]; exact p1
    · exact fun e => p4 y a z e.symm
  refine ⟨m, nm.sameBut same ne, fun h3 z3 => ⟨_, H', J2.turned (t' := s2.toks) (fun b o hb e => (z3.2 b hb).trans e) p0 p1 p3 p4 p5, r⟩⟩
theorem swd_true {kx vx : Expr} {gs : List Comprehension} {sco : Scope} {dp yp : Pos} {y : Str} {l : Nat} {env : Env} (fn : env.scope.kind = .function) (loc : env.scope.names.lookup y = some .local) (ln : (yp.line == dp.line) = true)
    (own : (sco.names.any fun (n, k) => n == y && (k == .local || k == .cell)) = false) : swapsWith (.DictComp kx vx gs sco dp) (some (.Name y yp)) l env = pure true := by
  have k1 : env.kindOf y = some .local := loc
  have k2 : env.blockKind = .function := by unfold Env.blockKind; rw [fn]; rfl
  unfold swapsWith
  simp only [k2, k1, own, Expr.pos, ln]
  rfl
end
end SE
namespace SE
open PySem PySem.Spec PyProof.Rows L2 SeqAt
open PySem.W (alike alikeAll dataLt AllAlike Sortable dataLe)
/-- a pair that outcomes gives -/
def OutV (K : PySem.W.Frag) (Z : Addr → Prop) (H : Hp) (t : V) (g : Res × List Nat) : Prop := ∃ a y l, t = .ref a ∧ SqT K H a [y, .ref l] ∧ OW K H y g.1 ∧ H l = some (.lst (g.2.map nV)) ∧ Z l
theorem outs_same {K : PySem.W.Frag} {Z : Addr → Prop} {H H' : Hp} {ts : List V} {G : Grp} (h : Paired (OutV K Z H) ts G) (s : Same H H') : Paired (OutV K Z H') ts G := Paired.mapP h fun _ _ q => by
  obtain ⟨a, y, l, e, h1, h2, h3, h4⟩ := q
  exact ⟨a, y, l, e, Same.tup s h1, h2.same s, s _ _ h3, h4⟩
theorem ows_words {K : PySem.W.Frag} {H : Hp} : ∀ {vs : List V} {ws : List (List Str)}, Paired (WdV K H) vs ws → Paired (OW K H) vs (ws.map some)
  | _, _, .nil => .nil
  | _, _, .cons a b => .cons a (ows_words b)
theorem paired_snoc {α β : Type} {F : α → β → Prop} {x : α} {y : β} (q : F x y) : ∀ {l : List α} {k : List β}, Paired F l k → Paired F (l ++ [x]) (k ++ [y])
  | _, _, .nil => .cons q .nil
  | _, _, .cons a b => .cons a (paired_snoc q b)
section
variable {P : Program} {w : World} {K : PySem.W.Frag} {mg : Str → Option Value} {base : Heap} {C : Addr}
def spOut (w : World) (K : PySem.W.Frag) (C : Addr) : Sp := fun vs H Q _ => ∃ (L a : Addr) (es : List Addr) (os : List Eff) (zs : List Str), vs = [.ref L, .ref a] ∧ SqL K H L (es.map V.ref) ∧ Paired (EffV K C H) es os ∧ (∀ o ∈ os, EffOk o) ∧ 1 ≤ es.length ∧ es.length ≤ 20 ∧ SqT K H a (zs.map V.str) ∧ (∀ z ∈ zs, Item z) ∧ zs.length ≤ 1000 ∧
  ∀ (R : Addr) (ts : List V) (H' : Hp), Same H H' → H R = none → H' R = some (.lst ts) → Paired (OutV K (fun l => H l = none) H') ts (outM (grpM (resM os zs) es.length)) → Q (.ref R) H'
abbrev nOu : List Str := ["candidates", "stack", "indexes", "results", "result"]
theorem scOu : FnScope nOu ["candidates", "stack"] (defScope sOutcomes) := ⟨rfl, rfl, rfl, by decide +kernel, rfl, by decide +kernel, by decide +kernel⟩
def rNN : R2 := fun x y H Q => y = .non ∧ Q (.bl (!decide (x = .non))) H
theorem has_out (D : Def K mg "outcomes" sOutcomes) (GC : Has P w K mg base "check_candidates" 2 ["candidates"] [] (spChkC K C)) (GW : Has P w K mg base "check_word" 3 ["word"] [] (spChkWord K)) (GI : Has P w K mg base "indexes_by_result" 4 ["candidates", "stack"] [] (spIdx w K C)) (BY : ByHas P w K mg base) (ms : mg "sorted" = none) : Has P w K mg base "outcomes" 5 ["candidates", "stack"] [] (spOut w K C) := by
  obtain ⟨fB, fdB, FB, bB, mB⟩ := BY
  refine has_of D scOu (fun _ _ _ _ _ _ us hl => match us, hl with | [_, _], _ => rfl) (fun xs H Q E h => ?_) (fun f cv A out s H xs Q E hr h => ?_)
  · obtain ⟨L, a, es, os, zs, rfl, _⟩ := h
    rfl
  · obtain ⟨L, a, es, os, zs, rfl, hL, hE, oE, l0, l1, hT, hI, hl, k⟩ := h
    have hr2 : Room 2 _ := hr.mono (by decide)
    have hr3 : Room 3 _ := hr.mono (by decide)
    refine ⟨_, pss_cons (ps_expr (pe_has GC hr2 (pa_cons (pv 0) pa_nil))) (pss_cons (ps_expr (pe_has GW hr3 (pa_cons (pv 1) pa_nil)))
      (pss_cons (ps_set (i := 2) scOu.nd rfl (.inr rfl) (pe_has GI hr (pa_cons (pv 0) (pa_cons (pv 1) pa_nil))))
      (pss_cons (ps_set (i := 3) scOu.nd rfl (.inl rfl) (pe_callBK (call_sortK FB bB hr3) (by rfl) ms (by decide +kernel)
        (pa_cons (pe_lc (own := [("result", 4)]) (g := gName 4) (tt := tTest (tOp rNN (tVar 4) (tC .non))) (te := tVar 4) rfl scOu.nd (pi_rows (pe_frz (pv 2))) (blkOk_by (own := [("result", 4)]) (N := nOu) (sc := defScope sOutcomes) (by decide +kernel))
          (fun _ _ _ _ _ => pg_name (i := 4) scOu.nd rfl (.inl rfl)) (fun _ _ _ _ _ => pts_one (pt_cmpR op_notN (pv 4) pe_non (nomark _))) (fun _ _ _ _ _ => pv 4)) pa_nil)
        (pk_cons (pe_glob (v := .ref fB) rfl mB rfl) pk_nil)))
      (pss_cons (ps_if (pt_cmp (pc_rowIn (by have := hr.un; show (A.deeper _).units + 9 < cLine; omega) pe_non (pv 2))) (pss_one (ps_set (i := 3) scOu.nd rfl (.inl rfl) (pe_op op_cat (pe_lst (pa_cons pe_non pa_nil)) (pv 3)))) pss_nil)
      (pss_one (ps_ret (pe_lc (own := [("result", 4)]) (g := gName 4) (tt := tYes) (te := tTup (tCons (tVar 4) (tCons (tRowGet w K (tVar 2) (tVar 4)) tNil))) rfl scOu.nd (pi_list (pv 3)) (blkOk_by (own := [("result", 4)]) (N := nOu) (sc := defScope sOutcomes) (by decide +kernel))
          (fun _ _ _ _ _ => pg_name (i := 4) scOu.nd rfl (.inl rfl)) (fun _ _ _ _ _ => pts_nil) (fun _ _ _ _ _ => pe_tup (pa_cons (pv 4) (pa_cons (pe_rowGet (by have := hr.un; show (A.deeper _).units + 9 < cLine; omega) (pv 2) (pv 4) (fun _ _ => rfl)) pa_nil)))))))))), ?_⟩
    refine ⟨_, rfl, L, es, os, rfl, hL, hE, l0, l1, fun H1 s1 => ?_⟩
    refine ⟨_, rfl, a, zs, rfl, Same.tup s1 hT, by omega, hI, fun H2 s12 => ?_⟩
    have s2 := s1.trans s12
    refine ⟨_, rfl, _, rfl, L, a, es, os, zs, rfl, Same.seq s2 hL, effs_same hE s2, oE, l1, Same.tup s2 hT, hI, hl, fun d rows H3 s23 hd g => ?_⟩
    have s3 := s2.trans s23
    have hd0 : H d = none := by
      cases q : H d with
      | none => rfl
      | some u =>
        have := s2 _ _ q
        rw [hd] at this
        cases this
    generalize hG : grpM (resM os zs) es.length = G at g k
    have gl : G.length ≤ 20 := by
      rw [← hG]
      exact Nat.le_trans (grpM_len _ _) l1
    have rl := paired_len g.p
    -- the dict is locked
    refine ⟨_, rfl, d, _, rfl, g.d, trivial, fun od => ⟨d, od, rows, rfl, upd_same, fun D hD => ?_⟩⟩
    have r4 := g.lock od
    have s4 : Same H (upd H3 d (.frz od (rowsO w d rows))) := Same.free2 s3 hd0
    have z4 : ∀ r ∈ rows, H r.2.2 = none := fun r mr => by
      cases q : H r.2.2 with
      | none => rfl
      | some u =>
        have := s2 _ _ q
        rw [g.z r mr] at this
        cases this
    have f4 : (upd H3 d (.frz od (rowsO w d rows))) d = some (.frz od (rowsO w d rows)) := upd_same
    generalize upd H3 d (.frz od (rowsO w d rows)) = H4 at hD r4 s4 f4
    refine lc_it walk_rows (fun j H5 => ∃ us, H5 D = some (.lst us) ∧ Paired (WdV K H5) us ((G.take j).filterMap (·.1)) ∧ Same H4 H5) ⟨[], upd_same, .nil, Same.new hD⟩ (fun _ _ _ ⟨_, _, _, q⟩ => q _ _ f4) ?_ ?_
    · rintro j x H5 H5' hj ⟨us, h5, p5, s5⟩ ⟨rfl, r, hr5, ek, cx⟩
      obtain ⟨g0, hg0, q1, q2⟩ := paired_at r4.p hr5
      have kv := (r4.same s5).k.keys r (List.mem_of_getElem? hr5)
      obtain rfl := key_same kv ek cx
      refine ⟨rfl, _, rfl, rfl, !decide (r.2.1 = .non), rfl, ?_⟩
      have tk : (G.take (j + 1)).filterMap (·.1) = (G.take j).filterMap (·.1) ++ (match g0.1 with | none => [] | some w0 => [w0]) := by
        rw [List.take_add_one, hg0, List.filterMap_append]
        congr 1
        show List.filterMap (fun x => x.1) [g0] = _
        cases e : g0.1 <;> simp [e]
      have lj : us.length ≤ 20 := by
        rw [paired_len p5]
        refine Nat.le_trans (List.length_filterMap_le _ _) ?_
        rw [List.length_take]
        omega
      rw [q1] at kv
      cases e : g0.1 with
      | none =>
        rw [e] at kv tk
        rw [show r.2.1 = .non from kv]
        refine iteF ⟨us, h5, ?_, s5⟩
        rw [tk, List.append_nil]
        exact p5
      | some w0 =>
        rw [e] at kv tk
        obtain ⟨b, eb, hb⟩ := kv
        rw [eb]
        refine iteT ⟨_, rfl, us, h5, Nat.lt_of_le_of_lt lj (by decide), us ++ [.ref b], upd_same, ?_, Same.free2 s5 hD⟩
        rw [tk]
        refine paired_snoc ⟨b, rfl, tup_lst h5 _ _ hb⟩ (Paired.mapP p5 fun _ _ q => ?_)
        obtain ⟨b2, e2, q⟩ := q
        exact ⟨b2, e2, tup_lst h5 _ _ q⟩
    · rintro H5 ⟨us, h5, p5, s45⟩
      rw [List.take_of_length_le (by omega)] at p5
      change Paired (WdV K H5) us (wordsG G) at p5
      have hul : us.length ≤ 20 := by
        rw [paired_len p5]
        exact Nat.le_trans (List.length_filterMap_le _ _) gl
      refine ⟨D, us, keyI (wordsG G), rfl, rfl, .of h5, keys_words (fun a xs H Q ha k => ⟨a, xs, rfl, ha, k⟩) p5, keyI_alike _ _, keyI_sortable _ _, fun H6 p s56 hp => ?_⟩
      have s46 := s45.trans s56
      have p6 := sorted_words (words_same p5 s56)
      have s7 : Same H6 (upd H6 p (.lst (sortedI us (keyI (wordsG G))))) := Same.new hp
      have p7 := words_same p6 s7
      have h7 : (upd H6 p (.lst (sortedI us (keyI (wordsG G))))) p = some (.lst (sortedI us (keyI (wordsG G)))) := upd_same
      have s47 := s46.trans s7
      generalize upd H6 p (.lst (sortedI us (keyI (wordsG G)))) = H7 at s7 p7 h7 s47
      have r7 := r4.same s47
      have lS : (sortedI us (keyI (wordsG G))).length ≤ 20 := by
        unfold sortedI
        rw [List.length_map, List.length_mergeSort, List.length_range]
        exact hul
      generalize sortedI us (keyI (wordsG G)) = Ss at p7 h7 lS
      -- the last comprehension
      have fin : ∀ {H8 : Hp} {r : Addr} {vs : List V}, Same H7 H8 → H8 r = some (.lst vs) → Paired (OW K H8) vs (keysG G) → (tLc (iList K (tVar 3)) (gName 4) tYes (tTup (tCons (tVar 4) (tCons (tRowGet w K (tVar 2) (tVar 4)) tNil))) [4]) [some (.ref L), some (.ref a), some (.ref d), some (.ref r), none] H8 Q := by
        intro H8 r vs s78 h8 p8
        have s48 := s47.trans s78
        have r8 := r7.same s78
        have lk : vs.length ≤ 21 := by
          rw [paired_len p8]
          exact Nat.le_trans (keysG_len G) (by omega)
        refine ⟨_, rfl, r, rfl, ⟨_, .of h8⟩, fun R hR => ?_⟩
        refine lc_list (K := K) (a := r) (xs := vs) (fun j H9 => ∃ ts, H9 R = some (.lst ts) ∧ Paired (OutV K (fun l => H l = none ∧ l ≠ R) H9) ts ((outM G).take j) ∧ Same H8 H9) ⟨[], upd_same, .nil, Same.new hR⟩ (fun j H9 _ ⟨_, _, _, q⟩ => .of (q _ _ h8)) ?_ ?_
        · rintro j x H9 hx ⟨ts, h9, p9, s9⟩
          obtain ⟨kk, hk, ow⟩ := paired_at p8 hx
          have hs := keysG_has kk (List.mem_of_getElem? hk)
          have r9 := r8.same s9
          obtain ⟨l, at_k, h_l⟩ := row_has r9.p hs
          obtain ⟨rr, mr, _, er⟩ := rowAt_mem at_k
          refine ⟨rfl, ?_⟩
          unfold tYes
          dsimp only
          rw [if_pos rfl]
          refine ⟨_, rfl, _, rfl, _, rfl, d, rows, kk, l, rfl, r9.d, r9.k, ow_key (ow.same s9), at_k, (by show 2 ≤ sizeLine; decide), fun T hT => ?_⟩
          have s10 : Same H9 (upd H9 T (.tup [x, .ref l])) := Same.new hT
          have lt : ts.length ≤ 21 := by
            rw [paired_len p9, List.length_take]
            refine Nat.le_trans (Nat.min_le_right _ _) ?_
            unfold outM
            rw [List.length_map]
            exact Nat.le_trans (keysG_len G) (by omega)
          have t10 : (upd H9 T (.tup [x, .ref l])) T = some (.tup [x, .ref l]) := upd_same
          have h10 := s10 _ _ h9
          have ow10 := ow.same (s9.trans s10)
          have l10 := s10 _ _ h_l
          have p10 := outs_same p9 s10
          generalize upd H9 T (.tup [x, .ref l]) = H10 at s10 t10 h10 ow10 l10 p10
          have tl : ∀ {b : Addr} {ys : List V}, SqT K H10 b ys → SqT K (upd H10 R (.lst (ts ++ [.ref T]))) b ys := fun q => tup_lst h10 _ _ q
          obtain ⟨l8, at8, h8l⟩ := row_has r8.p hs
          have el : l8 = l := Option.some.inj (at8.symm.trans at_k)
          have neR : l ≠ R := fun z => by
            rw [el, z, hR] at h8l
            cases h8l
          have owm : ∀ {v : V} {o : Res}, OW K H10 v o → OW K (upd H10 R (.lst (ts ++ [.ref T]))) v o := fun {v o} q => by
            cases o with
            | none => exact q
            | some ws =>
              obtain ⟨b, e, q⟩ := q
              exact ⟨b, e, tl q⟩
          refine ⟨ts, h10, Nat.lt_of_le_of_lt lt (by decide), ts ++ [.ref T], upd_same, ?_, Same.free2 (s9.trans s10) hR⟩
          have tk : (outM G).take (j + 1) = (outM G).take j ++ [(kk, lookG kk G)] := by
            rw [List.take_add_one]
            congr 1
            unfold outM
            rw [List.getElem?_map, hk]
            rfl
          rw [tk]
          refine paired_snoc ⟨T, x, l, rfl, tl (.inl (.inl t10)), owm ow10, ?_, by rw [← er]; exact z4 rr mr, neR⟩ (Paired.mapP p10 fun t g q => ?_)
          · obtain ⟨a2, y2, l2, e1, e2, e3, e4, e5, e6⟩ := q
            refine ⟨a2, y2, l2, e1, tl e2, owm e3, ?_, e5, e6⟩
            rw [upd_ne e6]
            exact e4
          · rw [upd_ne neR]
            exact l10
        · rintro H9 ⟨ts, h9, p9, s9⟩
          rw [paired_len p8, List.take_of_length_le (Nat.le_of_eq (by unfold outM; rw [List.length_map]))] at p9
          have s09 := (s4.trans s48).trans s9
          refine k R ts H9 s09 ?_ h9 (Paired.mapP p9 fun t g q => ?_)
          · cases q : H R with
            | none => rfl
            | some u =>
              have := (s4.trans s48) _ _ q
              rw [hR] at this
              cases this
          · obtain ⟨a2, y2, l2, e1, e2, e3, e4, e5, e6⟩ := q
            exact ⟨a2, y2, l2, e1, e2, e3, e4, e5⟩
      refine ⟨_, rfl, d, rows, none, rfl, r7.d, r7.k, rfl, _, rfl, ?_⟩
      rw [row_is r7.p]
      cases hc : hasG none G with
      | true =>
        refine iteT ⟨(by show 1 ≤ sizeLine; decide), fun n hn => ⟨_, rfl, n, p, [.non], Ss, rfl, rfl, upd_same, Same.new hn _ _ h7, ?_, fun q hq => ?_⟩⟩
        · rw [sizeLine_eq, List.length_singleton]
          omega
        · have sn : Same H7 (upd (upd H7 n (.lst [.non])) q (.lst ([.non] ++ Ss))) := (Same.new hn).trans (Same.new hq)
          refine fin sn upd_same ?_
          unfold keysG
          rw [if_pos hc]
          exact .cons rfl (ows_words (words_same p7 sn))
      | false =>
        refine iteF (fin (Same.refl H7) h7 ?_)
        unfold keysG
        rw [if_neg (by rw [hc]; decide)]
        exact ows_words p7
end
end SE
namespace SE
open PySem PySem.Spec PyProof.Rows L2
theorem Same.but3 {H H3 H4 : Hp} {p : Addr} (s : Same H H3) (hp : H p = none) (b : But p H3 H4) : Same H H4 := fun c o e => b c o (ne_of_none e hp) (s c o e)
theorem SqT.same3 {K : PySem.W.Frag} {H H' : Hp} {u p : Addr} {xs : List V} (h : SqT K H u xs) (hp : Pool H p) (b : But p H H') : SqT K H' u xs := by
  rcases h with (h | ⟨o, h⟩) | h
  · exact .inl (.inl (b _ _ (fun e => by obtain ⟨m, s, q, _⟩ := hp.ex; rw [e, q] at h; cases h) h))
  · exact .inl (.inr ⟨o, b _ _ (fun e => by obtain ⟨m, s, q, _⟩ := hp.ex; rw [e, q] at h; cases h) h⟩)
  · exact .inr h
theorem ixN_nat {n j : Nat} (h : j < n) : ixN n (j : Int) = some j := by
  unfold ixN
  rw [if_pos (by omega), if_pos (by omega), Int.toNat_natCast]
theorem paired_at' {α β : Type} {F : α → β → Prop} : ∀ {l : List α} {k : List β} {i : Nat} {x : α}, Paired F l k → l[i]? = some x → ∃ y, k[i]? = some y ∧ F x y
  | _, _, _, _, .nil, e => by simp at e
  | _, _, 0, _, .cons r _, e => by simp at e; subst e; exact ⟨_, rfl, r⟩
  | _, _, i + 1, x, .cons _ t, e => by
    obtain ⟨u, h1, h2⟩ := paired_at' (i := i) (x := x) t (by simpa using e)
    exact ⟨u, by simpa using h1, h2⟩
theorem paired_app {α β : Type} {F : α → β → Prop} : ∀ {l₁ l₂ : List α} {k₁ k₂ : List β}, Paired F l₁ k₁ → Paired F l₂ k₂ → Paired F (l₁ ++ l₂) (k₁ ++ k₂)
  | _, _, _, _, .nil, q => q
  | _, _, _, _, .cons a r, q => .cons a (paired_app r q)
theorem paired_rev {α β : Type} {F : α → β → Prop} : ∀ {l : List α} {k : List β}, Paired F l k → Paired F l.reverse k.reverse
  | _, _, .nil => .nil
  | _, _, .cons a r => by
    rw [List.reverse_cons, List.reverse_cons]
    exact paired_app (paired_rev r) (.cons a .nil)
theorem paired_atR {α β : Type} {F : α → β → Prop} : ∀ {l : List α} {k : List β} {i : Nat} {y : β}, Paired F l k → k[i]? = some y → ∃ x, l[i]? = some x ∧ F x y
  | _, _, _, _, .nil, e => by simp at e
  | _, _, 0, _, .cons r _, e => by simp at e; subst e; exact ⟨_, rfl, r⟩
  | _, _, i + 1, y, .cons _ t, e => by
    obtain ⟨u, h1, h2⟩ := paired_atR (i := i) (y := y) t (by simpa using e)
    exact ⟨u, by simpa using h1, h2⟩
theorem stepsV_same {K : PySem.W.Frag} {H H' : Hp} {xs : List V} {ss : List Stp} (h : StepsV K H xs ss) (s : Same H H') : StepsV K H' xs ss := Paired.mapP h fun _ _ q => q.same s
theorem dp_obs {K : PySem.W.Frag} {H : Hp} : ∀ {vs : List V} {bs : List Ob}, Paired (ObV K H) vs bs → DpAll K H vs (bs.map obD)
  | _, _, .nil => .nil
  | _, _, .cons q r => .cons q.dp (dp_obs r)
/-! ### hiding lists from effects, steps and observations -/
def LstAll (S : List Addr) (H : Hp) : Prop := ∀ b ∈ S, ∃ us, H b = some (.lst us)
theorem LstAll.nil {H : Hp} : LstAll [] H := fun _ m => by cases m
theorem LstAll.cons {S : List Addr} {D : Addr} {us : List V} {H : Hp} (h : LstAll S H) (hD : H D = some (.lst us)) : LstAll (D :: S) H := fun b m => by
  rcases List.mem_cons.mp m with e | m
  · exact ⟨us, e ▸ hD⟩
  · exact h b m
theorem LstAll.pool {H : Hp} {p : Addr} (h : Pool H p) : LstAll [p] H := by
  obtain ⟨m, s, e, _⟩ := h.ex
  exact LstAll.nil.cons e
theorem hid_at {S : List Addr} {H : Hp} {b : Addr} {o : HO} (h : LstAll S H) (hb : H b = some o) (n : ∀ us, o ≠ .lst us) : hid S H b = some o := by
  rw [hid_ne fun m => ?_]
  · exact hb
  · obtain ⟨us, e⟩ := h b m
    rw [e] at hb
    cases hb
    exact n us rfl
theorem hid_tup {K : PySem.W.Frag} {S : List Addr} {H : Hp} {a : Addr} {xs : List V} (h : LstAll S H) (ha : SqT K H a xs) : SqT K (hid S H) a xs := by
  rcases ha with (h1 | ⟨o, h1⟩) | h1
  · exact .inl (.inl (hid_at h h1 fun us e => by cases e))
  · exact .inl (.inr ⟨o, hid_at h h1 fun us e => by cases e⟩)
  · exact .inr h1
theorem hid_steps {S : List Addr} {H : Hp} {us : List V} {ss : List Stp} (h : LstAll S H) (hs : StepsH H us ss) : StepsH (hid S H) us ss := Paired.mapP hs fun _ _ q => by
  obtain ⟨t, e, z⟩ := q
  exact ⟨t, e, hid_at h z fun us e => by cases e⟩
section
variable {K : PySem.W.Frag} {C : Addr} {S : List Addr} {H : Hp}
theorem hid_eff {e : Addr} (h : LstAll S H) : ∀ {o : Eff}, EffV K C H e o → EffV K C (hid S H) e o
  | none, q => by
    obtain ⟨dx, h1⟩ := NevAt.ex q
    exact ⟨dx, hid_at h h1 fun us e => by cases e⟩
  | some (_, _, _), q => by
    obtain ⟨dx, u, v, h1, h2, h3⟩ := EffAt.ex q
    exact ⟨dx, u, v, hid_at h h1 fun us e => (by cases e), hid_tup h h2, hid_tup h h3⟩
theorem hid_ow {v : V} (h : LstAll S H) : ∀ {o : Option (List Str)}, OW K H v o → OW K (hid S H) v o
  | none, q => q
  | some _, ⟨a, e, q⟩ => ⟨a, e, hid_tup h q⟩
theorem hid_ob {v : V} {b : Ob} (h : LstAll S H) (q : ObV K H v b) : ObV K (hid S H) v b := by
  obtain ⟨t, a, r, e, h1, h2, h3⟩ := q
  exact ⟨t, a, r, e, hid_tup h h1, hid_tup h h2, hid_ow h h3⟩
end
theorem paired_set {α β : Type} {F : α → β → Prop} {x : α} {y : β} (h : F x y) : ∀ {l : List α} {k : List β} (j : Nat), Paired F l k → Paired F (l.set j x) (k.set j y)
  | _, _, _, .nil => .nil
  | _, _, 0, .cons _ r => .cons h r
  | _, _, j + 1, .cons q r => .cons q (paired_set h j r)
theorem paired_setL {α β : Type} {F : α → β → Prop} {x : α} : ∀ {l : List α} {k : List β} (j : Nat), (∀ y, k[j]? = some y → F x y) → Paired F l k → Paired F (l.set j x) k
  | _, _, _, _, .nil => .nil
  | _, _, 0, h, .cons _ r => .cons (h _ rfl) r
  | _, _, j + 1, h, .cons q r => .cons q (paired_setL j (fun y e => h y (by simpa using e)) r)
/-- an effect that acts as the steps do -/
def EffLike (o : Eff) (ss : List Stp) : Prop := EffOk o ∧ ∀ zs, replM o zs = runM ss zs
theorem like_all : ∀ {sss : List (List Stp)}, (∀ ss ∈ sss, ss.length ≤ 4 ∧ ∀ s ∈ ss, Item s.2) → Paired EffLike (sss.map effM) sss
  | [], _ => .nil
  | ss :: sss, h => .cons ⟨effM_EffOk (h ss (List.mem_cons_self ..)).2 (by have := (h ss (List.mem_cons_self ..)).1; omega), repl_run ss⟩ (like_all fun t m => h t (List.mem_cons_of_mem _ m))
theorem like_giv {o : Eff} {ss : List Stp} {bs : List Ob} (h : EffLike o ss) : (bs.filter fun b => !decide (runM ss b.1 = b.2)) = [] ↔ givM o bs = true := by
  unfold givM
  rw [List.filter_eq_nil_iff, List.all_eq_true]
  constructor
  · intro q b m
    have := q b m
    rw [h.2]
    simpa using this
  · intro q b m
    have := q b m
    rw [h.2] at this
    simpa using this
theorem like_eff {ss : List Stp} {xs ys : List Str} {p r : Int} (hs : ss.length ≤ 4) (hI : ∀ s ∈ ss, Item s.2) (h : effM ss = some (xs, ys, p)) (r0 : 0 ≤ r) (r1 : r < 60) : EffLike (some (xs, ys, p + r)) ss := by
  have k := effM_EffOk hI (by omega)
  have m := (effM_ok hI h).2.2
  rw [h] at k
  refine ⟨⟨k.1, k.2.1, k.2.2.1, k.2.2.2.1, ?_, ?_⟩, fun zs => ?_⟩
  · have := k.2.2.2.2.1
    omega
  · have : p ≤ (ss.length : Int) := m
    omega
  · rw [← repl_run ss, h]
    rfl
theorem runM_ok {ss : List Stp} {zs : List Str} (hs : ss.length ≤ 4) (hI : ∀ s ∈ ss, Item s.2) (hz : ∀ z ∈ zs, Item z) (hl : zs.length ≤ 1000) : OWOk (runM ss zs) := by
  rw [← repl_run]
  exact replM_ok (effM_EffOk hI (by omega)) hz hl
theorem eqv_nil (ds : List PyData) : PyData.eqv (.list ds) (.list []) = decide (ds = []) := by
  cases ds with
  | nil => simp [PyData.eqv, PyData.eqvAll]
  | cons d ds => simp [PyData.eqv, PyData.eqvAll]
def iDn (n : Nat) : PyData := .int (n : Int)
theorem dp_ns {K : PySem.W.Frag} {H : Hp} : ∀ ns : List Nat, DpAll K H (ns.map nV) (ns.map iDn)
  | [] => .nil
  | n :: ns => .cons (.int _) (dp_ns ns)
theorem nice_n {n : Nat} (h : n ≤ 100) : Nice 0 8 (iDn n) := by
  have q : ∀ m : Fin 101, PyData.showable (.int (m.1 : Int)) = true ∧ PyData.intsShort 13 (.int (m.1 : Int)) = true ∧ PyData.weight (.int (m.1 : Int)) ≤ 8 := by decide +kernel
  obtain ⟨q1, q2, q3⟩ := q ⟨n, by omega⟩
  refine ⟨?_, ?_, q1, ?_, q2, q3⟩
  · unfold iDn; simp only [PyData.canLay0]
  · unfold iDn; simp only [PyData.depth]; exact Nat.le_refl _
  · unfold iDn; simp only [PyData.hasDict]
theorem nice_ns {ns : List Nat} (h : ∀ n ∈ ns, n ≤ 100) (hl : ns.length ≤ 100) : Nice 1 900 (.list (ns.map iDn)) := by
  refine (nice_list (k := 0) (B := 8) fun d m => ?_).mono (Nat.le_refl _) (by rw [List.length_map]; omega)
  obtain ⟨n, mn, rfl⟩ := List.mem_map.mp m
  exact nice_n (h n mn)
theorem posM_le {os : List Eff} {bs : List Ob} {n : Nat} : ∀ i ∈ posM os bs n, i < n := fun i m => by
  unfold posM at m
  exact List.mem_range.mp (List.mem_filter.mp m).1
/-- repr of a list of numbers -/
theorem rep_ns {K : PySem.W.Frag} {H : Hp} {a : Addr} {ns : List Nat} {Q : VK} (ha : H a = some (.lst (ns.map nV))) (h : ∀ n ∈ ns, n ≤ 100) (hl : ns.length ≤ 100) (k : Q (.str (PyData.list (ns.map iDn)).shown) H) : rRep K [.ref a] H Q := by
  have n := nice_ns h hl
  exact ⟨_, _, rfl, .lst (.of ha) (dp_ns ns), ⟨_, rfl⟩, n.sh, n.nd, Nat.le_trans n.dep (by decide), n.shown (by decide) (by decide), k⟩
end SE
/-! min(list of data): the first of the least. -/
namespace SE
open PySem PySem.Spec PyProof.Rows L2 SeqAt
open PySem.W (alike dataLt)
def ltD (ds : List PyData) (i j : Nat) : Bool := dataLt (ds.getD i .none) (ds.getD j .none)
/-- min(list) -/
def rMinD (K : PySem.W.Frag) : List V → Hp → VK → Prop := fun vs H Q => ∃ (l : Addr) (xs : List V) (ds : List PyData), vs = [.ref l] ∧ SqL K H l xs ∧ xs ≠ [] ∧ DpAll K H xs ds ∧ PySem.W.AlikeAll ds ∧ PyData.depthAll ds ≤ 20 ∧ ∀ x, xs[argBest (ltD ds) (xs.length - 1)]? = some x → Q x H
section
variable {X : Cx}
theorem call_minD (hc : X.calm = true) (hu : X.A.units + 30 < cLine) : CallR X (.builtin "min") (rMinD X.K) := by
  intro pins s σ H vs us Q I r h
  obtain ⟨l, xs, ds, rfl, hl, ne, hd, ha, hdp, hq⟩ := h
  obtain ⟨ul, rfl, rl⟩ := vals1 r
  cases rl
  obtain ⟨its, rv, pl, hz⟩ := I.list hl
  have lv := rv.length
  obtain ⟨as, hr⟩ := Dp.readsAll I ds xs its hd rv
  have pos : 0 < its.toArray.size := by
    rw [List.size_toArray, ← lv]
    exact List.length_pos_iff.mpr ne
  refine call_min_walkH (PySem.W.iter_listW (A := X.A.in1) (I.ok.hd hc) pl.isList fun s₂ e W st hfp hw hk => ?_)
  refine ⟨_, _, _, _, _, _, _, s.heap, _, rfl, W, st, hfp, pos, hw, hk, PySem.W.cmpIn_lt (A := X.A.in1) (xs := ds) (as := as) hr ha (by rw [Around.in1_units]; omega), fun v s' hP m => ?_⟩
  obtain ⟨h', tk, rfl, hk'⟩ := PySem.W.moved_old e rfl m
  have hP : its.toArray[argBest (ltD ds) (its.toArray.size - 1)]? = some v := hP
  rw [List.size_toArray, ← lv] at hP
  have le : argBest (ltD ds) (xs.length - 1) < xs.length := by
    have h1 := argBest_le (ltD ds) (xs.length - 1)
    have h2 := List.length_pos_iff.mpr ne
    omega
  obtain ⟨u, hu, ru⟩ := rv.get (List.getElem?_eq_getElem le)
  have e2 : u = v := by
    have hP : its[argBest (ltD ds) (xs.length - 1)]? = some v := by simpa using hP
    rw [hu] at hP
    exact Option.some.inj hP
  rw [← e2]
  exact ⟨_, H, I.kept (t' := tk) hk', ru, hq _ (List.getElem?_eq_getElem le)⟩
end
end SE
namespace SE
open PySem PySem.Spec PyProof.Rows L2 SeqAt
open PySem.W (alike alikeAll dataLt dataLt_pair)
/-! ### the greatest group -/
def largM (G : Grp) : Nat := (G.map fun g => g.2.length).foldl max 0
theorem foldl_max_ge : ∀ (l : List Nat) (a : Nat), a ≤ l.foldl max a ∧ ∀ x ∈ l, x ≤ l.foldl max a
  | [], a => ⟨Nat.le_refl _, fun x m => by cases m⟩
  | y :: l, a => by
    obtain ⟨h1, h2⟩ := foldl_max_ge l (max a y)
    refine ⟨Nat.le_trans (Nat.le_max_left _ _) h1, fun x m => ?_⟩
    rcases List.mem_cons.mp m with e | m
    · rw [e]
      exact Nat.le_trans (Nat.le_max_right _ _) h1
    · exact h2 x m
theorem foldl_max_in : ∀ (l : List Nat) (a : Nat), l.foldl max a = a ∨ l.foldl max a ∈ l
  | [], a => .inl rfl
  | y :: l, a => by
    rcases foldl_max_in l (max a y) with e | m
    · rw [List.foldl_cons, e]
      rcases Nat.le_total a y with c | c
      · rw [Nat.max_eq_right c]
        exact .inr List.mem_cons_self
      · rw [Nat.max_eq_left c]
        exact .inl rfl
    · exact .inr (List.mem_cons_of_mem _ m)
/-- the greatest of counts -/
theorem max_is {ns : List Nat} {m : Int} (h0 : ns ≠ []) (hm : m ∈ ns.map fun n : Nat => (n : Int)) (hx : ∀ y ∈ ns.map fun n : Nat => (n : Int), y ≤ m) : m = ((ns.foldl max 0 : Nat) : Int) := by
  obtain ⟨n, mn, rfl⟩ := List.mem_map.mp hm
  have h1 := (foldl_max_ge ns 0).2 n mn
  rcases foldl_max_in ns 0 with e | q
  · rw [e] at h1 ⊢
    omega
  · have := hx _ (List.mem_map.mpr ⟨_, q, rfl⟩)
    omega
theorem addG_some (k : Res) (i : Nat) : ∀ G : Grp, addG k i G ≠ []
  | [] => by simp [addG]
  | g :: G => by
    unfold addG
    split <;> simp
theorem grpM_some (rs : List Res) {n : Nat} (h : 0 < n) : grpM rs n ≠ [] := by
  obtain ⟨m, rfl⟩ : ∃ m, n = m + 1 := ⟨n - 1, by omega⟩
  exact addG_some _ _ _
theorem walk_rowVals {w : World} {d : Addr} {o : Obj} {rows : List RowV} : Walk (ItRv w d o rows) rows.length (fun H => H d = some (.frz o (rowsO w d rows))) (fun i H x H' => H' = H ∧ ∃ r, rows[i]? = some r ∧ x = .ref r.2.2) :=
  ⟨fun _ _ hi q => ⟨q, hi⟩, fun _ q => ⟨q, Nat.le_refl _⟩, fun _ _ _ _ _ _ y => y⟩
section
variable {P : Program} {w : World} {K : PySem.W.Frag} {mg : Str → Option Value} {base : Heap} {C : Addr}
def spLg (w : World) (K : PySem.W.Frag) (C : Addr) : Sp := fun vs H Q _ => ∃ (L a : Addr) (es : List Addr) (os : List Eff) (zs : List Str), vs = [.ref L, .ref a] ∧ SqL K H L (es.map V.ref) ∧ Paired (EffV K C H) es os ∧ (∀ o ∈ os, EffOk o) ∧ 1 ≤ es.length ∧ es.length ≤ 20 ∧ SqT K H a (zs.map V.str) ∧ (∀ z ∈ zs, Item z) ∧ zs.length ≤ 1000 ∧
  ∀ H', Same H H' → Q (.int (largM (grpM (resM os zs) es.length) : Nat)) H'
abbrev nLg : List Str := ["candidates", "stack", "indexes"]
theorem scLg : FnScope nLg ["candidates", "stack"] (defScope sLargestMany) := ⟨rfl, rfl, rfl, by decide +kernel, rfl, by decide +kernel, by decide +kernel⟩
theorem has_lg (D : Def K mg "largest_many" sLargestMany) (GI : Has P w K mg base "indexes_by_result" 4 ["candidates", "stack"] [] (spIdx w K C)) (B : Blt mg) (mx : mg "max" = none) : Has P w K mg base "largest_many" 5 ["candidates", "stack"] [] (spLg w K C) := by
  refine has_of D scLg (fun _ _ _ _ _ _ us hl => match us, hl with | [_, _], _ => rfl) (fun xs H Q E h => ?_) (fun f cv A out s H xs Q E hr h => ?_)
  · obtain ⟨L, a, es, os, zs, rfl, _⟩ := h
    rfl
  · obtain ⟨L, a, es, os, zs, rfl, hL, hE, oE, l0, l1, hT, hI, hl, k⟩ := h
    refine ⟨_, pss_one (ps_ret (pe_callB (cr_max rfl) (by rfl) mx (by decide +kernel) (pa_cons (pe_lc (own := [("indexes", 2)]) (g := gName 2) (tt := tYes) (te := tCB (Evl.rLenS K) (tCons (tVar 2) tNil)) rfl scLg.nd
      (pi_rowVals (pe_frz (pe_has GI hr (pa_cons (pv 0) (pa_cons (pv 1) pa_nil))))) (blkOk_by (own := [("indexes", 2)]) (N := nLg) (sc := defScope sLargestMany) (by decide +kernel))
      (fun _ _ _ _ _ => pg_name (i := 2) scLg.nd rfl (.inl rfl)) (fun _ _ _ _ _ => pts_nil) (fun _ _ _ _ _ => pe_callB call_len_seq (by rfl) B.len PySem.boot_len (pa_cons (pv 2) pa_nil))) pa_nil))), ?_⟩
    refine ⟨_, rfl, _, rfl, L, a, es, os, zs, rfl, hL, hE, oE, l1, hT, hI, hl, fun d rows H3 s3 hd g => ?_⟩
    generalize hG : grpM (resM os zs) es.length = G at g k
    have gne : G ≠ [] := by
      rw [← hG]
      exact grpM_some _ l0
    have gl : G.length ≤ 20 := by
      rw [← hG]
      exact Nat.le_trans (grpM_len _ _) l1
    have rl := paired_len g.p
    refine ⟨d, _, rfl, g.d, trivial, fun od => ⟨d, od, rows, rfl, upd_same, fun D hD => ?_⟩⟩
    have r4 := g.lock od
    have s4 : Same H (upd H3 d (.frz od (rowsO w d rows))) := Same.free2 s3 hd
    have f4 : (upd H3 d (.frz od (rowsO w d rows))) d = some (.frz od (rowsO w d rows)) := upd_same
    generalize upd H3 d (.frz od (rowsO w d rows)) = H4 at hD r4 s4 f4
    refine lc_it walk_rowVals (fun j H5 => H5 D = some (.lst ((G.take j).map fun g => V.int (g.2.length : Nat))) ∧ Same H4 H5) ⟨upd_same, Same.new hD⟩ (fun _ _ _ q => q.2 _ _ f4) ?_ ?_
    · rintro j x H5 H5' hj ⟨h5, s5⟩ ⟨rfl, r, hr5, rfl⟩
      obtain ⟨g0, hg0, q1, q2⟩ := paired_at r4.p hr5
      refine ⟨rfl, ?_⟩
      unfold tYes
      dsimp only
      rw [if_pos rfl]
      refine ⟨_, rfl, r.2.2, _, rfl, .inl (.of (s5 _ _ q2)), _, h5, ?_, ?_, Same.free2 s5 hD⟩
      · rw [List.length_map, List.length_take]
        exact Nat.lt_of_le_of_lt (Nat.le_trans (Nat.min_le_right _ _) gl) (by decide)
      · rw [upd_same, List.take_add_one, hg0, List.map_append, List.length_map]
        rfl
    · rintro H5 ⟨h5, s5⟩
      rw [List.take_of_length_le (by omega)] at h5
      refine ⟨D, (G.map fun g => g.2.length).map fun n : Nat => (n : Int), rfl, .of (by rw [h5, List.map_map, List.map_map]; rfl), ?_, fun m mm mx => ?_⟩
      · rw [List.length_map, List.length_map]
        exact List.length_pos_iff.mpr gne
      · rw [max_is (by simpa using gne) mm mx]
        exact k H5 (s4.trans s5)
end
end SE
namespace SE
open PySem PySem.Spec PyProof.Rows L2 SeqAt
open PySem.W (alike alikeAll dataLt dataLt_pair)
def lgM (os : List Eff) (ws : List Str) : Nat := largM (grpM (resM os ws) os.length)
def popsM (os : List Eff) : List (List Str) := os.filterMap fun o => o.map (·.1)
def stksM (os : List Eff) : List (List Str) := [[]] ++ popsM os
def rowD (os : List Eff) (ws : List Str) : PyData := .tuple [.int (lgM os ws : Nat), keyD ws]
def bestI (os : List Eff) : Nat := argBest (ltD ((stksM os).map (rowD os))) ((stksM os).length - 1)
def bestM (os : List Eff) : List Str := (stksM os).getD (bestI os) []
theorem row_alike (os : List Eff) (x y : List Str) : alike (rowD os x) (rowD os y) = true := by
  have h := alike_key x y
  unfold rowD
  simp [alike, alikeAll, h]
theorem row_depth (os : List Eff) : ∀ l : List (List Str), PyData.depthAll (l.map (rowD os)) ≤ 20
  | [] => by simp [PyData.depthAll]
  | x :: l => by
    have := row_depth os l
    have h : (rowD os x).depth ≤ 20 := by
      unfold rowD keyD
      simp [PyData.depth, PyData.depthAll, depth_strs]
    show max (rowD os x).depth (PyData.depthAll (l.map (rowD os))) ≤ 20
    omega
theorem rows_alike (os : List Eff) (l : List (List Str)) : PySem.W.AlikeAll (l.map (rowD os)) := by
  refine ⟨fun x hx y hy => ?_, fun x hx => ?_⟩
  · obtain ⟨a, _, rfl⟩ := List.mem_map.mp hx
    obtain ⟨b, _, rfl⟩ := List.mem_map.mp hy
    exact row_alike os a b
  · obtain ⟨a, _, rfl⟩ := List.mem_map.mp hx
    exact fun z => by cases z
theorem dp_strs_inv {K : PySem.W.Frag} {H : Hp} : ∀ {vs : List V} {xs : List Str}, DpAll K H vs (xs.map .str) → vs = xs.map V.str
  | _, [], h => by
    cases h
    rfl
  | _, x :: xs, h => by
    cases h with
    | cons a b =>
      cases a
      rw [dp_strs_inv b]
      rfl
theorem key_inv {K : PySem.W.Frag} {H : Hp} {v : V} {xs : List Str} (h : Dp K H v (keyD xs)) : ∃ k b, v = .ref k ∧ SqT K H k [.int xs.length, .ref b] ∧ SqT K H b (xs.map V.str) := by
  cases h with
  | tup h1 h2 =>
    cases h2 with
    | cons a b =>
      cases a
      cases b with
      | cons c d =>
        cases d
        cases c with
        | tup h3 h4 =>
          rw [dp_strs_inv h4] at h3
          exact ⟨_, _, rfl, h1, h3⟩
/-- a row of best_stack -/
def RwV (K : PySem.W.Frag) (H : Hp) (os : List Eff) (v : V) (ws : List Str) : Prop := ∃ t k b, v = .ref t ∧ SqT K H t [.int (lgM os ws : Nat), .ref k] ∧ SqT K H k [.int ws.length, .ref b] ∧ SqT K H b (ws.map V.str)
theorem dp_rows {K : PySem.W.Frag} {H : Hp} {os : List Eff} : ∀ {vs : List V} {ws : List (List Str)}, Paired (RwV K H os) vs ws → DpAll K H vs (ws.map (rowD os))
  | _, _, .nil => .nil
  | _, _, .cons ⟨t, k, b, e, h1, h2, h3⟩ r => by
    cases e
    exact .cons (.tup h1 (.cons (.int _) (.cons (.tup h2 (.cons (.int _) (.cons (.tup h3 (dp_strs _)) .nil))) .nil))) (dp_rows r)
theorem stks_ok {os : List Eff} (h : ∀ o ∈ os, EffOk o) : ∀ ws ∈ stksM os, (∀ z ∈ ws, Item z) ∧ ws.length ≤ 1000 := fun ws m => by
  rcases List.mem_append.mp m with q | q
  · rw [List.mem_singleton.mp q]
    exact ⟨fun z mz => (by cases mz), Nat.zero_le _⟩
  · obtain ⟨o, mo, e⟩ := List.mem_filterMap.mp q
    obtain ⟨B, rfl, eb⟩ := Option.map_eq_some_iff.mp e
    obtain ⟨xs, ys, p⟩ := B
    obtain ⟨i1, _, h1, _⟩ := h _ mo
    cases eb
    exact ⟨i1, h1⟩
theorem stks_len (os : List Eff) : (stksM os).length ≤ os.length + 1 := by
  have := List.length_filterMap_le (fun o : Eff => o.map (·.1)) os
  show ([[]] ++ popsM os).length ≤ _
  unfold popsM
  rw [List.length_append, List.length_singleton]
  omega
section
variable {P : Program} {w : World} {K : PySem.W.Frag} {mg : Str → Option Value} {base : Heap} {C : Addr}
theorem has_by (D : Def K mg "by_height" sByHeight) (B : Blt mg) : Has P w K mg base "by_height" 1 ["stack"] [] (spBy K) := by
  refine has_of D scBy (fun _ _ _ _ _ _ us hl => match us, hl with | [_], _ => rfl) (fun xs H Q E h => ?_) (fun f cv A out s H xs Q E hr h => ?_)
  · obtain ⟨a, xs, rfl, _⟩ := h
    rfl
  · obtain ⟨a, xs, rfl, ha, k⟩ := h
    refine ⟨_, pss_one (ps_ret (pe_tup (pa_cons (pe_callB call_len_seq (by rfl) B.len PySem.boot_len (pa_cons (pv 0) pa_nil)) (pa_cons (pv 0) pa_nil)))), ?_⟩
    refine ⟨_, rfl, a, _, rfl, .inr ha, _, rfl, (by show 2 ≤ sizeLine; decide), fun t ht => k (.ref t) _ (Same.new ht) ?_⟩
    rw [List.length_map]
    exact .tup (.of upd_same) (.cons (.int _) (.cons (.tup (Same.tup (Same.new ht) ha) (dp_strs _)) .nil))
def spBest (K : PySem.W.Frag) (C : Addr) : Sp := fun vs H Q _ => ∃ (L : Addr) (es : List Addr) (os : List Eff), vs = [.ref L] ∧ SqL K H L (es.map V.ref) ∧ Paired (EffV K C H) es os ∧ (∀ o ∈ os, EffOk o) ∧ 1 ≤ es.length ∧ es.length ≤ 20 ∧ 
  ∀ (t b : Addr) H', Same H H' → SqT K H' t [.int (lgM os (bestM os) : Nat), .ref b] → SqT K H' b ((bestM os).map V.str) → Q (.ref t) H'
abbrev nBs : List Str := ["candidates", "stacks", "best", "effect", "stack"]
theorem scBs : FnScope nBs ["candidates"] (defScope sBestStack) := ⟨rfl, rfl, rfl, by decide +kernel, rfl, by decide +kernel, by decide +kernel⟩
theorem has_best (D : Def K mg "best_stack" sBestStack) (T : EC K mg C) (GC : Has P w K mg base "check_candidates" 2 ["candidates"] [] (spChkC K C)) (GL : Has P w K mg base "largest_many" 5 ["candidates", "stack"] [] (spLg w K C)) (GB : Has P w K mg base "by_height" 1 ["stack"] [] (spBy K)) (GI : PropHas P w K mg base C "is_never" 1 (spIsNev K C)) (GP : PropHas P w K mg base C "pops" 1 (spPops K C)) (mn : mg "min" = none) : Has P w K mg base "best_stack" 6 ["candidates"] [] (spBest K C) := by
  refine has_of D scBs (fun _ _ _ _ _ _ us hl => match us, hl with | [_], _ => rfl) (fun xs H Q E h => ?_) (fun f cv A out s H xs Q E hr h => ?_)
  · obtain ⟨L, es, os, rfl, _⟩ := h
    rfl
  · obtain ⟨L, es, os, rfl, hL, hE, oE, l0, l1, k⟩ := h
    have hr1 : Room 1 _ := hr.mono (by decide)
    have hr2 : Room 2 _ := hr.mono (by decide)
    refine ⟨_, pss_cons (ps_expr (pe_has GC hr2 (pa_cons (pv 0) pa_nil)))
      (pss_cons (ps_set (i := 1) scBs.nd rfl (.inl rfl) (pe_op op_cat (pe_lst (pa_cons (pe_tup pa_nil) pa_nil)) (pe_lc (own := [("effect", 3)]) (g := gName 3) rfl scBs.nd (pi_list (pv 0)) (blkOk_by (own := [("effect", 3)]) (N := nBs) (sc := defScope sBestStack) (by decide +kernel))
        (fun _ _ _ _ _ => pg_name (i := 3) scBs.nd rfl (.inl rfl)) (fun _ _ _ _ _ => pts_one (pt_not (pt_val (pe_propH GI (pv 3) T.cl hr2)))) (fun _ _ _ _ _ => pe_propH GP (pv 3) T.cl hr2))))
      (pss_cons (ps_set (i := 2) scBs.nd rfl (.inl rfl) (pe_callB (call_minD rfl (by have := hr.un; show (A.deeper _).units + 30 < cLine; omega)) (by rfl) mn (by decide +kernel) (pa_cons (pe_lc (own := [("stack", 4)]) (g := gName 4) (tt := tYes) (te := tTup (tCons (tCall (spLg w K C) [] E0 (tCons (tVar 0) (tCons (tVar 4) tNil))) (tCons (tCall (spBy K) [] E0 (tCons (tVar 4) tNil)) tNil))) rfl scBs.nd (pi_list (pv 1)) (blkOk_by (own := [("stack", 4)]) (N := nBs) (sc := defScope sBestStack) (by decide +kernel))
        (fun _ _ _ _ _ => pg_name (i := 4) scBs.nd rfl (.inl rfl)) (fun _ _ _ _ _ => pts_nil) (fun _ _ _ _ _ => pe_tup (pa_cons (pe_has GL hr (pa_cons (pv 0) (pa_cons (pv 4) pa_nil))) (pa_cons (pe_has GB hr1 (pa_cons (pv 4) pa_nil)) pa_nil)))) pa_nil)))
      (pss_one (ps_ret (pe_tup (pa_cons (pe_ix ix_tup (pv 2) pe_int (fun _ _ => rfl)) (pa_cons (pe_ix ix_tup (pe_ix ix_tup (pv 2) pe_int (fun _ _ => rfl)) pe_int (fun _ _ => rfl)) pa_nil))))))), ?_⟩
    refine ⟨_, rfl, L, es, os, rfl, hL, hE, l0, l1, fun H1 s1 => ?_⟩
    have le := paired_len hE
    refine ⟨(by show 0 ≤ sizeLine; decide), fun t0 ht0 => ⟨(by show 1 ≤ sizeLine; decide), fun L0 hL0 => ?_⟩⟩
    have q1 : Same H1 (upd H1 t0 (.tup [])) := Same.new ht0
    have k0 := upd_same (H := H1) (a := t0) (o := .tup [])
    generalize upd H1 t0 (.tup []) = J1 at q1 k0 hL0 ⊢
    have q2 : Same J1 (upd J1 L0 (.lst [.ref t0])) := Same.new hL0
    have k1 := upd_same (H := J1) (a := L0) (o := .lst [.ref t0])
    generalize upd J1 L0 (.lst [.ref t0]) = J2 at q2 k1 ⊢
    have s2 := (s1.trans q1).trans q2
    have hT0 := q2 _ _ k0
    refine ⟨_, rfl, L, rfl, ⟨_, Same.seq s2 hL⟩, fun D hD => lc_list (K := K) (a := L) (xs := es.map V.ref) (fun j H3 => ∃ us, H3 D = some (.lst us) ∧ Paired (WdV K H3) us (popsM (os.take j)) ∧ us.length ≤ j ∧ Same J2 H3) ⟨[], upd_same, .nil, Nat.le_refl _, Same.new hD⟩ (fun j H3 _ ⟨_, _, _, _, q⟩ => Same.seq (s2.trans q) hL) ?_ ?_⟩
    · rintro j x H3 hx ⟨us, h3, p3, lu, s3⟩
      rw [List.getElem?_map] at hx
      obtain ⟨e, he, rfl⟩ := Option.map_eq_some_iff.mp hx
      obtain ⟨o, ho, hV⟩ := paired_at hE he
      have jl := (List.getElem?_eq_some_iff.mp he).1
      have hV3 := hV.same (s2.trans s3)
      obtain ⟨dx, fs, hi⟩ := hV3.ins
      cases o with
      | none =>
        refine ⟨rfl, _, rfl, e, dx, fs, rfl, hi, e, rfl, .inr ⟨hV3, true, rfl, iteF ⟨us, h3, ?_, by omega, s3⟩⟩⟩
        have tk : popsM (os.take (j + 1)) = popsM (os.take j) := by
          rw [List.take_add_one, ho]
          unfold popsM
          rw [List.filterMap_append]
          exact List.append_nil _
        rw [tk]
        exact p3
      | some B =>
        obtain ⟨xs, ys, pk⟩ := B
        refine ⟨rfl, _, rfl, e, dx, fs, rfl, hi, e, rfl, .inl ⟨xs, ys, pk, hV3, false, rfl, iteT ⟨_, rfl, e, dx, fs, rfl, hi, e, xs, ys, pk, rfl, hV3, fun u hu => ⟨us, h3, Nat.lt_of_le_of_lt (show us.length ≤ 20 by omega) (by decide), us ++ [.ref u], upd_same, ?_, by rw [List.length_append, List.length_singleton]; omega, Same.free2 s3 hD⟩⟩⟩⟩
        have tk : popsM (os.take (j + 1)) = popsM (os.take j) ++ [xs] := by
          rw [List.take_add_one, ho]
          unfold popsM
          rw [List.filterMap_append]
          rfl
        rw [tk]
        refine paired_snoc ⟨u, rfl, tup_lst h3 _ _ hu⟩ (Paired.mapP p3 fun _ _ q => ?_)
        obtain ⟨b, e1, q⟩ := q
        exact ⟨b, e1, tup_lst h3 _ _ q⟩
    rintro H3 ⟨us, h3, p3, lu, s3⟩
    rw [List.length_map, le, List.take_length] at p3
    rw [List.length_map] at lu
    refine ⟨L0, D, [.ref t0], us, rfl, rfl, s3 _ _ k1, h3, by rw [sizeLine_eq]; simp only [List.length_singleton]; omega, fun q hq => ?_⟩
    have s4 : Same H3 (upd H3 q (.lst ([.ref t0] ++ us))) := Same.new hq
    have h4 := upd_same (H := H3) (a := q) (o := .lst ([.ref t0] ++ us))
    generalize upd H3 q (.lst ([.ref t0] ++ us)) = H4 at s4 h4 ⊢
    have p4 : Paired (WdV K H4) ([.ref t0] ++ us) (stksM os) := .cons ⟨t0, rfl, .of (s4 _ _ (s3 _ _ hT0))⟩ (words_same p3 s4)
    generalize [V.ref t0] ++ us = ss at h4 p4
    have s04 := (s2.trans s3).trans s4
    have lss := paired_len p4
    have lst := stks_len os
    have sok := stks_ok oE
    refine ⟨_, rfl, q, rfl, ⟨_, .of h4⟩, fun D2 hD2 => lc_list (K := K) (a := q) (xs := ss) (fun j H5 => ∃ rs, H5 D2 = some (.lst rs) ∧ Paired (RwV K H5 os) rs ((stksM os).take j) ∧ Same H4 H5) ⟨[], upd_same, .nil, Same.new hD2⟩ (fun j H5 _ ⟨_, _, _, z⟩ => .of (z _ _ h4)) ?_ ?_⟩
    · rintro j x H5 hx ⟨rs, h5, p5, s5⟩
      obtain ⟨ws, hw, b, rfl, hb⟩ := paired_at p4 hx
      have jl := (List.getElem?_eq_some_iff.mp hx).1
      obtain ⟨iw, lw⟩ := sok ws (List.mem_of_getElem? hw)
      have s05 := s04.trans s5
      have lrs : rs.length ≤ 21 := by
        rw [paired_len p5, List.length_take]
        omega
      refine ⟨rfl, ?_⟩
      unfold tYes
      dsimp only
      rw [if_pos rfl]
      refine ⟨_, rfl, _, rfl, L, b, es, os, ws, rfl, Same.seq s05 hL, effs_same hE s05, oE, l0, l1, Same.tup s5 hb, iw, lw, fun H6 s6 => ⟨_, rfl, b, ws, rfl, Same.tup (s5.trans s6) hb, fun v H7 s7 hv => ⟨(by show 2 ≤ sizeLine; decide), fun t ht => ?_⟩⟩⟩
      obtain ⟨k2, b2, rfl, hk, hb2⟩ := key_inv hv
      rw [le]
      have s8 : Same H7 (upd H7 t (.tup [.int (largM (grpM (resM os ws) os.length) : Nat), .ref k2])) := Same.new ht
      have h8 := upd_same (H := H7) (a := t) (o := .tup [.int (largM (grpM (resM os ws) os.length) : Nat), .ref k2])
      generalize upd H7 t (.tup [.int (largM (grpM (resM os ws) os.length) : Nat), .ref k2]) = H8 at s8 h8 ⊢
      have s58 := (s6.trans s7).trans s8
      have hD8 := s58 _ _ h5
      refine ⟨rs, hD8, Nat.lt_of_le_of_lt lrs (by decide), rs ++ [.ref t], upd_same, ?_, Same.free2 (s5.trans s58) hD2⟩
      have tk : (stksM os).take (j + 1) = (stksM os).take j ++ [ws] := by
        rw [List.take_add_one, hw]
        rfl
      rw [tk]
      have tl : ∀ {b : Addr} {ys : List V}, SqT K H8 b ys → SqT K (upd H8 D2 (.lst (rs ++ [.ref t]))) b ys := fun z => tup_lst hD8 _ _ z
      refine paired_snoc ⟨t, k2, b2, rfl, tl (.inl (.inl h8)), tl (Same.tup s8 hk), tl (Same.tup s8 hb2)⟩ (Paired.mapP p5 fun _ _ z => ?_)
      obtain ⟨t3, k3, b3, e1, e2, e3, e4⟩ := z
      exact ⟨t3, k3, b3, e1, tl (Same.tup s58 e2), tl (Same.tup s58 e3), tl (Same.tup s58 e4)⟩
    rintro H5 ⟨rs, h5, p5, s5⟩
    rw [lss, List.take_length] at p5
    have lrs := paired_len p5
    have pos : 0 < (stksM os).length := by
      show 0 < ([[]] ++ popsM os).length
      rw [List.length_append, List.length_singleton]
      omega
    refine ⟨D2, rs, (stksM os).map (rowD os), rfl, .of h5, fun e => ?_, dp_rows p5, rows_alike os _, row_depth os _, fun x hx => ?_⟩
    · rw [e] at lrs
      simp only [List.length_nil] at lrs
      omega
    rw [lrs] at hx
    obtain ⟨ws, hw, t, k2, b, rfl, e1, e2, e3⟩ := paired_at p5 (show rs[bestI os]? = some x from hx)
    have eb : bestM os = ws := by
      unfold bestM
      rw [List.getD_eq_getElem?_getD, hw]
      rfl
    refine ⟨_, rfl, t, _, 0, _, rfl, rfl, e1, atI_nat (j := 0) rfl, _, rfl, t, _, 1, _, rfl, rfl, e1, atI_nat (j := 1) rfl, k2, _, 1, _, rfl, rfl, e2, atI_nat (j := 1) rfl, (by show 2 ≤ sizeLine; decide), fun r hr => ?_⟩
    have s9 : Same H5 (upd H5 r (.tup [.int (lgM os ws : Nat), .ref b])) := Same.new hr
    refine k r b _ ((s04.trans s5).trans s9) ?_ ?_
    · rw [eb]
      exact .inl (.inl upd_same)
    · rw [eb]
      exact Same.tup s9 e3
end
end SE
namespace SE
open PySem PySem.Spec PyProof.Rows L2 SeqAt
open PySem.W (alike alikeAll dataLt dataLt_pair keyToks keyToksAll toks_all_cons dataLt_tuple dataLt_cons)
/-! ### the order of data -/
theorem dl_irrefl (x : PyData) : dataLt x x = false := (listOrd itemOrd).irrefl (keyToks x)
theorem dl_trans {x y z : PyData} (a : dataLt x y = true) (b : dataLt y z = true) : dataLt x z = true := (listOrd itemOrd).trans (keyToks x) (keyToks y) (keyToks z) a b
theorem dl_total {x y : PyData} (a : dataLt x y = false) (b : dataLt y x = false) : keyToks x = keyToks y := (listOrd itemOrd).total (keyToks x) (keyToks y) a b
theorem argBest_min (f : Nat → PyData) : ∀ k, argBest (fun i j => dataLt (f i) (f j)) k ≤ k ∧ ∀ j, j ≤ k → dataLt (f j) (f (argBest (fun i j => dataLt (f i) (f j)) k)) = false
  | 0 => ⟨Nat.le_refl _, fun j h => by
    obtain rfl : j = 0 := by omega
    exact dl_irrefl _⟩
  | k + 1 => by
    obtain ⟨h1, h2⟩ := argBest_min f k
    unfold argBest
    split
    · rename_i c
      refine ⟨Nat.le_refl _, fun j hj => ?_⟩
      by_cases e : j = k + 1
      · rw [e]
        exact dl_irrefl _
      · cases q : dataLt (f j) (f (k + 1)) with
        | false => rfl
        | true =>
          have := dl_trans q c
          rw [h2 j (by omega)] at this
          cases this
    · rename_i c
      refine ⟨Nat.le_succ_of_le h1, fun j hj => ?_⟩
      by_cases e : j = k + 1
      · rw [e]
        exact Bool.eq_false_iff.mpr c
      · exact h2 j (by omega)
theorem toks_strs : ∀ {xs ys : List Str} {l m : List (Int ⊕ List Nat)}, keyToksAll (xs.map .str) ++ l = keyToksAll (ys.map .str) ++ m → xs = ys
  | [], [], _, _, _ => rfl
  | [], y :: ys, l, m, h => by
    rw [List.map_cons, toks_all_cons, List.map_nil, keyToksAll] at h
    have := (List.cons.inj h).1
    cases this
  | x :: xs, [], l, m, h => by
    rw [List.map_cons, toks_all_cons, List.map_nil, keyToksAll] at h
    have := (List.cons.inj h).1
    cases this
  | x :: xs, y :: ys, l, m, h => by
    rw [List.map_cons, List.map_cons, toks_all_cons, toks_all_cons, keyToks, keyToks] at h
    have h2 := (List.cons.inj h).2
    have h3 := List.cons.inj h2
    have e : x.cps.toList = y.cps.toList := Sum.inr.inj h3.1
    have ex : x = y := by
      cases x
      cases y
      exact congrArg Str.mk (Array.toList_inj.mp e)
    rw [ex, toks_strs h3.2]
theorem row_total {os : List Eff} {a b : List Str} (h1 : dataLt (rowD os a) (rowD os b) = false) (h2 : dataLt (rowD os b) (rowD os a) = false) : a = b := by
  have h := dl_total h1 h2
  unfold rowD keyD at h
  simp only [keyToks, toks_all_cons] at h
  simp only [keyToksAll, List.cons_append, List.nil_append, List.append_assoc, List.cons.injEq, true_and] at h
  exact toks_strs h.2.2
/-- a row of the law -/
def rowL (os : List Eff) (ws : List Str) : PyData := .tuple [.int (lgM os ws : Nat), .int ws.length, .tuple (ws.map .str)]
theorem rowL_lt (os : List Eff) (a b : List Str) : dataLt (rowL os a) (rowL os b) = dataLt (rowD os a) (rowD os b) := by
  have i : ∀ x y : Int, alike (.int x) (.int y) = true := fun x y => by simp [alike]
  have s : alike (.tuple (a.map .str)) (.tuple (b.map .str)) = true := by
    have := alike_strs a b
    simp [alike, this]
  have nil : PyProof.Rows.lexLt itemOrd (keyToksAll []) (keyToksAll []) = false := (listOrd itemOrd).irrefl (keyToksAll [])
  unfold rowL rowD
  rw [dataLt_pair (i _ _) (alike_key a b)]
  unfold keyD
  rw [dataLt_pair (i _ _) s, dataLt_tuple, dataLt_cons (i _ _), dataLt_cons (i _ _), dataLt_cons s, nil]
  by_cases c1 : PyData.eqv (.int (lgM os a : Nat)) (.int (lgM os b : Nat)) = true
  · rw [if_pos c1, if_pos c1]
    have e : PyData.eqv (.tuple [.int (a.length : Int), .tuple (a.map .str)]) (.tuple [.int (b.length : Int), .tuple (b.map .str)]) = (PyData.eqv (.int (a.length : Int)) (.int (b.length : Int)) && PyData.eqv (.tuple (a.map .str)) (.tuple (b.map .str))) := by
      simp [PyData.eqv, PyData.eqvAll]
    rw [e]
    cases PyData.eqv (.int (a.length : Int)) (.int (b.length : Int)) <;> cases PyData.eqv (.tuple (a.map .str)) (.tuple (b.map .str)) <;> rfl
  · rw [if_neg c1, if_neg c1]
/-! ### the longest pops that a stack begins with -/
theorem addG_map (f : Res → Res) (inj : ∀ a b, f a = f b → a = b) (k : Res) (i : Nat) : ∀ G : Grp, addG (f k) i (G.map fun g => (f g.1, g.2)) = (addG k i G).map fun g => (f g.1, g.2)
  | [] => rfl
  | g :: G => by
    rw [List.map_cons]
    unfold addG
    by_cases c : g.1 = k
    · rw [if_pos c, if_pos (show f g.1 = f k by rw [c])]
      rfl
    · rw [if_neg c, if_neg (show ¬ f g.1 = f k from fun z => c (inj _ _ z)), addG_map f inj k i G]
      rfl
theorem grpM_map (f : Res → Res) (f0 : f none = none) (inj : ∀ a b, f a = f b → a = b) (rs : List Res) : ∀ n, grpM (rs.map f) n = (grpM rs n).map fun g => (f g.1, g.2)
  | 0 => rfl
  | n + 1 => by
    show addG ((rs.map f).getD n none) n (grpM (rs.map f) n) = _
    rw [grpM_map f f0 inj rs n]
    have e : (rs.map f).getD n none = f (rs.getD n none) := by
      rw [List.getD_eq_getElem?_getD, List.getD_eq_getElem?_getD, List.getElem?_map]
      cases rs[n]? with
      | none => exact f0.symm
      | some r => rfl
    rw [e, addG_map f inj]
    rfl
theorem largM_map (f : Res → Res) (G : Grp) : largM (G.map fun g => (f g.1, g.2)) = largM G := by
  unfold largM
  rw [List.map_map]
  rfl
theorem longest : ∀ (L : List (List Str)) (ws : List Str), (∃ p ∈ L, p <+: ws) → ∃ p ∈ L, p <+: ws ∧ ∀ q ∈ L, q <+: ws → q.length ≤ p.length
  | [], ws, ⟨p, m, _⟩ => by cases m
  | x :: L, ws, h => by
    by_cases c : ∃ p ∈ L, p <+: ws
    · obtain ⟨p, m, h1, h2⟩ := longest L ws c
      by_cases d : x <+: ws ∧ p.length < x.length
      · refine ⟨x, List.mem_cons_self, d.1, fun q mq hq => ?_⟩
        rcases List.mem_cons.mp mq with e | mq
        · rw [e]
          exact Nat.le_refl _
        · have := h2 q mq hq
          omega
      · refine ⟨p, List.mem_cons_of_mem _ m, h1, fun q mq hq => ?_⟩
        rcases List.mem_cons.mp mq with e | mq
        · rw [e] at hq ⊢
          exact Nat.le_of_not_lt fun z => d ⟨hq, z⟩
        · exact h2 q mq hq
    · obtain ⟨p, m, hp⟩ := h
      rcases List.mem_cons.mp m with e | m
      · rw [e] at hp
        refine ⟨x, List.mem_cons_self, hp, fun q mq hq => ?_⟩
        rcases List.mem_cons.mp mq with e | mq
        · rw [e]
          exact Nat.le_refl _
        · exact absurd ⟨q, mq, hq⟩ c
      · exact absurd ⟨p, m, hp⟩ c
theorem lg_prefix (os : List Eff) (ws : List Str) : ∃ p ∈ stksM os, lgM os p = lgM os ws ∧ (p = ws ∨ p.length < ws.length) := by
  obtain ⟨p, mp, hp, hmax⟩ := longest (stksM os) ws ⟨[], List.mem_append.mpr (.inl List.mem_cons_self), List.nil_prefix⟩
  obtain ⟨rest, rfl⟩ := hp
  refine ⟨p, mp, ?_, ?_⟩
  · have inj : ∀ a b : Res, a.map (· ++ rest) = b.map (· ++ rest) → a = b := fun a b h => by
      cases a <;> cases b
      · rfl
      · cases h
      · cases h
      · exact congrArg some (List.append_cancel_right (Option.some.inj h))
    have e : resM os (p ++ rest) = (resM os p).map fun r => r.map (· ++ rest) := by
      unfold resM
      rw [List.map_map]
      refine List.map_congr_left fun o mo => ?_
      cases o with
      | none => rfl
      | some B =>
        obtain ⟨xs, ys, pk⟩ := B
        have mx : xs ∈ stksM os := List.mem_append.mpr (.inr (List.mem_filterMap.mpr ⟨_, mo, rfl⟩))
        show replM (some (xs, ys, pk)) (p ++ rest) = (replM (some (xs, ys, pk)) p).map (· ++ rest)
        unfold replM
        dsimp only
        by_cases c : xs <+: p ++ rest
        · have hl := hmax xs mx c
          have t1 : (p ++ rest).take xs.length = xs := List.prefix_iff_eq_take.mp c |>.symm
          have t2 : p.take xs.length = xs := by
            rw [List.take_append_of_le_length hl] at t1
            exact t1
          rw [if_pos t1, if_pos t2, List.drop_append_of_le_length hl]
          exact congrArg some (List.append_assoc _ _ _).symm
        · have t1 : ¬ (p ++ rest).take xs.length = xs := fun z => c (List.prefix_iff_eq_take.mpr z.symm)
          have t2 : ¬ p.take xs.length = xs := fun z => c ((List.prefix_iff_eq_take.mpr z.symm).trans (List.prefix_append _ _))
          rw [if_neg t1, if_neg t2]
          rfl
    unfold lgM
    rw [e, grpM_map (fun r => r.map (· ++ rest)) rfl inj, largM_map]
  · cases rest with
    | nil => exact .inl (List.append_nil _).symm
    | cons z r =>
      refine .inr ?_
      rw [List.length_append, List.length_cons]
      omega
theorem row_short {os : List Eff} {p d : List Str} (e1 : lgM os p = lgM os d) (e2 : p.length < d.length) : dataLt (rowD os p) (rowD os d) = true := by
  have i : ∀ x y : Int, alike (.int x) (.int y) = true := fun x y => by simp [alike]
  have s : alike (.tuple (p.map .str)) (.tuple (d.map .str)) = true := by
    have := alike_strs p d
    simp [alike, this]
  have c1 : PyData.eqv (.int (lgM os p : Nat)) (.int (lgM os d : Nat)) = true := by
    rw [e1]
    simp [PyData.eqv]
  have c2 : PyData.eqv (.int (p.length : Int)) (.int (d.length : Int)) = false := by
    simp [PyData.eqv]
    omega
  have c3 : PyData.eqv (keyD p) (keyD d) = false := by
    have e : PyData.eqv (keyD p) (keyD d) = (PyData.eqv (.int (p.length : Int)) (.int (d.length : Int)) && PyData.eqv (.tuple (p.map .str)) (.tuple (d.map .str))) := by
      simp [keyD, PyData.eqv, PyData.eqvAll]
    rw [e, c2]
    rfl
  unfold rowD
  rw [PySem.W.dataLt_pair (i _ _) (alike_key p d), if_pos c1, if_neg (by rw [c3]; decide)]
  unfold keyD
  rw [PySem.W.dataLt_pair (i _ _) s, if_neg (by rw [c2]; decide), PySem.W.dataLt_int]
  exact decide_eq_true (by omega)
/-- the least of all stacks is the least of those that best_stack looks at -/
theorem best_is {os : List Eff} {L : List (List Str)} (sub : ∀ ws ∈ stksM os, ws ∈ L) {d : List Str} (hd : d ∈ L) (least : ∀ ws ∈ L, dataLt (rowD os ws) (rowD os d) = false) : d = bestM os := by
  obtain ⟨p, mp, e1, e2⟩ := lg_prefix os d
  have pd : p = d := by
    rcases e2 with e2 | e2
    · exact e2
    · have := least p (sub p mp)
      rw [row_short e1 e2] at this
      cases this
  subst pd
  have pos : 0 < (stksM os).length := List.length_pos_iff.mpr fun e => by
    rw [e] at mp
    cases mp
  have fe : ∀ i, i < (stksM os).length → ((stksM os).map (rowD os)).getD i .none = rowD os ((stksM os).getD i []) := fun i hi => by
    rw [List.getD_eq_getElem?_getD, List.getD_eq_getElem?_getD, List.getElem?_map, List.getElem?_eq_getElem hi]
    rfl
  obtain ⟨b1, b2⟩ := argBest_min (fun i => ((stksM os).map (rowD os)).getD i .none) ((stksM os).length - 1)
  have bl : bestI os < (stksM os).length := Nat.lt_of_le_of_lt b1 (by omega)
  obtain ⟨j, hj, ej⟩ := List.mem_iff_getElem.mp mp
  have h1 := b2 j (by omega)
  have h1 : dataLt (((stksM os).map (rowD os)).getD j .none) (((stksM os).map (rowD os)).getD (bestI os) .none) = false := h1
  rw [fe j hj, fe _ bl, List.getD_eq_getElem?_getD, List.getElem?_eq_getElem hj, Option.getD_some, ej] at h1
  have bm : bestM os ∈ stksM os := by
    unfold bestM
    rw [List.getD_eq_getElem?_getD, List.getElem?_eq_getElem bl]
    exact List.getElem_mem _
  exact row_total h1 (least _ (sub _ bm))
/-- which row min gives -/
theorem least_row {os : List Eff} {L : List (List Str)} (h0 : L ≠ []) : ∃ d, L[argBest (ltD (L.map (rowL os))) (L.length - 1)]? = some d ∧ d ∈ L ∧ ∀ ws ∈ L, dataLt (rowD os ws) (rowD os d) = false := by
  have pos := List.length_pos_iff.mpr h0
  have fe : ∀ i, i < L.length → (L.map (rowL os)).getD i .none = rowL os (L.getD i []) := fun i hi => by
    rw [List.getD_eq_getElem?_getD, List.getD_eq_getElem?_getD, List.getElem?_map, List.getElem?_eq_getElem hi]
    rfl
  obtain ⟨b1, b2⟩ := argBest_min (fun i => (L.map (rowL os)).getD i .none) (L.length - 1)
  generalize hb : argBest (fun i j => dataLt ((fun i => (L.map (rowL os)).getD i .none) i) ((fun i => (L.map (rowL os)).getD i .none) j)) (L.length - 1) = b at b1 b2
  have hb2 : argBest (ltD (L.map (rowL os))) (L.length - 1) = b := hb
  have bl : b < L.length := by omega
  rw [hb2]
  refine ⟨L[b], List.getElem?_eq_getElem bl, List.getElem_mem _, fun ws mw => ?_⟩
  obtain ⟨j, hj, ej⟩ := List.mem_iff_getElem.mp mw
  have h1 : dataLt ((L.map (rowL os)).getD j .none) ((L.map (rowL os)).getD b .none) = false := b2 j (by omega)
  rw [fe j hj, fe _ bl, List.getD_eq_getElem?_getD, List.getD_eq_getElem?_getD, List.getElem?_eq_getElem hj, List.getElem?_eq_getElem bl, Option.getD_some, Option.getD_some, ej, rowL_lt] at h1
  exact h1
end SE
namespace SE
open PySem PySem.Spec PyProof.Rows L2
/-! ### effects that are combined: the mathematics' side -/
def parts : List Eff → Option (List Prt)
  | [] => some []
  | none :: _ => none
  | some B :: r => (parts r).map fun q => B :: q
def thenM (os : List Eff) : Eff := (parts os).bind joinM
def revP (A : Prt) : Prt := (A.2.1, A.1, A.2.2 - hg A)
def revE (o : Eff) : Eff := o.map revP
theorem parts_none : ∀ {os : List Eff}, none ∈ os → parts os = none
  | [], h => by cases h
  | none :: _, _ => rfl
  | some B :: r, h => by
    have q : none ∈ r := by
      rcases List.mem_cons.mp h with e | e
      · cases e
      · exact e
    rw [parts, parts_none q]
    rfl
theorem parts_some : ∀ (ps : List Prt), parts (ps.map some) = some ps
  | [] => rfl
  | B :: r => by rw [List.map_cons, parts, parts_some r]; rfl
theorem then_none {os : List Eff} (h : none ∈ os) : thenM os = none := by
  unfold thenM
  rw [parts_none h]
  rfl
theorem eff_nil : effM [] = some ([], [], 0) := rfl
theorem then_go : ∀ (sss : List (List Stp)) (A : Prt) (ss : List Stp), (∀ s ∈ ss, Item s.2) → (∀ tt ∈ sss, ∀ s ∈ tt, Item s.2) → effM ss = some A → (parts (sss.map effM)).bind (joinF A) = effM (ss ++ sss.flatten)
  | [], A, ss, _, _, h => by
    show some A = _
    rw [List.flatten_nil, List.append_nil, h]
  | tt :: r, A, ss, hI, hJ, h => by
    have hT : ∀ s ∈ tt, Item s.2 := hJ tt (List.mem_cons_self ..)
    have hR : ∀ t ∈ r, ∀ s ∈ t, Item s.2 := fun t m => hJ t (List.mem_cons_of_mem _ m)
    have hst : ∀ s ∈ ss ++ tt, Item s.2 := fun s m => by
      rcases List.mem_append.mp m with q | q
      · exact hI s q
      · exact hT s q
    have e1 : effM (ss ++ tt) = (effM tt).bind (comp A) := by rw [effM_app hI, h]; rfl
    rw [List.flatten_cons, ← List.append_assoc, List.map_cons]
    cases q : effM tt with
    | none =>
      rw [q] at e1
      rw [effM_app hst, e1]
      rfl
    | some B =>
      rw [q] at e1
      have e2 : effM (ss ++ tt) = comp A B := e1
      rw [parts]
      cases c : comp A B with
      | none =>
        rw [effM_app hst, e2, c]
        cases parts (r.map effM) with
        | none => rfl
        | some ps =>
          show joinF A (B :: ps) = none
          rw [joinF_cons, c]
          rfl
      | some D =>
        rw [← then_go r D (ss ++ tt) hst hR (by rw [e2, c])]
        cases parts (r.map effM) with
        | none => rfl
        | some ps =>
          show joinF A (B :: ps) = joinF D ps
          rw [joinF_cons, c]
          rfl
theorem then_eff {sss : List (List Stp)} (h : ∀ tt ∈ sss, ∀ s ∈ tt, Item s.2) : thenM (sss.map effM) = effM sss.flatten := by
  have := then_go sss ([], [], 0) [] (fun s m => by cases m) h eff_nil
  exact this
theorem cw_swap : ∀ P R : List Str, cw R P = (cw P R).map fun z => (z.2, z.1)
  | [], R => by rw [cw_nil]; rfl
  | a :: P, [] => rfl
  | a :: P, b :: R => by
    rw [cw, cw]
    by_cases e : a = b
    · rw [if_pos e, if_pos e.symm]
      exact cw_swap P R
    · rw [if_neg e, if_neg (Ne.symm e)]
      rfl
theorem rev_comp (A B : Prt) : revE (comp A B) = comp (revP B) (revP A) := by
  cases h : comp A B with
  | none =>
    rw [comp_cw] at h
    rw [comp_cw]
    show none = (cw B.1 A.2.1).map _
    rw [cw_swap A.2.1 B.1]
    cases q : cw A.2.1 B.1 with
    | none => rfl
    | some z => rw [q] at h; cases h
  | some D =>
    have hh := hg_comp h
    have hp := pk_comp h
    rw [comp_cw] at h
    rw [comp_cw]
    show some (revP D) = (cw B.1 A.2.1).map _
    rw [cw_swap A.2.1 B.1]
    cases q : cw A.2.1 B.1 with
    | none => rw [q] at h; cases h
    | some z =>
      rw [q] at h
      have e : (A.1 ++ z.1, B.2.1 ++ z.2, mx A.2.2 (hg A + B.2.2)) = D := Option.some.inj h
      show some (D.2.1, D.1, D.2.2 - hg D) = some (B.2.1 ++ z.2, A.1 ++ z.1, mx (B.2.2 - hg B) (hg (revP B) + (A.2.2 - hg A)))
      have e3 : D.2.2 - hg D = mx (B.2.2 - hg B) (hg (revP B) + (A.2.2 - hg A)) := by
        rw [hp, hh]
        have r1 : hg (revP B) = - hg B := by
          unfold hg revP
          dsimp only
          omega
        rw [r1]
        unfold mx
        split <;> split <;> omega
      rw [e3, ← e]
theorem rev_part (s : Stp) : revP (partM s) = partM (flip1 s) := by
  obtain ⟨b, z⟩ := s
  cases b <;> rfl
theorem back_cons (s : Stp) (ss : List Stp) : revM (s :: ss) = revM ss ++ [(flip1 s)] := by
  unfold revM
  rw [List.reverse_cons, List.map_append]
  rfl
theorem back_mem {ss : List Stp} {s : Stp} (h : s ∈ revM ss) : ∃ t ∈ ss, s.2 = t.2 := by
  unfold revM at h
  obtain ⟨t, m, rfl⟩ := List.mem_map.mp h
  exact ⟨t, List.mem_reverse.mp m, rfl⟩
theorem back_item {ss : List Stp} (hI : ∀ s ∈ ss, Item s.2) : ∀ s ∈ revM ss, Item s.2 := fun s m => by
  obtain ⟨t, m2, e⟩ := back_mem m
  rw [e]
  exact hI t m2
theorem back_len (ss : List Stp) : (revM ss).length = ss.length := by
  unfold revM
  rw [List.length_map, List.length_reverse]
theorem eff_one (s : Stp) : effM [s] = some (partM s) := by
  show joinF ([], [], 0) [partM s] = _
  rw [joinF_cons, comp_one]
  rfl
theorem rev_eff : ∀ (ss : List Stp), (∀ s ∈ ss, Item s.2) → revE (effM ss) = effM (revM ss)
  | [], _ => rfl
  | s :: ss, hI => by
    have h1 : ∀ t ∈ [s], Item t.2 := fun t m => by
      rw [List.mem_singleton.mp m]
      exact hI s (List.mem_cons_self ..)
    have h2 : ∀ t ∈ ss, Item t.2 := fun t m => hI t (List.mem_cons_of_mem _ m)
    have ih := rev_eff ss h2
    have e0 : effM (s :: ss) = (effM ss).bind (comp (partM s)) := by
      have := effM_app (tt := ss) h1
      rw [eff_one] at this
      exact this
    rw [back_cons, effM_app (back_item h2), ← ih, e0, eff_one]
    cases effM ss with
    | none => rfl
    | some B =>
      show revE (comp (partM s) B) = comp (revP B) (partM (flip1 s))
      rw [rev_comp, rev_part]
theorem rev_rev (o : Eff) : revE (revE o) = o := by
  cases o with
  | none => rfl
  | some A =>
    obtain ⟨x, y, p⟩ := A
    show some (x, y, p - hg (x, y, p) - hg (revP (x, y, p))) = some (x, y, p)
    have : p - hg (x, y, p) - hg (revP (x, y, p)) = p := by
      unfold hg revP
      dsimp only
      omega
    rw [this]
theorem comp_unit {B : Prt} (h : 0 ≤ B.2.2) : comp ([], [], 0) B = some B := by
  rw [comp_cw]
  show some ([] ++ B.1, B.2.1 ++ [], mx 0 (0 + B.2.2)) = some B
  have : mx 0 (0 + B.2.2) = B.2.2 := by
    unfold mx
    split <;> omega
  rw [List.append_nil, this]
  rfl
theorem comp_rev {A : Prt} (h : PrtOk A) : comp A (revP A) = some (A.1, A.1, A.2.2) := by
  rw [comp_cw]
  have e := cw_self_left A.2.1 []
  rw [List.append_nil] at e
  show (cw A.2.1 A.2.1).map _ = _
  rw [e]
  show some (A.1 ++ [], A.1 ++ [], mx A.2.2 (hg A + (A.2.2 - hg A))) = _
  have : mx A.2.2 (hg A + (A.2.2 - hg A)) = A.2.2 := by
    unfold mx
    split <;> omega
  rw [List.append_nil, this]
theorem comp_back {A : Prt} : comp (A.1, A.1, A.2.2) A = some A := by
  rw [comp_cw]
  have e := cw_self_left A.1 []
  rw [List.append_nil] at e
  show (cw A.1 A.1).map _ = _
  rw [e]
  show some (A.1 ++ [], A.2.1 ++ [], mx A.2.2 (hg (A.1, A.1, A.2.2) + A.2.2)) = _
  have : mx A.2.2 (hg (A.1, A.1, A.2.2) + A.2.2) = A.2.2 := by
    unfold mx hg
    dsimp only
    split <;> omega
  rw [List.append_nil, List.append_nil, this]
theorem then_rev2 {A : Prt} (h : PrtOk A) : thenM [some A, some (revP A)] = some (A.1, A.1, A.2.2) := by
  show joinF ([], [], 0) [A, revP A] = _
  rw [joinF_cons, comp_unit h.h0]
  show joinF A [revP A] = _
  rw [joinF_cons, comp_rev h]
  rfl
theorem then_rev3 {ss : List Stp} (hI : ∀ s ∈ ss, Item s.2) : thenM [effM ss, revE (effM ss), effM ss] = effM ss := by
  cases h : effM ss with
  | none => rfl
  | some A =>
    have ok := (effM_ok hI h).1
    show joinF ([], [], 0) [A, revP A, A] = _
    rw [joinF_cons, comp_unit ok.h0]
    show joinF A [revP A, A] = _
    rw [joinF_cons, comp_rev ok]
    show joinF (A.1, A.1, A.2.2) [A] = _
    rw [joinF_cons, comp_back]
    rfl
end SE
namespace SE
open PySem PySem.Spec PyProof.Rows L2
abbrev sThen : Stmt := inClass sEffect 10
abbrev sReversal : Stmt := inClass sEffect 11
/-- an effect that may be combined -/
def EffSm (o : Eff) : Prop := ∀ B, o = some B → PrtOk B ∧ B.1.length + B.2.1.length ≤ 100
/-! ### o.m(), m with a star -/
theorem pe_methR0 {X : Cx} {CX : CXT} {k : Nat} {C f : Addr} {m : Str} {sp : Sp} {E : XK} {o : Expr} {ta : TE} {apos pos : Pos} {pl : Sem Bool} (he : PE X o ta) (c : Cls X.K C) (hm : Meth X.K C m f)
    (F : FnR X.prog X.w X.K X.mg X.base CX k f sp) (hr : Room k X.A) (hx : Passes CX X E)
    (ht : eval (.Call (.Attribute o m apos) [] [] pos) X.env = (do
      let ov ← eval o X.env
      standAt apos.atName
      let (f, first) ← holding [ov] (getMethod ov m pl)
      callWith pos f first (backTo pos (starEach [] X.env)) (backToKw pos (keywordEach [] X.env))) := by rfl) :
    PE X (.Call (.Attribute o m apos) [] [] pos) (tMethR C m sp E ta tNil) := by
  refine ⟨fun pins s σ H Q I h => ?_⟩
  refine PySem.W.methodCall_KW (pl := pl) (thn (he.run pins s σ H _ I h) fun u s1 ⟨x, H1, I1, rx, a, dx, fs, ex, ea, l, q⟩ => ?_) ht
  subst ex
  obtain rfl : u = Value.ref a := rx
  refine getmeth_ok I1 ea c hm l ?_
  exact PySem.W.callWith_K0 (first := [.ref a]) I1.kIn hm.kp (wpAny_call (run_fnR (us := [.ref a]) (vs := [.ref a]) F hr hx I1 (.cons rfl .nil) q))
section
variable {P : Program} {w : World} {K : PySem.W.Frag} {mg : Str → Option Value} {base : Heap} {C : Addr}
def EfV (K : PySem.W.Frag) (C : Addr) (H : Hp) (v : V) (o : Eff) : Prop := ∃ a, v = .ref a ∧ EffV K C H a o
theorem EfV.same {H H' : Hp} {v : V} {o : Eff} (h : EfV K C H v o) (s : Same H H') : EfV K C H' v o := by
  obtain ⟨a, e, q⟩ := h
  exact ⟨a, e, q.same s⟩
theorem parts_all : ∀ {os : List Eff}, none ∉ os → ∃ ps : List Prt, os = ps.map some
  | [], _ => ⟨[], rfl⟩
  | none :: r, h => absurd (List.mem_cons_self ..) h
  | some B :: r, h => by
    obtain ⟨ps, e⟩ := parts_all (os := r) fun m => h (List.mem_cons_of_mem _ m)
    exact ⟨B :: ps, by rw [e]; rfl⟩
def spThen (K : PySem.W.Frag) (C : Addr) : Sp := fun vs H Q _ => ∃ (es : List V) (os : List Eff), vs = es ∧ es ≠ [] ∧ Paired (EfV K C H) es os ∧ (∀ x ∈ os, EffSm x) ∧ os.length ≤ 6 ∧ ∀ r H', Same H H' → EffV K C H' r (thenM os) → Q (.ref r) H'
def spThenI (K : PySem.W.Frag) (C : Addr) : Sp := fun vs H Q _ => ∃ (e : V) (p : Addr) (es : List V) (os : List Eff), vs = [e, .ref p] ∧ H p = some (.tup es) ∧ Paired (EfV K C H) (e :: es) os ∧ (∀ x ∈ os, EffSm x) ∧ os.length ≤ 6 ∧ ∀ r H', Same H H' → EffV K C H' r (thenM os) → Q (.ref r) H'
abbrev nThen : List Str := ["self", "others", "effects", "effect"]
theorem scThen : FnScope nThen (["self", "others"] : List Str) (defScope sThen) := ⟨rfl, rfl, rfl, by decide +kernel, rfl, by decide +kernel, by decide +kernel⟩
theorem ok_then {f : Addr} {fd : FuncData} (F : Fun K "then" "Effect.then" sThen f fd) (T : EC K mg C) (GN : NeverHas P w K mg base C) (GI : PropHas P w K mg base C "is_never" 1 (spIsNev K C)) (GP : PropHas P w K mg base C "pops" 1 (spPops K C)) (GQ : PropHas P w K mg base C "pushes" 1 (spPush K C)) (GK : PropHas P w K mg base C "peak" 1 (spPeak K C))
    (GJ : Has P w K mg base "joined" 7 ["parts"] [] (spJoin K C)) (ma : mg "any" = none) : FnR P w K mg base CX0 8 f (spThen K C) := by
  obtain ⟨oc, od, kV, doc, pm, an, cv, ct, osl, rfl, look, hcode⟩ := F.ex
  refine FnR.imp (StX.fn_star (k := 7) (ps := ["self"]) (pv := "others") (N := nThen) (sp := spThenI K C) look hcode scThen StX.cxUp_none (StX.bind_star1 (B := fun xs => bindArgs (PySem.W.fnOf "then" "Effect.then" (defArgs sThen) (defBody sThen) (defScope sThen) Value.none kV doc pm an cv ct) ⟨xs, []⟩) (fun a => rfl) (fun a r rs => rfl)) (fun A out s H vs Q E hr h => ?_)) (fun vs H Q E h => ?_)
  rotate_left
  · obtain ⟨es, os, rfl, hne, hP, hS, hl, k⟩ := h
    cases vs with
    | nil => exact absurd rfl hne
    | cons e es =>
      have ln := paired_len hP
      rw [List.length_cons] at ln
      refine ⟨[e], es, rfl, rfl, by rw [sizeLine_eq]; omega, fun p hp => ⟨e, p, es, os, rfl, upd_same, Paired.mapP hP fun v o q => q.same (Same.new hp), hS, hl, fun r H' s' he => k r H' ((Same.new hp).trans s') he⟩⟩
  have body : ∃ t, PSs (cxOf CX0 P w K mg base nThen "Effect.then" (defScope sThen) f cv A out s H E).nox (defBody sThen) t ∧ t { nx := fun _ H2 => Q .non H2, rt := Q } (start nThen vs) H := by
    obtain ⟨e, p, es, os, rfl, hp, hP, hS, hl, k⟩ := h
    have hr2 : Room 2 _ := hr.mono (by decide)
    have hr6 : Room 6 _ := hr.mono (by decide)
    have ln := paired_len hP
    refine ⟨_, pss_cons (ps_set (i := 2) scThen.nd rfl (.inl rfl) (pe_lst (pa_cons (pv 0) (StX.pa_star (pv 1) pa_nil))))
      (pss_cons (ps_if (pt_val (pe_callB (cr_any rfl) (by rfl) ma (by decide +kernel) (pa_cons
        (pe_lc (own := [("effect", 3)]) (g := gName 3) (tt := tYes) (te := tProp C (spIsNev K C) [] E0 (tVar 3)) rfl scThen.nd (pi_list (pv 2)) (blkOk_by (own := [("effect", 3)]) (N := nThen) (sc := defScope sThen) (by decide +kernel))
          (fun _ _ _ _ _ => pg_name (i := 3) scThen.nd rfl (.inl rfl)) (fun _ _ _ _ _ => pts_nil) (fun _ _ _ _ _ => pe_propH GI (pv 3) T.cl hr2)) pa_nil)))
        (pss_one (ps_ret (pe_never0 GN T.mgE hr6))) pss_nil)
      (pss_one (ps_ret (pe_has GJ hr (pa_cons
        (pe_lc (own := [("effect", 3)]) (g := gName 3) (tt := tYes) (te := tTup (tCons (tProp C (spPops K C) [] E0 (tVar 3)) (tCons (tProp C (spPush K C) [] E0 (tVar 3)) (tCons (tProp C (spPeak K C) [] E0 (tVar 3)) tNil)))) rfl scThen.nd (pi_list (pv 2)) (blkOk_by (own := [("effect", 3)]) (N := nThen) (sc := defScope sThen) (by decide +kernel))
          (fun _ _ _ _ _ => pg_name (i := 3) scThen.nd rfl (.inl rfl)) (fun _ _ _ _ _ => pts_nil) (fun _ _ _ _ _ => pe_tup (pa_cons (pe_propH GP (pv 3) T.cl hr2) (pa_cons (pe_propH GQ (pv 3) T.cl hr2) (pa_cons (pe_propH GK (pv 3) T.cl hr2) pa_nil))))) pa_nil))))), ?_⟩
    refine ⟨_, rfl, _, rfl, p, es, rfl, .inl (.of hp), ?_, fun d hd => ?_⟩
    · rw [List.append_nil]
      show (e :: es).length ≤ sizeLine
      rw [ln, sizeLine_eq]
      omega
    rw [List.append_nil]
    have s1 : Same H (upd H d (.lst (e :: es))) := Same.new hd
    have hP1 : Paired (EfV K C (upd H d (.lst (e :: es)))) (e :: es) os := Paired.mapP hP fun v o q => q.same s1
    have hd1 : (upd H d (.lst (e :: es))) d = some (.lst (e :: es)) := upd_same
    generalize upd H d (.lst (e :: es)) = H1 at s1 hP1 hd1
    refine ⟨_, rfl, d, rfl, ⟨_, .of hd1⟩, fun D hD => lc_list (K := K) (a := d) (xs := e :: es) (fun j H2 => H2 D = some (.lst (((os.take j).map fun o => o.isNone).map V.bl)) ∧ Same H1 H2) ⟨upd_same, Same.new hD⟩ (fun j H2 _ q => .of (q.2 _ _ hd1)) ?_ ?_⟩
    · rintro j x H2 hx ⟨h2, s2⟩
      obtain ⟨o, ho, a, rfl, hV⟩ := paired_at hP1 hx
      have hV2 := hV.same s2
      obtain ⟨dx, fs, hi⟩ := hV2.ins
      have jl : j < os.length := (List.getElem?_eq_some_iff.mp ho).1
      have e1 : ((os.take (j + 1)).map fun o => o.isNone).map V.bl = ((os.take j).map fun o => o.isNone).map V.bl ++ [V.bl o.isNone] := by
        rw [List.take_add_one, ho, List.map_append, List.map_append]
        rfl
      refine ⟨rfl, yes_in ⟨_, rfl, a, dx, fs, rfl, hi, a, rfl, ?_⟩⟩
      have fin : ∀ b, b = o.isNone → ∃ acc, H2 D = some (.lst acc) ∧ acc.length < sizeLine ∧ (upd H2 D (.lst (acc ++ [V.bl b]))) D = some (.lst (((os.take (j + 1)).map fun o => o.isNone).map V.bl)) ∧ Same H1 (upd H2 D (.lst (acc ++ [V.bl b]))) := by
        rintro b rfl
        refine ⟨_, h2, ?_, by rw [upd_same, e1], Same.free2 s2 hD⟩
        rw [List.length_map, List.length_map, List.length_take, sizeLine_eq]
        omega
      cases o with
      | none => exact .inr ⟨hV2, fin true rfl⟩
      | some B => exact .inl ⟨B.1, B.2.1, B.2.2, hV2, fin false rfl⟩
    · rintro H2 ⟨h2, s2⟩
      rw [ln, List.take_length] at h2
      refine ⟨D, _, rfl, .of h2, _, rfl, ?_⟩
      by_cases hn : none ∈ os
      · have ea : (os.map fun o => o.isNone).any id = true := List.any_eq_true.mpr ⟨true, List.mem_map.mpr ⟨none, hn, rfl⟩, rfl⟩
        rw [ea]
        refine iteT ⟨rfl, rfl, fun r H3 s3 hr3 => k r H3 ((s1.trans s2).trans s3) ?_⟩
        rw [then_none hn]
        exact hr3
      · have ea : (os.map fun o => o.isNone).any id = false := by
          rw [Bool.eq_false_iff]
          intro q
          obtain ⟨b, m, hb⟩ := List.any_eq_true.mp q
          obtain ⟨o, mo, rfl⟩ := List.mem_map.mp m
          cases o with
          | none => exact hn mo
          | some B => cases hb
        rw [ea]
        refine iteF ?_
        obtain ⟨ps, rfl⟩ := parts_all hn
        have hd2 := s2 _ _ hd1
        have hP2 : Paired (EfV K C H2) (e :: es) (ps.map some) := Paired.mapP hP1 fun v o q => q.same s2
        have s12 := s1.trans s2
        rw [List.length_map] at ln hl
        generalize hD2 : H2 = H4 at hd2 hP2 s12
        refine ⟨_, rfl, d, rfl, ⟨_, .of hd2⟩, fun D2 hD2 => lc_list (K := K) (a := d) (xs := e :: es) (fun j H5 => ∃ us, H5 D2 = some (.lst us) ∧ Paired (PrtV K H5) us (ps.take j) ∧ Same H4 H5) ⟨[], upd_same, .nil, Same.new hD2⟩ (fun j H5 _ q => ?_) ?_ ?_⟩
        · obtain ⟨_, _, _, s5⟩ := q
          exact .of (s5 _ _ hd2)
        · rintro j x H5 hx ⟨us, hu, hU, s5⟩
          obtain ⟨o, ho, a, rfl, hV⟩ := paired_at hP2 hx
          rw [List.getElem?_map] at ho
          obtain ⟨B, hB, rfl⟩ := Option.map_eq_some_iff.mp ho
          have hV5 : EffAt K C H5 a B.1 B.2.1 B.2.2 := (EffV.same (o := some B) hV s5)
          obtain ⟨dx, fs, hi⟩ := EffV.ins (o := some B) hV5
          have lU := paired_len hU
          rw [List.length_take] at lU
          refine ⟨rfl, yes_in ⟨_, rfl, a, dx, fs, rfl, hi, a, _, _, _, rfl, hV5, fun u1 hu1 => ⟨_, rfl, a, dx, fs, rfl, hi, a, _, _, _, rfl, hV5, fun u2 hu2 => ⟨_, rfl, a, dx, fs, rfl, hi, a, _, _, _, rfl, hV5, (by show 3 ≤ sizeLine; decide), fun q hq => ⟨us, ?_, ?_, us ++ [.ref q], upd_same, ?_, ?_⟩⟩⟩⟩⟩
          · rw [upd_ne (ne_of_none hu hq)]
            exact hu
          · rw [sizeLine_eq]
            omega
          · rw [List.take_add_one, hB]
            have sq : Same H5 (upd H5 q (.tup [.ref u1, .ref u2, .int B.2.2])) := Same.new hq
            have huq := sq _ _ hu
            refine Paired.snoc2 (Paired.mapP hU fun v b r => (r.same sq).updL huq) (PrtV.updL huq ⟨q, u1, u2, rfl, .of upd_same, Same.tup sq hu1, Same.tup sq hu2⟩)
          · exact Same.free2 (s5.trans (Same.new hq)) hD2
        · rintro H5 ⟨us, hu, hU, s5⟩
          rw [ln, List.take_length] at hU
          refine ⟨D2, us, ps, rfl, .of hu, hU, fun B m => (hS _ (List.mem_map.mpr ⟨B, m, rfl⟩) B rfl).1, ?_, fun r H6 s6 he => k r H6 ((s12.trans s5).trans s6) ?_⟩
          · have : ∀ qs : List Prt, (∀ B ∈ qs, B.1.length + B.2.1.length ≤ 100) → szP qs ≤ qs.length * 100 := by
              intro qs
              induction qs with
              | nil => intro _; exact Nat.le_refl _
              | cons q r ih =>
                intro hq
                have h1 := hq q (List.mem_cons_self ..)
                have h2 := ih fun B m => hq B (List.mem_cons_of_mem _ m)
                unfold szP at h2 ⊢
                rw [List.map_cons, List.sum_cons, List.length_cons]
                omega
            have h3 := this ps fun B m => (hS _ (List.mem_map.mpr ⟨B, m, rfl⟩) B rfl).2
            omega
          · show EffV K C H6 r ((parts (ps.map some)).bind joinM)
            rw [parts_some]
            exact he
  obtain ⟨t, a, b⟩ := body
  exact ⟨t, a.nox, b⟩
end
end SE
namespace SE
open PySem PySem.Spec PyProof.Rows L2
open PySem.W (alike dataLt)
/-! ### what a sequence makes of a stack, with a limit or none -/
def limV : Option Int → V
  | none => .non
  | some L => .int L
def fullB (lim : Option Int) (n : Nat) : Bool := match lim with | none => false | some L => decide (L ≤ (n : Int))
def runL (lim : Option Int) : List Stp → List Str → Option (List Str)
  | [], st => some st
  | (true, z) :: r, st => if fullB lim st.length = true then none else runL lim r (z :: st)
  | (false, _) :: _, [] => none
  | (false, z) :: r, y :: st => if y = z then runL lim r st else none
def overZ (lim : Option Int) (h : Int) : Bool := match lim with | none => false | some L => decide (L < h)
def overB (lim : Option Int) (n : Nat) : Bool := match lim with | none => false | some L => decide (L < (n : Int))
def runS (lim : Option Int) (ss : List Stp) (st : List Str) : Option (List Str) := if overB lim st.length = true then none else runL lim ss st
def apM (lim : Option Int) : Eff → List Str → Option (List Str)
  | none, _ => none
  | some (xs, ys, p), st => if overZ lim ((st.length : Int) + p) = true then none else if st.take xs.length = xs then some (ys ++ st.drop xs.length) else none
theorem cw_e (R : List Str) : cw [] R = some (R, []) := by
  unfold cw
  rfl
theorem apM_some (lim : Option Int) (xs ys : List Str) (p : Int) (st : List Str) : apM lim (some (xs, ys, p)) st = if overZ lim ((st.length : Int) + p) = true then none else if st.take xs.length = xs then some (ys ++ st.drop xs.length) else none := rfl
theorem overZ_mono {lim : Option Int} {a b : Int} (h : a ≤ b) (o : overZ lim a = true) : overZ lim b = true := by
  cases lim with
  | none => cases o
  | some L =>
    have := of_decide_eq_true o
    exact decide_eq_true (by omega)
theorem eff_cons (s : Stp) (ss : List Stp) : effM (s :: ss) = (effM ss).bind (comp (partM s)) := by
  rw [← joinF_eff ss _ (hgp s).1]
  unfold effM joinM
  rw [List.map_cons, joinF_cons, comp_one, Option.bind_some]
theorem run_ap (lim : Option Int) : ∀ (ss : List Stp) (st : List Str), (∀ s ∈ ss, Item s.2) → overZ lim (st.length : Int) = false → runL lim ss st = apM lim (effM ss) st
  | [], st, _, ho => by
    show some st = apM lim (some ([], [], 0)) st
    rw [apM_some, Int.add_zero, ho, if_neg (by simp)]
    simp
  | (true, z) :: r, st, hI, ho => by
    have hR : ∀ s ∈ r, Item s.2 := fun s m => hI s (List.mem_cons_of_mem _ m)
    rw [eff_cons]
    have e1 : partM (true, z) = ([], [z], 1) := rfl
    rw [e1]
    show (if fullB lim st.length = true then none else runL lim r (z :: st)) = _
    have fl : fullB lim st.length = overZ lim ((z :: st).length : Int) := by
      unfold fullB overZ
      cases lim with
      | none => rfl
      | some L =>
        rw [List.length_cons]
        exact decide_eq_decide.mpr (by omega)
    cases hE : effM r with
    | none =>
      show _ = none
      cases hf : fullB lim st.length with
      | true => rfl
      | false =>
        rw [if_neg (by simp), run_ap lim r (z :: st) hR (by rw [← fl]; exact hf), hE]
        rfl
    | some E =>
      obtain ⟨xs, ys, p⟩ := E
      obtain ⟨ok, _, _⟩ := effM_ok hR hE
      have p0 : 0 ≤ p := ok.h0
      rw [Option.bind_some, comp_cw]
      have hm : mx 1 (hg (([] : List Str), [z], (1 : Int)) + p) = 1 + p := by
        show mx 1 (((1 : Nat) : Int) - ((0 : Nat) : Int) + p) = 1 + p
        unfold mx
        split <;> omega
      have big : fullB lim st.length = true → overZ lim ((st.length : Int) + (1 + p)) = true := fun hf => by
        rw [fl] at hf
        exact overZ_mono (by rw [List.length_cons]; omega) hf
      have hh : ((z :: st).length : Int) + p = (st.length : Int) + (1 + p) := by
        rw [List.length_cons]
        omega
      cases xs with
      | nil =>
        show _ = apM lim (some ([] ++ [], ys ++ [z], mx 1 (hg (([] : List Str), [z], (1 : Int)) + p))) st
        rw [hm, apM_some]
        cases hf : fullB lim st.length with
        | true =>
          rw [if_pos rfl, big hf, if_pos rfl]
        | false =>
          rw [if_neg (by simp), run_ap lim r (z :: st) hR (by rw [← fl]; exact hf), hE, apM_some, hh]
          simp
      | cons x xs =>
        by_cases c : z = x
        · subst c
          have ec : cw [z] (z :: xs) = some (xs, []) := by
            unfold cw
            rw [if_pos rfl]
            exact cw_e xs
          show _ = apM lim ((cw [z] (z :: xs)).map fun w => ([] ++ w.1, ys ++ w.2, mx 1 (hg (([] : List Str), [z], (1 : Int)) + p))) st
          rw [ec, Option.map_some, hm, apM_some]
          cases hf : fullB lim st.length with
          | true =>
            rw [if_pos rfl]
            rw [big hf, if_pos rfl]
          | false =>
            rw [if_neg (by simp), run_ap lim r (z :: st) hR (by rw [← fl]; exact hf), hE, apM_some, hh]
            simp
        · have ec : cw [z] (x :: xs) = none := by
            unfold cw
            rw [if_neg c]
          show _ = apM lim ((cw [z] (x :: xs)).map fun w => ([] ++ w.1, ys ++ w.2, mx 1 (hg (([] : List Str), [z], (1 : Int)) + p))) st
          rw [ec, Option.map_none]
          show _ = none
          cases hf : fullB lim st.length with
          | true => rfl
          | false =>
            rw [if_neg (by simp), run_ap lim r (z :: st) hR (by rw [← fl]; exact hf), hE, apM_some]
            split
            · rfl
            · rw [if_neg (by rw [List.length_cons, List.take_succ_cons]; exact fun q => c (List.cons.inj q).1)]
  | (false, z) :: r, [], hI, ho => by
    have hR : ∀ s ∈ r, Item s.2 := fun s m => hI s (List.mem_cons_of_mem _ m)
    rw [eff_cons]
    show none = _
    cases hE : effM r with
    | none => rfl
    | some E =>
      obtain ⟨xs, ys, p⟩ := E
      rw [Option.bind_some, comp_cw]
      show none = apM lim ((cw ([] : List Str) xs).map _) []
      rw [cw_e, Option.map_some, apM_some]
      show none = if _ then none else if ([] : List Str).take _ = [z] ++ xs then _ else none
      split
      · rfl
      · rw [if_neg (by rw [List.take_nil]; exact fun q => by cases q)]
  | (false, z) :: r, y :: st, hI, ho => by
    have hR : ∀ s ∈ r, Item s.2 := fun s m => hI s (List.mem_cons_of_mem _ m)
    rw [eff_cons]
    show (if y = z then runL lim r st else none) = _
    have ho2 : overZ lim (st.length : Int) = false := by
      cases q : overZ lim (st.length : Int) with
      | false => rfl
      | true =>
        rw [overZ_mono (by rw [List.length_cons]; omega) q] at ho
        cases ho
    cases hE : effM r with
    | none =>
      show _ = none
      split
      · rw [run_ap lim r st hR ho2, hE]
        rfl
      · rfl
    | some E =>
      obtain ⟨xs, ys, p⟩ := E
      obtain ⟨ok, _, _⟩ := effM_ok hR hE
      have p0 : 0 ≤ p := ok.h0
      rw [Option.bind_some, comp_cw]
      show _ = apM lim ((cw ([] : List Str) xs).map fun w => ([z] ++ w.1, ys ++ w.2, mx 0 (hg ([z], ([] : List Str), (0 : Int)) + p))) (y :: st)
      rw [cw_e, Option.map_some]
      have hm : overZ lim (((y :: st).length : Int) + mx 0 (hg ([z], ([] : List Str), (0 : Int)) + p)) = overZ lim ((st.length : Int) + p) := by
        show overZ lim (((y :: st).length : Int) + mx 0 (((0 : Nat) : Int) - ((1 : Nat) : Int) + p)) = _
        unfold mx
        rw [List.length_cons] at ho ⊢
        split
        · rw [show ((st.length + 1 : Nat) : Int) + (((0 : Nat) : Int) - ((1 : Nat) : Int) + p) = (st.length : Int) + p by omega]
        · have p1 : p = 0 ∨ p = 1 := by omega
          rcases p1 with rfl | rfl
          · rw [Int.add_zero, Int.add_zero, ho, ho2]
          · rw [Int.add_zero]
            congr 1
      rw [apM_some, hm, List.append_nil]
      by_cases c : y = z
      · subst c
        rw [if_pos rfl, run_ap lim r st hR ho2, hE, apM_some]
        simp
      · rw [if_neg c]
        split
        · rfl
        · rw [if_neg]
          intro q
          rw [List.length_append, List.length_cons, List.length_nil, Nat.add_comm, List.take_succ_cons] at q
          exact c (List.cons.inj q).1
theorem run_S {lim : Option Int} {ss : List Stp} {st : List Str} (hI : ∀ s ∈ ss, Item s.2) : runS lim ss st = apM lim (effM ss) st := by
  unfold runS
  have e : overB lim st.length = overZ lim (st.length : Int) := by cases lim <;> rfl
  rw [e]
  cases q : overZ lim (st.length : Int) with
  | false => rw [if_neg (by simp), run_ap lim ss st hI q]
  | true =>
    rw [if_pos rfl]
    cases hE : effM ss with
    | none => rfl
    | some E =>
      obtain ⟨xs, ys, p⟩ := E
      obtain ⟨ok, _, _⟩ := effM_ok hI hE
      have p0 : 0 ≤ p := ok.h0
      rw [apM_some, overZ_mono (by omega) q, if_pos rfl]
end SE
namespace SE
open PySem PySem.Spec PyProof.Rows L2
open PySem.W (alike alikeAll dataLt)
/-! ### the first stack on which two effects differ -/
def ltW (a b : List Str) : Bool := dataLt (keyD a) (keyD b)
theorem ltW_le {a b : List Str} (h : ltW a b = true) : a.length ≤ b.length := by
  unfold ltW keyD at h
  rw [PySem.W.dataLt_pair (by simp [alike]) (by simp [alike, alike_strs])] at h
  split at h
  · rename_i e
    have : (a.length : Int) = (b.length : Int) := by
      have q := e
      unfold PyData.eqv at q
      exact of_decide_eq_true q
    omega
  · rw [PySem.W.dataLt_int] at h
    have := of_decide_eq_true h
    omega
theorem ltW_ge {a b : List Str} (h : ltW a b = false) : b.length ≤ a.length := by
  unfold ltW keyD at h
  rw [PySem.W.dataLt_pair (by simp [alike]) (by simp [alike, alike_strs])] at h
  split at h
  · rename_i e
    have : (a.length : Int) = (b.length : Int) := by
      have q := e
      unfold PyData.eqv at q
      exact of_decide_eq_true q
    omega
  · rw [PySem.W.dataLt_int] at h
    have := of_decide_eq_false h
    omega
def fsM (lim : Option Int) : Eff → Option (List Str)
  | none => none
  | some (xs, _, p) => if overZ lim ((xs.length : Int) + p) = true then none else some xs
def mxI (a b : Int) : Int := if b > a then b else a
def beyM (lim : Option Int) (xs : List Str) (p q : Int) : Option (List Str) := match lim with
  | none => none
  | some L => if p = q then none else some (xs ++ List.replicate (L - mxI p q + 1 - (xs.length : Int)).toNat ("a" : Str))
def difM (lim : Option Int) (o1 o2 : Eff) : Option (List Str) := match fsM lim o1, fsM lim o2, o1, o2 with
  | some x1, some x2, some (_, y1, p1), some (_, y2, p2) => if x1 = x2 ∧ y1 = y2 then beyM lim x1 p1 p2 else some (if ltW x2 x1 = true then x2 else x1)
  | some x1, none, _, _ => some x1
  | none, some x2, _, _ => some x2
  | _, _, _, _ => none
theorem fs_some {lim : Option Int} {xs ys x : List Str} {p : Int} (h : fsM lim (some (xs, ys, p)) = some x) : x = xs ∧ overZ lim ((xs.length : Int) + p) = false := by
  unfold fsM at h
  dsimp only at h
  cases q : overZ lim ((xs.length : Int) + p) with
  | true => rw [q, if_pos rfl] at h; cases h
  | false =>
    rw [q, if_neg (by simp)] at h
    cases h
    exact ⟨rfl, rfl⟩
theorem fs_none {lim : Option Int} {o : Eff} (h : fsM lim o = none) (st : List Str) : apM lim o st = none := by
  match o, h with
  | none, _ => rfl
  | some (xs, ys, p), h =>
    have q : overZ lim ((xs.length : Int) + p) = true := by
      unfold fsM at h
      dsimp only at h
      cases q : overZ lim ((xs.length : Int) + p) with
      | true => rfl
      | false => rw [q, if_neg (by simp)] at h; cases h
    rw [apM_some]
    split
    · rfl
    · rename_i no
      split
      · rename_i e
        have l := congrArg List.length e
        rw [List.length_take] at l
        exact absurd (overZ_mono (by omega) q) no
      · rfl
theorem ap_own {lim : Option Int} {xs ys : List Str} {p : Int} (h : overZ lim ((xs.length : Int) + p) = false) : apM lim (some (xs, ys, p)) xs = some ys := by
  rw [apM_some, h, if_neg (by simp), List.take_length, if_pos rfl, List.drop_length, List.append_nil]
theorem ap_none {lim : Option Int} {xs ys st : List Str} {p : Int} (h : xs.length ≤ st.length → st.take xs.length ≠ xs) : apM lim (some (xs, ys, p)) st = none := by
  rw [apM_some]
  split
  · rfl
  · split
    · rename_i e
      have l := congrArg List.length e
      rw [List.length_take] at l
      exact absurd e (h (by omega))
    · rfl
theorem dif_sound {lim : Option Int} {o1 o2 : Eff} {st : List Str} (h : difM lim o1 o2 = some st) : apM lim o1 st ≠ apM lim o2 st := by
  cases e1 : fsM lim o1 with
  | none =>
    cases e2 : fsM lim o2 with
    | none =>
      unfold difM at h
      rw [e1, e2] at h
      cases h
    | some x2 =>
      match o2, e2 with
      | some (xs, ys, p), e2 =>
        obtain ⟨rfl, ov⟩ := fs_some e2
        unfold difM at h
        rw [e1, e2] at h
        cases h
        rw [fs_none e1, ap_own ov]
        exact fun q => by cases q
  | some x1 =>
    match o1, e1 with
    | some (xs, ys, p), e1 =>
      obtain ⟨rfl, ov⟩ := fs_some e1
      cases e2 : fsM lim o2 with
      | none =>
        unfold difM at h
        rw [e1, e2] at h
        cases h
        rw [fs_none e2, ap_own ov]
        exact fun q => by cases q
      | some x2 =>
        match o2, e2 with
        | some (us, vs, q), e2 =>
          obtain ⟨rfl, ov2⟩ := fs_some e2
          unfold difM at h
          rw [e1, e2] at h
          dsimp only at h
          by_cases c : x1 = x2 ∧ ys = vs
          · rw [if_pos c] at h
            obtain ⟨rfl, rfl⟩ := c
            cases lim with
            | none => cases h
            | some L =>
              unfold beyM at h
              dsimp only at h
              split at h
              · cases h
              · rename_i ne
                cases h
                have a1 := of_decide_eq_false ov
                have a2 := of_decide_eq_false ov2
                have go : ∀ {a b : Int}, a < b → (x1.length : Int) + b ≤ L → ∀ zs : List Str, zs = x1 ++ List.replicate (L - b + 1 - (x1.length : Int)).toNat ("a" : Str) → apM (some L) (some (x1, ys, b)) zs = none ∧ (apM (some L) (some (x1, ys, a)) zs).isSome = true := by
                  intro a b lt le zs ez
                  have lz : (zs.length : Int) = L - b + 1 := by
                    rw [ez, List.length_append, List.length_replicate]
                    omega
                  refine ⟨?_, ?_⟩
                  · rw [apM_some, if_pos (show overZ (some L) ((zs.length : Int) + b) = true from decide_eq_true (by omega))]
                  · rw [apM_some, if_neg (by
                      have : overZ (some L) ((zs.length : Int) + a) = false := decide_eq_false (by omega)
                      rw [this]
                      simp), if_pos (by rw [ez, List.take_left' rfl])]
                    rfl
                by_cases lt : p < q
                · have em : mxI p q = q := if_pos lt
                  rw [em]
                  obtain ⟨g1, g2⟩ := go lt (by omega) _ rfl
                  intro z
                  rw [g1] at z
                  rw [z] at g2
                  cases g2
                · have em : mxI p q = p := if_neg lt
                  rw [em]
                  obtain ⟨g1, g2⟩ := go (show q < p by omega) (by omega) _ rfl
                  intro z
                  rw [g1] at z
                  rw [← z] at g2
                  cases g2
          · rw [if_neg c] at h
            cases h
            by_cases cx : x1 = x2
            · subst cx
              have cy : ys ≠ vs := fun z => c ⟨rfl, z⟩
              have e : (if ltW x1 x1 = true then x1 else x1) = x1 := by split <;> rfl
              rw [e, ap_own ov, ap_own ov2]
              exact fun z => cy (Option.some.inj z)
            · cases hl : ltW x2 x1 with
              | true =>
                rw [if_pos rfl, ap_own ov2, ap_none fun l e => ?_]
                · exact fun z => by cases z
                · have l2 := ltW_le hl
                  rw [List.take_of_length_le (by omega)] at e
                  exact cx e.symm
              | false =>
                rw [if_neg (by simp), ap_own ov, ap_none fun l e => ?_]
                · exact fun z => by cases z
                · have l2 := ltW_ge hl
                  rw [List.take_of_length_le (by omega)] at e
                  exact cx e
theorem dif_none {lim : Option Int} {o1 o2 : Eff} (h : difM lim o1 o2 = none) (st : List Str) : apM lim o1 st = apM lim o2 st := by
  cases e1 : fsM lim o1 with
  | none =>
    cases e2 : fsM lim o2 with
    | none => rw [fs_none e1, fs_none e2]
    | some x2 =>
      unfold difM at h
      rw [e1, e2] at h
      cases h
  | some x1 =>
    match o1, e1 with
    | some (xs, ys, p), e1 =>
      obtain ⟨rfl, ov⟩ := fs_some e1
      cases e2 : fsM lim o2 with
      | none =>
        unfold difM at h
        rw [e1, e2] at h
        cases h
      | some x2 =>
        match o2, e2 with
        | some (us, vs, q), e2 =>
          obtain ⟨rfl, ov2⟩ := fs_some e2
          unfold difM at h
          rw [e1, e2] at h
          dsimp only at h
          by_cases c : x1 = x2 ∧ ys = vs
          · rw [if_pos c] at h
            obtain ⟨rfl, rfl⟩ := c
            cases lim with
            | none => rw [apM_some, apM_some]; rfl
            | some L =>
              unfold beyM at h
              dsimp only at h
              split at h
              · rename_i e
                rw [e]
              · cases h
          · rw [if_neg c] at h
            cases h
theorem dif_refl (o : Eff) : difM none o o = none := by
  match o with
  | none => rfl
  | some (xs, ys, p) =>
    have e : fsM none (some (xs, ys, p)) = some xs := rfl
    unfold difM
    rw [e]
    dsimp only
    rw [if_pos ⟨rfl, rfl⟩]
    rfl
end SE
namespace SE
open PySem PySem.Spec PyProof.Rows L2
def LimOk (lim : Option Int) : Prop := ∀ L, lim = some L → 0 ≤ L ∧ L ≤ 1000
theorem ap_pops (lim : Option Int) (xs ys : List Str) (p : Int) : apM lim (some (xs, ys, p)) xs = if overZ lim ((xs.length : Int) + p) = true then none else some ys := by
  rw [apM_some, List.take_length, if_pos rfl, List.drop_length, List.append_nil]
theorem ap_repl (lim : Option Int) (xs ys : List Str) (p : Int) (st : List Str) : apM lim (some (xs, ys, p)) st = if overZ lim ((st.length : Int) + p) = true then none else replM (some (xs, ys, p)) st := rfl
section
variable {P : Program} {w : World} {K : PySem.W.Frag} {mg : Str → Option Value} {base : Heap} {C : Addr}
/-! ### change -/
def spChan (K : PySem.W.Frag) (C : Addr) : Sp := fun vs H Q _ => ∃ (e : Addr) (xs ys : List Str) (p : Int), vs = [.ref e] ∧ EffAt K C H e xs ys p ∧ Q (.int ((ys.length : Int) - (xs.length : Int))) H
theorem scCh : FnScope ["self"] ["self"] (defScope sChange) := ⟨rfl, rfl, rfl, by decide +kernel, rfl, by decide +kernel, by decide +kernel⟩
theorem ok_chan {f : Addr} {fd : FuncData} (F : Fun K "change" "Effect.change" sChange f fd) (T : EC K mg C) (B : Blt mg) : FnOk P w K mg base CX0 1 f fd ["self"] (spChan K C) := by
  refine F.ok scCh (fun vs H Q E h => ?_) (fun cdv A outer s H vs Q E hr h => ?_)
  · obtain ⟨e, xs, ys, p, rfl, _⟩ := h
    rfl
  · obtain ⟨e, xs, ys, p, rfl, h, k⟩ := h
    obtain ⟨dx, u, v, h1, h2, h3⟩ := h.ex
    refine ⟨_, pss_one (ps_ret (pe_ifExp (pt_cmpR op_isN (pe_fld (pv 0) rfl) pe_non (nomark _)) pe_non (pe_op op_sub (pe_callB call_len_seq (by rfl) B.len PySem.boot_len (pa_cons (pe_fld (pv 0) rfl) pa_nil)) (pe_callB call_len_seq (by rfl) B.len PySem.boot_len (pa_cons (pe_fld (pv 0) rfl) pa_nil))))), ?_⟩
    refine ⟨_, rfl, e, C, dx, _, _, rfl, h1, T.cl, T.nN, eF_needs _ _ _, rfl, false, rfl, iteF ?_⟩
    refine ⟨_, rfl, e, C, dx, _, _, rfl, h1, T.cl, T.nL, eF_leaves _ _ _, v, _, rfl, .inr h3, _, rfl, e, C, dx, _, _, rfl, h1, T.cl, T.nN, eF_needs _ _ _, u, _, rfl, .inr h2, _, _, rfl, rfl, ?_⟩
    rw [List.length_map, List.length_map]
    exact k
/-! ### limits -/
def spBet : Sp := fun xs H Q _ => ∃ v lo hi : Int, xs = [.int v, .int lo, .int hi] ∧ lo ≤ v ∧ v ≤ hi ∧ Q (.bl true) H
theorem scBet : FnScope ["value", "least", "most"] ["value", "least", "most"] (defScope sIsBetween) := ⟨rfl, rfl, rfl, by decide +kernel, rfl, by decide +kernel, by decide +kernel⟩
theorem has_bet (D : Def K mg "is_between" sIsBetween) (G : Has P w K mg base "is_whole" 1 ["value"] [] spWhole) : Has P w K mg base "is_between" 2 ["value", "least", "most"] [] spBet := by
  refine has_of D scBet (fun _ _ _ _ _ _ us hl => match us, hl with | [_, _, _], _ => rfl) (fun xs H Q E h => ?_) (fun f cv A out s H xs Q E hr h => ?_)
  · obtain ⟨v, lo, hi, rfl, _⟩ := h
    rfl
  · obtain ⟨v, lo, hi, rfl, h1, h2, k⟩ := h
    refine ⟨_, pss_one (ps_ret (pe_and (pe_has G hr (pa_cons (pv 0) pa_nil)) (pe_one (pe_chain op_le op_le (pv 1) (pv 0) (pv 2))))), ?_⟩
    refine ⟨_, rfl, v, rfl, true, rfl, iteT ⟨_, rfl, _, rfl, lo, v, rfl, rfl, true, congrArg V.bl (decide_eq_true h1), iteT ⟨_, rfl, v, hi, rfl, rfl, ?_⟩⟩⟩
    show Q (V.bl (decide (v ≤ hi))) H
    rw [decide_eq_true h2]
    exact k
def spLimZ : Sp := fun xs H Q _ => ∃ l : Option Int, xs = [limV l] ∧ LimOk l ∧ Q (.bl true) H
def spClV : Sp := fun xs H Q _ => ∃ l : Option Int, xs = [limV l] ∧ LimOk l ∧ Q .non H
theorem scIlL : FnScope ["value"] ["value"] (defScope sIsLimit) := ⟨rfl, rfl, rfl, by decide +kernel, rfl, by decide +kernel, by decide +kernel⟩
theorem has_limZ (D : Def K mg "is_limit" sIsLimit) (G : Has P w K mg base "is_between" 2 ["value", "least", "most"] [] spBet) (hM : ∃ t, mg "MOST_LIMIT" = some (.int 1000 t)) : Has P w K mg base "is_limit" 3 ["value"] [] spLimZ := by
  obtain ⟨tm, hM⟩ := hM
  refine has_of D scIlL (fun _ _ _ _ _ _ us hl => match us, hl with | [_], _ => rfl) (fun xs H Q E h => ?_) (fun f cv A out s H xs Q E hr h => ?_)
  · obtain ⟨l, rfl, _⟩ := h
    rfl
  · obtain ⟨l, rfl, hl, k⟩ := h
    refine ⟨_, pss_one (ps_ret (pe_or (pe_cmpR op_isN (pv 0) pe_non (nomark _)) (pe_one (pe_has G hr (pa_cons (pv 0) (pa_cons pe_int (pa_cons (pe_glob (v := .int 1000) rfl hM ⟨_, rfl⟩) pa_nil))))))), ?_⟩
    cases l with
    | none => exact ⟨_, rfl, rfl, true, rfl, iteT k⟩
    | some n =>
      have h1 := hl n rfl
      exact ⟨_, rfl, rfl, false, rfl, iteF ⟨_, rfl, n, 0, 1000, rfl, h1.1, h1.2, k⟩⟩
theorem scClL : FnScope ["limit"] ["limit"] (defScope sChkLimit) := ⟨rfl, rfl, rfl, by decide +kernel, rfl, by decide +kernel, by decide +kernel⟩
theorem has_clV (D : Def K mg "check_limit" sChkLimit) (G : Has P w K mg base "is_limit" 3 ["value"] [] spLimZ) : Has P w K mg base "check_limit" 4 ["limit"] [] spClV := by
  refine has_of D scClL (fun _ _ _ _ _ _ us hl => match us, hl with | [_], _ => rfl) (fun xs H Q E h => ?_) (fun f cv A out s H xs Q E hr h => ?_)
  · obtain ⟨l, rfl, _⟩ := h
    rfl
  · obtain ⟨l, rfl, hl, k⟩ := h
    refine ⟨_, pss_one (ps_if (pt_not (pt_val (pe_has G hr (pa_cons (pv 0) pa_nil)))) pss_never pss_nil), ?_⟩
    exact ⟨_, rfl, l, rfl, hl, true, rfl, iteF k⟩
theorem scTh0 : FnScope ["height", "limit"] ["height", "limit"] (defScope sTooHigh) := ⟨rfl, rfl, rfl, by decide +kernel, rfl, by decide +kernel, by decide +kernel⟩
def spThV : Sp := fun vs H Q _ => ∃ (h : Int) (lim : Option Int), vs = [.int h, limV lim] ∧ Q (.bl (overZ lim h)) H
theorem has_thV (D : Def K mg "is_too_high" sTooHigh) : Has P w K mg base "is_too_high" 1 ["height", "limit"] [] spThV := by
  refine has_of D scTh0 (fun _ _ _ _ _ _ us hl => match us, hl with | [_, _], _ => rfl) (fun xs H Q E h => ?_) (fun f cv A out s H xs Q E hr h => ?_)
  · obtain ⟨h, lim, rfl, _⟩ := h
    rfl
  · obtain ⟨h, lim, rfl, k⟩ := h
    refine ⟨_, pss_one (ps_ret (pe_and (pe_cmpR op_notN (pv 1) pe_non (nomark _)) (pe_one (pe_cmpR op_gt (pv 0) (pv 1) (nomark _))))), ?_⟩
    cases lim with
    | none => exact ⟨_, rfl, rfl, false, rfl, iteF k⟩
    | some L => exact ⟨_, rfl, rfl, true, rfl, iteT ⟨_, rfl, _, rfl, h, L, rfl, rfl, k⟩⟩
/-! ### apply -/
abbrev sApply : Stmt := inClass sEffect 12
abbrev pApp : List Str := ["self", "stack", "limit"]
theorem scAp : FnScope pApp pApp (defScope sApply) := ⟨rfl, rfl, rfl, by decide +kernel, rfl, by decide +kernel, by decide +kernel⟩
def spAp9 (K : PySem.W.Frag) (C : Addr) : Sp := fun vs H Q _ => ∃ (e a : Addr) (o : Eff) (zs : List Str) (lim : Option Int), vs = [.ref e, .ref a, limV lim] ∧ EffV K C H e o ∧ EffOk o ∧ SqT K H a (zs.map V.str) ∧ (∀ z ∈ zs, Item z) ∧ zs.length ≤ 1000 ∧ LimOk lim ∧
  ∀ v H', Same H H' → OW K H' v (apM lim o zs) → Q v H'
theorem ok_apply9 {f : Addr} {fd : FuncData} (F : Fun K "apply" "Effect.apply" sApply f fd) (T : EC K mg C) (B : Blt mg) (GW : Has P w K mg base "check_word" 3 ["word"] [] (spChkWord K)) (GL : Has P w K mg base "check_limit" 4 ["limit"] [] spClV) (GT : Has P w K mg base "is_too_high" 1 ["height", "limit"] [] spThV) (GR : Has P w K mg base "replaced" 3 ["effect", "stack"] [] (spRepd K C))
    (GI : PropHas P w K mg base C "is_never" 1 (spIsNev K C)) (GK : PropHas P w K mg base C "peak" 1 (spPeak K C)) : FnOk P w K mg base CX0 5 f fd pApp (spAp9 K C) := by
  refine F.ok scAp (fun vs H Q E h => ?_) (fun cdv A outer s H vs Q E hr h => ?_)
  · obtain ⟨e, a, o, zs, lim, rfl, _⟩ := h
    rfl
  · obtain ⟨e, a, o, zs, lim, rfl, he, ok, hT, iz, lz, lo, k⟩ := h
    have hr1 : Room 1 _ := hr.mono (by decide)
    have hr2 : Room 2 _ := hr.mono (by decide)
    have hr3 : Room 3 _ := hr.mono (by decide)
    refine ⟨_, pss_cons (ps_expr (pe_has GW hr3 (pa_cons (pv 1) pa_nil))) (pss_cons (ps_expr (pe_has GL hr (pa_cons (pv 2) pa_nil)))
      (pss_cons (ps_if (PW.pt (pw_or (pt_val (pe_propH GI (pv 0) T.cl hr2)) (pw_or1 (pt_val (pe_has GT hr1 (pa_cons (pe_op op_add (pe_callB call_len_seq (by rfl) B.len PySem.boot_len (pa_cons (pv 1) pa_nil)) (pe_propH GK (pv 0) T.cl hr2)) (pa_cons (pv 2) pa_nil))))))) (pss_one (ps_ret pe_non)) pss_nil)
      (pss_one (ps_ret (pe_has GR hr3 (pa_cons (pv 0) (pa_cons (pv 1) pa_nil))))))), ?_⟩
    refine ⟨_, rfl, a, zs, rfl, hT, by omega, iz, fun H1 s1 => ?_⟩
    have he1 := he.same s1
    obtain ⟨dx, fs, hi⟩ := he1.ins
    refine ⟨_, rfl, lim, rfl, lo, ?_⟩
    cases o with
    | none => exact ⟨_, rfl, e, dx, fs, rfl, hi, e, rfl, .inr ⟨he1, true, rfl, iteT (k _ H1 s1 rfl)⟩⟩
    | some Bp =>
      obtain ⟨xs, ys, p⟩ := Bp
      have hA1 : EffAt K C H1 e xs ys p := he1
      refine ⟨_, rfl, e, dx, fs, rfl, hi, e, rfl, .inl ⟨xs, ys, p, hA1, false, rfl, iteF ?_⟩⟩
      refine ⟨_, rfl, a, _, rfl, .inr (Same.tup s1 hT), _, rfl, e, dx, fs, rfl, hi, e, xs, ys, p, rfl, hA1, _, _, rfl, rfl, _, rfl, _, lim, rfl, overZ lim ((zs.length : Int) + p), ?_, ?_⟩
      · rw [List.length_map]
      cases ho : overZ lim ((zs.length : Int) + p) with
      | true =>
        refine iteT (k _ H1 s1 ?_)
        rw [ap_repl, ho]
        rfl
      | false =>
        refine iteF ⟨_, rfl, _, rfl, e, a, some (xs, ys, p), zs, rfl, he1, ok, Same.tup s1 hT, iz, lz, fun v H' s' hv => k _ H' (s1.trans s') ?_⟩
        rw [ap_repl, ho]
        exact hv
end
end SE
/-! Exceptions of own classes below ValueError, each with one field. -/
namespace SE
open PySem PySem.Spec PyProof.Rows L2
section
variable {P : Program} {w : World} {K : PySem.W.Frag} {mg : Str → Option Value} {base : Heap}
/-- a def that may raise keeps the promise sp -/
def HasX (P : Program) (w : World) (K : PySem.W.Frag) (mg : Str → Option Value) (base : Heap) (x : Str) (k : Nat) (ps : List Str) (dvs : List V) (sp : Sp) : Prop :=
  ∃ f fd ds, FnOk P w K mg base (L2.CX P w) k f fd ps sp ∧ mg x = some (.ref f) ∧ PySem.W.keepIn K (.ref f) = true ∧ Binds K fd ps ds ∧ Vals dvs ds ∧ ∃ st, Fun K x x st f fd
abbrev BxX (P : Program) (w : World) (K : PySem.W.Frag) (mg : Str → Option Value) (base : Heap) (N : List Str) (x : Str) (st : Stmt) (f : Addr) (cv : Value) (A : Around) (out : List Env) (s : Shared) (H : Hp) (E : XK) : Cx :=
  cxOf (L2.CX P w) P w K mg base N x (defScope st) f cv A out s H E
theorem hasX_of {x : Str} {st : Stmt} {N ps : List Str} {k : Nat} {sp : Sp} (D : Def K mg x st) (S : FnScope N ps (defScope st))
    (hb : ∀ (kV doc pm : Value) (an : Option Addr) (cv ct : Value) (us : List Value), us.length = ps.length → bindArgs (PySem.W.fnOf x x (defArgs st) (defBody st) (defScope st) .none kV doc pm an cv ct) ⟨us, []⟩ = pure (ps.zip us))
    (len : ∀ xs H Q E, sp xs H Q E → xs.length = ps.length)
    (hbd : ∀ (f : Addr) (cv : Value) (A : Around) (out : List Env) (s : Shared) (H : Hp) (xs : List V) (Q : VK) (E : XK), Room k (A.deeper (envOfC x (defScope st) s.heap.objs.size f cv)) → sp xs H Q E →
      ∃ t, PSs (BxX P w K mg base N x st f cv A out s H E) (defBody st) t ∧ t { nx := fun _ H2 => Q .non H2, rt := Q } (start N xs) H) : HasX P w K mg base x (k + 1) ps [] sp := by
  obtain ⟨f, fd, F, hm⟩ := D
  exact ⟨f, fd, [], F.okX S len fun cv A out s H xs Q E hr h => hbd f cv A out s H xs Q E hr h, hm, F.kp, F.binds hb, .nil, st, F⟩
/-- what stands in a def that may raise: its own way out -/
theorem tkX {N : List Str} {x : Str} {st : Stmt} {f : Addr} {cv : Value} {A : Around} {out : List Env} {s : Shared} {H : Hp} {E : XK} : Takes (BxX P w K mg base N x st f cv A out s H E) (fun cls d _ H => E cls d H) := takes_of rfl rfl rfl rfl
end
section
variable {X : Cx} {k : Nat} {ps : List Str} {sp : Sp} {x : Str} {p pos : Pos} {e : Expr} {es : List Expr} {t : TA} {dvs : List V} {E : XK} {W : WX}
/-- a call whose exceptions leave the def that calls -/
theorem pe_hasX (h : HasX X.prog X.w X.K X.mg X.base x k ps dvs sp) (hr : Room k X.A) (tk : Takes X (fun cls d _ H => E cls d H)) (ha : PA X (e :: es) t) (hg : Gl X x := by rfl) (hdb : (x == ("__debug__" : Str)) = false := by decide)
    (he : starEach (e :: es) X.env = (false, eval e X.env) :: starEach es X.env := by rfl) (hpl : (backTo pos (starEach es X.env)).any (·.1) = false := by rfl) : PE X (.Call (.Name x p) (e :: es) [] pos) (tCall sp dvs E t) := by
  obtain ⟨f, fd, ds, F, hm, hk, hb, hd, _⟩ := h
  exact pe_call F hr hg hm hk hb hd (passes_call tk fun _ _ _ _ z => z) ha hdb he hpl
/-- a call within a try -/
theorem pe_hasS (h : HasX X.prog X.w X.K X.mg X.base x k ps [] sp) (hr : Room k X.A) (tk : Takes X W) (ha : PA X (e :: es) t) (hg : Gl X x := by rfl) (hdb : (x == ("__debug__" : Str)) = false := by decide)
    (he : starEach (e :: es) X.env = (false, eval e X.env) :: starEach es X.env := by rfl) (hpl : (backTo pos (starEach es X.env)).any (·.1) = false := by rfl) : PE X (.Call (.Name x p) (e :: es) [] pos) (tCallS sp (WE W) t) := by
  obtain ⟨f, fd, ds, F, hm, hk, hb, hd, _⟩ := h
  cases hd
  exact pe_callS F hr hg hm hk hb (fun σ => passAt tk σ) ha hdb he hpl
end
/-! ### a class of exceptions -/
def spXI (K : PySem.W.Frag) (C : Addr) (f : Str) : Sp := fun xs H Q _ => ∃ (a : Addr) (v : V), xs = [.ref a, v] ∧ H a = some (exo a C none) ∧ ∀ dx, H dx = none → dx ≠ a → Q .non (upd (upd H dx (exd dx [(f, v)])) a (exo a C (some dx)))
/-- what the written part says of the class at C, whose __init__ sets the field f -/
structure XcC (P : Program) (w : World) (K : PySem.W.Frag) (mg : Str → Option Value) (base : Heap) (x f : Str) (C : Addr) : Prop where
  oex : OexC K C
  gC : mg x = some (.ref C)
  init : ∃ fI fd, PySem.W.findIn K (.ref C) "__init__" = some (some (.ref fI)) ∧ PySem.W.typeIn K (.ref fI) = some (.type "function") ∧ FnOk P w K mg base CX0 1 fI fd ["self", f] (spXI K C f) ∧ Binds K fd ["self", f] []
  xf : XfC K C
  noF : PySem.W.findIn K (.ref C) f = some none
  ha : PySem.W.findIn K (.ref C) "__class__" = some (some (.builtin "object.__class__"))
  hn : PySem.W.specialIn K (.builtin "object.__class__") "__get__" = some (some (.builtin "getset_descriptor.__get__"))
  ht : PySem.W.takesIn K (.builtin "object.__class__") = some true
  hm : PySem.W.mroIn K C (.type "object") = some true
  te : PySem.W.exmOne K (.ref C) (.ref C) = some true
/-- __init__ -/
theorem init_ok {P : Program} {w : World} {K : PySem.W.Frag} {mg : Str → Option Value} {base : Heap} {q f : Str} {C : Addr} {st : Stmt} {fI : Addr} {fd : FuncData} {p1 p2 p3 p4 : Pos} (F : Fun K "__init__" q st fI fd) (S : FnScope ["self", f] ["self", f] (defScope st)) (T : OexC K C) (noF : PySem.W.findIn K (.ref C) f = some none)
    (hb : defBody st = [.Assign [.Attribute (.Name "self" p1) f p2] (.Name f p3) p4])
    (v0 : Vis (defScope st) "self") (v1 : Vis (defScope st) f) (hdb : (f == ("__debug__" : Str)) = false) (hcd : (f == ("__classdict__" : Str)) = false) : FnOk P w K mg base CX0 1 fI fd ["self", f] (spXI K C f) := by
  refine F.ok S (fun xs H Q E h => ?_) (fun cv A out s H xs Q E hr h => ?_)
  · obtain ⟨a, v, rfl, _⟩ := h
    rfl
  · obtain ⟨a, v, rfl, ha, k⟩ := h
    rw [hb]
    refine ⟨_, pss_one (ps_ost (pe_var (i := 0) rfl v0) (pe_var (i := 1) rfl v1 (hd := hdb) (hcd := hcd))), ?_⟩
    exact ⟨_, rfl, _, rfl, a, C, rfl, T, noF, .inl ⟨ha, fun dx nd ne => k dx nd ne⟩⟩
section
variable {X : Cx} {C : Addr} {x f : Str}
theorem mk_heap {H1 : Hp} {a d C : Addr} {f : Str} {v : V} (na : H1 a = none) (nd : d ≠ a) : upd (del (upd (upd (upd H1 a (exo a C none)) d (exd d [(f, v)])) a (exo a C (some d))) a) d (.xd [(f, v)]) = upd H1 d (.xd [(f, v)]) := by
  funext b
  by_cases e : b = d
  · subst e
    rw [upd_same, upd_same]
  · rw [upd_ne e, upd_ne e]
    by_cases e2 : b = a
    · subst e2
      rw [del_same, na]
    · rw [del_ne e2, upd_ne e2, upd_ne e, upd_ne e2]
theorem mk_red {K : PySem.W.Frag} {H1 : Hp} {v : V} {Q : XK} (h : ∀ d, H1 d = none → Q (.ref C) (some d) (upd H1 d (.xd [(f, v)]))) :
    ([v] : List V).length ≤ 1000 ∧ ∀ a, H1 a = none → spXI K C f (.ref a :: ([v] ++ [])) (upd H1 a (exo a C none))
      (fun u H2 => u = .non ∧ ∃ (d : Addr) (fs : List (Str × V)), H2 a = some (exo a C (some d)) ∧ H2 d = some (exd d fs) ∧ H1 d = none ∧ Q (.ref C) (some d) (upd (del H2 a) d (.xd fs))) (fun _ _ _ => False) := by
  refine ⟨(by decide : 1 ≤ 1000), fun a na => ⟨a, v, rfl, upd_same, fun d nd ne => ⟨rfl, d, [(f, v)], upd_same, ?_, ?_, ?_⟩⟩⟩
  · rw [upd_ne ne]
    exact upd_same
  · rw [upd_ne ne] at nd
    exact nd
  · rw [mk_heap na ne]
    rw [upd_ne ne] at nd
    exact h d nd
/-- C(e): behind the argument mk_red -/
theorem pmk_x {e : Expr} {ta : TA} {p pos : Pos} (T : XcC X.prog X.w X.K X.mg X.base x f C) (hr : Room 2 X.A) (ha : PA X [e] ta) (hg : Gl X x := by rfl)
    (hdb : (x == ("__debug__" : Str)) = false := by decide) (he : starEach (e :: []) X.env = (false, eval e X.env) :: starEach [] X.env := by rfl) (hpl : (backTo pos (starEach [] X.env)).any (·.1) = false := by rfl) :
    PMk X (.Call (.Name x p) [e] [] pos) (tMkO C (spXI X.K C f) [] ta) := by
  obtain ⟨fI, fd, i1, i2, i3, i4⟩ := T.init
  exact pmk_oex (CX := CX0) T.oex i1 i2 i3 hr i4 .nil pass0 hg T.gC ha hdb he hpl
theorem ps_raiseX {W : WX} {e : Expr} {ta : TA} {p pos pos2 : Pos} (hc : X.calm = true) (T : XcC X.prog X.w X.K X.mg X.base x f C) (hr : Room 2 X.A) (tk : Takes X W) (ha : PA X [e] ta) (hg : Gl X x := by rfl)
    (hdb : (x == ("__debug__" : Str)) = false := by decide) (he : starEach (e :: []) X.env = (false, eval e X.env) :: starEach [] X.env := by rfl) (hpl : (backTo pos (starEach [] X.env)).any (·.1) = false := by rfl) :
    PS X (.Raise (some (.Call (.Name x p) [e] [] pos)) none pos2) (fun _ σ H => tMkO C (spXI X.K C f) [] ta σ H fun cls d H' => W cls d σ H') := ps_raise hc tk (pmk_x T hr ha hg hdb he hpl)
/-- isinstance(e, c), e the exception that the suite holds -/
def rIsX (K : PySem.W.Frag) (C a : Addr) (cls : Value) (d : Option Addr) : List V → Hp → VK → Prop := fun xs H Q => ∃ (c : V) (cv : Value) (b : Bool) (dd : Addr) (fs : List (Str × V)), xs = [.ref a, c] ∧ cls = .ref C ∧ (∀ u, RelV c u → u = cv) ∧ PySem.W.kitOne K (.ref C) cv = some b ∧ d = some dd ∧ H dd = some (.xd fs) ∧ Q (.bl b) H
theorem call_isX {a : Addr} {oe : Obj} {cls : Value} {d : Option Addr} {pn : List (Addr × Obj)} (T : XcC X.prog X.w X.K X.mg X.base x f C) (hz : Zc cls d oe) (hf : ∃ vs, oe.data = .fields vs) : CallR (X.suite a ((a, oe) :: pn)) (.builtin "isinstance") (rIsX X.K C a cls d) := by
  intro pins s σ H xs us Q I r h
  obtain ⟨c, cv, b, dd, fs, rfl, rfl, hcv, e, rfl, hH, q⟩ := h
  cases r with
  | cons rx rr =>
    cases rr with
    | cons rt rr =>
      cases rr
      cases rx
      have ec := hcv _ rt
      subst ec
      obtain ⟨hget, _⟩ := I.pin (a, oe) (List.mem_append.mpr (.inl List.mem_cons_self))
      obtain ⟨vs, hv⟩ := hf
      have hx : ObjOk X.prog X.w H s.heap dd (.xd fs) := I.hok dd _ hH
      obtain ⟨mA, hns, hr⟩ := hx
      obtain ⟨od, ho, hl⟩ := lookIn_ns hns
      have J : PySem.W.InstAt s.heap a oe C (some od) := ⟨hget, hz.1, by unfold PySem.W.notCls; rw [hv] <;> rfl, by rw [hz.2]; exact ho⟩
      have hcl : (PySem.W.clsIn X.K C).isSome = true := by
        obtain ⟨cd, hc, _⟩ := PySem.W.any_some T.xf.hdC
        rw [hc]
        rfl
      exact PySem.W.kia_one (PySem.W.kitx_exc hcl T.xf.ga T.xf.gg T.xf.exC T.ha T.hn T.ht T.hm) I.kIn J e (fun z => nomatch z) fun tk => ⟨.bl b, H, I.kept (t' := tk) fun _ _ z => z, rfl, q⟩
end
end SE
/-! Classes and methods called by keyword where exceptions may come, also within a try. -/
namespace SE
open PySem PySem.Spec PyProof.Rows L2
section
variable {X : Cx} {CT : CXT} {k n : Nat} {f C : Addr} {fd : FuncData} {ps ks : List Str} {sp : Sp} {x m : Str} {p pos apos : Pos} {e o : Expr} {es : List Expr} {kws : List Keyword} {te : TE} {t tk : TA} {ex : L2.St → XK}
  {g : List Value → List Value → List Value} {gV : List V → List V → List V}
/-- a def called with some arguments by keyword; ex σ is what is wished of its exceptions -/
theorem run_kwS {pins : List (Addr × Obj)} {σ : L2.St} {H : Hp} {s : Shared} {Q : VK} {us ws : List Value} {vs zs : List V} (F : FnOk X.prog X.w X.K X.mg X.base CT k f fd ps sp) (room : Room k X.A) (bd : KBn X.K fd ps n ks g gV)
    (out : PassesAt CT X σ (ex σ)) (I : Inv X pins σ H s) (r1 : Vals vs us) (r2 : Vals zs ws) (l1 : vs.length = n) (l2 : zs.length = ks.length) (h : sp (gV vs zs) H Q (ex σ)) :
    wpAny (model X.prog X.w) X.A (call (.ref f) us (ks.zip ws)) (EP X pins σ Q) X.xe s := by
  have to := bd.to s us ws I.kIn (r1.length.symm.trans l1) (r2.length.symm.trans l2)
  have run := F.run X.A X.stack s H ⟨us, ks.zip ws⟩ (g us ws) (gV vs zs) Q (ex σ) room I.env0 to (bd.rel r1 r2) h
  refine wpAny_call (codeAny_mono run fun res s2 done => ?_)
  match res, done with
  | .error ev, done => exact out pins H s ev s2 I done
  | .ok (.ret u), done => exact I.after done
  | .ok .next, done => exact done.elim
  | .ok .brk, done => exact done.elim
  | .ok .cont, done => exact done.elim
/-- a class called with some arguments by keyword -/
theorem run_mkS {pins : List (Addr × Obj)} {σ : L2.St} {H : Hp} {s : Shared} {Q : VK} {us ws : List Value} {vs zs : List V} (M : Mk X.K C f) (F : FnOk X.prog X.w X.K X.mg X.base CT k f fd ps sp) (room : Room (k + 1) X.A) (bd : KBn X.K fd ps (n + 1) ks g gV)
    (out : PassesAt CT X σ (ex σ)) (I : Inv X pins σ H s) (r1 : Vals vs us) (r2 : Vals zs ws) (l1 : vs.length = n) (l2 : zs.length = ks.length)
    (h : ∀ b db, H b = none → H db = none → db ≠ b → sp (gV (.ref b :: vs) zs) (upd (upd H db (.own b)) b (.ins C db [])) (fun v H2 => v = .non ∧ Q (.ref b) H2) (ex σ)) :
    wpAny (model X.prog X.w) X.A (call (.ref C) us (ks.zip ws)) (EP X pins σ Q) X.xe s := by
  have new := h (s.heap.objs.size + 1) s.heap.objs.size (I.hok.fresh (Nat.le_succ _)) (I.hok.fresh (Nat.le_refl _)) (Nat.ne_of_lt (Nat.lt_succ_self _))
  have made := Inv.made (C := C) I
  have rs : Vals (V.ref (s.heap.objs.size + 1) :: vs) (Value.ref (s.heap.objs.size + 1) :: us) := .cons rfl r1
  have len : (Value.ref (s.heap.objs.size + 1) :: us).length = n + 1 := congrArg (· + 1) (r1.length.symm.trans l1)
  have to := bd.to _ (Value.ref (s.heap.objs.size + 1) :: us) ws made.kIn len (r2.length.symm.trans l2)
  have run := F.run _ X.stack _ _ ⟨Value.ref (s.heap.objs.size + 1) :: us, ks.zip ws⟩ (g (Value.ref (s.heap.objs.size + 1) :: us) ws) _ _ (ex σ) (room.make C us (ks.zip ws)) (made.env0.make C us (ks.zip ws)) to (bd.rel rs r2) new
  refine wpAny_call (make_map (f := f) I.kIn M.makes M.init (beq_iff_eq.mp M.fn) (codeAny_mono run fun res s2 done => ?_))
  match res, done with
  | .error ev, done => exact out pins _ _ ev s2 made done
  | .ok (.ret u), done =>
    obtain ⟨v, H2, I2, rel, ev, q⟩ := made.after done
    subst ev
    exact ⟨rel, V.ref (s.heap.objs.size + 1), H2, I2, rfl, q⟩
  | .ok .next, done => exact done.elim
  | .ok .brk, done => exact done.elim
  | .ok .cont, done => exact done.elim
/-- C(e, .., k = v, ..) -/
def tMkS (C : Addr) (n m : Nat) (sp : Sp) (gV : List V → List V → List V) (ex : L2.St → XK) (t tk : TA) : TE := fun σ H Q => t σ H fun vs H1 => tk σ H1 fun zs H2 => vs.length = n ∧ zs.length = m ∧
  ∀ b db, H2 b = none → H2 db = none → db ≠ b → sp (gV (.ref b :: vs) zs) (upd (upd H2 db (.own b)) b (.ins C db [])) (fun v H3 => v = .non ∧ Q (.ref b) H3) (ex σ)
theorem pe_mkS (M : Mk X.K C f) (F : FnOk X.prog X.w X.K X.mg X.base CT k f fd ps sp) (room : Room (k + 1) X.A) (hm : X.mg x = some (.ref C)) (bd : KBn X.K fd ps (n + 1) ks g gV) (out : ∀ σ, PassesAt CT X σ (ex σ)) (ha : PA X (e :: es) t) (hk : PK X kws tk)
    (hks : (backToKw pos (keywordEach kws X.env)).filterMap (·.1) = ks := by rfl) (hall : (backToKw pos (keywordEach kws X.env)).all (·.1.isSome) = true := by rfl) (hg : Gl X x := by rfl) (hd : (x == ("__debug__" : Str)) = false := by decide)
    (he : starEach (e :: es) X.env = (false, eval e X.env) :: starEach es X.env := by rfl) (hpl : ((backTo pos (starEach (e :: es) X.env)).any (·.1) || (backToKw pos (keywordEach kws X.env)).any (·.1.isNone)) = false := by rfl) :
    PE X (.Call (.Name x p) (e :: es) kws pos) (tMkS C n ks.length sp gV ex t tk) := by
  constructor
  intro pins s σ H Q I w
  refine wpAny_Call_Name_kw (ld_glob I hg hm ?_ hd)
  refine PySem.W.callWith_KW (h₀ := X.base) I.ok.mod.kin M.kp hall (thn (ha.run pos pins s σ H _ I w) fun us s1 z => ?_) hpl he
  obtain ⟨vs, H1, I1, r1, w1⟩ := z
  refine thn (hk.run pos pins s1 σ H1 _ I1 w1) fun ws s2 z => ?_
  obtain ⟨zs, H2, I2, r2, l1, l2, w2⟩ := z
  rw [hks]
  exact ⟨I2.kIn, run_mkS M F room bd (out σ) I2 r1 r2 l1 l2 w2⟩
/-- o.m(e, .., k = v, ..) -/
def tMethS (C : Addr) (m : Str) (n j : Nat) (sp : Sp) (gV : List V → List V → List V) (ex : L2.St → XK) (te : TE) (t tk : TA) : TE := fun σ H Q => te σ H fun y H1 => ∃ b db fs, y = .ref b ∧ H1 b = some (.ins C db fs) ∧ fs.lookup m = none ∧
  t σ H1 fun vs H2 => tk σ H2 fun zs H3 => vs.length = n ∧ zs.length = j ∧ sp (gV (.ref b :: vs) zs) H3 Q (ex σ)
theorem pe_methS {pl : Sem Bool} (ho : PE X o te) (c : Cls X.K C) (hm : Meth X.K C m f) (F : FnOk X.prog X.w X.K X.mg X.base CT k f fd ps sp) (room : Room k X.A) (bd : KBn X.K fd ps (n + 1) ks g gV) (out : ∀ σ, PassesAt CT X σ (ex σ)) (ha : PA X (e :: es) t) (hk : PK X kws tk)
    (hks : (backToKw pos (keywordEach kws X.env)).filterMap (·.1) = ks := by rfl) (hall : (backToKw pos (keywordEach kws X.env)).all (·.1.isSome) = true := by rfl)
    (he : starEach (e :: es) X.env = (false, eval e X.env) :: starEach es X.env := by rfl) (hpl : ((backTo pos (starEach (e :: es) X.env)).any (·.1) || (backToKw pos (keywordEach kws X.env)).any (·.1.isNone)) = false := by rfl)
    (hev : eval (.Call (.Attribute o m apos) (e :: es) kws pos) X.env = (do
      let ov ← eval o X.env
      standAt apos.atName
      let (f, first) ← holding [ov] (getMethod ov m pl)
      callWith pos f first (backTo pos (starEach (e :: es) X.env)) (backToKw pos (keywordEach kws X.env))) := by rfl) :
    PE X (.Call (.Attribute o m apos) (e :: es) kws pos) (tMethS C m n ks.length sp gV ex te t tk) := by
  constructor
  intro pins s σ H Q I w
  refine PySem.W.methodCall_KW (pl := pl) (thn (ho.run pins s σ H _ I w) fun u s1 z => ?_) hev
  obtain ⟨y, H1, I1, ry, b, db, fs, ey, hb, lk, w1⟩ := z
  subst ey
  obtain rfl : u = Value.ref b := ry
  refine getmeth_ok I1 hb c hm lk ?_
  refine PySem.W.callWith_KW (first := [.ref b]) (h₀ := X.base) I.ok.mod.kin hm.kp hall (thn (ha.run pos pins s1 σ H1 _ I1 w1) fun us s2 z => ?_) hpl he
  obtain ⟨vs, H2, I2, r1, w2⟩ := z
  refine thn (hk.run pos pins s2 σ H2 _ I2 w2) fun ws s3 z => ?_
  obtain ⟨zs, H3, I3, r2, l1, l2, w3⟩ := z
  rw [hks]
  exact ⟨I3.kIn, run_kwS (n := n + 1) (us := .ref b :: us) (vs := .ref b :: vs) F room bd (out σ) I3 (.cons rfl r1) r2 (congrArg (· + 1) l1) l2 w3⟩
/-! ### a static method of a class -/
/-- C.m is a staticmethod: its record at p, its def at f -/
structure SMet (K : PySem.W.Frag) (C : Addr) (mc : Value) (m : Str) (p f : Addr) : Prop where
  at_ : PySem.W.findCls K (.ref C) mc m = some (.get (.builtin "staticmethod.__get__") (.ref p) .none (.ref C))
  rc : ∃ rest, PySem.W.recIn K p "staticmethod" = some (.ref f :: rest)
  kp : PySem.W.keepIn K (.ref f) = true
/-- a def by its promise on positional values, exceptions as ex σ wishes -/
theorem run_rS {pins : List (Addr × Obj)} {σ : L2.St} {H : Hp} {s : Shared} {Q : VK} {us : List Value} {vs : List V} (F : FnR X.prog X.w X.K X.mg X.base CT k f sp) (room : Room k X.A) (out : PassesAt CT X σ (ex σ)) (I : Inv X pins σ H s) (r : Vals vs us) (h : sp vs H Q (ex σ)) :
    wpAny (model X.prog X.w) X.A (call (.ref f) us) (EP X pins σ Q) X.xe s := by
  refine wpAny_call (codeAny_mono (F X.A X.stack s H us vs Q (ex σ) room I.env0 r h) fun res s2 done => ?_)
  match res, done with
  | .error ev, done => exact out pins H s ev s2 I done
  | .ok (.ret u), done => exact I.after done
  | .ok .next, done => exact done.elim
  | .ok .brk, done => exact done.elim
  | .ok .cont, done => exact done.elim
/-- C.m(e, ..) of a staticmethod -/
def tSMeth (C : Addr) (sp : Sp) (ex : L2.St → XK) (te : TE) (t : TA) : TE := fun σ H Q => te σ H fun y H1 => y = .ref C ∧ t σ H1 fun vs H2 => sp vs H2 Q (ex σ)
theorem pe_smeth {pl : Sem Bool} {mc : Value} {q : Addr} (ho : PE X o te) (rd : ClX.CRead X.K C mc) (c : SMet X.K C mc m q f) (F : FnR X.prog X.w X.K X.mg X.base CT k f sp) (room : Room k X.A) (out : ∀ σ, PassesAt CT X σ (ex σ)) (ha : PA X (e :: es) t)
    (he : starEach (e :: es) X.env = (false, eval e X.env) :: starEach es X.env := by rfl) (hpl : (backTo pos (starEach es X.env)).any (·.1) = false := by rfl)
    (hev : eval (.Call (.Attribute o m apos) (e :: es) [] pos) X.env = (do
      let ov ← eval o X.env
      standAt apos.atName
      let (f, first) ← holding [ov] (getMethod ov m pl)
      callWith pos f first (backTo pos (starEach (e :: es) X.env)) (backToKw pos (keywordEach [] X.env))) := by rfl) :
    PE X (.Call (.Attribute o m apos) (e :: es) [] pos) (tSMeth C sp ex te t) := by
  constructor
  intro pins s σ H Q I w
  refine PySem.W.methodCall_KW (pl := pl) (thn (ho.run pins s σ H _ I w) fun u s1 z => ?_) hev
  obtain ⟨y, H1, I1, ry, ey, w1⟩ := z
  subst ey
  obtain rfl : u = Value.ref C := ry
  obtain ⟨rest, rec⟩ := c.rc
  refine PySem.W.method_cls I1.kIn rd.ga (PySem.W.cls_bind I1.kIn rd.rd c.at_ ?_)
  refine wpAny_call (PySem.W.sm_get (s := { s1 with toks := s1.toks + 1 }) I1.kIn rec (PySem.W.handed_on rfl ?_))
  have I2 : Inv X pins σ H1 { s1 with toks := s1.toks + 1 } := I1.tok _
  refine PySem.W.callWith_K (first := []) (h₀ := X.base) I.ok.mod.kin c.kp (thn (ha.run pos pins _ σ H1 _ I2 w1) fun us s3 z => ?_) he hpl
  obtain ⟨vs, H3, I3, r3, w3⟩ := z
  exact ⟨I3.kIn, run_rS F room (out σ) I3 r3 w3⟩
end
end SE
/-! f(e, .., k = v, ..), f a def of the text; (an expression)(e, .., k = v, ..), one of two defs. -/
namespace SE
open PySem PySem.Spec PyProof.Rows L2
section
variable {X : Cx} {CT : CXT} {k n : Nat} {f f0 f1 : Addr} {fd fd0 fd1 : FuncData} {ps ks : List Str} {sp : Sp} {x : Str} {p pos : Pos} {e fe : Expr} {es : List Expr} {kws : List Keyword} {te : TE} {t tk : TA} {ex : L2.St → XK}
  {g g0 g1 : List Value → List Value → List Value} {gV : List V → List V → List V}
def tKwS (n m : Nat) (sp : Sp) (gV : List V → List V → List V) (ex : L2.St → XK) (t tk : TA) : TE := fun σ H Q => t σ H fun vs H1 => tk σ H1 fun zs H2 => vs.length = n ∧ zs.length = m ∧ sp (gV vs zs) H2 Q (ex σ)
theorem pe_kwS (F : FnOk X.prog X.w X.K X.mg X.base CT k f fd ps sp) (room : Room k X.A) (hm : X.mg x = some (.ref f)) (kp : PySem.W.keepIn X.K (.ref f) = true) (bd : KBn X.K fd ps n ks g gV) (out : ∀ σ, PassesAt CT X σ (ex σ)) (ha : PA X (e :: es) t) (hk : PK X kws tk)
    (hks : (backToKw pos (keywordEach kws X.env)).filterMap (·.1) = ks := by rfl) (hall : (backToKw pos (keywordEach kws X.env)).all (·.1.isSome) = true := by rfl) (hg : Gl X x := by rfl) (hd : (x == ("__debug__" : Str)) = false := by decide)
    (he : starEach (e :: es) X.env = (false, eval e X.env) :: starEach es X.env := by rfl) (hpl : ((backTo pos (starEach (e :: es) X.env)).any (·.1) || (backToKw pos (keywordEach kws X.env)).any (·.1.isNone)) = false := by rfl) :
    PE X (.Call (.Name x p) (e :: es) kws pos) (tKwS n ks.length sp gV ex t tk) := by
  constructor
  intro pins s σ H Q I w
  refine wpAny_Call_Name_kw (ld_glob I hg hm ?_ hd)
  refine PySem.W.callWith_KW (h₀ := X.base) I.ok.mod.kin kp hall (thn (ha.run pos pins s σ H _ I w) fun us s1 z => ?_) hpl he
  obtain ⟨vs, H1, I1, r1, w1⟩ := z
  refine thn (hk.run pos pins s1 σ H1 _ I1 w1) fun ws s2 z => ?_
  obtain ⟨zs, H2, I2, r2, l1, l2, w2⟩ := z
  rw [hks]
  exact ⟨I2.kIn, run_kwS F room bd (out σ) I2 r1 r2 l1 l2 w2⟩
def tKwX (f0 f1 : Addr) (n m : Nat) (sp : Sp) (gV : List V → List V → List V) (ex : L2.St → XK) (te : TE) (t tk : TA) : TE := fun σ H Q => te σ H fun y H0 => (y = .ref f0 ∨ y = .ref f1) ∧ tKwS n m sp gV ex t tk σ H0 Q
theorem pe_kwX (hf : PE X fe te) (F0 : FnOk X.prog X.w X.K X.mg X.base CT k f0 fd0 ps sp) (F1 : FnOk X.prog X.w X.K X.mg X.base CT k f1 fd1 ps sp) (room : Room k X.A) (kp0 : PySem.W.keepIn X.K (.ref f0) = true) (kp1 : PySem.W.keepIn X.K (.ref f1) = true) (bd0 : KBn X.K fd0 ps n ks g0 gV) (bd1 : KBn X.K fd1 ps n ks g1 gV)
    (out : ∀ σ, PassesAt CT X σ (ex σ)) (ha : PA X (e :: es) t) (hk : PK X kws tk)
    (hev : eval (.Call fe (e :: es) kws pos) X.env = (do callWith pos (← eval fe X.env) [] (backTo pos (starEach (e :: es) X.env)) (backToKw pos (keywordEach kws X.env))) := by rfl)
    (hks : (backToKw pos (keywordEach kws X.env)).filterMap (·.1) = ks := by rfl) (hall : (backToKw pos (keywordEach kws X.env)).all (·.1.isSome) = true := by rfl)
    (he : starEach (e :: es) X.env = (false, eval e X.env) :: starEach es X.env := by rfl) (hpl : ((backTo pos (starEach (e :: es) X.env)).any (·.1) || (backToKw pos (keywordEach kws X.env)).any (·.1.isNone)) = false := by rfl) :
    PE X (.Call fe (e :: es) kws pos) (tKwX f0 f1 n ks.length sp gV ex te t tk) := by
  constructor
  intro pins s σ H Q I w
  rw [hev]
  refine wpAny_bind (thn (hf.run pins s σ H _ I w) fun u s0 z => ?_)
  obtain ⟨y, H0, I0, ry, hy, w0⟩ := z
  rcases hy with rfl | rfl
  · cases ry
    refine PySem.W.callWith_KW (h₀ := X.base) I0.ok.mod.kin kp0 hall (thn (ha.run pos pins s0 σ H0 _ I0 w0) fun us s1 z => ?_) hpl he
    obtain ⟨vs, H1, I1, r1, w1⟩ := z
    refine thn (hk.run pos pins s1 σ H1 _ I1 w1) fun ws s2 z => ?_
    obtain ⟨zs, H2, I2, r2, l1, l2, w2⟩ := z
    rw [hks]
    exact ⟨I2.kIn, run_kwS F0 room bd0 (out σ) I2 r1 r2 l1 l2 w2⟩
  · cases ry
    refine PySem.W.callWith_KW (h₀ := X.base) I0.ok.mod.kin kp1 hall (thn (ha.run pos pins s0 σ H0 _ I0 w0) fun us s1 z => ?_) hpl he
    obtain ⟨vs, H1, I1, r1, w1⟩ := z
    refine thn (hk.run pos pins s1 σ H1 _ I1 w1) fun ws s2 z => ?_
    obtain ⟨zs, H2, I2, r2, l1, l2, w2⟩ := z
    rw [hks]
    exact ⟨I2.kIn, run_kwS F1 room bd1 (out σ) I2 r1 r2 l1 l2 w2⟩
theorem pass0At {σ : L2.St} {E : XK} : PassesAt CX0 X σ E := fun _ _ _ _ _ _ h => h.elim
end
end SE
namespace SE
open PySem PySem.Spec PyProof.Rows L2
open PySem.W (alike alikeAll dataLt)
section
variable {P : Program} {w : World} {K : PySem.W.Frag} {mg : Str → Option Value} {base : Heap} {C : Addr}
/-! ### by_height -/
/-! ### check_limit, is_too_high -/
/-! ### apply, on its own pops -/
def ApplyP (P : Program) (w : World) (K : PySem.W.Frag) (mg : Str → Option Value) (base : Heap) (C : Addr) : Prop := ∃ f fd, Meth K C "apply" f ∧ FnOk P w K mg base CX0 5 f fd pApp (spAp9 K C) ∧ FunD K "apply" "Effect.apply" (defArgs sApply) (defBody sApply) (defScope sApply) [] [("limit", .non)] f fd
theorem eff_lk {H : Hp} {e : Addr} {o : Eff} (h : EffV K C H e o) : ∃ dx fs, H e = some (.ins C dx fs) ∧ fs.lookup ("apply" : Str) = none ∧ fs.lookup ("then" : Str) = none := by
  obtain ⟨dx, u, v, p, h1, _⟩ := h.dp
  exact ⟨dx, _, h1, rfl, rfl⟩
/-! ### first_success -/
def spFs (K : PySem.W.Frag) (C : Addr) : Sp := fun vs H Q _ => ∃ (e : Addr) (o : Eff) (lim : Option Int), vs = [.ref e, limV lim] ∧ EffV K C H e o ∧ EffOk o ∧ LimOk lim ∧ ∀ v H', Same H H' → OW K H' v (fsM lim o) → Q v H'
theorem scFsu : FnScope ["effect", "limit"] ["effect", "limit"] (defScope sFirstSuccess) := ⟨rfl, rfl, rfl, by decide +kernel, rfl, by decide +kernel, by decide +kernel⟩
theorem has_fs (D : Def K mg "first_success" sFirstSuccess) (T : EC K mg C) (AP : ApplyP P w K mg base C) (GI : PropHas P w K mg base C "is_never" 1 (spIsNev K C)) (GP : PropHas P w K mg base C "pops" 1 (spPops K C)) : Has P w K mg base "first_success" 6 ["effect", "limit"] [] (spFs K C) := by
  obtain ⟨fA, fdA, mA, FA, FDA⟩ := AP
  obtain ⟨mvA, kbA⟩ := kb_some (ps := pApp) FDA 2 ["limit"] [] (fun us _ ws => us ++ ws) (by simp) (fun q h => (by cases h)) (fun r1 _ r3 => r1.append r3) (fun D doc pm an cv ct us mv ws h1 h2 h3 => match us, mv, ws, h1, h2, h3 with | [_, _], [], [_], _, _, _ => rfl)
  refine has_of D scFsu (fun _ _ _ _ _ _ us hl => match us, hl with | [_, _], _ => rfl) (fun xs H Q E h => ?_) (fun f cv A out s H xs Q E hr h => ?_)
  · obtain ⟨e, o, lim, rfl, _⟩ := h
    rfl
  · obtain ⟨e, o, lim, rfl, he, ok, lo, k⟩ := h
    have hr2 : Room 2 _ := hr.mono (by decide)
    refine ⟨_, pss_cons (ps_if (PW.pt (pw_or (pt_val (pe_propH GI (pv 0) T.cl hr2)) (pw_or1 (pt_cmpR op_isN (pe_methS (ex := fun _ => E0) (pv 0) T.cl mA FA hr kbA (fun σ => pass0At) (pa_cons (pe_propH GP (pv 0) T.cl hr2) pa_nil) (pk_cons (pv 1) pk_nil)) pe_non (nomark _))))) (pss_one (ps_ret pe_non)) pss_nil)
      (pss_one (ps_ret (pe_propH GP (pv 0) T.cl hr2))), ?_⟩
    obtain ⟨dx, fs, hi, la, _⟩ := eff_lk he
    cases o with
    | none => exact ⟨_, rfl, e, dx, fs, rfl, hi, e, rfl, .inr ⟨he, true, rfl, iteT (k _ H (Same.refl H) rfl)⟩⟩
    | some Bp =>
      obtain ⟨xs, ys, p⟩ := Bp
      have hA : EffAt K C H e xs ys p := he
      have ok0 := ok
      obtain ⟨i1, i2, l1, l2, _⟩ := ok
      refine ⟨_, rfl, e, dx, fs, rfl, hi, e, rfl, .inl ⟨xs, ys, p, hA, false, rfl, iteF ?_⟩⟩
      refine ⟨_, rfl, e, dx, fs, rfl, hi, la, _, rfl, e, dx, fs, rfl, hi, e, xs, ys, p, rfl, hA, fun u hu => ?_⟩
      refine ⟨_, rfl, rfl, rfl, e, u, some (xs, ys, p), xs, lim, rfl, he, ok0, hu, i1, l1, lo, fun v H1 s1 hv => ?_⟩
      rw [ap_pops] at hv
      cases ho : overZ lim ((xs.length : Int) + p) with
      | true =>
        rw [ho, if_pos rfl] at hv
        cases hv
        refine ⟨rfl, true, rfl, iteT (k _ H1 s1 ?_)⟩
        unfold fsM
        dsimp only
        rw [ho, if_pos rfl]
        rfl
      | false =>
        rw [ho, if_neg (by simp)] at hv
        obtain ⟨a, rfl, hv⟩ := hv
        refine ⟨rfl, false, rfl, iteF ?_⟩
        refine ⟨_, rfl, e, dx, fs, rfl, s1 _ _ hi, e, xs, ys, p, rfl, hA.same s1, fun u2 hu2 => k _ H1 s1 ?_⟩
        unfold fsM
        dsimp only
        rw [ho, if_neg (by simp)]
        exact ⟨u2, rfl, hu2⟩
/-! ### first_beyond -/
def spFb (K : PySem.W.Frag) (C : Addr) : Sp := fun vs H Q _ => ∃ (e1 e2 : Addr) (xs ys : List Str) (p q : Int) (lim : Option Int), vs = [.ref e1, .ref e2, limV lim] ∧ EffAt K C H e1 xs ys p ∧ EffAt K C H e2 xs ys q ∧ xs.length ≤ 1000 ∧ 0 ≤ p ∧ 0 ≤ q ∧ LimOk lim ∧ overZ lim ((xs.length : Int) + p) = false ∧ overZ lim ((xs.length : Int) + q) = false ∧
  ∀ v H', Same H H' → OW K H' v (beyM lim xs p q) → Q v H'
theorem scFb : FnScope ["one", "other", "limit", "height"] ["one", "other", "limit"] (defScope sFirstBeyond) := ⟨rfl, rfl, rfl, by decide +kernel, rfl, by decide +kernel, by decide +kernel⟩
theorem has_fb (D : Def K mg "first_beyond" sFirstBeyond) (T : EC K mg C) (B : Blt mg) (GP : PropHas P w K mg base C "pops" 1 (spPops K C)) (GK : PropHas P w K mg base C "peak" 1 (spPeak K C)) (mx : mg "max" = none) (hF : ∃ t, mg "FIRST_ITEM" = some (.str "a" t)) : Has P w K mg base "first_beyond" 3 ["one", "other", "limit"] [] (spFb K C) := by
  obtain ⟨tF, hF⟩ := hF
  refine has_of D scFb (fun _ _ _ _ _ _ us hl => match us, hl with | [_, _, _], _ => rfl) (fun xs H Q E h => ?_) (fun f cv A out s H xs Q E hr h => ?_)
  · obtain ⟨e1, e2, xs, ys, p, q, lim, rfl, _⟩ := h
    rfl
  · obtain ⟨e1, e2, xs, ys, p, q, lim, rfl, h1, h2, lx, p0, q0, lo, o1, o2, k⟩ := h
    have hr2 : Room 2 _ := hr.mono (by decide)
    refine ⟨_, pss_cons (ps_if (PW.pt (pw_or (pt_cmpR op_isN (pv 2) pe_non (nomark _)) (pw_or1 (pt_cmpR op_eq (pe_propH GK (pv 0) T.cl hr2) (pe_propH GK (pv 1) T.cl hr2) (nomark _))))) (pss_one (ps_ret pe_non)) pss_nil)
      (pss_cons (ps_set (i := 3) scFb.nd rfl (.inl rfl) (pe_op op_add (pe_op op_sub (pv 2) (pe_callB (call_max2 rfl) (by rfl) mx (by decide +kernel) (pa_cons (pe_propH GK (pv 0) T.cl hr2) (pa_cons (pe_propH GK (pv 1) T.cl hr2) pa_nil)))) pe_int))
      (pss_one (ps_ret (pe_op op_catS (pe_propH GP (pv 0) T.cl hr2) (pe_op op_repS (pe_tup (pa_cons (pe_glob (v := .str "a") rfl hF ⟨_, rfl⟩) pa_nil)) (pe_op op_sub (pv 3) (pe_callB call_len_seq (by rfl) B.len PySem.boot_len (pa_cons (pe_propH GP (pv 0) T.cl hr2) pa_nil)))))))), ?_⟩
    cases lim with
    | none => exact ⟨_, rfl, rfl, true, rfl, iteT (k _ H (Same.refl H) rfl)⟩
    | some L =>
      obtain ⟨L0, L1⟩ := lo L rfl
      have c1 := of_decide_eq_false o1
      have c2 := of_decide_eq_false o2
      obtain ⟨d1, f1, j1⟩ := EffV.ins (o := some (xs, ys, p)) h1
      obtain ⟨d2, f2, j2⟩ := EffV.ins (o := some (xs, ys, q)) h2
      refine ⟨_, rfl, rfl, false, rfl, iteF ?_⟩
      refine ⟨_, rfl, e1, d1, f1, rfl, j1, e1, xs, ys, p, rfl, h1, _, rfl, e2, d2, f2, rfl, j2, e2, xs, ys, q, rfl, h2, rfl, decide (V.int p = V.int q), rfl, ?_⟩
      by_cases c : p = q
      · rw [decide_eq_true (congrArg V.int c)]
        refine iteT (k _ H (Same.refl H) ?_)
        unfold beyM
        dsimp only
        rw [if_pos c]
        rfl
      · rw [decide_eq_false (fun z => c (V.int.inj z))]
        refine iteF ?_
        refine ⟨_, rfl, _, rfl, e1, d1, f1, rfl, j1, e1, xs, ys, p, rfl, h1, _, rfl, e2, d2, f2, rfl, j2, e2, xs, ys, q, rfl, h2, p, q, rfl, L, _, rfl, rfl, _, 1, rfl, rfl, ?_⟩
        refine ⟨_, rfl, e1, d1, f1, rfl, j1, e1, xs, ys, p, rfl, h1, fun u1 hu1 => ?_⟩
        refine ⟨(by show 1 ≤ sizeLine; decide), fun t ht => ?_⟩
        have s1 := Same.new (o := .tup [.str "a"]) ht
        refine ⟨_, rfl, _, rfl, e1, d1, f1, rfl, s1 _ _ j1, e1, xs, ys, p, rfl, h1.same s1, fun u2 hu2 => ⟨u2, _, rfl, .inr hu2, _, _, rfl, rfl, ?_⟩⟩
        rw [List.length_map]
        have mb : mxI p q = (if q > p then q else p) := rfl
        have m1 : p ≤ mxI p q ∧ q ≤ mxI p q ∧ (mxI p q = p ∨ mxI p q = q) := by
          unfold mxI
          split <;> omega
        rw [← mb]
        refine ⟨t, L - mxI p q + 1 - (xs.length : Int), .str "a", rfl, rfl, .of upd_same, by omega, by omega, fun u3 H3 s3 hu3 => ?_⟩
        have s13 := s1.trans s3
        refine ⟨u1, u3, _, _, rfl, rfl, Same.tup s13 hu1, hu3, ?_, fun u4 H4 s4 hu4 => k _ H4 (s13.trans s4) ?_⟩
        · rw [List.length_map, List.length_replicate, sizeLine_eq]
          omega
        · unfold beyM
          dsimp only
          rw [if_neg c]
          refine ⟨u4, rfl, ?_⟩
          rw [List.map_append, List.map_replicate]
          exact hu4
end
end SE
namespace SE
open PySem PySem.Spec PyProof.Rows L2 SeqAt
open PySem.W (alike alikeAll dataLt)
theorem keys_words2 {K : PySem.W.Frag} {H : Hp} {vs : List V} {ws : List (List Str)} (h : Paired (WdV K H) vs ws) : Keys K (spBy K) H vs (fun i => keyD (ws.getD i [])) where
  k := fun i x H1 hx s => by
    obtain ⟨w, hw, a, rfl, ha⟩ := paired_at h hx
    refine ⟨a, w, rfl, Same.tup s ha, fun v H' s' hv => ⟨s', ?_⟩⟩
    rw [List.getD_eq_getElem?_getD, hw]
    exact hv
  al := fun i j _ _ => alike_key _ _
  nn := fun i _ z => by cases z
  dp := fun i _ => depth_key _
section
variable {P : Program} {w : World} {K : PySem.W.Frag} {mg : Str → Option Value} {base : Heap} {C : Addr}
abbrev pDf : List Str := ["one", "other", "limit"]
def KHas (P : Program) (w : World) (K : PySem.W.Frag) (mg : Str → Option Value) (base : Heap) (CT : CXT) (x : Str) (st : Stmt) (k : Nat) (sp : Sp) : Prop := ∃ f fd, FnOk P w K mg base CT k f fd pDf sp ∧ FunD K x x (defArgs st) (defBody st) (defScope st) [] [("limit", .non)] f fd ∧ mg x = some (.ref f)
/-! ### difference -/
def spDf (K : PySem.W.Frag) (C : Addr) : Sp := fun vs H Q _ => ∃ (e1 e2 : Addr) (o1 o2 : Eff) (lim : Option Int), vs = [.ref e1, .ref e2, limV lim] ∧ EffV K C H e1 o1 ∧ EffV K C H e2 o2 ∧ EffOk o1 ∧ EffOk o2 ∧ LimOk lim ∧ ∀ v H', Same H H' → OW K H' v (difM lim o1 o2) → Q v H'
abbrev nDf : List Str := ["one", "other", "limit", "firsts", "stack"]
theorem scDf : FnScope nDf pDf (defScope sDifference) := ⟨rfl, rfl, rfl, by decide +kernel, rfl, by decide +kernel, by decide +kernel⟩
theorem tup_shaped {xs : List Str} (h : ∀ z ∈ xs, Item z) : SeqAt.shaped (.tuple (xs.map PyData.str)) = true := (nice_tuple (nice_strs h)).shaped (by decide)
def owD : Option (List Str) → PyData
  | none => .none
  | some xs => .tuple (xs.map .str)
theorem owD_nice : ∀ {o : Option (List Str)}, (∀ xs, o = some xs → (∀ z ∈ xs, Item z) ∧ xs.length ≤ 1000) → Nice 1 9000 (owD o)
  | none, _ => ⟨by decide +kernel, by decide +kernel, by decide +kernel, by decide +kernel, by decide +kernel, by decide +kernel⟩
  | some xs, h => by
    obtain ⟨a, b⟩ := h xs rfl
    exact (nice_tuple (nice_strs a)).mono (by decide) (by rw [List.length_map]; omega)
theorem owD_dp {H : Hp} {v : V} : ∀ {o : Option (List Str)}, OW K H v o → Dp K H v (owD o)
  | none, h => by
    cases h
    exact .non
  | some xs, h => by
    obtain ⟨a, rfl, q⟩ := h
    exact .tup q (dp_strs _)
theorem two_shaped {o1 o2 : Option (List Str)} (h1 : Nice 1 9000 (owD o1)) (h2 : Nice 1 9000 (owD o2)) : SeqAt.shaped (.list [owD o1, owD o2]) = true := (nice_list (k := 1) (B := 9000) (ds := [owD o1, owD o2]) fun d m => by
  rcases List.mem_cons.mp m with q | m
  · rw [q]; exact h1
  · rw [List.mem_singleton.mp m]; exact h2).shaped (by decide)
theorem eqv_none (o : Option (List Str)) : PyData.eqv (owD o) .none = decide (o = none) := by
  cases o with
  | none => rfl
  | some xs => rfl
theorem fs_ok {lim : Option Int} {o : Eff} (h : EffOk o) : ∀ xs, fsM lim o = some xs → (∀ z ∈ xs, Item z) ∧ xs.length ≤ 1000 := fun xs e => by
  match o, h, e with
  | some (us, vs, p), h, e =>
    obtain ⟨rfl, _⟩ := fs_some e
    exact ⟨h.1, h.2.2.1⟩
theorem has_df (D : DefK K mg "difference" sDifference [("limit", .non)]) (T : EC K mg C) (GL : Has P w K mg base "check_limit" 4 ["limit"] [] spClV) (GF : Has P w K mg base "first_success" 6 ["effect", "limit"] [] (spFs K C)) (GB : Has P w K mg base "first_beyond" 3 ["one", "other", "limit"] [] (spFb K C)) (BY : ByHas P w K mg base)
    (GP : PropHas P w K mg base C "pops" 1 (spPops K C)) (GQ : PropHas P w K mg base C "pushes" 1 (spPush K C)) (mn : mg "min" = none) : KHas P w K mg base CX0 "difference" sDifference 7 (spDf K C) := by
  obtain ⟨f, fd, F, FD, hmg⟩ := D
  obtain ⟨fB, fdB, FB, bB, mB⟩ := BY
  refine ⟨f, fd, F.ok scDf (fun vs H Q E h => ?_) (fun cdv A outer s H vs Q E hr h => ?_), FD, hmg⟩
  · obtain ⟨e1, e2, o1, o2, lim, rfl, _⟩ := h
    rfl
  · obtain ⟨e1, e2, o1, o2, lim, rfl, h1, h2, k1, k2, lo, k⟩ := h
    have hr2 : Room 2 _ := hr.mono (by decide)
    have hr3 : Room 3 _ := hr.mono (by decide)
    have hr4 : Room 4 _ := hr.mono (by decide)
    refine ⟨_, pss_cons (ps_expr (pe_has GL hr4 (pa_cons (pv 2) pa_nil)))
      (pss_cons (ps_set (i := 3) scDf.nd rfl (.inl rfl) (pe_lst (pa_cons (pe_has GF hr (pa_cons (pv 0) (pa_cons (pv 2) pa_nil))) (pa_cons (pe_has GF hr (pa_cons (pv 1) (pa_cons (pv 2) pa_nil))) pa_nil))))
      (pss_cons (ps_if (PW.pt (pw_and (pt_cmpR (op_notInD (by have := hr.un; show (A.deeper _).units + 65 < cLine; omega)) pe_non (pv 3) (by rfl)) (pw_and (pt_cmpR (op_eqD hr.units) (pe_propH GP (pv 0) T.cl hr2) (pe_propH GP (pv 1) T.cl hr2) (nomark _)) (pw_and1 (pt_cmpR (op_eqD hr.units) (pe_propH GQ (pv 0) T.cl hr2) (pe_propH GQ (pv 1) T.cl hr2) (nomark _))))))
        (pss_one (ps_ret (pe_has GB hr3 (pa_cons (pv 0) (pa_cons (pv 1) (pa_cons (pv 2) pa_nil)))))) pss_nil)
      (pss_one (ps_ret (pe_callBK (call_minK FB bB hr2 rfl) (by rfl) mn (by decide +kernel)
        (pa_cons (pe_lc (own := [("stack", 4)]) (g := gName 4) (tt := tTest (tOp rNN (tVar 4) (tC .non))) (te := tVar 4) rfl scDf.nd (pi_list (pv 3)) (blkOk_by (own := [("stack", 4)]) (N := nDf) (sc := defScope sDifference) (by decide +kernel))
          (fun _ _ _ _ _ => pg_name (i := 4) scDf.nd rfl (.inl rfl)) (fun _ _ _ _ _ => pts_one (pt_cmpR op_notN (pv 4) pe_non (nomark _))) (fun _ _ _ _ _ => pv 4)) pa_nil)
        (pk_cons (pe_glob (v := .ref fB) rfl mB rfl) (pk_cons pe_non pk_nil))))))), ?_⟩
    refine ⟨_, rfl, lim, rfl, lo, ?_⟩
    refine ⟨_, rfl, _, rfl, e1, o1, lim, rfl, h1, k1, lo, fun v1 H1 s1 hv1 => ⟨_, rfl, _, rfl, e2, o2, lim, rfl, h2.same s1, k2, lo, fun v2 H2 s2 hv2 => ?_⟩⟩
    refine ⟨(by show 2 ≤ sizeLine; decide), fun L hL => ?_⟩
    have s3 := Same.new (o := .lst [v1, v2]) hL
    have gL : (upd H2 L (.lst [v1, v2])) L = some (.lst [v1, v2]) := upd_same
    have w1 := hv1.same (s2.trans s3)
    have w2 := hv2.same s3
    have s03 := (s1.trans s2).trans s3
    generalize upd H2 L (.lst [v1, v2]) = H3 at s3 gL w1 w2 s03
    have n1 := owD_nice (fs_ok (lim := lim) k1)
    have n2 := owD_nice (fs_ok (lim := lim) k2)
    -- the least of the stacks
    have fin : ∀ {H4 : Hp} (ws : List (List Str)), Same H3 H4 → Paired (WdV K H4) ([v1, v2].filter fun v => !decide (v = .non)) ws → (ws = [] → difM lim o1 o2 = none) → (∀ w', ws = [w'] → difM lim o1 o2 = some w') → (∀ a b, ws = [a, b] → difM lim o1 o2 = some (if ltW b a = true then b else a)) → ws.length ≤ 2 →
        ∀ {D : Addr}, H4 D = some (.lst ([v1, v2].filter fun v => !decide (v = .non))) → rMinK K fB (spBy K) [.ref D] [.ref fB, .non] H4 Q := by
      intro H4 ws s4 hp c0 c1 c2 lw D hD
      have lp := paired_len hp
      refine ⟨D, _, .non, _, rfl, rfl, .of hD, keys_words2 hp, fun e H5 s5 => k .non H5 ((s03.trans s4).trans s5) ?_, fun ne x H5 hx s5 => k x H5 ((s03.trans s4).trans s5) ?_⟩
      · have ew : ws = [] := List.length_eq_zero_iff.mp (by rw [← lp, e]; rfl)
        rw [c0 ew]
        rfl
      · match ws, lw, lp, hp, c1, c2 with
        | [], _, lp, _, _, _ => exact absurd (List.length_eq_zero_iff.mp (by rw [lp]; rfl)) ne
        | [a], _, lp, hp, c1, _ =>
          rw [lp] at hx
          obtain ⟨w', hw, q, rfl, hq⟩ := paired_at hp (show _ = some x from hx)
          rw [c1 a rfl]
          have e : a = w' := Option.some.inj hw
          rw [e]
          exact ⟨q, rfl, Same.tup s5 hq⟩
        | [a, b], _, lp, hp, _, c2 =>
          rw [lp] at hx
          obtain ⟨w', hw, q, rfl, hq⟩ := paired_at hp (show _ = some x from hx)
          rw [c2 a b rfl]
          have eb : argBest (ltK fun i => keyD (([a, b] : List (List Str)).getD i [])) ([a, b].length - 1) = if ltW b a = true then 1 else 0 := rfl
          rw [eb] at hw
          cases hl : ltW b a with
          | true =>
            rw [hl, if_pos rfl] at hw
            rw [if_pos rfl]
            have e : b = w' := Option.some.inj hw
            rw [e]
            exact ⟨q, rfl, Same.tup s5 hq⟩
          | false =>
            rw [hl, if_neg (by simp)] at hw
            rw [if_neg (by simp)]
            have e : a = w' := Option.some.inj hw
            rw [e]
            exact ⟨q, rfl, Same.tup s5 hq⟩
    have lc : ∀ {H4 : Hp}, Same H3 H4 → (∀ D H5, Same H4 H5 → H5 D = some (.lst ([v1, v2].filter fun v => !decide (v = .non))) → rMinK K fB (spBy K) [.ref D] [.ref fB, .non] H5 Q) → ∀ D, H4 D = none → ∃ W : Nat → Nat → Hp → Prop, (∃ m, W 0 m (upd H4 D (.lst []))) ∧ ∀ i m H, W i m H →
        ((Itl K L).stop i H ∧ rMinK K fB (spBy K) [.ref D] [.ref fB, .non] H Q) ∨ ((Itl K L).go i H ∧ ∃ Nx : Hp → Prop, (∀ H', Nx H' → ∃ m', m' < m ∧ W (i + 1) m' H') ∧ ∀ x H', (Itl K L).yld i H x H' → (gName 4) x (wipe [some (.ref e1), some (.ref e2), some (limV lim), some (.ref L), none] [4]) H' fun σ2 H2 => wipe σ2 [4] = wipe [some (.ref e1), some (.ref e2), some (limV lim), some (.ref L), none] [4] ∧ (tTest (tOp rNN (tVar 4) (tC .non))) σ2 H2 fun b H3 =>
          if b = true then (tVar 4) σ2 H3 fun y H4 => ∃ acc, H4 D = some (.lst acc) ∧ acc.length < sizeLine ∧ Nx (upd H4 D (.lst (acc ++ [y]))) else Nx H3) := by
      intro H4 s4 kk D hD
      refine lc_list (K := K) (a := L) (xs := [v1, v2]) (fun j H5 => H5 D = some (.lst (([v1, v2].take j).filter fun v => !decide (v = .non))) ∧ Same H4 H5) ⟨upd_same, Same.new hD⟩ (fun j H5 _ q => .of (q.2 _ _ (s4 _ _ gL))) ?_ ?_
      · rintro j x H5 hx ⟨h5, s5⟩
        refine ⟨rfl, _, rfl, rfl, !decide (x = .non), rfl, ?_⟩
        have e1 : ([v1, v2].take (j + 1)).filter (fun v => !decide (v = .non)) = (([v1, v2].take j).filter fun v => !decide (v = .non)) ++ (if (!decide (x = .non)) = true then [x] else []) := by
          rw [List.take_add_one, hx, List.filter_append]
          congr 1
          simp only [Option.toList]
          rw [List.filter_cons, List.filter_nil]
        cases c : (!decide (x = .non)) with
        | true =>
          rw [c, if_pos rfl] at e1
          refine iteT ⟨x, rfl, _, h5, ?_, ?_, Same.free2 s5 hD⟩
          · have := List.length_filter_le (fun v => !decide (v = .non)) ([v1, v2].take j)
            have h2 : ([v1, v2].take j).length ≤ 2 := by rw [List.length_take]; exact Nat.min_le_right _ _
            rw [sizeLine_eq]
            omega
          · rw [upd_same, e1]
        | false =>
          rw [c, if_neg (by simp), List.append_nil] at e1
          exact iteF ⟨by rw [e1]; exact h5, s5⟩
      · rintro H5 ⟨h5, s5⟩
        exact kk D H5 s5 h5
    have f0 : ([V.non, V.non].filter fun v => !decide (v = .non)) = [] := by simp
    have f1 : ∀ a : Addr, ([V.ref a, V.non].filter fun v => !decide (v = .non)) = [V.ref a] := fun a => by simp
    have f2 : ∀ a : Addr, ([V.non, V.ref a].filter fun v => !decide (v = .non)) = [V.ref a] := fun a => by simp
    have f3 : ∀ a b : Addr, ([V.ref a, V.ref b].filter fun v => !decide (v = .non)) = [V.ref a, V.ref b] := fun a b => by simp
    cases q1 : fsM lim o1 with
    | none =>
      rw [q1] at w1 n1
      cases w1
      cases q2 : fsM lim o2 with
      | none =>
        rw [q2] at w2 n2
        cases w2
        refine ⟨_, rfl, .none, [.none, .none], .non, .lst (.of gL) (.cons .non (.cons .non .nil)), rfl, two_shaped n1 n2, false, rfl, iteF ?_⟩
        refine ⟨_, rfl, L, rfl, ⟨_, .of gL⟩, fun D hD => lc (Same.refl _) (fun D H5 s5 h5 => fin [] s5 (by rw [f0]; exact .nil) (fun _ => ?_) (fun w' e => by cases e) (fun a b e => by cases e) (by simp) h5) D hD⟩
        unfold difM
        rw [q1, q2]
      | some x2 =>
        rw [q2] at w2 n2
        obtain ⟨a2, rfl, t2⟩ := w2
        refine ⟨_, rfl, .none, [.none, .tuple (x2.map .str)], .non, .lst (.of gL) (.cons .non (.cons (.tup t2 (dp_strs _)) .nil)), rfl, two_shaped (o2 := some x2) n1 n2, false, rfl, iteF ?_⟩
        refine ⟨_, rfl, L, rfl, ⟨_, .of gL⟩, fun D hD => lc (Same.refl _) (fun D H5 s5 h5 => fin [x2] s5 (by rw [f2]; exact .cons ⟨a2, rfl, Same.tup s5 t2⟩ .nil) (fun e => by cases e) (fun w' e => ?_) (fun a b e => by cases e) (by simp) h5) D hD⟩
        cases e
        unfold difM
        rw [q1, q2]
    | some x1 =>
      rw [q1] at w1 n1
      obtain ⟨a1, rfl, t1⟩ := w1
      cases q2 : fsM lim o2 with
      | none =>
        rw [q2] at w2 n2
        cases w2
        refine ⟨_, rfl, .none, [.tuple (x1.map .str), .none], .non, .lst (.of gL) (.cons (.tup t1 (dp_strs _)) (.cons .non .nil)), rfl, two_shaped (o1 := some x1) n1 n2, false, rfl, iteF ?_⟩
        refine ⟨_, rfl, L, rfl, ⟨_, .of gL⟩, fun D hD => lc (Same.refl _) (fun D H5 s5 h5 => fin [x1] s5 (by rw [f1]; exact .cons ⟨a1, rfl, Same.tup s5 t1⟩ .nil) (fun e => by cases e) (fun w' e => ?_) (fun a b e => by cases e) (by simp) h5) D hD⟩
        cases e
        unfold difM
        rw [q1, q2]
      | some x2 =>
        rw [q2] at w2 n2
        obtain ⟨a2, rfl, t2⟩ := w2
        refine ⟨_, rfl, .none, [.tuple (x1.map .str), .tuple (x2.map .str)], .non, .lst (.of gL) (.cons (.tup t1 (dp_strs _)) (.cons (.tup t2 (dp_strs _)) .nil)), rfl, two_shaped (o1 := some x1) (o2 := some x2) n1 n2, true, rfl, iteT ?_⟩
        obtain ⟨xs, ys, p, rfl⟩ : ∃ xs ys p, o1 = some (xs, ys, p) := by
          match o1, q1 with
          | some (a, b, c), _ => exact ⟨a, b, c, rfl⟩
        obtain ⟨us, vs, r, rfl⟩ : ∃ xs ys p, o2 = some (xs, ys, p) := by
          match o2, q2 with
          | some (a, b, c), _ => exact ⟨a, b, c, rfl⟩
        obtain ⟨rfl, ov1⟩ := fs_some q1
        obtain ⟨rfl, ov2⟩ := fs_some q2
        have hA : EffAt K C H3 e1 x1 ys p := (EffV.same (o := some (x1, ys, p)) h1 s03)
        have hB : EffAt K C H3 e2 x2 vs r := (EffV.same (o := some (x2, vs, r)) h2 s03)
        obtain ⟨d1, g1, j1⟩ := EffV.ins (o := some (x1, ys, p)) hA
        obtain ⟨d2, g2, j2⟩ := EffV.ins (o := some (x2, vs, r)) hB
        obtain ⟨i1, i2, l1, l2, p0, _⟩ := k1
        obtain ⟨i3, i4, l3, l4, r0, _⟩ := k2
        have last : ¬ (x1 = x2 ∧ ys = vs) → ∀ D, H3 D = none → _ := fun c D hD => lc (Same.refl _) (fun D H5 s5 h5 => fin [x1, x2] s5 (by rw [f3]; exact .cons ⟨a1, rfl, Same.tup s5 t1⟩ (.cons ⟨a2, rfl, Same.tup s5 t2⟩ .nil)) (fun e => by cases e) (fun w' e => by cases e) (fun a b e => by
          cases e
          unfold difM
          rw [q1, q2]
          dsimp only
          rw [if_neg c]) (by simp) h5) D hD
        refine ⟨_, rfl, e1, d1, g1, rfl, j1, e1, x1, ys, p, rfl, hA, fun b1 hb1 => ⟨_, rfl, e2, d2, g2, rfl, j2, e2, x2, vs, r, rfl, hB, fun b2 hb2 => ?_⟩⟩
        refine ⟨_, _, .tup hb1 (dp_strs _), .tup hb2 (dp_strs _), tup_shaped i1, tup_shaped i3, decide (x1 = x2), by rw [eqv_tupS], ?_⟩
        by_cases c1 : x1 = x2
        · rw [decide_eq_true c1]
          refine iteT ⟨_, rfl, e1, d1, g1, rfl, j1, e1, x1, ys, p, rfl, hA, fun b3 hb3 => ⟨_, rfl, e2, d2, g2, rfl, j2, e2, x2, vs, r, rfl, hB, fun b4 hb4 => ?_⟩⟩
          refine ⟨_, _, .tup hb3 (dp_strs _), .tup hb4 (dp_strs _), tup_shaped i2, tup_shaped i4, decide (ys = vs), by rw [eqv_tupS], ?_⟩
          by_cases c2 : ys = vs
          · rw [decide_eq_true c2]
            subst c1 c2
            refine iteT ⟨_, rfl, _, rfl, _, rfl, e1, e2, x1, ys, p, r, lim, rfl, hA, hB, l1, p0, r0, lo, ov1, ov2, fun v H5 s5 hv => k v H5 (s03.trans s5) ?_⟩
            unfold difM
            rw [q1, q2]
            dsimp only
            rw [if_pos ⟨rfl, rfl⟩]
            exact hv
          · rw [decide_eq_false c2]
            refine iteF ⟨_, rfl, L, rfl, ⟨_, .of gL⟩, last fun z => c2 z.2⟩
        · rw [decide_eq_false c1]
          refine iteF ⟨_, rfl, L, rfl, ⟨_, .of gL⟩, last fun z => c1 z.1⟩
end
end SE
namespace SE
open PySem PySem.Spec PyProof.Rows L2 SeqAt
def ThenHas (P : Program) (w : World) (K : PySem.W.Frag) (mg : Str → Option Value) (base : Heap) (C : Addr) : Prop := ∃ f, Meth K C "then" f ∧ FnR P w K mg base CX0 8 f (spThen K C)
def ShD (d : PyData) : Prop := d.showable = true ∧ d.depth ≤ 20 ∧ d.shown.length ≤ sizeLine
section
variable {P : Program} {w : World} {K : PySem.W.Frag} {mg : Str → Option Value} {base : Heap} {C CN : Addr}
theorem KHas.kb {CT : CXT} {x : Str} {st : Stmt} {k : Nat} {sp : Sp} (h : KHas P w K mg base CT x st k sp) (hb : ∀ (D : Addr) (doc pm : Value) (an : Option Addr) (cv ct : Value) (us ws : List Value), us.length = 2 → ws.length = 1 → bindArgs (PySem.W.fnOf x x (defArgs st) (defBody st) (defScope st) .none (.ref D) doc pm an cv ct) ⟨us, [Str.ofString "limit"].zip ws⟩ = pure (pDf.zip (us ++ ws))) :
    ∃ f fd, FnOk P w K mg base CT k f fd pDf sp ∧ KBn K fd pDf 2 ["limit"] (fun us ws => us ++ ws) (fun vs zs => vs ++ zs) ∧ mg x = some (.ref f) ∧ PySem.W.keepIn K (.ref f) = true := by
  obtain ⟨f, fd, F, FD, hm⟩ := h
  obtain ⟨mv, kb⟩ := kb_some (ps := pDf) FD 2 ["limit"] [] (fun us _ ws => us ++ ws) (by simp) (fun q h => (by cases h)) (fun r1 _ r3 => r1.append r3) (fun D doc pm an cv ct us mv ws h1 h2 h3 => match mv, h2 with | [], _ => hb D doc pm an cv ct us ws h1 h3)
  exact ⟨f, fd, F, kb, hm, FD.kp⟩
/-! ### commute -/
def spCm (K : PySem.W.Frag) (C : Addr) : Sp := fun vs H Q _ => ∃ (e1 e2 : Addr) (o1 o2 : Eff) (lim : Option Int), vs = [.ref e1, .ref e2, limV lim] ∧ EffV K C H e1 o1 ∧ EffV K C H e2 o2 ∧ EffSm o1 ∧ EffSm o2 ∧ EffOk (thenM [o1, o2]) ∧ EffOk (thenM [o2, o1]) ∧ LimOk lim ∧
  ∀ v H', Same H H' → OW K H' v (difM lim (thenM [o1, o2]) (thenM [o2, o1])) → Q v H'
theorem scCm : FnScope pDf pDf (defScope sCommute) := ⟨rfl, rfl, rfl, by decide +kernel, rfl, by decide +kernel, by decide +kernel⟩
theorem two_sm {x y : Eff} (hx : EffSm x) (hy : EffSm y) : ∀ z ∈ [x, y], EffSm z := fun z m => by
  rcases List.mem_cons.mp m with q | q
  · rw [q]; exact hx
  · rw [List.mem_singleton.mp q]; exact hy
theorem has_cm (D : DefK K mg "commute" sCommute [("limit", .non)]) (T : EC K mg C) (TH : ThenHas P w K mg base C) (GD : KHas P w K mg base CX0 "difference" sDifference 7 (spDf K C)) : KHas P w K mg base CX0 "commute" sCommute 9 (spCm K C) := by
  obtain ⟨f, fd, F, FD, hmg⟩ := D
  obtain ⟨ft, mt, Ft⟩ := TH
  obtain ⟨fd0, fdd, Fd, kbd, md, kpd⟩ := GD.kb (fun D doc pm an cv ct us ws h1 h2 => match us, ws, h1, h2 with | [_, _], [_], _, _ => rfl)
  refine ⟨f, fd, F.ok scCm (fun vs H Q E h => ?_) (fun cdv A outer s H vs Q E hr h => ?_), FD, hmg⟩
  · obtain ⟨e1, e2, o1, o2, lim, rfl, _⟩ := h
    rfl
  · obtain ⟨e1, e2, o1, o2, lim, rfl, h1, h2, m1, m2, k1, k2, lo, k⟩ := h
    have hr7 : Room 7 _ := hr.mono (by decide)
    refine ⟨_, pss_one (ps_ret (pe_kwS (ex := fun _ => E0) Fd hr7 md kpd kbd (fun σ => pass0At) (pa_cons (pe_methR (pv 0) T.cl mt Ft hr pass0 (pa_cons (pv 1) pa_nil)) (pa_cons (pe_methR (pv 1) T.cl mt Ft hr pass0 (pa_cons (pv 0) pa_nil)) pa_nil)) (pk_cons (pv 2) pk_nil))), ?_⟩
    obtain ⟨d1, f1, j1, _, t1⟩ := eff_lk h1
    refine ⟨_, rfl, e1, d1, f1, rfl, j1, t1, _, rfl, [.ref e1, .ref e2], [o1, o2], rfl, by simp, .cons ⟨e1, rfl, h1⟩ (.cons ⟨e2, rfl, h2⟩ .nil), two_sm m1 m2, by simp, fun r1 H1 s1 hr1 => ?_⟩
    obtain ⟨d2, f2, j2, _, t2⟩ := eff_lk (h2.same s1)
    refine ⟨_, rfl, e2, d2, f2, rfl, j2, t2, _, rfl, [.ref e2, .ref e1], [o2, o1], rfl, by simp, .cons ⟨e2, rfl, h2.same s1⟩ (.cons ⟨e1, rfl, h1.same s1⟩ .nil), two_sm m2 m1, by simp, fun r2 H2 s2 hr2 => ?_⟩
    exact ⟨_, rfl, rfl, rfl, r1, r2, _, _, lim, rfl, hr1.same s2, hr2, k1, k2, lo, fun v H' s' hv => k v H' ((s1.trans s2).trans s') hv⟩
/-! ### limits that are refused -/
/-! ### _law_refused -/
end
end SE
/-! Texts: d.get(x) of a module's dict, repr of a text. -/
namespace SE
open PySem PySem.Spec PyProof.Rows L2
/-- d.get(x), d a module's dict with texts as keys -/
def tKGet (K : PySem.W.Frag) (w : World) (td ty : TE) : TE := fun σ H Q => td σ H fun x H1 => ∃ p es n, x = .ref p ∧ KDict K w p es n ∧ ty σ H1 fun y H2 => ∃ (z : Str) (r : Option Value) (v : V), y = .str z ∧ PySem.W.nsIn K p z = some r ∧ RelV v (r.getD .none) ∧ Q v H2
section
variable {X : Cx} {o e : Expr} {apos cpos : Pos} {td ty : TE}
theorem pe_kget (ho : PE X o td) (he : PE X e ty) (m : M1 X o "get" apos e cpos) : PE X (.Call (.Attribute o "get" apos) [e] [] cpos) (tKGet X.K X.w td ty) := by
  refine ⟨fun pins s σ H Q I h => ?_⟩
  refine wpAny_Call_method m.base m.few m.line PySem.F.plainAttrs_dict PySem.F.slot_dict_get PySem.F.type_dict_get (thn (ho.run pins s σ H _ I h) fun u s1 ⟨x, H1, I1, rx, a, es, n, ex, D, q1⟩ => ?_)
  subst ex
  obtain rfl : u = Value.ref a := rx
  have hm := PySem.W.mapOf_K (prog := X.prog) (w := X.w) I1.kIn D.at_ D.lit
  refine ⟨hm.typeIs, fun b q => ?_, ?_⟩
  · cases q
    obtain ⟨ob, _, _, h1, h2, _⟩ := hm
    exact ⟨ob, h1, h2.2.1⟩
  rw [m.trees]
  refine Calls.callWith_builtin rfl (Calls.evalArgs_plain (Calls.spliced_cons (thn (he.run pins s1 σ H1 _ I1 q1) fun iv s2 ⟨y, H2, I2, ry, z, r, v, ey, hn, rv, q2⟩ => Calls.spliced_nil ?_)))
  subst ey
  obtain ⟨t, rfl⟩ := ry
  have hm2 := PySem.W.mapOf_K (prog := X.prog) (w := X.w) I2.kIn D.at_ D.lit
  refine call_meetsIn PySem.F.slot_dict_get hm2.typeIs PySem.F.entry_dict_get (PySem.F.args_dict_get_2 _ _) (meets_dict_get (strKind X.prog X.w) a (PySem.strKind_is X.prog X.w z t) D.low) ⟨_, hm2, ?_⟩
  rw [PySem.W.find_K D.at_ hn]
  exact ⟨v, H2, I2.tok _, rv, q2⟩
/-- repr(x), x a text -/
def rRepT : List V → Hp → VK → Prop := fun xs H Q => ∃ z : Str, xs = [.str z] ∧ (reprText z).length ≤ sizeLine ∧ Q (.str (reprText z)) H
theorem call_repT : CallR X (.builtin "repr") rRepT := by
  intro pins s σ H xs us Q I r h
  obtain ⟨z, rfl, hz, q⟩ := h
  cases r with
  | cons r1 r2 =>
    cases r2
    obtain ⟨t, rfl⟩ := r1
    exact PySem.P.repr_of_str ⟨.str _, H, I.tok _, ⟨_, rfl⟩, q⟩ hz
end
/-- texts added -/
def rAddT : R2 := fun a b H Q => ∃ x y, a = .str x ∧ b = .str y ∧ x.length + y.length ≤ sizeLine ∧ Q (.str (x ++ y)) H
theorem op_addT {X : Cx} : OpR X (binaryOp .Add) rAddT := op_add_str
/-! ### joined texts -/
open TL
theorem mem_joinL {S : List Nat} {c : Nat} : ∀ {ps : List (List Nat)}, c ∈ joinL S ps → c ∈ S ∨ ∃ p ∈ ps, c ∈ p
  | [], h => by cases h
  | [p], h => .inr ⟨p, List.mem_singleton.mpr rfl, h⟩
  | p :: q :: r, h => by
    have h' : c ∈ p ++ (S ++ joinL S (q :: r)) := h
    rcases List.mem_append.mp h' with a | a
    · exact .inr ⟨p, List.mem_cons_self .., a⟩
    · rcases List.mem_append.mp a with a | a
      · exact .inl a
      · rcases mem_joinL a with b | ⟨x, m, b⟩
        · exact .inl b
        · exact .inr ⟨x, List.mem_cons_of_mem _ m, b⟩
theorem mem_join {y : Str} {c : Nat} {ps : List Str} (h : c ∈ tl (Txt.join y ps)) : c ∈ tl y ∨ ∃ p ∈ ps, c ∈ tl p := by
  rw [join_eq, tl_join] at h
  rcases mem_joinL h with a | ⟨x, m, a⟩
  · exact .inl a
  · obtain ⟨p, mp, rfl⟩ := List.mem_map.mp m
    exact .inr ⟨p, mp, a⟩
theorem join_len (y : Str) (ps : List Str) : (Txt.join y ps).length ≤ (ps.map (·.length)).sum + ps.length * y.length := by
  rw [join_eq]
  exact StrLaws.join_length_le y ps
theorem sum_lens {B : Nat} : ∀ {ts : List Str}, (∀ t ∈ ts, t.length ≤ B) → (ts.map (·.length)).sum ≤ ts.length * B
  | [], _ => Nat.zero_le _
  | t :: ts, h => by
    have h1 := h t (List.mem_cons_self ..)
    have ih := sum_lens fun t m => h t (List.mem_cons_of_mem _ m)
    rw [List.map_cons, List.sum_cons, List.length_cons, Nat.succ_mul]
    omega
end SE
namespace SE
open PySem PySem.Spec PyProof.Rows L2 TL
/-! ### the texts -/
abbrev sDot : Str := Str.ofString "."
abbrev sBlk : Str := Str.ofString " "
abbrev sDash : Str := Str.ofString "-"
abbrev sPlus : Str := Str.ofString "+"
def wordT (zs : List Str) : Str := if zs = [] then sDash else Txt.join sDot zs
def stepT (s : Stp) : Str := (if s.1 = true then sPlus else sDash) ++ s.2
def stepsT (ss : List Stp) : Str := if ss = [] then sDot else Txt.join sBlk (ss.map stepT)
def fiveT (xs ys : List Str) (p : Int) : List Str := [wordT xs, Str.ofString ">", wordT ys, Str.ofString "^", toString p]
def effT : Option (List Str × List Str × Int) → Str
  | none => Str.ofString "never"
  | some (xs, ys, p) => Txt.join sBlk (fiveT xs ys p)
theorem tl_dot : tl sDot = [46] := by decide +kernel
theorem tl_blk : tl sBlk = [32] := by decide +kernel
theorem tl_dash : tl sDash = [45] := by decide +kernel
theorem tl_plus : tl sPlus = [43] := by decide +kernel
theorem Item.tl {z : Str} (h : Item z) {c : Nat} (m : c ∈ TL.tl z) : 97 ≤ c ∧ c ≤ 122 := h.low c m
theorem wordT_in {zs : List Str} (h : ∀ z ∈ zs, Item z) {c : Nat} (m : c ∈ TL.tl (wordT zs)) : c = 45 ∨ c = 46 ∨ (97 ≤ c ∧ c ≤ 122) := by
  unfold wordT at m
  split at m
  · rw [tl_dash] at m
    exact .inl (List.mem_singleton.mp m)
  · rcases mem_join m with a | ⟨p, mp, a⟩
    · rw [tl_dot] at a
      exact .inr (.inl (List.mem_singleton.mp a))
    · exact .inr (.inr ((h p mp).tl a))
theorem wordT_blk {zs : List Str} (h : ∀ z ∈ zs, Item z) : 32 ∉ TL.tl (wordT zs) := fun m => by
  rcases wordT_in h m with e | e | e <;> omega
theorem joinL_head {S : List Nat} {c : Nat} {t : List Nat} {r : List (List Nat)} : ∃ u, joinL S ((c :: t) :: r) = c :: u := by
  cases r with
  | nil => exact ⟨t, rfl⟩
  | cons q r => exact ⟨t ++ (S ++ joinL S (q :: r)), rfl⟩
theorem item_head {z : Str} (h : Item z) : ∃ c t, TL.tl z = c :: t ∧ 97 ≤ c := by
  cases e : TL.tl z with
  | nil =>
    have := h.pos
    rw [len_tl, e] at this
    simp at this
  | cons c t => exact ⟨c, t, rfl, (h.tl (by rw [e]; exact List.mem_cons_self ..)).1⟩
/-- a word's text is "-" for the empty one alone -/
theorem wordT_dash {zs : List Str} (h : ∀ z ∈ zs, Item z) : wordT zs = sDash ↔ zs = [] := by
  constructor
  · intro e
    cases zs with
    | nil => rfl
    | cons z r =>
      unfold wordT at e
      rw [if_neg (by simp), join_eq] at e
      have e2 := congrArg TL.tl e
      rw [tl_join, List.map_cons, tl_dash] at e2
      obtain ⟨c, t, h1, h2⟩ := item_head (h z (List.mem_cons_self ..))
      rw [h1] at e2
      obtain ⟨u, hu⟩ := joinL_head (S := TL.tl sDot) (c := c) (t := t) (r := r.map TL.tl)
      rw [hu] at e2
      injection e2 with e3 _
      omega
  · rintro rfl
    rfl
theorem split_word {zs : List Str} (h : ∀ z ∈ zs, Item z) (hn : zs ≠ []) : Txt.split (wordT zs) sDot = zs := by
  unfold wordT
  rw [if_neg hn]
  exact split_join tl_dot (by decide +kernel) hn fun p m q => by have := (h p m).tl q; omega
theorem wordT_len {zs : List Str} (h : ∀ z ∈ zs, Item z) : (wordT zs).length ≤ 9 * zs.length + 1 := by
  unfold wordT
  split
  · have : sDash.length = 1 := by decide +kernel
    omega
  · have a := join_len sDot zs
    have b := sum_lens (B := 8) (ts := zs) fun t m => (h t m).most
    have c : sDot.length = 1 := by decide +kernel
    rw [c] at a
    omega
/-! ### steps -/
theorem stepT_tl (s : Stp) : TL.tl (stepT s) = (if s.1 = true then 43 else 45) :: TL.tl s.2 := by
  unfold stepT
  rw [tl_append]
  split
  · rw [tl_plus]; rfl
  · rw [tl_dash]; rfl
theorem stepT_blk {s : Stp} (h : Item s.2) : 32 ∉ TL.tl (stepT s) := fun m => by
  rw [stepT_tl] at m
  rcases List.mem_cons.mp m with e | m
  · split at e <;> omega
  · have := h.tl m
    omega
theorem stepT_len {s : Stp} (h : Item s.2) : (stepT s).length ≤ 9 := by
  have a := h.most
  rw [len_tl] at a ⊢
  rw [stepT_tl, List.length_cons]
  omega
theorem stepsT_dot {ss : List Stp} : stepsT ss = sDot ↔ ss = [] := by
  constructor
  · intro e
    cases ss with
    | nil => rfl
    | cons s r =>
      unfold stepsT at e
      rw [if_neg (by simp), join_eq] at e
      have e2 := congrArg TL.tl e
      rw [tl_join, List.map_cons, List.map_cons, tl_dot, stepT_tl] at e2
      obtain ⟨u, hu⟩ := joinL_head (S := TL.tl sBlk) (c := if s.1 = true then 43 else 45) (t := TL.tl s.2) (r := (r.map stepT).map TL.tl)
      rw [hu] at e2
      injection e2 with e3 _
      split at e3 <;> omega
  · rintro rfl
    rfl
theorem split_steps {ss : List Stp} (h : ∀ s ∈ ss, Item s.2) (hn : ss ≠ []) : Txt.split (stepsT ss) sBlk = ss.map stepT := by
  unfold stepsT
  rw [if_neg hn]
  refine split_join tl_blk (by decide +kernel) (by simpa using hn) fun p m q => ?_
  obtain ⟨s, ms, rfl⟩ := List.mem_map.mp m
  exact stepT_blk (h s ms) q
theorem stepsT_len {ss : List Stp} (h : ∀ s ∈ ss, Item s.2) : (stepsT ss).length ≤ 10 * ss.length + 1 := by
  unfold stepsT
  split
  · have : sDot.length = 1 := by decide +kernel
    omega
  · have a := join_len sBlk (ss.map stepT)
    have b := sum_lens (B := 9) (ts := ss.map stepT) fun t m => by
      obtain ⟨s, ms, rfl⟩ := List.mem_map.mp m
      exact stepT_len (h s ms)
    have c : sBlk.length = 1 := by decide +kernel
    rw [c, List.length_map] at a
    rw [List.length_map] at b
    omega
theorem stepT_cut0 (s : Stp) : cutS (stepT s) none (some 1) = if s.1 = true then sPlus else sDash := by
  refine ext_tl ?_
  have hl : 1 ≤ (stepT s).length := by
    rw [len_tl, stepT_tl, List.length_cons]
    omega
  show ((TL.tl (stepT s)).drop 0).take (HT.sIx (stepT s).length (stepT s).length (some ((1 : Nat) : Int)) - 0) = _
  rw [HT.sIx_nat, List.drop_zero, Nat.sub_zero, Nat.min_eq_left hl, stepT_tl]
  split
  · rw [tl_plus]; rfl
  · rw [tl_dash]; rfl
theorem stepT_cut1 (s : Stp) : cutS (stepT s) (some 1) none = s.2 := by
  refine ext_tl ?_
  have hl : 1 ≤ (stepT s).length := by
    rw [len_tl, stepT_tl, List.length_cons]
    omega
  have hl2 : (stepT s).length = (TL.tl s.2).length + 1 := by rw [len_tl, stepT_tl, List.length_cons]
  show ((TL.tl (stepT s)).drop (HT.sIx (stepT s).length 0 (some ((1 : Nat) : Int)))).take (HT.sIx (stepT s).length (stepT s).length none - HT.sIx (stepT s).length 0 (some ((1 : Nat) : Int))) = _
  rw [HT.sIx_nat, HT.sIx_none, Nat.min_eq_left hl, stepT_tl]
  show (TL.tl s.2).take _ = _
  rw [hl2]
  exact List.take_of_length_le (by omega)
/-! ### numbers and effects -/
def nums : List Nat := (List.range 100)
theorem num_blk (p : Int) (h0 : 0 ≤ p) : 32 ∉ TL.tl (toString p : Str) := by
  obtain ⟨n, rfl⟩ := Int.eq_ofNat_of_zero_le h0
  rw [tl_num]
  exact numL_free (.inl (by decide))
theorem split_eff {xs ys : List Str} {p : Int} (h1 : ∀ z ∈ xs, Item z) (h2 : ∀ z ∈ ys, Item z) (h0 : 0 ≤ p) : Txt.split (effT (some (xs, ys, p))) sBlk = fiveT xs ys p := by
  refine split_join tl_blk (by decide +kernel) (by simp [fiveT]) fun q m c => ?_
  simp only [fiveT, List.mem_cons, List.not_mem_nil, or_false] at m
  rcases m with rfl | rfl | rfl | rfl | rfl
  · exact wordT_blk h1 c
  · exact absurd c (by decide +kernel)
  · exact wordT_blk h2 c
  · exact absurd c (by decide +kernel)
  · exact num_blk p h0 c
theorem effT_never {o : Option (List Str × List Str × Int)} : effT o = Str.ofString "never" ↔ o = none := by
  constructor
  · intro e
    cases o with
    | none => rfl
    | some B =>
      obtain ⟨xs, ys, p⟩ := B
      have e2 : 32 ∈ TL.tl (effT (some (xs, ys, p))) := by
        unfold effT fiveT
        dsimp only
        rw [join_eq]
        show 32 ∈ TL.tl (wordT xs ++ sBlk ++ Str.join sBlk _)
        rw [tl_append, tl_append, tl_blk]
        simp
      rw [e] at e2
      exact absurd e2 (by decide +kernel)
  · rintro rfl
    rfl
end SE
namespace SE
open PySem PySem.Spec PyProof.Rows L2 TL
/-- the texts' constants -/
structure TCons (K : PySem.W.Frag) (w : World) (mg : Str → Option Value) : Prop where
  dig : ∃ t, mg "DIGITS" = some (.str "0123456789" t)
  many : ∃ t, mg "MANY_DIGITS" = some (.int 1000000000000000000 t)
  ew : ∃ t, mg "EMPTY_WORD" = some (.str sDash t)
  es : ∃ t, mg "EMPTY_SEQUENCE" = some (.str sDot t)
  nv : ∃ t, mg "NEVER" = some (.str "never" t)
  sg : ∃ (d : Addr) (es : Array DictEntry) (n : Nat) (u v : Value), mg "SIGNS" = some (.ref d) ∧ KDict K w d es n ∧ PySem.W.nsIn K d "push" = some (some u) ∧ RelV (.str sPlus) u ∧ PySem.W.nsIn K d "pop" = some (some v) ∧ RelV (.str sDash) v
  ac : ∃ (d : Addr) (es : Array DictEntry) (n : Nat) (u v : Value), mg "ACTIONS" = some (.ref d) ∧ KDict K w d es n ∧ PySem.W.nsIn K d "+" = some (some u) ∧ RelV (.str "push") u ∧ PySem.W.nsIn K d "-" = some (some v) ∧ RelV (.str "pop") v
section
variable {P : Program} {w : World} {K : PySem.W.Frag} {mg : Str → Option Value} {base : Heap}
/-! ### is_sequence -/
def spIsSeq (K : PySem.W.Frag) : Sp := fun xs H Q _ => ∃ (a : Addr) (ys : List V) (ss : List Stp), xs = [.ref a] ∧ (SqL K H a ys ∨ SqT K H a ys) ∧ ys.length ≤ 1000 ∧ StepsV K H ys ss ∧ (∀ s ∈ ss, Item s.2) ∧ ∀ H', Same H H' → Q (.bl true) H'
theorem scSq : FnScope ["value", "step"] ["value"] (defScope sIsSeq) := ⟨rfl, rfl, rfl, by decide +kernel, rfl, by decide +kernel, by decide +kernel⟩
theorem has_isSeq (D : Def K mg "is_sequence" sIsSeq) (GM : Has P w K mg base "may_hold_steps" 1 ["value"] [] (spMay K)) (GS : Has P w K mg base "is_step" 2 ["value"] [] (spIsStep K)) (B : Blt mg) : Has P w K mg base "is_sequence" 3 ["value"] [] (spIsSeq K) := by
  refine has_of D scSq (fun _ _ _ _ _ _ us hl => match us, hl with | [_], _ => rfl) (fun xs H Q E h => ?_) (fun f cv A out s H xs Q E hr h => ?_)
  · obtain ⟨a, ys, ss, rfl, _⟩ := h
    rfl
  · obtain ⟨a, ys, ss, rfl, hS, hl, hV, hI, k⟩ := h
    have hr1 : Room 1 _ := hr.mono (by decide)
    have go : ∀ {G : Hp → Prop} {H1 : Hp} {D : Addr} {j : Nat} {x : V} {H2 : Hp}, Same H H1 → H1 D = none → ys[j]? = some x → (H2 D = some (.lst ((List.replicate j true).map V.bl)) ∧ Same H1 H2) → spIsStep K [x] H2 (fun y H4 => ∃ acc, H4 D = some (.lst acc) ∧ acc.length < sizeLine ∧ ((upd H4 D (.lst (acc ++ [y]))) D = some (.lst ((List.replicate (j + 1) true).map V.bl)) ∧ Same H1 (upd H4 D (.lst (acc ++ [y]))))) E0 := by
      intro G H1 D j x H2 s1 hD hj ⟨h2, s2⟩
      obtain ⟨st, h3, h4⟩ := StepsV.at hV hj
      have jl : j < ys.length := (List.getElem?_eq_some_iff.mp hj).1
      refine ⟨x, st, rfl, h4.same (s1.trans s2), hI st (List.mem_of_getElem? h3), fun H3 s3 => ⟨_, s3 _ _ h2, ?_, ?_, ?_⟩⟩
      · rw [List.length_map, List.length_replicate]
        exact small1000 (by omega)
      · rw [upd_same, bl_snoc]
      · exact Same.free2 (s2.trans s3) hD
    rcases hS with hS | hS
    · refine ⟨_, pss_one (ps_ret (pe_and (pe_has GM hr1 (pa_cons (pv 0) pa_nil))
        (pe_one (pe_callB (cr_all rfl) (by rfl) B.all (by decide +kernel) (pa_cons
          (pe_lc (own := [("step", 1)]) (g := gName 1) (tt := tYes) (te := tCall (spIsStep K) [] E0 (tCons (tVar 1) tNil)) rfl scSq.nd (pi_list (pv 0)) (blkOk_by (own := [("step", 1)]) (N := ["value", "step"]) (sc := defScope sIsSeq) (by decide +kernel))
            (fun _ _ _ _ _ => pg_name (i := 1) scSq.nd rfl (.inl rfl)) (fun _ _ _ _ _ => pts_nil) (fun _ _ _ _ _ => pe_has GS hr (pa_cons (pv 1) pa_nil))) pa_nil))))), ?_⟩
      refine ⟨_, rfl, a, ys, rfl, .inl hS, hl, fun H1 s1 => ⟨true, rfl, iteT ?_⟩⟩
      refine ⟨_, rfl, a, rfl, ⟨_, Same.seq s1 hS⟩, fun D hD => lc_list (K := K) (a := a) (xs := ys) (fun j H2 => H2 D = some (.lst ((List.replicate j true).map V.bl)) ∧ Same H1 H2) ⟨upd_same, Same.new hD⟩ (fun _ _ _ q => Same.seq (s1.trans q.2) hS) ?_ ?_⟩
      · rintro j x H2 hj hq
        exact ⟨rfl, yes_in ⟨_, rfl, go (G := fun _ => True) s1 hD hj hq⟩⟩
      · rintro H2 ⟨h2, s2⟩
        refine ⟨D, _, rfl, .of h2, ?_⟩
        rw [all_true]
        exact k H2 (s1.trans s2)
    · refine ⟨_, pss_one (ps_ret (pe_and (pe_has GM hr1 (pa_cons (pv 0) pa_nil))
        (pe_one (pe_callB (cr_all rfl) (by rfl) B.all (by decide +kernel) (pa_cons
          (pe_lc (own := [("step", 1)]) (g := gName 1) (tt := tYes) (te := tCall (spIsStep K) [] E0 (tCons (tVar 1) tNil)) rfl scSq.nd (pi_tup (pv 0)) (blkOk_by (own := [("step", 1)]) (N := ["value", "step"]) (sc := defScope sIsSeq) (by decide +kernel))
            (fun _ _ _ _ _ => pg_name (i := 1) scSq.nd rfl (.inl rfl)) (fun _ _ _ _ _ => pts_nil) (fun _ _ _ _ _ => pe_has GS hr (pa_cons (pv 1) pa_nil))) pa_nil))))), ?_⟩
      refine ⟨_, rfl, a, ys, rfl, .inr hS, hl, fun H1 s1 => ⟨true, rfl, iteT ?_⟩⟩
      refine ⟨_, rfl, a, rfl, ⟨_, Same.tup s1 hS⟩, fun D hD => lc_tup (K := K) (a := a) (xs := ys) (fun j H2 => H2 D = some (.lst ((List.replicate j true).map V.bl)) ∧ Same H1 H2) ⟨upd_same, Same.new hD⟩ (fun _ _ _ q => Same.tup (s1.trans q.2) hS) ?_ ?_⟩
      · rintro j x H2 hj hq
        exact ⟨rfl, yes_in ⟨_, rfl, go (G := fun _ => True) s1 hD hj hq⟩⟩
      · rintro H2 ⟨h2, s2⟩
        refine ⟨D, _, rfl, .of h2, ?_⟩
        rw [all_true]
        exact k H2 (s1.trans s2)
/-! ### words -/
def spWordIn (K : PySem.W.Frag) : Sp := fun xs H Q _ => ∃ zs : List Str, xs = [.str (wordT zs)] ∧ (∀ z ∈ zs, Item z) ∧ zs.length ≤ 1000 ∧ ∀ (a : Addr) (H' : Hp), Same H H' → SqT K H' a (zs.map V.str) → Q (.ref a) H'
theorem scWi : FnScope ["text", "word"] ["text"] (defScope sWordIn) := ⟨rfl, rfl, rfl, by decide +kernel, rfl, by decide +kernel, by decide +kernel⟩
theorem has_wordIn (D : Def K mg "word_in" sWordIn) (G : Has P w K mg base "is_word" 2 ["value"] [] (spIsWord K)) (B : Blt mg) (TC : TCons K w mg) : Has P w K mg base "word_in" 3 ["text"] [] (spWordIn K) := by
  obtain ⟨tw, hW⟩ := TC.ew
  refine has_of D scWi (fun _ _ _ _ _ _ us hl => match us, hl with | [_], _ => rfl) (fun xs H Q E h => ?_) (fun f cv A out s H xs Q E hr h => ?_)
  · obtain ⟨zs, rfl, _⟩ := h
    rfl
  · obtain ⟨zs, rfl, hI, hl, k⟩ := h
    refine ⟨_, pss_cons (ps_if (pt_cmpR op_eq (pv 0) (pe_glob (v := .str sDash) rfl hW ⟨_, rfl⟩) (nomark _)) (pss_one (ps_ret (pe_tup pa_nil))) pss_nil)
      (pss_cons (ps_set (i := 1) scWi.nd rfl (.inl rfl) (pe_callTy call_tuple_of (by rfl) B.tup (by decide +kernel) (pa_cons (pe_split (pv 0) pe_str) pa_nil)))
      (pss_one (ps_ret (pe_ifExp (pt_val (pe_has G hr (pa_cons (pv 1) pa_nil))) (pv 1) pe_non)))), ?_⟩
    refine ⟨_, rfl, rfl, _, rfl, ?_⟩
    show if decide (V.str (wordT zs) = V.str sDash) = true then _ else _
    by_cases c : zs = []
    · subst c
      rw [decide_eq_true (by rfl)]
      exact iteT ⟨(by show 0 ≤ sizeLine; decide), fun a ha => k a _ (Same.new ha) (.of upd_same)⟩
    · rw [decide_eq_false (fun e => c ((wordT_dash hI).mp (V.str.inj e)))]
      have wl := wordT_len hI
      refine iteF ⟨_, rfl, ⟨_, rfl⟩, wordT zs, sDot, rfl, rfl, (by decide +kernel), by rw [sizeLine_eq]; omega, fun p hp => ?_⟩
      rw [split_word hI c]
      refine ⟨p, _, rfl, .inl ⟨.of upd_same, fun a ha => ?_⟩⟩
      have s1 : Same H (upd (upd H p (.lst (zs.map V.str))) a (.tup (zs.map V.str))) := Same.trans (Same.new hp) (Same.new ha)
      have h1 : upd (upd H p (.lst (zs.map V.str))) a (.tup (zs.map V.str)) a = some (.tup (zs.map V.str)) := upd_same
      generalize upd (upd H p (.lst (zs.map V.str))) a (.tup (zs.map V.str)) = H1 at s1 h1
      refine ⟨_, rfl, a, zs, rfl, .of h1, by omega, hI, fun H2 s2 => ⟨true, rfl, iteT ⟨_, rfl, k a H2 (s1.trans s2) (.of (s2 _ _ h1))⟩⟩⟩
def spFmtW (K : PySem.W.Frag) : Sp := fun xs H Q _ => ∃ (a : Addr) (zs : List Str), xs = [.ref a] ∧ SqT K H a (zs.map V.str) ∧ (∀ z ∈ zs, Item z) ∧ zs.length ≤ 1000 ∧ ∀ (H' : Hp), Same H H' → Q (.str (wordT zs)) H'
theorem scFw : FnScope ["word"] ["word"] (defScope sFormatWord) := ⟨rfl, rfl, rfl, by decide +kernel, rfl, by decide +kernel, by decide +kernel⟩
theorem join_fits {zs : List Str} {y : Str} {B n : Nat} (h : ∀ z ∈ zs, z.length ≤ B) (hl : zs.length ≤ n) (hy : y.length ≤ 1) (hn : n * (B + 1) ≤ 1000000) : (zs.map (·.length)).sum + zs.length * y.length ≤ 16777216 := by
  have a := sum_lens h
  have b : zs.length * B ≤ n * B := Nat.mul_le_mul_right _ hl
  have c : zs.length * y.length ≤ n * 1 := Nat.mul_le_mul hl hy
  rw [Nat.mul_add] at hn
  omega
theorem has_fmtW (D : Def K mg "format_word" sFormatWord) (G : Has P w K mg base "is_word" 2 ["value"] [] (spIsWord K)) (TC : TCons K w mg) : Has P w K mg base "format_word" 3 ["word"] [] (spFmtW K) := by
  obtain ⟨tw, hW⟩ := TC.ew
  refine has_of D scFw (fun _ _ _ _ _ _ us hl => match us, hl with | [_], _ => rfl) (fun xs H Q E h => ?_) (fun f cv A out s H xs Q E hr h => ?_)
  · obtain ⟨a, zs, rfl, _⟩ := h
    rfl
  · obtain ⟨a, zs, rfl, hT, hI, hl, k⟩ := h
    refine ⟨_, pss_cons (ps_if (pt_not (pt_val (pe_has G hr (pa_cons (pv 0) pa_nil)))) pss_never pss_nil)
      (pss_one (ps_ret (pe_ifExp (pt_truth (pv 0) (by intro _; rfl)) (pe_join pe_str (pv 0)) (pe_glob (v := .str sDash) rfl hW ⟨_, rfl⟩)))), ?_⟩
    refine ⟨_, rfl, a, zs, rfl, hT, by omega, hI, fun H1 s1 => ⟨true, rfl, iteF ?_⟩⟩
    refine ⟨_, rfl, _, .inr (.inl ⟨_, Same.tup s1 hT, rfl⟩), ?_⟩
    cases zs with
    | nil => exact iteF (k H1 s1)
    | cons z r =>
      refine iteT ⟨⟨_, rfl⟩, _, rfl, sDot, a, z :: r, rfl, rfl, .inr (Same.tup s1 hT), join_fits (fun t m => (hI t m).most) hl (by decide +kernel) (by decide), ?_⟩
      have e : Txt.join sDot (z :: r) = wordT (z :: r) := by unfold wordT; rw [if_neg (by simp)]
      rw [e]
      exact k H1 s1
def spParW (K : PySem.W.Frag) : Sp := spWordIn K
theorem scPw' : FnScope ["text", "word"] ["text"] (defScope sParseWord) := ⟨rfl, rfl, rfl, by decide +kernel, rfl, by decide +kernel, by decide +kernel⟩
theorem has_parW (D : Def K mg "parse_word" sParseWord) (G : Has P w K mg base "word_in" 3 ["text"] [] (spWordIn K)) (B : Blt mg) : Has P w K mg base "parse_word" 4 ["text"] [] (spParW K) := by
  refine has_of D scPw' (fun _ _ _ _ _ _ us hl => match us, hl with | [_], _ => rfl) (fun xs H Q E h => ?_) (fun f cv A out s H xs Q E hr h => ?_)
  · obtain ⟨zs, rfl, _⟩ := h
    rfl
  · obtain ⟨zs, rfl, hI, hl, k⟩ := h
    refine ⟨_, pss_cons (ps_set (i := 1) scPw'.nd rfl (.inl rfl) (pe_ifExp (pt_val (pe_callB call_isi (by rfl) B.isi (by decide +kernel) (pa_cons (pv 0) (pa_cons (pe_bltn (v := .ty "str") (by rfl) B.str (by decide +kernel) rfl) pa_nil)))) (pe_has G hr (pa_cons (pv 0) pa_nil)) pe_non))
      (pss_cons (ps_if (pt_cmpR op_isN (pv 1) pe_non (nomark _)) pss_never pss_nil)
      (pss_one (ps_ret (pv 1)))), ?_⟩
    refine ⟨_, rfl, _, .ty "str", .type "str", .type "str", true, rfl, .ty _, .base (.str _), kit_ty (by decide +kernel), true, rfl, iteT ?_⟩
    refine ⟨_, rfl, zs, rfl, hI, hl, fun a H1 s1 h1 => ?_⟩
    exact ⟨_, rfl, rfl, false, rfl, iteF ⟨_, rfl, k a H1 s1 h1⟩⟩
end
end SE
namespace SE
open PySem PySem.Spec PyProof.Rows L2 TL
section
variable {P : Program} {w : World} {K : PySem.W.Frag} {mg : Str → Option Value} {base : Heap}
theorem sign_of {d : Addr} {es : Array DictEntry} {n : Nat} {u v : Value} (D : KDict K w d es n) (h1 : PySem.W.nsIn K d "push" = some (some u)) (h2 : RelV (.str sPlus) u) (h3 : PySem.W.nsIn K d "pop" = some (some v)) (h4 : RelV (.str sDash) v) (b : Bool) : KDct K w d (act b) (.str (if b = true then sPlus else sDash)) := by
  cases b with
  | true => exact ⟨es, n, u, D.at_, D.lit, h1, h2⟩
  | false => exact ⟨es, n, v, D.at_, D.lit, h3, h4⟩
/-! ### format_steps -/
def spFmtS (K : PySem.W.Frag) : Sp := fun xs H Q _ => ∃ (a : Addr) (ys : List V) (ss : List Stp), xs = [.ref a] ∧ (SqL K H a ys ∨ SqT K H a ys) ∧ StepsV K H ys ss ∧ (∀ s ∈ ss, Item s.2) ∧ ss.length ≤ 1000 ∧ ∀ (H' : Hp), Same H H' → Q (.str (stepsT ss)) H'
theorem scFs : FnScope ["steps", "action", "item"] ["steps"] (defScope sFormatSteps) := ⟨rfl, rfl, rfl, by decide +kernel, rfl, by decide +kernel, by decide +kernel⟩
theorem has_fmtS (D : Def K mg "format_steps" sFormatSteps) (G : Has P w K mg base "is_sequence" 3 ["value"] [] (spIsSeq K)) (TC : TCons K w mg) : Has P w K mg base "format_steps" 4 ["steps"] [] (spFmtS K) := by
  obtain ⟨te, hE⟩ := TC.es
  obtain ⟨d, des, dn, u1, u2, hSg, KD, n1, r1, n2, r2⟩ := TC.sg
  refine has_of D scFs (fun _ _ _ _ _ _ us hl => match us, hl with | [_], _ => rfl) (fun xs H Q E h => ?_) (fun f cv A out s H xs Q E hr h => ?_)
  · obtain ⟨a, ys, ss, rfl, _⟩ := h
    rfl
  · obtain ⟨a, ys, ss, rfl, hS, hV, hI, hl, k⟩ := h
    have ly : ys.length = ss.length := hV.length
    -- the end
    have fin : ∀ {H1 D : _}, H1 D = some (.lst ((ss.map stepT).map V.str)) → Same H H1 → ss ≠ [] → (fun x xs H Q => ∃ a p, ∃ ys : List Str, x = V.str a ∧ xs = [.ref p] ∧ (SqL K H p (ys.map V.str) ∨ SqT K H p (ys.map V.str)) ∧ (ys.map (·.length)).sum + ys.length * a.length ≤ 16777216 ∧ Q (V.str (Txt.join a ys)) H) (V.str sBlk) [V.ref D] H1 Q := by
      intro H1 D hD s1 hn
      refine ⟨sBlk, D, ss.map stepT, rfl, rfl, .inl (.of hD), join_fits (B := 9) (n := 1000) (fun t m => ?_) (by rw [List.length_map]; exact hl) (by decide +kernel) (by decide), ?_⟩
      · obtain ⟨s, ms, rfl⟩ := List.mem_map.mp m
        exact stepT_len (hI s ms)
      · have e : Txt.join sBlk (ss.map stepT) = stepsT ss := by unfold stepsT; rw [if_neg hn]
        rw [e]
        exact k H1 s1
    -- one step
    have go : ∀ {H1 : Hp} {D : Addr} {j : Nat} {x : V} {H2 : Hp}, Same H H1 → H1 D = none → ys[j]? = some x → (H2 D = some (.lst (((ss.take j).map stepT).map V.str)) ∧ Same H1 H2) → ∃ (t : Addr) (s : Stp), x = .ref t ∧ SqT K H2 t [.str (act s.1), .str s.2] ∧ (act s.1).length + s.2.length ≤ sizeLine ∧ KDct K w d (act s.1) (.str (if s.1 = true then sPlus else sDash)) ∧
        (if s.1 = true then sPlus else sDash).length + s.2.length ≤ sizeLine ∧ ∃ acc, H2 D = some (.lst acc) ∧ acc.length < sizeLine ∧ ((upd H2 D (.lst (acc ++ [.str ((if s.1 = true then sPlus else sDash) ++ s.2)]))) D = some (.lst (((ss.take (j + 1)).map stepT).map V.str)) ∧ Same H1 (upd H2 D (.lst (acc ++ [.str ((if s.1 = true then sPlus else sDash) ++ s.2)])))) := by
      intro H1 D j x H2 s1 hD hj ⟨h2, s2⟩
      obtain ⟨st, h3, t, e, h4⟩ := StepsV.at hV hj
      have jl : j < ys.length := (List.getElem?_eq_some_iff.mp hj).1
      have im := (hI st (List.mem_of_getElem? h3)).most
      have la : (act st.1).length ≤ 4 := by cases st.1 <;> decide +kernel
      have lb : (if st.1 = true then sPlus else sDash).length ≤ 1 := by cases st.1 <;> decide +kernel
      refine ⟨t, st, e, Same.tup (s1.trans s2) h4, by rw [sizeLine_eq]; omega, sign_of KD n1 r1 n2 r2 st.1, by rw [sizeLine_eq]; omega, _, h2, ?_, ?_, Same.free2 s2 hD⟩
      · rw [List.length_map, List.length_map, List.length_take, sizeLine_eq]
        omega
      · rw [upd_same, List.take_add_one, h3, List.map_append, List.map_append]
        rfl
    have tru : ∀ {H1 : Hp}, Same H H1 → TruV K (.ref a) H1 (!ys.isEmpty) := fun s1 => hS.elim (fun q => .inl ⟨_, Same.seq s1 q, rfl⟩) fun q => .inr (.inl ⟨_, Same.tup s1 q, rfl⟩)
    have nil : ys = [] ↔ ss = [] := by
      rw [← List.length_eq_zero_iff, ← List.length_eq_zero_iff, ly]
    have last : ∀ {H1 : Hp}, Same H H1 → ss = [] → Q (.str sDot) H1 := fun s1 e => by
      have := k _ s1
      rw [stepsT_dot.mpr e] at this
      exact this
    rcases hS with hS | hS
    · refine ⟨_, pss_cons (ps_if (pt_not (pt_val (pe_has G hr (pa_cons (pv 0) pa_nil)))) pss_never pss_nil)
        (pss_one (ps_ret (pe_ifExp (pt_truth (pv 0) (by intro _; rfl)) (pe_join pe_str
          (pe_lc (own := [("action", 1), ("item", 2)]) (g := gTup K 2 (gCons (gName 1) (gCons (gName 2) gNil))) (tt := tYes) (te := tOp rAddT (tOp (rIxD K w) (tC (.ref d)) (tVar 1)) (tVar 2)) rfl scFs.nd (pi_list (pv 0)) (blkOk_by (own := [("action", 1), ("item", 2)]) (N := ["steps", "action", "item"]) (sc := defScope sFormatSteps) (by decide +kernel))
            (fun _ _ _ _ _ => pg_tup (by rfl) (pgs_cons (pg_name (i := 1) scFs.nd rfl (.inl rfl)) (pgs_cons (pg_name (i := 2) scFs.nd rfl (.inl rfl)) pgs_nil))) (fun _ _ _ _ _ => pts_nil) (fun _ _ _ _ _ => pe_op op_addT (pe_ix ix_kdict (pe_glob (v := .ref d) rfl hSg rfl) (pv 1) (fun _ _ => rfl)) (pv 2)))) (pe_glob (v := .str sDot) rfl hE ⟨_, rfl⟩)))), ?_⟩
      refine ⟨_, rfl, a, ys, ss, rfl, .inl hS, by omega, hV, hI, fun H1 s1 => ⟨true, rfl, iteF ⟨_, rfl, _, tru s1, ?_⟩⟩⟩
      by_cases c : ys = []
      · rw [c]
        exact iteF (last s1 (nil.mp c))
      · rw [show (!ys.isEmpty) = true by simpa using c]
        refine iteT ⟨⟨_, rfl⟩, _, rfl, a, rfl, ⟨_, Same.seq s1 hS⟩, fun D hD => lc_list (K := K) (a := a) (xs := ys) (fun j H2 => H2 D = some (.lst (((ss.take j).map stepT).map V.str)) ∧ Same H1 H2) ⟨upd_same, Same.new hD⟩ (fun _ _ _ q => Same.seq (s1.trans q.2) hS) ?_ ?_⟩
        · rintro j x H2 hj hq
          obtain ⟨t, st, rfl, h1, h2, h3, h4, h5⟩ := go s1 hD hj hq
          exact ⟨t, _, rfl, h1, rfl, _, _, rfl, _, _, rfl, rfl, rfl, yes_in ⟨_, rfl, d, _, _, rfl, rfl, h3, _, rfl, _, _, rfl, rfl, h4, h5⟩⟩
        · rintro H2 ⟨h2, s2⟩
          rw [ly, List.take_length] at h2
          exact fin h2 (s1.trans s2) (fun e => c (nil.mpr e))
    · refine ⟨_, pss_cons (ps_if (pt_not (pt_val (pe_has G hr (pa_cons (pv 0) pa_nil)))) pss_never pss_nil)
        (pss_one (ps_ret (pe_ifExp (pt_truth (pv 0) (by intro _; rfl)) (pe_join pe_str
          (pe_lc (own := [("action", 1), ("item", 2)]) (g := gTup K 2 (gCons (gName 1) (gCons (gName 2) gNil))) (tt := tYes) (te := tOp rAddT (tOp (rIxD K w) (tC (.ref d)) (tVar 1)) (tVar 2)) rfl scFs.nd (pi_tup (pv 0)) (blkOk_by (own := [("action", 1), ("item", 2)]) (N := ["steps", "action", "item"]) (sc := defScope sFormatSteps) (by decide +kernel))
            (fun _ _ _ _ _ => pg_tup (by rfl) (pgs_cons (pg_name (i := 1) scFs.nd rfl (.inl rfl)) (pgs_cons (pg_name (i := 2) scFs.nd rfl (.inl rfl)) pgs_nil))) (fun _ _ _ _ _ => pts_nil) (fun _ _ _ _ _ => pe_op op_addT (pe_ix ix_kdict (pe_glob (v := .ref d) rfl hSg rfl) (pv 1) (fun _ _ => rfl)) (pv 2)))) (pe_glob (v := .str sDot) rfl hE ⟨_, rfl⟩)))), ?_⟩
      refine ⟨_, rfl, a, ys, ss, rfl, .inr hS, by omega, hV, hI, fun H1 s1 => ⟨true, rfl, iteF ⟨_, rfl, _, tru s1, ?_⟩⟩⟩
      by_cases c : ys = []
      · rw [c]
        exact iteF (last s1 (nil.mp c))
      · rw [show (!ys.isEmpty) = true by simpa using c]
        refine iteT ⟨⟨_, rfl⟩, _, rfl, a, rfl, ⟨_, Same.tup s1 hS⟩, fun D hD => lc_tup (K := K) (a := a) (xs := ys) (fun j H2 => H2 D = some (.lst (((ss.take j).map stepT).map V.str)) ∧ Same H1 H2) ⟨upd_same, Same.new hD⟩ (fun _ _ _ q => Same.tup (s1.trans q.2) hS) ?_ ?_⟩
        · rintro j x H2 hj hq
          obtain ⟨t, st, rfl, h1, h2, h3, h4, h5⟩ := go s1 hD hj hq
          exact ⟨t, _, rfl, h1, rfl, _, _, rfl, _, _, rfl, rfl, rfl, yes_in ⟨_, rfl, d, _, _, rfl, rfl, h3, _, rfl, _, _, rfl, rfl, h4, h5⟩⟩
        · rintro H2 ⟨h2, s2⟩
          rw [ly, List.take_length] at h2
          exact fin h2 (s1.trans s2) (fun e => c (nil.mpr e))
/-! ### steps_in, parse_steps -/
def spStepsIn (K : PySem.W.Frag) : Sp := fun xs H Q _ => ∃ ss : List Stp, xs = [.str (stepsT ss)] ∧ (∀ s ∈ ss, Item s.2) ∧ ss.length ≤ 1000 ∧ ∀ (a : Addr) (us : List V) (H' : Hp), Same H H' → H a = none → H' a = some (.lst us) → StepsH H' us ss → Q (.ref a) H'
theorem scSi : FnScope ["text", "steps", "part"] ["text"] (defScope sStepsIn) := ⟨rfl, rfl, rfl, by decide +kernel, rfl, by decide +kernel, by decide +kernel⟩
theorem act_of {d : Addr} {u v : Value} (h1 : PySem.W.nsIn K d "+" = some (some u)) (h2 : RelV (.str "push") u) (h3 : PySem.W.nsIn K d "-" = some (some v)) (h4 : RelV (.str "pop") v) (b : Bool) : ∃ r : Option Value, PySem.W.nsIn K d (if b = true then sPlus else sDash) = some r ∧ RelV (.str (act b)) (r.getD .none) := by
  cases b with
  | true => exact ⟨_, h1, h2⟩
  | false => exact ⟨_, h3, h4⟩
theorem has_stepsIn (D : Def K mg "steps_in" sStepsIn) (G : Has P w K mg base "is_sequence" 3 ["value"] [] (spIsSeq K)) (TC : TCons K w mg) : Has P w K mg base "steps_in" 4 ["text"] [] (spStepsIn K) := by
  obtain ⟨te, hE⟩ := TC.es
  obtain ⟨d, des, dn, u1, u2, hAc, KD, n1, r1, n2, r2⟩ := TC.ac
  refine has_of D scSi (fun _ _ _ _ _ _ us hl => match us, hl with | [_], _ => rfl) (fun xs H Q E h => ?_) (fun f cv A out s H xs Q E hr h => ?_)
  · obtain ⟨ss, rfl, _⟩ := h
    rfl
  · obtain ⟨ss, rfl, hI, hl, k⟩ := h
    refine ⟨_, pss_cons (ps_if (pt_cmpR op_eq (pv 0) (pe_glob (v := .str sDot) rfl hE ⟨_, rfl⟩) (nomark _)) (pss_one (ps_ret (pe_lst pa_nil))) pss_nil)
      (pss_cons (ps_setLc (i := 1) (own := [("part", 2)]) (g := gName 2) (tt := tYes) (te := tTup (tCons (tKGet K w (tC (.ref d)) (tSl L2.rSlS (tVar 2) tNoPart (tPart (tC (.int 1))))) (tCons (tSl L2.rSlS (tVar 2) (tPart (tC (.int 1))) tNoPart) tNil))) rfl scSi.nd rfl rfl (sw_true rfl rfl rfl (by decide +kernel)) (pi_list (pe_split (pv 0) pe_str)) (blkOk_by (own := [("part", 2)]) (N := ["text", "steps", "part"]) (sc := defScope sStepsIn) (by decide +kernel))
        (fun _ _ _ _ _ => pg_name (i := 2) scSi.nd rfl (.inl rfl)) (fun _ _ _ _ _ => pts_nil) (fun _ _ _ _ _ => pe_tup (pa_cons (pe_kget (pe_glob (v := .ref d) rfl hAc rfl) (pe_slice sl_str (pv 2) po_none (po_some pe_int)) ⟨rfl, rfl, rfl, rfl⟩) (pa_cons (pe_slice sl_str (pv 2) (po_some pe_int) po_none) pa_nil))))
      (pss_one (ps_ret (pe_ifExp (pt_val (pe_has G hr (pa_cons (pv 1) pa_nil))) (pv 1) pe_non)))), ?_⟩
    refine ⟨_, rfl, rfl, _, rfl, ?_⟩
    show if decide (V.str (stepsT ss) = V.str sDot) = true then _ else _
    by_cases c : ss = []
    · rw [decide_eq_true (by rw [stepsT_dot.mpr c])]
      subst c
      exact iteT ⟨(by show 0 ≤ sizeLine; decide), fun a ha => k a [] _ (Same.new ha) ha upd_same .nil⟩
    · rw [decide_eq_false (fun e => c (stepsT_dot.mp (V.str.inj e)))]
      have wl := stepsT_len hI
      refine iteF ⟨_, rfl, ⟨_, rfl⟩, stepsT ss, sBlk, rfl, rfl, (by decide +kernel), by rw [sizeLine_eq]; omega, fun p hp => ?_⟩
      rw [split_steps hI c]
      refine ⟨p, rfl, ⟨_, .of upd_same⟩, fun D hD => ?_⟩
      have s1 : Same H (upd H p (.lst ((ss.map stepT).map V.str))) := Same.new hp
      have h1 : upd H p (.lst ((ss.map stepT).map V.str)) p = some (.lst ((ss.map stepT).map V.str)) := upd_same
      generalize upd H p (.lst ((ss.map stepT).map V.str)) = H1 at s1 h1 hD
      refine lc_list (K := K) (a := p) (xs := (ss.map stepT).map V.str) (fun j H2 => ∃ us, H2 D = some (.lst us) ∧ StepsH H2 us (ss.take j) ∧ Same H1 H2) ⟨[], upd_same, .nil, Same.new hD⟩ (fun j H2 _ q => ?_) ?_ ?_
      · obtain ⟨_, _, _, s2⟩ := q
        exact .of (s2 _ _ h1)
      · rintro j x H2 hj ⟨us, h2, hs, s2⟩
        rw [List.getElem?_map, List.getElem?_map] at hj
        obtain ⟨st, h3, rfl⟩ : ∃ st, ss[j]? = some st ∧ x = V.str (stepT st) := by
          cases e : ss[j]? with
          | none => rw [e] at hj; cases hj
          | some st => rw [e] at hj; cases hj; exact ⟨st, rfl, rfl⟩
        have im := hI st (List.mem_of_getElem? h3)
        have sl := stepT_len im
        obtain ⟨r, hn, hrv⟩ := act_of n1 r1 n2 r2 st.1
        refine ⟨rfl, yes_in ⟨d, des, dn, rfl, KD, _, rfl, 1, rfl, stepT st, rfl, by rw [sizeLine_eq]; omega, _, r, _, rfl, ?_, hrv, _, rfl, 1, rfl, stepT st, rfl, by rw [sizeLine_eq]; omega, (by show 2 ≤ sizeLine; decide), fun t ht => ?_⟩⟩
        · rw [stepT_cut0]
          exact hn
        · rw [stepT_cut1]
          have st1 : Same H2 (upd H2 t (.tup [.str (act st.1), .str st.2])) := Same.new ht
          have ll := Paired.length hs
          rw [List.length_take] at ll
          refine ⟨us, st1 _ _ h2, ?_, us ++ [.ref t], upd_same, ?_, Same.free2 (s2.trans st1) hD⟩
          · rw [sizeLine_eq]
            omega
          · rw [List.take_add_one, h3]
            have tD : t ≠ D := Ne.symm (ne_of_none h2 ht)
            refine Paired.snoc2 (Paired.mapP hs fun v q z => ?_) ⟨t, rfl, by rw [upd_ne tD]; exact upd_same⟩
            obtain ⟨t', e', z⟩ := z
            have nt : t' ≠ D := fun q => by rw [q, h2] at z; cases z
            exact ⟨t', e', by rw [upd_ne nt]; exact st1 _ _ z⟩
      · rintro H2 ⟨us, h2, hs, s2⟩
        rw [List.length_map, List.length_map, List.take_length] at hs
        have lu : us.length = ss.length := Paired.length hs
        refine ⟨_, rfl, D, us, ss, rfl, .inl (.of h2), by omega, hs.v, hI, fun H3 s3 => ⟨true, rfl, iteT ⟨_, rfl, k D us H3 ((s1.trans s2).trans s3) (s1.free hD) (s3 _ _ h2) (Paired.mapP hs fun _ _ q => ?_)⟩⟩⟩
        obtain ⟨t, e, z⟩ := q
        exact ⟨t, e, s3 _ _ z⟩
theorem scPs' : FnScope ["text", "steps"] ["text"] (defScope sParseSteps) := ⟨rfl, rfl, rfl, by decide +kernel, rfl, by decide +kernel, by decide +kernel⟩
theorem has_parS (D : Def K mg "parse_steps" sParseSteps) (G : Has P w K mg base "steps_in" 4 ["text"] [] (spStepsIn K)) (B : Blt mg) : Has P w K mg base "parse_steps" 5 ["text"] [] (spStepsIn K) := by
  refine has_of D scPs' (fun _ _ _ _ _ _ us hl => match us, hl with | [_], _ => rfl) (fun xs H Q E h => ?_) (fun f cv A out s H xs Q E hr h => ?_)
  · obtain ⟨zs, rfl, _⟩ := h
    rfl
  · obtain ⟨ss, rfl, hI, hl, k⟩ := h
    refine ⟨_, pss_cons (ps_set (i := 1) scPs'.nd rfl (.inl rfl) (pe_ifExp (pt_val (pe_callB call_isi (by rfl) B.isi (by decide +kernel) (pa_cons (pv 0) (pa_cons (pe_bltn (v := .ty "str") (by rfl) B.str (by decide +kernel) rfl) pa_nil)))) (pe_has G hr (pa_cons (pv 0) pa_nil)) pe_non))
      (pss_cons (ps_if (pt_cmpR op_isN (pv 1) pe_non (nomark _)) pss_never pss_nil)
      (pss_one (ps_ret (pv 1)))), ?_⟩
    refine ⟨_, rfl, _, .ty "str", .type "str", .type "str", true, rfl, .ty _, .base (.str _), kit_ty (by decide +kernel), true, rfl, iteT ?_⟩
    refine ⟨_, rfl, ss, rfl, hI, hl, fun a us H1 s1 n1 h1 hs => ?_⟩
    exact ⟨_, rfl, rfl, false, rfl, iteF ⟨_, rfl, k a us H1 s1 n1 h1 hs⟩⟩
end
end SE
namespace SE
open PySem PySem.Spec PyProof.Rows L2 TL
/-! ### numbers below 100 -/
def digV (L : List Nat) : Int := L.foldl (fun (n : Int) (c : Nat) => 10 * n + ((c : Int) - 48)) 0
structure NumOk (p : Int) : Prop where
  all : ∀ c ∈ TL.tl (toString p : Str), 48 ≤ c ∧ c ≤ 57
  ne : (toString p : Str) ≠ ""
  hd : ∃ c, (TL.tl (toString p : Str))[0]? = some c ∧ (c = 48 → (toString p : Str) = "0")
  val : digV (TL.tl (toString p : Str)) = p
  len : (toString p : Str).length ≤ 2
theorem numOk {p : Int} (h0 : 0 ≤ p) (h1 : p < 100) : NumOk p := by
  obtain ⟨n, rfl⟩ := Int.eq_ofNat_of_zero_le h0
  have hn : n < 100 := by omega
  have el : TL.tl (toString ((n : Nat) : Int) : Str) = numL n := tl_num n
  have two : numL n = [48 + n] ∧ n < 10 ∨ numL n = [48 + n / 10, 48 + n % 10] ∧ 10 ≤ n := by
    by_cases c : n < 10
    · exact .inl ⟨numL_lt c, c⟩
    · refine .inr ⟨?_, by omega⟩
      rw [numL_step (by omega), numL_lt (n := n / 10) (by omega)]
      rfl
  have ll : (toString ((n : Nat) : Int) : Str).length = (numL n).length := by rw [len_tl, el]
  refine ⟨fun c m => ?_, fun e => ?_, ?_, ?_, ?_⟩
  · rw [el] at m
    exact numL_digits n c m
  · have := congrArg TL.tl e
    rw [el] at this
    exact numL_ne n (this.trans (by decide +kernel))
  · rw [el]
    rcases two with ⟨e, c⟩ | ⟨e, c⟩
    · rw [e]
      refine ⟨_, rfl, fun q => ext_tl ?_⟩
      rw [el, e]
      have : n = 0 := by omega
      subst this
      decide +kernel
    · rw [e]
      refine ⟨_, rfl, fun q => ?_⟩
      omega
  · rw [el]
    rcases two with ⟨e, c⟩ | ⟨e, c⟩
    · rw [e]
      show 10 * (0 : Int) + (((48 + n : Nat) : Int) - 48) = _
      omega
    · rw [e]
      show 10 * (10 * (0 : Int) + (((48 + n / 10 : Nat) : Int) - 48)) + (((48 + n % 10 : Nat) : Int) - 48) = _
      omega
  · rw [ll]
    rcases two with ⟨e, c⟩ | ⟨e, c⟩ <;> rw [e] <;> simp
theorem digV_snoc (L : List Nat) (c : Nat) : digV (L ++ [c]) = 10 * digV L + ((c : Int) - 48) := by
  unfold digV
  rw [List.foldl_append]
  rfl
abbrev sDigits : Str := Str.ofString "0123456789"
theorem dig_in {c : Nat} (h : 48 ≤ c ∧ c ≤ 57) : c ∈ sDigits.cps.toList := by
  have q : ∀ j : Fin 10, (48 + j.1) ∈ sDigits.cps.toList := by decide +kernel
  have z := q ⟨c - 48, by omega⟩
  have e : 48 + (c - 48) = c := by omega
  rw [← e]
  exact z
theorem dig_at {c : Nat} (h : 48 ≤ c ∧ c ≤ 57) : Builtin.Str.occurrences sDigits ⟨#[c]⟩ 0 sDigits.length 1 = [c - 48] := by
  have q : ∀ j : Fin 10, Builtin.Str.occurrences sDigits ⟨#[48 + j.1]⟩ 0 sDigits.length 1 = [j.1] := by decide +kernel
  have z := q ⟨c - 48, by omega⟩
  have e : 48 + (c - 48) = c := by omega
  rw [e] at z
  exact z
section
variable {P : Program} {w : World} {K : PySem.W.Frag} {mg : Str → Option Value} {base : Heap} {C : Addr}
/-! ### number_in -/
def spNumIn : Sp := fun xs H Q _ => ∃ p : Int, xs = [.str (toString p)] ∧ 0 ≤ p ∧ p < 100 ∧ ∀ (H' : Hp), Same H H' → Q (.int p) H'
theorem scNi : FnScope ["text", "digit", "number"] ["text"] (defScope sNumberIn) := ⟨rfl, rfl, rfl, by decide +kernel, rfl, by decide +kernel, by decide +kernel⟩
theorem has_numIn (D : Def K mg "number_in" sNumberIn) (B : Blt mg) (TC : TCons K w mg) : Has P w K mg base "number_in" 1 ["text"] [] spNumIn := by
  obtain ⟨td, hD⟩ := TC.dig
  refine has_of D scNi (fun _ _ _ _ _ _ us hl => match us, hl with | [_], _ => rfl) (fun xs H Q E h => ?_) (fun f cv A out s H xs Q E hr h => ?_)
  · obtain ⟨p, rfl, _⟩ := h
    rfl
  · obtain ⟨p, rfl, h0, h1, k⟩ := h
    obtain ⟨n1, n2, n3, n4, n5⟩ := numOk h0 h1
    generalize (toString p : Str) = z at n1 n2 n3 n4 n5 ⊢
    refine ⟨_, pss_cons (ps_if (pt_cut (PW.pt (pw_or (pt_cmpR op_eq (pv 0) pe_str (nomark _)) (pw_or (pt_not (pt_val (pe_callB (cr_all rfl) (by rfl) B.all (by decide +kernel) (pa_cons
        (pe_lc (own := [("digit", 1)]) (g := gName 1) (tt := tYes) rfl scNi.nd (pi_str (pv 0)) (blkOk_by (own := [("digit", 1)]) (N := ["text", "digit", "number"]) (sc := defScope sNumberIn) (by decide +kernel))
          (fun _ _ _ _ _ => pg_name (i := 1) scNi.nd rfl (.inl rfl)) (fun _ _ _ _ _ => pts_nil) (fun _ _ _ _ _ => pe_cmpR op_in_sign (pv 1) (pe_glob (v := .str sDigits) rfl hD ⟨_, rfl⟩) (by rfl))) pa_nil))))
        (pw_or1 (PW.pt (pw_and (pt_cmpR op_eq (pe_ix ix_str (pv 0) pe_int (fun _ _ => rfl)) pe_str (nomark _)) (pw_and1 (pt_cmpR op_ne (pv 0) pe_str (nomark _))))))))))
        (pss_one (ps_ret pe_non)) pss_nil)
      (pss_cons (ps_set (i := 2) scNi.nd rfl (.inl rfl) pe_int)
      (pss_cons (ps_for PassesOwn.never rfl (pi_str (pv 0)) (pg_name (i := 1) scNi.nd rfl (.inl rfl))
        (pss_one (ps_set (i := 2) scNi.nd rfl (.inl rfl) (pe_op op_add (pe_op op_mul pe_int (pv 2)) (pe_m1 PySem.F.slot_str_index PySem.F.type_str_index mt_sindex (pe_glob (v := .str sDigits) rfl hD ⟨_, rfl⟩) (pv 1))))))
      (pss_one (ps_ret (pv 2))))), ?_⟩
    refine ⟨fun b H2 => b = false ∧ Same H H2, ?_, ?_⟩
    · refine ⟨_, rfl, rfl, _, rfl, ?_⟩
      rw [decide_eq_false (fun e => n2 (V.str.inj e))]
      refine iteF ⟨_, rfl, z, rfl, fun L hL => lc_it walk_str (fun j H2 => H2 L = some (.lst ((List.replicate j true).map V.bl)) ∧ Same H H2) ⟨upd_same, Same.new hL⟩ (fun _ _ _ _ => trivial) ?_ ?_⟩
      · rintro j x H2 H3 hj ⟨h2, s2⟩ ⟨rfl, c, hc, rfl⟩
        refine ⟨rfl, yes_in ⟨_, rfl, c, sDigits, rfl, rfl, _, h2, ?_, ?_, Same.free2 s2 hL⟩⟩
        · rw [List.length_map, List.length_replicate]
          have : j < z.length := hj
          exact small1000 (by omega)
        · have cm : c ∈ z.cps.toList := by
            have q : z.cps.toList[j]? = some c := by rw [Array.getElem?_toList]; exact hc
            exact List.mem_of_getElem? q
          rw [upd_same, decide_eq_true (dig_in (n1 c cm)), bl_snoc]
      · rintro H2 ⟨h2, s2⟩
        refine ⟨L, _, rfl, .of h2, ?_⟩
        rw [all_true]
        obtain ⟨c0, hc0, hlead⟩ := n3
        refine ⟨true, rfl, iteF ?_⟩
        refine ⟨_, rfl, z, 0, c0, rfl, rfl, Nat.le_of_lt (small1000 (by omega)), atI_nat (j := 0) hc0, rfl, _, rfl, ?_⟩
        by_cases c : (⟨#[c0]⟩ : Str) = "0"
        · have e48 : c0 = 48 := by
            have := congrArg TL.tl c
            have q : TL.tl ("0" : Str) = [48] := by decide +kernel
            rw [q] at this
            injection this
          have ez := hlead e48
          rw [decide_eq_true (by rw [c])]
          refine iteT ⟨_, rfl, rfl, _, rfl, ?_, s2⟩
          rw [decide_eq_true (by rw [ez])]
          rfl
        · rw [decide_eq_false (fun e => c (V.str.inj e))]
          exact iteF ⟨rfl, s2⟩
    rintro b H2 ⟨rfl, s2⟩
    refine iteF ⟨_, rfl, z, rfl, for_it walk_str (fun j σ H3 => ∃ y1, σ = [some (.str z), y1, some (.int (digV ((TL.tl z).take j)))] ∧ Same H H3) ⟨_, rfl, s2⟩ (fun _ _ _ _ _ => trivial) ?_ ?_⟩
    · rintro j x σ H3 H4 hj ⟨y1, rfl, s3⟩ ⟨rfl, c, hc, rfl⟩
      have q : (TL.tl z)[j]? = some c := by
        show z.cps.toList[j]? = some c
        rw [Array.getElem?_toList]
        exact hc
      have hd := n1 c (List.mem_of_getElem? q)
      refine ⟨_, rfl, 10, _, rfl, rfl, ?_, ⟨_, rfl⟩, _, rfl, sDigits, ⟨#[c]⟩, c - 48, [], rfl, rfl, dig_at hd, _, _, rfl, rfl, some (.str ⟨#[c]⟩), ?_, s3⟩
      · exact .inl ⟨by decide, by decide⟩
      · rw [List.take_add_one, q]
        show [some (V.str z), some (V.str ⟨#[c]⟩), some (V.int (10 * digV ((TL.tl z).take j) + ((c - 48 : Nat) : Int)))] = [some (V.str z), some (V.str ⟨#[c]⟩), some (V.int (digV ((TL.tl z).take j ++ [c])))]
        rw [digV_snoc, show ((c - 48 : Nat) : Int) = (c : Int) - 48 by omega]
    · rintro σ H3 ⟨y1, rfl, s3⟩
      refine ⟨_, rfl, ?_⟩
      have e : (TL.tl z).take z.cps.size = TL.tl z := List.take_of_length_le (by simp [TL.tl])
      rw [e, n4]
      exact k H3 s3
/-! ### text_of_number -/
def spNumT : Sp := fun xs H Q _ => ∃ p : Int, xs = [.int p] ∧ 0 ≤ p ∧ p < 1000 ∧ ∀ (H' : Hp), Same H H' → Q (.str (toString p)) H'
theorem scNt : FnScope ["number", "parts", "rest"] ["number"] (defScope sTextOfNumber) := ⟨rfl, rfl, rfl, by decide +kernel, rfl, by decide +kernel, by decide +kernel⟩
theorem log_small {p : Int} (h0 : 0 ≤ p) (h1 : p < 1000) : p.natAbs.log2 < 1920 := PySem.Flt.log2_lt_of (by decide) (Nat.lt_of_lt_of_le (show p.natAbs < 2 ^ 17 by show _ < 131072; omega) (Nat.pow_le_pow_right (by decide) (by decide)))
theorem has_numT (D : Def K mg "text_of_number" sTextOfNumber) (TC : TCons K w mg) : Has P w K mg base "text_of_number" 1 ["number"] [] spNumT := by
  obtain ⟨tm, hM⟩ := TC.many
  refine has_of D scNt (fun _ _ _ _ _ _ us hl => match us, hl with | [_], _ => rfl) (fun xs H Q E h => ?_) (fun f cv A out s H xs Q E hr h => ?_)
  · obtain ⟨p, rfl, _⟩ := h
    rfl
  · obtain ⟨p, rfl, h0, h1, k⟩ := h
    refine ⟨_, pss_cons (ps_set (i := 1) scNt.nd rfl (.inl rfl) (pe_lst pa_nil))
      (pss_cons (ps_while PassesOwn.never (pt_cmpR op_ge (pv 0) (pe_glob (v := .int 1000000000000000000) rfl hM ⟨_, rfl⟩) (nomark _)) pss_never)
      (pss_cons (ps_expr (pe_bm PySem.F.plainAttrs_list PySem.F.slot_list_append PySem.F.type_list_append mt_append (pv 1) (pa_cons (pe_joined1 (pe_fmt (pv 0))) pa_nil)))
      (pss_one (ps_ret (pe_join pe_str (pe_revL (pv 1))))))), ?_⟩
    refine ⟨(by show 0 ≤ sizeLine; decide), fun L hL => ?_⟩
    refine ⟨fun m σ H2 => σ = [some (.int p), some (.ref L), none] ∧ H2 = upd H L (.lst []), ⟨0, rfl, rfl⟩, ?_⟩
    rintro m σ H2 ⟨rfl, rfl⟩
    refine ⟨_, rfl, p, _, rfl, rfl, _, rfl, ?_⟩
    rw [decide_eq_false (by omega)]
    have lg := log_small h0 h1
    refine iteF ⟨.ref L, rfl, .inl ⟨rfl, _, .of upd_same⟩, _, rfl, .inr ⟨p, rfl, lg, L, [], _, rfl, rfl, upd_same, (by show 0 < sizeLine; decide), ?_⟩⟩
    refine ⟨⟨_, rfl⟩, _, rfl, L, _, rfl, .of upd_same, fun R hR => ?_⟩
    refine ⟨"", R, [(toString p : Str)], rfl, rfl, .inl (.of upd_same), ?_, ?_⟩
    · have a := PyData.shown_int_le (i := p) (by omega)
      have b : (toString p : Str).length ≤ 13 := a
      simp only [List.map_cons, List.map_nil, List.sum_cons, List.sum_nil, List.length_cons, List.length_nil]
      have c : (Str.ofString "").length = 0 := by decide +kernel
      omega
    · have e : Txt.join (Str.ofString "") [(toString p : Str)] = toString p := by rw [join_eq]; rfl
      rw [e]
      exact k _ (Same.free2 (Same.free2 (Same.new hL) hL) (by
        have : upd (upd H L (.lst [])) L (.lst ([] ++ [V.str (toString p)])) R = none := hR
        by_cases c : R = L
        · rw [c, upd_same] at this
          cases this
        · rw [upd_ne c, upd_ne c] at this
          exact this))
end
end SE
namespace SE
open PySem PySem.Spec PyProof.Rows L2 TL
theorem five_tl (xs ys : List Str) (p : Int) : TL.tl (effT (some (xs, ys, p))) = TL.tl (wordT xs) ++ ([32] ++ ([62] ++ ([32] ++ (TL.tl (wordT ys) ++ ([32] ++ ([94] ++ ([32] ++ TL.tl (toString p : Str)))))))) := by
  unfold effT fiveT
  dsimp only
  rw [join_eq, tl_join, tl_blk]
  have a : TL.tl (Str.ofString ">") = [62] := by decide +kernel
  have b : TL.tl (Str.ofString "^") = [94] := by decide +kernel
  show TL.tl (wordT xs) ++ ([32] ++ (TL.tl (Str.ofString ">") ++ ([32] ++ (TL.tl (wordT ys) ++ ([32] ++ (TL.tl (Str.ofString "^") ++ ([32] ++ TL.tl (toString p : Str)))))))) = _
  rw [a, b]
theorem join5 (xs ys : List Str) (p : Int) : wordT xs ++ Str.ofString " > " ++ wordT ys ++ Str.ofString " ^ " ++ (toString p : Str) = effT (some (xs, ys, p)) := by
  refine ext_tl ?_
  have a : TL.tl (Str.ofString " > ") = [32, 62, 32] := by decide +kernel
  have b : TL.tl (Str.ofString " ^ ") = [32, 94, 32] := by decide +kernel
  rw [five_tl, tl_append, tl_append, tl_append, tl_append, a, b]
  simp [List.append_assoc]
theorem empty_app (z : Str) : Str.empty ++ z = z := by
  refine ext_tl ?_
  rw [tl_append]
  have a : TL.tl Str.empty = [] := by decide +kernel
  rw [a, List.nil_append]
theorem effT_len {xs ys : List Str} {p : Int} (h1 : ∀ z ∈ xs, Item z) (h2 : ∀ z ∈ ys, Item z) (l1 : xs.length ≤ 1000) (l2 : ys.length ≤ 1000) (h0 : 0 ≤ p) (hp : p < 1000) : (effT (some (xs, ys, p))).length ≤ 20000 := by
  have a := wordT_len h1
  have b := wordT_len h2
  have c : (toString p : Str).length ≤ 13 := PyData.shown_int_le (i := p) (by omega)
  rw [len_tl] at a b c ⊢
  rw [five_tl]
  simp only [List.length_append, List.length_cons, List.length_nil]
  omega
/-- an effect whose text is read here -/
def EffSt : Option (List Str × List Str × Int) → Prop
  | none => True
  | some (xs, ys, p) => lp xs ys ≤ p ∧ p < 100
section
variable {P : Program} {w : World} {K : PySem.W.Frag} {mg : Str → Option Value} {base : Heap} {C : Addr}
/-! ### effect_in -/
def spEffIn (K : PySem.W.Frag) (C : Addr) : Sp := fun xs H Q _ => ∃ o : Eff, xs = [.str (effT o)] ∧ EffOk o ∧ EffSt o ∧ ∀ (e : Addr) (H' : Hp), Same H H' → EffV K C H' e o → Q (.ref e) H'
abbrev nEi : List Str := ["text", "parts", "pops", "pushes", "peak"]
theorem scEi : FnScope nEi ["text"] (defScope sEffectIn) := ⟨rfl, rfl, rfl, by decide +kernel, rfl, by decide +kernel, by decide +kernel⟩
theorem has_effIn (D : Def K mg "effect_in" sEffectIn) (T : EC K mg C) (M : Makes P w K mg base C) (GN : NeverHas P w K mg base C) (GW : Has P w K mg base "word_in" 3 ["text"] [] (spWordIn K)) (GU : Has P w K mg base "number_in" 1 ["text"] [] spNumIn) (GL : Has P w K mg base "least_peak" 1 ["pops", "pushes"] [] (spLeast K)) (B : Blt mg) (TC : TCons K w mg) : Has P w K mg base "effect_in" 7 ["text"] [] (spEffIn K C) := by
  obtain ⟨tn, hN⟩ := TC.nv
  refine has_of D scEi (fun _ _ _ _ _ _ us hl => match us, hl with | [_], _ => rfl) (fun xs H Q E h => ?_) (fun f cv A out s H xs Q E hr h => ?_)
  · obtain ⟨o, rfl, _⟩ := h
    rfl
  · obtain ⟨o, rfl, ok, st, k⟩ := h
    have hr1 : Room 1 _ := hr.mono (by decide)
    have hr3 : Room 3 _ := hr.mono (by decide)
    have hr5 : Room 5 _ := hr.mono (by decide)
    refine ⟨_, pss_cons (ps_if (pt_cmpR op_eq (pv 0) (pe_glob (v := .str "never") rfl hN ⟨_, rfl⟩) (nomark _)) (pss_one (ps_ret (pe_never0 GN T.mgE hr))) pss_nil)
      (pss_cons (ps_set (i := 1) scEi.nd rfl (.inl rfl) (pe_split (pv 0) pe_str))
      (pss_cons (ps_if (PW.pt (pw_or (pt_cmpR op_ne (pe_callB call_len_seq (by rfl) B.len PySem.boot_len (pa_cons (pv 1) pa_nil)) pe_int (nomark _)) (pw_or (pt_cmpR op_ne (pe_ix ix_list (pv 1) pe_int (fun _ _ => rfl)) pe_str (nomark _)) (pw_or1 (pt_cmpR op_ne (pe_ix ix_list (pv 1) pe_int (fun _ _ => rfl)) pe_str (nomark _)))))) (pss_one (ps_ret pe_non)) pss_nil)
      (pss_cons (ps_par3 (i := 2) (j := 3) (l := 4) (by rfl) scEi.nd rfl rfl rfl (by decide) (by decide) (by decide) rfl rfl rfl (pa_cons (pe_has GW hr3 (pa_cons (pe_ix ix_list (pv 1) pe_int (fun _ _ => rfl)) pa_nil)) (pa_cons (pe_has GW hr3 (pa_cons (pe_ix ix_list (pv 1) pe_int (fun _ _ => rfl)) pa_nil)) (pa_cons (pe_has GU hr1 (pa_cons (pe_ix ix_list (pv 1) pe_int (fun _ _ => rfl)) pa_nil)) pa_nil))) (by rfl))
      (pss_cons (ps_if (PW.pt (pw_or (pt_cmpR op_isN (pv 2) pe_non (nomark _)) (pw_or (pt_cmpR op_isN (pv 3) pe_non (nomark _)) (pw_or (pt_cmpR op_isN (pv 4) pe_non (nomark _)) (pw_or1 (pt_cmpR op_lt (pv 4) (pe_has GL hr1 (pa_cons (pv 2) (pa_cons (pv 3) pa_nil))) (nomark _))))))) (pss_one (ps_ret pe_non)) pss_nil)
      (pss_one (ps_ret (pe_effK M T.mgE hr5 (pa_cons (pv 2) (pa_cons (pv 3) pa_nil)) (pv 4)))))))), ?_⟩
    refine ⟨_, rfl, rfl, _, rfl, ?_⟩
    cases o with
    | none =>
      show if decide (V.str (effT none) = V.str (Str.ofString "never")) = true then _ else _
      rw [decide_eq_true (by rfl)]
      exact iteT ⟨rfl, rfl, fun e H' s1 he => k e H' s1 he⟩
    | some Bp =>
      obtain ⟨xs, ys, p⟩ := Bp
      obtain ⟨i1, i2, l1, l2, k0, k1⟩ := ok
      obtain ⟨st1, st2⟩ := st
      show if decide (V.str (effT (some (xs, ys, p))) = V.str (Str.ofString "never")) = true then _ else _
      rw [decide_eq_false (fun e => by
        have := effT_never.mp (V.str.inj e)
        cases this)]
      have tl := effT_len i1 i2 l1 l2 k0 (by omega)
      refine iteF ⟨_, rfl, ⟨_, rfl⟩, effT (some (xs, ys, p)), sBlk, rfl, rfl, (by decide +kernel), by rw [sizeLine_eq]; omega, fun L hL => ?_⟩
      rw [split_eff i1 i2 k0]
      have s1 : Same H (upd H L (.lst ((fiveT xs ys p).map V.str))) := Same.new hL
      have h1 : upd H L (.lst ((fiveT xs ys p).map V.str)) L = some (.lst [.str (wordT xs), .str (Str.ofString ">"), .str (wordT ys), .str (Str.ofString "^"), .str (toString p)]) := upd_same
      generalize upd H L (.lst ((fiveT xs ys p).map V.str)) = H1 at s1 h1
      refine ⟨_, rfl, L, _, rfl, .inl (.of h1), rfl, _, rfl, iteNS rfl ⟨_, rfl, L, _, 1, _, rfl, rfl, .of h1, atI_nat (j := 1) rfl, rfl, _, rfl, iteNS rfl ⟨_, rfl, L, _, 3, _, rfl, rfl, .of h1, atI_nat (j := 3) rfl, rfl, _, rfl, iteNS rfl ?_⟩⟩⟩
      refine ⟨_, rfl, L, _, 0, _, rfl, rfl, .of h1, atI_nat (j := 0) rfl, xs, rfl, i1, l1, fun a H2 s2 ha => ?_⟩
      refine ⟨_, rfl, L, _, 2, _, rfl, rfl, .of (s2 _ _ h1), atI_nat (j := 2) rfl, ys, rfl, i2, l2, fun b H3 s3 hb => ?_⟩
      refine ⟨_, rfl, L, _, 4, _, rfl, rfl, .of (s3 _ _ (s2 _ _ h1)), atI_nat (j := 4) rfl, p, rfl, k0, st2, fun H4 s4 => ?_⟩
      have ha4 := Same.tup (s3.trans s4) ha
      have hb4 := Same.tup s4 hb
      refine ⟨_, _, _, rfl, ?_⟩
      refine ⟨_, rfl, rfl, false, rfl, iteF ⟨_, rfl, rfl, false, rfl, iteF ⟨_, rfl, rfl, false, rfl, iteF ⟨_, rfl, _, rfl, _, rfl, a, b, xs, ys, rfl, ha4, hb4, p, _, rfl, rfl, _, rfl, ?_⟩⟩⟩⟩
      rw [decide_eq_false (by omega)]
      refine iteF ⟨_, rfl, _, rfl, _, rfl, a, b, xs, ys, some p, rfl, rfl, ha4, hb4, by omega, by omega, i1, i2, fun q e => ?_, fun e H5 s5 n5 hE => ?_⟩
      · cases e
        exact st1
      · exact k e H5 ((((s1.trans s2).trans s3).trans s4).trans s5) hE
/-! ### parse_effect -/
theorem scPe' : FnScope ["text", "effect"] ["text"] (defScope sParseEffect) := ⟨rfl, rfl, rfl, by decide +kernel, rfl, by decide +kernel, by decide +kernel⟩
theorem has_parE (D : Def K mg "parse_effect" sParseEffect) (G : Has P w K mg base "effect_in" 7 ["text"] [] (spEffIn K C)) (B : Blt mg) : Has P w K mg base "parse_effect" 8 ["text"] [] (spEffIn K C) := by
  refine has_of D scPe' (fun _ _ _ _ _ _ us hl => match us, hl with | [_], _ => rfl) (fun xs H Q E h => ?_) (fun f cv A out s H xs Q E hr h => ?_)
  · obtain ⟨zs, rfl, _⟩ := h
    rfl
  · obtain ⟨o, rfl, ok, st, k⟩ := h
    refine ⟨_, pss_cons (ps_set (i := 1) scPe'.nd rfl (.inl rfl) (pe_ifExp (pt_val (pe_callB call_isi (by rfl) B.isi (by decide +kernel) (pa_cons (pv 0) (pa_cons (pe_bltn (v := .ty "str") (by rfl) B.str (by decide +kernel) rfl) pa_nil)))) (pe_has G hr (pa_cons (pv 0) pa_nil)) pe_non))
      (pss_cons (ps_if (pt_cmpR op_isN (pv 1) pe_non (nomark _)) pss_never pss_nil)
      (pss_one (ps_ret (pv 1)))), ?_⟩
    refine ⟨_, rfl, _, .ty "str", .type "str", .type "str", true, rfl, .ty _, .base (.str _), kit_ty (by decide +kernel), true, rfl, iteT ?_⟩
    refine ⟨_, rfl, o, rfl, ok, st, fun e H1 s1 he => ?_⟩
    exact ⟨_, rfl, rfl, false, rfl, iteF ⟨_, rfl, k e H1 s1 he⟩⟩
/-! ### format_effect -/
def spFmtE (K : PySem.W.Frag) (C : Addr) : Sp := fun xs H Q _ => ∃ (e : Addr) (o : Eff), xs = [.ref e] ∧ EffV K C H e o ∧ EffOk o ∧ EffSt o ∧ ∀ (H' : Hp), Same H H' → Q (.str (effT o)) H'
theorem scFe : FnScope ["effect"] ["effect"] (defScope sFormatEffect) := ⟨rfl, rfl, rfl, by decide +kernel, rfl, by decide +kernel, by decide +kernel⟩
theorem has_fmtE (D : Def K mg "format_effect" sFormatEffect) (T : EC K mg C) (TI : EI K C) (GI : PropHas P w K mg base C "is_never" 1 (spIsNev K C)) (GP : PropHas P w K mg base C "pops" 1 (spPops K C)) (GQ : PropHas P w K mg base C "pushes" 1 (spPush K C)) (GH : PropHas P w K mg base C "peak" 1 (spPeak K C)) (GW : Has P w K mg base "format_word" 3 ["word"] [] (spFmtW K)) (GT : Has P w K mg base "text_of_number" 1 ["number"] [] spNumT) (B : Blt mg) (TC : TCons K w mg) :
    Has P w K mg base "format_effect" 4 ["effect"] [] (spFmtE K C) := by
  obtain ⟨tn, hN⟩ := TC.nv
  refine has_of D scFe (fun _ _ _ _ _ _ us hl => match us, hl with | [_], _ => rfl) (fun xs H Q E h => ?_) (fun f cv A out s H xs Q E hr h => ?_)
  · obtain ⟨e, o, rfl, _⟩ := h
    rfl
  · obtain ⟨e, o, rfl, hE, ok, st, k⟩ := h
    have hr1 : Room 1 _ := hr.mono (by decide)
    have hr2 : Room 2 _ := hr.mono (by decide)
    refine ⟨_, pss_cons (ps_if (pt_not (pt_val (pe_callB (id := "isinstance") call_isi (by rfl) B.isi (by decide +kernel) (pa_cons (pv 0) (pa_cons (pe_glob (v := .ref C) rfl T.mgE rfl) pa_nil))))) pss_never pss_nil)
      (pss_cons (ps_if (pt_val (pe_propH GI (pv 0) T.cl hr2)) (pss_one (ps_ret (pe_glob (v := .str "never") rfl hN ⟨_, rfl⟩))) pss_nil)
      (pss_one (ps_ret (pe_joined (.cons (pe_fmt (pe_has GW hr (pa_cons (pe_propH GP (pv 0) T.cl hr2) pa_nil))) (.cons pe_str (.cons (pe_fmt (pe_has GW hr (pa_cons (pe_propH GQ (pv 0) T.cl hr2) pa_nil))) (.cons pe_str (.cons (pe_fmt (pe_has GT hr1 (pa_cons (pe_propH GH (pv 0) T.cl hr2) pa_nil))) .nil))))))))), ?_⟩
    obtain ⟨dx, fs, hi⟩ := hE.ins
    refine ⟨_, rfl, _, .ref C, .ref C, .ref C, true, rfl, .own C, .base (.ins hi T.cl TI.ha TI.hn TI.ht TI.hm), TI.ki, true, rfl, iteF ?_⟩
    cases o with
    | none => exact ⟨_, rfl, e, dx, fs, rfl, hi, e, rfl, .inr ⟨hE, true, rfl, iteT (k H (Same.refl H))⟩⟩
    | some Bp =>
      obtain ⟨xs, ys, p⟩ := Bp
      obtain ⟨i1, i2, l1, l2, k0, k1⟩ := ok
      obtain ⟨st1, st2⟩ := st
      have hA : EffAt K C H e xs ys p := hE
      refine ⟨_, rfl, e, dx, fs, rfl, hi, e, rfl, .inl ⟨xs, ys, p, hA, false, rfl, iteF ?_⟩⟩
      have w1 := wordT_len i1
      have w2 := wordT_len i2
      have c : (toString p : Str).length ≤ 13 := PyData.shown_int_le (i := p) (by omega)
      have e1 : (Str.ofString " > ").length = 3 := by decide +kernel
      have e2 : (Str.ofString " ^ ").length = 3 := by decide +kernel
      have e0 : Str.empty.length = 0 := by decide +kernel
      have big : ∀ m : Nat, m ≤ 400000 → m ≤ sizeLine := fun m hm => by rw [sizeLine_eq]; omega
      refine ⟨_, rfl, e, dx, fs, rfl, hi, e, xs, ys, p, rfl, hA, fun u hu => ⟨u, xs, rfl, hu, i1, l1, fun H1 s1 => .inl ⟨_, rfl, big _ (by omega), ?_⟩⟩⟩
      refine ⟨_, rfl, big _ ?_, _, rfl, big _ ?_, _, rfl, e, dx, fs, rfl, s1 _ _ hi, e, xs, ys, p, rfl, EffAt.same hA s1, fun u2 hu2 => ⟨u2, ys, rfl, hu2, i2, l2, fun H2 s2 => .inl ⟨_, rfl, big _ (by omega), ?_⟩⟩⟩
      · simp only [len_add, e0]
        omega
      · simp only [len_add, e0, e1]
        omega
      refine ⟨_, rfl, big _ ?_, _, rfl, big _ ?_, _, rfl, e, dx, fs, rfl, s2 _ _ (s1 _ _ hi), e, xs, ys, p, rfl, EffAt.same (EffAt.same hA s1) s2, p, rfl, k0, by omega, fun H3 s3 => .inl ⟨_, rfl, big _ (by omega), _, rfl, big _ ?_, ?_⟩⟩
      · simp only [len_add, e0, e1]
        omega
      · simp only [len_add, e0, e1, e2]
        omega
      · simp only [len_add, e0, e1, e2]
        omega
      · rw [empty_app, join5]
        exact k H3 ((s1.trans s2).trans s3)
end
end SE
namespace SE
open PySem PySem.Spec PyProof.Rows L2
/-! ### products of great numbers -/
def CBig (i j : Int) : Prop := i.natAbs < 2 ^ 100000 ∧ j.natAbs < 2 ^ 100000
theorem CBig.ok {i j : Int} (h : CBig i j) : IntMulOk i j := by
  have h1 := intBits_le_iff.mpr h.1
  have h2 := intBits_le_iff.mpr h.2
  have e : Builtin.Int.intTooBig (Builtin.Int.intBits i + Builtin.Int.intBits j) = false := by
    unfold Builtin.Int.intTooBig
    refine decide_eq_false ?_
    have b : bitsLine = 134217728 := by decide
    omega
  unfold IntMulOk
  rw [e, Bool.and_false]
  exact Bool.false_ne_true
theorem op_mulG {X : Cx} : OpR X (binaryOp .Mult) (rI CBig fun i j => .int (i * j)) := opI fun _ _ _ _ _ _ _ hc q => mul_int q hc.ok
theorem iop_mulG {X : Cx} : OpR X (inplaceOp .Mult) (rI CBig fun i j => .int (i * j)) := opI fun _ _ _ _ _ _ _ hc q => imul_int q hc.ok
theorem pow_big {b e : Nat} (hb : b ≤ 64) (he : e ≤ 1000) : b ^ e < 2 ^ 100000 := by
  have a : b ^ e ≤ 64 ^ e := Nat.pow_le_pow_left hb e
  have c : (64 : Nat) ^ e = 2 ^ (6 * e) := by rw [show (64 : Nat) = 2 ^ 6 from rfl, ← Nat.pow_mul]
  rw [c] at a
  exact Nat.lt_of_le_of_lt a (Nat.pow_lt_pow_right (by decide) (by omega))
theorem small_big {i : Int} (h : i.natAbs < 2 ^ 63) : i.natAbs < 2 ^ 100000 := Nat.lt_of_lt_of_le h (Nat.pow_le_pow_right (by decide) (by decide))
/-! ### the shortest sequences -/
def moreM (xs ys : List Str) (p : Int) : Nat := (p - lp xs ys).toNat
/-! ### what a sequence makes of a stack, with a limit or none -/
structure SC (mg : Str → Option Value) : Prop where
  fi : ∃ t, mg "FIRST_ITEM" = some (.str "a" t)
  mi : ∃ t, mg "MOST_ITEMS" = some (.int 50 t)
end SE
namespace SE
open PySem PySem.Spec PyProof.Rows L2
theorem iteB' {c : Bool} {A B : Prop} (ht : c = true → A) (hf : c = false → B) : if c = true then A else B := by
  cases c with
  | true => exact iteT (ht rfl)
  | false => exact iteF (hf rfl)
section
variable {P : Program} {w : World} {K : PySem.W.Frag} {mg : Str → Option Value} {base : Heap} {C : Addr}
/-! ### power -/
def spPow : Sp := fun xs H Q _ => ∃ (b e : Nat), xs = [.int (b : Int), .int (e : Int)] ∧ b ≤ 64 ∧ e ≤ 1000 ∧ ∀ H', Same H H' → Q (.int ((b ^ e : Nat) : Int)) H'
abbrev nPw : List Str := ["base", "exponent", "product", "step"]
theorem scPw : FnScope nPw ["base", "exponent"] (defScope sPower) := ⟨rfl, rfl, rfl, by decide +kernel, rfl, by decide +kernel, by decide +kernel⟩
theorem has_pow (D : Def K mg "power" sPower) (mr : mg "range" = none) : Has P w K mg base "power" 1 ["base", "exponent"] [] spPow := by
  refine has_of D scPw (fun _ _ _ _ _ _ us hl => match us, hl with | [_, _], _ => rfl) (fun xs H Q E h => ?_) (fun f cv A out s H xs Q E hr h => ?_)
  · obtain ⟨b, e, rfl, _⟩ := h
    rfl
  · obtain ⟨b, e, rfl, hb, he, k⟩ := h
    refine ⟨_, pss_cons (ps_set (i := 2) scPw.nd rfl (.inl rfl) pe_int)
      (pss_cons (ps_for PassesOwn.never rfl (pi_range1 (by rfl) mr (pa_cons (pv 1) pa_nil)) (pg_name (i := 3) scPw.nd rfl (.inl rfl))
        (pss_one (ps_aug (i := 2) scPw.nd rfl (.inl rfl) (pv 0) iop_mulG)))
      (pss_one (ps_ret (pv 2)))), ?_⟩
    refine ⟨_, rfl, (e : Int), rfl, by omega, by omega, for_range (lo := 0) (n := e) (fun j σ H2 => ∃ (y3 : Option V), σ = [some (.int (b : Int)), some (.int (e : Int)), some (.int ((b ^ j : Nat) : Int)), y3] ∧ H2 = H) ⟨_, rfl, rfl⟩ ?_ ?_⟩
    · rintro j σ H2 hj ⟨y3, rfl, rfl⟩
      refine ⟨_, rfl, _, rfl, _, _, rfl, rfl, ⟨?_, ?_⟩, some (.int (0 + (j : Nat))), ?_, rfl⟩
      · rw [Int.natAbs_natCast]
        exact pow_big hb (by omega)
      · exact small_big (by rw [Int.natAbs_natCast]; omega)
      · rw [Nat.pow_succ, Int.natCast_mul]
        rfl
    · rintro σ H2 ⟨y3, rfl, rfl⟩
      exact ⟨_, rfl, k _ (Same.refl _)⟩
/-! ### surplus -/
def spSur (K : PySem.W.Frag) (C : Addr) : Sp := fun vs H Q _ => ∃ (e : Addr) (xs ys : List Str) (p : Int), vs = [.ref e] ∧ EffAt K C H e xs ys p ∧ Q (.int (p - lp xs ys)) H
theorem scSurr : FnScope ["effect"] ["effect"] (defScope sSurplus) := ⟨rfl, rfl, rfl, by decide +kernel, rfl, by decide +kernel, by decide +kernel⟩
theorem has_sur (D : Def K mg "surplus" sSurplus) (T : EC K mg C) (GP : PropHas P w K mg base C "pops" 1 (spPops K C)) (GU : PropHas P w K mg base C "pushes" 1 (spPush K C)) (GK : PropHas P w K mg base C "peak" 1 (spPeak K C)) (GL : Has P w K mg base "least_peak" 1 ["pops", "pushes"] [] (spLeast K)) :
    Has P w K mg base "surplus" 3 ["effect"] [] (spSur K C) := by
  refine has_of D scSurr (fun _ _ _ _ _ _ us hl => match us, hl with | [_], _ => rfl) (fun xs H Q E h => ?_) (fun f cv A out s H xs Q E hr h => ?_)
  · obtain ⟨e, xs, ys, p, rfl, _⟩ := h
    rfl
  · obtain ⟨e, xs, ys, p, rfl, he, k⟩ := h
    have hr1 : Room 1 _ := hr.mono (by decide)
    refine ⟨_, pss_one (ps_ret (pe_op op_sub (pe_propH GK (pv 0) T.cl hr) (pe_has GL hr1 (pa_cons (pe_propH GP (pv 0) T.cl hr) (pa_cons (pe_propH GU (pv 0) T.cl hr) pa_nil))))), ?_⟩
    obtain ⟨dx, u, v, h1, _, _⟩ := he.ex
    refine ⟨_, rfl, e, dx, _, rfl, h1, e, xs, ys, p, rfl, he, ?_⟩
    refine ⟨_, rfl, e, dx, _, rfl, h1, e, xs, ys, p, rfl, he, fun u' hu => ?_⟩
    refine ⟨_, rfl, e, dx, _, rfl, h1, e, xs, ys, p, rfl, he, fun v' hv => ?_⟩
    exact ⟨u', v', xs, ys, rfl, hu, hv, _, _, rfl, rfl, k⟩
/-! ### shortest_length -/
/-! ### ways_many -/
def waysM (xs ys : List Str) (p : Int) : Int := if ((ys.length : Int) - xs.length = 0 ∧ p > 0) ∧ xs.length > 0 then 2 else 1
def spWy (K : PySem.W.Frag) (C : Addr) : Sp := fun vs H Q _ => ∃ (e : Addr) (xs ys : List Str) (p : Int), vs = [.ref e] ∧ EffAt K C H e xs ys p ∧ Q (.int (waysM xs ys p)) H
theorem scWy : FnScope ["effect"] ["effect"] (defScope sWaysMany) := ⟨rfl, rfl, rfl, by decide +kernel, rfl, by decide +kernel, by decide +kernel⟩
theorem has_wy (D : Def K mg "ways_many" sWaysMany) (T : EC K mg C) (GP : PropHas P w K mg base C "pops" 1 (spPops K C)) (GC : PropHas P w K mg base C "change" 1 (spChan K C)) (GK : PropHas P w K mg base C "peak" 1 (spPeak K C)) (B : Blt mg) :
    Has P w K mg base "ways_many" 3 ["effect"] [] (spWy K C) := by
  refine has_of D scWy (fun _ _ _ _ _ _ us hl => match us, hl with | [_], _ => rfl) (fun xs H Q E h => ?_) (fun f cv A out s H xs Q E hr h => ?_)
  · obtain ⟨e, xs, ys, p, rfl, _⟩ := h
    rfl
  · obtain ⟨e, xs, ys, p, rfl, he, k⟩ := h
    refine ⟨_, pss_one (ps_ret (pe_ifExp (PW.pt (pw_and (pt_cmpR op_eq (pe_propH GC (pv 0) T.cl hr) pe_int (nomark _)) (pw_and (pt_cmpR op_gt (pe_propH GK (pv 0) T.cl hr) pe_int (nomark _)) (pw_and1 (pt_cmpR op_gt (pe_callB call_len_seq (by rfl) B.len PySem.boot_len (pa_cons (pe_propH GP (pv 0) T.cl hr) pa_nil)) pe_int (nomark _)))))) pe_int pe_int)), ?_⟩
    obtain ⟨dx, u, v, h1, _, _⟩ := he.ex
    have fin : ∀ z : Int, z = waysM xs ys p → Q (.int z) H := fun z e => by rw [e]; exact k
    refine ⟨_, rfl, e, dx, _, rfl, h1, e, xs, ys, p, rfl, he, rfl, _, rfl, ?_⟩
    refine iteB' (fun c1 => ?_) (fun c1 => ?_)
    rotate_left
    · have c1 := of_decide_eq_false c1
      refine iteF (fin 1 ?_)
      unfold waysM
      rw [if_neg fun z => c1 (by rw [z.1.1])]
    have c1 := V.int.inj (of_decide_eq_true c1)
    refine ⟨_, rfl, e, dx, _, rfl, h1, e, xs, ys, p, rfl, he, p, 0, rfl, rfl, _, rfl, ?_⟩
    refine iteB' (fun c2 => ?_) (fun c2 => ?_)
    rotate_left
    · have c2 := of_decide_eq_false c2
      refine iteF (fin 1 ?_)
      unfold waysM
      rw [if_neg fun z => c2 z.1.2]
    have c2 := of_decide_eq_true c2
    refine ⟨_, rfl, e, dx, _, rfl, h1, e, xs, ys, p, rfl, he, fun u' hu => ⟨u', _, rfl, .inr hu, _, 0, rfl, rfl, _, rfl, ?_⟩⟩
    rw [List.length_map]
    refine iteB' (fun c3 => ?_) (fun c3 => ?_)
    · have c3 := of_decide_eq_true c3
      refine fin 2 ?_
      unfold waysM
      rw [if_pos ⟨⟨c1, c2⟩, by omega⟩]
    · have c3 := of_decide_eq_false c3
      refine fin 1 ?_
      unfold waysM
      rw [if_neg fun z => c3 (by have := z.2; omega)]
end
end SE
/-! Plain data in which empty dicts may stand: its kinds, ==, in, and repr of every kind. -/
namespace SE
open PySem PySem.Spec PyProof.Rows L2
mutual
inductive DpX (K : PySem.W.Frag) (H : Hp) : V → PyData → Prop
  | non : DpX K H .non .none
  | bl (b : Bool) : DpX K H (.bl b) (.bool b)
  | int (i : Int) : DpX K H (.int i) (.int i)
  | str (x : Str) : DpX K H (.str x) (.str x)
  | lst {a : Addr} {xs : List V} {ds : List PyData} : SqL K H a xs → DpXs K H xs ds → DpX K H (.ref a) (.list ds)
  | tup {a : Addr} {xs : List V} {ds : List PyData} : SqT K H a xs → DpXs K H xs ds → DpX K H (.ref a) (.tuple ds)
  | emp {a : Addr} : H a = some (.dK []) → DpX K H (.ref a) (.dict [])
inductive DpXs (K : PySem.W.Frag) (H : Hp) : List V → List PyData → Prop
  | nil : DpXs K H [] []
  | cons {v : V} {vs : List V} {d : PyData} {ds : List PyData} : DpX K H v d → DpXs K H vs ds → DpXs K H (v :: vs) (d :: ds)
end
section
variable {K : PySem.W.Frag} {H H' : Hp}
mutual
theorem DpX.same (s : Same H H') : ∀ (d : PyData) (v : V), DpX K H v d → DpX K H' v d
  | .none, _, h => by cases h; exact .non
  | .bool b, _, h => by cases h; exact .bl b
  | .int i, _, h => by cases h; exact .int i
  | .str x, _, h => by cases h; exact .str x
  | .list ds, _, h => by
    cases h with
    | lst a b => exact .lst (Same.seq s a) (DpXs.same s ds _ b)
  | .tuple ds, _, h => by
    cases h with
    | tup a b => exact .tup (Same.tup s a) (DpXs.same s ds _ b)
  | .dict kvs, _, h => by
    cases h with
    | emp a => exact .emp (s _ _ a)
theorem DpXs.same (s : Same H H') : ∀ (ds : List PyData) (vs : List V), DpXs K H vs ds → DpXs K H' vs ds
  | [], _, h => by cases h; exact .nil
  | d :: ds, _, h => by
    cases h with
    | cons a b => exact .cons (DpX.same s d _ a) (DpXs.same s ds _ b)
end
theorem DpXs.at : ∀ {vs : List V} {ds : List PyData} {i : Nat} {v : V}, DpXs K H vs ds → vs[i]? = some v → ∃ d, ds[i]? = some d ∧ DpX K H v d
  | _, _, 0, v, .cons a b, h => by cases h; exact ⟨_, rfl, a⟩
  | _, _, i + 1, v, .cons a b, h => by
    obtain ⟨d, h1, h2⟩ := DpXs.at b h
    exact ⟨d, h1, h2⟩
theorem DpXs.len : ∀ {vs : List V} {ds : List PyData}, DpXs K H vs ds → vs.length = ds.length
  | _, _, .nil => rfl
  | _, _, .cons a b => by rw [List.length_cons, List.length_cons, DpXs.len b]
end
section
variable {X : Cx} {pins : List (Addr × Obj)} {σ : L2.St} {H : Hp} {s : Shared}
theorem emp_obj (I : Inv X pins σ H s) {a : Addr} (e : H a = some (.dK [])) : (a == sysModules) = false ∧ ∃ o n, s.heap.get? a = some o ∧ o.cls = .type "dict" ∧ o.data = .dict #[] n := by
  obtain ⟨_, hd, vs, rel, o, es, ep, h1, h2, h3, h4, h5, h6⟩ := dk_of I.hok e
  cases rel
  have : es = #[] := by
    have q : es.toList = [] := by
      cases hq : es.toList with
      | nil => rfl
      | cons x r => rw [hq] at h5; cases h5
    exact Array.toList_eq_nil_iff.mp q
  subst this
  exact ⟨hd, o, ep, h1, h2.1, h3⟩
mutual
theorem DpX.reads (I : Inv X pins σ H s) : ∀ (d : PyData) (v : V) (u : Value), DpX X.K H v d → RelV v u → ∃ as, Reads s.heap u d as
  | .none, _, _, h, r => by
    cases h
    cases r
    exact ⟨_, Reads.none⟩
  | .bool b, _, _, h, r => by
    cases h
    cases r
    exact ⟨_, Reads.bool b⟩
  | .int i, _, _, h, r => by
    cases h
    obtain ⟨t, rfl⟩ := r
    exact ⟨_, Reads.int i t⟩
  | .str x, _, _, h, r => by
    cases h
    obtain ⟨t, rfl⟩ := r
    exact ⟨_, Reads.str x t⟩
  | .list ds, _, _, h, r => by
    cases h with
    | lst hs ha =>
      cases r
      obtain ⟨its, rv, ⟨o, n, ho, hc, _, hd⟩, _⟩ := I.list hs
      obtain ⟨as, hr⟩ := DpXs.reads I ds _ its ha rv
      exact ⟨_, Reads.list ho hc hd hr⟩
  | .tuple ds, _, _, h, r => by
    cases h with
    | tup hs ha =>
      cases r
      obtain ⟨its, rv, ⟨o, ho, hc, n, hd⟩, _⟩ := I.tuple hs
      obtain ⟨as, hr⟩ := DpXs.reads I ds _ its ha rv
      exact ⟨_, Reads.tuple ho hc hd hr⟩
  | .dict _, _, _, h, r => by
    cases h with
    | emp e =>
      cases r
      obtain ⟨_, o, n, h1, h2, h3⟩ := emp_obj I e
      exact ⟨_, Reads.dict (kvs := []) h1 h2 h3 .nil .nil⟩
theorem DpXs.reads (I : Inv X pins σ H s) : ∀ (ds : List PyData) (vs : List V) (us : List Value), DpXs X.K H vs ds → Vals vs us → ∃ as, ReadsAll s.heap us ds as
  | [], _, _, h, r => by
    cases h
    cases r
    exact ⟨_, ReadsAll.nil⟩
  | d :: ds, _, _, h, r => by
    cases h with
    | cons h1 h2 =>
      cases r with
      | cons r1 r2 =>
        obtain ⟨as, q1⟩ := DpX.reads I d _ _ h1 r1
        obtain ⟨bs, q2⟩ := DpXs.reads I ds _ _ h2 r2
        exact ⟨_, ReadsAll.cons q1 q2⟩
end
mutual
theorem DpX.reprK (I : Inv X pins σ H s) : ∀ (d : PyData) (v : V) (u : Value), DpX X.K H v d → RelV v u → d.showable = true → d.shown.length ≤ sizeLine → ∃ bs, ReadAtMost s.heap d.depth bs ∧ ReprK X.prog X.w bs s.heap d.depth u d.shown
  | .none, _, _, h, r, _, _ => by
    cases h
    cases r
    exact ⟨[], (fun _ h => nomatch h), by simp only [PyData.shown]; exact .of_is ReprIs.none _ _ _⟩
  | .bool b, _, _, h, r, _, _ => by
    cases h
    cases r
    exact ⟨[], (fun _ h => nomatch h), by simp only [PyData.shown]; exact .of_is (ReprIs.bool b) _ _ _⟩
  | .int i, _, _, h, r, hs, _ => by
    cases h
    obtain ⟨t, rfl⟩ := r
    exact ⟨[], (fun _ h => nomatch h), by simp only [PyData.shown]; exact .of_is (ReprIs.int t (by simpa [PyData.showable] using hs)) _ _ _⟩
  | .str x, _, _, h, r, _, hz => by
    cases h
    obtain ⟨t, rfl⟩ := r
    exact ⟨[], (fun _ h => nomatch h), by simp only [PyData.shown]; exact .of_is (ReprIs.str x t (by simpa only [PyData.shown] using hz)) _ _ _⟩
  | .list ds, _, _, h, r, hs, hz => by
    cases h with
    | @lst a xs _ hs' ha =>
      cases r
      obtain ⟨its, rv, ⟨o, n, ho, hc, _, hd⟩, _⟩ := I.list hs'
      obtain ⟨as, hr⟩ := DpXs.reads I ds _ its ha rv
      have hz' : (listText (PyData.shownAll ds)).length ≤ sizeLine := by simpa only [PyData.shown] using hz
      obtain ⟨bs, hb, hk⟩ := DpXs.reprK I ds _ its ha rv (by simpa [PyData.showable] using hs) (fun t ht => Nat.le_trans (listText_mem_le ht) hz')
      have rr : Reads s.heap (.ref a) (.list ds) _ := .list ho hc hd hr
      have hna : a ∉ bs := not_mem_of_deeper rr (by simp only [PyData.depth]; omega) hb
      refine ⟨a :: bs, ReadAtMost.cons rr (by simp only [PyData.depth]; omega) hb, ?_⟩
      simp only [PyData.depth, PyData.shown]
      cases its with
      | nil =>
        cases hr
        simp only [PyData.shownAll, listText_nil]
        exact ReprK.listEmpty ho hc hd
      | cons x l => exact ReprK.list ho hc hd hna (by simpa using hk.length_eq) (fun i y e => hk.item i y (by simpa using e))
  | .tuple ds, _, _, h, r, hs, hz => by
    cases h with
    | @tup a xs _ hs' ha =>
      cases r
      obtain ⟨its, rv, ⟨o, ho, hc, n, hd⟩, _⟩ := I.tuple hs'
      obtain ⟨as, hr⟩ := DpXs.reads I ds _ its ha rv
      have hz' : (tupleText (PyData.shownAll ds)).length ≤ sizeLine := by simpa only [PyData.shown] using hz
      obtain ⟨bs, hb, hk⟩ := DpXs.reprK I ds _ its ha rv (by simpa [PyData.showable] using hs) (fun t ht => Nat.le_trans (tupleText_mem_le ht) hz')
      have rr : Reads s.heap (.ref a) (.tuple ds) _ := .tuple ho hc hd hr
      have hna : a ∉ bs := not_mem_of_deeper rr (by simp only [PyData.depth]; omega) hb
      refine ⟨a :: bs, ReadAtMost.cons rr (by simp only [PyData.depth]; omega) hb, ?_⟩
      simp only [PyData.depth, PyData.shown]
      exact ReprK.tuple ho hc hd hna hk
  | .dict _, _, _, h, r, _, hz => by
    cases h with
    | @emp a e =>
      cases r
      obtain ⟨hsys, o, n, h1, h2, h3⟩ := emp_obj I e
      have rr : Reads s.heap (.ref a) (.dict []) _ := .dict (kvs := []) h1 h2 h3 .nil .nil
      have h0 : ReadAtMost s.heap 0 [] := fun _ h => nomatch h
      refine ⟨[a], ReadAtMost.cons rr (by simp only [PyData.depth]; omega) h0, ?_⟩
      simp only [PyData.depth, PyData.shown, PyData.depthKv, PyData.shownKv]
      exact ReprK.dict h1 h2 h3 hsys (by simp) .nil
theorem DpXs.reprK (I : Inv X pins σ H s) : ∀ (ds : List PyData) (vs : List V) (us : List Value), DpXs X.K H vs ds → Vals vs us → PyData.showableAll ds = true → (∀ t ∈ PyData.shownAll ds, t.length ≤ sizeLine) →
    ∃ bs, ReadAtMost s.heap (PyData.depthAll ds) bs ∧ ReprAllK X.prog X.w bs s.heap (PyData.depthAll ds) us (PyData.shownAll ds)
  | [], _, _, h, r, _, _ => by
    cases h
    cases r
    exact ⟨[], (fun _ h => nomatch h), by simp only [PyData.shownAll]; exact .nil⟩
  | d :: ds, _, _, h, r, hs, hz => by
    cases h with
    | cons h1 h2 =>
      cases r with
      | cons r1 r2 =>
        have hs' : d.showable = true ∧ PyData.showableAll ds = true := by simpa [PyData.showableAll] using hs
        obtain ⟨b1, hb1, k1⟩ := DpX.reprK I d _ _ h1 r1 hs'.1 (hz _ (by simp only [PyData.shownAll]; exact List.mem_cons_self ..))
        obtain ⟨b2, hb2, k2⟩ := DpXs.reprK I ds _ _ h2 r2 hs'.2 (fun t ht => hz t (by simp only [PyData.shownAll]; exact List.mem_cons_of_mem _ ht))
        refine ⟨b1 ++ b2, ?_, ?_⟩
        · intro b hm
          simp only [PyData.depthAll]
          rcases List.mem_append.mp hm with hm | hm
          · obtain ⟨d', as', r', hd'⟩ := hb1 b hm
            exact ⟨d', as', r', Nat.le_trans hd' (Nat.le_max_left _ _)⟩
          · obtain ⟨d', as', r', hd'⟩ := hb2 b hm
            exact ⟨d', as', r', Nat.le_trans hd' (Nat.le_max_right _ _)⟩
        · simp only [PyData.depthAll, PyData.shownAll]
          exact .cons ((k1.more fun b hb => List.mem_append_left _ hb).level_le (Nat.le_max_left _ _)) (k2.more_le (fun b hb => List.mem_append_right _ hb) (Nat.le_max_right _ _))
end
end
section
variable {X : Cx}
def rEqX (K : PySem.W.Frag) : R2 := fun x y H Q => ∃ d e, DpX K H x d ∧ DpX K H y e ∧ SeqAt.shaped d = true ∧ SeqAt.shaped e = true ∧ Q (.bl (PyData.eqv d e)) H
def rNeX (K : PySem.W.Frag) : R2 := fun x y H Q => ∃ d e, DpX K H x d ∧ DpX K H y e ∧ SeqAt.shaped d = true ∧ SeqAt.shaped e = true ∧ Q (.bl (!PyData.eqv d e)) H
def rInX (K : PySem.W.Frag) : R2 := fun x y H Q => ∃ d ds, DpX K H x d ∧ DpX K H y (.list ds) ∧ SeqAt.shaped d = true ∧ SeqAt.shaped (.list ds) = true ∧ Q (.bl (ds.any fun z => PyData.eqv z d)) H
theorem op_eqX (hu : X.A.units + 64 < cLine) : OpR X (compareOp .Eq) (rEqX X.K) := by
  intro pins s σ H x y v u Q I rx ry h
  obtain ⟨d, e, hd, he, sd, se, q⟩ := h
  obtain ⟨as, r1⟩ := DpX.reads I d x v hd rx
  obtain ⟨bs, r2⟩ := DpX.reads I e y u he ry
  exact SeqAt.compareEq_shaped r1 r2 sd se hu ⟨.bl _, H, I, rfl, q⟩
theorem op_neX (hu : X.A.units + 64 < cLine) : OpR X (compareOp .NotEq) (rNeX X.K) := by
  intro pins s σ H x y v u Q I rx ry h
  obtain ⟨d, e, hd, he, sd, se, q⟩ := h
  obtain ⟨as, r1⟩ := DpX.reads I d x v hd rx
  obtain ⟨bs, r2⟩ := DpX.reads I e y u he ry
  exact SeqAt.compareNe_shaped r1 r2 sd se hu ⟨.bl _, H, I, rfl, q⟩
theorem op_inX (hu : X.A.units + 65 < cLine) : OpR X (compareOp .In) (rInX X.K) := by
  intro pins s σ H x y v u Q I rx ry h
  obtain ⟨d, ds, hd, he, sd, se, q⟩ := h
  obtain ⟨as, r1⟩ := DpX.reads I d x v hd rx
  obtain ⟨bs, r2⟩ := DpX.reads I (.list ds) y u he ry
  exact SeqAt.in_list_reads r2 r1 (SeqAt.canLay_of_shaped se) (SeqAt.canLay_of_shaped sd) (room_in_shaped sd hu) ⟨.bl _, H, I, rfl, q⟩
/-- the kind of such data -/
def tyD : PyData → String
  | .none => "NoneType"
  | .bool _ => "bool"
  | .int _ => "int"
  | .str _ => "str"
  | .list _ => "list"
  | .tuple _ => "tuple"
  | .dict _ => "dict"
theorem DpX.ty {K : PySem.W.Frag} {H : Hp} {v : V} {d : PyData} (h : DpX K H v d) : TyX K H v (.type (tyD d)) := by
  cases h with
  | non => exact .base .non
  | bl b => exact .base (.bl b)
  | int i => exact .base (.int i)
  | str x => exact .base (.str x)
  | lst h _ =>
    rcases h with (h | ⟨o, h⟩) | ⟨o, its, n, h1, h2, _⟩
    · exact .base (.lst h)
    · exact .base (.frz h)
    · exact .kList h1 h2
  | tup h _ =>
    rcases h with (h | ⟨o, h⟩) | ⟨o, its, n, h1, h2, _⟩
    · exact .base (.tup h)
    · exact .fTuple h
    · exact .kTuple h1 h2
  | emp h => exact .base (.dK h)
def isStr : PyData → Bool
  | .str _ => true
  | _ => false
def isTup : PyData → Bool
  | .tuple _ => true
  | _ => false
def isLst : PyData → Bool
  | .list _ => true
  | _ => false
theorem kit_str {K : PySem.W.Frag} : ∀ d : PyData, PySem.W.kitOne K (.type (tyD d)) (.type "str") = some (isStr d)
  | .none => kit_ty (show kitB "NoneType" "str" = some false by decide +kernel)
  | .bool _ => kit_ty (show kitB "bool" "str" = some false by decide +kernel)
  | .int _ => kit_ty (show kitB "int" "str" = some false by decide +kernel)
  | .str _ => kit_ty (show kitB "str" "str" = some true by decide +kernel)
  | .list _ => kit_ty (show kitB "list" "str" = some false by decide +kernel)
  | .tuple _ => kit_ty (show kitB "tuple" "str" = some false by decide +kernel)
  | .dict _ => kit_ty (show kitB "dict" "str" = some false by decide +kernel)
theorem kit_tup {K : PySem.W.Frag} : ∀ d : PyData, PySem.W.kitOne K (.type (tyD d)) (.type "tuple") = some (isTup d)
  | .none => kit_ty (show kitB "NoneType" "tuple" = some false by decide +kernel)
  | .bool _ => kit_ty (show kitB "bool" "tuple" = some false by decide +kernel)
  | .int _ => kit_ty (show kitB "int" "tuple" = some false by decide +kernel)
  | .str _ => kit_ty (show kitB "str" "tuple" = some false by decide +kernel)
  | .list _ => kit_ty (show kitB "list" "tuple" = some false by decide +kernel)
  | .tuple _ => kit_ty (show kitB "tuple" "tuple" = some true by decide +kernel)
  | .dict _ => kit_ty (show kitB "dict" "tuple" = some false by decide +kernel)
theorem kit_lst {K : PySem.W.Frag} : ∀ d : PyData, PySem.W.kitOne K (.type (tyD d)) (.type "list") = some (isLst d)
  | .none => kit_ty (show kitB "NoneType" "list" = some false by decide +kernel)
  | .bool _ => kit_ty (show kitB "bool" "list" = some false by decide +kernel)
  | .int _ => kit_ty (show kitB "int" "list" = some false by decide +kernel)
  | .str _ => kit_ty (show kitB "str" "list" = some false by decide +kernel)
  | .list _ => kit_ty (show kitB "list" "list" = some true by decide +kernel)
  | .tuple _ => kit_ty (show kitB "tuple" "list" = some false by decide +kernel)
  | .dict _ => kit_ty (show kitB "dict" "list" = some false by decide +kernel)
/-- repr(x), x such data of any kind -/
def rRepX (K : PySem.W.Frag) : List V → Hp → VK → Prop := fun xs H Q => ∃ (x : V) (d : PyData), xs = [x] ∧ DpX K H x d ∧ d.showable = true ∧ d.depth ≤ 20 ∧ d.shown.length ≤ sizeLine ∧ Q (.str d.shown) H
theorem call_repX (hgu : X.A.guards = some []) (hu : X.A.units + 64 < cLine) : CallR X (.builtin "repr") (rRepX X.K) := by
  intro pins s σ H xs us Q I r h
  obtain ⟨x, d, rfl, hd, hs, hdep, hz, q⟩ := h
  cases r with
  | cons r1 r2 =>
    cases r2
    rename_i u
    cases hd with
    | non =>
      cases r1
      simp only [PyData.shown] at q
      exact PySem.P.repr_of_none ⟨.str _, H, I.tok _, ⟨_, rfl⟩, q⟩
    | bl b =>
      cases r1
      simp only [PyData.shown] at q
      exact PySem.P.repr_of_bool ⟨.str _, H, I.tok _, ⟨_, rfl⟩, q⟩
    | int i =>
      obtain ⟨t, rfl⟩ := r1
      simp only [PyData.shown] at q
      exact PySem.P.repr_of_int (by simpa [PyData.showable] using hs) ⟨.str _, H, I.tok _, ⟨_, rfl⟩, q⟩
    | str z =>
      obtain ⟨t, rfl⟩ := r1
      simp only [PyData.shown] at q hz
      exact PySem.P.repr_of_str ⟨.str _, H, I.tok _, ⟨_, rfl⟩, q⟩ hz
    | @lst a xs ds hs' ha =>
      cases r1
      obtain ⟨its, rv, ⟨o, n, ho, hc, _, hdd⟩, _⟩ := I.list hs'
      obtain ⟨as, hr⟩ := DpXs.reads I ds _ its ha rv
      have hz' : (listText (PyData.shownAll ds)).length ≤ sizeLine := by simpa only [PyData.shown] using hz
      obtain ⟨bs, hb, hk⟩ := DpXs.reprK I ds _ its ha rv (by simpa [PyData.showable] using hs) (fun t ht => Nat.le_trans (listText_mem_le ht) hz')
      have rr : Reads s.heap (.ref a) (.list ds) _ := .list ho hc hdd hr
      have hna : a ∉ bs := not_mem_of_deeper rr (by simp only [PyData.depth]; omega) hb
      simp only [PyData.depth] at hdep
      simp only [PyData.shown] at q
      refine call_repr_slot (T := "list") (by omega) ⟨o, ho, hc⟩ PySem.F.slot_list_repr.toG ?_
      cases its with
      | nil =>
        cases hr
        simp only [PyData.shownAll, listText_nil] at q
        exact call_list_repr_empty ⟨o, ho, hc⟩ ho hdd ⟨_, _, rfl, .str _, H, I.tok _, ⟨_, rfl⟩, q⟩
      | cons y l =>
        exact call_list_reprK ho hc hdd hna (by simpa using hk.length_eq) (fun i y e => hk.item i y (by simpa using e)) (A := X.A.in1) hgu (fun b _ => Clear.nil b) (by show X.A.units + 1 + _ < cLine; omega) (fun _ _ z => z) (fun h' u tk keep => ⟨_, _, rfl, .str _, H, I.kept (t' := tk) keep, ⟨_, rfl⟩, q⟩) hz'
    | @tup a xs ds hs' ha =>
      cases r1
      obtain ⟨its, rv, ⟨o, ho, hc, n, hdd⟩, _⟩ := I.tuple hs'
      obtain ⟨as, hr⟩ := DpXs.reads I ds _ its ha rv
      have hz' : (tupleText (PyData.shownAll ds)).length ≤ sizeLine := by simpa only [PyData.shown] using hz
      obtain ⟨bs, hb, hk⟩ := DpXs.reprK I ds _ its ha rv (by simpa [PyData.showable] using hs) (fun t ht => Nat.le_trans (tupleText_mem_le ht) hz')
      have rr : Reads s.heap (.ref a) (.tuple ds) _ := .tuple ho hc hdd hr
      have hna : a ∉ bs := not_mem_of_deeper rr (by simp only [PyData.depth]; omega) hb
      simp only [PyData.depth] at hdep
      simp only [PyData.shown] at q
      refine call_repr_slot (T := "tuple") (by omega) ⟨o, ho, hc⟩ PySem.F.slot_tuple_repr ?_
      exact call_tuple_reprK ho hc hdd hna hk (A := X.A.in1) hgu (fun b _ => Clear.nil b) (by show X.A.units + 1 + _ < cLine; omega) (fun _ _ z => z) (fun h' u tk keep => ⟨_, _, rfl, .str _, H, I.kept (t' := tk) keep, ⟨_, rfl⟩, q⟩) hz'
    | @emp a e =>
      cases r1
      obtain ⟨hsys, o, n, h1, h2, h3⟩ := emp_obj I e
      have hz' : (dictText []).length ≤ sizeLine := by simpa only [PyData.shown, PyData.shownKv] using hz
      simp only [PyData.shown, PyData.shownKv] at q
      refine call_repr_slot (T := "dict") (by omega) ⟨o, h1, h2⟩ PySem.F.slot_dict_repr ?_
      exact call_dict_reprK (as := []) (d := 0) h1 h2 h3 hsys (by simp) .nil (A := X.A.in1) hgu (fun b _ => Clear.nil b) (by show X.A.units + 1 + _ < cLine; omega) (fun _ _ z => z) (fun h' u tk keep => ⟨_, _, rfl, .str _, H, I.kept (t' := tk) keep, ⟨_, rfl⟩, q⟩) hz'
end
end SE
namespace SE
open PySem PySem.Spec PyProof.Rows L2
/-! ### data whose dicts are empty -/
mutual
def layE : PyData → Bool
  | .none | .bool _ | .int _ => true
  | .str x => PyData.strOk x
  | .list xs | .tuple xs => layEAll xs
  | .dict kvs => kvs.isEmpty
def layEAll : List PyData → Bool
  | [] => true
  | x :: xs => layE x && layEAll xs
end
mutual
theorem layE_of : ∀ d : PyData, d.canLay0 = true → layE d = true
  | .none, _ => by simp only [layE]
  | .bool _, _ => by simp only [layE]
  | .int _, _ => by simp only [layE]
  | .str x, h => by simpa only [layE, PyData.canLay0] using h
  | .list xs, h => by
    simp only [layE]
    exact layEAll_of xs (by simpa only [PyData.canLay0] using h)
  | .tuple xs, h => by
    simp only [layE]
    exact layEAll_of xs (by simpa only [PyData.canLay0] using h)
  | .dict _, h => by simp only [PyData.canLay0] at h; exact nomatch h
theorem layEAll_of : ∀ xs : List PyData, PyData.canLayAll0 xs = true → layEAll xs = true
  | [], _ => by simp only [layEAll]
  | x :: xs, h => by
    have h' : x.canLay0 = true ∧ PyData.canLayAll0 xs = true := by simpa only [PyData.canLayAll0, Bool.and_eq_true] using h
    simp only [layEAll, Bool.and_eq_true]
    exact ⟨layE_of x h'.1, layEAll_of xs h'.2⟩
end
mutual
theorem leavesShort_of_layE : ∀ d : PyData, layE d = true → d.intsShort 13 = true → d.leavesShort 13 = true
  | .none, _, _ => rfl
  | .bool _, _, _ => rfl
  | .int i, _, h => by simpa only [PyData.leavesShort, PyData.intsShort] using h
  | .str x, hc, _ => PyData.leavesShort_of_canLay0 13 (.str x) (by simpa only [layE, PyData.canLay0] using hc) rfl
  | .list xs, hc, h => by
    simp only [PyData.leavesShort]
    exact leavesShortAll_of_layE xs (by simpa only [layE] using hc) (by simpa only [PyData.intsShort] using h)
  | .tuple xs, hc, h => by
    simp only [PyData.leavesShort]
    exact leavesShortAll_of_layE xs (by simpa only [layE] using hc) (by simpa only [PyData.intsShort] using h)
  | .dict kvs, hc, _ => by
    simp only [layE, List.isEmpty_iff] at hc
    rw [hc]
    rfl
theorem leavesShortAll_of_layE : ∀ xs : List PyData, layEAll xs = true → PyData.intsShortAll 13 xs = true → PyData.leavesShortAll 13 xs = true
  | [], _, _ => rfl
  | x :: xs, hc, h => by
    have hc' : layE x = true ∧ layEAll xs = true := by simpa only [layEAll, Bool.and_eq_true] using hc
    have h' : x.intsShort 13 = true ∧ PyData.intsShortAll 13 xs = true := by simpa only [PyData.intsShortAll, Bool.and_eq_true] using h
    simp only [PyData.leavesShortAll, Bool.and_eq_true]
    exact ⟨leavesShort_of_layE x hc'.1 h'.1, leavesShortAll_of_layE xs hc'.2 h'.2⟩
end
/-! ### small data -/
structure NX (k B : Nat) (d : PyData) : Prop where
  lay : layE d = true
  dep : d.depth ≤ k
  sh : d.showable = true
  ish : d.intsShort 13 = true
  wt : d.weight ≤ B
theorem NX.mono {k j B C : Nat} {d : PyData} (h : NX k B d) (hk : k ≤ j) (hB : B ≤ C) : NX j C d := ⟨h.lay, Nat.le_trans h.dep hk, h.sh, h.ish, Nat.le_trans h.wt hB⟩
theorem Nice.nx {k B : Nat} {d : PyData} (h : Nice k B d) : NX k B d := ⟨layE_of _ h.lay, h.dep, h.sh, h.ish, h.wt⟩
theorem nx_all {k B : Nat} : ∀ {ds : List PyData}, (∀ d ∈ ds, NX k B d) → layEAll ds = true ∧ PyData.depthAll ds ≤ k ∧ PyData.showableAll ds = true ∧ PyData.intsShortAll 13 ds = true ∧ PyData.weightAll ds ≤ ds.length * (B + 1)
  | [], _ => by
    refine ⟨?_, ?_, ?_, ?_, ?_⟩
    · simp only [layEAll]
    · simp only [PyData.depthAll]
      exact Nat.zero_le _
    · simp only [PyData.showableAll]
    · simp only [PyData.intsShortAll]
    · simp only [PyData.weightAll]
      exact Nat.zero_le _
  | d :: ds, h => by
    obtain ⟨a1, a2, a3, a5, a6⟩ := nx_all (ds := ds) fun x hx => h x (List.mem_cons_of_mem _ hx)
    have q := h d List.mem_cons_self
    refine ⟨?_, ?_, ?_, ?_, ?_⟩
    · simp only [layEAll, q.lay, a1, Bool.and_self]
    · simp only [PyData.depthAll]
      exact Nat.max_le.mpr ⟨q.dep, a2⟩
    · simp only [PyData.showableAll, q.sh, a3, Bool.and_self]
    · simp only [PyData.intsShortAll, q.ish, a5, Bool.and_self]
    · simp only [PyData.weightAll, List.length_cons]
      have := q.wt
      rw [Nat.add_mul]
      omega
theorem nx_list {k B : Nat} {ds : List PyData} (h : ∀ d ∈ ds, NX k B d) : NX (k + 1) (ds.length * (B + 1)) (.list ds) := by
  obtain ⟨a1, a2, a3, a5, a6⟩ := nx_all h
  exact ⟨by simp only [layE]; exact a1, by simp only [PyData.depth]; omega, by simp only [PyData.showable]; exact a3, by simp only [PyData.intsShort]; exact a5, by simp only [PyData.weight]; exact a6⟩
theorem nx_tuple {k B : Nat} {ds : List PyData} (h : ∀ d ∈ ds, NX k B d) : NX (k + 1) (ds.length * (B + 1)) (.tuple ds) := by
  obtain ⟨a1, a2, a3, a5, a6⟩ := nx_all h
  exact ⟨by simp only [layE]; exact a1, by simp only [PyData.depth]; omega, by simp only [PyData.showable]; exact a3, by simp only [PyData.intsShort]; exact a5, by simp only [PyData.weight]; exact a6⟩
theorem all_elem {k B : Nat} : ∀ {ds : List PyData}, layEAll ds = true → PyData.depthAll ds ≤ k → PyData.showableAll ds = true → PyData.intsShortAll 13 ds = true → PyData.weightAll ds ≤ B → (∀ d ∈ ds, NX k B d) ∧ ds.length ≤ B
  | [], _, _, _, _, _ => ⟨fun d m => (by cases m), Nat.zero_le _⟩
  | d :: ds, h1, h2, h3, h4, h5 => by
    simp only [layEAll, Bool.and_eq_true] at h1
    simp only [PyData.depthAll] at h2
    simp only [PyData.showableAll, Bool.and_eq_true] at h3
    simp only [PyData.intsShortAll, Bool.and_eq_true] at h4
    simp only [PyData.weightAll] at h5
    have m2 := Nat.max_le.mp h2
    obtain ⟨q1, q2⟩ := all_elem (k := k) (B := B - 1) h1.2 m2.2 h3.2 h4.2 (by omega)
    refine ⟨fun x m => ?_, by rw [List.length_cons]; omega⟩
    rcases List.mem_cons.mp m with e | e
    · rw [e]
      exact ⟨h1.1, m2.1, h3.1, h4.1, by omega⟩
    · exact (q1 x e).mono (Nat.le_refl _) (by omega)
theorem NX.list {k B : Nat} {ds : List PyData} (h : NX k B (.list ds)) : (∀ d ∈ ds, NX k B d) ∧ ds.length ≤ B := by
  obtain ⟨a, b, c, d, e⟩ := h
  simp only [layE] at a
  simp only [PyData.depth] at b
  simp only [PyData.showable] at c
  simp only [PyData.intsShort] at d
  simp only [PyData.weight] at e
  exact all_elem a (by omega) c d e
theorem NX.tuple {k B : Nat} {ds : List PyData} (h : NX k B (.tuple ds)) : (∀ d ∈ ds, NX k B d) ∧ ds.length ≤ B := by
  obtain ⟨a, b, c, d, e⟩ := h
  simp only [layE] at a
  simp only [PyData.depth] at b
  simp only [PyData.showable] at c
  simp only [PyData.intsShort] at d
  simp only [PyData.weight] at e
  exact all_elem a (by omega) c d e
theorem NX.str {k B : Nat} {z : Str} (h : NX k B (.str z)) : z.length ≤ B := by
  have := h.wt
  simp only [PyData.weight] at this
  exact this
theorem NX.shown {k B : Nat} {d : PyData} (h : NX k B d) (hk : k ≤ 64) (hB : B ≤ 2 ^ 20) : d.shown.length ≤ sizeLine :=
  PyData.shown_fits (B := 13) (by decide) (by decide) (leavesShort_of_layE d h.lay h.ish) (Nat.le_trans h.wt hB)
/-- the data that the functions are asked about -/
abbrev OkD (d : PyData) : Prop := NX 20 100000 d
theorem big100 {n : Nat} (h : n ≤ 100001) : n ≤ sizeLine := by
  rw [sizeLine_eq]
  omega
/-! ### what the functions answer -/
def itemD : PyData → Bool
  | .str z => decide (1 ≤ z.length ∧ z.length ≤ 8) && (z.cps.toList.map fun c => decide (c ∈ abc.cps.toList)).all id
  | _ => false
def wordD : PyData → Bool
  | .tuple ds => (ds.map itemD).all id
  | _ => false
def actD : PyData → Bool
  | .str z => decide (z = "push" ∨ z = "pop")
  | _ => false
def stpD : PyData → Bool
  | .tuple [a, b] => actD a && itemD b
  | _ => false
def seqD : PyData → Bool
  | .list ds => decide (ds.length ≤ 1000) && (ds.map stpD).all id
  | .tuple ds => decide (ds.length ≤ 1000) && (ds.map stpD).all id
  | _ => false
end SE
namespace SE
open PySem PySem.Spec PyProof.Rows L2
theorem bl_take {α : Type} {f : α → Bool} {l : List α} {j : Nat} {x : α} (h : l[j]? = some x) : ((l.take j).map f).map V.bl ++ [V.bl (f x)] = ((l.take (j + 1)).map f).map V.bl := by
  rw [List.take_add_one, h, List.map_append, List.map_append]
  rfl
theorem itemD_str (z : Str) : itemD (.str z) = (decide (1 ≤ z.length ∧ z.length ≤ 8) && (z.cps.toList.map fun c => decide (c ∈ abc.cps.toList)).all id) := rfl
section
variable {P : Program} {w : World} {K : PySem.W.Frag} {mg : Str → Option Value} {base : Heap}
/-! ### is_item, is_word -/
def spX (K : PySem.W.Frag) (f : PyData → Bool) : Sp := fun xs H Q _ => ∃ (v : V) (d : PyData), xs = [v] ∧ DpX K H v d ∧ OkD d ∧ ∀ H', Same H H' → Q (.bl (f d)) H'
theorem has_itemX (D : Def K mg "is_item" sIsItem) (B : Blt mg) (C : Cons K w mg) : Has P w K mg base "is_item" 1 ["value"] [] (spX K itemD) := by
  obtain ⟨tl, hL⟩ := C.let_
  obtain ⟨tm, hM⟩ := C.ml
  refine has_of D scIsItem (fun _ _ _ _ _ _ us hl => match us, hl with | [_], _ => rfl) (fun xs H Q E h => ?_) (fun f cv A out s H xs Q E hr h => ?_)
  · obtain ⟨v, d, rfl, _⟩ := h
    rfl
  · obtain ⟨v, d, rfl, hd, ok, k⟩ := h
    refine ⟨_, pss_cons (ps_if (PW.pt (pw_or (pt_not (pt_val (pe_callB call_isi (by rfl) B.isi (by decide +kernel) (pa_cons (pv 0) (pa_cons (pe_bltn (v := .ty "str") (by rfl) B.str (by decide +kernel) rfl) pa_nil)))))
        (pw_or1 (pt_not (pt_chain op_le op_le pe_int (pe_callB call_len_str (by rfl) B.len PySem.boot_len (pa_cons (pv 0) pa_nil)) (pe_glob (v := .int 8) rfl hM ⟨_, rfl⟩)))))) (pss_one (ps_ret pe_bl)) pss_nil)
      (pss_one (ps_ret (pe_callB (cr_all rfl) (by rfl) B.all (by decide +kernel) (pa_cons
        (pe_lc (own := [("letter", 1)]) (g := gName 1) (tt := tYes) rfl scIsItem.nd (pi_str (pv 0)) (blkOk_by (own := [("letter", 1)]) (N := ["value", "letter"]) (sc := defScope sIsItem) (by decide +kernel))
          (fun _ _ _ _ _ => pg_name (i := 1) scIsItem.nd rfl (.inl rfl)) (fun _ _ _ _ _ => pts_nil) (fun _ _ _ _ _ => pe_cmpR op_in_sign (pv 1) (pe_glob (v := .str abc) rfl hL ⟨_, rfl⟩) (by rfl))) pa_nil)))), ?_⟩
    refine ⟨_, rfl, _, .ty "str", .type (tyD d), .type "str", isStr d, rfl, .ty _, hd.ty, kit_str d, _, rfl, ?_⟩
    cases hd with
    | non => exact iteT (iteT (k H (Same.refl H)))
    | bl b => exact iteT (iteT (k H (Same.refl H)))
    | int i => exact iteT (iteT (k H (Same.refl H)))
    | lst _ _ => exact iteT (iteT (k H (Same.refl H)))
    | tup _ _ => exact iteT (iteT (k H (Same.refl H)))
    | emp _ => exact iteT (iteT (k H (Same.refl H)))
    | str z =>
      refine iteF ?_
      have zl : z.length ≤ 100000 := ok.str
      refine ⟨_, rfl, z, rfl, big100 (by omega), 1, _, rfl, rfl, _, rfl, ?_⟩
      by_cases p1 : 1 ≤ z.length
      · have e1 : decide ((1 : Int) ≤ (z.length : Int)) = true := decide_eq_true (by omega)
        rw [e1]
        refine iteT ⟨_, 8, rfl, rfl, _, rfl, ?_⟩
        by_cases p2 : z.length ≤ 8
        · have e2 : decide ((z.length : Int) ≤ 8) = true := decide_eq_true (by omega)
          rw [e2]
          refine iteF ?_
          have e3 : itemD (.str z) = (z.cps.toList.map fun c => decide (c ∈ abc.cps.toList)).all id := by
            rw [itemD_str, decide_eq_true ⟨p1, p2⟩, Bool.true_and]
          rw [e3] at k
          refine ⟨_, rfl, z, rfl, fun D hD => lc_it walk_str (fun j H2 => H2 D = some (.lst (((z.cps.toList.take j).map fun c => decide (c ∈ abc.cps.toList)).map V.bl)) ∧ Same H H2) ⟨upd_same, Same.new hD⟩ (fun _ _ _ _ => trivial) ?_ ?_⟩
          · rintro j x H2 H3 hj ⟨h2, s2⟩ ⟨rfl, c, hc, rfl⟩
            have q : z.cps.toList[j]? = some c := by rw [Array.getElem?_toList]; exact hc
            refine ⟨rfl, yes_in ⟨_, rfl, c, abc, rfl, rfl, _, h2, ?_, ?_, Same.free2 s2 hD⟩⟩
            · rw [List.length_map, List.length_map, List.length_take]
              exact small1000 (by have : j < z.length := hj; omega)
            · rw [upd_same, bl_take (f := fun c => decide (c ∈ abc.cps.toList)) q]
          · rintro H2 ⟨h2, s2⟩
            rw [List.take_of_length_le (by rw [Array.length_toList]; exact Nat.le_refl _)] at h2
            exact ⟨D, _, rfl, .of h2, k H2 s2⟩
        · have e2 : decide ((z.length : Int) ≤ 8) = false := decide_eq_false (by omega)
          rw [e2]
          have e3 : itemD (.str z) = false := by
            rw [itemD_str, decide_eq_false (fun q => p2 q.2), Bool.false_and]
          rw [e3] at k
          exact iteT (k H (Same.refl H))
      · have e1 : decide ((1 : Int) ≤ (z.length : Int)) = false := decide_eq_false (by omega)
        rw [e1]
        have e3 : itemD (.str z) = false := by
          rw [itemD_str, decide_eq_false (fun q => p1 q.1), Bool.false_and]
        rw [e3] at k
        exact iteF ⟨false, rfl, iteT (k H (Same.refl H))⟩
theorem has_wordX (D : Def K mg "is_word" sIsWord) (G : Has P w K mg base "is_item" 1 ["value"] [] (spX K itemD)) (B : Blt mg) : Has P w K mg base "is_word" 2 ["value"] [] (spX K wordD) := by
  refine has_of D scIsWord (fun _ _ _ _ _ _ us hl => match us, hl with | [_], _ => rfl) (fun xs H Q E h => ?_) (fun f cv A out s H xs Q E hr h => ?_)
  · obtain ⟨v, d, rfl, _⟩ := h
    rfl
  · obtain ⟨v, d, rfl, hd, ok, k⟩ := h
    refine ⟨_, pss_one (ps_ret (pe_and (pe_callB call_isi (by rfl) B.isi (by decide +kernel) (pa_cons (pv 0) (pa_cons (pe_bltn (v := .ty "tuple") (by rfl) B.tup (by decide +kernel) rfl) pa_nil)))
      (pe_one (pe_callB (cr_all rfl) (by rfl) B.all (by decide +kernel) (pa_cons
        (pe_lc (own := [("item", 1)]) (g := gName 1) (tt := tYes) (te := tCall (spX K itemD) [] E0 (tCons (tVar 1) tNil)) rfl scIsWord.nd (pi_tup (pv 0)) (blkOk_by (own := [("item", 1)]) (N := ["value", "item"]) (sc := defScope sIsWord) (by decide +kernel))
          (fun _ _ _ _ _ => pg_name (i := 1) scIsWord.nd rfl (.inl rfl)) (fun _ _ _ _ _ => pts_nil) (fun _ _ _ _ _ => pe_has G hr (pa_cons (pv 1) pa_nil))) pa_nil))))), ?_⟩
    refine ⟨_, rfl, _, .ty "tuple", .type (tyD d), .type "tuple", isTup d, rfl, .ty _, hd.ty, kit_tup d, _, rfl, ?_⟩
    cases hd with
    | non => exact iteF (k H (Same.refl H))
    | bl b => exact iteF (k H (Same.refl H))
    | int i => exact iteF (k H (Same.refl H))
    | str z => exact iteF (k H (Same.refl H))
    | lst _ _ => exact iteF (k H (Same.refl H))
    | emp _ => exact iteF (k H (Same.refl H))
    | @tup a xs ds hT ha =>
      refine iteT ?_
      obtain ⟨oks, ln⟩ := ok.tuple
      have le := ha.len
      refine ⟨_, rfl, a, rfl, ⟨_, hT⟩, fun D hD => lc_tup (K := K) (a := a) (xs := xs) (fun j H2 => H2 D = some (.lst (((ds.take j).map itemD).map V.bl)) ∧ Same H H2) ⟨upd_same, Same.new hD⟩ (fun _ _ _ q => Same.tup q.2 hT) ?_ ?_⟩
      · rintro j x H2 hj ⟨h2, s2⟩
        obtain ⟨e, he, hx⟩ := ha.at hj
        refine ⟨rfl, yes_in ⟨_, rfl, x, e, rfl, DpX.same s2 e x hx, oks e (List.mem_of_getElem? he), fun H3 s3 => ⟨_, s3 _ _ h2, ?_, ?_, Same.free2 (s2.trans s3) hD⟩⟩⟩
        · rw [List.length_map, List.length_map, List.length_take, sizeLine_eq]
          omega
        · rw [upd_same, bl_take he]
      · rintro H2 ⟨h2, s2⟩
        rw [le, List.take_length] at h2
        exact ⟨D, _, rfl, .of h2, k H2 s2⟩
end
end SE
/-! len(set(t)), t a list or tuple of any texts. -/
namespace SE
open PySem PySem.Spec PyProof.Rows L2
/-- the different ones -/
def ded : List Str → List Str
  | [] => []
  | x :: xs => if x ∈ xs then ded xs else x :: ded xs
theorem mem_ded (y : Str) : ∀ xs : List Str, y ∈ ded xs ↔ y ∈ xs
  | [] => Iff.rfl
  | x :: xs => by
    unfold ded
    by_cases m : x ∈ xs
    · rw [if_pos m, mem_ded y xs, List.mem_cons]
      refine ⟨.inr, fun h => h.elim (fun e => by rw [e]; exact m) id⟩
    · rw [if_neg m, List.mem_cons, List.mem_cons, mem_ded y xs]
theorem nd_ded : ∀ xs : List Str, (ded xs).Nodup
  | [] => List.nodup_nil
  | x :: xs => by
    unfold ded
    by_cases m : x ∈ xs
    · rw [if_pos m]
      exact nd_ded xs
    · rw [if_neg m]
      exact List.nodup_cons.mpr ⟨fun z => m ((mem_ded x xs).mp z), nd_ded xs⟩
/-- how many different ones -/
def dn (xs : List Str) : Nat := (ded xs).length
theorem sub_le : ∀ {ys zs : List Str}, ys.Nodup → (∀ y ∈ ys, y ∈ zs) → ys.length ≤ zs.length
  | [], _, _, _ => Nat.zero_le _
  | y :: ys, zs, nd, h => by
    obtain ⟨n1, n2⟩ := List.nodup_cons.mp nd
    have hy : y ∈ zs := h y List.mem_cons_self
    have ih := sub_le (zs := zs.erase y) n2 fun x hx => (List.mem_erase_of_ne (fun e => n1 (by rw [← e]; exact hx))).mpr (h x (List.mem_cons_of_mem _ hx))
    rw [List.length_erase_of_mem hy] at ih
    have : 0 < zs.length := List.length_pos_of_mem hy
    rw [List.length_cons]
    omega
theorem dn_sub {xs ys : List Str} (h : ∀ x ∈ xs, x ∈ ys) : dn xs ≤ dn ys := sub_le (nd_ded xs) fun y hy => (mem_ded y ys).mpr (h y ((mem_ded y xs).mp hy))
theorem dn_most (xs : List Str) : dn xs ≤ xs.length := sub_le (nd_ded xs) fun y hy => (mem_ded y xs).mp hy
theorem dn_snoc (xs : List Str) (x : Str) : dn (xs ++ [x]) = if x ∈ xs then dn xs else dn xs + 1 := by
  by_cases m : x ∈ xs
  · rw [if_pos m]
    refine Nat.le_antisymm (dn_sub fun y hy => ?_) (dn_sub fun y hy => List.mem_append_left _ hy)
    rcases List.mem_append.mp hy with q | q
    · exact q
    · rw [List.mem_singleton.mp q]
      exact m
  · rw [if_neg m]
    have nd : (x :: ded xs).Nodup := List.nodup_cons.mpr ⟨fun z => m ((mem_ded x xs).mp z), nd_ded xs⟩
    refine Nat.le_antisymm (sub_le (zs := x :: ded xs) (nd_ded _) fun y hy => ?_) (sub_le (ys := x :: ded xs) nd fun y hy => ?_)
    · rcases List.mem_append.mp ((mem_ded y _).mp hy) with q | q
      · exact List.mem_cons_of_mem _ ((mem_ded y xs).mpr q)
      · rw [List.mem_singleton.mp q]
        exact List.mem_cons_self
    · refine (mem_ded y _).mpr (List.mem_append.mpr ?_)
      rcases List.mem_cons.mp hy with q | q
      · exact .inr (List.mem_singleton.mpr q)
      · exact .inl ((mem_ded y xs).mp q)
section
variable {prog : Program} {w : World} {A : Around} {R : Result → Shared → Prop} {J : Addr} {fp wr : List Addr} {G : Array GenState → Array GenState → Prop} {n : Nat} {P : Nat → Value → Prop} {T : Nat → Shared → Prop}
/-- the texts so far -/
abbrev Upto (prog : Program) (w : World) (h : Heap) (S : Addr) (xs : List Str) (i : Nat) : Prop := h.SetOf (PySem.strKind prog w) S (fun k => (xs.take i).any (· == k)) (dn (xs.take i))
theorem fill_loop (W : WalksS prog w A.in1 J fp wr G n P T) (S : Addr) (nf : S ∉ fp) (xs : List Str) (hx : xs.length = n) (hm : n ≤ 4000)
    (hv : ∀ i v, P i v → ∃ t, v = .str (xs.getD i Str.empty) t) :
    ∀ (m i : Nat) (s : Shared), n - i = m → i ≤ n → T i s → Upto prog w s.heap S xs i →
      (∀ s2, Moved (S :: wr) G s s2 → Upto prog w s2.heap S xs n → R (.ok (.ret .none)) s2) →
      codeAny (model prog w) A (.builtin "set.update.loop" ⟨[.ref S, .ref J], []⟩) R s := by
  have nw : S ∉ wr := fun z => nf (W.sub _ z)
  have sw : ∀ b ∈ wr, b ∈ S :: wr := fun b z => List.mem_cons_of_mem _ z
  intro m
  induction m with
  | zero =>
    intro i s e1 e2 st hS k
    have e3 : i = n := by omega
    subst e3
    refine codeAny_builtin PyProof.Rows.F.entry_set_update_loop ?_
    rw [Around.under_plainId PyProof.Rows.F.plain_set_update_loop _]
    show wpAny _ A.in1 (pyNext (.ref J) >>= _) _ _ s
    refine wpAny_bind (W.done s _ _ st fun s2 mv => ?_)
    show wpAny _ A.in1 (ret Value.none) _ _ s2
    obtain ⟨o, es, ep, tb, ho, more⟩ := hS
    exact wpAny_pure (k s2 (mv.mono sw) ⟨o, es, ep, tb, mv.heap S _ nw ho, more⟩)
  | succ m ih =>
    intro i s e1 e2 st hS k
    have lt : i < n := by omega
    refine codeAny_builtin PyProof.Rows.F.entry_set_update_loop ?_
    rw [Around.under_plainId PyProof.Rows.F.plain_set_update_loop _]
    show wpAny _ A.in1 (pyNext (.ref J) >>= _) _ _ s
    refine wpAny_bind (W.item i s _ _ lt st fun v s2 pv st2 mv => ?_)
    obtain ⟨t, rfl⟩ := hv i v pv
    have hS2 : Upto prog w s2.heap S xs i := by
      obtain ⟨o, es, ep, tb, ho, more⟩ := hS
      exact ⟨o, es, ep, tb, mv.heap S _ nw ho, more⟩
    show wpAny _ A.in1 (holding [Value.str (xs.getD i Str.empty) t] (setAdd S (.str (xs.getD i Str.empty) t)) >>= _) _ _ s2
    refine wpAny_bind (wpAny_holding ?_)
    unfold setAdd
    refine wpAny_holding (wpAny_bind ((PySem.strKind prog w).pyHash (k := xs.getD i Str.empty) (strKind_is _ _ _ _) ?_))
    have few : dn (xs.take i) ≤ i := Nat.le_trans (dn_most _) (by rw [List.length_take]; omega)
    refine wpAny_setAddHashed_of (knd := PySem.strKind prog w) (s := { s2 with toks := s2.toks + 1 }) (strKind_is _ _ _ _) rfl hS2 (by unfold scanBound; omega) fun h3 but hS3 => ?_
    have at_ : xs[i]? = some (xs.getD i Str.empty) := by
      rw [List.getD_eq_getElem?_getD, List.getElem?_eq_getElem (by omega)]
      rfl
    have tk : xs.take (i + 1) = xs.take i ++ [xs.getD i Str.empty] := by
      rw [List.take_add_one, at_]
      rfl
    have inn : ((xs.take i).any (· == xs.getD i Str.empty)) = decide (xs.getD i Str.empty ∈ xs.take i) := by
      rw [Bool.eq_iff_iff, decide_eq_true_iff, List.any_eq_true]
      refine ⟨fun ⟨y, my, ey⟩ => ?_, fun z => ⟨_, z, beq_self_eq_true _⟩⟩
      rw [← eq_of_beq ey]
      exact my
    have next : Upto prog w h3 S xs (i + 1) := by
      refine SetOf_congr hS3 (fun y => ?_) ?_
      · rw [tk, List.any_append, List.any_cons, List.any_nil, Bool.or_false]
        congr 1
        by_cases e : y = xs.getD i Str.empty
        · subst e
          simp
        · rw [decide_eq_false e, beq_eq_false_iff_ne.mpr fun z => e z.symm]
      · rw [tk, dn_snoc]
        simp only [inn]
        by_cases q : xs.getD i Str.empty ∈ xs.take i
        · rw [decide_eq_true q, if_pos rfl, if_pos q]
        · rw [decide_eq_false q, if_neg Bool.false_ne_true, if_neg q]
    refine wpAny_pure ⟨plainId_quiet PyProof.Rows.F.plain_set_update_loop _, ih (i + 1) _ (by omega) lt (W.frame _ s2 _ _ st2 (Nat.le_succ _) fun b hb o e => ?_) next fun s4 mv4 hS4 => ?_⟩
    · rw [but.2 b (fun z : b = S => nf (by rw [← z]; exact hb))]
      exact e
    · refine k s4 (Moved.trans W.gtrans ((mv.mono sw).then_heap (Nat.le_succ _) fun b o hb e => ?_) mv4) hS4
      rw [but.2 b (fun z : b = S => hb (by rw [z]; exact List.mem_cons_self))]
      exact e
end
section
variable {prog : Program} {w : World} {A : Around} {E : Value → Shared → Prop} {s : Shared}
/-- a set that is just made -/
abbrev set0 (led : Bool) : Obj := { cls := .type "set", dict := none, data := .set #[] 0 (.fresh 0 0 led) }
theorem set_of_tuple {l : Addr} {items : Array Value} {xs : List Str} {Q : Value → Shared → Prop} (hh : A.handled = none) (hl : s.heap.IsTuple l items) (hi : StrsAre items.toList xs) (hm : xs.length ≤ 4000)
    (k : ∀ (h2 : Heap) (tk : Nat), Upto prog w h2 s.heap.objs.size xs items.size → (∀ b o, b < s.heap.objs.size → s.heap.get? b = some o → h2.get? b = some o) → Q (.ref s.heap.objs.size) { s with heap := h2, toks := tk }) :
    wpAny (model prog w) A (call (.type "set") [.ref l]) Q E s := by
  obtain ⟨c, tl, mro⟩ := PySem.F.called_set.mro
  have made := PySem.F.called_set.made
  have subs := PySem.F.called_set.sub
  refine wpAny_call (codeAny_of_tree ?_)
  show wpAny _ _ (callAny (.type "set") _) _ _ _
  refine wpAny_pure ⟨Code.quiet_builtin _ (by decide +kernel), codeAny_builtin PySem.F.entry_type_call ?_⟩
  rw [Around.under_plain (weight_type_call_type "set" [.ref l] []) rfl]
  have n1 := PySem.F.called_set.notType
  have n2 := PySem.F.called_set.canCreate
  have n3 := PySem.F.typeCall_set_1 (.ref l)
  repeat (any_goals (first | assumption | wp_step))
  refine codeAny_mono (code_set_new_1 (.ref l) (E := E) (Q₁ := fun v s1 => ∃ led : Bool, v = .ref s.heap.objs.size ∧ s1 = { s with heap := s.heap.push (set0 led) }) fun led => ⟨led, rfl, rfl⟩) fun r s1 hr => ?_
  cases r with
  | error e => exact hr
  | ok fl =>
    cases fl with
    | ret v =>
      obtain ⟨led, rfl, rfl⟩ := hr
      have hS : (s.heap.push (set0 led)).get? s.heap.objs.size = some (set0 led) := Heap.get?_push_size _ rfl
      have hT : Shared.TypeIs { s with heap := s.heap.push (set0 led) } (.ref s.heap.objs.size) "set" := ⟨_, hS, rfl⟩
      have n4 := PySem.F.called_set.init.lookup
      have n5 := PySem.F.called_set.init.bind (.ref s.heap.objs.size)
      repeat (any_goals (first | assumption | wp_step))
      refine codeAny_mono (codeAny_call_builtin (R := wants (fun r s2 => r = .none ∧ ∃ h2 tk, s2 = { s with heap := h2, toks := tk } ∧ Upto prog w h2 s.heap.objs.size xs items.size ∧
          (∀ b o, b < s.heap.objs.size → s.heap.get? b = some o → h2.get? b = some o)) E) PySem.F.called_set.init.plain PySem.F.entry_set_init (check_set_init_1 hT ?_)) fun r2 s2 hr2 => ?_
      · obtain ⟨ol, ho, hc, nl, hd⟩ := hl
        obtain ⟨oc, od, da, os⟩ := ol
        simp only at hc hd
        subst hc; subst hd
        have ho2 : (s.heap.push (set0 led)).get? l = some { cls := .type "tuple", dict := od, data := .seq items nl, slots := os } := Heap.get?_push_of_some _ ho
        have s1 := PySem.F.sub_tuple_set
        have s2 := PySem.F.sub_tuple_frozenset
        have s3 : (Value.type "tuple" == Value.type "dict") = false := by decide
        have hl1 : (s.heap.push (set0 led)).IsTuple l items := ⟨_, ho2, rfl, nl, rfl⟩
        unfold Builtin.«set.__init__» noKeywords Builtin.Frozenset.updateFrom
        generalize hPI : pyIter = PI
        wp_walk
        subst hPI
        refine wpAny_pyIter_tuple hl1 (wpAny_bind (wpAny_runValue ?_))
        have low : l < s.heap.objs.size := Heap.lt_size ho
        have hd3 : A.in1.in1.in1.handled = none := by simp [hh]
        have ne1 : l ≠ (s.heap.push (set0 led)).objs.size := by
          rw [Heap.size_push]
          exact Nat.ne_of_lt (Nat.lt_succ_of_lt low)
        have nf : s.heap.objs.size ∉ [(s.heap.push (set0 led)).objs.size, l] := by
          rw [Heap.size_push]
          simp only [List.mem_cons, List.mem_singleton, List.not_mem_nil, or_false, not_or]
          exact ⟨Nat.ne_of_lt (Nat.lt_succ_self _), Nat.ne_of_gt low⟩
        have hx : xs.length = items.size := by rw [← StrsAre.len_eq hi, Array.length_toList]
        have hv : ∀ (i : Nat) (v : Value), items[i]? = some v → ∃ t, v = .str (xs.getD i Str.empty) t := fun i v q => SS.strs_at hi i v (by rw [Array.getElem?_toList]; exact q)
        refine fill_loop ((Walks.tuple hd3 _ l ne1 items).toS) s.heap.objs.size nf xs hx (by omega) hv (items.size - 0) 0 _ (by omega) (Nat.zero_le _) ⟨⟨_, Heap.get?_push_size _ rfl, rfl, rfl⟩, (hl1.push _)⟩ ?fresh0 ?filled
        case fresh0 =>
          refine SetOf_congr ((PyProof.Rows.setObjOf_fresh (knd := PySem.strKind prog w) led).setOf (Heap.get?_push_of_some _ hS) (by unfold scanBound; omega)) (fun _ => rfl) rfl
        case filled =>
          intro s4 mv hS4
          obtain ⟨h4, g4, d4, t4, o4⟩ := s4
          cases (show g4 = s.gens from mv.gens)
          cases (show d4 = s.drawn from mv.drawn)
          cases (show o4 = s.os from mv.os)
          show wpAny _ _ _ _ _ _
          refine wpAny_pure ?_
          show wpAny _ _ (ret Value.none) _ _ _
          refine wpAny_pure ⟨rfl, h4, t4, rfl, hS4, fun b o hb e => ?_⟩
          refine mv.heap b o ?_ (Heap.get?_push_of_some _ (Heap.get?_push_of_some _ e))
          rw [Heap.size_push]
          simp only [List.mem_cons, List.mem_singleton, List.not_mem_nil, or_false, not_or]
          exact ⟨Nat.ne_of_lt hb, Nat.ne_of_lt (Nat.lt_succ_of_lt hb)⟩
      · cases r2 with
        | error e => exact hr2
        | ok fl2 =>
          cases fl2 with
          | ret r =>
            obtain ⟨rfl, h2, tk, rfl, hS2, keep⟩ := hr2
            repeat (any_goals (first | assumption | wp_step))
            exact k _ _ hS2 keep
          | _ => exact hr2.elim
    | _ => exact hr.elim
theorem set_of_list {l : Addr} {items : Array Value} {xs : List Str} {Q : Value → Shared → Prop} (hh : A.handled = none) (hl : s.heap.IsList l items) (hi : StrsAre items.toList xs) (hm : xs.length ≤ 4000)
    (k : ∀ (h2 : Heap) (tk : Nat), Upto prog w h2 s.heap.objs.size xs items.size → (∀ b o, b < s.heap.objs.size → s.heap.get? b = some o → h2.get? b = some o) → Q (.ref s.heap.objs.size) { s with heap := h2, toks := tk }) :
    wpAny (model prog w) A (call (.type "set") [.ref l]) Q E s := by
  obtain ⟨c, tl, mro⟩ := PySem.F.called_set.mro
  have made := PySem.F.called_set.made
  have subs := PySem.F.called_set.sub
  refine wpAny_call (codeAny_of_tree ?_)
  show wpAny _ _ (callAny (.type "set") _) _ _ _
  refine wpAny_pure ⟨Code.quiet_builtin _ (by decide +kernel), codeAny_builtin PySem.F.entry_type_call ?_⟩
  rw [Around.under_plain (weight_type_call_type "set" [.ref l] []) rfl]
  have n1 := PySem.F.called_set.notType
  have n2 := PySem.F.called_set.canCreate
  have n3 := PySem.F.typeCall_set_1 (.ref l)
  repeat (any_goals (first | assumption | wp_step))
  refine codeAny_mono (code_set_new_1 (.ref l) (E := E) (Q₁ := fun v s1 => ∃ led : Bool, v = .ref s.heap.objs.size ∧ s1 = { s with heap := s.heap.push (set0 led) }) fun led => ⟨led, rfl, rfl⟩) fun r s1 hr => ?_
  cases r with
  | error e => exact hr
  | ok fl =>
    cases fl with
    | ret v =>
      obtain ⟨led, rfl, rfl⟩ := hr
      have hS : (s.heap.push (set0 led)).get? s.heap.objs.size = some (set0 led) := Heap.get?_push_size _ rfl
      have hT : Shared.TypeIs { s with heap := s.heap.push (set0 led) } (.ref s.heap.objs.size) "set" := ⟨_, hS, rfl⟩
      have n4 := PySem.F.called_set.init.lookup
      have n5 := PySem.F.called_set.init.bind (.ref s.heap.objs.size)
      repeat (any_goals (first | assumption | wp_step))
      refine codeAny_mono (codeAny_call_builtin (R := wants (fun r s2 => r = .none ∧ ∃ h2 tk, s2 = { s with heap := h2, toks := tk } ∧ Upto prog w h2 s.heap.objs.size xs items.size ∧
          (∀ b o, b < s.heap.objs.size → s.heap.get? b = some o → h2.get? b = some o)) E) PySem.F.called_set.init.plain PySem.F.entry_set_init (check_set_init_1 hT ?_)) fun r2 s2 hr2 => ?_
      · obtain ⟨ol, ho, hc, nl, hd⟩ := hl
        obtain ⟨oc, od, da, os⟩ := ol
        simp only at hc hd
        subst hc; subst hd
        have ho2 : (s.heap.push (set0 led)).get? l = some { cls := .type "list", dict := od, data := .seq items nl, slots := os } := Heap.get?_push_of_some _ ho
        have s1 := PySem.F.sub_list_set
        have s2 := PySem.F.sub_list_frozenset
        have s3 : (Value.type "list" == Value.type "dict") = false := by decide
        have hl1 : (s.heap.push (set0 led)).IsList l items := ⟨_, ho2, rfl, nl, rfl⟩
        unfold Builtin.«set.__init__» noKeywords Builtin.Frozenset.updateFrom
        generalize hPI : pyIter = PI
        wp_walk
        subst hPI
        refine wpAny_pyIter_list hl1 (wpAny_bind (wpAny_runValue ?_))
        have low : l < s.heap.objs.size := Heap.lt_size ho
        have hd3 : A.in1.in1.in1.handled = none := by simp [hh]
        have ne1 : l ≠ (s.heap.push (set0 led)).objs.size := by
          rw [Heap.size_push]
          exact Nat.ne_of_lt (Nat.lt_succ_of_lt low)
        have nf : s.heap.objs.size ∉ [(s.heap.push (set0 led)).objs.size, l] := by
          rw [Heap.size_push]
          simp only [List.mem_cons, List.mem_singleton, List.not_mem_nil, or_false, not_or]
          exact ⟨Nat.ne_of_lt (Nat.lt_succ_self _), Nat.ne_of_gt low⟩
        have hx : xs.length = items.size := by rw [← StrsAre.len_eq hi, Array.length_toList]
        have hv : ∀ (i : Nat) (v : Value), items[i]? = some v → ∃ t, v = .str (xs.getD i Str.empty) t := fun i v q => SS.strs_at hi i v (by rw [Array.getElem?_toList]; exact q)
        refine fill_loop ((Walks.list hd3 _ l ne1 items).toS) s.heap.objs.size nf xs hx (by omega) hv (items.size - 0) 0 _ (by omega) (Nat.zero_le _) ⟨⟨_, Heap.get?_push_size _ rfl, rfl, rfl⟩, (hl1.push _)⟩ ?fresh0 ?filled
        case fresh0 =>
          refine SetOf_congr ((PyProof.Rows.setObjOf_fresh (knd := PySem.strKind prog w) led).setOf (Heap.get?_push_of_some _ hS) (by unfold scanBound; omega)) (fun _ => rfl) rfl
        case filled =>
          intro s4 mv hS4
          obtain ⟨h4, g4, d4, t4, o4⟩ := s4
          cases (show g4 = s.gens from mv.gens)
          cases (show d4 = s.drawn from mv.drawn)
          cases (show o4 = s.os from mv.os)
          show wpAny _ _ _ _ _ _
          refine wpAny_pure ?_
          show wpAny _ _ (ret Value.none) _ _ _
          refine wpAny_pure ⟨rfl, h4, t4, rfl, hS4, fun b o hb e => ?_⟩
          refine mv.heap b o ?_ (Heap.get?_push_of_some _ (Heap.get?_push_of_some _ e))
          rw [Heap.size_push]
          simp only [List.mem_cons, List.mem_singleton, List.not_mem_nil, or_false, not_or]
          exact ⟨Nat.ne_of_lt hb, Nat.ne_of_lt (Nat.lt_succ_of_lt hb)⟩
      · cases r2 with
        | error e => exact hr2
        | ok fl2 =>
          cases fl2 with
          | ret r =>
            obtain ⟨rfl, h2, tk, rfl, hS2, keep⟩ := hr2
            repeat (any_goals (first | assumption | wp_step))
            exact k _ _ hS2 keep
          | _ => exact hr2.elim
    | _ => exact hr.elim
end
section
variable {X : Cx}
/-- len(set(t)) -/
def tLenS (K : PySem.W.Frag) (ta : TE) : TE := fun σ H Q => ta σ H fun x H1 => ∃ (l : Addr) (xs : List Str), x = .ref l ∧ (SqL K H1 l (xs.map V.str) ∨ SqT K H1 l (xs.map V.str)) ∧ xs.length ≤ 4000 ∧ Q (.int (dn xs)) H1
theorem pe_lenS {a : Expr} {ta : TE} {p p2 q pos : Pos} (calm : X.calm = true) (hg : Gl X "len") (hm : X.mg "len" = none) (hg2 : Gl X "set") (hm2 : X.mg "set" = none) (ha : PE X a ta)
    (na : starEach [a] X.env = (false, eval a X.env) :: starEach [] X.env := by rfl) : PE X (.Call (.Name "len" p) [.Call (.Name "set" p2) [a] [] q] [] pos) (tLenS X.K ta) := by
  constructor
  intro pins s σ H Q I h
  refine Call_ (ld_blt I hg hm boot_len (PyProof.Rows.callWith_builtin1 (PyProof.Rows.args_cons (Call_ (ld_blt I hg2 hm2 boot_set ?_)) rfl) rfl rfl))
  refine PyProof.Rows.callWith_type1 (PyProof.Rows.args_cons (thn (ha.run pins s σ H _ I h) fun v s1 hh => PyProof.Rows.args_nil ?_) na) na rfl
  obtain ⟨x, H1, I1, r1, l, xs, rfl, hq, h1, q1⟩ := hh
  cases r1
  have fin : ∀ (its : List Value), Vals (xs.map V.str) its → ∀ (h2 : Heap) (tk : Nat), Upto X.prog X.w h2 s1.heap.objs.size xs its.toArray.size → (∀ b o, b < s1.heap.objs.size → s1.heap.get? b = some o → h2.get? b = some o) →
      wpAny (model X.prog X.w) X.A (spliced (backTo pos (starEach [] X.env))) (fun us s2 => wpAny (model X.prog X.w) X.A (call (.builtin "len") (Value.ref s1.heap.objs.size :: us)) (EP X pins σ Q) X.xe s2) X.xe { s1 with heap := h2, toks := tk } := by
    intro its r h2 tk hS keep
    refine PyProof.Rows.args_nil ?_
    have hl : its.toArray.size = xs.length := by rw [List.size_toArray, ← r.length, List.length_map]
    have hS2 : h2.SetOf (PySem.strKind X.prog X.w) s1.heap.objs.size (fun k => (xs.take its.toArray.size).any (· == k)) (dn (xs.take its.toArray.size)) := hS
    rw [hl, List.take_length] at hS2
    obtain ⟨o, es, ep, t, ho, hex, hd, _, _, _, hf, hn⟩ := hS2
    have I2 : Inv X pins σ H1 { s1 with heap := h2, toks := tk } := I1.kept fun b o e => keep b o (Heap.lt_size e) e
    have most := dn_most xs
    exact call_len_set ho hex hd hf (by rw [hn]; omega) ⟨.int (dn xs), H1, I2.tok _, ⟨_, by rw [hn]⟩, q1⟩
  rcases hq with hq | hq
  · obtain ⟨its, r, pl, hz⟩ := I1.list hq
    exact set_of_list (I1.ok.hd calm) pl.isList (by simpa using strsAre_of r) h1 fun h2 tk hS keep => fin its r h2 tk hS keep
  · obtain ⟨its, r, pl, hz⟩ := I1.tuple hq
    exact set_of_tuple (I1.ok.hd calm) pl (by simpa using strsAre_of r) h1 fun h2 tk hS keep => fin its r h2 tk hS keep
end
end SE
namespace SE
open PySem PySem.Spec PyProof.Rows L2
theorem dn_nd {xs : List Str} (nd : xs.Nodup) : dn xs = xs.length := Nat.le_antisymm (dn_most xs) (sub_le nd fun y hy => (mem_ded y xs).mpr hy)
theorem nd_dn : ∀ {xs : List Str}, dn xs = xs.length → xs.Nodup
  | [], _ => List.nodup_nil
  | x :: xs, h => by
    have m := dn_most xs
    unfold dn ded at h
    by_cases c : x ∈ xs
    · rw [if_pos c] at h
      have : dn xs = (ded xs).length := rfl
      rw [List.length_cons] at h
      omega
    · rw [if_neg c, List.length_cons, List.length_cons] at h
      exact List.nodup_cons.mpr ⟨c, nd_dn (by unfold dn; omega)⟩
theorem all_strs : ∀ {ds : List PyData}, (ds.map itemD).all id = true → ∃ zs : List Str, ds = zs.map .str ∧ ∀ z ∈ zs, itemD (.str z) = true
  | [], _ => ⟨[], rfl, fun z m => by cases m⟩
  | d :: ds, h => by
    rw [List.map_cons, List.all_cons, Bool.and_eq_true] at h
    obtain ⟨zs, e, q⟩ := all_strs h.2
    cases d with
    | str z =>
      refine ⟨z :: zs, by rw [e]; rfl, fun y m => ?_⟩
      rcases List.mem_cons.mp m with r | r
      · rw [r]; exact h.1
      · exact q y r
    | none => exact absurd h.1 (by simp [itemD])
    | bool _ => exact absurd h.1 (by simp [itemD])
    | int _ => exact absurd h.1 (by simp [itemD])
    | list _ => exact absurd h.1 (by simp [itemD])
    | tuple _ => exact absurd h.1 (by simp [itemD])
    | dict _ => exact absurd h.1 (by simp [itemD])
theorem strs_all {zs : List Str} (h : ∀ z ∈ zs, itemD (.str z) = true) : ((zs.map PyData.str).map itemD).all id = true := by
  rw [List.all_eq_true]
  intro b mb
  obtain ⟨d, md, rfl⟩ := List.mem_map.mp mb
  obtain ⟨z, mz, rfl⟩ := List.mem_map.mp md
  exact h z mz
theorem dpx_strs {K : PySem.W.Frag} {H : Hp} : ∀ {zs : List Str} {vs : List V}, DpXs K H vs (zs.map .str) → vs = zs.map V.str
  | [], _, h => by cases h; rfl
  | n :: ns, _, h => by
    cases h with
    | cons a b =>
      cases a
      rw [dpx_strs b]
      rfl
theorem str_map_inj : ∀ {a b : List Str}, a.map PyData.str = b.map PyData.str → a = b
  | [], [], _ => rfl
  | [], _ :: _, h => by cases h
  | _ :: _, [], h => by cases h
  | x :: a, y :: b, h => by
    rw [List.map_cons, List.map_cons] at h
    obtain ⟨h1, h2⟩ := List.cons.inj h
    rw [PyData.str.inj h1, str_map_inj h2]
/-- a list or tuple of distinct items -/
def IsIL (d : PyData) : Prop := ∃ zs : List Str, (d = .list (zs.map .str) ∨ d = .tuple (zs.map .str)) ∧ zs.length ≤ 50 ∧ zs.Nodup ∧ ∀ z ∈ zs, itemD (.str z) = true
theorem kit_lt {K : PySem.W.Frag} (d : PyData) : PySem.W.kitAny K (.type (tyD d)) [.type "list", .type "tuple"] = some (isLst d || isTup d) := by
  cases d <;> rfl
theorem tup_or {K : PySem.W.Frag} {H : Hp} {v : V} {d : PyData} (h : DpX K H v d) : (∃ a xs ds, v = .ref a ∧ d = .tuple ds ∧ SqT K H a xs ∧ DpXs K H xs ds) ∨ isTup d = false := by
  cases h with
  | tup h1 h2 => exact .inl ⟨_, _, _, rfl, rfl, h1, h2⟩
  | non => exact .inr rfl
  | bl b => exact .inr rfl
  | int i => exact .inr rfl
  | str z => exact .inr rfl
  | lst _ _ => exact .inr rfl
  | emp _ => exact .inr rfl
section
variable {P : Program} {w : World} {K : PySem.W.Frag} {mg : Str → Option Value} {base : Heap}
/-! ### is_item_list, check_items -/
def spIL (K : PySem.W.Frag) : Sp := fun xs H Q _ => ∃ (v : V) (d : PyData), xs = [v] ∧ DpX K H v d ∧ OkD d ∧ (∀ ds, d = .list ds ∨ d = .tuple ds → ds.length ≤ 100) ∧ ∀ (b : Bool) H', (b = true ↔ IsIL d) → Same H H' → Q (.bl b) H'
theorem scIl : FnScope ["value", "item"] ["value"] (defScope sIsItemList) := ⟨rfl, rfl, rfl, by decide +kernel, rfl, by decide +kernel, by decide +kernel⟩
theorem has_il (D : Def K mg "is_item_list" sIsItemList) (G : Has P w K mg base "is_item" 1 ["value"] [] (spX K itemD)) (B : Blt mg) (ms : mg "set" = none) (c : SC mg) : Has P w K mg base "is_item_list" 2 ["value"] [] (spIL K) := by
  obtain ⟨tm, hM⟩ := c.mi
  refine has_of D scIl (fun _ _ _ _ _ _ us hl => match us, hl with | [_], _ => rfl) (fun xs H Q E h => ?_) (fun f cv A out s H xs Q E hr h => ?_)
  · obtain ⟨v, d, rfl, _⟩ := h
    rfl
  · obtain ⟨v, d, rfl, hd, ok, l100, k⟩ := h
    -- behind the list of answers
    have fin : ∀ {a : Addr} {vs : List V} {ds : List PyData} {H2 : Hp}, v = .ref a → (d = .list ds ∨ d = .tuple ds) → ((SqL K H a vs) ∨ (SqT K H a vs)) → DpXs K H vs ds → ds.length ≤ 50 → Same H H2 →
        (∃ b : Bool, (ds.map itemD).all id = b ∧ (b = false → Q (.bl false) H2) ∧ (b = true → ∃ xs : List Str, vs = xs.map V.str ∧ xs.length ≤ 4000 ∧ ∀ e : Bool, e = decide (dn xs = vs.length) → Q (.bl e) H2)) := by
      intro a vs ds H2 ev ed hs hV l50 s2
      refine ⟨_, rfl, fun e => ?_, fun e => ?_⟩
      · refine k false H2 ⟨fun q => absurd q Bool.false_ne_true, fun z => ?_⟩ s2
        obtain ⟨zs, e1, _, _, e4⟩ := z
        have : ds = zs.map .str := by
          rcases ed with q | q <;> rcases e1 with r | r <;> rw [q] at r <;> cases r <;> rfl
        rw [this, strs_all e4] at e
        exact absurd e (by decide)
      · obtain ⟨zs, e1, e2⟩ := all_strs e
        have ev2 : vs = zs.map V.str := dpx_strs (by rw [← e1]; exact hV)
        have ln : ds.length = zs.length := by rw [e1, List.length_map]
        refine ⟨zs, ev2, by omega, fun e' he' => k e' H2 ?_ s2⟩
        rw [he', decide_eq_true_iff, ev2, List.length_map]
        constructor
        · intro z
          exact ⟨zs, by rw [← e1]; exact ed, by omega, nd_dn z, e2⟩
        · rintro ⟨ys, f1, _, f3, _⟩
          have : zs.map PyData.str = ys.map PyData.str := by
            rw [← e1]
            rcases ed with q | q <;> rcases f1 with r | r <;> rw [q] at r <;> cases r <;> rfl
          rw [str_map_inj this]
          exact dn_nd f3
    have no : (¬ IsIL d) → ∀ H2, Same H H2 → Q (.bl false) H2 := fun z H2 s2 => k false H2 ⟨fun q => absurd q Bool.false_ne_true, fun q => absurd q z⟩ s2
    rcases tup_or hd with ⟨a, vs, ds, rfl, rfl, hT, hV⟩ | nt
    · refine ⟨_, pss_cons (ps_if (PW.pt (pw_or (pt_not (pt_val (pe_callB call_isiT (by rfl) B.isi (by decide +kernel) (pa_cons (pv 0) (pa_cons (pe_tup (pa_cons (pe_bltn (v := .ty "list") (by rfl) B.lst (by decide +kernel) rfl) (pa_cons (pe_bltn (v := .ty "tuple") (by rfl) B.tup (by decide +kernel) rfl) pa_nil))) pa_nil)))))
          (pw_or1 (pt_cmpR op_gt (pe_callB call_len_seq (by rfl) B.len PySem.boot_len (pa_cons (pv 0) pa_nil)) (pe_glob (v := .int 50) rfl hM ⟨_, rfl⟩) (nomark _))))) (pss_one (ps_ret pe_bl)) pss_nil)
        (pss_one (ps_ret (pe_and (pe_callB (cr_all rfl) (by rfl) B.all (by decide +kernel) (pa_cons
          (pe_lc (own := [("item", 1)]) (g := gName 1) (tt := tYes) (te := tCall (spX K itemD) [] E0 (tCons (tVar 1) tNil)) rfl scIl.nd (pi_tup (pv 0)) (blkOk_by (own := [("item", 1)]) (N := ["value", "item"]) (sc := defScope sIsItemList) (by decide +kernel))
            (fun _ _ _ _ _ => pg_name (i := 1) scIl.nd rfl (.inl rfl)) (fun _ _ _ _ _ => pts_nil) (fun _ _ _ _ _ => pe_has G hr (pa_cons (pv 1) pa_nil))) pa_nil))
          (pe_one (pe_cmpR op_eq (pe_lenS rfl (by rfl) B.len (by rfl) ms (pv 0)) (pe_callB call_len_seq (by rfl) B.len PySem.boot_len (pa_cons (pv 0) pa_nil)) (nomark _)))))), ?_⟩
      have lv : vs.length = ds.length := hV.len
      have ll := l100 ds (.inr rfl)
      obtain ⟨oks, _⟩ := ok.tuple
      refine ⟨_, rfl, (by show 2 ≤ sizeLine; decide), fun t ht => ?_⟩
      have s1 : Same H (upd H t (.tup [.ty "list", .ty "tuple"])) := Same.new ht
      have hd1 := DpX.same s1 _ _ hd
      refine ⟨_, t, _, .type (tyD (.tuple ds)), _, isLst (.tuple ds) || isTup (.tuple ds), rfl, upd_same, .cons (.ty _) (.cons (.ty _) .nil), hd1.ty, kit_lt _, _, rfl, ?_⟩
      generalize upd H t (.tup [.ty "list", .ty "tuple"]) = H1 at s1 hd1
      refine iteF ⟨_, rfl, a, _, rfl, .inr (Same.tup s1 hT), _, 50, rfl, rfl, _, rfl, ?_⟩
      refine iteB' (fun e => ?_) (fun e => ?_)
      · have := of_decide_eq_true e
        refine no (fun z => ?_) H1 s1
        obtain ⟨zs, e1, e2, _⟩ := z
        rcases e1 with r | r
        · cases r
        · have q := congrArg (fun d => match d with | PyData.tuple l => l.length | _ => 0) r
          simp only [List.length_map] at q
          omega
      have l9 : ds.length ≤ 50 := by have := of_decide_eq_false e; omega
      refine ⟨_, rfl, a, rfl, ⟨_, Same.tup s1 hT⟩, fun D hD => lc_tup (K := K) (a := a) (xs := vs) (fun j H2 => H2 D = some (.lst (((ds.take j).map itemD).map V.bl)) ∧ Same H1 H2) ⟨upd_same, Same.new hD⟩ (fun _ _ _ q => Same.tup (s1.trans q.2) hT) ?_ ?_⟩
      · rintro j x H2 hj ⟨h2, s2⟩
        obtain ⟨dj, hdj, hx⟩ := hV.at hj
        refine ⟨rfl, yes_in ⟨_, rfl, x, dj, rfl, DpX.same (s1.trans s2) _ _ hx, oks dj (List.mem_of_getElem? hdj), fun H3 s3 => ⟨_, s3 _ _ h2, ?_, ?_, Same.free2 (s2.trans s3) hD⟩⟩⟩
        · rw [List.length_map, List.length_map, List.length_take]
          exact small1000 (by omega)
        · rw [upd_same, List.take_add_one, hdj, List.map_append, List.map_append]
          rfl
      rintro H2 ⟨h2, s2⟩
      rw [lv, List.take_length] at h2
      obtain ⟨b, eb, kF, kT⟩ := fin rfl (.inr rfl) (.inr hT) hV l9 (s1.trans s2)
      refine ⟨D, _, rfl, .of h2, _, rfl, ?_⟩
      refine iteB' (fun e => ?_) (fun e => ?_)
      · obtain ⟨zs, ev2, lz, kk⟩ := kT (eb.symm.trans e)
        refine ⟨_, rfl, a, zs, rfl, .inr (by rw [← ev2]; exact Same.tup (s1.trans s2) hT), lz, _, rfl, a, _, rfl, .inr (Same.tup (s1.trans s2) hT), rfl, ?_⟩
        refine kk _ ?_
        by_cases z : dn zs = vs.length
        · rw [decide_eq_true z, decide_eq_true (by rw [z])]
        · rw [decide_eq_false z]
          exact decide_eq_false (fun q => z (Int.ofNat.inj (V.int.inj q)))
      · exact kF (eb.symm.trans e)
    · refine ⟨_, pss_cons (ps_if (PW.pt (pw_or (pt_not (pt_val (pe_callB call_isiT (by rfl) B.isi (by decide +kernel) (pa_cons (pv 0) (pa_cons (pe_tup (pa_cons (pe_bltn (v := .ty "list") (by rfl) B.lst (by decide +kernel) rfl) (pa_cons (pe_bltn (v := .ty "tuple") (by rfl) B.tup (by decide +kernel) rfl) pa_nil))) pa_nil)))))
          (pw_or1 (pt_cmpR op_gt (pe_callB call_len_seq (by rfl) B.len PySem.boot_len (pa_cons (pv 0) pa_nil)) (pe_glob (v := .int 50) rfl hM ⟨_, rfl⟩) (nomark _))))) (pss_one (ps_ret pe_bl)) pss_nil)
        (pss_one (ps_ret (pe_and (pe_callB (cr_all rfl) (by rfl) B.all (by decide +kernel) (pa_cons
          (pe_lc (own := [("item", 1)]) (g := gName 1) (tt := tYes) (te := tCall (spX K itemD) [] E0 (tCons (tVar 1) tNil)) rfl scIl.nd (pi_list (pv 0)) (blkOk_by (own := [("item", 1)]) (N := ["value", "item"]) (sc := defScope sIsItemList) (by decide +kernel))
            (fun _ _ _ _ _ => pg_name (i := 1) scIl.nd rfl (.inl rfl)) (fun _ _ _ _ _ => pts_nil) (fun _ _ _ _ _ => pe_has G hr (pa_cons (pv 1) pa_nil))) pa_nil))
          (pe_one (pe_cmpR op_eq (pe_lenS rfl (by rfl) B.len (by rfl) ms (pv 0)) (pe_callB call_len_seq (by rfl) B.len PySem.boot_len (pa_cons (pv 0) pa_nil)) (nomark _)))))), ?_⟩
      refine ⟨_, rfl, (by show 2 ≤ sizeLine; decide), fun t ht => ?_⟩
      have s1 : Same H (upd H t (.tup [.ty "list", .ty "tuple"])) := Same.new ht
      have hd1 := DpX.same s1 _ _ hd
      refine ⟨_, t, _, .type (tyD d), _, isLst d || isTup d, rfl, upd_same, .cons (.ty _) (.cons (.ty _) .nil), hd1.ty, kit_lt _, _, rfl, ?_⟩
      generalize upd H t (.tup [.ty "list", .ty "tuple"]) = H1 at s1 hd1
      have nl : ∀ {e : PyData}, (∀ ds, e ≠ .list ds ∧ e ≠ .tuple ds) → ¬ IsIL e := fun q z => by
        obtain ⟨zs, e1, _⟩ := z
        rcases e1 with r | r
        · exact (q _).1 r
        · exact (q _).2 r
      cases hd with
      | non => exact iteT (iteT (no (nl fun ds => ⟨fun z => (by cases z), fun z => (by cases z)⟩) H1 s1))
      | bl b => exact iteT (iteT (no (nl fun ds => ⟨fun z => (by cases z), fun z => (by cases z)⟩) H1 s1))
      | int i => exact iteT (iteT (no (nl fun ds => ⟨fun z => (by cases z), fun z => (by cases z)⟩) H1 s1))
      | str z => exact iteT (iteT (no (nl fun ds => ⟨fun z => (by cases z), fun z => (by cases z)⟩) H1 s1))
      | emp _ => exact iteT (iteT (no (nl fun ds => ⟨fun z => (by cases z), fun z => (by cases z)⟩) H1 s1))
      | tup _ _ => cases nt
      | @lst a vs ds hS hV =>
        have lv : vs.length = ds.length := hV.len
        have ll := l100 ds (.inl rfl)
        obtain ⟨oks, _⟩ := ok.list
        refine iteF ⟨_, rfl, a, _, rfl, .inl (Same.seq s1 hS), _, 50, rfl, rfl, _, rfl, ?_⟩
        refine iteB' (fun e => ?_) (fun e => ?_)
        · have := of_decide_eq_true e
          refine no (fun z => ?_) H1 s1
          obtain ⟨zs, e1, e2, _⟩ := z
          rcases e1 with r | r
          · have q := congrArg (fun d => match d with | PyData.list l => l.length | _ => 0) r
            simp only [List.length_map] at q
            omega
          · cases r
        have l9 : ds.length ≤ 50 := by have := of_decide_eq_false e; omega
        refine ⟨_, rfl, a, rfl, ⟨_, Same.seq s1 hS⟩, fun D hD => lc_list (K := K) (a := a) (xs := vs) (fun j H2 => H2 D = some (.lst (((ds.take j).map itemD).map V.bl)) ∧ Same H1 H2) ⟨upd_same, Same.new hD⟩ (fun _ _ _ q => Same.seq (s1.trans q.2) hS) ?_ ?_⟩
        · rintro j x H2 hj ⟨h2, s2⟩
          obtain ⟨dj, hdj, hx⟩ := hV.at hj
          refine ⟨rfl, yes_in ⟨_, rfl, x, dj, rfl, DpX.same (s1.trans s2) _ _ hx, oks dj (List.mem_of_getElem? hdj), fun H3 s3 => ⟨_, s3 _ _ h2, ?_, ?_, Same.free2 (s2.trans s3) hD⟩⟩⟩
          · rw [List.length_map, List.length_map, List.length_take]
            exact small1000 (by omega)
          · rw [upd_same, List.take_add_one, hdj, List.map_append, List.map_append]
            rfl
        rintro H2 ⟨h2, s2⟩
        rw [lv, List.take_length] at h2
        obtain ⟨b, eb, kF, kT⟩ := fin rfl (.inl rfl) (.inl hS) hV l9 (s1.trans s2)
        refine ⟨D, _, rfl, .of h2, _, rfl, ?_⟩
        refine iteB' (fun e => ?_) (fun e => ?_)
        · obtain ⟨zs, ev2, lz, kk⟩ := kT (eb.symm.trans e)
          refine ⟨_, rfl, a, zs, rfl, .inl (by rw [← ev2]; exact Same.seq (s1.trans s2) hS), lz, _, rfl, a, _, rfl, .inl (Same.seq (s1.trans s2) hS), rfl, ?_⟩
          refine kk _ ?_
          by_cases z : dn zs = vs.length
          · rw [decide_eq_true z, decide_eq_true (by rw [z])]
          · rw [decide_eq_false z]
            exact decide_eq_false (fun q => z (Int.ofNat.inj (V.int.inj q)))
        · exact kF (eb.symm.trans e)
/-- the way out of the checks -/
def bad (C : Addr) (H : Hp) (v : V) (E : XK) : Prop := ∀ (dd : Addr) (H' : Hp), Same H H' → H dd = none → H' dd = some (.xd [("value", v)]) → E (.ref C) (some dd) H'
theorem bad.go {C : Addr} {H H1 : Hp} {v : V} {E : XK} (h : bad C H v E) (s : Same H H1) : bad C H1 v E := fun dd H' s' n e => h dd H' (s.trans s') (s.free n) e
theorem scCi : FnScope ["items"] ["items"] (defScope sCheckItems) := ⟨rfl, rfl, rfl, by decide +kernel, rfl, by decide +kernel, by decide +kernel⟩
def spCi (K : PySem.W.Frag) : Sp := fun xs H Q _ => ∃ (v : V) (d : PyData), xs = [v] ∧ DpX K H v d ∧ OkD d ∧ (∀ ds, d = .list ds ∨ d = .tuple ds → ds.length ≤ 100) ∧ IsIL d ∧ ∀ H', Same H H' → Q .non H'
theorem has_ci (D : Def K mg "check_items" sCheckItems) (G : Has P w K mg base "is_item_list" 2 ["value"] [] (spIL K)) : Has P w K mg base "check_items" 3 ["items"] [] (spCi K) := by
  refine has_of D scCi (fun _ _ _ _ _ _ us hl => match us, hl with | [_], _ => rfl) (fun xs H Q E h => ?_) (fun f cv A out s H xs Q E hr h => ?_)
  · obtain ⟨v, d, rfl, _⟩ := h
    rfl
  · obtain ⟨v, d, rfl, hd, ok, l100, yes, k⟩ := h
    refine ⟨_, pss_one (ps_if (pt_not (pt_val (pe_has G hr (pa_cons (pv 0) pa_nil)))) pss_never pss_nil), ?_⟩
    refine ⟨_, rfl, v, d, rfl, hd, ok, l100, fun b H1 hb s1 => ⟨b, rfl, ?_⟩⟩
    rw [hb.mpr yes]
    exact iteF (k H1 s1)
def spCiX (K : PySem.W.Frag) (C : Addr) : Sp := fun xs H Q E => ∃ (v : V) (d : PyData), xs = [v] ∧ DpX K H v d ∧ OkD d ∧ (∀ ds, d = .list ds ∨ d = .tuple ds → ds.length ≤ 100) ∧ ¬ IsIL d ∧ bad C H v E
theorem hasX_ci {C : Addr} (D : Def K mg "check_items" sCheckItems) (G : Has P w K mg base "is_item_list" 2 ["value"] [] (spIL K)) (T : XcC P w K mg base "InvalidItems" "value" C) : HasX P w K mg base "check_items" 3 ["items"] [] (spCiX K C) := by
  refine hasX_of D scCi (fun _ _ _ _ _ _ us hl => match us, hl with | [_], _ => rfl) (fun xs H Q E h => ?_) (fun f cv A out s H xs Q E hr h => ?_)
  · obtain ⟨v, d, rfl, _⟩ := h
    rfl
  · obtain ⟨v, d, rfl, hd, ok, l100, nope, kN⟩ := h
    refine ⟨_, pss_one (ps_if (pt_not (pt_val (pe_has G hr (pa_cons (pv 0) pa_nil)))) (pss_one (ps_raiseX rfl T hr tkX (pa_cons (pv 0) pa_nil))) pss_nil), ?_⟩
    refine ⟨_, rfl, v, d, rfl, hd, ok, l100, fun b H1 hb s1 => ⟨b, rfl, ?_⟩⟩
    cases b with
    | true => exact absurd (hb.mp rfl) nope
    | false =>
      refine iteT ⟨_, rfl, mk_red fun dd hdd => ?_⟩
      exact kN dd _ (s1.trans (Same.new hdd)) (s1.free hdd) upd_same
end
end SE
namespace SE
open PySem PySem.Spec PyProof.Rows L2
/-- how many shortest sequences -/
def manyM (xs ys : List Str) (p : Int) (zs : List Str) : Int := if (∀ z ∈ xs ++ ys, z ∈ zs) then waysM xs ys p * ((zs.length ^ moreM xs ys p : Nat) : Int) else 0
theorem item_D {z : Str} (h : Item z) : itemD (.str z) = true := by
  have l1 := h.pos
  have l2 := h.most
  rw [itemD_str, decide_eq_true ⟨l1, l2⟩, Bool.true_and, List.all_eq_true]
  intro b mb
  obtain ⟨c, mc, rfl⟩ := List.mem_map.mp mb
  exact decide_eq_true (abc_has (h.low c mc))
theorem ways_small (xs ys : List Str) (p : Int) : 0 ≤ waysM xs ys p ∧ waysM xs ys p ≤ 2 := by
  unfold waysM
  split <;> decide
theorem dpx_str {K : PySem.W.Frag} {H : Hp} : ∀ zs : List Str, DpXs K H (zs.map V.str) (zs.map PyData.str)
  | [] => .nil
  | z :: zs => .cons (.str z) (dpx_str zs)
section
variable {P : Program} {w : World} {K : PySem.W.Frag} {mg : Str → Option Value} {base : Heap} {C : Addr}
/-- distinct items in a list or tuple -/
structure ILs (K : PySem.W.Frag) (H : Hp) (a : Addr) (zs : List Str) : Prop where
  at_ : SqL K H a (zs.map V.str) ∨ SqT K H a (zs.map V.str)
  len : zs.length ≤ 50
  nd : zs.Nodup
  it : ∀ z ∈ zs, Item z
theorem ILs.same {H H' : Hp} {a : Addr} {zs : List Str} (h : ILs K H a zs) (s : Same H H') : ILs K H' a zs := ⟨h.at_.imp (Same.seq s) (Same.tup s), h.len, h.nd, h.it⟩
theorem ILs.data {H : Hp} {a : Addr} {zs : List Str} (h : ILs K H a zs) : ∃ d, DpX K H (.ref a) d ∧ OkD d ∧ (∀ ds, d = .list ds ∨ d = .tuple ds → ds.length ≤ 100) ∧ IsIL d := by
  have l := h.len
  have nx : ∀ e ∈ zs.map PyData.str, NX 10 100 e := fun e me => by
    obtain ⟨z, mz, rfl⟩ := List.mem_map.mp me
    exact ((h.it z mz).nice.mono (by decide) (by decide)).nx
  have il : ∀ z ∈ zs, itemD (.str z) = true := fun z m => item_D (h.it z m)
  rcases h.at_ with q | q
  · refine ⟨.list (zs.map .str), .lst q (dpx_str zs), (nx_list nx).mono (by decide) (by rw [List.length_map]; omega), fun ds e => ?_, zs, .inl rfl, l, h.nd, il⟩
    rcases e with e | e
    · cases e
      rw [List.length_map]
      omega
    · cases e
  · refine ⟨.tuple (zs.map .str), .tup q (dpx_str zs), (nx_tuple nx).mono (by decide) (by rw [List.length_map]; omega), fun ds e => ?_, zs, .inr rfl, l, h.nd, il⟩
    rcases e with e | e
    · cases e
    · cases e
      rw [List.length_map]
      omega
def spSm (K : PySem.W.Frag) (C : Addr) : Sp := fun vs H Q _ => ∃ (e a : Addr) (zs : List Str), vs = [.ref e, .ref a] ∧ ILs K H a zs ∧
  ((∃ xs ys p, EffAt K C H e xs ys p ∧ xs.length ≤ 1000 ∧ ys.length ≤ 1000 ∧ lp xs ys ≤ p ∧ p - lp xs ys ≤ 1000 ∧ ∀ H', Same H H' → Q (.int (manyM xs ys p zs)) H') ∨ (NevAt C H e ∧ ∀ H', Same H H' → Q (.int ((zs.length : Int) * ((zs.length : Int) - 1))) H'))
abbrev nSm : List Str := ["effect", "items", "item"]
theorem scSm : FnScope nSm ["effect", "items"] (defScope sShortestMany) := ⟨rfl, rfl, rfl, by decide +kernel, rfl, by decide +kernel, by decide +kernel⟩
theorem has_sm (D : Def K mg "shortest_many" sShortestMany) (T : EC K mg C) (GP : PropHas P w K mg base C "pops" 1 (spPops K C)) (GU : PropHas P w K mg base C "pushes" 1 (spPush K C)) (GN : PropHas P w K mg base C "is_never" 1 (spIsNev K C))
    (GC : Has P w K mg base "check_items" 3 ["items"] [] (spCi K)) (GW : Has P w K mg base "ways_many" 3 ["effect"] [] (spWy K C)) (GPw : Has P w K mg base "power" 1 ["base", "exponent"] [] spPow) (GS : Has P w K mg base "surplus" 3 ["effect"] [] (spSur K C)) (B : Blt mg) :
    Has P w K mg base "shortest_many" 4 ["effect", "items"] [] (spSm K C) := by
  refine has_of D scSm (fun _ _ _ _ _ _ us hl => match us, hl with | [_, _], _ => rfl) (fun xs H Q E h => ?_) (fun f cv A out s H xs Q E hr h => ?_)
  · obtain ⟨e, a, zs, rfl, _⟩ := h
    rfl
  · obtain ⟨e, a, zs, rfl, hz, h⟩ := h
    have hr1 : Room 1 _ := hr.mono (by decide)
    have hr2 : Room 2 _ := hr.mono (by decide)
    refine ⟨_, pss_cons (ps_expr (pe_has GC hr (pa_cons (pv 1) pa_nil)))
      (pss_cons (ps_if (pt_val (pe_propH GN (pv 0) T.cl hr2)) (pss_one (ps_ret (pe_op op_mul (pe_callB call_len_seq (by rfl) B.len PySem.boot_len (pa_cons (pv 1) pa_nil)) (pe_op op_sub (pe_callB call_len_seq (by rfl) B.len PySem.boot_len (pa_cons (pv 1) pa_nil)) pe_int)))) pss_nil)
      (pss_cons (ps_if (pt_not (pt_val (pe_callB (cr_all rfl) (by rfl) B.all (by decide +kernel) (pa_cons
          (pe_lc (own := [("item", 2)]) (g := gName 2) (tt := tYes) (te := tOp (rIn K false) (tVar 2) (tVar 1)) rfl scSm.nd (pi_tup (pe_op op_catS (pe_propH GP (pv 0) T.cl hr2) (pe_propH GU (pv 0) T.cl hr2))) (blkOk_by (own := [("item", 2)]) (N := nSm) (sc := defScope sShortestMany) (by decide +kernel))
            (fun _ _ _ _ _ => pg_name (i := 2) scSm.nd rfl (.inl rfl)) (fun _ _ _ _ _ => pts_nil) (fun _ _ _ _ _ => pe_cmpR op_in_seq (pv 2) (pv 1) (by rfl))) pa_nil)))) (pss_one (ps_ret pe_int)) pss_nil)
      (pss_one (ps_ret (pe_op op_mulG (pe_has GW hr (pa_cons (pv 0) pa_nil)) (pe_has GPw hr1 (pa_cons (pe_callB call_len_seq (by rfl) B.len PySem.boot_len (pa_cons (pv 1) pa_nil)) (pa_cons (pe_has GS hr (pa_cons (pv 0) pa_nil)) pa_nil)))))))), ?_⟩
    obtain ⟨d, hd, ok, l100, yes⟩ := hz.data
    refine ⟨_, rfl, .ref a, d, rfl, hd, ok, l100, yes, fun H1 s1 => ?_⟩
    have hz1 := hz.same s1
    have hat := hz1.at_
    have l50 := hz.len
    rcases h with ⟨xs, ys, p, he, l1, l2, h0, h9, k⟩ | ⟨hn, k⟩
    rotate_left
    · have hn1 := hn.same s1
      obtain ⟨dx, h1⟩ := hn1.ex
      refine ⟨_, rfl, e, dx, _, rfl, h1, e, rfl, .inr ⟨hn1, true, rfl, iteT ?_⟩⟩
      rw [← List.length_map (f := V.str) (as := zs)] at k
      refine ⟨_, rfl, a, _, rfl, hat.symm.symm, _, rfl, a, _, rfl, hat, _, 1, rfl, rfl, _, _, rfl, rfl, .inl ?_, k H1 s1⟩
      rw [List.length_map]
      omega
    have he1 := he.same s1
    obtain ⟨dx, u0, v0, h1, _, _⟩ := he1.ex
    refine ⟨_, rfl, e, dx, _, rfl, h1, e, rfl, .inl ⟨xs, ys, p, he1, false, rfl, iteF ?_⟩⟩
    refine ⟨_, rfl, e, dx, _, rfl, h1, e, xs, ys, p, rfl, he1, fun u hu => ⟨_, rfl, e, dx, _, rfl, h1, e, xs, ys, p, rfl, he1, fun v hv => ⟨u, v, _, _, rfl, rfl, hu, hv, ?_, fun c H2 s2 hc => ?_⟩⟩⟩
    · rw [List.length_map, List.length_map, sizeLine_eq]
      omega
    rw [← List.map_append] at hc
    have lxy : (xs ++ ys).length ≤ 2000 := by rw [List.length_append]; omega
    refine ⟨c, rfl, ⟨_, hc⟩, fun D hD => lc_tup (K := K) (a := c) (xs := (xs ++ ys).map V.str) (fun j H3 => H3 D = some (.lst ((((xs ++ ys).take j).map fun z => decide (z ∈ zs)).map V.bl)) ∧ Same H2 H3) ⟨upd_same, Same.new hD⟩ (fun _ _ _ q => Same.tup q.2 hc) ?_ ?_⟩
    · rintro j x H3 hx ⟨h3, s3⟩
      rw [List.getElem?_map] at hx
      cases hq : (xs ++ ys)[j]? with
      | none =>
        rw [hq] at hx
        cases hx
      | some z =>
        rw [hq] at hx
        cases hx
        refine ⟨rfl, yes_in ⟨_, rfl, _, rfl, a, _, rfl, (hz1.same (s2.trans s3)).at_, rfl, flat_strs zs, _, h3, ?_, ?_, Same.free2 s3 hD⟩⟩
        · rw [List.length_map, List.length_map, List.length_take, sizeLine_eq]
          omega
        · rw [upd_same, List.take_add_one, hq, List.map_append, List.map_append, if_neg Bool.false_ne_true, inV_str]
          rfl
    rintro H3 ⟨h3, s3⟩
    rw [List.length_map, List.take_length] at h3
    have s13 := (s1.trans s2).trans s3
    have he3 := he.same s13
    have hat3 := (hz.same s13).at_
    refine ⟨D, _, rfl, .of h3, _, rfl, ?_⟩
    have em : ((moreM xs ys p : Nat) : Int) = p - lp xs ys := by unfold moreM; omega
    by_cases c : ∀ z ∈ xs ++ ys, z ∈ zs
    rotate_left
    · have e0 : (((xs ++ ys).map fun z => decide (z ∈ zs)).all id) = false := by
        rw [Bool.eq_false_iff]
        intro q
        rw [List.all_eq_true] at q
        exact c fun z m => of_decide_eq_true (q _ (List.mem_map.mpr ⟨z, m, rfl⟩))
      rw [e0]
      refine iteT ?_
      have e1 : manyM xs ys p zs = 0 := by unfold manyM; rw [if_neg c]
      rw [e1] at k
      exact k H3 s13
    have e0 : (((xs ++ ys).map fun z => decide (z ∈ zs)).all id) = true := by
      rw [List.all_eq_true]
      intro b mb
      obtain ⟨z, mz, rfl⟩ := List.mem_map.mp mb
      exact decide_eq_true (c z mz)
    rw [e0]
    refine iteF ?_
    have e1 : manyM xs ys p zs = waysM xs ys p * ((zs.length ^ moreM xs ys p : Nat) : Int) := by unfold manyM; rw [if_pos c]
    rw [e1] at k
    refine ⟨_, rfl, e, xs, ys, p, rfl, he3, ?_⟩
    refine ⟨_, rfl, a, _, rfl, hat3, _, rfl, e, xs, ys, p, rfl, he3, zs.length, moreM xs ys p, (by rw [em, List.length_map]; rfl), by omega, by omega, fun H4 s4 => ?_⟩
    have w := ways_small xs ys p
    refine ⟨_, _, rfl, rfl, ⟨small_big (by omega), ?_⟩, k H4 (s13.trans s4)⟩
    rw [Int.natAbs_natCast]
    exact pow_big (by omega) (by omega)
def spSmX (K : PySem.W.Frag) (C : Addr) : Sp := fun xs H Q E => ∃ (u v : V) (d : PyData), xs = [u, v] ∧ DpX K H v d ∧ OkD d ∧ (∀ ds, d = .list ds ∨ d = .tuple ds → ds.length ≤ 100) ∧ ¬ IsIL d ∧ bad C H v E
theorem hasX_sm {X : Addr} (D : Def K mg "shortest_many" sShortestMany) (GC : HasX P w K mg base "check_items" 3 ["items"] [] (spCiX K X)) : HasX P w K mg base "shortest_many" 4 ["effect", "items"] [] (spSmX K X) := by
  refine hasX_of D scSm (fun _ _ _ _ _ _ us hl => match us, hl with | [_, _], _ => rfl) (fun xs H Q E h => ?_) (fun f cv A out s H xs Q E hr h => ?_)
  · obtain ⟨u, v, d, rfl, _⟩ := h
    rfl
  · obtain ⟨u, v, d, rfl, hd, ok, l100, nope, kN⟩ := h
    refine ⟨_, pss_cons (ps_expr (pe_hasX GC hr tkX (pa_cons (pv 1) pa_nil))) pss_never, ?_⟩
    exact ⟨_, rfl, v, d, rfl, hd, ok, l100, nope, kN⟩
end
end SE
namespace SE
open PySem PySem.Spec PyProof.Rows L2
/-! ### items exchanged for others -/
def InjS (S : List Str) (f : Str → Str) : Prop := ∀ a ∈ S, ∀ b ∈ S, f a = f b → a = b
def InW (S w : List Str) : Prop := ∀ z ∈ w, z ∈ S
theorem map_injS {S : List Str} {f : Str → Str} (h : InjS S f) : ∀ {a b : List Str}, InW S a → InW S b → a.map f = b.map f → a = b
  | [], [], _, _, _ => rfl
  | [], _ :: _, _, _, e => by cases e
  | _ :: _, [], _, _, e => by cases e
  | x :: a, y :: b, ha, hb, e => by
    rw [List.map_cons, List.map_cons] at e
    have e1 := (List.cons.inj e).1
    have e2 := (List.cons.inj e).2
    rw [h x (ha x List.mem_cons_self) y (hb y List.mem_cons_self) e1, map_injS h (fun z m => ha z (List.mem_cons_of_mem _ m)) (fun z m => hb z (List.mem_cons_of_mem _ m)) e2]
theorem map_iff {S : List Str} {f : Str → Str} (h : InjS S f) {a b : List Str} (ha : InW S a) (hb : InW S b) : (a.map f = b.map f) ↔ a = b := ⟨map_injS h ha hb, fun e => by rw [e]⟩
theorem InW.take {S w : List Str} (h : InW S w) (n : Nat) : InW S (w.take n) := fun z m => h z (List.mem_of_mem_take m)
theorem InW.drop {S w : List Str} (h : InW S w) (n : Nat) : InW S (w.drop n) := fun z m => h z (List.mem_of_mem_drop m)
theorem InW.app {S v w : List Str} (h : InW S v) (q : InW S w) : InW S (v ++ w) := fun z m => (List.mem_append.mp m).elim (h z) (q z)
theorem InW.nil {S : List Str} : InW S [] := fun z m => by cases m
def ledP (f : Str → Str) (A : Prt) : Prt := (A.1.map f, A.2.1.map f, A.2.2)
def ledE (f : Str → Str) (o : Eff) : Eff := o.map (ledP f)
structure InP (S : List Str) (A : Prt) : Prop where
  a : InW S A.1
  b : InW S A.2.1
def InE (S : List Str) (o : Eff) : Prop := ∀ A, o = some A → InP S A
section
variable {S : List Str} {f : Str → Str}
theorem comp_led (h : InjS S f) {A B : Prt} (hA : InP S A) (hB : InP S B) : comp (ledP f A) (ledP f B) = (comp A B).map (ledP f) := by
  unfold comp
  have e1 : (ledP f A).2.1.length = A.2.1.length := List.length_map _
  have e2 : (ledP f B).1.length = B.1.length := List.length_map _
  have e3 : (ledP f A).1.length = A.1.length := List.length_map _
  rw [e1, e2, e3]
  by_cases c : A.2.1.take (min A.2.1.length B.1.length) = B.1.take (min A.2.1.length B.1.length)
  · have c' : (ledP f A).2.1.take (min A.2.1.length B.1.length) = (ledP f B).1.take (min A.2.1.length B.1.length) := by
      show (A.2.1.map f).take _ = (B.1.map f).take _
      rw [← List.map_take, ← List.map_take, c]
    rw [if_pos c, if_pos c']
    show some (_, _, _) = some (ledP f (_, _, _))
    unfold ledP
    dsimp only
    rw [List.map_append, List.map_append, List.map_drop, List.map_drop]
  · have c' : ¬ (ledP f A).2.1.take (min A.2.1.length B.1.length) = (ledP f B).1.take (min A.2.1.length B.1.length) := fun z => c (by
      have z : (A.2.1.map f).take _ = (B.1.map f).take _ := z
      rw [← List.map_take, ← List.map_take] at z
      exact map_injS h (hA.b.take _) (hB.a.take _) z)
    rw [if_neg c, if_neg c']
    rfl
theorem comp_in {A B D : Prt} (hA : InP S A) (hB : InP S B) (h : comp A B = some D) : InP S D := by
  unfold comp at h
  split at h
  · cases h
    exact ⟨hA.a.app (hB.a.drop _), hB.b.app (hA.b.drop _)⟩
  · cases h
theorem join_led (h : InjS S f) : ∀ (ps : List Prt) {A : Prt}, InP S A → (∀ B ∈ ps, InP S B) → joinF (ledP f A) (ps.map (ledP f)) = ledE f (joinF A ps)
  | [], A, _, _ => rfl
  | B :: r, A, hA, hp => by
    show (match comp (ledP f A) (ledP f B) with | none => none | some D => joinF D (r.map (ledP f))) = ledE f (match comp A B with | none => none | some D => joinF D r)
    rw [comp_led h hA (hp B List.mem_cons_self)]
    cases e : comp A B with
    | none => rfl
    | some D => exact join_led h r (comp_in hA (hp B List.mem_cons_self) e) fun C m => hp C (List.mem_cons_of_mem _ m)
theorem join_in : ∀ (ps : List Prt) {A : Prt}, InP S A → (∀ B ∈ ps, InP S B) → InE S (joinF A ps)
  | [], A, hA, _ => fun B e => by
    cases e
    exact hA
  | B :: r, A, hA, hp => by
    show InE S (match comp A B with | none => none | some D => joinF D r)
    cases e : comp A B with
    | none => exact fun C z => by cases z
    | some D => exact join_in r (comp_in hA (hp B List.mem_cons_self) e) fun C m => hp C (List.mem_cons_of_mem _ m)
theorem part_in {s : Stp} (h : s.2 ∈ S) : InP S (partM s) := by
  unfold partM
  split
  · exact ⟨.nil, fun z m => by rw [List.mem_singleton.mp m]; exact h⟩
  · exact ⟨fun z m => by rw [List.mem_singleton.mp m]; exact h, .nil⟩
theorem part_led (s : Stp) : partM (s.1, f s.2) = ledP f (partM s) := by
  obtain ⟨b, z⟩ := s
  cases b <;> rfl
def ledW (f : Str → Str) (ss : List Stp) : List Stp := ss.map fun s => (s.1, f s.2)
theorem eff_led (h : InjS S f) {ss : List Stp} (hs : ∀ s ∈ ss, s.2 ∈ S) : effM (ledW f ss) = ledE f (effM ss) := by
  unfold effM joinM ledW
  rw [List.map_map, show (ss.map (partM ∘ fun s => (s.1, f s.2))) = (ss.map partM).map (ledP f) by
    rw [List.map_map]
    exact List.map_congr_left fun s _ => part_led s]
  have := join_led h (ss.map partM) (A := ([], [], 0)) ⟨.nil, .nil⟩ fun B m => by
    obtain ⟨s, ms, rfl⟩ := List.mem_map.mp m
    exact part_in (hs s ms)
  exact this
theorem eff_in {ss : List Stp} (hs : ∀ s ∈ ss, s.2 ∈ S) : InE S (effM ss) := join_in (ss.map partM) ⟨.nil, .nil⟩ fun B m => by
  obtain ⟨s, ms, rfl⟩ := List.mem_map.mp m
  exact part_in (hs s ms)
theorem parts_led : ∀ os : List Eff, parts (os.map (ledE f)) = (parts os).map fun ps => ps.map (ledP f)
  | [] => rfl
  | none :: _ => rfl
  | some B :: r => by
    show (parts (r.map (ledE f))).map (fun q => ledP f B :: q) = ((parts r).map fun q => B :: q).map fun ps => ps.map (ledP f)
    rw [parts_led r]
    cases parts r <;> rfl
theorem parts_mem : ∀ {os : List Eff} {ps : List Prt}, parts os = some ps → ∀ B ∈ ps, some B ∈ os
  | [], ps, e, B, m => by
    cases e
    cases m
  | none :: _, ps, e, B, m => by cases e
  | some A :: r, ps, e, B, m => by
    have e : (parts r).map (fun q => A :: q) = some ps := e
    cases q : parts r with
    | none => rw [q] at e; cases e
    | some qs =>
      rw [q] at e
      cases e
      rcases List.mem_cons.mp m with z | m
      · rw [z]; exact List.mem_cons_self
      · exact List.mem_cons_of_mem _ (parts_mem q B m)
theorem then_led (h : InjS S f) {os : List Eff} (ho : ∀ o ∈ os, InE S o) : thenM (os.map (ledE f)) = ledE f (thenM os) := by
  unfold thenM
  rw [parts_led]
  cases e : parts os with
  | none => rfl
  | some ps => exact join_led h ps (A := ([], [], 0)) ⟨.nil, .nil⟩ fun B m => ho _ (parts_mem e B m) B rfl
theorem then_in {os : List Eff} (ho : ∀ o ∈ os, InE S o) : InE S (thenM os) := by
  unfold thenM
  cases e : parts os with
  | none => exact fun A z => by cases z
  | some ps => exact join_in ps (A := ([], [], 0)) ⟨.nil, .nil⟩ fun B m => ho _ (parts_mem e B m) B rfl
theorem ledE_ok {o : Eff} (h : EffOk o) (ho : InE S o) (hf : ∀ z ∈ S, Item (f z)) : EffOk (ledE f o) := by
  cases o with
  | none => exact trivial
  | some A =>
    obtain ⟨xs, ys, p⟩ := A
    obtain ⟨_, _, l1, l2, q1, q2⟩ := h
    obtain ⟨a, b⟩ := ho _ rfl
    refine ⟨fun z m => ?_, fun z m => ?_, by rw [List.length_map]; exact l1, by rw [List.length_map]; exact l2, q1, q2⟩
    · obtain ⟨y, my, rfl⟩ := List.mem_map.mp m
      exact hf y (a y my)
    · obtain ⟨y, my, rfl⟩ := List.mem_map.mp m
      exact hf y (b y my)
/-! ### results -/
def ledR (f : Str → Str) (r : Option (List Str)) : Option (List Str) := r.map fun w => w.map f
theorem repl_led (h : InjS S f) {o : Eff} (ho : InE S o) {w : List Str} (hw : InW S w) : replM (ledE f o) (w.map f) = ledR f (replM o w) := by
  cases o with
  | none => rfl
  | some A =>
    obtain ⟨xs, ys, p⟩ := A
    obtain ⟨a, b⟩ := ho _ rfl
    show (if (w.map f).take (xs.map f).length = xs.map f then some (ys.map f ++ (w.map f).drop (xs.map f).length) else none) = ledR f (if w.take xs.length = xs then some (ys ++ w.drop xs.length) else none)
    rw [List.length_map, ← List.map_take, ← List.map_drop]
    by_cases c : w.take xs.length = xs
    · rw [if_pos c, if_pos ((map_iff h (hw.take _) a).mpr c)]
      exact congrArg some (List.map_append).symm
    · rw [if_neg c, if_neg fun z => c ((map_iff h (hw.take _) a).mp z)]
      rfl
def InR (S : List Str) (r : Option (List Str)) : Prop := ∀ w, r = some w → InW S w
theorem repl_in {o : Eff} (ho : InE S o) {w : List Str} (hw : InW S w) : InR S (replM o w) := fun v e => by
  cases o with
  | none => cases e
  | some A =>
    obtain ⟨xs, ys, p⟩ := A
    obtain ⟨a, b⟩ := ho _ rfl
    have e : (if w.take xs.length = xs then some (ys ++ w.drop xs.length) else none) = some v := e
    split at e
    · cases e
      exact b.app (hw.drop _)
    · cases e
theorem ledR_inj (h : InjS S f) {a b : Option (List Str)} (ha : InR S a) (hb : InR S b) (e : ledR f a = ledR f b) : a = b := by
  cases a with
  | none =>
    cases b with
    | none => rfl
    | some y => cases e
  | some x =>
    cases b with
    | none => cases e
    | some y => exact congrArg some (map_injS h (ha _ rfl) (hb _ rfl) (Option.some.inj e))
theorem ap_led (h : InjS S f) (lim : Option Int) {o : Eff} (ho : InE S o) {w : List Str} (hw : InW S w) : apM lim (ledE f o) (w.map f) = ledR f (apM lim o w) := by
  cases o with
  | none => rfl
  | some A =>
    obtain ⟨xs, ys, p⟩ := A
    show apM lim (some (xs.map f, ys.map f, p)) (w.map f) = _
    rw [ap_repl, ap_repl, List.length_map]
    split
    · rfl
    · exact repl_led h ho hw
/-! ### possible candidates -/
theorem giv_led (h : InjS S f) {o : Eff} (ho : InE S o) {bs : List Ob} (hb : ∀ b ∈ bs, InW S b.1 ∧ InR S b.2) : givM (ledE f o) (bs.map fun b => (b.1.map f, ledR f b.2)) = givM o bs := by
  unfold givM
  rw [List.all_map]
  induction bs with
  | nil => rfl
  | cons b r ih =>
    rw [List.all_cons, List.all_cons, ih fun c m => hb c (List.mem_cons_of_mem _ m)]
    congr 1
    obtain ⟨h1, h2⟩ := hb b List.mem_cons_self
    show decide (replM (ledE f o) (b.1.map f) = ledR f b.2) = decide (replM o b.1 = b.2)
    rw [repl_led h ho h1]
    exact decide_eq_decide.mpr ⟨ledR_inj h (repl_in ho h1) h2, fun e => by rw [e]⟩
theorem getD_led (os : List Eff) (i : Nat) : (os.map (ledE f)).getD i none = ledE f (os.getD i none) := by
  rw [List.getD_eq_getElem?_getD, List.getD_eq_getElem?_getD, List.getElem?_map]
  cases os[i]? <;> rfl
theorem getD_in {os : List Eff} (ho : ∀ o ∈ os, InE S o) (i : Nat) : InE S (os.getD i none) := by
  rw [List.getD_eq_getElem?_getD]
  cases e : os[i]? with
  | none => exact fun A z => by cases z
  | some o => exact ho o (List.mem_of_getElem? e)
theorem pos_led (h : InjS S f) {os : List Eff} (ho : ∀ o ∈ os, InE S o) {bs : List Ob} (hb : ∀ b ∈ bs, InW S b.1 ∧ InR S b.2) (n : Nat) : posM (os.map (ledE f)) (bs.map fun b => (b.1.map f, ledR f b.2)) n = posM os bs n := by
  unfold posM
  refine List.filter_congr fun i _ => ?_
  rw [getD_led, giv_led h (getD_in ho i) hb]
end
end SE
namespace SE
open PySem PySem.Spec PyProof.Rows L2 SeqAt
open PySem.W (alike alikeAll dataLt dataLe dataLt_pair dataLt_tuple dataLt_cons keyToks keyToksAll toks_all_cons lex_atom)
/-! ### items exchanged for others in the same order -/
structure MonS (S : List Str) (f : Str → Str) : Prop where
  inj : InjS S f
  lt : ∀ a ∈ S, ∀ b ∈ S, dataLt (.str (f a)) (.str (f b)) = dataLt (.str a) (.str b)
def ldW (f : Str → Str) (w : List Str) : List Str := w.map f
section
variable {S : List Str} {f : Str → Str}
theorem strs_lt (h : MonS S f) : ∀ {xs ys : List Str}, InW S xs → InW S ys → PyProof.Rows.lexLt itemOrd (keyToksAll ((xs.map f).map PyData.str)) (keyToksAll ((ys.map f).map PyData.str)) = PyProof.Rows.lexLt itemOrd (keyToksAll (xs.map PyData.str)) (keyToksAll (ys.map PyData.str))
  | [], [], _, _ => rfl
  | [], y :: ys, _, _ => by
    simp only [List.map_nil, List.map_cons, toks_all_cons]
    rw [show keyToksAll [] = [Sum.inl 0] from by rw [keyToksAll]]
    exact (lex_atom (by decide) _ _).trans (lex_atom (by decide) _ _).symm
  | x :: xs, [], _, _ => by
    simp only [List.map_nil, List.map_cons, toks_all_cons]
    rw [show keyToksAll [] = [Sum.inl 0] from by rw [keyToksAll]]
    exact (lex_atom (by decide) _ _).trans (lex_atom (by decide) _ _).symm
  | x :: xs, y :: ys, hx, hy => by
    have s : ∀ a b : Str, alike (.str a) (.str b) = true := fun a b => by simp [alike]
    simp only [List.map_cons]
    rw [dataLt_cons (s _ _), dataLt_cons (s _ _), strs_lt h (fun z m => hx z (List.mem_cons_of_mem _ m)) (fun z m => hy z (List.mem_cons_of_mem _ m)), h.lt x (hx x List.mem_cons_self) y (hy y List.mem_cons_self)]
    have e : PyData.eqv (.str (f x)) (.str (f y)) = PyData.eqv (.str x) (.str y) := by
      simp only [PyData.eqv]
      by_cases c : x = y
      · rw [c]
        simp
      · have c2 : ¬ f x = f y := fun z => c (h.inj x (hx x List.mem_cons_self) y (hy y List.mem_cons_self) z)
        rw [beq_eq_false_iff_ne.mpr c, beq_eq_false_iff_ne.mpr c2]
    rw [e]
theorem tup_lt (h : MonS S f) {xs ys : List Str} (hx : InW S xs) (hy : InW S ys) : dataLt (.tuple ((xs.map f).map .str)) (.tuple ((ys.map f).map .str)) = dataLt (.tuple (xs.map .str)) (.tuple (ys.map .str)) := by
  rw [dataLt_tuple, dataLt_tuple, strs_lt h hx hy]
theorem key_lt (h : MonS S f) {xs ys : List Str} (hx : InW S xs) (hy : InW S ys) : dataLt (keyD (xs.map f)) (keyD (ys.map f)) = dataLt (keyD xs) (keyD ys) := by
  have i : ∀ x y : Int, alike (.int x) (.int y) = true := fun x y => by simp [alike]
  have s : ∀ a b : List Str, alike (.tuple (a.map .str)) (.tuple (b.map .str)) = true := fun a b => by
    have := alike_strs a b
    simp [alike, this]
  unfold keyD
  rw [dataLt_pair (i _ _) (s _ _), dataLt_pair (i _ _) (s _ _), tup_lt h hx hy, eqv_tupS, eqv_tupS, List.length_map, List.length_map]
  rw [show decide (xs.map f = ys.map f) = decide (xs = ys) from decide_eq_decide.mpr (map_iff h.inj hx hy)]
theorem ltW_led (h : MonS S f) {xs ys : List Str} (hx : InW S xs) (hy : InW S ys) : ltW (xs.map f) (ys.map f) = ltW xs ys := key_lt h hx hy
/-! ### differences -/
theorem fs_led (lim : Option Int) (o : Eff) : fsM lim (ledE f o) = ledR f (fsM lim o) := by
  cases o with
  | none => rfl
  | some A =>
    obtain ⟨xs, ys, p⟩ := A
    show (if overZ lim (((xs.map f).length : Int) + p) = true then none else some (xs.map f)) = ledR f (if overZ lim ((xs.length : Int) + p) = true then none else some xs)
    rw [List.length_map]
    split <;> rfl
theorem fs_in {lim : Option Int} {o : Eff} (ho : InE S o) : InR S (fsM lim o) := fun w e => by
  cases o with
  | none => cases e
  | some A =>
    obtain ⟨xs, ys, p⟩ := A
    have e : (if overZ lim ((xs.length : Int) + p) = true then none else some xs) = some w := e
    split at e
    · cases e
    · cases e
      exact (ho _ rfl).a
theorem dif_led (h : MonS S f) {o1 o2 : Eff} (h1 : InE S o1) (h2 : InE S o2) : difM none (ledE f o1) (ledE f o2) = ledR f (difM none o1 o2) := by
  cases o1 with
  | none => cases o2 <;> rfl
  | some A =>
    cases o2 with
    | none => rfl
    | some B =>
      obtain ⟨xs, ys, p⟩ := A
      obtain ⟨vs, ws, q⟩ := B
      obtain ⟨a1, a2⟩ := h1 _ rfl
      obtain ⟨b1, b2⟩ := h2 _ rfl
      show (if xs.map f = vs.map f ∧ ys.map f = ws.map f then beyM none (xs.map f) p q else some (if ltW (vs.map f) (xs.map f) = true then vs.map f else xs.map f)) = ledR f (if xs = vs ∧ ys = ws then beyM none xs p q else some (if ltW vs xs = true then vs else xs))
      rw [ltW_led h b1 a1]
      by_cases c : xs = vs ∧ ys = ws
      · rw [if_pos c, if_pos ⟨(map_iff h.inj a1 b1).mpr c.1, (map_iff h.inj a2 b2).mpr c.2⟩]
        rfl
      · rw [if_neg c, if_neg fun z => c ⟨(map_iff h.inj a1 b1).mp z.1, (map_iff h.inj a2 b2).mp z.2⟩]
        split <;> rfl
theorem dif_in {o1 o2 : Eff} (h1 : InE S o1) (h2 : InE S o2) : InR S (difM none o1 o2) := fun w e => by
  cases o1 with
  | none =>
    cases o2 with
    | none => cases e
    | some B =>
      obtain ⟨vs, ws, q⟩ := B
      cases e
      exact (h2 _ rfl).a
  | some A =>
    obtain ⟨xs, ys, p⟩ := A
    cases o2 with
    | none =>
      cases e
      exact (h1 _ rfl).a
    | some B =>
      obtain ⟨vs, ws, q⟩ := B
      have e : (if xs = vs ∧ ys = ws then beyM none xs p q else some (if ltW vs xs = true then vs else xs)) = some w := e
      split at e
      · cases e
      · cases Option.some.inj e
        split
        · exact (h2 _ rfl).a
        · exact (h1 _ rfl).a
theorem len_or (a b : List Str) : (if ltW b a = true then b else a).length = min a.length b.length := by
  split
  · rename_i c
    have := ltW_le c
    omega
  · rename_i c
    have := ltW_ge (Bool.eq_false_iff.mpr c)
    omega
theorem dif_len (h : InjS S f) (lim : Option Int) {o1 o2 : Eff} (h1 : InE S o1) (h2 : InE S o2) : (difM lim (ledE f o1) (ledE f o2)).map List.length = (difM lim o1 o2).map List.length := by
  unfold difM
  rw [fs_led, fs_led]
  cases o1 with
  | none =>
    cases o2 with
    | none => rfl
    | some B =>
      show (match (none : Option (List Str)), ledR f (fsM lim (some B)), (none : Eff), ledE f (some B) with
        | some x1, some x2, some (_, y1, p1), some (_, y2, p2) => if x1 = x2 ∧ y1 = y2 then beyM lim x1 p1 p2 else some (if ltW x2 x1 = true then x2 else x1)
        | some x1, none, _, _ => some x1
        | none, some x2, _, _ => some x2
        | _, _, _, _ => none).map List.length = _
      show _ = (match (none : Option (List Str)), fsM lim (some B), (none : Eff), some B with
        | some x1, some x2, some (_, y1, p1), some (_, y2, p2) => if x1 = x2 ∧ y1 = y2 then beyM lim x1 p1 p2 else some (if ltW x2 x1 = true then x2 else x1)
        | some x1, none, _, _ => some x1
        | none, some x2, _, _ => some x2
        | _, _, _, _ => none).map List.length
      cases fsM lim (some B) with
      | none => rfl
      | some x => exact congrArg some (List.length_map _)
  | some A =>
    cases o2 with
    | none =>
      cases fsM lim (some A) with
      | none => rfl
      | some x => exact congrArg some (List.length_map _)
    | some B =>
      have i1 : InR S (fsM lim (some A)) := fs_in h1
      have i2 : InR S (fsM lim (some B)) := fs_in h2
      obtain ⟨a1, a2⟩ := h1 _ rfl
      obtain ⟨b1, b2⟩ := h2 _ rfl
      obtain ⟨xs, ys, p⟩ := A
      obtain ⟨vs, ws, q⟩ := B
      cases e1 : fsM lim (some (xs, ys, p)) with
      | none =>
        cases e2 : fsM lim (some (vs, ws, q)) with
        | none => rfl
        | some x2 => exact congrArg some (List.length_map _)
      | some x1 =>
        cases e2 : fsM lim (some (vs, ws, q)) with
        | none => exact congrArg some (List.length_map _)
        | some x2 =>
          show (if x1.map f = x2.map f ∧ ys.map f = ws.map f then beyM lim (x1.map f) p q else some (if ltW (x2.map f) (x1.map f) = true then x2.map f else x1.map f)).map List.length = (if x1 = x2 ∧ ys = ws then beyM lim x1 p q else some (if ltW x2 x1 = true then x2 else x1)).map List.length
          have j1 := i1 x1 e1
          have j2 := i2 x2 e2
          by_cases c : x1 = x2 ∧ ys = ws
          · rw [if_pos c, if_pos ⟨(map_iff h j1 j2).mpr c.1, (map_iff h a2 b2).mpr c.2⟩]
            unfold beyM
            cases lim with
            | none => rfl
            | some L =>
              dsimp only
              split
              · rfl
              · rw [Option.map_some, Option.map_some, List.length_append, List.length_append, List.length_map]
          · rw [if_neg c, if_neg fun z => c ⟨(map_iff h j1 j2).mp z.1, (map_iff h a2 b2).mp z.2⟩, Option.map_some, Option.map_some, len_or, len_or, List.length_map, List.length_map]
end
end SE
namespace SE
open PySem PySem.Spec PyProof.Rows L2 SeqAt
open PySem.W (alike alikeAll dataLt dataLe dataLt_pair dataLt_int keyToks)
/-! ### groups -/
section
variable {S : List Str} {f : Str → Str}
def ldG (f : Str → Str) (g : Res × List Nat) : Res × List Nat := (ledR f g.1, g.2)
theorem addG_led (h : InjS S f) {k : Res} (hk : InR S k) (i : Nat) : ∀ {G : Grp}, (∀ g ∈ G, InR S g.1) → addG (ledR f k) i (G.map (ldG f)) = (addG k i G).map (ldG f)
  | [], _ => rfl
  | g :: G, hG => by
    rw [List.map_cons]
    unfold addG
    by_cases c : g.1 = k
    · rw [if_pos c, if_pos (show (ldG f g).1 = ledR f k by rw [← c]; rfl)]
      rfl
    · rw [if_neg c, if_neg (show ¬ (ldG f g).1 = ledR f k from fun z => c (ledR_inj h (hG g List.mem_cons_self) hk z)), addG_led h hk i fun g m => hG g (List.mem_cons_of_mem _ m)]
      rfl
theorem addG_in {k : Res} (hk : InR S k) {i : Nat} {G : Grp} (hG : ∀ g ∈ G, InR S g.1) : ∀ g ∈ addG k i G, InR S g.1 := fun g m => by
  rcases addG_mem m with ⟨g0, m0, e, _⟩ | e
  · rw [e]; exact hG g0 m0
  · rw [e]; exact hk
theorem getD_inR {rs : List Res} (hr : ∀ r ∈ rs, InR S r) (n : Nat) : InR S (rs.getD n none) := by
  rw [List.getD_eq_getElem?_getD]
  cases e : rs[n]? with
  | none => exact fun w z => by cases z
  | some r => exact hr r (List.mem_of_getElem? e)
theorem grp_in {rs : List Res} (hr : ∀ r ∈ rs, InR S r) : ∀ n, ∀ g ∈ grpM rs n, InR S g.1
  | 0, g, m => by cases m
  | n + 1, g, m => addG_in (getD_inR hr n) (grp_in hr n) g m
theorem grp_led (h : InjS S f) {rs : List Res} (hr : ∀ r ∈ rs, InR S r) : ∀ n, grpM (rs.map (ledR f)) n = (grpM rs n).map (ldG f)
  | 0 => rfl
  | n + 1 => by
    show addG ((rs.map (ledR f)).getD n none) n (grpM (rs.map (ledR f)) n) = _
    have e : (rs.map (ledR f)).getD n none = ledR f (rs.getD n none) := by
      rw [List.getD_eq_getElem?_getD, List.getD_eq_getElem?_getD, List.getElem?_map]
      cases rs[n]? <;> rfl
    rw [grp_led h hr n, e, addG_led h (getD_inR hr n) n (grp_in hr n)]
    rfl
theorem res_led (h : InjS S f) {os : List Eff} (ho : ∀ o ∈ os, InE S o) {w : List Str} (hw : InW S w) : resM (os.map (ledE f)) (w.map f) = (resM os w).map (ledR f) := by
  unfold resM
  rw [List.map_map, List.map_map]
  exact List.map_congr_left fun o m => repl_led h (ho o m) hw
theorem res_in {os : List Eff} (ho : ∀ o ∈ os, InE S o) {w : List Str} (hw : InW S w) : ∀ r ∈ resM os w, InR S r := fun r m => by
  obtain ⟨o, mo, rfl⟩ := List.mem_map.mp m
  exact repl_in (ho o mo) hw
theorem lg_led (h : InjS S f) {os : List Eff} (ho : ∀ o ∈ os, InE S o) {w : List Str} (hw : InW S w) : lgM (os.map (ledE f)) (w.map f) = lgM os w := by
  unfold lgM
  rw [res_led h ho hw, List.length_map, grp_led h (res_in ho hw)]
  unfold largM
  rw [List.map_map]
  rfl
theorem pops_led (os : List Eff) : popsM (os.map (ledE f)) = (popsM os).map (ldW f) := by
  unfold popsM
  induction os with
  | nil => rfl
  | cons o r ih =>
    cases o with
    | none => exact ih
    | some A => exact congrArg (List.cons _) ih
theorem stks_led (os : List Eff) : stksM (os.map (ledE f)) = (stksM os).map (ldW f) := by
  unfold stksM
  rw [pops_led, List.map_append]
  rfl
theorem stks_in {os : List Eff} (ho : ∀ o ∈ os, InE S o) : ∀ w ∈ stksM os, InW S w := fun w m => by
  rcases List.mem_append.mp m with q | q
  · rw [List.mem_singleton.mp q]
    exact .nil
  · obtain ⟨o, mo, e⟩ := List.mem_filterMap.mp q
    obtain ⟨B, rfl, eb⟩ := Option.map_eq_some_iff.mp e
    rw [← eb]
    exact (ho _ mo _ rfl).a
theorem row_led (h : MonS S f) {os : List Eff} (ho : ∀ o ∈ os, InE S o) {a b : List Str} (ha : InW S a) (hb : InW S b) : dataLt (rowD (os.map (ledE f)) (a.map f)) (rowD (os.map (ledE f)) (b.map f)) = dataLt (rowD os a) (rowD os b) := by
  have i : ∀ x y : Int, alike (.int x) (.int y) = true := fun x y => by simp [alike]
  unfold rowD
  rw [dataLt_pair (i _ _) (alike_key _ _), dataLt_pair (i _ _) (alike_key _ _), key_lt h ha hb, lg_led h.inj ho ha, lg_led h.inj ho hb]
  have e : PyData.eqv (keyD (a.map f)) (keyD (b.map f)) = PyData.eqv (keyD a) (keyD b) := by
    have q : ∀ x y : List Str, PyData.eqv (keyD x) (keyD y) = (PyData.eqv (.int (x.length : Int)) (.int (y.length : Int)) && PyData.eqv (.tuple (x.map .str)) (.tuple (y.map .str))) := fun x y => by
      simp [keyD, PyData.eqv, PyData.eqvAll]
    rw [q, q, eqv_tupS, eqv_tupS, List.length_map, List.length_map]
    rw [show decide (a.map f = b.map f) = decide (a = b) from decide_eq_decide.mpr (map_iff h.inj ha hb)]
  rw [e]
theorem argBest_congr {p q : Nat → Nat → Bool} : ∀ {k : Nat}, (∀ i j, i ≤ k → j ≤ k → p i j = q i j) → argBest p k = argBest q k
  | 0, _ => rfl
  | k + 1, h => by
    have ih := argBest_congr (p := p) (q := q) (k := k) fun i j hi hj => h i j (by omega) (by omega)
    have le := (show argBest q k ≤ k from by
      have : ∀ k, argBest q k ≤ k := fun k => by
        induction k with
        | zero => exact Nat.le_refl _
        | succ k ih => unfold argBest; split <;> omega
      exact this k)
    unfold argBest
    rw [ih, h (k + 1) (argBest q k) (Nat.le_refl _) (by omega)]
theorem stks_pos (os : List Eff) : 0 < (stksM os).length := by
  unfold stksM
  rw [List.length_append, List.length_singleton]
  omega
theorem rowS_at (os : List Eff) {i : Nat} (hi : i < (stksM os).length) : ((stksM os).map (rowD os)).getD i .none = rowD os ((stksM os).getD i []) := by
  rw [List.getD_eq_getElem?_getD, List.getD_eq_getElem?_getD, List.getElem?_map, List.getElem?_eq_getElem hi]
  rfl
theorem getD_in2 {ws : List (List Str)} (h : ∀ w ∈ ws, InW S w) (i : Nat) : InW S (ws.getD i []) := by
  rw [List.getD_eq_getElem?_getD]
  cases e : ws[i]? with
  | none => exact .nil
  | some w => exact h w (List.mem_of_getElem? e)
theorem getD_ldW (ws : List (List Str)) (i : Nat) : (ws.map (ldW f)).getD i [] = (ws.getD i []).map f := by
  rw [List.getD_eq_getElem?_getD, List.getD_eq_getElem?_getD, List.getElem?_map]
  cases ws[i]? <;> rfl
theorem best_led (h : MonS S f) {os : List Eff} (ho : ∀ o ∈ os, InE S o) : bestM (os.map (ledE f)) = (bestM os).map f := by
  have e : bestI (os.map (ledE f)) = bestI os := by
    unfold bestI
    have l : (stksM (os.map (ledE f))).length = (stksM os).length := by rw [stks_led, List.length_map]
    rw [l]
    have pos := stks_pos os
    refine argBest_congr fun i j hi hj => ?_
    unfold ltD
    rw [rowS_at _ (by omega), rowS_at _ (by omega), rowS_at _ (by omega), rowS_at _ (by omega), stks_led, getD_ldW, getD_ldW, row_led h ho (getD_in2 (stks_in ho) i) (getD_in2 (stks_in ho) j)]
  unfold bestM
  rw [e, stks_led, getD_ldW]
theorem best_in {os : List Eff} (ho : ∀ o ∈ os, InE S o) : InW S (bestM os) := getD_in2 (stks_in ho) _
theorem best_min (os : List Eff) : bestM os ∈ stksM os ∧ ∀ w ∈ stksM os, lgM os (bestM os) ≤ lgM os w := by
  have pos := stks_pos os
  obtain ⟨b1, b2⟩ := argBest_min (fun i => ((stksM os).map (rowD os)).getD i .none) ((stksM os).length - 1)
  have bl : bestI os < (stksM os).length := Nat.lt_of_le_of_lt b1 (by omega)
  refine ⟨?_, fun w m => ?_⟩
  · unfold bestM
    rw [List.getD_eq_getElem?_getD, List.getElem?_eq_getElem bl]
    exact List.getElem_mem _
  · obtain ⟨j, hj, ej⟩ := List.mem_iff_getElem.mp m
    have h1 : dataLt (((stksM os).map (rowD os)).getD j .none) (((stksM os).map (rowD os)).getD (bestI os) .none) = false := b2 j (by omega)
    rw [rowS_at os hj, rowS_at os bl] at h1
    have h1 : dataLt (rowD os ((stksM os).getD j [])) (rowD os (bestM os)) = false := h1
    rw [List.getD_eq_getElem?_getD, List.getElem?_eq_getElem hj, Option.getD_some, ej] at h1
    refine Nat.le_of_not_lt fun lt => ?_
    have i : ∀ x y : Int, alike (.int x) (.int y) = true := fun x y => by simp [alike]
    unfold rowD at h1
    rw [dataLt_pair (i _ _) (alike_key _ _), if_neg (by simp [PyData.eqv]; omega), dataLt_int] at h1
    have := of_decide_eq_false h1
    omega
theorem best_size (h : InjS S f) {os : List Eff} (ho : ∀ o ∈ os, InE S o) : lgM (os.map (ledE f)) (bestM (os.map (ledE f))) = lgM os (bestM os) := by
  obtain ⟨m1, l1⟩ := best_min os
  obtain ⟨m2, l2⟩ := best_min (os.map (ledE f))
  rw [stks_led] at m2 l2
  obtain ⟨w, mw, ew⟩ := List.mem_map.mp m2
  have a := l2 _ (List.mem_map.mpr ⟨_, m1, rfl⟩)
  rw [show ldW f (bestM os) = (bestM os).map f from rfl, lg_led h ho (stks_in ho _ m1)] at a
  have b := l1 w mw
  rw [← ew, show ldW f w = w.map f from rfl, lg_led h ho (stks_in ho _ mw)] at a
  rw [← ew, show ldW f w = w.map f from rfl, lg_led h ho (stks_in ho _ mw)]
  omega
/-! ### outcomes -/
theorem sort_led (h : MonS S f) {ws : List (List Str)} (hw : ∀ w ∈ ws, InW S w) : sortW (ws.map (ldW f)) = (sortW ws).map (ldW f) := by
  have e : sortIx (ws.map (ldW f)) = sortIx ws := by
    unfold sortIx
    rw [List.length_map]
    congr 1
    funext i j
    show (!dataLt (keyI (ws.map (ldW f)) j) (keyI (ws.map (ldW f)) i)) = !dataLt (keyI ws j) (keyI ws i)
    unfold keyI
    rw [getD_ldW, getD_ldW, key_lt h (getD_in2 hw j) (getD_in2 hw i)]
  unfold sortW
  rw [e, List.map_map]
  exact List.map_congr_left fun i _ => getD_ldW ws i
theorem hasN_led (G : Grp) : hasG none (G.map (ldG f)) = hasG none G := by
  unfold hasG
  rw [List.any_map]
  congr 1
  funext g
  obtain ⟨r, l⟩ := g
  cases r <;> rfl
theorem words_led (G : Grp) : wordsG (G.map (ldG f)) = (wordsG G).map (ldW f) := by
  unfold wordsG
  induction G with
  | nil => rfl
  | cons g r ih =>
    obtain ⟨k, l⟩ := g
    cases k with
    | none => exact ih
    | some w => exact congrArg (List.cons _) ih
theorem words_in {G : Grp} (hG : ∀ g ∈ G, InR S g.1) : ∀ w ∈ wordsG G, InW S w := fun w m => by
  obtain ⟨g, mg, e⟩ := List.mem_filterMap.mp m
  exact hG g mg w e
theorem look_led (h : InjS S f) {k : Res} (hk : InR S k) : ∀ {G : Grp}, (∀ g ∈ G, InR S g.1) → lookG (ledR f k) (G.map (ldG f)) = lookG k G
  | [], _ => rfl
  | g :: G, hG => by
    rw [List.map_cons]
    unfold lookG
    by_cases c : g.1 = k
    · rw [if_pos c, if_pos (show (ldG f g).1 = ledR f k by rw [← c]; rfl)]
      rfl
    · rw [if_neg c, if_neg (show ¬ (ldG f g).1 = ledR f k from fun z => c (ledR_inj h (hG g List.mem_cons_self) hk z)), look_led h hk fun g m => hG g (List.mem_cons_of_mem _ m)]
theorem keys_in {G : Grp} (hG : ∀ g ∈ G, InR S g.1) : ∀ k ∈ keysG G, InR S k := fun k m => by
  unfold keysG at m
  rcases List.mem_append.mp m with q | q
  · split at q
    · rw [List.mem_singleton.mp q]
      exact fun w z => by cases z
    · cases q
  · obtain ⟨w, mw, rfl⟩ := List.mem_map.mp q
    intro v e
    cases e
    exact words_in hG _ (sortW_mem mw)
theorem out_led (h : MonS S f) {G : Grp} (hG : ∀ g ∈ G, InR S g.1) : outM (G.map (ldG f)) = (outM G).map (ldG f) := by
  have ek : keysG (G.map (ldG f)) = (keysG G).map (ledR f) := by
    unfold keysG
    rw [hasN_led, words_led, sort_led h (words_in hG), List.map_append, List.map_map, List.map_map]
    congr 1
    split <;> rfl
  unfold outM
  rw [ek, List.map_map, List.map_map]
  exact List.map_congr_left fun k m => by
    show (ledR f k, lookG (ledR f k) (G.map (ldG f))) = (ledR f k, lookG k G)
    rw [look_led h.inj (keys_in hG k m) hG]
end
end SE
namespace SE
open PySem PySem.Spec PyProof.Rows L2 SeqAt
open PySem.W (alike alikeAll dataLt dataLe dataLt_pair dataLt_int keyToks AllAlike Sortable)
/-! ### lists of places, sorted -/
theorem addG_keys (k : Res) (i : Nat) : ∀ G : Grp, (addG k i G).map (·.1) = if k ∈ G.map (·.1) then G.map (·.1) else G.map (·.1) ++ [k]
  | [] => rfl
  | g :: G => by
    unfold addG
    by_cases c : g.1 = k
    · rw [if_pos c, if_pos (by rw [List.map_cons, c]; exact List.mem_cons_self)]
      rfl
    · rw [if_neg c, List.map_cons, List.map_cons, addG_keys k i G]
      by_cases d : k ∈ G.map (·.1)
      · rw [if_pos d, if_pos (List.mem_cons_of_mem _ d)]
      · rw [if_neg d, if_neg fun z => (List.mem_cons.mp z).elim (fun z => c z.symm) d]
        rfl
theorem grp_nd (rs : List Res) : ∀ n, ((grpM rs n).map (·.1)).Nodup
  | 0 => .nil
  | n + 1 => by
    show ((addG (rs.getD n none) n (grpM rs n)).map (·.1)).Nodup
    rw [addG_keys]
    split
    · exact grp_nd rs n
    · rename_i c
      exact List.nodup_append.mpr ⟨grp_nd rs n, List.nodup_cons.mpr ⟨fun m => (by cases m), .nil⟩, fun a ha b hb e => c (by rw [← List.mem_singleton.mp hb, ← e]; exact ha)⟩
theorem range_getD {α : Type} (d : α) (l : List α) : (List.range l.length).map (fun i => l.getD i d) = l := by
  refine List.ext_getElem (by rw [List.length_map, List.length_range]) fun i h1 h2 => ?_
  rw [List.getElem_map, List.getElem_range, List.getD_eq_getElem?_getD, List.getElem?_eq_getElem h2]
  rfl
theorem sortW_perm (ws : List (List Str)) : (sortW ws).Perm ws := by
  have := ((List.mergeSort_perm (List.range ws.length) (dataLe false (keyI ws))).map fun i => ws.getD i [])
  rw [range_getD] at this
  exact this
theorem keys_perm {G : Grp} (nd : (G.map (·.1)).Nodup) : (keysG G).Perm (G.map (·.1)) := by
  have a : (keysG G).Perm ((if hasG none G = true then [none] else []) ++ (wordsG G).map some) := List.Perm.append (List.Perm.refl _) ((sortW_perm _).map some)
  refine a.trans ?_
  clear a
  induction G with
  | nil => exact List.Perm.refl _
  | cons g r ih =>
    obtain ⟨k, l⟩ := g
    rw [List.map_cons] at nd
    have nd2 := (List.nodup_cons.mp nd).2
    have nk := (List.nodup_cons.mp nd).1
    have ih := ih nd2
    cases k with
    | none =>
      have h0 : hasG none r = false := by
        unfold hasG
        rw [Bool.eq_false_iff]
        intro z
        obtain ⟨g, mg, e⟩ := List.any_eq_true.mp z
        exact nk (by rw [← of_decide_eq_true e]; exact List.mem_map.mpr ⟨g, mg, rfl⟩)
      rw [h0] at ih
      have h1 : hasG none ((none, l) :: r) = true := by
        unfold hasG
        rw [List.any_cons]
        rfl
      rw [h1, if_pos rfl]
      exact List.Perm.cons _ ih
    | some w =>
      have h1 : hasG none ((some w, l) :: r) = hasG none r := by
        unfold hasG
        rw [List.any_cons]
        rfl
      rw [h1]
      show ((if hasG none r = true then [none] else []) ++ some w :: (wordsG r).map some).Perm (some w :: r.map fun g : Res × List Nat => g.1)
      exact (List.perm_middle).trans (List.Perm.cons _ ih)
theorem look_at : ∀ {G : Grp}, (G.map (·.1)).Nodup → (G.map (·.1)).map (fun k => lookG k G) = G.map (·.2)
  | [], _ => rfl
  | g :: G, nd => by
    rw [List.map_cons] at nd
    obtain ⟨n1, n2⟩ := List.nodup_cons.mp nd
    rw [List.map_cons, List.map_cons, List.map_cons]
    have e1 : lookG g.1 (g :: G) = g.2 := by
      unfold lookG
      rw [if_pos rfl]
    rw [e1]
    congr 1
    rw [← look_at n2]
    refine List.map_congr_left fun k m => ?_
    show lookG k (g :: G) = lookG k G
    rw [lookG, if_neg fun z => n1 (by rw [z]; exact m)]
def szM (G : Grp) : List (List Nat) := (outM G).map (·.2)
theorem sz_perm {G : Grp} (nd : (G.map (·.1)).Nodup) : (szM G).Perm (G.map (·.2)) := by
  unfold szM outM
  rw [List.map_map]
  have := (keys_perm nd).map fun k => lookG k G
  rw [look_at nd] at this
  exact this
theorem sz_led {S : List Str} {f : Str → Str} (h : InjS S f) {rs : List Res} (hr : ∀ r ∈ rs, InR S r) (n : Nat) : (szM (grpM (rs.map (ledR f)) n)).Perm (szM (grpM rs n)) := by
  refine (sz_perm (grp_nd _ n)).trans (List.Perm.trans ?_ (sz_perm (grp_nd _ n)).symm)
  rw [grp_led h hr n, List.map_map]
  exact List.Perm.refl _
def natsD (l : List Nat) : PyData := .list (l.map fun (n : Nat) => .int (n : Int))
theorem nats_alikeAll : ∀ a b : List Nat, alikeAll (a.map fun (n : Nat) => PyData.int (n : Int)) (b.map fun (n : Nat) => PyData.int (n : Int)) = true
  | [], [] => by unfold alikeAll; rfl
  | [], _ :: _ => by simp [alikeAll]
  | _ :: _, [] => by simp [alikeAll]
  | x :: a, y :: b => by
    have ih := nats_alikeAll a b
    simp only [List.map_cons, alikeAll, ih, Bool.and_true]
    simp [alike]
theorem nats_alike (a b : List Nat) : alike (natsD a) (natsD b) = true := by
  have := nats_alikeAll a b
  unfold natsD
  simp [alike, this]
theorem toks_nats : ∀ {a b : List Nat}, PySem.W.keyToksAll (a.map fun (n : Nat) => PyData.int (n : Int)) = PySem.W.keyToksAll (b.map fun (n : Nat) => PyData.int (n : Int)) → a = b
  | [], [], _ => rfl
  | [], y :: b, h => by
    rw [List.map_cons, PySem.W.toks_all_cons, List.map_nil, PySem.W.keyToksAll] at h
    have := (List.cons.inj h).1
    cases this
  | x :: a, [], h => by
    rw [List.map_cons, PySem.W.toks_all_cons, List.map_nil, PySem.W.keyToksAll] at h
    have := (List.cons.inj h).1
    cases this
  | x :: a, y :: b, h => by
    rw [List.map_cons, List.map_cons, PySem.W.toks_all_cons, PySem.W.toks_all_cons, keyToks, keyToks] at h
    have h2 := (List.cons.inj h).2
    have h3 := List.cons.inj h2
    have e : (x : Int) = (y : Int) := Sum.inl.inj h3.1
    rw [show x = y by omega, toks_nats h3.2]
theorem nats_total {a b : List Nat} (h1 : dataLt (natsD a) (natsD b) = false) (h2 : dataLt (natsD b) (natsD a) = false) : a = b := by
  have h := dl_total h1 h2
  unfold natsD at h
  simp only [keyToks] at h
  exact toks_nats h
def natI (ls : List (List Nat)) (i : Nat) : PyData := natsD (ls.getD i [])
/-- the lists in the order of sorted -/
def sortN (ls : List (List Nat)) : List (List Nat) := ((List.range ls.length).mergeSort (dataLe false (natI ls))).map fun i => ls.getD i []
theorem sortN_perm (ls : List (List Nat)) : (sortN ls).Perm ls := by
  have := ((List.mergeSort_perm (List.range ls.length) (dataLe false (natI ls))).map fun i => ls.getD i [])
  rw [range_getD] at this
  exact this
theorem sortN_sorted (ls : List (List Nat)) : List.Pairwise (fun a b => dataLt (natsD b) (natsD a) = false) (sortN ls) := by
  have := List.pairwise_mergeSort (le := dataLe false (natI ls)) (fun a b c h1 h2 => (PySem.W.sortLe_total (listOrd itemOrd) false _).trans a b c h1 h2) (fun a b => by
    show ((!dataLt (natI ls b) (natI ls a)) || (!dataLt (natI ls a) (natI ls b))) = true
    cases e1 : dataLt (natI ls b) (natI ls a) with
    | false => rfl
    | true =>
      cases e2 : dataLt (natI ls a) (natI ls b) with
      | false => rfl
      | true => exact absurd (dl_trans e1 e2) (by rw [dl_irrefl]; decide)) (List.range ls.length)
  exact List.Pairwise.map _ (fun a b h => by
    show dataLt (natI ls b) (natI ls a) = false
    have h : (!dataLt (natI ls b) (natI ls a)) = true := h
    cases q : dataLt (natI ls b) (natI ls a) with
    | false => rfl
    | true => rw [q] at h; cases h) this
theorem sortN_eq {a b : List (List Nat)} (h : a.Perm b) : sortN a = sortN b :=
  List.Perm.eq_of_pairwise (le := fun a b => dataLt (natsD b) (natsD a) = false) (fun x y _ _ h1 h2 => nats_total h2 h1) (sortN_sorted a) (sortN_sorted b) ((sortN_perm a).trans (h.trans (sortN_perm b).symm))
theorem sizes_led {S : List Str} {f : Str → Str} (h : InjS S f) {os : List Eff} (ho : ∀ o ∈ os, InE S o) {w : List Str} (hw : InW S w) (n : Nat) : sortN (szM (grpM (resM (os.map (ledE f)) (w.map f)) n)) = sortN (szM (grpM (resM os w) n)) := by
  rw [res_led h ho hw]
  exact sortN_eq (sz_led h (res_in ho hw) n)
end SE
namespace SE
open PySem PySem.Spec PyProof.Rows L2
def NoTup (H : Hp) (D : Addr) : Prop := ∀ xs, H D ≠ some (.tup xs) ∧ ∀ p, H D ≠ some (.frz p (.tup xs))
theorem NoTup.dK {H : Hp} {D : Addr} {kvs : List (Key × V)} (h : H D = some (.dK kvs)) : NoTup H D := fun xs => ⟨fun e => (by rw [h] at e; cases e), fun p e => (by rw [h] at e; cases e)⟩
theorem NoTup.dF {H : Hp} {D : Addr} {od : Obj} {kvs : List (Key × V)} (h : H D = some (.frz od (.dK kvs))) : NoTup H D := fun xs => ⟨fun e => (by rw [h] at e; cases e), fun p e => (by rw [h] at e; cases e)⟩
theorem NoTup.lst {H : Hp} {D : Addr} {us : List V} (h : H D = some (.lst us)) : NoTup H D := fun xs => ⟨fun e => (by rw [h] at e; cases e), fun p e => (by rw [h] at e; cases e)⟩
theorem sqT_upd {K : PySem.W.Frag} {H : Hp} {D t : Addr} {xs : List V} {o : HO} (n : NoTup H D) (h : SqT K H t xs) : SqT K (upd H D o) t xs := by
  rcases h with (q | ⟨p, q⟩) | q
  · exact .inl (.inl (by rw [upd_ne (fun z => by rw [z] at q; exact (n xs).1 q)]; exact q))
  · exact .inl (.inr ⟨p, by rw [upd_ne (fun z => by rw [z] at q; exact (n xs).2 p q)]; exact q⟩)
  · exact .inr q
theorem valV_of {kvs : List (Key × V)} {j : Nat} {k : Key} {v : V} (h : kvs[j]? = some (k, v)) (nd : (kvs.map (·.1)).Nodup) : valV kvs k = some v := by
  induction kvs generalizing j with
  | nil => cases h
  | cons x r ih =>
    rw [List.map_cons, List.nodup_cons] at nd
    cases j with
    | zero =>
      cases h
      exact valV_pos rfl
    | succ j =>
      have m : (k, v) ∈ r := List.mem_of_getElem? (i := j) h
      rw [valV_neg (fun e => nd.1 (List.mem_map.mpr ⟨_, m, e.symm⟩))]
      exact ih h nd.2
theorem room_u {k : Nat} {A : Around} (hr : Room k A) : A.units + 1 < cLine := by
  have := hr.un
  omega
section
variable {P : Program} {w : World} {K : PySem.W.Frag} {mg : Str → Option Value} {base : Heap}
end
end SE
namespace SE
open PySem PySem.Spec PyProof.Rows L2
/-! ### a dict from items to others -/
structure NmAt (H : Hp) (nd : Addr) (S : List Str) (f : Str → Str) : Prop where
  ex : ∃ nk : List (Key × V), H nd = some (.dK nk) ∧ ∀ z ∈ S, valV nk (Sum.inr z) = some (.str (f z))
theorem NmAt.same {H H' : Hp} {nd : Addr} {S : List Str} {f : Str → Str} (h : NmAt H nd S f) (s : Same H H') : NmAt H' nd S f := by
  obtain ⟨nk, h1, h2⟩ := h.ex
  exact ⟨nk, s _ _ h1, h2⟩
theorem neN {K : PySem.W.Frag} {H : Hp} {x y : V} {d : PyData} {k B : Nat} {Q : VK} (n : Nice k B d) (hk : k ≤ 64) (hx : Dp K H x d) (hy : Dp K H y d) (q : Q (.bl false) H) : rNeD K x y H Q :=
  ⟨d, d, hx, hy, n.shaped hk, n.shaped hk, by rw [n.eqv]; exact q⟩
theorem eqN {K : PySem.W.Frag} {H : Hp} {x y : V} {d : PyData} {k B : Nat} {Q : VK} (n : Nice k B d) (hk : k ≤ 64) (hx : Dp K H x d) (hy : Dp K H y d) (q : Q (.bl true) H) : rEqD K x y H Q :=
  ⟨d, d, hx, hy, n.shaped hk, n.shaped hk, by rw [n.eqv]; exact q⟩
theorem dp_steps9 {K : PySem.W.Frag} {H : Hp} : ∀ {us : List V} {ss : List Stp}, StepsV K H us ss → DpAll K H us (ss.map stepD)
  | _, _, .nil => .nil
  | _, _, .cons ⟨t, e, h⟩ r => by
    cases e
    exact .cons (.tup h (.cons (.str _) (.cons (.str _) .nil))) (dp_steps9 r)
theorem steps_nice {ss : List Stp} (h : ∀ s ∈ ss, Item s.2) : Nice 2 (ss.length * 19) (.list (ss.map stepD)) := by
  have := nice_list (k := 1) (B := 18) (ds := ss.map stepD) fun d m => by
    obtain ⟨s, ms, rfl⟩ := List.mem_map.mp m
    exact stepD_nice (h s ms)
  rwa [List.length_map] at this
section
variable {P : Program} {w : World} {K : PySem.W.Frag} {mg : Str → Option Value} {base : Heap} {C : Addr}
def rEffT (K : PySem.W.Frag) (C : Addr) (a b : Addr) (H : Hp) : Prop := ∃ o, EffV K C H a o ∧ EffV K C H b o ∧ EffOk o
theorem mon_eff : Mon (DIns C (rEffT K C)) := mon_ins fun a b H H' e h => by
  obtain ⟨o, h1, h2, h3⟩ := h
  exact ⟨o, h1.same e, h2.same e, h3⟩
theorem eff_eqG {X : Cx} {f : Addr} {fd : FuncData} (FQ : FnOk X.prog X.w X.K X.mg X.base CX0 1 f fd ["self", "other"] (spEqB (rEff X.K C))) (hs : PySem.W.findIn X.K (.ref C) "__eq__" = some (some (.ref f))) (hf : PySem.W.isFn X.K (.ref f) = true) (hb : Binds X.K fd ["self", "other"] []) : EqG X 1 (DIns C (rEffT X.K C)) :=
  eqG_ins (CX := CX0) (E := E0) (FQ.imp fun vs H Q E h => by
    obtain ⟨a, b, e, ⟨o, h1, h2, h3⟩, k⟩ := h
    exact ⟨a, b, true, e, ⟨o, o, h1, h2, h3, h3, (decide_eq_true rfl).symm⟩, k⟩) hs hf hb pass0
theorem ne_same {H : Hp} {a b : Addr} {o : Eff} {Q : VK} (ha : EffV K C H a o) (hb : EffV K C H b o) (ok : EffOk o) (k : ∀ H', Same H H' → Q (.bl false) H') : rCmp C (rEff K C) true (.ref a) (.ref b) H Q := by
  obtain ⟨d1, f1, j1⟩ := ha.ins
  obtain ⟨d2, f2, j2⟩ := hb.ins
  exact ⟨a, b, true, d1, d2, f1, f2, rfl, rfl, j1, j2, ⟨o, o, ha, hb, ok, ok, (decide_eq_true rfl).symm⟩, k⟩
/-- == and != of effects -/
structure EqH (P : Program) (w : World) (K : PySem.W.Frag) (mg : Str → Option Value) (base : Heap) (C : Addr) : Prop where
  ex : ∃ f fd, FnOk P w K mg base CX0 1 f fd ["self", "other"] (spEqB (rEff K C)) ∧ PySem.W.findIn K (.ref C) "__eq__" = some (some (.ref f)) ∧ PySem.W.isFn K (.ref f) = true ∧ Binds K fd ["self", "other"] []
  ne : PySem.W.findIn K (.ref C) "__ne__" = some (some (.builtin "object.__ne__"))
/-! ### _law_word_led -/
def spWl (K : PySem.W.Frag) : Sp := fun vs H Q _ => ∃ (v : V) (nd : Addr) (S : List Str) (f : Str → Str) (r : Res), vs = [v, .ref nd] ∧ NmAt H nd S f ∧ OW K H v r ∧ InR S r ∧ (∀ w, r = some w → w.length ≤ 1000) ∧ ∀ v' H', Same H H' → OW K H' v' (ledR f r) → Q v' H'
abbrev nWl : List Str := ["_law_word_here", "_law_names", "_law_item"]
theorem scWl : FnScope nWl ["_law_word_here", "_law_names"] (defScope sLawWordLed) := ⟨rfl, rfl, rfl, by decide +kernel, rfl, by decide +kernel, by decide +kernel⟩
theorem has_wl (D : Def K mg "_law_word_led" sLawWordLed) (mt : mg "tuple" = none) : Has P w K mg base "_law_word_led" 1 ["_law_word_here", "_law_names"] [] (spWl K) := by
  refine has_of D scWl (fun _ _ _ _ _ _ us hl => match us, hl with | [_, _], _ => rfl) (fun xs H Q E h => ?_) (fun f cv A out s H xs Q E hr h => ?_)
  · obtain ⟨v, nd, S, f, r, rfl, _⟩ := h
    rfl
  · obtain ⟨v, nd, S, f, r, rfl, hn, hv, ir, lr, k⟩ := h
    have hu := room_u hr
    refine ⟨_, pss_one (ps_ret (pe_ifExp (pt_cmpR op_isN (pv 0) pe_non (nomark _)) pe_non (pe_callTy call_tuple_of (by rfl) mt (by decide +kernel) (pa_cons
      (pe_lc (own := [("_law_item", 2)]) (g := gName 2) (tt := tYes) (te := tDGet (tVar 1) (tVar 2)) rfl scWl.nd (pi_tup (pv 0)) (blkOk_by (own := [("_law_item", 2)]) (N := nWl) (sc := defScope sLawWordLed) (by decide +kernel))
        (fun _ _ _ _ _ => pg_name (i := 2) scWl.nd rfl (.inl rfl)) (fun _ _ _ _ _ => pts_nil) (fun _ _ _ _ _ => pe_dget hu (pv 1) (pv 2) (fun _ _ => rfl))) pa_nil)))), ?_⟩
    cases r with
    | none =>
      have hv : v = .non := hv
      subst hv
      exact ⟨_, rfl, rfl, true, rfl, iteT (k _ H (Same.refl H) rfl)⟩
    | some ws =>
      obtain ⟨a, rfl, ha⟩ := hv
      have iw := ir ws rfl
      have lw := lr ws rfl
      refine ⟨_, rfl, rfl, false, rfl, iteF ?_⟩
      refine ⟨_, rfl, a, rfl, ⟨_, ha⟩, fun D hD => lc_tup (K := K) (a := a) (xs := ws.map V.str) (fun j H2 => H2 D = some (.lst (((ws.take j).map f).map V.str)) ∧ Same H H2) ⟨upd_same, Same.new hD⟩ (fun _ _ _ q => Same.tup q.2 ha) ?_ ?_⟩
      · rintro j x H2 hx ⟨h1, s2⟩
        rw [List.getElem?_map] at hx
        obtain ⟨z, hj, rfl⟩ : ∃ z, ws[j]? = some z ∧ x = V.str z := by
          cases hq : ws[j]? with
          | none =>
            rw [hq] at hx
            cases hx
          | some z =>
            rw [hq] at hx
            cases hx
            exact ⟨z, rfl, rfl⟩
        have jl := (List.getElem?_eq_some_iff.mp hj).1
        obtain ⟨nk, n1, n2⟩ := (hn.same s2).ex
        have e := n2 z (iw z (List.mem_of_getElem? hj))
        refine ⟨rfl, yes_in ⟨_, rfl, _, rfl, nd, .str (f z), rfl, by rw [← e]; exact DGet.k (k := Sum.inr z) n1, _, h1, ?_, ?_, Same.free2 s2 hD⟩⟩
        · rw [List.length_map, List.length_map, List.length_take, sizeLine_eq]
          omega
        · rw [upd_same, List.take_add_one, hj, Option.toList_some, List.map_append, List.map_append]
          rfl
      · rintro H2 ⟨h1, s2⟩
        rw [List.length_map, List.take_length] at h1
        exact ⟨D, _, rfl, .inl ⟨.of h1, fun l hl => k _ _ (s2.trans (Same.new hl)) ⟨l, rfl, .of upd_same⟩⟩⟩
/-! ### _law_effect_led -/
def EffLp (o : Eff) : Prop := ∀ A, o = some A → lp A.1 A.2.1 ≤ A.2.2
theorem lp_led {f : Str → Str} (xs ys : List Str) : lp (xs.map f) (ys.map f) = lp xs ys := by
  unfold lp
  rw [List.length_map, List.length_map]
theorem led_lp {f : Str → Str} {o : Eff} (h : EffLp o) : EffLp (ledE f o) := fun A e => by
  cases o with
  | none => cases e
  | some B =>
    obtain ⟨xs, ys, p⟩ := B
    cases e
    show lp (xs.map f) (ys.map f) ≤ p
    rw [lp_led]
    exact h _ rfl
def spEl (K : PySem.W.Frag) (C : Addr) : Sp := fun vs H Q _ => ∃ (e nd : Addr) (S : List Str) (f : Str → Str) (o : Eff), vs = [.ref e, .ref nd] ∧ NmAt H nd S f ∧ (∀ z ∈ S, Item (f z)) ∧ EffV K C H e o ∧ EffOk o ∧ EffLp o ∧ InE S o ∧ ∀ (e' : Addr) H', Same H H' → EffV K C H' e' (ledE f o) → Q (.ref e') H'
abbrev nEl : List Str := ["_law_effect", "_law_names", "_law_pops", "_law_pushes"]
theorem scEl : FnScope nEl ["_law_effect", "_law_names"] (defScope sLawEffectLed) := ⟨rfl, rfl, rfl, by decide +kernel, rfl, by decide +kernel, by decide +kernel⟩
theorem has_el (D : Def K mg "_law_effect_led" sLawEffectLed) (T : EC K mg C) (M : Makes P w K mg base C) (GN : NeverHas P w K mg base C) (GW : Has P w K mg base "_law_word_led" 1 ["_law_word_here", "_law_names"] [] (spWl K))
    (GI : PropHas P w K mg base C "is_never" 1 (spIsNev K C)) (GP : PropHas P w K mg base C "pops" 1 (spPops K C)) (GU : PropHas P w K mg base C "pushes" 1 (spPush K C)) (GK : PropHas P w K mg base C "peak" 1 (spPeak K C)) : Has P w K mg base "_law_effect_led" 7 ["_law_effect", "_law_names"] [] (spEl K C) := by
  refine has_of D scEl (fun _ _ _ _ _ _ us hl => match us, hl with | [_, _], _ => rfl) (fun xs H Q E h => ?_) (fun f cv A out s H xs Q E hr h => ?_)
  · obtain ⟨e, nd, S, f, o, rfl, _⟩ := h
    rfl
  · obtain ⟨e, nd, S, f, o, rfl, hn, fI, he, ok, lpo, io, k⟩ := h
    have hr1 : Room 1 _ := hr.mono (by decide)
    have hr2 : Room 2 _ := hr.mono (by decide)
    have hr5 : Room 5 _ := hr.mono (by decide)
    refine ⟨_, pss_cons (ps_if (pt_val (pe_propH GI (pv 0) T.cl hr2)) (pss_one (ps_ret (pe_never0 GN T.mgE hr))) pss_nil)
      (pss_cons (ps_par (i := 2) (j := 3) (by rfl) scEl.nd rfl rfl (by decide) rfl rfl (pa_cons (pe_has GW hr1 (pa_cons (pe_propH GP (pv 0) T.cl hr2) (pa_cons (pv 1) pa_nil))) (pa_cons (pe_has GW hr1 (pa_cons (pe_propH GU (pv 0) T.cl hr2) (pa_cons (pv 1) pa_nil))) pa_nil)) (by rfl))
      (pss_one (ps_ret (pe_effK M T.mgE hr5 (pa_cons (pv 2) (pa_cons (pv 3) pa_nil)) (pe_propH GK (pv 0) T.cl hr2))))), ?_⟩
    obtain ⟨dx, fs, hi⟩ := he.ins
    cases o with
    | none =>
      refine ⟨_, rfl, e, dx, fs, rfl, hi, e, rfl, .inr ⟨he, true, rfl, iteT ?_⟩⟩
      exact ⟨rfl, rfl, fun e' H' s' he' => k e' H' s' he'⟩
    | some B =>
      obtain ⟨xs, ys, p⟩ := B
      have hA : EffAt K C H e xs ys p := he
      obtain ⟨i1, i2, l1, l2, p0, p1⟩ := ok
      have ix := (io _ rfl).a
      have iy := (io _ rfl).b
      refine ⟨_, rfl, e, dx, fs, rfl, hi, e, rfl, .inl ⟨xs, ys, p, hA, false, rfl, iteF ?_⟩⟩
      refine ⟨_, rfl, e, dx, fs, rfl, hi, e, xs, ys, p, rfl, hA, fun u hu => ?_⟩
      refine ⟨_, rfl, .ref u, nd, S, f, some xs, rfl, hn, ⟨u, rfl, hu⟩, fun w e => (by cases e; exact ix), fun w e => (by cases e; exact l1), fun v1 H1 s1 hv1 => ?_⟩
      obtain ⟨a1, rfl, hv1⟩ := hv1
      have hA1 := hA.same s1
      refine ⟨_, rfl, e, dx, fs, rfl, s1 _ _ hi, e, xs, ys, p, rfl, hA1, fun u2 hu2 => ?_⟩
      refine ⟨_, rfl, .ref u2, nd, S, f, some ys, rfl, hn.same s1, ⟨u2, rfl, hu2⟩, fun w e => (by cases e; exact iy), fun w e => (by cases e; exact l2), fun v2 H2 s2 hv2 => ?_⟩
      obtain ⟨a2, rfl, hv2⟩ := hv2
      have s12 := s1.trans s2
      refine ⟨_, _, rfl, ?_⟩
      have hA2 := hA1.same s2
      refine ⟨_, rfl, _, rfl, _, rfl, e, dx, fs, rfl, s12 _ _ hi, e, xs, ys, p, rfl, hA2, ?_⟩
      refine ⟨a1, a2, xs.map f, ys.map f, some p, rfl, rfl, Same.tup s2 hv1, hv2, by rw [List.length_map]; omega, by rw [List.length_map]; omega, fun z m => ?_, fun z m => ?_, fun q e => ?_, fun e' H' s' n' he' => k e' H' (s12.trans s') he'⟩
      · obtain ⟨y, my, rfl⟩ := List.mem_map.mp m
        exact fI y (ix y my)
      · obtain ⟨y, my, rfl⟩ := List.mem_map.mp m
        exact fI y (iy y my)
      · cases e
        rw [lp_led]
        exact lpo _ rfl
/-! ### _law_written -/
def spWr (K : PySem.W.Frag) (C : Addr) : Sp := fun vs H Q _ => ∃ (a e : Addr) (ys : List V) (ss : List Stp) (o : Eff) (v : V) (r : Res), vs = [.ref a, .ref e, v] ∧ SqL K H a ys ∧ StepsV K H ys ss ∧ (∀ s ∈ ss, Item s.2) ∧ ss.length ≤ 1000 ∧ EffV K C H e o ∧ EffOk o ∧ EffSt o ∧ OW K H v r ∧ (∀ w, r = some w → (∀ z ∈ w, Item z) ∧ w.length ≤ 1000) ∧ ∀ H', Same H H' → Q (.bl true) H'
abbrev pWr : List Str := ["_law_steps_here", "_law_effect", "_law_word_here"]
theorem scWr : FnScope pWr pWr (defScope sLawWritten) := ⟨rfl, rfl, rfl, by decide +kernel, rfl, by decide +kernel, by decide +kernel⟩
theorem has_wr (D : Def K mg "_law_written" sLawWritten) (TI : EI K C) (EQ : EqH P w K mg base C) (GFs : Has P w K mg base "format_steps" 4 ["steps"] [] (spFmtS K)) (GPs : Has P w K mg base "parse_steps" 5 ["text"] [] (spStepsIn K)) (GFe : Has P w K mg base "format_effect" 4 ["effect"] [] (spFmtE K C)) (GPe : Has P w K mg base "parse_effect" 8 ["text"] [] (spEffIn K C))
    (GFw : Has P w K mg base "format_word" 3 ["word"] [] (spFmtW K)) (GPw : Has P w K mg base "parse_word" 4 ["text"] [] (spParW K)) : Has P w K mg base "_law_written" 9 pWr [] (spWr K C) := by
  obtain ⟨fq, fqd, FQ, eq1, eq2, eq3⟩ := EQ.ex
  refine has_of D scWr (fun _ _ _ _ _ _ us hl => match us, hl with | [_, _, _], _ => rfl) (fun xs H Q E h => ?_) (fun f cv A out s H xs Q E hr h => ?_)
  · obtain ⟨a, e, ys, ss, o, v, r, rfl, _⟩ := h
    rfl
  · obtain ⟨a, e, ys, ss, o, v, r, rfl, hS, hV, hI, hl, he, ok, st, hv, rk, k⟩ := h
    have hr2 : Room 2 _ := hr.mono (by decide)
    have hr3 : Room 3 _ := hr.mono (by decide)
    have hr4 : Room 4 _ := hr.mono (by decide)
    have hr5 : Room 5 _ := hr.mono (by decide)
    have hr8 : Room 8 _ := hr.mono (by decide)
    refine ⟨_, pss_cons (ps_if (PW.pt (pw_or (pt_cmpR (op_neD hr.units) (pe_has GPs hr5 (pa_cons (pe_has GFs hr4 (pa_cons (pv 0) pa_nil)) pa_nil)) (pv 0) (nomark _)) (pw_or1 (pt_cmpR (op_neE FQ eq1 eq2 eq3 TI.hm EQ.ne hr2) (pe_has GPe hr8 (pa_cons (pe_has GFe hr4 (pa_cons (pv 1) pa_nil)) pa_nil)) (pv 1) (nomark _))))) (pss_one (ps_ret pe_bl)) pss_nil)
      (pss_one (ps_ret (pe_or (pe_cmpR op_isN (pv 2) pe_non (nomark _)) (pe_one (pe_cmpR (op_eqD hr.units) (pe_has GPw hr4 (pa_cons (pe_has GFw hr3 (pa_cons (pv 2) pa_nil)) pa_nil)) (pv 2) (nomark _)))))), ?_⟩
    refine ⟨_, rfl, a, ys, ss, rfl, .inl hS, hV, hI, hl, fun H1 s1 => ?_⟩
    refine ⟨ss, rfl, hI, hl, fun b us H2 s2 n2 hb hs => ?_⟩
    have s12 := s1.trans s2
    refine ⟨_, rfl, neN (steps_nice hI) (by decide) (.lst (.of hb) (dp_steps9 hs.v)) (.lst (Same.seq s12 hS) (dp_steps9 (hV.same s12))) ⟨false, rfl, iteF ?_⟩⟩
    refine ⟨_, rfl, e, o, rfl, he.same s12, ok, st, fun H3 s3 => ?_⟩
    refine ⟨o, rfl, ok, st, fun e2 H4 s4 he2 => ?_⟩
    have s14 := (s12.trans s3).trans s4
    refine ⟨_, rfl, ne_same he2 (he.same s14) ok fun H5 s5 => ⟨false, rfl, iteF ?_⟩⟩
    have s15 := s14.trans s5
    cases r with
    | none =>
      have hv : v = .non := hv
      subst hv
      exact ⟨_, rfl, rfl, true, rfl, iteT (k _ s15)⟩
    | some ws =>
      obtain ⟨c, rfl, hc⟩ := hv
      obtain ⟨iw, lw⟩ := rk ws rfl
      refine ⟨_, rfl, rfl, false, rfl, iteF ?_⟩
      refine ⟨_, rfl, c, ws, rfl, Same.tup s15 hc, iw, lw, fun H6 s6 => ?_⟩
      refine ⟨ws, rfl, iw, lw, fun c2 H7 s7 hc2 => ?_⟩
      exact ⟨_, rfl, eqN (nice_tuple (nice_strs iw)) (by decide) (.tup hc2 (dp_strs _)) (.tup (Same.tup ((s15.trans s6).trans s7) hc) (dp_strs _)) (k _ ((s15.trans s6).trans s7))⟩
end
end SE
/-! a != b of two lists whose items are equal by whatever ==. -/
namespace SE
open PySem PySem.SeqAt GQ
open AutoSeq1 (wpAny_loadPart')
open MeetsSeq MeetsSeq2 MeetsSeq3 SeqRoads2
section
variable {prog : Program} {w : World} {A : Around} {E : Value → Shared → Prop}
theorem neWalk {F : Result → Shared → Prop} {a c : Addr} {M : Nat} {J : Nat → Shared → Prop} (tn : ListI prog w A (fun e s' => F (.error e) s') a c M J) (done : ∀ t, J M t → F (.ok (.ret (.bool false))) t) :
    ∀ (k j : Nat), M - j = k → j ≤ M → ∀ t, J j t → wpAny (model prog w) A.in1 (Builtin.«list.__eq__.loop» ⟨[.ref a, .ref c, rawInt j, rawInt 3], []⟩) (FinOf prog w A F) (fun e s' => F (.error e) s') t
  | 0, j, hk, hj, t, ht => by
    obtain ⟨us, vs, m, m2, ga, gc, su, sv, _⟩ := tn _ _ ht
    obtain rfl : j = M := by omega
    have hF := done t ht
    obtain ⟨hp, g, d, tk, os⟩ := t
    wp_walk using wpAny_loadPart' ga, wpAny_loadPart' gc
    have q1 : us[((j : Nat) : Int).toNat]? = none := by rw [Int.toNat_natCast]; exact Array.getElem?_eq_none (by omega)
    have q2 : vs[((j : Nat) : Int).toNat]? = none := by rw [Int.toNat_natCast]; exact Array.getElem?_eq_none (by omega)
    rw [q1, q2]
    wp_walk using wpAny_loadPart' ga, wpAny_loadPart' gc
    show F (.ok (.ret (.bool (us.size != vs.size)))) _
    rw [su, sv, bne_self_eq_false]
    exact hF
  | k + 1, j, hk, hj, t, ht => by
    obtain ⟨us, vs, m, m2, ga, gc, su, sv, go⟩ := tn _ _ ht
    have lu : j < us.size := by omega
    have lv : j < vs.size := by omega
    have step := go lu lv
    obtain ⟨hp, g, d, tk, os⟩ := t
    wp_walk using wpAny_loadPart' ga, wpAny_loadPart' gc
    have q1 : us[((j : Nat) : Int).toNat]? = some us[j] := by rw [Int.toNat_natCast]; exact Array.getElem?_eq_getElem lu
    have q2 : vs[((j : Nat) : Int).toNat]? = some vs[j] := by rw [Int.toNat_natCast]; exact Array.getElem?_eq_getElem lv
    have up : ((j : Int) + 1) = ((j + 1 : Nat) : Int) := by omega
    rw [q1, q2]
    refine wpAny_bind (wpAny_mono step (fun r t2 z => ?_) fun _ _ x => x)
    obtain ⟨rfl, z⟩ := z
    have rest := neWalk tn done k (j + 1) (by omega) (by omega) t2 z
    obtain ⟨hp2, g2, d2, tk2, os2⟩ := t2
    wp_walk
    rw [up]
    exact ⟨plainId_quiet plain_eq_loop _, codeAny_builtin entry_eq_loop ((Around.under_plainId plain_eq_loop _).symm ▸ rest)⟩
theorem neLists {F : Result → Shared → Prop} {a c : Addr} {M : Nat} {J : Nat → Shared → Prop} (tn : ListI prog w A (fun e s' => F (.error e) s') a c M J) (done : ∀ t, J M t → F (.ok (.ret (.bool false))) t) {t : Shared} (ht : J 0 t) :
    wpAny (model prog w) A.in1 (Builtin.«list.__ne__» ⟨[.ref a, .ref c], []⟩) (FinOf prog w A F) (fun e s' => F (.error e) s') t := by
  obtain ⟨us, vs, m, m2, ga, gc, su, sv, _⟩ := tn _ _ ht
  have rest := neWalk tn done _ 0 rfl (Nat.zero_le _) t ht
  obtain ⟨hp, g, d, tk, os⟩ := t
  have fll := AutoSeq1.sub_list_list
  have hne : ¬ (us.size != vs.size) = true := by rw [su, sv, bne_self_eq_false]; exact Bool.false_ne_true
  wp_walk using wpAny_loadPart' ga, wpAny_loadPart' gc
  exact ⟨plainId_quiet plain_eq_loop _, codeAny_builtin entry_eq_loop ((Around.under_plainId plain_eq_loop _).symm ▸ rest)⟩
theorem rc_neListG {a c : Addr} {M : Nat} {Q : Value → Shared → Prop} (hu : A.units < cLine) (J : Nat → Shared → Prop) (tn : ListI prog w A E a c M J) (done : ∀ t, J M t → Q (.bool false) t) {t : Shared} (ht : J 0 t) :
    wpAny (model prog w) A (richCompare .NotEq (.ref a) (.ref c)) Q E t := by
  obtain ⟨us, vs, m, m2, ga, gc, _⟩ := tn _ _ ht
  refine wpAny_richCompare_same_room (op := .NotEq) ⟨_, ga, rfl⟩ ⟨_, gc, rfl⟩ F.slot_list_ne (call_here F.slot_list_ne ⟨_, ga, rfl⟩ F.entry_list_ne (F.args_list_ne_2 _ _) ?_) hu
  exact neLists (F := wants (fun v s' => v ≠ .notImplemented ∧ Q v s') E) tn (fun s' q => ⟨(fun x => nomatch x), done s' q⟩) ht
end
end SE
namespace SE
open PySem PySem.Spec PyProof.Rows L2
section
variable {X : Cx} {n : Nat} {D : Eqv}
/-- a != b of two lists that are equal -/
def rNeL (D : Eqv) : R2 := fun x y H Q => DList D x y H ∧ ∀ H', Ext H H' → Q (.bl false) H'
theorem op_neL (hD : Mon D) (h : EqG X n D) (hr : Room (n + 1) X.A) : OpR X (compareOp .NotEq) (rNeL D) := by
  intro pins s σ H x y v u Q I rx ry hq
  obtain ⟨⟨a, c, xs, ys, rfl, rfl, ha, hc, p⟩, q⟩ := hq
  cases rx
  cases ry
  show wpAny (model X.prog X.w) X.A (richCompare .NotEq (.ref a) (.ref c)) (EP X pins σ Q) X.xe s
  refine rc_neListG (M := xs.length) hr.units0 (fun _ s' => LoopI X pins σ H s') (fun i s' z => ?_) (fun s' z => ?_) ⟨H, I, Ext.rfl'⟩
  · obtain ⟨H1, I1, e1⟩ := id z
    obtain ⟨g1, its, k1, r1, h1⟩ := I1.hok a _ (e1 _ _ ha)
    obtain ⟨g2, jts, k2, r2, h2⟩ := I1.hok c _ (e1 _ _ hc)
    exact ⟨its.toArray, jts.toArray, k1, k2, h1, h2, by rw [List.size_toArray, ← r1.length], by rw [List.size_toArray, ← r2.length, ← p.1], fun l1 l2 => turnG hD h ⟨hr, rfl⟩ p r1 r2 i l1 l2 s' z⟩
  · obtain ⟨H', I', e⟩ := z
    exact ⟨.bl false, H', I', rfl, q H' e⟩
end
end SE
namespace SE
open PySem PySem.Spec PyProof.Rows L2
/-! ### effects of sequences over S, and with f -/
structure SW (S : List Str) (ss : List Stp) : Prop where
  mem : ∀ s ∈ ss, s.2 ∈ S
  len : ss.length ≤ 20
theorem SW.app {S : List Str} {a b : List Stp} (h : SW S a) (q : SW S b) (l : a.length + b.length ≤ 20) : SW S (a ++ b) := ⟨fun s m => (List.mem_append.mp m).elim (h.mem s) (q.mem s), by rw [List.length_append]; exact l⟩
section
variable {S : List Str} {f : Str → Str} {ss : List Stp}
theorem SW.item (h : SW S ss) (hI : ∀ z ∈ S, Item z) : ∀ s ∈ ss, Item s.2 := fun s m => hI _ (h.mem s m)
theorem SW.itemF (h : SW S ss) (hI : ∀ z ∈ S, Item (f z)) : ∀ s ∈ ledW f ss, Item s.2 := fun s m => by
  obtain ⟨t, mt, rfl⟩ := List.mem_map.mp m
  exact hI _ (h.mem t mt)
theorem ledW_len : (ledW f ss).length = ss.length := List.length_map _
/-- what is used of the effect of a short sequence -/
structure EfOk (o : Eff) : Prop where
  ok : EffOk o
  sm : EffSm o
  lp : EffLp o
  st : EffSt o
theorem ef_ok {ss : List Stp} (hI : ∀ s ∈ ss, Item s.2) (hl : ss.length ≤ 20) : EfOk (effM ss) := by
  refine ⟨effM_EffOk hI (by omega), fun B e => ?_, fun A e => ?_, ?_⟩
  · obtain ⟨h1, h2, _⟩ := effM_ok hI e
    exact ⟨h1, by omega⟩
  · exact (effM_ok hI e).1.lp
  · cases e : effM ss with
    | none => exact trivial
    | some A =>
      obtain ⟨h1, h2, h3⟩ := effM_ok hI e
      obtain ⟨xs, ys, p⟩ := A
      exact ⟨h1.lp, by have : p ≤ ss.length := h3; omega⟩
theorem SW.ok (h : SW S ss) (hI : ∀ z ∈ S, Item z) : EfOk (effM ss) := ef_ok (h.item hI) h.len
theorem SW.okF (h : SW S ss) (hI : ∀ z ∈ S, Item (f z)) : EfOk (effM (ledW f ss)) := ef_ok (h.itemF hI) (by rw [ledW_len]; exact h.len)
theorem then_two (a b : List Stp) (hI : ∀ s ∈ a ++ b, Item s.2) : thenM [effM a, effM b] = effM (a ++ b) := by
  have := then_eff (sss := [a, b]) fun tt m s ms => hI s (by
    rcases List.mem_cons.mp m with e | m
    · rw [e] at ms; exact List.mem_append.mpr (.inl ms)
    · rw [List.mem_singleton.mp m] at ms; exact List.mem_append.mpr (.inr ms))
  simpa using this
theorem ledW_app (a b : List Stp) : ledW f (a ++ b) = ledW f a ++ ledW f b := List.map_append
theorem dif_ok {o1 o2 : Eff} (h1 : EffOk o1) (h2 : EffOk o2) : ∀ w, difM none o1 o2 = some w → (∀ z ∈ w, Item z) ∧ w.length ≤ 1000 := fun w e => by
  have p1 : ∀ xs ys p, o1 = some (xs, ys, p) → (∀ z ∈ xs, Item z) ∧ xs.length ≤ 1000 := fun xs ys p q => by
    rw [q] at h1
    exact ⟨h1.1, h1.2.2.1⟩
  have p2 : ∀ xs ys p, o2 = some (xs, ys, p) → (∀ z ∈ xs, Item z) ∧ xs.length ≤ 1000 := fun xs ys p q => by
    rw [q] at h2
    exact ⟨h2.1, h2.2.2.1⟩
  cases o1 with
  | none =>
    cases o2 with
    | none => cases e
    | some B =>
      obtain ⟨vs, ws, q⟩ := B
      cases e
      exact p2 _ _ _ rfl
  | some A =>
    obtain ⟨xs, ys, p⟩ := A
    cases o2 with
    | none =>
      cases e
      exact p1 _ _ _ rfl
    | some B =>
      obtain ⟨vs, ws, q⟩ := B
      have e : (if xs = vs ∧ ys = ws then beyM none xs p q else some (if ltW vs xs = true then vs else xs)) = some w := e
      split at e
      · cases e
      · cases Option.some.inj e
        split
        · exact p2 _ _ _ rfl
        · exact p1 _ _ _ rfl
end
section
variable {P : Program} {w : World} {K : PySem.W.Frag} {mg : Str → Option Value} {base : Heap} {C : Addr}
theorem EffV.updL {H : Hp} {e D : Addr} {us : List V} {w : HO} (hD : H D = some (.lst us)) : ∀ {o : Eff}, EffV K C H e o → EffV K C (upd H D w) e o
  | none, h => by
    obtain ⟨dx, h1⟩ := NevAt.ex h
    have ne : e ≠ D := fun q => by rw [q, hD] at h1; cases h1
    exact ⟨dx, by rw [upd_ne ne]; exact h1⟩
  | some (xs, ys, p), h => by
    obtain ⟨dx, u, v, h1, h2, h3⟩ := EffAt.ex h
    have ne : e ≠ D := fun q => by rw [q, hD] at h1; cases h1
    exact ⟨dx, u, v, by rw [upd_ne ne]; exact h1, tup_updL hD h2, tup_updL hD h3⟩
theorem neO {H : Hp} {x y : V} {r : Option (List Str)} {Q : VK} (ok : OWOk r) (hx : OW K H x r) (hy : OW K H y r) (q : Q (.bl false) H) : rNeD K x y H Q :=
  ⟨oD r, oD r, hx.dp, hy.dp, ok.shaped, ok.shaped, by rw [oD_eqv, decide_eq_true rfl]; exact q⟩
theorem led_ok {S : List Str} {f : Str → Str} {r : Option (List Str)} (hr : InR S r) (hI : ∀ z ∈ S, Item (f z)) (hl : ∀ w, r = some w → w.length ≤ 1000) : OWOk (ledR f r) := fun zs e => by
  cases r with
  | none => cases e
  | some w =>
    cases e
    refine ⟨fun z m => ?_, by rw [List.length_map]; have := hl w rfl; omega⟩
    obtain ⟨y, my, rfl⟩ := List.mem_map.mp m
    exact hI y (hr w rfl y my)
theorem KHas.ds {x : Str} {st : Stmt} {k : Nat} {sp : Sp} (h : KHas P w K mg base CX0 x st k sp) (hb : ∀ (D : Addr) (doc pm : Value) (an : Option Addr) (cv ct : Value) (us ks : List Value), us.length = 2 → ks.length = 1 →
      KwChain D (([Str.ofString "limit"]).zip ks) (bindArgs (PySem.W.fnOf x x (defArgs st) (defBody st) (defScope st) .none (.ref D) doc pm an cv ct) ⟨us, []⟩) (pDf.zip (us ++ ks))) :
    ∃ f fd ds, FnOk P w K mg base CX0 k f fd pDf sp ∧ Vals [V.non] ds ∧ Binds K fd pDf ds ∧ mg x = some (.ref f) ∧ PySem.W.keepIn K (.ref f) = true := by
  obtain ⟨f, fd, F, FD, hm⟩ := h
  obtain ⟨ds, hd, hb'⟩ := FD.binds0 (ps := pDf) 2 (by simp) rfl hb
  exact ⟨f, fd, ds, F, hd, hb', hm, FD.kp⟩
/-! ### _law_pair_right -/
def spPr9 (K : PySem.W.Frag) (C : Addr) : Sp := fun vs H Q _ => ∃ (e1 e2 W nd a1 a2 : Addr) (S : List Str) (f : Str → Str) (us1 us2 : List V) (ss1 ss2 : List Stp), vs = [.ref e1, .ref e2, .ref W, .ref nd] ∧ NmAt H nd S f ∧ MonS S f ∧ (∀ z ∈ S, Item z) ∧ (∀ z ∈ S, Item (f z)) ∧
  SqL K H W [.ref a1, .ref a2] ∧ SqL K H a1 us1 ∧ SqL K H a2 us2 ∧ StepsV K H us1 ss1 ∧ StepsV K H us2 ss2 ∧ SW S ss1 ∧ SW S ss2 ∧ ss1.length + ss2.length ≤ 20 ∧ EffV K C H e1 (effM ss1) ∧ EffV K C H e2 (effM ss2) ∧ ∀ H', Same H H' → Q (.bl true) H'
abbrev nPr : List Str := ["_law_one", "_law_other", "_law_ways", "_law_names", "_law_far", "_law_apart", "_law_both", "_law_way", "_law_action", "_law_item", "_law_effect"]
abbrev pPr : List Str := ["_law_one", "_law_other", "_law_ways", "_law_names"]
theorem scPr : FnScope nPr pPr (defScope sLawPairRight) := ⟨rfl, rfl, rfl, by decide +kernel, rfl, by decide +kernel, by decide +kernel⟩
theorem has_pr9 (D : Def K mg "_law_pair_right" sLawPairRight) (T : EC K mg C) (TI : EI K C) (EQ : EqH P w K mg base C) (GE : Has P w K mg base "effect_of" 8 ["steps"] [] (spEffOf K C)) (GL : Has P w K mg base "_law_effect_led" 7 ["_law_effect", "_law_names"] [] (spEl K C)) (GW : Has P w K mg base "_law_word_led" 1 ["_law_word_here", "_law_names"] [] (spWl K))
    (GD : KHas P w K mg base CX0 "difference" sDifference 7 (spDf K C)) (GC : KHas P w K mg base CX0 "commute" sCommute 9 (spCm K C)) (GR : Has P w K mg base "_law_written" 9 pWr [] (spWr K C)) : Has P w K mg base "_law_pair_right" 10 pPr [] (spPr9 K C) := by
  obtain ⟨fq, fqd, FQ, eq1, eq2, eq3⟩ := EQ.ex
  obtain ⟨fD, fdD, dsD, FD, hdD, hbD, mD, kpD⟩ := GD.ds (fun D doc pm an cv ct us ks h1 h2 => match us, ks, h1, h2 with | [_, _], [_], _, _ => ⟨_, _, _, _, _, _, rfl, rfl, rfl⟩)
  obtain ⟨fC, fdC, dsC, FC, hdC, hbC, mC, kpC⟩ := GC.ds (fun D doc pm an cv ct us ks h1 h2 => match us, ks, h1, h2 with | [_, _], [_], _, _ => ⟨_, _, _, _, _, _, rfl, rfl, rfl⟩)
  refine has_of D scPr (fun _ _ _ _ _ _ us hl => match us, hl with | [_, _, _, _], _ => rfl) (fun xs H Q E h => ?_) (fun fx cv A out s H xs Q E hr h => ?_)
  · obtain ⟨e1, e2, W, nd, a1, a2, S, f, us1, us2, ss1, ss2, rfl, _⟩ := h
    rfl
  · obtain ⟨e1, e2, W, nd, a1, a2, S, f, us1, us2, ss1, ss2, rfl, hn, mo, iS, iF, hW, hA1, hA2, hV1, hV2, w1, w2, wl, he1, he2, k⟩ := h
    have hu := room_u hr
    have hr1 : Room 1 _ := hr.mono (by decide)
    have hr2 : Room 2 _ := hr.mono (by decide)
    have hr7 : Room 7 _ := hr.mono (by decide)
    have hr8 : Room 8 _ := hr.mono (by decide)
    refine ⟨_, (pss_cons (ps_setLc (i := 4) (own := [("_law_way", 7)]) (g := gName 7) (tt := tYes) (te := tCall (spEffOf K C) [] E0 (tCons (tLc (iList K (tVar 7)) (gTup K 2 (gCons (gName 8) (gCons (gName 9) gNil))) tYes (tTup (tCons (tVar 8) (tCons (tDGet (tVar 3) (tVar 9)) tNil))) [8, 9]) tNil)) rfl scPr.nd rfl rfl (sw_true rfl rfl rfl (by decide +kernel)) (pi_list (pv 2)) (blkOk_by (own := [("_law_way", 7)]) (N := nPr) (sc := defScope sLawPairRight) (by decide +kernel)) (fun _ _ _ _ _ => (pg_name (i := 7) scPr.nd rfl (.inl rfl))) (fun _ _ _ _ _ => pts_nil) (fun _ _ _ _ _ => (pe_has GE hr8 (pa_cons (pe_lc (own := [("_law_action", 8), ("_law_item", 9)]) (g := gTup K 2 (gCons (gName 8) (gCons (gName 9) gNil))) (tt := tYes) (te := tTup (tCons (tVar 8) (tCons (tDGet (tVar 3) (tVar 9)) tNil))) rfl scPr.nd (pi_list (pv 7)) (blkOk_by (own := [("_law_action", 8), ("_law_item", 9)]) (N := nPr) (sc := { kind := .function, names := [(".0", .local), ("_law_way", .local), ("effect_of", .globalImplicit), ("_law_names", .cell)], isGenerator := false, isCoroutine := false }) (by decide +kernel)) (fun _ _ _ _ _ => (pg_tup (by rfl) (pgs_cons (pg_name (i := 8) scPr.nd rfl (.inl rfl)) (pgs_cons (pg_name (i := 9) scPr.nd rfl (.inl rfl)) pgs_nil)))) (fun _ _ _ _ _ => pts_nil) (fun _ _ _ _ _ => (pe_tup (pa_cons (pv 8) (pa_cons (pe_dget hu (pv 3) (pv 9) (fun _ _ => rfl)) pa_nil))))) pa_nil))))
      (pss_cons (ps_if (pt_cmpR (op_neL mon_eff (eff_eqG FQ eq1 eq2 eq3) hr2) (pv 4) (pe_lc (own := [("_law_effect", 10)]) (g := gName 10) (tt := tYes) (te := tCall (spEl K C) [] E0 (tCons (tVar 10) (tCons (tVar 3) tNil))) rfl scPr.nd (pi_list (pe_lst (pa_cons (pv 0) (pa_cons (pv 1) pa_nil)))) (blkOk_by (own := [("_law_effect", 10)]) (N := nPr) (sc := defScope sLawPairRight) (by decide +kernel)) (fun _ _ _ _ _ => (pg_name (i := 10) scPr.nd rfl (.inl rfl))) (fun _ _ _ _ _ => pts_nil) (fun _ _ _ _ _ => (pe_has GL hr7 (pa_cons (pv 10) (pa_cons (pv 3) pa_nil))))) (nomark _)) (pss_one (ps_ret pe_bl)) pss_nil)
      (pss_cons (ps_par (i := 5) (j := 6) (by rfl) scPr.nd rfl rfl (by decide) rfl rfl (pa_cons (pe_call FD hr7 (by rfl) mD kpD hbD hdD pass0 (pa_cons (pv 0) (pa_cons (pv 1) pa_nil))) (pa_cons (pe_call FC hr (by rfl) mC kpC hbC hdC pass0 (pa_cons (pv 0) (pa_cons (pv 1) pa_nil))) pa_nil)) (by rfl))
      (pss_cons (ps_if (pt_cmpR (op_neD hr.units) (pe_call FD hr7 (by rfl) mD kpD hbD hdD pass0 (pa_cons (pe_ix ix_list (pv 4) pe_int (fun _ _ => rfl)) (pa_cons (pe_ix ix_list (pv 4) pe_int (fun _ _ => rfl)) pa_nil))) (pe_has GW hr1 (pa_cons (pv 5) (pa_cons (pv 3) pa_nil))) (nomark _)) (pss_one (ps_ret pe_bl)) pss_nil)
      (pss_cons (ps_if (PW.pt (pw_or (pt_cmpR (op_neD hr.units) (pe_call FC hr (by rfl) mC kpC hbC hdC pass0 (pa_cons (pe_ix ix_list (pv 4) pe_int (fun _ _ => rfl)) (pa_cons (pe_ix ix_list (pv 4) pe_int (fun _ _ => rfl)) pa_nil))) (pe_has GW hr1 (pa_cons (pv 6) (pa_cons (pv 3) pa_nil))) (nomark _)) (pw_or1 (pt_not (pt_val (pe_has GR hr (pa_cons (pe_ix ix_list (pv 2) pe_int (fun _ _ => rfl)) (pa_cons (pe_ix ix_list (pv 4) pe_int (fun _ _ => rfl)) (pa_cons (pv 5) pa_nil))))))))) (pss_one (ps_ret pe_bl)) pss_nil)
      (pss_one (ps_ret (pe_has GR hr (pa_cons (pe_ix ix_list (pv 2) pe_int (fun _ _ => rfl)) (pa_cons (pv 0) (pa_cons (pv 6) pa_nil))))))))))), ?_⟩
    -- far
    refine ⟨_, rfl, W, rfl, ⟨_, hW⟩, fun DD hDD => lc_list (K := K) (a := W) (xs := [.ref a1, .ref a2]) (fun j H2 => ∃ fs : List Addr, H2 DD = some (.lst (fs.map V.ref)) ∧ Paired (fun g ss => EffV K C H2 g (effM (ledW f ss))) fs ([ss1, ss2].take j) ∧ Same H H2) ⟨[], upd_same, .nil, Same.new hDD⟩ (fun j H2 _ q => ?_) ?_ ?_⟩
    · obtain ⟨_, _, _, s2⟩ := q
      exact Same.seq s2 hW
    · rintro j x H2 hx ⟨fs, hfs, hP, s2⟩
      obtain ⟨a, us, ss, rfl, hA, hV, ws, hj⟩ : ∃ (a : Addr) (us : List V) (ss : List Stp), x = V.ref a ∧ SqL K H a us ∧ StepsV K H us ss ∧ SW S ss ∧ [ss1, ss2][j]? = some ss := by
        match j, hx with
        | 0, hx =>
          cases hx
          exact ⟨a1, us1, ss1, rfl, hA1, hV1, w1, rfl⟩
        | 1, hx =>
          cases hx
          exact ⟨a2, us2, ss2, rfl, hA2, hV2, w2, rfl⟩
        | j + 2, hx => simp at hx
      have lus := hV.length
      have lss := ws.len
      refine ⟨rfl, yes_in ?_⟩
      refine ⟨_, rfl, a, rfl, ⟨_, Same.seq s2 hA⟩, fun D2 hD2 => lc_list (K := K) (a := a) (xs := us) (fun i H3 => ∃ vs, H3 D2 = some (.lst vs) ∧ StepsH H3 vs (ledW f (ss.take i)) ∧ Same H2 H3) ⟨[], upd_same, .nil, Same.new hD2⟩ (fun i H3 _ q => ?_) ?_ ?_⟩
      · obtain ⟨_, _, _, s3⟩ := q
        exact Same.seq (s2.trans s3) hA
      · rintro i y H3 hy ⟨vs, hv, hst, s3⟩
        obtain ⟨st, h1, h2⟩ := StepsV.at hV hy
        obtain ⟨t, rfl, ht⟩ := h2
        have s23 := s2.trans s3
        have stS : st.2 ∈ S := ws.mem st (List.mem_of_getElem? h1)
        obtain ⟨nk, n1, n2⟩ := (hn.same s23).ex
        have e := n2 _ stS
        refine ⟨t, _, rfl, Same.tup s23 ht, rfl, _, _, rfl, _, _, rfl, rfl, rfl, yes_in ?_⟩
        refine ⟨_, rfl, _, rfl, _, rfl, nd, .str (f st.2), rfl, by rw [← e]; exact DGet.k (k := Sum.inr st.2) n1, by show 2 ≤ sizeLine; decide, fun T hT => ?_⟩
        have sT := Same.new (o := .tup [.str (act st.1), .str (f st.2)]) hT
        have lv : vs.length = (ss.take i).length := by rw [hst.length, ledW_len]
        refine ⟨vs, sT _ _ hv, by rw [lv, List.length_take, sizeLine_eq]; omega, vs ++ [.ref T], upd_same, ?_, Same.free2 (s3.trans sT) hD2⟩
        have eT : ledW f (ss.take (i + 1)) = ledW f (ss.take i) ++ [(st.1, f st.2)] := by
          rw [List.take_add_one, h1, Option.toList_some, ledW_app]
          rfl
        rw [eT]
        have nT : ∀ b, upd H3 T (.tup [.str (act st.1), .str (f st.2)]) b ≠ none → ∀ us', upd H3 T (.tup [.str (act st.1), .str (f st.2)]) b = some (.tup us') → b ≠ D2 := fun b _ us' q c => by
          rw [c, sT _ _ hv] at q
          cases q
        refine Paired.snoc2 (Paired.mapP hst fun _ _ q => ?_) ⟨T, rfl, ?_⟩
        · obtain ⟨t', e', z⟩ := q
          have z' := sT _ _ z
          exact ⟨t', e', by rw [upd_ne (nT _ (by rw [z']; exact fun c => by cases c) _ z')]; exact z'⟩
        · have z' : upd H3 T (.tup [.str (act st.1), .str (f st.2)]) T = some (.tup [.str (act st.1), .str (f st.2)]) := upd_same
          rw [upd_ne (nT _ (by rw [z']; exact fun c => by cases c) _ z')]
          exact z'
      · rintro H3 ⟨vs, hv, hst, s3⟩
        rw [lus, List.take_length] at hst
        dsimp only [tNil]
        refine ⟨D2, vs, ledW f ss, rfl, .of hv, by rw [hst.length, ledW_len]; omega, hst.v, ws.itemF iF, fun e H4 s4 he => ?_⟩
        have s24 := s3.trans s4
        have lf := paired_len hP
        rw [List.length_take] at lf
        refine ⟨fs.map V.ref, s24 _ _ hfs, ?_, fs ++ [e], by rw [upd_same, List.map_append]; rfl, ?_, Same.free2 (s2.trans s24) hDD⟩
        · rw [List.length_map, sizeLine_eq]
          have : [ss1, ss2].length = 2 := rfl
          omega
        · rw [List.take_add_one, hj, Option.toList_some]
          exact Paired.snoc2 (Paired.mapP hP fun _ _ q => EffV.updL (s24 _ _ hfs) (q.same s24)) (EffV.updL (s24 _ _ hfs) he)
    rintro H1 ⟨fs, hfs, hP, s1⟩
    obtain ⟨g1, g2, rfl, hg1, hg2⟩ : ∃ g1 g2, fs = [g1, g2] ∧ EffV K C H1 g1 (effM (ledW f ss1)) ∧ EffV K C H1 g2 (effM (ledW f ss2)) := by
      have hP : Paired (fun g ss => EffV K C H1 g (effM (ledW f ss))) fs [ss1, ss2] := hP
      cases hP with
      | cons a t =>
        cases t with
        | cons b t =>
          cases t
          exact ⟨_, _, rfl, a, b⟩
    clear hP
    have hf1 : H1 DD = some (.lst [.ref g1, .ref g2]) := hfs
    -- led one by one
    refine ⟨_, rfl, _, rfl, _, rfl, by show 2 ≤ sizeLine; decide, fun l2 hl2 => ?_⟩
    have sl := Same.new (o := .lst [V.ref e1, .ref e2]) hl2
    have hl3 : upd H1 l2 (.lst [V.ref e1, .ref e2]) l2 = some (.lst [.ref e1, .ref e2]) := upd_same
    have s1' := s1.trans sl
    have hf2 := sl _ _ hf1
    have hg1 := hg1.same sl
    have hg2 := hg2.same sl
    generalize upd H1 l2 (.lst [V.ref e1, .ref e2]) = H1' at hl3 s1' hf2 hg1 hg2 ⊢
    clear sl hl2 hfs hf1 s1
    refine ⟨l2, rfl, ⟨_, .of hl3⟩, fun D3 hD3 => lc_list (K := K) (a := l2) (xs := [.ref e1, .ref e2]) (fun j H2 => ∃ fs : List Addr, H2 D3 = some (.lst (fs.map V.ref)) ∧ Paired (fun g ss => EffV K C H2 g (effM (ledW f ss))) fs ([ss1, ss2].take j) ∧ Same H1' H2) ⟨[], upd_same, .nil, Same.new hD3⟩ (fun j H2 _ q => ?_) ?_ ?_⟩
    · obtain ⟨_, _, _, s2⟩ := q
      exact .of (s2 _ _ hl3)
    · rintro j x H2 hx ⟨fs, hfs, hP, s2⟩
      obtain ⟨e, ss, rfl, he, ws, hj⟩ : ∃ (e : Addr) (ss : List Stp), x = V.ref e ∧ EffV K C H e (effM ss) ∧ SW S ss ∧ [ss1, ss2][j]? = some ss := by
        match j, hx with
        | 0, hx =>
          cases hx
          exact ⟨e1, ss1, rfl, he1, w1, rfl⟩
        | 1, hx =>
          cases hx
          exact ⟨e2, ss2, rfl, he2, w2, rfl⟩
        | j + 2, hx => simp at hx
      have s12 := s1'.trans s2
      have lf := paired_len hP
      rw [List.length_take] at lf
      refine ⟨rfl, yes_in ⟨_, rfl, _, rfl, e, nd, S, f, effM ss, rfl, hn.same s12, iF, he.same s12, (ws.ok iS).ok, (ws.ok iS).lp, eff_in ws.mem, fun e' H4 s4 he' => ?_⟩⟩
      rw [← eff_led mo.inj ws.mem] at he'
      refine ⟨fs.map V.ref, s4 _ _ hfs, ?_, fs ++ [e'], by rw [upd_same, List.map_append]; rfl, ?_, Same.free2 (s2.trans s4) hD3⟩
      · rw [List.length_map, sizeLine_eq]
        have : [ss1, ss2].length = 2 := rfl
        omega
      · rw [List.take_add_one, hj, Option.toList_some]
        exact Paired.snoc2 (Paired.mapP hP fun _ _ q => EffV.updL (s4 _ _ hfs) (q.same s4)) (EffV.updL (s4 _ _ hfs) he')
    rintro H2 ⟨fs, hfs, hP, s2⟩
    obtain ⟨k1, k2, rfl, hk1, hk2⟩ : ∃ g1 g2, fs = [g1, g2] ∧ EffV K C H2 g1 (effM (ledW f ss1)) ∧ EffV K C H2 g2 (effM (ledW f ss2)) := by
      have hP : Paired (fun g ss => EffV K C H2 g (effM (ledW f ss))) fs [ss1, ss2] := hP
      cases hP with
      | cons a t =>
        cases t with
        | cons b t =>
          cases t
          exact ⟨_, _, rfl, a, b⟩
    have s12 := s1'.trans s2
    have o1 := w1.okF iF
    have o2 := w2.okF iF
    have dins : ∀ {x y : Addr} {o : Eff}, EffV K C H2 x o → EffV K C H2 y o → EffOk o → DIns C (rEffT K C) (.ref x) (.ref y) H2 := fun {x y o} hx hy ok => by
      obtain ⟨d1, f1, q1⟩ := hx.ins
      obtain ⟨d2, f2, q2⟩ := hy.ins
      exact ⟨x, y, d1, d2, f1, f2, rfl, rfl, q1, q2, o, hx, hy, ok⟩
    refine ⟨⟨DD, D3, _, _, rfl, rfl, s2 _ _ hf2, hfs, Prs.cons (dins (hg1.same s2) hk1 o1.ok) (Prs.cons (dins (hg2.same s2) hk2 o2.ok) Prs.nil)⟩, fun H5 s5 => ⟨false, rfl, iteF ?_⟩⟩
    have s15 := s12.trans s5
    have hf5 := s5 _ _ (s2 _ _ hf2)
    have hg1 := (hg1.same s2).same s5
    have hg2 := (hg2.same s2).same s5
    clear hP hk1 hk2 hfs hl3 hD3 hDD s1' s2 s12 hf2 s5 dins
    have ll : LimOk none := fun L e => by cases e
    have p1 := w1.ok iS
    have p2 := w2.ok iS
    have w12 := w1.app w2 wl
    have w21 := w2.app w1 (by omega)
    have t12 : thenM [effM ss1, effM ss2] = effM (ss1 ++ ss2) := then_two _ _ (w12.item iS)
    have t21 : thenM [effM ss2, effM ss1] = effM (ss2 ++ ss1) := then_two _ _ (w21.item iS)
    have u12 : thenM [effM (ledW f ss1), effM (ledW f ss2)] = effM (ledW f (ss1 ++ ss2)) := by rw [ledW_app]; exact then_two _ _ (by rw [← ledW_app]; exact w12.itemF iF)
    have u21 : thenM [effM (ledW f ss2), effM (ledW f ss1)] = effM (ledW f (ss2 ++ ss1)) := by rw [ledW_app]; exact then_two _ _ (by rw [← ledW_app]; exact w21.itemF iF)
    have in1 := eff_in w1.mem
    have in2 := eff_in w2.mem
    have in12 := eff_in w12.mem
    have in21 := eff_in w21.mem
    have d1 : difM none (effM (ledW f ss1)) (effM (ledW f ss2)) = ledR f (difM none (effM ss1) (effM ss2)) := by rw [eff_led mo.inj w1.mem, eff_led mo.inj w2.mem, dif_led mo in1 in2]
    have d2 : difM none (effM (ledW f (ss1 ++ ss2))) (effM (ledW f (ss2 ++ ss1))) = ledR f (difM none (effM (ss1 ++ ss2)) (effM (ss2 ++ ss1))) := by rw [eff_led mo.inj w12.mem, eff_led mo.inj w21.mem, dif_led mo in12 in21]
    -- apart, both
    refine ⟨_, rfl, _, rfl, e1, e2, effM ss1, effM ss2, none, rfl, he1.same s15, he2.same s15, p1.ok, p2.ok, ll, fun va H6 s6 hva => ?_⟩
    have s16 := s15.trans s6
    refine ⟨_, rfl, _, rfl, e1, e2, effM ss1, effM ss2, none, rfl, he1.same s16, he2.same s16, p1.sm, p2.sm, by rw [t12]; exact (w12.ok iS).ok, by rw [t21]; exact (w21.ok iS).ok, ll, fun vb H7 s7 hvb => ?_⟩
    rw [t12, t21] at hvb
    have s17 := s16.trans s7
    have hva := hva.same s7
    have hf7 := s7 _ _ (s6 _ _ hf5)
    have hg1 := (hg1.same s6).same s7
    have hg2 := (hg2.same s6).same s7
    refine ⟨_, _, rfl, ?_⟩
    have k1 := dif_ok p1.ok p2.ok
    have k2 := dif_ok (w12.ok iS).ok (w21.ok iS).ok
    have j1 := dif_in in1 in2
    have j2 := dif_in in12 in21
    refine ⟨_, rfl, DD, _, 0, _, rfl, rfl, .of hf7, atI_nat (j := 0) rfl, _, rfl, DD, _, 1, _, rfl, rfl, .of hf7, atI_nat (j := 1) rfl, g1, g2, _, _, none, rfl, hg1, hg2, o1.ok, o2.ok, ll, fun vc H8 s8 hvc => ?_⟩
    rw [d1] at hvc
    have s18 := s17.trans s8
    refine ⟨_, rfl, _, rfl, va, nd, S, f, _, rfl, hn.same s18, hva.same s8, j1, fun w e => (k1 w e).2, fun vd H9 s9 hvd => neO (led_ok j1 iF fun w e => (k1 w e).2) (hvc.same s9) hvd ⟨false, rfl, iteF ?_⟩⟩
    have s19 := s18.trans s9
    have s79 := s8.trans s9
    have hf9 := s79 _ _ hf7
    refine ⟨_, rfl, DD, _, 0, _, rfl, rfl, .of hf9, atI_nat (j := 0) rfl, _, rfl, DD, _, 1, _, rfl, rfl, .of hf9, atI_nat (j := 1) rfl, g1, g2, _, _, none, rfl, hg1.same s79, hg2.same s79, o1.sm, o2.sm, by rw [u12]; exact (w12.okF iF).ok, by rw [u21]; exact (w21.okF iF).ok, ll, fun vc2 HA sA hvc2 => ?_⟩
    rw [u12, u21, d2] at hvc2
    have s1A := s19.trans sA
    have s7A := s79.trans sA
    refine ⟨_, rfl, _, rfl, vb, nd, S, f, _, rfl, hn.same s1A, hvb.same s7A, j2, fun w e => (k2 w e).2, fun vd2 HB sB hvd2 => neO (led_ok j2 iF fun w e => (k2 w e).2) (hvc2.same sB) hvd2 ⟨false, rfl, iteF ?_⟩⟩
    have s1B := s1A.trans sB
    have s7B := s7A.trans sB
    refine ⟨_, rfl, W, _, 0, _, rfl, rfl, Same.seq s1B hW, atI_nat (j := 0) rfl, _, rfl, DD, _, 0, _, rfl, rfl, .of (s7B _ _ hf7), atI_nat (j := 0) rfl, _, rfl, a1, g1, us1, ss1, _, va, _, rfl, Same.seq s1B hA1, hV1.same s1B, w1.item iS, by have := w1.len; omega, hg1.same s7B, o1.ok, o1.st, hva.same s7B, k1, fun HC sC => ⟨true, rfl, iteF ?_⟩⟩
    have s1C := s1B.trans sC
    have s7C := s7B.trans sC
    exact ⟨_, rfl, W, _, 1, _, rfl, rfl, Same.seq s1C hW, atI_nat (j := 1) rfl, _, rfl, _, rfl, a2, e1, us2, ss2, _, vb, _, rfl, Same.seq s1C hA2, hV2.same s1C, w2.item iS, by have := w2.len; omega, he1.same s1C, p1.ok, p1.st, hvb.same s7C, k2, fun HD' sD => k _ (s1C.trans sD)⟩
end
end SE
namespace SE
open PySem PySem.Spec PyProof.Rows L2
def outD (g : Res × List Nat) : PyData := .tuple [oD g.1, .list (g.2.map iDn)]
def OWS (o : Res) : Prop := ∀ zs, o = some zs → (∀ z ∈ zs, Item z) ∧ zs.length ≤ 50
theorem oDs_nice {o : Res} (h : OWS o) : Nice 1 900 (oD o) := by
  cases o with
  | none => exact ⟨by decide +kernel, by decide +kernel, by decide +kernel, by decide +kernel, by decide +kernel, by decide +kernel⟩
  | some zs =>
    obtain ⟨h1, h2⟩ := h zs rfl
    exact (nice_tuple (nice_strs h1)).mono (by decide) (by rw [List.length_map]; omega)
theorem outD_nice {g : Res × List Nat} (h : OWS g.1) (h1 : ∀ n ∈ g.2, n ≤ 100) (h2 : g.2.length ≤ 100) : Nice 2 1802 (outD g) := by
  refine (nice_tuple (k := 1) (B := 900) (ds := [oD g.1, .list (g.2.map iDn)]) fun d m => ?_).mono (by decide) (Nat.le_refl _)
  rcases List.mem_cons.mp m with e | m
  · rw [e]
    exact oDs_nice h
  · rw [List.mem_singleton.mp m]
    exact nice_ns h1 h2
theorem dp_outs {K : PySem.W.Frag} {Z : Addr → Prop} {H : Hp} : ∀ {ts : List V} {G : Grp}, Paired (OutV K Z H) ts G → DpAll K H ts (G.map outD)
  | _, _, .nil => .nil
  | _, _, .cons ⟨a, y, l, e, h1, h2, h3, _⟩ b => by
    cases e
    exact .cons (.tup h1 (.cons h2.dp (.cons (.lst (.of h3) (dp_ns _)) .nil))) (dp_outs b)
/-- what outcomes gives is small -/
structure OutOk (G : Grp) : Prop where
  l : G.length ≤ 30
  e : ∀ g ∈ G, OWS g.1 ∧ (∀ n ∈ g.2, n ≤ 100) ∧ g.2.length ≤ 100
theorem outs_nice {G : Grp} (h : OutOk G) : Nice 3 54090 (.list (G.map outD)) := by
  refine (nice_list (k := 2) (B := 1802) fun d m => ?_).mono (by decide) (by rw [List.length_map]; have := h.l; omega)
  obtain ⟨g, mg, rfl⟩ := List.mem_map.mp m
  obtain ⟨a, b, c⟩ := h.e g mg
  exact outD_nice a b c
theorem rep_outs {K : PySem.W.Frag} {Z : Addr → Prop} {H : Hp} {a : Addr} {ts : List V} {G : Grp} {Q : VK} (ha : H a = some (.lst ts)) (hp : Paired (OutV K Z H) ts G) (h : OutOk G) (k : Q (.str (PyData.list (G.map outD)).shown) H) : rRep K [.ref a] H Q := by
  have n := outs_nice h
  exact ⟨_, _, rfl, .lst (.of ha) (dp_outs hp), ⟨_, rfl⟩, n.sh, n.nd, Nat.le_trans n.dep (by decide), n.shown (by decide) (by decide), k⟩
theorem lookG_in {k : Res} : ∀ {G : Grp}, (∃ g ∈ G, g.2 = lookG k G) ∨ lookG k G = []
  | [] => .inr rfl
  | g :: rest => by
    unfold lookG
    split
    · exact .inl ⟨g, List.mem_cons_self, rfl⟩
    · rcases lookG_in (k := k) (G := rest) with ⟨q, m, e⟩ | e
      · exact .inl ⟨q, List.mem_cons_of_mem _ m, e⟩
      · exact .inr e
theorem out_ok {rs : List Res} {n : Nat} (hn : n ≤ rs.length) (h20 : n ≤ 20) (h : ∀ r ∈ rs, OWS r) : OutOk (outM (grpM rs n)) := by
  have gl := grpM_len rs n
  refine ⟨?_, fun g m => ?_⟩
  · unfold outM
    rw [List.length_map]
    exact Nat.le_trans (keysG_len _) (by omega)
  · obtain ⟨k, mk, rfl⟩ := List.mem_map.mp m
    obtain ⟨g0, m0, e0⟩ := List.any_eq_true.mp (keysG_has k mk)
    have e0 := of_decide_eq_true e0
    refine ⟨by rw [← e0]; exact h _ (grpM_keys hn g0 m0), ?_⟩
    rcases lookG_in (k := k) (G := grpM rs n) with ⟨q, mq, e⟩ | e
    · obtain ⟨a, b⟩ := grpM_lists rs n q mq
      show (∀ j ∈ lookG k (grpM rs n), j ≤ 100) ∧ (lookG k (grpM rs n)).length ≤ 100
      rw [← e]
      exact ⟨fun j mj => by have := b j mj; omega, by omega⟩
    · show (∀ j ∈ lookG k (grpM rs n), j ≤ 100) ∧ (lookG k (grpM rs n)).length ≤ 100
      rw [e]
      exact ⟨fun j mj => (by cases mj), Nat.zero_le _⟩
section
variable {C : Addr}
def reprOne (os : List Eff) : Str := listText (os.map shownE)
theorem repr_one {X : Cx} (RP : ReprHasG X.prog X.w X.K X.mg X.base C) {H : Hp} {E : Addr} {es : List Addr} {os : List Eff} {Q : VK} (hE : H E = some (.lst (es.map V.ref)))
    (hP : Paired (EffV X.K C H) es os) (oE : ∀ o ∈ os, EffOk o) (le : es.length ≤ 20) (k : ∀ H', Same H H' → Q (.str (reprOne os)) H') : rReprR X 1 [.ref E] H Q := by
  obtain ⟨f, fd, F, r1, r2, r3⟩ := RP
  have lo := paired_len hP
  refine ⟨E, _, _, rfl, hE, by rw [List.length_map, List.length_map]; exact lo, ?_, fun i y hy => ?_, k⟩
  · have q1 := listText_len_le (os.map shownE)
    have z1 := sum_le (n := 20) (B := 300000) (ts := os.map shownE) (fun t m => by
      obtain ⟨o, mo, rfl⟩ := List.mem_map.mp m
      exact shownE_le (oE o mo)) (by rw [List.length_map]; omega)
    rw [List.length_map] at q1
    rw [sizeLine_eq]
    omega
  · rw [List.getElem?_map] at hy
    cases he : es[i]? with
    | none =>
      rw [he] at hy
      cases hy
    | some e =>
      rw [he] at hy
      cases hy
      obtain ⟨o, ho, hV⟩ := paired_at hP he
      refine ⟨shownE o, by rw [List.getElem?_map, ho]; rfl, fun rest2 => ru_own (F _) r1 r2 r3 hV.ins fun H' s => ⟨e, o, rfl, hV.same s, oE o (List.mem_of_getElem? ho), (GuL.nil.cons hE).same s, rfl, Same.refl _⟩⟩
end
end SE
namespace SE
open PySem PySem.Spec PyProof.Rows L2
section
variable {P : Program} {w : World} {K : PySem.W.Frag} {mg : Str → Option Value} {base : Heap} {C : Addr}
/-- the effects of sequences, as a list -/
structure Ev (K : PySem.W.Frag) (C : Addr) (S : List Str) (H : Hp) (L : Addr) (es : List Addr) (sss : List (List Stp)) : Prop where
  at_ : SqL K H L (es.map V.ref)
  ev : Paired (fun e ss => EffV K C H e (effM ss)) es sss
  sw : ∀ ss ∈ sss, SW S ss
  l1 : 2 ≤ sss.length
  l2 : sss.length ≤ 20
theorem Ev.same {H H' : Hp} {S : List Str} {L : Addr} {es : List Addr} {sss : List (List Stp)} (h : Ev K C S H L es sss) (s : Same H H') : Ev K C S H' L es sss := ⟨Same.seq s h.at_, Paired.mapP h.ev fun _ _ q => q.same s, h.sw, h.l1, h.l2⟩
theorem evs {H : Hp} {es : List Addr} : ∀ {sss : List (List Stp)}, Paired (fun e ss => EffV K C H e (effM ss)) es sss → Paired (EffV K C H) es (sss.map effM) := fun h => by
  induction h with
  | nil => exact .nil
  | cons a _ ih => exact .cons a ih
theorem evF {f : Str → Str} {H : Hp} {es : List Addr} : ∀ {sss : List (List Stp)}, Paired (fun e ss => EffV K C H e (effM (ledW f ss))) es sss → Paired (EffV K C H) es ((sss.map (ledW f)).map effM) := fun h => by
  induction h with
  | nil => exact .nil
  | cons a _ ih => exact .cons a ih
theorem led_all {S : List Str} {f : Str → Str} (h : InjS S f) {sss : List (List Stp)} (hs : ∀ ss ∈ sss, SW S ss) : (sss.map (ledW f)).map effM = (sss.map effM).map (ledE f) := by
  rw [List.map_map, List.map_map]
  exact List.map_congr_left fun ss m => eff_led h (hs ss m).mem
theorem in_all {S : List Str} {sss : List (List Stp)} (hs : ∀ ss ∈ sss, SW S ss) : ∀ o ∈ sss.map effM, InE S o := fun o m => by
  obtain ⟨ss, ms, rfl⟩ := List.mem_map.mp m
  exact eff_in (hs ss ms).mem
theorem ok_all {S : List Str} (iS : ∀ z ∈ S, Item z) {sss : List (List Stp)} (hs : ∀ ss ∈ sss, SW S ss) : ∀ o ∈ sss.map effM, EffOk o := fun o m => by
  obtain ⟨ss, ms, rfl⟩ := List.mem_map.mp m
  exact ((hs ss ms).ok iS).ok
theorem okF_all {S : List Str} {f : Str → Str} (iF : ∀ z ∈ S, Item (f z)) {sss : List (List Stp)} (hs : ∀ ss ∈ sss, SW S ss) : ∀ o ∈ (sss.map (ledW f)).map effM, EffOk o := fun o m => by
  obtain ⟨st, mt, rfl⟩ := List.mem_map.mp m
  obtain ⟨ss, ms, e⟩ := List.mem_map.mp mt
  rw [← e]
  exact ((hs ss ms).okF iF).ok
/-- results of short sequences on short words are short -/
theorem res_small {S : List Str} (iS : ∀ z ∈ S, Item z) {sss : List (List Stp)} (hs : ∀ ss ∈ sss, SW S ss) {zs : List Str} (iz : ∀ z ∈ zs, Item z) (lz : zs.length ≤ 10) : ∀ r ∈ resM (sss.map effM) zs, OWS r := fun r m => by
  obtain ⟨o, mo, rfl⟩ := List.mem_map.mp m
  obtain ⟨ss, ms, rfl⟩ := List.mem_map.mp mo
  have hw := hs ss ms
  intro v e
  cases q : effM ss with
  | none => rw [q] at e; cases e
  | some A =>
    obtain ⟨h1, h2, _⟩ := effM_ok (hw.item iS) q
    obtain ⟨xs, ys, p⟩ := A
    rw [q] at e
    have e : (if zs.take xs.length = xs then some (ys ++ zs.drop xs.length) else none) = some v := e
    split at e
    · cases e
      refine ⟨fun z mz => (List.mem_append.mp mz).elim (h1.i2 z) fun mz => iz z (List.mem_of_mem_drop mz), ?_⟩
      have := hw.len
      rw [List.length_append, List.length_drop]
      have h2 : xs.length + ys.length ≤ ss.length := h2
      omega
    · cases e
theorem out_in {S : List Str} {rs : List Res} (hr : ∀ r ∈ rs, InR S r) (n : Nat) : ∀ g ∈ outM (grpM rs n), InR S g.1 := fun g m => by
  obtain ⟨k, mk, rfl⟩ := List.mem_map.mp m
  exact keys_in (grp_in hr n) k mk
theorem OW.updL {H : Hp} {D : Addr} {ws : List V} {o : HO} {v : V} (hD : H D = some (.lst ws)) : ∀ {r : Res}, OW K H v r → OW K (upd H D o) v r
  | none, h => h
  | some _, ⟨a, e, h⟩ => ⟨a, e, tup_updL hD h⟩
theorem OutV.updL {H : Hp} {D : Addr} {ws : List V} {o : HO} {t : V} {g : Res × List Nat} (hD : H D = some (.lst ws)) (h : OutV K (fun l => l ≠ D) H t g) : OutV K (fun l => l ≠ D) (upd H D o) t g := by
  obtain ⟨a, y, l, e, h1, h2, h3, h4⟩ := h
  exact ⟨a, y, l, e, tup_updL hD h1, h2.updL hD, by rw [upd_ne h4]; exact h3, h4⟩
theorem best_ok {os : List Eff} (h : ∀ o ∈ os, EffOk o) : (∀ z ∈ bestM os, Item z) ∧ (bestM os).length ≤ 1000 := stks_ok h _ (best_min os).1
theorem lg_small (os : List Eff) (ws : List Str) (h : os.length ≤ 20) : lgM os ws ≤ 20 := by
  unfold lgM largM
  rcases foldl_max_in ((grpM (resM os ws) os.length).map fun g => g.2.length) 0 with e | m
  · rw [e]
    omega
  · obtain ⟨g, mg, e⟩ := List.mem_map.mp m
    have := (grpM_lists _ _ g mg).1
    omega
/-! ### _law_groups_right -/
def spGr (K : PySem.W.Frag) (C : Addr) : Sp := fun vs H Q _ => ∃ (L a nd : Addr) (es : List Addr) (sss : List (List Stp)) (S : List Str) (f : Str → Str) (zs : List Str), vs = [.ref L, .ref a, .ref nd] ∧ NmAt H nd S f ∧ MonS S f ∧ (∀ z ∈ S, Item z) ∧ (∀ z ∈ S, Item (f z)) ∧ Ev K C S H L es sss ∧
  SqT K H a (zs.map V.str) ∧ InW S zs ∧ zs.length ≤ 10 ∧ ∀ H', Same H H' → Q (.bl true) H'
abbrev nGr : List Str := ["_law_every", "_law_word_here", "_law_names", "_law_far", "_law_due", "_law_largest", "_law_stack", "_law_effect", "_law_result", "_law_places"]
abbrev pGr : List Str := ["_law_every", "_law_word_here", "_law_names"]
theorem scGr : FnScope nGr pGr (defScope sLawGroupsRight) := ⟨rfl, rfl, rfl, by decide +kernel, rfl, by decide +kernel, by decide +kernel⟩
theorem has_gr (D : Def K mg "_law_groups_right" sLawGroupsRight) (GL : Has P w K mg base "_law_effect_led" 7 ["_law_effect", "_law_names"] [] (spEl K C)) (GW : Has P w K mg base "_law_word_led" 1 ["_law_word_here", "_law_names"] [] (spWl K))
    (GO : Has P w K mg base "outcomes" 5 ["candidates", "stack"] [] (spOut w K C)) (GB : Has P w K mg base "best_stack" 6 ["candidates"] [] (spBest K C)) : Has P w K mg base "_law_groups_right" 8 pGr [] (spGr K C) := by
  refine has_of D scGr (fun _ _ _ _ _ _ us hl => match us, hl with | [_, _, _], _ => rfl) (fun xs H Q E h => ?_) (fun fx cv A out s H xs Q E hr h => ?_)
  · obtain ⟨L, a, nd, es, sss, S, f, zs, rfl, _⟩ := h
    rfl
  · obtain ⟨L, a, nd, es, sss, S, f, zs, rfl, hn, mo, iS, iF, hEv, ha, iz, lz, k⟩ := h
    have hr1 : Room 1 _ := hr.mono (by decide)
    have hr5 : Room 5 _ := hr.mono (by decide)
    have hr6 : Room 6 _ := hr.mono (by decide)
    obtain ⟨hL, hEs, hSs, l2, l20⟩ := hEv
    have lES : es.length = sss.length := paired_len hEs
    refine ⟨_, (pss_cons (ps_setLc (i := 3) (own := [("_law_effect", 7)]) (g := gName 7) (tt := tYes) (te := tCall (spEl K C) [] E0 (tCons (tVar 7) (tCons (tVar 2) tNil))) rfl scGr.nd rfl rfl (sw_true rfl rfl rfl (by decide +kernel)) (pi_list (pv 0)) (blkOk_by (own := [("_law_effect", 7)]) (N := nGr) (sc := defScope sLawGroupsRight) (by decide +kernel)) (fun _ _ _ _ _ => (pg_name (i := 7) scGr.nd rfl (.inl rfl))) (fun _ _ _ _ _ => pts_nil) (fun _ _ _ _ _ => (pe_has GL hr (pa_cons (pv 7) (pa_cons (pv 2) pa_nil)))))
      (pss_cons (ps_setLc (i := 4) (own := [("_law_result", 8), ("_law_places", 9)]) (g := gTup K 2 (gCons (gName 8) (gCons (gName 9) gNil))) (tt := tYes) (te := tTup (tCons (tCall (spWl K) [] E0 (tCons (tVar 8) (tCons (tVar 2) tNil))) (tCons (tVar 9) tNil))) rfl scGr.nd rfl rfl (sw_true rfl rfl rfl (by decide +kernel)) (pi_list (pe_has GO hr5 (pa_cons (pv 0) (pa_cons (pv 1) pa_nil)))) (blkOk_by (own := [("_law_result", 8), ("_law_places", 9)]) (N := nGr) (sc := defScope sLawGroupsRight) (by decide +kernel)) (fun _ _ _ _ _ => (pg_tup (by rfl) (pgs_cons (pg_name (i := 8) scGr.nd rfl (.inl rfl)) (pgs_cons (pg_name (i := 9) scGr.nd rfl (.inl rfl)) pgs_nil)))) (fun _ _ _ _ _ => pts_nil) (fun _ _ _ _ _ => (pe_tup (pa_cons (pe_has GW hr1 (pa_cons (pv 8) (pa_cons (pv 2) pa_nil))) (pa_cons (pv 9) pa_nil)))))
      (pss_cons (ps_if (pt_cmpR (op_neD hr.units) (pe_has GO hr5 (pa_cons (pv 3) (pa_cons (pe_has GW hr1 (pa_cons (pv 1) (pa_cons (pv 2) pa_nil))) pa_nil))) (pv 4) (nomark _)) (pss_one (ps_ret pe_bl)) pss_nil)
      (pss_cons (ps_asg (pe_has GB hr6 (pa_cons (pv 0) pa_nil)) (pg_tup (by rfl) (pgs_cons (pg_name (i := 5) scGr.nd rfl (.inl rfl)) (pgs_cons (pg_name (i := 6) scGr.nd rfl (.inl rfl)) pgs_nil))))
      (pss_one (ps_ret (pe_cmpR (op_eqD hr.units) (pe_has GB hr6 (pa_cons (pv 3) pa_nil)) (pe_tup (pa_cons (pv 5) (pa_cons (pe_has GW hr1 (pa_cons (pv 6) (pa_cons (pv 2) pa_nil))) pa_nil))) (nomark _)))))))), ?_⟩
    refine ⟨_, rfl, L, rfl, ⟨_, Same.seq (Same.refl H) hL⟩, fun DD hDDD => lc_list (K := K) (a := L) (xs := es.map V.ref) (fun j H2 => ∃ fs : List Addr, H2 DD = some (.lst (fs.map V.ref)) ∧ Paired (fun g ss => EffV K C H2 g (effM (ledW f ss))) fs (sss.take j) ∧ Same H H2) ⟨[], upd_same, .nil, Same.new hDDD⟩ (fun j H2 _ q => ?_) ?_ ?_⟩
    · obtain ⟨_, _, _, s2⟩ := q
      exact Same.seq ((Same.refl H).trans s2) hL
    · rintro j x H2 hx ⟨fs, hfs, hP, s2⟩
      rw [List.getElem?_map] at hx
      obtain ⟨e, hj, rfl⟩ : ∃ e, es[j]? = some e ∧ x = V.ref e := by
        cases hq : es[j]? with
        | none =>
          rw [hq] at hx
          cases hx
        | some e =>
          rw [hq] at hx
          cases hx
          exact ⟨e, rfl, rfl⟩
      obtain ⟨ss, hss, he⟩ := paired_at hEs hj
      have ws := hSs ss (List.mem_of_getElem? hss)
      have s12 := (Same.refl H).trans s2
      have lf := paired_len hP
      rw [List.length_take] at lf
      refine ⟨rfl, yes_in ⟨_, rfl, _, rfl, e, nd, S, f, effM ss, rfl, hn.same s12, iF, he.same s12, (ws.ok iS).ok, (ws.ok iS).lp, eff_in ws.mem, fun e' H4 s4 he' => ?_⟩⟩
      rw [← eff_led mo.inj ws.mem] at he'
      refine ⟨fs.map V.ref, s4 _ _ hfs, ?_, fs ++ [e'], by rw [upd_same, List.map_append]; rfl, ?_, Same.free2 (s2.trans s4) hDDD⟩
      · rw [List.length_map, sizeLine_eq]
        omega
      · rw [List.take_add_one, hss, Option.toList_some]
        exact Paired.snoc2 (Paired.mapP hP fun _ _ q => EffV.updL (s4 _ _ hfs) (q.same s4)) (EffV.updL (s4 _ _ hfs) he')
    rintro H1 ⟨gs, hgs, hGs, s0H1⟩
    rw [List.length_map, lES, List.take_length] at hGs
    have sH1 := (Same.refl H).trans s0H1
    have hgs1 : H1 DD = some (.lst (gs.map V.ref)) := hgs
    have lGS : gs.length = sss.length := paired_len hGs
    have iZ : ∀ z ∈ zs, Item z := fun z m => iS z (iz z m)
    have oEv := ok_all iS hSs
    have oFv := okF_all iF hSs
    have inE := in_all hSs
    have eF := led_all mo.inj hSs
    have gOk : OutOk (outM (grpM (resM (sss.map effM) zs) es.length)) := out_ok (by rw [show (resM (sss.map effM) zs).length = sss.length by unfold resM; rw [List.length_map, List.length_map]]; omega) (by omega) (res_small iS hSs iZ lz)
    have gIn := out_in (res_in inE iz) es.length
    have gEq : outM (grpM (resM ((sss.map (ledW f)).map effM) (zs.map f)) gs.length) = (outM (grpM (resM (sss.map effM) zs) es.length)).map (ldG f) := by
      rw [eF, res_led mo.inj inE iz, lGS, ← lES, grp_led mo.inj (res_in inE iz), out_led mo (grp_in (res_in inE iz) _)]
    -- due
    refine ⟨_, rfl, _, rfl, L, a, es, sss.map effM, zs, rfl, Same.seq sH1 hL, evs (Paired.mapP hEs fun _ _ q => q.same sH1), oEv, by omega, by omega, Same.tup sH1 ha, iZ, by omega, fun R ts H2 s2 n2 hR hO => ?_⟩
    have s12 := sH1.trans s2
    generalize hG : outM (grpM (resM (sss.map effM) zs) es.length) = G at hO gOk gIn gEq
    have lTs : ts.length = G.length := paired_len hO
    refine ⟨R, rfl, ⟨_, .of hR⟩, fun DU hDU => lc_list (K := K) (a := R) (xs := ts) (fun j H3 => ∃ us, H3 DU = some (.lst us) ∧ Paired (OutV K (fun l => l ≠ DU) H3) us ((G.take j).map (ldG f)) ∧ Same H2 H3) ⟨[], upd_same, .nil, Same.new hDU⟩ (fun j H3 _ q => ?_) ?_ ?_⟩
    · obtain ⟨_, _, _, s3⟩ := q
      exact .of (s3 _ _ hR)
    · rintro j x H3 hx ⟨us, hus, hP, s3⟩
      obtain ⟨g, hj, t, y, l, rfl, ht, hy, hl, _⟩ := paired_at hO hx
      have mg := List.mem_of_getElem? hj
      have jl := (List.getElem?_eq_some_iff.mp hj).1
      have s13 := s12.trans s3
      have lU := paired_len hP
      rw [List.length_map, List.length_take] at lU
      have gl := gOk.l
      have lne : l ≠ DU := fun e => by rw [e, hDU] at hl; cases hl
      refine ⟨t, _, rfl, Same.tup s3 ht, rfl, _, _, rfl, _, _, rfl, rfl, rfl, yes_in ?_⟩
      refine ⟨_, rfl, _, rfl, y, nd, S, f, g.1, rfl, hn.same s13, hy.same s3, gIn g mg, fun w e => by have := ((gOk.e g mg).1 w e).2; omega, fun v' H4 s4 hv' => ?_⟩
      refine ⟨_, rfl, by show 2 ≤ sizeLine; decide, fun T hT => ?_⟩
      have sT := Same.new (o := .tup [v', .ref l]) hT
      have s4T := s4.trans sT
      refine ⟨us, s4T _ _ hus, by rw [sizeLine_eq]; omega, us ++ [.ref T], upd_same, ?_, Same.free2 (s3.trans s4T) hDU⟩
      rw [List.take_add_one, hj, Option.toList_some, List.map_append]
      refine Paired.snoc2 (Paired.mapP hP fun _ _ q => OutV.updL (s4T _ _ hus) ?_) (OutV.updL (s4T _ _ hus) ⟨T, v', l, rfl, .of upd_same, hv'.same sT, s4T _ _ (s3 _ _ hl), lne⟩)
      obtain ⟨a', y', l', e', q1, q2, q3, q4⟩ := q
      exact ⟨a', y', l', e', Same.tup s4T q1, q2.same s4T, s4T _ _ q3, q4⟩
    rintro H3 ⟨us, hus, hP, s3⟩
    rw [lTs, List.take_length] at hP
    have s13 := s12.trans s3
    have s23 := s2.trans s3
    -- outcomes of those that are led
    refine ⟨_, rfl, _, rfl, _, rfl, .ref a, nd, S, f, some zs, rfl, hn.same s13, ⟨a, rfl, Same.tup s13 ha⟩, fun w e => (by cases e; exact iz), fun w e => (by cases e; omega), fun v5 H5 s5 hv5 => ?_⟩
    obtain ⟨a5, rfl, h5⟩ := hv5
    have s15 := s13.trans s5
    have s25 := s23.trans s5
    refine ⟨DD, a5, gs, (sss.map (ledW f)).map effM, zs.map f, rfl, .of (s25 _ _ hgs1), evF (Paired.mapP hGs fun _ _ q => q.same s25), oFv, by omega, by omega, h5, fun z m => ?_, by rw [List.length_map]; omega, fun R2 ts2 H6 s6 n6 hR2 hO2 => ?_⟩
    · obtain ⟨q, mq, rfl⟩ := List.mem_map.mp m
      exact iF q (iz q mq)
    rw [gEq] at hO2
    have nG : OutOk (G.map (ldG f)) := ⟨by rw [List.length_map]; exact gOk.l, fun g m => by
      obtain ⟨q, mq, rfl⟩ := List.mem_map.mp m
      obtain ⟨c1, c2, c3⟩ := gOk.e q mq
      refine ⟨fun w e => ?_, c2, c3⟩
      cases e1 : q.1 with
      | none =>
        have e : ledR f q.1 = some w := e
        rw [e1] at e
        cases e
      | some w0 =>
        have e : ledR f q.1 = some w := e
        rw [e1] at e
        cases e
        refine ⟨fun z m => ?_, by rw [List.length_map]; exact (c1 w0 e1).2⟩
        obtain ⟨y, my, rfl⟩ := List.mem_map.mp m
        exact iF y (gIn q mq w0 e1 y my)⟩
    have s56 := s5.trans s6
    refine ⟨_, rfl, neN (outs_nice nG) (by decide) (.lst (.of hR2) (dp_outs hO2)) (.lst (.of (s56 _ _ hus)) (dp_outs (outs_same hP s56))) ⟨false, rfl, iteF ?_⟩⟩
    have s16 := s15.trans s6
    have s26 := s25.trans s6
    clear hP hO hO2 hus hR hR2 hDU
    -- the best stack
    refine ⟨_, rfl, L, es, sss.map effM, rfl, Same.seq s16 hL, evs (Paired.mapP hEs fun _ _ q => q.same s16), oEv, by omega, by omega, fun t b H7 s7 ht hb => ?_⟩
    refine ⟨t, _, rfl, ht, rfl, _, _, rfl, _, _, rfl, rfl, ?_⟩
    have s17 := s16.trans s7
    have s27 := s26.trans s7
    refine ⟨_, rfl, DD, gs, (sss.map (ledW f)).map effM, rfl, .of (s27 _ _ hgs1), evF (Paired.mapP hGs fun _ _ q => q.same s27), oFv, by omega, by omega, fun t2 b2 H8 s8 ht2 hb2 => ?_⟩
    have s18 := s17.trans s8
    have bk := best_ok oEv
    have bi := best_in inE
    refine ⟨_, rfl, _, rfl, _, rfl, .ref b, nd, S, f, some (bestM (sss.map effM)), rfl, hn.same s18, ⟨b, rfl, Same.tup s8 hb⟩, fun w e => (by cases e; exact bi), fun w e => (by cases e; exact bk.2), fun v9 H9 s9 hv9 => ⟨by show 2 ≤ sizeLine; decide, fun T hT => ?_⟩⟩
    obtain ⟨a9, rfl, h9⟩ := hv9
    have sT := Same.new (o := .tup [.int (lgM (sss.map effM) (bestM (sss.map effM)) : Nat), .ref a9]) hT
    have s9T := s9.trans sT
    rw [eF, best_led mo inE, lg_led mo.inj inE bi] at ht2
    rw [eF, best_led mo inE] at hb2
    have lb := lg_small (sss.map effM) (bestM (sss.map effM)) (by rw [List.length_map]; omega)
    generalize bestM (sss.map effM) = bm at *
    refine eqN (d := .tuple [.int (lgM (sss.map effM) bm : Nat), .tuple ((bm.map f).map .str)]) (k := 2) (B := 100000) ?_ (by decide) (.tup (Same.tup s9T ht2) (.cons (.int _) (.cons (.tup (Same.tup s9T hb2) (dp_strs _)) .nil))) (.tup (.of upd_same) (.cons (.int _) (.cons (.tup (Same.tup sT h9) (dp_strs _)) .nil))) (k _ (s18.trans s9T))
    refine (nice_tuple (k := 1) (B := 9000) (ds := [iDn (lgM (sss.map effM) bm), .tuple ((bm.map f).map .str)]) fun d m => ?_).mono (Nat.le_refl _) (by show 2 * 9001 ≤ 100000; decide)
    rcases List.mem_cons.mp m with e | m
    · rw [e]
      exact (nice_n (by omega)).mono (by decide) (by decide)
    · rw [List.mem_singleton.mp m]
      refine (nice_tuple (nice_strs (zs := bm.map f) fun z m => ?_)).mono (by decide) (by rw [List.length_map, List.length_map]; have := bk.2; omega)
      obtain ⟨q, mq, rfl⟩ := List.mem_map.mp m
      exact iF q (bi q mq)
end
end SE
namespace SE
open PySem PySem.Spec PyProof.Rows L2
section
variable {P : Program} {w : World} {K : PySem.W.Frag} {mg : Str → Option Value} {base : Heap} {C : Addr}
def LimS (lim : Option Int) : Prop := ∀ L, lim = some L → 0 ≤ L ∧ L ≤ 100
theorem LimS.ok {lim : Option Int} (h : LimS lim) : LimOk lim := fun L e => by have := h L e; omega
theorem difL_ok {lim : Option Int} {o1 o2 : Eff} (h1 : EfOk o1) (h2 : EfOk o2) (hl : LimS lim) : ∀ w, difM lim o1 o2 = some w → (∀ z ∈ w, Item z) ∧ w.length ≤ 300 := fun w e => by
  have fs : ∀ {o : Eff}, EfOk o → ∀ x, fsM lim o = some x → (∀ z ∈ x, Item z) ∧ x.length ≤ 100 := fun {o} ho x q => by
    cases o with
    | none => cases q
    | some A =>
      obtain ⟨xs, ys, p⟩ := A
      obtain ⟨ex, _⟩ := fs_some q
      have h2 : xs.length + ys.length ≤ 100 := (ho.sm _ rfl).2
      rw [ex]
      exact ⟨ho.ok.1, by omega⟩
  unfold difM at e
  cases e1 : fsM lim o1 with
  | none =>
    rw [e1] at e
    cases e2 : fsM lim o2 with
    | none => rw [e2] at e; cases e
    | some x2 =>
      rw [e2] at e
      have e : some x2 = some w := e
      cases e
      exact ⟨(fs h2 _ e2).1, by have := (fs h2 _ e2).2; omega⟩
  | some x1 =>
    rw [e1] at e
    cases e2 : fsM lim o2 with
    | none =>
      rw [e2] at e
      have e : some x1 = some w := e
      cases e
      exact ⟨(fs h1 _ e1).1, by have := (fs h1 _ e1).2; omega⟩
    | some x2 =>
      rw [e2] at e
      cases o1 with
      | none => cases e1
      | some A =>
        cases o2 with
        | none => cases e2
        | some B =>
          obtain ⟨xs, ys, p⟩ := A
          obtain ⟨vs, ws, q⟩ := B
          have e : (if x1 = x2 ∧ ys = ws then beyM lim x1 p q else some (if ltW x2 x1 = true then x2 else x1)) = some w := e
          split at e
          · unfold beyM at e
            cases lim with
            | none => cases e
            | some L =>
              dsimp only at e
              split at e
              · cases e
              · have e := Option.some.inj e
                obtain ⟨a, b⟩ := fs h1 _ e1
                have hL := hl L rfl
                have p0 : 0 ≤ p := h1.ok.2.2.2.2.1
                have m0 : 0 ≤ mxI p q := by
                  unfold mxI
                  split <;> omega
                rw [← e]
                refine ⟨fun z m => (List.mem_append.mp m).elim (a z) fun m => by rw [List.eq_of_mem_replicate m]; exact ⟨by decide +kernel, by decide +kernel, by decide +kernel⟩, ?_⟩
                rw [List.length_append, List.length_replicate]
                omega
          · cases Option.some.inj e
            split
            · exact ⟨(fs h2 _ e2).1, by have := (fs h2 _ e2).2; omega⟩
            · exact ⟨(fs h1 _ e1).1, by have := (fs h1 _ e1).2; omega⟩
theorem ap_ok {lim : Option Int} {o : Eff} {st : List Str} (h : EffOk o) (is : ∀ z ∈ st, Item z) (ls : st.length ≤ 1000) : OWOk (apM lim o st) := fun v e => by
  cases o with
  | none => cases e
  | some A =>
    obtain ⟨xs, ys, p⟩ := A
    obtain ⟨i1, i2, l1, l2, _⟩ := h
    rw [apM_some] at e
    split at e
    · cases e
    · split at e
      · cases e
        refine ⟨fun z m => (List.mem_append.mp m).elim (i2 z) fun m => is z (List.mem_of_mem_drop m), ?_⟩
        rw [List.length_append, List.length_drop]
        omega
      · cases e
theorem ow_len {H : Hp} {v : V} {r : Res} (h : OW K H v r) : (v = .non ∧ r = none) ∨ ∃ a w, v = .ref a ∧ r = some w ∧ SqT K H a (w.map V.str) := by
  cases r with
  | none => exact .inl ⟨h, rfl⟩
  | some w =>
    obtain ⟨a, e, q⟩ := h
    exact .inr ⟨a, w, e, rfl, q⟩
/-! ### _law_limits_right -/
def spLr (K : PySem.W.Frag) (C : Addr) : Sp := fun vs H Q _ => ∃ (e1 e2 FL g1 g2 : Addr) (S : List Str) (f : Str → Str) (ss1 ss2 : List Stp) (lim : Option Int), vs = [.ref e1, .ref e2, .ref FL, limV lim] ∧ InjS S f ∧ (∀ z ∈ S, Item z) ∧ (∀ z ∈ S, Item (f z)) ∧ SqL K H FL [.ref g1, .ref g2] ∧ SW S ss1 ∧ SW S ss2 ∧
  EffV K C H e1 (effM ss1) ∧ EffV K C H e2 (effM ss2) ∧ EffV K C H g1 (effM (ledW f ss1)) ∧ EffV K C H g2 (effM (ledW f ss2)) ∧ LimS lim ∧ ∀ H', Same H H' → Q (.bl true) H'
abbrev nLr : List Str := ["_law_one", "_law_other", "_law_far", "_law_bound", "_law_stack", "_law_called"]
abbrev pLr : List Str := ["_law_one", "_law_other", "_law_far", "_law_bound"]
theorem scLr : FnScope nLr pLr (defScope sLawLimitsRight) := ⟨rfl, rfl, rfl, by decide +kernel, rfl, by decide +kernel, by decide +kernel⟩
theorem has_lr (D : Def K mg "_law_limits_right" sLawLimitsRight) (T : EC K mg C) (B : Blt mg) (GD : KHas P w K mg base CX0 "difference" sDifference 7 (spDf K C)) (AP : ApplyP P w K mg base C) : Has P w K mg base "_law_limits_right" 8 pLr [] (spLr K C) := by
  obtain ⟨FdD, fdD, FD, kbD, mD, kpD⟩ := GD.kb (fun D doc pm an cv ct us ws h1 h2 => match us, ws, h1, h2 with | [_, _], [_], _, _ => rfl)
  obtain ⟨fA, fdA, mA, FA, FDA⟩ := AP
  obtain ⟨mvA, kbA⟩ := kb_some (ps := pApp) FDA 2 ["limit"] [] (fun us _ ws => us ++ ws) (by simp) (fun q h => (by cases h)) (fun r1 _ r3 => r1.append r3) (fun D doc pm an cv ct us mv ws h1 h2 h3 => match us, mv, ws, h1, h2, h3 with | [_, _], [], [_], _, _, _ => rfl)
  refine has_of D scLr (fun _ _ _ _ _ _ us hl => match us, hl with | [_, _, _, _], _ => rfl) (fun xs H Q E h => ?_) (fun fx cv A out s H xs Q E hr h => ?_)
  · obtain ⟨e1, e2, FL, g1, g2, S, f, ss1, ss2, lim, rfl, _⟩ := h
    rfl
  · obtain ⟨e1, e2, FL, g1, g2, S, f, ss1, ss2, lim, rfl, ij, iS, iF, hF, w1, w2, he1, he2, hg1, hg2, ll, k⟩ := h
    have hr5 : Room 5 _ := hr.mono (by decide)
    refine ⟨_, (pss_cons (ps_par (i := 4) (j := 5) (by rfl) scLr.nd rfl rfl (by decide) rfl rfl (pa_cons (pe_kwS (ex := fun _ => E0) FD hr mD kpD kbD (fun σ => pass0At) (pa_cons (pv 0) (pa_cons (pv 1) pa_nil)) (pk_cons (pv 3) pk_nil)) (pa_cons (pe_kwS (ex := fun _ => E0) FD hr mD kpD kbD (fun σ => pass0At) (pa_cons (pe_ix ix_list (pv 2) pe_int (fun _ _ => rfl)) (pa_cons (pe_ix ix_list (pv 2) pe_int (fun _ _ => rfl)) pa_nil)) (pk_cons (pv 3) pk_nil)) pa_nil)) (by rfl))
      (pss_cons (ps_if (PW.pt (pw_or (pt_cmpR op_isN (pv 4) pe_non (nomark _)) (pw_or1 (pt_cmpR op_isN (pv 5) pe_non (nomark _))))) (pss_one (ps_ret (pe_and (pe_cmpR op_isN (pv 4) pe_non (nomark _)) (pe_one (pe_cmpR op_isN (pv 5) pe_non (nomark _)))))) pss_nil)
      (pss_cons (ps_if (pt_cmpR op_ne (pe_callB call_len_seq (by rfl) B.len PySem.boot_len (pa_cons (pv 4) pa_nil)) (pe_callB call_len_seq (by rfl) B.len PySem.boot_len (pa_cons (pv 5) pa_nil)) (nomark _)) (pss_one (ps_ret pe_bl)) pss_nil)
      (pss_one (ps_ret (pe_cmpR (op_neD hr.units) (pe_methS (ex := fun _ => E0) (pe_ix ix_list (pv 2) pe_int (fun _ _ => rfl)) T.cl mA FA hr5 kbA (fun σ => pass0At) (pa_cons (pv 5) pa_nil) (pk_cons (pv 3) pk_nil)) (pe_methS (ex := fun _ => E0) (pe_ix ix_list (pv 2) pe_int (fun _ _ => rfl)) T.cl mA FA hr5 kbA (fun σ => pass0At) (pa_cons (pv 5) pa_nil) (pk_cons (pv 3) pk_nil)) (nomark _))))))), ?_⟩
    have p1 := w1.ok iS
    have p2 := w2.ok iS
    have q1 := w1.okF iF
    have q2 := w2.okF iF
    have dl := dif_len ij lim (eff_in w1.mem) (eff_in w2.mem)
    rw [← eff_led ij w1.mem, ← eff_led ij w2.mem] at dl
    refine ⟨_, rfl, _, rfl, _, rfl, rfl, rfl, e1, e2, _, _, lim, rfl, he1, he2, p1.ok, p2.ok, ll.ok, fun va H1 s1 hva => ?_⟩
    refine ⟨_, rfl, FL, _, 0, _, rfl, rfl, Same.seq s1 hF, atI_nat (j := 0) rfl, _, rfl, FL, _, 1, _, rfl, rfl, Same.seq s1 hF, atI_nat (j := 1) rfl, _, rfl, rfl, rfl, g1, g2, _, _, lim, rfl, hg1.same s1, hg2.same s1, q1.ok, q2.ok, ll.ok, fun vb H2 s2 hvb => ⟨_, _, rfl, ?_⟩⟩
    have s12 := s1.trans s2
    have hva := hva.same s2
    have dk := difL_ok q1 q2 ll
    generalize hr1 : difM lim (effM ss1) (effM ss2) = r1 at hva dl
    generalize hr2 : difM lim (effM (ledW f ss1)) (effM (ledW f ss2)) = r2 at hvb dl dk
    rcases ow_len hva with ⟨rfl, rfl⟩ | ⟨a, wa, rfl, rfl, ha⟩
    · rcases ow_len hvb with ⟨rfl, rfl⟩ | ⟨b, wb, rfl, rfl, hb⟩
      · refine ⟨_, rfl, rfl, true, rfl, iteT ?_⟩
        exact ⟨_, rfl, rfl, true, rfl, iteT ⟨_, rfl, rfl, k _ s12⟩⟩
      · cases dl
    rcases ow_len hvb with ⟨rfl, rfl⟩ | ⟨b, wb, rfl, rfl, hb⟩
    · cases dl
    have lw : wb.length = wa.length := Option.some.inj dl
    obtain ⟨ib, lb⟩ := dk wb rfl
    refine ⟨_, rfl, rfl, false, rfl, iteF ?_⟩
    refine ⟨_, rfl, rfl, false, rfl, iteF ?_⟩
    refine ⟨_, rfl, a, _, rfl, .inr ha, _, rfl, b, _, rfl, .inr hb, ?_⟩
    rw [List.length_map, List.length_map, lw]
    refine ⟨rfl, false, congrArg V.bl (by rw [decide_eq_true rfl]; rfl), iteF ?_⟩
    have hF2 := Same.seq s12 hF
    obtain ⟨d1, f1, i1, l1, _⟩ := eff_lk (hg1.same s12)
    refine ⟨_, rfl, FL, _, 0, _, rfl, rfl, hF2, atI_nat (j := 0) rfl, g1, d1, f1, rfl, i1, l1, _, rfl, _, rfl, rfl, rfl, g1, b, _, wb, lim, rfl, hg1.same s12, q1.ok, hb, ib, by omega, ll.ok, fun v1 H3 s3 hv1 => ?_⟩
    have s13 := s12.trans s3
    obtain ⟨d2, f2, i2, l2, _⟩ := eff_lk (hg2.same s13)
    refine ⟨_, rfl, FL, _, 1, _, rfl, rfl, Same.seq s13 hF, atI_nat (j := 1) rfl, g2, d2, f2, rfl, i2, l2, _, rfl, _, rfl, rfl, rfl, g2, b, _, wb, lim, rfl, hg2.same s13, q2.ok, Same.tup s3 hb, ib, by omega, ll.ok, fun v2 H4 s4 hv2 => ?_⟩
    have o1 := ap_ok (lim := lim) (st := wb) q1.ok ib (by omega)
    have o2 := ap_ok (lim := lim) (st := wb) q2.ok ib (by omega)
    refine ⟨_, _, (hv1.same s4).dp, hv2.dp, o1.shaped, o2.shaped, ?_⟩
    rw [oD_eqv, decide_eq_false (dif_sound hr2)]
    exact k _ (s13.trans s4)
end
end SE
/-! list(d.values()). -/
namespace SE
open PySem PySem.Spec PyProof.Rows L2
def tListVals (te : TE) : TE := fun σ H Q => te σ H fun x H1 => ∃ (d : Addr) (kvs : List (Key × V)), x = .ref d ∧ H1 d = some (.dK kvs) ∧ ∀ p, H1 p = none → Q (.ref p) (upd H1 p (.lst (kvs.map Prod.snd)))
theorem vals_of_kv : ∀ {kvs : List (Key × V)} {vs : List (Key × Value)}, KV kvs vs → Vals (kvs.map Prod.snd) (vs.map (·.2))
  | _, _, .nil => .nil
  | _, _, .cons h t => .cons h.2 (vals_of_kv t)
section
variable {X : Cx} {e : Expr} {te : TE} {p apos cpos pos : Pos}
theorem pe_listVals (hc : X.calm = true) (he : PE X e te) (hg : Gl X "list") (hm : X.mg "list" = none) (hv : bootBuiltins "list" = some (.type "list")) (hbase : attributeBase e "values" X.env (eval e X.env) = eval e X.env := by rfl) (hline : (apos.endLine == cpos.line) = true := by rfl)
    (hs : starEach [.Call (.Attribute e "values" apos) [] [] cpos] X.env = (false, eval (.Call (.Attribute e "values" apos) [] [] cpos) X.env) :: starEach [] X.env := by rfl) :
    PE X (.Call (.Name "list" p) [.Call (.Attribute e "values" apos) [] [] cpos] [] pos) (tListVals te) := by
  refine ⟨fun pins s σ H Q I hq => ?_⟩
  refine wpAny_Call_Name_kw (ld_blt I hg hm hv ?_)
  refine PyProof.Rows.callWith_type1 ?_ hs rfl
  rw [hs]
  show wpAny _ _ (spliced ((false, eval (.Call (.Attribute e "values" apos) [] [] cpos) X.env) :: backTo pos (starEach [] X.env))) _ _ s
  refine Calls.spliced_cons ?_
  refine wpAny_Call_method (T := "dict") (id := "dict.values") hbase rfl hline F.plainAttrs_dict F.slot_dict_values F.type_dict_values (thn (he.run pins s σ H _ I hq) fun u s1 ⟨x, H1, I1, rx, d, kvs, ex, hd, q⟩ => ?_)
  subst ex
  obtain rfl : u = Value.ref d := rx
  obtain ⟨hz, hs0, vs, kv, hdo⟩ := I1.hok d _ hd
  obtain ⟨ep, hat⟩ := hdo.dictAt
  have lk : kvs.length = vs.length := Paired.length kv
  have I2 : Inv X pins σ H1 { s1 with heap := s1.heap.push { cls := .type "dict_values", data := .fields #[.ref d] } } := I1.kept (t' := s1.toks) fun b ob q => Heap.get?_push_of_some _ q
  refine ⟨hdo.typeIs, hdo.mapOf.noDict, ?_⟩
  show wpAny _ _ (callWith cpos (.builtin "dict.values") [.ref d] [] []) _ X.xe s1
  refine method_meetsIn F.slot_dict_values F.entry_dict_values rfl (PySem.evalArgs_none ⟨rfl, hdo.typeIs, F.args_dict_values_1 _, _, meets_dict_values (mixKind X.prog X.w) d hs0, ⟨vs, hdo⟩, ?_⟩)
  refine Calls.spliced_nil ?_
  refine PySem.W.kdl_call (PySem.W.kdl_values (knd := mixKind X.prog X.w) (kvs := vs) (ep := ep)) (I1.ok.hd hc) ⟨⟨_, Heap.get?_push_size _ rfl, rfl, rfl⟩, hat.push _⟩ (by omega) fun h' tk acc c' hk hD hacc => ?_
  have hv : acc.toList = vs.map (·.2) := PySem.W.kdl_vals_eq acc.toList (by rw [Array.length_toList]; exact hacc.1) fun j v e => hacc.2 j v (by rw [← Array.getElem?_toList]; exact e)
  refine ⟨.ref _, upd H1 _ (.lst (kvs.map Prod.snd)), I2.laid (t' := tk) hk (Nat.le_refl _) (show ObjOk X.prog X.w _ _ _ (.lst (kvs.map Prod.snd)) from ⟨by rw [List.length_map]; exact hz, acc.toList, c', by rw [hv]; exact vals_of_kv kv, by rw [Array.toArray_toList]; exact hD⟩), rfl, q _ (I2.hok.fresh (Nat.le_refl _))⟩
end
end SE
/-! sorted(d.values()), the values texts. -/
namespace SE
open PySem PySem.Spec PyProof.Rows L2
def tSortVals (te : TE) : TE := fun σ H Q => te σ H fun x H1 => ∃ (d : Addr) (kvs : List (Key × V)) (ks : List Str), x = .ref d ∧ H1 d = some (.dK kvs) ∧ kvs.map Prod.snd = ks.map V.str ∧ ks.length < 64 ∧ ∀ ys p, ys.Perm ks → sortedS ys = true → H1 p = none → Q (.ref p) (upd H1 p (.lst (ys.map V.str)))
theorem strs_vals : ∀ {ks : List Str} {vs : List Value}, Vals (ks.map V.str) vs → StrsAre vs ks
  | [], _, h => by
    cases h
    exact .nil
  | k :: ks, _, h => by
    cases h with
    | cons h1 h2 =>
      obtain ⟨t, e⟩ := h1
      subst e
      exact .cons k t (strs_vals h2)
section
variable {X : Cx} {e : Expr} {te : TE} {p apos cpos pos : Pos}
theorem pe_sortVals (hc : X.calm = true) (he : PE X e te) (hg : Gl X "sorted") (hm : X.mg "sorted" = none) (hv : bootBuiltins "sorted" = some (.builtin "sorted")) (hbase : attributeBase e "values" X.env (eval e X.env) = eval e X.env := by rfl) (hline : (apos.endLine == cpos.line) = true := by rfl)
    (hs : starEach [.Call (.Attribute e "values" apos) [] [] cpos] X.env = (false, eval (.Call (.Attribute e "values" apos) [] [] cpos) X.env) :: starEach [] X.env := by rfl) :
    PE X (.Call (.Name "sorted" p) [.Call (.Attribute e "values" apos) [] [] cpos] [] pos) (tSortVals te) := by
  refine ⟨fun pins s σ H Q I hq => ?_⟩
  refine wpAny_Call_Name_kw (ld_blt I hg hm hv ?_)
  refine PyProof.Rows.callWith_builtin1 ?_ hs rfl
  rw [hs]
  show wpAny _ _ (spliced ((false, eval (.Call (.Attribute e "values" apos) [] [] cpos) X.env) :: backTo pos (starEach [] X.env))) _ _ s
  refine Calls.spliced_cons ?_
  refine wpAny_Call_method (T := "dict") (id := "dict.values") hbase rfl hline F.plainAttrs_dict F.slot_dict_values F.type_dict_values (thn (he.run pins s σ H _ I hq) fun u s1 ⟨x, H1, I1, rx, d, kvs, ks, ex, hd, hks, h64, q⟩ => ?_)
  subst ex
  obtain rfl : u = Value.ref d := rx
  obtain ⟨hz, hs0, vs, kv, hdo⟩ := I1.hok d _ hd
  obtain ⟨ep, hat⟩ := hdo.dictAt
  have lk : kvs.length = vs.length := Paired.length kv
  have I2 : Inv X pins σ H1 { s1 with heap := s1.heap.push { cls := .type "dict_values", data := .fields #[.ref d] } } := I1.kept (t' := s1.toks) fun b ob q => Heap.get?_push_of_some _ q
  refine ⟨hdo.typeIs, hdo.mapOf.noDict, ?_⟩
  show wpAny _ _ (callWith cpos (.builtin "dict.values") [.ref d] [] []) _ X.xe s1
  refine method_meetsIn F.slot_dict_values F.entry_dict_values rfl (PySem.evalArgs_none ⟨rfl, hdo.typeIs, F.args_dict_values_1 _, _, meets_dict_values (mixKind X.prog X.w) d hs0, ⟨vs, hdo⟩, ?_⟩)
  refine Calls.spliced_nil ?_
  have hl : vs.length = ks.length := by
    have e := congrArg List.length hks
    rw [List.length_map, List.length_map] at e
    omega
  refine Calls.call_function_entry PyProof.Rows.kind_sorted PyProof.Rows.plain_sorted PyProof.Rows.entry_sorted (PyProof.Rows.args_sorted1 _) ?_
  unfold Builtin.«sorted»
  refine wpAny_bind (m := checkCount "sorted" 1 1 _) (wpAny_pure ?_)
  refine wpAny_bind (PySem.W.kdu_collect (A := X.A.in1) (PySem.W.kdl_values (knd := mixKind X.prog X.w) (kvs := vs) (ep := ep)) (I1.ok.hd hc) ⟨⟨_, Heap.get?_push_size _ rfl, rfl, rfl⟩, hat.push _⟩ (by rw [hl, sizeLine_eq]; omega) fun h' tk acc hk hacc => ?_)
  have hv2 : acc.toList = vs.map (·.2) := PySem.W.kdl_vals_eq acc.toList (by rw [Array.length_toList]; exact hacc.1) fun j v e => hacc.2 j v (by rw [← Array.getElem?_toList]; exact e)
  have hal : acc.toList.length = ks.length := by rw [hv2, List.length_map, hl]
  have hS : StrsAre acc.toList ks := strs_vals (by rw [hv2, ← hks]; exact vals_of_kv kv)
  have I3 : Inv X pins σ H1 { s1 with heap := h', toks := tk } := I2.kept hk
  refine wpAny_bind (wpAny_newList ?_ (by rw [hal, sizeLine_eq]; omega))
  have hoL : (h'.push (seqObj "list" acc.toList.toArray 0)).get? h'.objs.size = some (seqObj "list" acc.toList.toArray 0) := Heap.get?_push_size _ rfl
  show wpAny _ _ _ _ _ { s1 with heap := h'.push (seqObj "list" acc.toList.toArray 0), toks := tk }
  refine wpAny_bind (wpAny_holding (wpAny_call_entry PyProof.Rows.slot_list_sort ⟨_, hoL, rfl⟩ PyProof.Rows.entry_list_sort
    (list_sort_treeK strKind_oneLt (s := { s1 with heap := h'.push (seqObj "list" acc.toList.toArray 0), toks := tk }) hoL hS.keysOf (fun v₁ v₂ rest e => keyKind_strs (by rw [← e]; exact hS)) (by rw [hal]; exact h64) fun st' hp hs => ⟨_, rfl, ?_⟩)
    (PyProof.Rows.args_list_sort _)))
  obtain ⟨ys, g1, g2, g3⟩ := sorted_out_str hS hp hs
  obtain ⟨e', he'⟩ := PyProof.Rows.sortedHeap_at (vs := acc.toList) (out := (arrOf st').map (·.2)) hoL
  have hlen : (ys.map V.str).length ≤ sizeLine := by
    rw [List.length_map, g2.length_eq]
    exact Nat.le_trans (Nat.le_of_lt h64) (by decide)
  refine wpAny_pure ⟨_, rfl, .ref h'.objs.size, upd H1 h'.objs.size (.lst (ys.map V.str)), I3.laid (t' := tk) (fun b u e => ?_) (Nat.le_refl _)
    (show ObjOk X.prog X.w _ _ _ (.lst (ys.map V.str)) from ⟨hlen, ((arrOf st').map (·.2)).toList, e', vals_of_strs g1, by rw [Array.toArray_toList]; exact he'⟩), rfl, q ys _ g2 g3 (I3.hok.fresh (Nat.le_refl _))⟩
  have hb : b < h'.objs.size := Heap.lt_size e
  rw [PyProof.Rows.sortedHeap_old (Nat.ne_of_lt hb) (by rw [size_push']; exact Nat.lt_succ_of_lt hb)]
  exact Heap.get?_push_of_some _ e
end
end SE
namespace SE
open PySem PySem.Spec PyProof.Rows L2
open PySem.W (alike alikeAll dataLt dataLe AllAlike Sortable)
section
variable {P : Program} {w : World} {K : PySem.W.Frag} {mg : Str → Option Value} {base : Heap} {C : Addr}
/-! ### draws beside effects and lists -/
theorem EffV.but {H H' : Hp} {p e : Addr} (pl : Pool H p) (b : But p H H') : ∀ {o : Eff}, EffV K C H e o → EffV K C H' e o
  | none, h => by
    obtain ⟨dx, h1⟩ := NevAt.ex h
    exact ⟨dx, b _ _ (fun q => by obtain ⟨m, s, z, _⟩ := pl.ex; rw [q, z] at h1; cases h1) h1⟩
  | some (xs, ys, p'), h => by
    obtain ⟨dx, u, v, h1, h2, h3⟩ := EffAt.ex h
    exact ⟨dx, u, v, b _ _ (fun q => by obtain ⟨m, s, z, _⟩ := pl.ex; rw [q, z] at h1; cases h1) h1, SqT.same3 h2 pl b, SqT.same3 h3 pl b⟩
/-- the dict from S to others, written out -/
structure NmF (H : Hp) (nd : Addr) (S : List Str) (f : Str → Str) : Prop where
  at_ : H nd = some (.dK (S.map fun z => ((Sum.inr z : Key), V.str (f z))))
  nd : S.Nodup
theorem NmF.same {H H' : Hp} {nd : Addr} {S : List Str} {f : Str → Str} (h : NmF H nd S f) (s : Same H H') : NmF H' nd S f := ⟨s _ _ h.at_, h.nd⟩
theorem NmF.but {H H' : Hp} {nd p : Addr} {S : List Str} {f : Str → Str} (h : NmF H nd S f) (pl : Pool H p) (b : But p H H') : NmF H' nd S f := ⟨b _ _ (fun q => by obtain ⟨m, s, z, _⟩ := pl.ex; have e := h.at_; rw [q, z] at e; cases e) h.at_, h.nd⟩
theorem NmF.nm {H : Hp} {nd : Addr} {S : List Str} {f : Str → Str} (h : NmF H nd S f) : NmAt H nd S f := by
  refine ⟨_, h.at_, fun z m => ?_⟩
  obtain ⟨j, hj, ej⟩ := List.mem_iff_getElem.mp m
  refine valV_of (j := j) (by rw [List.getElem?_map, List.getElem?_eq_getElem hj, ej]; rfl) ?_
  rw [List.map_map]
  exact List.Pairwise.map _ (fun a b q c => q (Sum.inr.inj c)) h.nd
/-- what stands beside the law's draws -/
structure X9 (K : PySem.W.Frag) (C : Addr) (S : List Str) (f : Str → Str) (p L nd il FD : Addr) (es gs : List Addr) (sss : List (List Stp)) (H : Hp) : Prop where
  pl : Pool H p
  hL : H L = some (.lst (es.map V.ref))
  ev : Paired (fun e ss => EffV K C H e (effM ss)) es sss
  nm : NmF H nd S f
  hi : H il = some (.lst (S.map V.str))
  hF : H FD = some (.lst (gs.map V.ref))
  gv : Paired (fun g ss => EffV K C H g (effM (ledW f ss))) gs sss
section
variable {S : List Str} {f : Str → Str} {p L nd il FD : Addr} {es gs : List Addr} {sss : List (List Stp)} {H H' : Hp}
theorem X9.same (h : X9 K C S f p L nd il FD es gs sss H) (s : Same H H') : X9 K C S f p L nd il FD es gs sss H' := ⟨h.pl.same s, s _ _ h.hL, Paired.mapP h.ev fun _ _ q => q.same s, h.nm.same s, s _ _ h.hi, s _ _ h.hF, Paired.mapP h.gv fun _ _ q => q.same s⟩
theorem X9.but (h : X9 K C S f p L nd il FD es gs sss H) (b : But p H H') (pl : Pool H' p) (n1 : L ≠ p) (n2 : il ≠ p) (n3 : FD ≠ p) : X9 K C S f p L nd il FD es gs sss H' := ⟨pl, b _ _ n1 h.hL, Paired.mapP h.ev fun _ _ q => q.but h.pl b, h.nm.but h.pl b, b _ _ n2 h.hi, b _ _ n3 h.hF, Paired.mapP h.gv fun _ _ q => q.but h.pl b⟩
end
theorem ap_free (o : Eff) (st : List Str) : apM none o st = replM o st := by
  cases o with
  | none => rfl
  | some A =>
    obtain ⟨xs, ys, p⟩ := A
    rw [ap_repl]
    rfl
theorem ApplyP.ds (h : ApplyP P w K mg base C) : ∃ f fd ds, Meth K C "apply" f ∧ FnOk P w K mg base CX0 5 f fd pApp (spAp9 K C) ∧ Vals [V.non] ds ∧ Binds K fd pApp ds := by
  obtain ⟨f, fd, M, F, FD⟩ := h
  obtain ⟨ds, hd, hb⟩ := FD.binds0 (ps := pApp) 2 (by simp) rfl (fun D doc pm an cv ct us ks h1 h2 => match us, ks, h1, h2 with | [_, _], [_], _, _ => ⟨_, _, _, _, _, _, rfl, rfl, rfl⟩)
  exact ⟨f, fd, ds, M, F, hd, hb⟩
/-! ### lists of places, sorted -/
theorem nats_same : ∀ l : List Nat, natsD l = .list (l.map iDn) := fun l => rfl
theorem placesV {H : Hp} {ls : List Addr} {szs : List (List Nat)} (h : Paired (fun l s => H l = some (.lst (s.map nV))) ls szs) : ∀ (i : Nat) x, (ls.map V.ref)[i]? = some x → Dp K H x (natI szs i) := fun i x hx => by
  rw [List.getElem?_map] at hx
  cases hq : ls[i]? with
  | none => rw [hq] at hx; cases hx
  | some l =>
    rw [hq] at hx
    cases hx
    obtain ⟨s, hs, q⟩ := paired_at h hq
    unfold natI
    rw [List.getD_eq_getElem?_getD, hs]
    exact .lst (.of q) (dp_ns _)
theorem dpall_of {H : Hp} : ∀ {vs : List V} {ds : List PyData}, vs.length = ds.length → (∀ (i : Nat) x d, vs[i]? = some x → ds[i]? = some d → Dp K H x d) → DpAll K H vs ds
  | [], [], _, _ => .nil
  | [], _ :: _, h, _ => by cases h
  | _ :: _, [], h, _ => by cases h
  | v :: vs, d :: ds, h, q => .cons (q 0 v d rfl rfl) (dpall_of (by simpa using h) fun i x e h1 h2 => q (i + 1) x e h1 h2)
theorem sortV {H : Hp} {ls : List Addr} {szs : List (List Nat)} (h : Paired (fun l s => H l = some (.lst (s.map nV))) ls szs) : DpAll K H (sortedI (ls.map V.ref) (natI szs)) ((sortN szs).map natsD) := by
  have hl := paired_len h
  unfold sortedI sortN
  rw [List.length_map, hl, List.map_map]
  refine dpall_of (by rw [List.length_map, List.length_map]) fun i x d hx hd => ?_
  rw [List.getElem?_map] at hx hd
  cases hq : ((List.range szs.length).mergeSort (dataLe false (natI szs)))[i]? with
  | none => rw [hq] at hx; cases hx
  | some j =>
    rw [hq] at hx hd
    cases hx
    cases hd
    have mj := List.mem_mergeSort.mp (List.mem_of_getElem? hq)
    have jl := List.mem_range.mp mj
    have jl2 : j < ls.length := by omega
    refine placesV h j _ ?_
    show _ = some ((ls.map V.ref).getD j V.non)
    rw [List.getD_eq_getElem?_getD, List.getElem?_map, List.getElem?_eq_getElem jl2]
    rfl
theorem szs_nice {G : Grp} (h : OutOk G) {a : List (List Nat)} (pa : a.Perm (G.map (·.2))) : Nice 2 100000 (.list (a.map natsD)) := by
  refine (nice_list (k := 1) (B := 900) fun d m => ?_).mono (by decide) (by
    have := pa.length_eq
    rw [List.length_map] at this ⊢
    rw [this]
    have := h.l
    omega)
  obtain ⟨s, ms, rfl⟩ := List.mem_map.mp m
  obtain ⟨g, mg, rfl⟩ := List.mem_map.mp (pa.mem_iff.mp ms)
  obtain ⟨_, c2, c3⟩ := h.e g mg
  exact nice_ns c2 c3
theorem szs_sort {H : Hp} {D : Addr} {ls : List Addr} {szs : List (List Nat)} {Q : VK} (hD : H D = some (.lst (ls.map V.ref))) (h : Paired (fun l s => H l = some (.lst (s.map nV))) ls szs) (k : ∀ p, H p = none → Q (.ref p) (upd H p (.lst (sortedI (ls.map V.ref) (natI szs))))) : rSortD K [.ref D] H Q := by
  refine ⟨D, _, natI szs, rfl, .of hD, placesV h, AllAlike.of fun _ _ => nats_alike _ _, Sortable.others fun b => ⟨fun e => (by cases e), fun xs e => (by cases e)⟩, fun i _ => ?_, k⟩
  have : (natI szs i).depth ≤ 1 := by
    unfold natI natsD
    have : ∀ l : List Nat, PyData.depthAll (l.map fun (n : Nat) => PyData.int (n : Int)) = 0 := fun l => by
      induction l with
      | nil => simp [PyData.depthAll]
      | cons x r ih => simp [PyData.depthAll, PyData.depth, ih]
    simp [PyData.depth, this]
  omega
/-! ### numbers of shortest sequences -/
theorem ways_led {f : Str → Str} (xs ys : List Str) (p : Int) : waysM (xs.map f) (ys.map f) p = waysM xs ys p := by
  unfold waysM
  rw [List.length_map, List.length_map]
theorem many_led {S : List Str} {f : Str → Str} {xs ys ts : List Str} {p : Int} (hx : InW S xs) (hy : InW S ys) (pt : ts.Perm (S.map f)) : manyM (xs.map f) (ys.map f) p ts = manyM xs ys p S := by
  unfold manyM
  have a : ∀ z ∈ xs ++ ys, z ∈ S := fun z m => (List.mem_append.mp m).elim (hx z) (hy z)
  have b : ∀ z ∈ xs.map f ++ ys.map f, z ∈ ts := fun z m => by
    rw [← List.map_append] at m
    obtain ⟨y, my, rfl⟩ := List.mem_map.mp m
    exact pt.mem_iff.mpr (List.mem_map.mpr ⟨y, a y my, rfl⟩)
  have l : ts.length = S.length := by rw [pt.length_eq, List.length_map]
  rw [if_pos a, if_pos b, ways_led, l]
  unfold moreM
  rw [lp_led]
theorem nd_map {S : List Str} {f : Str → Str} (h : InjS S f) : ∀ {T : List Str}, T.Nodup → InW S T → (T.map f).Nodup
  | [], _, _ => .nil
  | z :: T, nd, hi => by
    obtain ⟨n1, n2⟩ := List.nodup_cons.mp nd
    rw [List.map_cons]
    refine List.nodup_cons.mpr ⟨fun m => ?_, nd_map h n2 fun y m => hi y (List.mem_cons_of_mem _ m)⟩
    obtain ⟨y, my, e⟩ := List.mem_map.mp m
    have := h y (hi y (List.mem_cons_of_mem _ my)) z (hi z List.mem_cons_self) e
    exact n1 (this ▸ my)
def smR (zs : List Str) : Eff → Int
  | some (xs, ys, p) => manyM xs ys p zs
  | none => (zs.length : Int) * ((zs.length : Int) - 1)
/-- shortest_many of an effect -/
theorem sm_eff9 {H : Hp} {Q : VK} {E : XK} {e a : Addr} {zs : List Str} {ss : List Stp} (he : EffV K C H e (effM ss)) (hI : ∀ s ∈ ss, Item s.2) (hl : ss.length ≤ 20) (hz : ILs K H a zs) {r : Int} (hr : r = smR zs (effM ss)) (k : ∀ H', Same H H' → Q (.int r) H') : spSm K C [.ref e, .ref a] H Q E := by
  refine ⟨e, a, zs, rfl, hz, ?_⟩
  cases q : effM ss with
  | none =>
    rw [q] at he hr
    refine .inr ⟨he, fun H' s' => ?_⟩
    rw [← show r = (zs.length : Int) * ((zs.length : Int) - 1) from hr]
    exact k H' s'
  | some A =>
    obtain ⟨h1, h2, h3⟩ := effM_ok hI q
    obtain ⟨xs, ys, p⟩ := A
    rw [q] at he hr
    have h2 : xs.length + ys.length ≤ ss.length := h2
    have h3 : p ≤ ss.length := h3
    have l0 : 0 ≤ lp xs ys := by unfold lp; split <;> omega
    refine .inl ⟨xs, ys, p, he, by omega, by omega, h1.lp, by omega, fun H' s' => ?_⟩
    rw [← show r = manyM xs ys p zs from hr]
    exact k H' s'
end
end SE
namespace SE
open PySem PySem.Spec PyProof.Rows L2
theorem cutF_two {α : Type} (f : α → V) (xs : List α) {i : Nat} {a b : α} (ha : xs[i]? = some a) (hb : xs[i + 1]? = some b) : cutV (xs.map f) (some (i : Int)) (some ((i : Int) + 2)) = [f a, f b] := by
  have l := (List.getElem?_eq_some_iff.mp hb).1
  unfold cutV
  rw [List.length_map, HT.sIx_nat, show ((i : Int) + 2) = ((i + 2 : Nat) : Int) by omega, HT.sIx_nat, ← List.map_drop, ← List.map_take]
  have e : (xs.drop (min i xs.length)).take (min (i + 2) xs.length - min i xs.length) = [a, b] := by
    rw [Nat.min_eq_left (by omega), Nat.min_eq_left (by omega), show i + 2 - i = 2 by omega]
    have e1 : xs.drop i = a :: b :: xs.drop (i + 2) := by
      have h1 := List.drop_eq_getElem_cons (l := xs) (i := i) (by omega)
      have h2 := List.drop_eq_getElem_cons (l := xs) (i := i + 1) (by omega)
      rw [h1, h2]
      rw [(List.getElem?_eq_some_iff.mp ha).2, (List.getElem?_eq_some_iff.mp hb).2]
    rw [e1]
    rfl
  rw [e]
  rfl
section
variable {P : Program} {w : World} {K : PySem.W.Frag} {mg : Str → Option Value} {base : Heap} {C : Addr}
theorem ObV.same' {H H' : Hp} {v : V} {b : Ob} (h : ObV K H v b) (s : Same H H') : ObV K H' v b := by
  obtain ⟨t, a, r, e, h1, h2, h3⟩ := h
  exact ⟨t, a, r, e, Same.tup s h1, Same.tup s h2, h3.same s⟩
theorem ObV.updL {H : Hp} {D : Addr} {ws : List V} {o : HO} {v : V} {b : Ob} (hD : H D = some (.lst ws)) (h : ObV K H v b) : ObV K (upd H D o) v b := by
  obtain ⟨t, a, r, e, h1, h2, h3⟩ := h
  exact ⟨t, a, r, e, tup_updL hD h1, tup_updL hD h2, h3.updL hD⟩
theorem but_same {p : Addr} {H H' : Hp} (s : Same H H') : But p H H' := fun c o _ h => s c o h
/-! ### _law_exchanged_right -/
def spEx (K : PySem.W.Frag) (C : Addr) : Sp := fun vs H Q _ => ∃ (p L il nd : Addr) (es : List Addr) (sss : List (List Stp)) (S : List Str) (f : Str → Str), vs = [.ref p, .ref L, .ref il, .ref nd] ∧ Pool H p ∧ L ≠ p ∧ il ≠ p ∧ H L = some (.lst (es.map V.ref)) ∧ Paired (fun e ss => EffV K C H e (effM ss)) es sss ∧ (∀ ss ∈ sss, SW S ss) ∧ 2 ≤ sss.length ∧ sss.length ≤ 20 ∧
  NmF H nd S f ∧ InjS S f ∧ (∀ z ∈ S, Item z) ∧ (∀ z ∈ S, Item (f z)) ∧ H il = some (.lst (S.map V.str)) ∧ S ≠ [] ∧ S.length ≤ 50 ∧ ∀ H', But p H H' → Pool H' p → Q (.bl true) H'
abbrev nEx : List Str := ["_law_pool_here", "_law_every", "_law_items_here", "_law_names", "_law_far", "_law_word_here", "_law_seen", "_law_called", "_law_sizes", "_law_at", "_law_effect", "_law_stack", "_law_result", "_law_places"]
abbrev pEx : List Str := ["_law_pool_here", "_law_every", "_law_items_here", "_law_names"]
theorem scEx : FnScope nEx pEx (defScope sLawExchangedRight) := ⟨rfl, rfl, rfl, by decide +kernel, rfl, by decide +kernel, by decide +kernel⟩
theorem has_ex (D : Def K mg "_law_exchanged_right" sLawExchangedRight) (T : EC K mg C) (B : Blt mg) (AP : ApplyP P w K mg base C) (GL : Has P w K mg base "_law_effect_led" 7 ["_law_effect", "_law_names"] [] (spEl K C)) (GW : Has P w K mg base "_law_word_led" 1 ["_law_word_here", "_law_names"] [] (spWl K)) (GWd : Has P w K mg base "_law_word" 2 ["_law_pool_here", "_law_items_here", "_law_most"] [] spWord)
    (GPo : Has P w K mg base "possible" 5 ["candidates", "observations"] [] (spPoss K C)) (GB : Has P w K mg base "best_stack" 6 ["candidates"] [] (spBest K C)) (GO : Has P w K mg base "outcomes" 5 ["candidates", "stack"] [] (spOut w K C)) (GLr : Has P w K mg base "_law_limits_right" 8 pLr [] (spLr K C))
    (GT : Has P w K mg base "_law_take" 1 ["_law_pool_here", "_law_many"] [] spTake) (GSm : Has P w K mg base "shortest_many" 4 ["effect", "items"] [] (spSm K C)) (mr : mg "range" = none) (ms : mg "sorted" = none) : Has P w K mg base "_law_exchanged_right" 9 pEx [] (spEx K C) := by
  obtain ⟨fA, fdA, dsA, mA, FA, hdA, hbA⟩ := AP.ds
  refine has_of D scEx (fun _ _ _ _ _ _ us hl => match us, hl with | [_, _, _, _], _ => rfl) (fun xs H Q E h => ?_) (fun fx cv A out s H xs Q E hr h => ?_)
  · obtain ⟨p, L, il, nd, es, sss, S, f, rfl, _⟩ := h
    rfl
  · obtain ⟨p, L, il, nd, es, sss, S, f, rfl, pl, Lp, ilp, hL, hEs, hSs, l2, l20, hnF, ij, iS, iF, hil, S0, S50, k⟩ := h
    have hr1 : Room 1 _ := hr.mono (by decide)
    have hr2 : Room 2 _ := hr.mono (by decide)
    have hr4 : Room 4 _ := hr.mono (by decide)
    have hr5 : Room 5 _ := hr.mono (by decide)
    have hr6 : Room 6 _ := hr.mono (by decide)
    have hr7 : Room 7 _ := hr.mono (by decide)
    have hu30 := Nat.lt_of_le_of_lt (Nat.add_le_add_left (by decide : 30 ≤ 64) _) hr.units
    have hn := hnF.nm
    have lES : es.length = sss.length := paired_len hEs
    refine ⟨_, (pss_cons (ps_setLc (i := 4) (own := [("_law_effect", 10)]) (g := gName 10) (tt := tYes) (te := tCall (spEl K C) [] E0 (tCons (tVar 10) (tCons (tVar 3) tNil))) rfl scEx.nd rfl rfl (sw_true rfl rfl rfl (by decide +kernel)) (pi_list (pv 1)) (blkOk_by (own := [("_law_effect", 10)]) (N := nEx) (sc := defScope sLawExchangedRight) (by decide +kernel)) (fun _ _ _ _ _ => (pg_name (i := 10) scEx.nd rfl (.inl rfl))) (fun _ _ _ _ _ => pts_nil) (fun _ _ _ _ _ => (pe_has GL hr7 (pa_cons (pv 10) (pa_cons (pv 3) pa_nil)))))
      (pss_cons (ps_set (i := 5) scEx.nd rfl (.inl rfl) (pe_has GWd hr2 (pa_cons (pv 0) (pa_cons (pv 2) (pa_cons pe_int pa_nil)))))
      (pss_cons (ps_set (i := 6) scEx.nd rfl (.inl rfl) (pe_lst (pa_cons (pe_tup (pa_cons (pv 5) (pa_cons (pe_meth (pe_ix ix_list (pv 1) pe_int (fun _ _ => rfl)) T.cl mA FA hr5 hbA hdA pass0 (pa_cons (pv 5) pa_nil)) pa_nil))) (pa_cons (pe_tup (pa_cons (pe_tup pa_nil) (pa_cons (pe_meth (pe_ix ix_list (pv 1) pe_int (fun _ _ => rfl)) T.cl mA FA hr5 hbA hdA pass0 (pa_cons (pe_tup pa_nil) pa_nil)) pa_nil))) pa_nil))))
      (pss_cons (ps_setLc (i := 7) (own := [("_law_stack", 11), ("_law_result", 12)]) (g := gTup K 2 (gCons (gName 11) (gCons (gName 12) gNil))) (tt := tYes) (te := tTup (tCons (tCall (spWl K) [] E0 (tCons (tVar 11) (tCons (tVar 3) tNil))) (tCons (tCall (spWl K) [] E0 (tCons (tVar 12) (tCons (tVar 3) tNil))) tNil))) rfl scEx.nd rfl rfl (sw_true rfl rfl rfl (by decide +kernel)) (pi_list (pv 6)) (blkOk_by (own := [("_law_stack", 11), ("_law_result", 12)]) (N := nEx) (sc := defScope sLawExchangedRight) (by decide +kernel)) (fun _ _ _ _ _ => (pg_tup (by rfl) (pgs_cons (pg_name (i := 11) scEx.nd rfl (.inl rfl)) (pgs_cons (pg_name (i := 12) scEx.nd rfl (.inl rfl)) pgs_nil)))) (fun _ _ _ _ _ => pts_nil) (fun _ _ _ _ _ => (pe_tup (pa_cons (pe_has GW hr1 (pa_cons (pv 11) (pa_cons (pv 3) pa_nil))) (pa_cons (pe_has GW hr1 (pa_cons (pv 12) (pa_cons (pv 3) pa_nil))) pa_nil)))))
      (pss_cons (ps_if (PW.pt (pw_or (pt_cmpR (op_neD hr.units) (pe_has GPo hr5 (pa_cons (pv 4) (pa_cons (pv 7) pa_nil))) (pe_has GPo hr5 (pa_cons (pv 1) (pa_cons (pv 6) pa_nil))) (nomark _)) (pw_or1 (pt_cmpR op_ne (pe_ix ix_tup (pe_has GB hr6 (pa_cons (pv 4) pa_nil)) pe_int (fun _ _ => rfl)) (pe_ix ix_tup (pe_has GB hr6 (pa_cons (pv 1) pa_nil)) pe_int (fun _ _ => rfl)) (nomark _))))) (pss_one (ps_ret pe_bl)) pss_nil)
      (pss_cons (ps_set (i := 8) scEx.nd rfl (.inl rfl) (pe_callB (call_sortD hu30) (by rfl) ms (by decide +kernel) (pa_cons (pe_lc (own := [("_law_result", 12), ("_law_places", 13)]) (g := gTup K 2 (gCons (gName 12) (gCons (gName 13) gNil))) (tt := tYes) (te := tVar 13) rfl scEx.nd (pi_list (pe_has GO hr5 (pa_cons (pv 1) (pa_cons (pv 5) pa_nil)))) (blkOk_by (own := [("_law_result", 12), ("_law_places", 13)]) (N := nEx) (sc := defScope sLawExchangedRight) (by decide +kernel)) (fun _ _ _ _ _ => (pg_tup (by rfl) (pgs_cons (pg_name (i := 12) scEx.nd rfl (.inl rfl)) (pgs_cons (pg_name (i := 13) scEx.nd rfl (.inl rfl)) pgs_nil)))) (fun _ _ _ _ _ => pts_nil) (fun _ _ _ _ _ => (pv 13))) pa_nil)))
      (pss_cons (ps_if (pt_cmpR (op_neD hr.units) (pe_callB (call_sortD hu30) (by rfl) ms (by decide +kernel) (pa_cons (pe_lc (own := [("_law_result", 12), ("_law_places", 13)]) (g := gTup K 2 (gCons (gName 12) (gCons (gName 13) gNil))) (tt := tYes) (te := tVar 13) rfl scEx.nd (pi_list (pe_has GO hr5 (pa_cons (pv 4) (pa_cons (pe_has GW hr1 (pa_cons (pv 5) (pa_cons (pv 3) pa_nil))) pa_nil)))) (blkOk_by (own := [("_law_result", 12), ("_law_places", 13)]) (N := nEx) (sc := defScope sLawExchangedRight) (by decide +kernel)) (fun _ _ _ _ _ => (pg_tup (by rfl) (pgs_cons (pg_name (i := 12) scEx.nd rfl (.inl rfl)) (pgs_cons (pg_name (i := 13) scEx.nd rfl (.inl rfl)) pgs_nil)))) (fun _ _ _ _ _ => pts_nil) (fun _ _ _ _ _ => (pv 13))) pa_nil)) (pv 8) (nomark _)) (pss_one (ps_ret pe_bl)) pss_nil)
      (pss_cons (ps_for PassesOwn.never rfl (pi_range1 (by rfl) mr (pa_cons (pe_op op_sub (pe_callB call_len_seq (by rfl) B.len PySem.boot_len (pa_cons (pv 1) pa_nil)) pe_int) pa_nil)) (pg_name (i := 9) scEx.nd rfl (.inl rfl)) (pss_cons (ps_if (pt_not (pt_val (pe_has GLr hr (pa_cons (pe_ix ix_list (pv 1) (pv 9) (fun _ _ => rfl)) (pa_cons (pe_ix ix_list (pv 1) (pe_op op_add (pv 9) pe_int) (fun _ _ => rfl)) (pa_cons (pe_slice sl_list (pv 4) (po_some (pv 9)) (po_some (pe_op op_add (pv 9) pe_int))) (pa_cons (pe_ix ix_list (pe_lst (pa_cons pe_non (pa_cons (pe_has GT hr1 (pa_cons (pv 0) (pa_cons pe_int pa_nil))) pa_nil))) (pe_op op_mod (pv 9) pe_int) (fun _ _ => rfl)) pa_nil))))))) (pss_one (ps_ret pe_bl)) pss_nil)
      (pss_one (ps_if (pt_cmpR op_ne (pe_has GSm hr4 (pa_cons (pe_ix ix_list (pv 4) (pv 9) (fun _ _ => rfl)) (pa_cons (pe_sortVals rfl (pv 3) (by rfl) ms (by decide +kernel)) pa_nil))) (pe_has GSm hr4 (pa_cons (pe_ix ix_list (pv 1) (pv 9) (fun _ _ => rfl)) (pa_cons (pv 2) pa_nil))) (nomark _)) (pss_one (ps_ret pe_bl)) pss_nil))))
      (pss_one (ps_ret pe_bl)))))))))), ?_⟩
    refine ⟨_, rfl, L, rfl, ⟨_, .of hL⟩, fun DD hDDD => lc_list (K := K) (a := L) (xs := es.map V.ref) (fun j H2 => ∃ fs : List Addr, H2 DD = some (.lst (fs.map V.ref)) ∧ Paired (fun g ss => EffV K C H2 g (effM (ledW f ss))) fs (sss.take j) ∧ Same H H2) ⟨[], upd_same, .nil, Same.new hDDD⟩ (fun j H2 _ q => ?_) ?_ ?_⟩
    · obtain ⟨_, _, _, s2⟩ := q
      exact .of (s2 _ _ hL)
    · rintro j x H2 hx ⟨fs, hfs, hP, s2⟩
      rw [List.getElem?_map] at hx
      obtain ⟨e, hj, rfl⟩ : ∃ e, es[j]? = some e ∧ x = V.ref e := by
        cases hq : es[j]? with
        | none =>
          rw [hq] at hx
          cases hx
        | some e =>
          rw [hq] at hx
          cases hx
          exact ⟨e, rfl, rfl⟩
      obtain ⟨ss, hss, he⟩ := paired_at hEs hj
      have ws := hSs ss (List.mem_of_getElem? hss)
      have s12 := (Same.refl H).trans s2
      have lf := paired_len hP
      rw [List.length_take] at lf
      refine ⟨rfl, yes_in ⟨_, rfl, _, rfl, e, nd, S, f, effM ss, rfl, hn.same s12, iF, he.same s12, (ws.ok iS).ok, (ws.ok iS).lp, eff_in ws.mem, fun e' H4 s4 he' => ?_⟩⟩
      rw [← eff_led ij ws.mem] at he'
      refine ⟨fs.map V.ref, s4 _ _ hfs, ?_, fs ++ [e'], by rw [upd_same, List.map_append]; rfl, ?_, Same.free2 (s2.trans s4) hDDD⟩
      · rw [List.length_map, sizeLine_eq]
        omega
      · rw [List.take_add_one, hss, Option.toList_some]
        exact Paired.snoc2 (Paired.mapP hP fun _ _ q => EffV.updL (s4 _ _ hfs) (q.same s4)) (EffV.updL (s4 _ _ hfs) he')
    rintro H1 ⟨gs, hgs, hGs, s0H1⟩
    rw [List.length_map, lES, List.take_length] at hGs
    have sH1 := (Same.refl H).trans s0H1
    have lGS : gs.length = sss.length := paired_len hGs
    have x1 : X9 K C S f p L nd il DD es gs sss H1 := ⟨pl.same sH1, sH1 _ _ hL, Paired.mapP hEs fun _ _ q => q.same sH1, hnF.same sH1, sH1 _ _ hil, hgs, hGs⟩
    have DDp : DD ≠ p := fun e => by
      obtain ⟨_, _, q, _⟩ := pl.ex
      rw [e, q] at hDDD
      cases hDDD
    have b01 : But p H H1 := but_same sH1
    have oEv := ok_all iS hSs
    have oFv := okF_all iF hSs
    have inE := in_all hSs
    have eF := led_all ij hSs
    clear hGs hgs hDDD s0H1 sH1
    -- the word
    refine ⟨_, rfl, _, rfl, p, il, 4, S, rfl, x1.pl, ilp, x1.hi, S0, by omega, by decide, by decide, fun t ws H2 b2 p2 t0 ht lw mw => ?_⟩
    have x2 := x1.but b2 p2 Lp ilp DDp
    have b02 := b01.trans b2
    have iw : ∀ z ∈ ws, Item z := fun z m => iS z (mw z m)
    have lw : ws.length ≤ 4 := by omega
    clear x1 b01 b2 p2 t0
    -- what is seen
    obtain ⟨e0, hes0⟩ : ∃ e, es[0]? = some e := ⟨_, List.getElem?_eq_getElem (by omega)⟩
    obtain ⟨e1, hes1⟩ : ∃ e, es[1]? = some e := ⟨_, List.getElem?_eq_getElem (by omega)⟩
    obtain ⟨s0, hs0, ev0⟩ := paired_at x2.ev hes0
    obtain ⟨s1, hs1, ev1⟩ := paired_at x2.ev hes1
    have w0 := hSs s0 (List.mem_of_getElem? hs0)
    have w1 := hSs s1 (List.mem_of_getElem? hs1)
    have ll : LimOk none := fun L e => by cases e
    obtain ⟨d0, f0, i0, la0, _⟩ := eff_lk ev0
    refine ⟨_, rfl, _, rfl, L, _, 0, .ref e0, rfl, rfl, .of x2.hL, atI_nat (j := 0) (by rw [List.getElem?_map, hes0]; rfl), e0, d0, f0, rfl, i0, la0, _, rfl, e0, t, _, ws, none, rfl, ev0, (w0.ok iS).ok, .of ht, iw, by omega, ll, fun v0 H3 s3 hv0 => ?_⟩
    rw [ap_free] at hv0
    refine ⟨by show 2 ≤ sizeLine; decide, fun T1 hT1 => ?_⟩
    have sT1 := Same.new (o := .tup [.ref t, v0]) hT1
    have hT1' : upd H3 T1 (.tup [.ref t, v0]) T1 = some (.tup [.ref t, v0]) := upd_same
    have s23 := s3.trans sT1
    have hv0 := hv0.same sT1
    generalize upd H3 T1 (.tup [.ref t, v0]) = H4 at hT1' s23 hv0 ⊢
    clear s3 sT1 hT1
    refine ⟨by show 0 ≤ sizeLine; decide, fun u hu => ?_⟩
    have su := Same.new (o := .tup []) hu
    have hu' : upd H4 u (.tup []) u = some (.tup []) := upd_same
    have s24 := s23.trans su
    have hv0 := hv0.same su
    have hT1' := su _ _ hT1'
    generalize upd H4 u (.tup []) = H5 at hu' s24 hv0 hT1' ⊢
    clear su hu s23
    have x5 := x2.same s24
    have ev1 := ev1.same s24
    obtain ⟨d1, f1, i1, la1, _⟩ := eff_lk ev1
    refine ⟨_, rfl, L, _, 1, .ref e1, rfl, rfl, .of x5.hL, atI_nat (j := 1) (by rw [List.getElem?_map, hes1]; rfl), e1, d1, f1, rfl, i1, la1, by show 0 ≤ sizeLine; decide, fun u2 hu2 => ?_⟩
    have su2 := Same.new (o := .tup []) hu2
    refine ⟨e1, u2, _, [], none, rfl, ev1.same su2, (w1.ok iS).ok, .of upd_same, fun z m => (by cases m), Nat.zero_le _, ll, fun v1 H6 s6 hv1 => ?_⟩
    rw [ap_free] at hv1
    have s56 := su2.trans s6
    refine ⟨by show 2 ≤ sizeLine; decide, fun T2 hT2 => ⟨by show 2 ≤ sizeLine; decide, fun SL hSL => ?_⟩⟩
    have sT2 := Same.new (o := .tup [.ref u, v1]) hT2
    have sSL := Same.new (o := .lst [.ref T1, .ref T2]) hSL
    have s5z := (s56.trans sT2).trans sSL
    have x7 := x5.same s5z
    have o1 : ObV K (upd (upd H6 T2 (.tup [.ref u, v1])) SL (.lst [.ref T1, .ref T2])) (.ref T1) (ws, replM (effM s0) ws) := ⟨T1, t, v0, rfl, .of (s5z _ _ hT1'), .of (s5z _ _ (s24 _ _ ht)), hv0.same s5z⟩
    have o2 : ObV K (upd (upd H6 T2 (.tup [.ref u, v1])) SL (.lst [.ref T1, .ref T2])) (.ref T2) ([], replM (effM s1) []) := ⟨T2, u, v1, rfl, .of (sSL _ _ upd_same), .of (s5z _ _ hu'), (hv1.same sT2).same sSL⟩
    have hS7 : upd (upd H6 T2 (.tup [.ref u, v1])) SL (.lst [.ref T1, .ref T2]) SL = some (.lst [.ref T1, .ref T2]) := upd_same
    have b07 := b02.trans (but_same (s24.trans s5z))
    have ht7 := (s24.trans s5z) _ _ ht
    generalize upd (upd H6 T2 (.tup [.ref u, v1])) SL (.lst [.ref T1, .ref T2]) = H7 at x7 o1 o2 hS7 b07 ht7 ⊢
    clear sT2 sSL s5z s56 su2 s6 hv1 hT2 hSL hu2 i1 la1 x5 ev1 hv0 hT1' hu' s24 x2 i0 la0 ev0 ht b02
    obtain ⟨bs, hbs⟩ : ∃ bs : List Ob, bs = [(ws, replM (effM s0) ws), ([], replM (effM s1) [])] := ⟨_, rfl⟩
    have hO7 : Paired (ObV K H7) [.ref T1, .ref T2] bs := by rw [hbs]; exact .cons o1 (.cons o2 .nil)
    have small : ∀ (ss : List Stp) (v : List Str), SW S ss → (∀ z ∈ v, Item z) → v.length ≤ 10 → OWS (replM (effM ss) v) := fun ss v hw iv lv => res_small (sss := [ss]) iS (fun s m => by rw [List.mem_singleton.mp m]; exact hw) iv lv _ (List.mem_singleton.mpr rfl)
    have bIn : ∀ b ∈ bs, InW S b.1 ∧ InR S b.2 := fun b m => by
      rw [hbs] at m
      rcases List.mem_cons.mp m with e | m
      · rw [e]
        exact ⟨mw, repl_in (eff_in w0.mem) mw⟩
      · rw [List.mem_singleton.mp m]
        exact ⟨.nil, repl_in (eff_in w1.mem) .nil⟩
    have bSm : ∀ b ∈ bs, b.1.length ≤ 10 ∧ OWS b.2 := fun b m => by
      rw [hbs] at m
      rcases List.mem_cons.mp m with e | m
      · rw [e]
        exact ⟨by show ws.length ≤ 10; omega, small s0 ws w0 iw (by omega)⟩
      · rw [List.mem_singleton.mp m]
        exact ⟨Nat.zero_le _, small s1 [] w1 (fun z m => (by cases m)) (Nat.zero_le _)⟩
    have lbs : bs.length = 2 := by rw [hbs]; rfl
    have bOk : ∀ b ∈ bs, ObOk b := fun b m => by
      obtain ⟨c1, c2⟩ := bIn b m
      obtain ⟨c3, c4⟩ := bSm b m
      exact ⟨fun z mz => iS z (c1 z mz), by omega, fun zs e => ⟨(c4 zs e).1, by have := (c4 zs e).2; omega⟩⟩
    clear o1 o2 hbs
    -- what they are called
    refine ⟨_, rfl, SL, rfl, ⟨_, .of hS7⟩, fun CD hCD => lc_list (K := K) (a := SL) (xs := [.ref T1, .ref T2]) (fun j H2 => ∃ us, H2 CD = some (.lst us) ∧ Paired (ObV K H2) us ((bs.take j).map fun b => (b.1.map f, ledR f b.2)) ∧ Same H7 H2) ⟨[], upd_same, .nil, Same.new hCD⟩ (fun j H2 _ q => ?_) ?_ ?_⟩
    · obtain ⟨_, _, _, s2⟩ := q
      exact .of (s2 _ _ hS7)
    · rintro j x H2 hx ⟨us, hus, hP, s2⟩
      obtain ⟨b, hj, t', a', r', rfl, q1, q2, q3⟩ := paired_at hO7 hx
      have mb := List.mem_of_getElem? hj
      obtain ⟨c1, c2⟩ := bIn b mb
      obtain ⟨c3, c4⟩ := bSm b mb
      have lU := paired_len hP
      rw [List.length_map, List.length_take] at lU
      refine ⟨t', _, rfl, Same.tup s2 q1, rfl, _, _, rfl, _, _, rfl, rfl, rfl, yes_in ?_⟩
      refine ⟨_, rfl, _, rfl, .ref a', nd, S, f, some b.1, rfl, (x7.nm.same s2).nm, ⟨a', rfl, Same.tup s2 q2⟩, fun w e => (by cases e; exact c1), fun w e => (by cases e; omega), fun va H4 s4 hva => ?_⟩
      obtain ⟨a4, rfl, ha4⟩ := hva
      refine ⟨_, rfl, _, rfl, r', nd, S, f, b.2, rfl, (x7.nm.same (s2.trans s4)).nm, q3.same (s2.trans s4), c2, fun w e => (by have := (c4 w e).2; omega), fun vb H5 s5 hvb => ?_⟩
      refine ⟨by show 2 ≤ sizeLine; decide, fun T hT => ?_⟩
      have sT := Same.new (o := .tup [.ref a4, vb]) hT
      have s4T := (s4.trans s5).trans sT
      refine ⟨us, s4T _ _ hus, by rw [sizeLine_eq]; omega, us ++ [.ref T], upd_same, ?_, Same.free2 (s2.trans s4T) hCD⟩
      rw [List.take_add_one, hj, Option.toList_some, List.map_append]
      exact Paired.snoc2 (Paired.mapP hP fun _ _ q => ObV.updL (s4T _ _ hus) (q.same' s4T)) (ObV.updL (s4T _ _ hus) ⟨T, a4, vb, rfl, .of upd_same, Same.tup (s5.trans sT) ha4, hvb.same sT⟩)
    rintro H8 ⟨us, hus, hP, s78⟩
    have hP : Paired (ObV K H8) us ((bs.take 2).map fun b => (b.1.map f, ledR f b.2)) := hP
    rw [List.take_of_length_le (by omega)] at hP
    have lU : us.length = 2 := by
      have := paired_len hP
      rw [List.length_map] at this
      omega
    have x8 := x7.same s78
    have b08 := b07.trans (but_same s78)
    have ht8 := s78 _ _ ht7
    have hS8 := s78 _ _ hS7
    have hO8 : Paired (ObV K H8) [.ref T1, .ref T2] bs := Paired.mapP hO7 fun _ _ q => q.same' s78
    clear x7 b07 ht7 hS7 hO7 s78 hCD
    -- possible
    have fOk : ∀ b ∈ bs.map fun b => (b.1.map f, ledR f b.2), ObOk b := fun c m => by
      obtain ⟨b, mb, rfl⟩ := List.mem_map.mp m
      obtain ⟨c1, c2⟩ := bIn b mb
      obtain ⟨c3, c4⟩ := bSm b mb
      refine ⟨fun z mz => ?_, by show (b.1.map f).length ≤ 1000; rw [List.length_map]; omega, led_ok c2 iF fun w e => by have := (c4 w e).2; omega⟩
      obtain ⟨y, my, rfl⟩ := List.mem_map.mp mz
      exact iF y (c1 y my)
    have ePos : posM ((sss.map (ledW f)).map effM) (bs.map fun b => (b.1.map f, ledR f b.2)) ((sss.map (ledW f)).map effM).length = posM (sss.map effM) bs (sss.map effM).length := by
      rw [eF, List.length_map]
      exact pos_led ij inE bIn _
    have nPos : Nice 1 900 (.list ((posM (sss.map effM) bs (sss.map effM).length).map iDn)) := by
      have l : (sss.map effM).length ≤ 20 := by rw [List.length_map]; omega
      refine nice_ns (fun n m => ?_) ?_
      · have := List.mem_range.mp (List.mem_filter.mp m).1
        omega
      · have := List.length_filter_le (fun i => givM ((sss.map effM).getD i none) bs) (List.range (sss.map effM).length)
        rw [List.length_range] at this
        exact Nat.le_trans this (by omega)
    refine ⟨_, rfl, _, rfl, DD, CD, gs, _, us, _, rfl, .of x8.hF, evF x8.gv, oFv, by omega, by omega, .of hus, hP, fOk, by omega, fun l1 H9 s9 n9 h9 => ?_⟩
    rw [ePos] at h9
    have x9 := x8.same s9
    refine ⟨_, rfl, _, rfl, L, SL, es, _, [.ref T1, .ref T2], bs, rfl, .of x9.hL, evs x9.ev, oEv, by omega, by omega, .of (s9 _ _ hS8), Paired.mapP hO8 (fun _ _ q => q.same' s9), bOk, (by show 2 ≤ 1000; decide), fun l2 HA sA nA hA => ?_⟩
    refine neN nPos (by decide) (.lst (.of (sA _ _ h9)) (dp_ns _)) (.lst (.of hA) (dp_ns _)) ⟨false, rfl, iteF ?_⟩
    have s8A := s9.trans sA
    have xA := x8.same s8A
    -- the best stacks' sizes
    refine ⟨_, rfl, DD, gs, _, rfl, .of xA.hF, evF xA.gv, oFv, by omega, by omega, fun t1 c1 HB sB ht1 hc1 => ?_⟩
    refine ⟨t1, _, 0, _, rfl, rfl, ht1, rfl, ?_⟩
    have xB := xA.same sB
    refine ⟨_, rfl, L, es, _, rfl, .of xB.hL, evs xB.ev, oEv, by omega, by omega, fun t2 c2 HC sC ht2 hc2 => ?_⟩
    refine ⟨t2, _, 0, _, rfl, rfl, ht2, rfl, ?_⟩
    rw [eF, best_size ij inE]
    refine ⟨rfl, false, congrArg V.bl (by rw [decide_eq_true rfl]; rfl), iteF ?_⟩
    have s8C := (s8A.trans sB).trans sC
    have xC := x8.same s8C
    have b0C := b08.trans (but_same s8C)
    have htC := s8C _ _ ht8
    clear x8 x9 xA xB b08 ht8 hS8 hO8 hP hus h9 hA s9 sA sB sC s8A s8C ht1 hc1 ht2 hc2 n9 nA
    -- the sizes
    have gO : OutOk (outM (grpM (resM (sss.map effM) ws) es.length)) := out_ok (by rw [show (resM (sss.map effM) ws).length = sss.length by unfold resM; rw [List.length_map, List.length_map]]; omega) (by omega) (res_small iS hSs iw (by omega))
    have eSz : sortN (szM (grpM (resM ((sss.map (ledW f)).map effM) (ws.map f)) gs.length)) = sortN (szM (grpM (resM (sss.map effM) ws) es.length)) := by
      rw [eF, show gs.length = es.length by omega]
      exact sizes_led ij inE mw _
    have fW : ∀ z ∈ ws.map f, Item z := fun z m => by
      obtain ⟨y, my, rfl⟩ := List.mem_map.mp m
      exact iF y (mw y my)
    have gO2 : OutOk (outM (grpM (resM ((sss.map (ledW f)).map effM) (ws.map f)) gs.length)) := out_ok (by rw [show (resM ((sss.map (ledW f)).map effM) (ws.map f)).length = sss.length by unfold resM; rw [List.length_map, List.length_map, List.length_map]]; omega) (by omega) (by
      rw [eF, res_led ij inE mw]
      intro r m v e
      obtain ⟨r0, m0, rfl⟩ := List.mem_map.mp m
      cases q : r0 with
      | none => rw [q] at e; cases e
      | some w0 =>
        rw [q] at e
        cases e
        obtain ⟨c1, c2⟩ := res_small iS hSs iw (by omega) r0 m0 w0 q
        refine ⟨fun z mz => ?_, by rw [List.length_map]; exact c2⟩
        obtain ⟨y, my, rfl⟩ := List.mem_map.mp mz
        exact iF y (res_in inE mw r0 m0 w0 q y my))
    refine ⟨_, rfl, _, rfl, L, t, es, _, ws, rfl, .of xC.hL, evs xC.ev, oEv, by omega, by omega, .of htC, iw, by omega, fun R ts HD sD nD hR hO => ?_⟩
    unfold szM at eSz
    generalize hG : outM (grpM (resM (sss.map effM) ws) es.length) = G at hO gO eSz
    generalize hG2 : outM (grpM (resM ((sss.map (ledW f)).map effM) (ws.map f)) gs.length) = G2 at gO2 eSz
    refine ⟨R, rfl, ⟨_, .of hR⟩, fun PD hPD => lc_list (K := K) (a := R) (xs := ts) (fun j H2 => ∃ ls : List Addr, H2 PD = some (.lst (ls.map V.ref)) ∧ Paired (fun l s => l ≠ PD ∧ H2 l = some (.lst (s.map nV))) ls ((G.take j).map (·.2)) ∧ Same HD H2) ⟨[], upd_same, .nil, Same.new hPD⟩ (fun j H2 _ q => ?_) ?_ ?_⟩
    · obtain ⟨_, _, _, s2⟩ := q
      exact .of (s2 _ _ hR)
    · rintro j x H2 hx ⟨ls, hls, hP, s2⟩
      obtain ⟨g, hj, t', y, l, rfl, q1, q2, q3, _⟩ := paired_at hO hx
      have lU := paired_len hP
      rw [List.length_map, List.length_take] at lU
      have gl := gO.l
      have lne : l ≠ PD := fun e => by rw [e, hPD] at q3; cases q3
      refine ⟨t', _, rfl, Same.tup s2 q1, rfl, _, _, rfl, _, _, rfl, rfl, rfl, yes_in ⟨_, rfl, ls.map V.ref, hls, by rw [List.length_map, sizeLine_eq]; omega, ls ++ [l], by rw [upd_same, List.map_append]; rfl, ?_, Same.free2 s2 hPD⟩⟩
      rw [List.take_add_one, hj, Option.toList_some, List.map_append]
      refine Paired.snoc2 (Paired.mapP hP fun _ _ q => ⟨q.1, by rw [upd_ne q.1]; exact q.2⟩) ⟨lne, ?_⟩
      rw [upd_ne lne]
      exact s2 _ _ q3
    rintro HE ⟨ls1, hls1, hP1, sE⟩
    rw [paired_len hO, List.take_length] at hP1
    dsimp only [tNil]
    refine szs_sort hls1 (Paired.mapP hP1 fun _ _ q => q.2) fun q1 hq1 => ?_
    have sq := Same.new (o := .lst (sortedI (ls1.map V.ref) (natI (G.map (·.2))))) hq1
    have sCF := (sD.trans sE).trans sq
    have hP1' : Paired (fun l s => upd HE q1 (.lst (sortedI (ls1.map V.ref) (natI (G.map (·.2))))) l = some (.lst (s.map nV))) ls1 (G.map (·.2)) := Paired.mapP hP1 fun _ _ q => sq _ _ q.2
    have hq1' : upd HE q1 (.lst (sortedI (ls1.map V.ref) (natI (G.map (·.2))))) q1 = some (.lst (sortedI (ls1.map V.ref) (natI (G.map (·.2))))) := upd_same
    generalize upd HE q1 (.lst (sortedI (ls1.map V.ref) (natI (G.map (·.2))))) = HF at sCF hP1' hq1' ⊢
    have xF := xC.same sCF
    have b0F := b0C.trans (but_same sCF)
    have htF := sCF _ _ htC
    clear sq hP1 hls1 sE sD hR hO hPD nD xC b0C htC sCF hq1 hG
    -- the sizes of those that are led
    refine ⟨_, rfl, _, rfl, _, rfl, .ref t, nd, S, f, some ws, rfl, xF.nm.nm, ⟨t, rfl, .of htF⟩, fun w e => (by cases e; exact mw), fun w e => (by cases e; omega), fun v5 HI sI hv5 => ?_⟩
    obtain ⟨a5, rfl, h5⟩ := hv5
    have xI := xF.same sI
    refine ⟨DD, a5, gs, _, ws.map f, rfl, .of xI.hF, evF xI.gv, oFv, by omega, by omega, h5, fW, by rw [List.length_map]; omega, fun R2 ts2 HJ sJ nJ hR2 hO2 => ?_⟩
    rw [hG2] at hO2
    refine ⟨R2, rfl, ⟨_, .of hR2⟩, fun PD2 hPD2 => lc_list (K := K) (a := R2) (xs := ts2) (fun j H2 => ∃ ls : List Addr, H2 PD2 = some (.lst (ls.map V.ref)) ∧ Paired (fun l s => l ≠ PD2 ∧ H2 l = some (.lst (s.map nV))) ls ((G2.take j).map (·.2)) ∧ Same HJ H2) ⟨[], upd_same, .nil, Same.new hPD2⟩ (fun j H2 _ q => ?_) ?_ ?_⟩
    · obtain ⟨_, _, _, s2⟩ := q
      exact .of (s2 _ _ hR2)
    · rintro j x H2 hx ⟨ls, hls, hP, s2⟩
      obtain ⟨g, hj, t', y, l, rfl, q1, q2, q3, _⟩ := paired_at hO2 hx
      have lU := paired_len hP
      rw [List.length_map, List.length_take] at lU
      have gl := gO2.l
      have lne : l ≠ PD2 := fun e => by rw [e, hPD2] at q3; cases q3
      refine ⟨t', _, rfl, Same.tup s2 q1, rfl, _, _, rfl, _, _, rfl, rfl, rfl, yes_in ⟨_, rfl, ls.map V.ref, hls, by rw [List.length_map, sizeLine_eq]; omega, ls ++ [l], by rw [upd_same, List.map_append]; rfl, ?_, Same.free2 s2 hPD2⟩⟩
      rw [List.take_add_one, hj, Option.toList_some, List.map_append]
      refine Paired.snoc2 (Paired.mapP hP fun _ _ q => ⟨q.1, by rw [upd_ne q.1]; exact q.2⟩) ⟨lne, ?_⟩
      rw [upd_ne lne]
      exact s2 _ _ q3
    rintro HK ⟨ls2, hls2, hP2, sK⟩
    rw [paired_len hO2, List.take_length] at hP2
    dsimp only [tNil]
    refine szs_sort hls2 (Paired.mapP hP2 fun _ _ q => q.2) fun q2 hq2 => ?_
    have sq := Same.new (o := .lst (sortedI (ls2.map V.ref) (natI (G2.map (·.2))))) hq2
    have sFL := ((sI.trans sJ).trans sK).trans sq
    have d1 := sortV (K := K) (Paired.mapP hP1' fun _ _ q => sFL _ _ q)
    have d2 := sortV (K := K) (Paired.mapP hP2 fun _ _ q => sq _ _ q.2)
    have h1 := sFL _ _ hq1'
    rw [eSz] at d2
    refine ⟨_, rfl, neN (szs_nice gO (sortN_perm _)) (by decide) (.lst (.of upd_same) d2) (.lst (.of h1) d1) ⟨false, rfl, iteF ?_⟩⟩
    have xL := xF.same sFL
    have b0L := b0F.trans (but_same sFL)
    generalize upd HK q2 (.lst (sortedI (ls2.map V.ref) (natI (G2.map (·.2))))) = HL at xL b0L ⊢
    clear sq d1 d2 h1 hP2 hls2 hR2 hO2 hPD2 nJ sFL xF xI hq2 sI sJ sK hq1' hP1' hG2 eSz gO gO2 htF b0F h5
    -- the loop
    refine ⟨_, rfl, L, _, rfl, .inl (.of xL.hL), _, 1, rfl, rfl, ((sss.length - 1 : Nat) : Int), by rw [List.length_map, lES]; exact congrArg (fun z : Int => [V.int z]) (by omega), by omega, by omega, for_range (lo := 0) (n := sss.length - 1) (fun i σ Hx => ∃ (y5 y6 y7 y8 y9 y10 y11 y12 y13 : Option V), σ = [some (.ref p), some (.ref L), some (.ref il), some (.ref nd), some (.ref DD), y5, y6, y7, y8, y9, y10, y11, y12, y13] ∧ X9 K C S f p L nd il DD es gs sss Hx ∧ But p H Hx) ⟨_, _, _, _, _, _, _, _, _, rfl, xL, b0L⟩ ?_ ?_⟩
    rotate_left
    · rintro σ Hx ⟨y5, y6, y7, y8, y9, y10, y11, y12, y13, rfl, xx, bb⟩
      exact k _ bb xx.pl
    clear xL b0L
    rintro i σ HL hi ⟨y5, y6, y7, y8, y9, y10, y11, y12, y13, rfl, xL, b0L⟩
    obtain ⟨ea, hea⟩ : ∃ e, es[i]? = some e := ⟨_, List.getElem?_eq_getElem (by omega)⟩
    obtain ⟨eb, heb⟩ : ∃ e, es[i + 1]? = some e := ⟨_, List.getElem?_eq_getElem (by omega)⟩
    obtain ⟨ga, hga⟩ : ∃ e, gs[i]? = some e := ⟨_, List.getElem?_eq_getElem (by omega)⟩
    obtain ⟨gb, hgb⟩ : ∃ e, gs[i + 1]? = some e := ⟨_, List.getElem?_eq_getElem (by omega)⟩
    obtain ⟨sa, hsa, eva⟩ := paired_at xL.ev hea
    obtain ⟨sb, hsb, evb⟩ := paired_at xL.ev heb
    obtain ⟨sa', hsa', gva⟩ := paired_at xL.gv hga
    obtain ⟨sb', hsb', gvb⟩ := paired_at xL.gv hgb
    rw [hsa] at hsa'
    cases hsa'
    rw [hsb] at hsb'
    cases hsb'
    have wa := hSs sa (List.mem_of_getElem? hsa)
    have wb := hSs sb (List.mem_of_getElem? hsb)
    refine ⟨_, rfl, _, rfl, L, _, 0 + i, .ref ea, rfl, rfl, .of xL.hL, at_of (j := i) (by omega) (by rw [List.getElem?_map, hea]; rfl), ?_⟩
    refine ⟨_, rfl, _, rfl, 0 + i, 1, rfl, rfl, L, _, 0 + i + 1, .ref eb, rfl, rfl, .of xL.hL, at_of (j := i + 1) (by omega) (by rw [List.getElem?_map, heb]; rfl), ?_⟩
    refine ⟨_, rfl, _, rfl, _, rfl, _, rfl, 0 + i, 2, rfl, rfl, _, rfl, DD, _, rfl, .of xL.hF, fun FS hFS => ?_⟩
    have ec : cutV (gs.map V.ref) (some (0 + (i : Int))) (some (0 + (i : Int) + 2)) = [.ref ga, .ref gb] := by
      rw [Int.zero_add]
      exact cutF_two V.ref gs hga hgb
    rw [ec]
    have sF := Same.new (o := .lst [V.ref ga, .ref gb]) hFS
    have hF1 : upd HL FS (.lst [V.ref ga, .ref gb]) FS = some (.lst [.ref ga, .ref gb]) := upd_same
    have FSp : FS ≠ p := fun e => by
      obtain ⟨_, _, q, _⟩ := xL.pl.ex
      rw [e, q] at hFS
      cases hFS
    have xM := xL.same sF
    have b0M := b0L.trans (but_same sF)
    have eva := eva.same sF
    have evb := evb.same sF
    have gva := gva.same sF
    have gvb := gvb.same sF
    generalize upd HL FS (.lst [V.ref ga, .ref gb]) = HM at hF1 xM b0M eva evb gva gvb ⊢
    clear sF hFS xL b0L
    refine ⟨_, rfl, p, 9, rfl, xM.pl, by decide, by decide, fun r HN bN pN r0 r1 => ⟨by show 2 ≤ sizeLine; decide, fun BL hBL => ?_⟩⟩
    have sB := Same.new (o := .lst [.non, .int r]) hBL
    have hB1 : upd HN BL (.lst [.non, .int r]) BL = some (.lst [.non, .int r]) := upd_same
    have xN := (xM.but bN pN Lp ilp DDp).same sB
    have b0N := (b0M.trans bN).trans (but_same sB)
    have hF2 := sB _ _ (bN _ _ FSp hF1)
    have eva := (eva.but xM.pl bN).same sB
    have evb := (evb.but xM.pl bN).same sB
    have gva := (gva.but xM.pl bN).same sB
    have gvb := (gvb.but xM.pl bN).same sB
    generalize upd HN BL (.lst [.non, .int r]) = HO at hB1 xN b0N hF2 eva evb gva gvb ⊢
    clear sB hBL xM b0M bN pN hF1
    obtain ⟨lim, hlim, lS⟩ : ∃ lim : Option Int, atI [.non, .int r] ((0 + (i : Int)) % 2) = some (limV lim) ∧ LimS lim := by
      rcases (show (0 + (i : Int)) % 2 = 0 ∨ (0 + (i : Int)) % 2 = 1 by omega) with e | e
      · exact ⟨none, by rw [e]; rfl, fun L q => by cases q⟩
      · exact ⟨some r, by rw [e]; rfl, fun L q => by cases q; omega⟩
    refine ⟨_, rfl, 0 + i, 2, rfl, rfl, (by show (0 : Int) < 2; decide), BL, _, (0 + i) % 2, _, rfl, rfl, .of hB1, hlim, ea, eb, FS, ga, gb, S, f, sa, sb, lim, rfl, ij, iS, iF, .of hF2, wa, wb, eva, evb, gva, gvb, lS, fun HP sP => ⟨true, rfl, iteF ?_⟩⟩
    have xP := xN.same sP
    have b0P := b0N.trans (but_same sP)
    have eva := eva.same sP
    have gva := gva.same sP
    clear xN b0N evb gvb hF2 hB1
    -- the numbers of shortest sequences
    refine ⟨_, rfl, _, rfl, DD, _, 0 + i, .ref ga, rfl, rfl, .of xP.hF, at_of (j := i) (by omega) (by rw [List.getElem?_map, hga]; rfl), _, rfl, nd, _, S.map f, rfl, xP.nm.at_, by rw [List.map_map, List.map_map]; rfl, by rw [List.length_map]; omega, fun ys q py sy hq => ?_⟩
    have sq := Same.new (o := .lst (ys.map V.str)) hq
    have yl : ys.length = S.length := by rw [py.length_eq, List.length_map]
    dsimp only [tNil, List.append_nil]
    refine sm_eff9 (ss := ledW f sa) (gva.same sq) (wa.itemF iF) (by rw [ledW_len]; exact wa.len) ⟨.inl (.of upd_same), by omega, py.nodup_iff.mpr (nd_map ij xP.nm.nd fun z m => m), fun z m => ?_⟩ rfl fun HQ sQ => ?_
    · obtain ⟨y, my, rfl⟩ := List.mem_map.mp (py.mem_iff.mp m)
      exact iF y my
    have sPQ := sq.trans sQ
    have xQ := xP.same sPQ
    refine ⟨_, rfl, _, rfl, L, _, 0 + i, .ref ea, rfl, rfl, .of xQ.hL, at_of (j := i) (by omega) (by rw [List.getElem?_map, hea]; rfl), _, rfl, ?_⟩
    dsimp only [tNil, List.append_nil]
    refine sm_eff9 (ss := sa) (eva.same sPQ) (wa.item iS) wa.len ⟨.inl (.of xQ.hi), S50, xQ.nm.nd, iS⟩ rfl fun HR sR => ?_
    have eN : smR ys (effM (ledW f sa)) = smR S (effM sa) := by
      rw [eff_led ij wa.mem]
      cases e : effM sa with
      | none =>
        show (ys.length : Int) * ((ys.length : Int) - 1) = (S.length : Int) * ((S.length : Int) - 1)
        rw [yl]
      | some A =>
        obtain ⟨xs, zs, pk⟩ := A
        have hi := eff_in wa.mem _ e
        exact many_led hi.a hi.b py
    rw [eN]
    exact ⟨rfl, false, congrArg V.bl (by rw [decide_eq_true rfl]; rfl), iteF ⟨_, _, _, _, _, _, _, _, _, rfl, xQ.same sR, b0P.trans (but_same (sPQ.trans sR))⟩⟩
end
end SE
namespace SE
open PySem PySem.Spec PyProof.Rows L2
open PySem.W (dataLt)
/-! ### from one list of items to another -/
def toF (S O : List Str) (z : Str) : Str := O.getD (S.idxOf z) z
section
variable {S O : List Str}
theorem toF_at (nd : S.Nodup) (hl : O.length = S.length) {i : Nat} {a : Str} (ha : S[i]? = some a) : O[i]? = some (toF S O a) := by
  obtain ⟨h, rfl⟩ := List.getElem?_eq_some_iff.mp ha
  have e := nd.idxOf_getElem i h
  unfold toF
  rw [e, List.getD_eq_getElem?_getD, List.getElem?_eq_getElem (by omega : i < O.length)]
  rfl
theorem toF_in (nd : S.Nodup) (hl : O.length = S.length) {a : Str} (ha : a ∈ S) : toF S O a ∈ O := by
  obtain ⟨i, hi⟩ := List.getElem?_of_mem ha
  exact List.mem_of_getElem? (toF_at nd hl hi)
theorem nd_ix {l : List Str} (nd : l.Nodup) {i j : Nat} {a : Str} (h1 : l[i]? = some a) (h2 : l[j]? = some a) : i = j := by
  obtain ⟨a1, b1⟩ := List.getElem?_eq_some_iff.mp h1
  obtain ⟨a2, b2⟩ := List.getElem?_eq_some_iff.mp h2
  rw [← nd.idxOf_getElem i a1, ← nd.idxOf_getElem j a2, b1, b2]
theorem toF_inj (nd : S.Nodup) (nO : O.Nodup) (hl : O.length = S.length) : InjS S (toF S O) := fun a ha b hb e => by
  obtain ⟨i, hi⟩ := List.getElem?_of_mem ha
  obtain ⟨j, hj⟩ := List.getElem?_of_mem hb
  have h1 := toF_at nd hl hi
  have h2 := toF_at nd hl hj
  rw [← e] at h2
  have := nd_ix nO h1 h2
  subst this
  rw [hi] at hj
  exact Option.some.inj hj
theorem toF_map (nd : S.Nodup) (hl : O.length = S.length) : S.map (toF S O) = O := by
  refine List.ext_getElem? fun i => ?_
  rw [List.getElem?_map]
  cases h : S[i]? with
  | none =>
    have := List.getElem?_eq_none_iff.mp h
    rw [List.getElem?_eq_none (by omega)]
    rfl
  | some a => exact (toF_at nd hl h).symm
theorem rising_pw : ∀ {r : List Str} {p : Str}, risingS p r = true → (p :: r).Pairwise fun a b => ¬ b.cps.toList < a.cps.toList
  | [], p, _ => by simp
  | x :: r, p, h => by
    unfold risingS at h
    rw [Bool.and_eq_true, ltCps_eq] at h
    have ih := rising_pw h.2
    have px : ¬ x.cps.toList < p.cps.toList := by simpa using h.1
    refine List.pairwise_cons.mpr ⟨fun y my => ?_, ih⟩
    rcases List.mem_cons.mp my with e | my
    · rw [e]; exact px
    · have xy := (List.pairwise_cons.mp ih).1 y my
      intro q
      exact px (List.lt_of_le_of_lt (List.not_lt.mp xy) q)
theorem sorted_pw {ys : List Str} (h : sortedS ys = true) : ys.Pairwise fun a b => ¬ b.cps.toList < a.cps.toList := by
  cases ys with
  | nil => exact .nil
  | cons x r => exact rising_pw h
theorem sorted_ix {ys : List Str} (h : sortedS ys = true) (nd : ys.Nodup) {i j : Nat} {a b : Str} (ha : ys[i]? = some a) (hb : ys[j]? = some b) : a.cps.toList < b.cps.toList ↔ i < j := by
  have pw := List.pairwise_iff_getElem.mp (sorted_pw h)
  obtain ⟨la, ea⟩ := List.getElem?_eq_some_iff.mp ha
  obtain ⟨lb, eb⟩ := List.getElem?_eq_some_iff.mp hb
  constructor
  · intro q
    refine Nat.lt_of_not_le fun c => ?_
    rcases Nat.lt_or_eq_of_le c with c | c
    · have := pw j i lb la c
      rw [ea, eb] at this
      exact this q
    · subst c
      rw [ea] at eb
      rw [eb] at q
      exact List.lt_irrefl _ q
  · intro c
    have := pw i j la lb c
    rw [ea, eb] at this
    rcases Decidable.em (a.cps.toList < b.cps.toList) with d | d
    · exact d
    · have e : a = b := PySem.W.str_of_cps (List.le_antisymm (List.not_lt.mp this) (List.not_lt.mp d))
      rw [← e] at hb
      have := nd_ix nd ha hb
      omega
theorem toF_mon (nd : S.Nodup) (nO : O.Nodup) (hl : O.length = S.length) (sS : sortedS S = true) (sO : sortedS O = true) : MonS S (toF S O) := by
  refine ⟨toF_inj nd nO hl, fun a ha b hb => ?_⟩
  obtain ⟨i, hi⟩ := List.getElem?_of_mem ha
  obtain ⟨j, hj⟩ := List.getElem?_of_mem hb
  rw [PySem.W.dataLt_str, PySem.W.dataLt_str]
  exact decide_eq_decide.mpr ((sorted_ix sO nO (toF_at nd hl hi) (toF_at nd hl hj)).trans (sorted_ix sS nd hi hj).symm)
end
/-! ### dicts of pairs with different keys -/
theorem putK_fresh9 {kvs : List (Key × V)} {k : Key} {v : V} (h : k ∉ kvs.map (·.1)) : putK kvs k v = kvs ++ [(k, v)] := by
  unfold putK
  rw [if_neg]
  intro q
  obtain ⟨p, mp, e⟩ := List.any_eq_true.mp q
  exact h (by rw [← of_decide_eq_true e]; exact List.mem_map_of_mem mp)
theorem merge_nd : ∀ {more acc : List (Key × V)}, ((acc ++ more).map (·.1)).Nodup → mergeK acc more = acc ++ more
  | [], acc, _ => (List.append_nil _).symm
  | p :: r, acc, nd => by
    have h : p.1 ∉ acc.map (·.1) := fun m => by
      rw [List.map_append, List.map_cons] at nd
      exact (List.nodup_append.mp nd).2.2 p.1 m p.1 List.mem_cons_self rfl
    have e : putK acc p.1 p.2 = acc ++ [p] := putK_fresh9 h
    show mergeK (putK acc p.1 p.2) r = _
    rw [e, merge_nd (by rw [List.append_assoc]; exact nd), List.append_assoc]
    rfl
theorem merge_names {S : List Str} {f : Str → Str} (nd : S.Nodup) : mergeK [] (S.map fun z => ((Sum.inr z : Key), V.str (f z))) = S.map fun z => ((Sum.inr z : Key), V.str (f z)) := by
  have := merge_nd (acc := []) (more := S.map fun z => ((Sum.inr z : Key), V.str (f z))) (by
    rw [List.nil_append, List.map_map]
    exact List.Pairwise.map _ (fun a b q c => q (Sum.inr.inj c)) nd)
  rwa [List.nil_append] at this
end SE
namespace SE
open PySem PySem.Spec PyProof.Rows L2
section
variable {P : Program} {w : World} {K : PySem.W.Frag} {mg : Str → Option Value} {base : Heap} {C : Addr}
theorem StepsH.same9 {H H' : Hp} {xs : List V} {ss : List Stp} (h : StepsH H xs ss) (s : Same H H') : StepsH H' xs ss := Paired.mapP h fun _ _ q => by
  obtain ⟨t, e, z⟩ := q
  exact ⟨t, e, s _ _ z⟩
theorem StepsH.but9 {H H' : Hp} {p : Addr} {xs : List V} {ss : List Stp} (h : StepsH H xs ss) (pl : Pool H p) (b : But p H H') : StepsH H' xs ss := Paired.mapP h fun _ _ q => by
  obtain ⟨t, e, z⟩ := q
  exact ⟨t, e, b _ _ (fun c => by obtain ⟨m, s, y, _⟩ := pl.ex; rw [c, y] at z; cases z) z⟩
theorem StepsH.updL {H : Hp} {D : Addr} {ws : List V} {o : HO} {xs : List V} {ss : List Stp} (hD : H D = some (.lst ws)) (h : StepsH H xs ss) : StepsH (L2.upd H D o) xs ss := Paired.mapP h fun _ _ q => by
  obtain ⟨t, e, z⟩ := q
  exact ⟨t, e, by rw [upd_ne (fun c => by rw [c, hD] at z; cases z)]; exact z⟩
/-- a way: a list of steps beside the pool and the list D -/
def WyV (p D : Addr) (H : Hp) (a : Addr) (ss : List Stp) : Prop := a ≠ p ∧ a ≠ D ∧ ∃ us, H a = some (.lst us) ∧ StepsH H us ss
section
variable {p D : Addr} {H H' : Hp} {a : Addr} {ss : List Stp}
theorem WyV.same (h : WyV p D H a ss) (s : Same H H') : WyV p D H' a ss := ⟨h.1, h.2.1, h.2.2.elim fun us q => ⟨us, s _ _ q.1, q.2.same9 s⟩⟩
theorem WyV.but (h : WyV p D H a ss) (pl : Pool H p) (b : But p H H') : WyV p D H' a ss := ⟨h.1, h.2.1, h.2.2.elim fun us q => ⟨us, b _ _ h.1 q.1, q.2.but9 pl b⟩⟩
theorem WyV.updD {ws : List V} {o : HO} (h : WyV p D H a ss) (hD : H D = some (.lst ws)) : WyV p D (L2.upd H D o) a ss := ⟨h.1, h.2.1, h.2.2.elim fun us q => ⟨us, by rw [upd_ne h.2.1]; exact q.1, q.2.updL hD⟩⟩
end
/-- items, others and the dict -/
structure Z9 (H2 : Hp) (p il ol nd : Addr) (S O : List Str) (H : Hp) : Prop where
  s2 : Same H2 H
  pl : Pool H p
  hi : H il = some (.lst (S.map V.str))
  ho : H ol = some (.lst (O.map V.str))
  nm : NmF H nd S (toF S O)
section
variable {H2 H H' : Hp} {p il ol nd : Addr} {S O : List Str}
theorem Z9.same (h : Z9 H2 p il ol nd S O H) (s : Same H H') : Z9 H2 p il ol nd S O H' := ⟨h.s2.trans s, h.pl.same s, s _ _ h.hi, s _ _ h.ho, h.nm.same s⟩
theorem Z9.but (h : Z9 H2 p il ol nd S O H) (b : But p H H') (pl : Pool H' p) (n : H2 p = none) (n1 : il ≠ p) (n2 : ol ≠ p) : Z9 H2 p il ol nd S O H' := ⟨Same.but3 h.s2 n b, pl, b _ _ n1 h.hi, b _ _ n2 h.ho, h.nm.but h.pl b⟩
theorem Z9.updL {c : Addr} {ws : List V} {o : HO} (h : Z9 H2 p il ol nd S O H) (n : H2 c = none) (hc : H c = some (.lst ws)) (n0 : c ≠ p) (n1 : c ≠ il) (n2 : c ≠ ol) : Z9 H2 p il ol nd S O (L2.upd H c o) := by
  obtain ⟨m, s, e, r⟩ := h.pl.ex
  refine ⟨Same.free2 h.s2 n, ⟨m, s, by rw [upd_ne (Ne.symm n0)]; exact e, r⟩, by rw [upd_ne (Ne.symm n1)]; exact h.hi, by rw [upd_ne (Ne.symm n2)]; exact h.ho, ⟨?_, h.nm.nd⟩⟩
  rw [upd_ne (fun q => by have := h.nm.at_; rw [q, hc] at this; cases this)]
  exact h.nm.at_
theorem Z9.fresh {c : Addr} (h : Z9 H2 p il ol nd S O H) (n : H c = none) : c ≠ p ∧ c ≠ il ∧ c ≠ ol ∧ H2 c = none :=
  ⟨fun e => (by obtain ⟨_, _, q, _⟩ := h.pl.ex; rw [e, q] at n; cases n), fun e => (by rw [e, h.hi] at n; cases n), fun e => (by rw [e, h.ho] at n; cases n), h.s2.free n⟩
end
theorem smR_led {S ys : List Str} {f : Str → Str} {ss : List Stp} (ij : InjS S f) (hm : ∀ s ∈ ss, s.2 ∈ S) (py : ys.Perm (S.map f)) : smR ys (effM (ledW f ss)) = smR S (effM ss) := by
  have yl : ys.length = S.length := by rw [py.length_eq, List.length_map]
  rw [eff_led ij hm]
  cases e : effM ss with
  | none =>
    show (ys.length : Int) * ((ys.length : Int) - 1) = (S.length : Int) * ((S.length : Int) - 1)
    rw [yl]
  | some A =>
    obtain ⟨xs, zs, pk⟩ := A
    have hi := eff_in hm _ e
    exact many_led hi.a hi.b py
/-! ### the law -/
def spLaw (K : PySem.W.Frag) : Sp := fun xs H Q _ => ∃ (a : Addr) (ns : List Int), xs = [.ref a] ∧ SqL K H a (ns.map V.int) ∧ ns.length ≤ 63 ∧ ∀ H', Q (.bl true) H'
abbrev nLaw : List Str := ["_law_script", "_law_k", "_law_pool_here", "_law_many", "_law_items_here", "_law_others", "_law_at", "_law_names", "_law_ways", "_law_every", "_law_turned", "_law_effect", "_law_turn", "_law_way"]
theorem scLaw : FnScope nLaw ["_law_script"] (defScope sLaw) := ⟨rfl, rfl, rfl, by decide +kernel, rfl, by decide +kernel, by decide +kernel⟩
theorem ok_law {f : Addr} {fd : FuncData} (F : Fun K "law" "law" sLaw f fd) (GPl : Has P w K mg base "_law_pool" 1 ["_law_script", "_law_k"] [] (spPool K)) (GT : Has P w K mg base "_law_take" 1 ["_law_pool_here", "_law_many"] [] spTake) (GI : Has P w K mg base "_law_items" 3 ["_law_pool_here", "_law_many"] [] spItems)
    (GS : Has P w K mg base "_law_steps" 2 ["_law_pool_here", "_law_items_here", "_law_many"] [] spSteps) (GWd : Has P w K mg base "_law_word" 2 ["_law_pool_here", "_law_items_here", "_law_most"] [] spWord) (GE : Has P w K mg base "effect_of" 8 ["steps"] [] (spEffOf K C)) (GPr : Has P w K mg base "_law_pair_right" 10 pPr [] (spPr9 K C))
    (GGr : Has P w K mg base "_law_groups_right" 8 pGr [] (spGr K C)) (GEx : Has P w K mg base "_law_exchanged_right" 9 pEx [] (spEx K C)) (GSm : Has P w K mg base "shortest_many" 4 ["effect", "items"] [] (spSm K C)) (GL : Has P w K mg base "_law_effect_led" 7 ["_law_effect", "_law_names"] [] (spEl K C))
    (B : Blt mg) (mr : mg "range" = none) (mx : mg "max" = none) (mn : mg "min" = none) (md : mg "dict" = none) (mt : mg "tuple" = none) (ms : mg "sorted" = none) : GOk P w K mg base 11 f fd ["_law_script"] (spLaw K) := by
  refine gok_mk F scLaw (fun xs H Q E h => ?_) (fun cv A' out s H xs Q E hgu hr h => ?_)
  · obtain ⟨a, ns, rfl, _⟩ := h
    rfl
  · obtain ⟨a, ns, rfl, hS, hlen, k⟩ := h
    have hr1 : Room 1 _ := hr.mono (by decide)
    have hr2 : Room 2 _ := hr.mono (by decide)
    have hr3 : Room 3 _ := hr.mono (by decide)
    have hr4 : Room 4 _ := hr.mono (by decide)
    have hr7 : Room 7 _ := hr.mono (by decide)
    have hr8 : Room 8 _ := hr.mono (by decide)
    have hr9 : Room 9 _ := hr.mono (by decide)
    refine ⟨_, (pss_cons (ps_for PassesOwn.never rfl (pi_range1 (by rfl) mr (pa_cons (pe_callB (call_max2 rfl) (by rfl) mx (by decide +kernel) (pa_cons pe_int (pa_cons (pe_callB (call_min2 rfl) (by rfl) mn (by decide +kernel) (pa_cons (pe_callB call_len_seq (by rfl) B.len PySem.boot_len (pa_cons (pv 0) pa_nil)) (pa_cons pe_int pa_nil))) pa_nil))) pa_nil)) (pg_name (i := 1) scLaw.nd rfl (.inl rfl)) (pss_cons (ps_set (i := 2) scLaw.nd rfl (.inr rfl) (pe_has GPl hr1 (pa_cons (pv 0) (pa_cons (pv 1) pa_nil))))
      (pss_cons (ps_set (i := 3) scLaw.nd rfl (.inr rfl) (pe_op op_add pe_int (pe_has GT hr1 (pa_cons (pv 2) (pa_cons pe_int pa_nil)))))
      (pss_cons (ps_asg (pe_tup (pa_cons (pe_callB cr_sortedS (by rfl) ms (by decide +kernel) (pa_cons (pe_has GI hr3 (pa_cons (pv 2) (pa_cons (pv 3) pa_nil))) pa_nil)) (pa_cons (pe_callB cr_sortedS (by rfl) ms (by decide +kernel) (pa_cons (pe_has GI hr3 (pa_cons (pv 2) (pa_cons (pv 3) pa_nil))) pa_nil)) pa_nil))) (pg_tup (by rfl) (pgs_cons (pg_name (i := 4) scLaw.nd rfl (.inr rfl)) (pgs_cons (pg_name (i := 5) scLaw.nd rfl (.inr rfl)) pgs_nil))))
      (pss_cons (ps_set (i := 7) scLaw.nd rfl (.inl rfl) (pe_callTy (call_dictP rfl) (by rfl) md (by decide +kernel) (pa_cons (pe_lc (own := [("_law_at", 6)]) (g := gName 6) (tt := tYes) (te := tTup (tCons (tOp (rIxL K) (tVar 4) (tVar 6)) (tCons (tOp (rIxL K) (tVar 5) (tVar 6)) tNil))) rfl scLaw.nd (pi_range1 (by rfl) mr (pa_cons (pv 3) pa_nil)) (blkOk_by (own := [("_law_at", 6)]) (N := nLaw) (sc := defScope sLaw) (by decide +kernel)) (fun _ _ _ _ _ => (pg_name (i := 6) scLaw.nd rfl (.inl rfl))) (fun _ _ _ _ _ => pts_nil) (fun _ _ _ _ _ => (pe_tup (pa_cons (pe_ix ix_list (pv 4) (pv 6) (fun _ _ => rfl)) (pa_cons (pe_ix ix_list (pv 5) (pv 6) (fun _ _ => rfl)) pa_nil))))) pa_nil)))
      (pss_cons (ps_setLc (i := 8) (own := [("_law_turn", 12)]) (g := gName 12) (tt := tYes) (te := tCall spSteps [] E0 (tCons (tVar 2) (tCons (tVar 4) (tCons (tCall spTake [] E0 (tCons (tVar 2) (tCons (tC (.int 9)) tNil))) tNil)))) rfl scLaw.nd rfl rfl (sw_true rfl rfl rfl (by decide +kernel)) (pi_range1 (by rfl) mr (pa_cons pe_int pa_nil)) (blkOk_by (own := [("_law_turn", 12)]) (N := nLaw) (sc := defScope sLaw) (by decide +kernel)) (fun _ _ _ _ _ => (pg_name (i := 12) scLaw.nd rfl (.inl rfl))) (fun _ _ _ _ _ => pts_nil) (fun _ _ _ _ _ => (pe_has GS hr2 (pa_cons (pv 2) (pa_cons (pv 4) (pa_cons (pe_has GT hr1 (pa_cons (pv 2) (pa_cons pe_int pa_nil))) pa_nil))))))
      (pss_cons (ps_setLc (i := 9) (own := [("_law_way", 13)]) (g := gName 13) (tt := tYes) (te := tCall (spEffOf K C) [] E0 (tCons (tVar 13) tNil)) rfl scLaw.nd rfl rfl (sw_true rfl rfl rfl (by decide +kernel)) (pi_list (pv 8)) (blkOk_by (own := [("_law_way", 13)]) (N := nLaw) (sc := defScope sLaw) (by decide +kernel)) (fun _ _ _ _ _ => (pg_name (i := 13) scLaw.nd rfl (.inl rfl))) (fun _ _ _ _ _ => pts_nil) (fun _ _ _ _ _ => (pe_has GE hr8 (pa_cons (pv 13) pa_nil))))
      (pss_cons (ps_for PassesOwn.never rfl (pi_range1 (by rfl) mr (pa_cons pe_int pa_nil)) (pg_name (i := 6) scLaw.nd rfl (.inl rfl)) (pss_one (ps_if (pt_not (pt_val (pe_has GPr hr (pa_cons (pe_ix ix_list (pv 9) (pv 6) (fun _ _ => rfl)) (pa_cons (pe_ix ix_list (pv 9) (pe_op op_add (pv 6) pe_int) (fun _ _ => rfl)) (pa_cons (pe_slice sl_list (pv 8) (po_some (pv 6)) (po_some (pe_op op_add (pv 6) pe_int))) (pa_cons (pv 7) pa_nil))))))) (pss_one (ps_ret pe_bl)) pss_nil)))
      (pss_cons (ps_if (pt_not (pt_val (pe_has GGr hr8 (pa_cons (pv 9) (pa_cons (pe_has GWd hr2 (pa_cons (pv 2) (pa_cons (pv 4) (pa_cons pe_int pa_nil)))) (pa_cons (pv 7) pa_nil)))))) (pss_one (ps_ret pe_bl)) pss_nil)
      (pss_cons (ps_set (i := 10) scLaw.nd rfl (.inl rfl) (pe_callTy (call_dictP rfl) (by rfl) md (by decide +kernel) (pa_cons (pe_lc (own := [("_law_at", 6)]) (g := gName 6) (tt := tYes) (te := tTup (tCons (tOp (rIxL K) (tVar 4) (tVar 6)) (tCons (tOp (rIxL K) (tVar 5) (tOp (rI0 fun i j => .int (i - j)) (tOp (rI0 fun i j => .int (i - j)) (tVar 3) (tC (.int 1))) (tVar 6))) tNil))) rfl scLaw.nd (pi_range1 (by rfl) mr (pa_cons (pv 3) pa_nil)) (blkOk_by (own := [("_law_at", 6)]) (N := nLaw) (sc := defScope sLaw) (by decide +kernel)) (fun _ _ _ _ _ => (pg_name (i := 6) scLaw.nd rfl (.inl rfl))) (fun _ _ _ _ _ => pts_nil) (fun _ _ _ _ _ => (pe_tup (pa_cons (pe_ix ix_list (pv 4) (pv 6) (fun _ _ => rfl)) (pa_cons (pe_ix ix_list (pv 5) (pe_op op_sub (pe_op op_sub (pv 3) pe_int) (pv 6)) (fun _ _ => rfl)) pa_nil))))) pa_nil)))
      (pss_cons (ps_if (PW.pt (pw_or (pt_not (pt_val (pe_has GEx hr9 (pa_cons (pv 2) (pa_cons (pv 9) (pa_cons (pv 4) (pa_cons (pv 7) pa_nil))))))) (pw_or1 (pt_not (pt_val (pe_has GEx hr9 (pa_cons (pv 2) (pa_cons (pv 9) (pa_cons (pv 4) (pa_cons (pv 10) pa_nil)))))))))) (pss_one (ps_ret pe_bl)) pss_nil)
      (pss_one (ps_for PassesOwn.never rfl (pi_list (pv 9)) (pg_name (i := 11) scLaw.nd rfl (.inl rfl)) (pss_one (ps_if (pt_cmpR op_ne (pe_has GSm hr4 (pa_cons (pv 11) (pa_cons (pv 4) pa_nil))) (pe_has GSm hr4 (pa_cons (pe_has GL hr7 (pa_cons (pv 11) (pa_cons (pv 7) pa_nil))) (pa_cons (pe_callTy call_tuple_of (by rfl) mt (by decide +kernel) (pa_cons (pv 5) pa_nil)) pa_nil))) (nomark _)) (pss_one (ps_ret pe_bl)) pss_nil)))))))))))))))
      (pss_one (ps_ret pe_bl))), ?_⟩
    refine ⟨_, rfl, a, _, rfl, .inl hS, _, 6, rfl, 1, _, rfl, ?_⟩
    have hN : ∀ n : Nat, (1 : Int) ≤ (if (if (6 : Int) < (n : Int) then 6 else (n : Int)) > 1 then (if (6 : Int) < (n : Int) then 6 else (n : Int)) else 1) ∧ (if (if (6 : Int) < (n : Int) then 6 else (n : Int)) > 1 then (if (6 : Int) < (n : Int) then 6 else (n : Int)) else 1) ≤ 6 := by
      intro n
      split <;> split <;> omega
    have hN1 := hN (ns.map V.int).length
    generalize hM : (if (if (6 : Int) < ((ns.map V.int).length : Int) then 6 else ((ns.map V.int).length : Int)) > 1 then (if (6 : Int) < ((ns.map V.int).length : Int) then 6 else ((ns.map V.int).length : Int)) else 1) = N at hN1
    refine ⟨N, by rw [← hM], by omega, by omega, for_range (lo := 0) (n := N.toNat) (fun i σ H2 => ∃ (y1 y2 y3 y4 y5 y6 y7 y8 y9 y10 y11 y12 y13 : Option V), σ = [some (.ref a), y1, y2, y3, y4, y5, y6, y7, y8, y9, y10, y11, y12, y13] ∧ Same H H2) ⟨_, _, _, _, _, _, _, _, _, _, _, _, _, rfl, Same.refl H⟩ ?_ ?_⟩
    rotate_left
    · rintro σ H2 ⟨y1, y2, y3, y4, y5, y6, y7, y8, y9, y10, y11, y12, y13, rfl, s2⟩
      exact k _
    rintro i σ H2 hi ⟨y1, y2, y3, y4, y5, y6, y7, y8, y9, y10, y11, y12, y13, rfl, s2⟩
    refine ⟨_, rfl, _, rfl, a, ns, 0 + i, rfl, Same.seq s2 hS, by omega, by omega, fun p H3 s3 hp p3 => ?_⟩
    refine ⟨_, rfl, p, 3, rfl, p3, by decide, by decide, fun r H4 b4 p4 r0 r1 => ⟨2, r, rfl, rfl, ?_⟩⟩
    obtain ⟨m, rfl⟩ : ∃ m : Nat, r = (m : Int) := ⟨r.toNat, by omega⟩
    have em : (2 : Int) + (m : Int) = ((2 + m : Nat) : Int) := by omega
    dsimp only
    rw [em]
    have m4 : 2 + m ≤ 4 := by omega
    have m2 : 2 ≤ 2 + m := by omega
    generalize 2 + m = M at m4 m2
    clear em r0 r1
    have hpn : H2 p = none := hp
    -- items and others
    refine ⟨_, rfl, _, rfl, p, (M : Int), rfl, p4, by omega, by omega, fun l1 z1 H5 b5 p5 l10 l1p hl1 lz1 iz1 nz1 => ?_⟩
    refine ⟨l1, z1, rfl, .of hl1, by omega, fun S il pS sS hil0 => ?_⟩
    have s56 := Same.new (o := .lst (S.map V.str)) hil0
    have hil : upd H5 il (.lst (S.map V.str)) il = some (.lst (S.map V.str)) := upd_same
    have p6 := p5.same s56
    have ilp : il ≠ p := fun e => by
      obtain ⟨_, _, q, _⟩ := p5.ex
      rw [e, q] at hil0
      cases hil0
    have b56 : But p H3 (upd H5 il (.lst (S.map V.str))) := (b4.trans b5).trans (but_same s56)
    generalize upd H5 il (.lst (S.map V.str)) = H6 at hil p6 b56 ⊢
    clear s56 hil0 p5 b5 b4 p4
    refine ⟨_, rfl, _, rfl, p, (M : Int), rfl, p6, by omega, by omega, fun l2 z2 H7 b7 p7 l20 l2p hl2 lz2 iz2 nz2 => ?_⟩
    refine ⟨l2, z2, rfl, .of hl2, by omega, fun O ol pO sO hol0 => ⟨by show 2 ≤ sizeLine; decide, fun T0 hT0 => ⟨T0, _, rfl, .of upd_same, rfl, _, _, rfl, _, _, rfl, rfl, ?_⟩⟩⟩
    have sol := Same.new (o := .lst (O.map V.str)) hol0
    have sT0 := Same.new (o := .tup [V.ref il, .ref ol]) hT0
    have olp : ol ≠ p := fun e => by
      obtain ⟨_, _, q, _⟩ := p7.ex
      rw [e, q] at hol0
      cases hol0
    have sz := sol.trans sT0
    have hi9 := sz _ _ (b7 _ _ ilp hil)
    have ho9 := sT0 _ _ (upd_same (H := H7) (a := ol) (o := .lst (O.map V.str)))
    have p9 := p7.same sz
    have s29 : Same H2 (upd (upd H7 ol (.lst (O.map V.str))) T0 (.tup [V.ref il, .ref ol])) := (Same.but3 s3 hp (b56.trans b7)).trans sz
    generalize upd (upd H7 ol (.lst (O.map V.str))) T0 (.tup [V.ref il, .ref ol]) = H9 at hi9 ho9 p9 s29 ⊢
    clear sol sT0 sz hol0 hT0 b7 b56 p7 p6 hil hl1 hl2 l10 l20 s3
    have ndS : S.Nodup := pS.nodup_iff.mpr nz1
    have ndO : O.Nodup := pO.nodup_iff.mpr nz2
    have lS : S.length = M := by rw [pS.length_eq, lz1]; omega
    have lO : O.length = M := by rw [pO.length_eq, lz2]; omega
    have iS : ∀ z ∈ S, Item z := fun z m => iz1 z (pS.mem_iff.mp m)
    have iO : ∀ z ∈ O, Item z := fun z m => iz2 z (pO.mem_iff.mp m)
    have lOS : O.length = S.length := by omega
    have mo := toF_mon ndS ndO lOS sS sO
    have iF : ∀ z ∈ S, Item (toF S O z) := fun z m => iO _ (toF_in ndS lOS m)
    have S0 : S ≠ [] := fun e => by rw [e] at lS; simp only [List.length_nil] at lS; omega
    clear pS pO nz1 nz2 iz1 iz2 lz1 lz2
    -- names
    refine ⟨_, rfl, (M : Int), rfl, by omega, by omega, fun DD hDD => lc_it (walk_range (lo := 0) (n := M)) (fun j HX => ∃ ps : List Addr, HX DD = some (.lst (ps.map V.ref)) ∧ Paired (fun (q : Addr) (kv : Key × V) => SqT K HX q [kV kv.1, kv.2]) ps ((S.map fun z => ((Sum.inr z : Key), V.str (toF S O z))).take j) ∧ Same H9 HX) ⟨[], upd_same, .nil, Same.new hDD⟩ (fun _ _ _ _ => trivial) ?_ ?_⟩
    · rintro j x HX HY hj ⟨ps, hps, hP, sX⟩ ⟨rfl, rfl⟩
      obtain ⟨z, hz⟩ : ∃ z, S[j]? = some z := ⟨_, List.getElem?_eq_getElem (by omega)⟩
      have ho := toF_at ndS lOS hz
      have lP := paired_len hP
      rw [List.length_take, List.length_map] at lP
      refine ⟨rfl, yes_in ⟨_, rfl, _, rfl, il, _, 0 + j, .str z, rfl, rfl, .of (sX _ _ hi9), at_of (j := j) (by omega) (by rw [List.getElem?_map, hz]; rfl), _, rfl, _, rfl, ol, _, 0 + j, .str (toF S O z), rfl, rfl, .of (sX _ _ ho9), at_of (j := j) (by omega) (by rw [List.getElem?_map, ho]; rfl), by show 2 ≤ sizeLine; decide, fun T hT => ?_⟩⟩
      have sT := Same.new (o := .tup [.str z, .str (toF S O z)]) hT
      refine ⟨ps.map V.ref, sT _ _ hps, by rw [List.length_map, sizeLine_eq]; omega, ps ++ [T], by rw [upd_same, List.map_append]; rfl, ?_, Same.free2 (sX.trans sT) hDD⟩
      rw [List.take_add_one, List.getElem?_map, hz, Option.map_some, Option.toList_some]
      exact Paired.snoc2 (Paired.mapP hP fun _ _ q => tup_updL (sT _ _ hps) (Same.tup sT q)) (tup_updL (sT _ _ hps) (.of upd_same))
    rintro HA ⟨ps, hps, hP, sX⟩
    rw [List.take_of_length_le (by rw [List.length_map]; omega)] at hP
    dsimp only [tNil]
    refine ⟨DD, ps, _, rfl, .of hps, hP, fun nd hnd => ?_⟩
    rw [merge_names ndS]
    have sN := sX.trans (Same.new (o := .dK (S.map fun z => ((Sum.inr z : Key), V.str (toF S O z)))) hnd)
    have zN : Z9 H2 p il ol nd S O (upd HA nd (.dK (S.map fun z => ((Sum.inr z : Key), V.str (toF S O z))))) := ⟨s29.trans sN, p9.same sN, sN _ _ hi9, sN _ _ ho9, ⟨upd_same, ndS⟩⟩
    generalize upd HA nd (.dK (S.map fun z => ((Sum.inr z : Key), V.str (toF S O z)))) = HN at zN ⊢
    clear sN sX hP hps hDD hnd s29 p9 hi9 ho9
    -- ways
    refine ⟨5, rfl, by decide, by decide, fun WD hWD => ?_⟩
    obtain ⟨W0, W1, W2, W3⟩ := zN.fresh hWD
    refine lc_it (walk_range (lo := 0) (n := 5)) (fun j HX => ∃ (as : List Addr) (sss : List (List Stp)), HX WD = some (.lst (as.map V.ref)) ∧ Paired (WyV p WD HX) as sss ∧ sss.length = j ∧ (∀ ss ∈ sss, (∀ s ∈ ss, s.2 ∈ S) ∧ ss.length ≤ 9) ∧ Z9 H2 p il ol nd S O HX) ⟨[], [], upd_same, .nil, rfl, fun _ m => (by cases m), zN.same (Same.new hWD)⟩ (fun _ _ _ _ => trivial) ?_ ?_
    · rintro j x HX HY hj ⟨as, sss, hW, hP, lj, hs, zX⟩ ⟨rfl, rfl⟩
      have lA := paired_len hP
      refine ⟨rfl, yes_in ⟨_, rfl, _, rfl, _, rfl, p, 9, rfl, zX.pl, by decide, by decide, fun r HY bY pY r0 r1 => ⟨p, il, r, S, rfl, pY, ilp, bY _ _ ilp zX.hi, S0, by omega, iS, r0, by omega, fun t us ss HZ bZ pZ t0 ht hst ls ms => ?_⟩⟩⟩
      have bb := bY.trans bZ
      have tp : t ≠ p := fun e => by
        obtain ⟨_, _, q, _⟩ := pY.ex
        rw [e, q] at t0
        cases t0
      have hW' := bb _ _ W0 hW
      have tW : t ≠ WD := fun e => by
        have := bY _ _ W0 hW
        rw [e, this] at t0
        cases t0
      refine ⟨as.map V.ref, hW', by rw [List.length_map, sizeLine_eq]; omega, as ++ [t], sss ++ [ss], by rw [upd_same, List.map_append]; rfl, ?_, by rw [List.length_append, lj]; rfl, fun s m => ?_, ?_⟩
      · exact Paired.snoc2 (Paired.mapP hP fun _ _ q => (q.but zX.pl bb).updD hW') (WyV.updD ⟨tp, tW, us, ht, hst⟩ hW')
      · rcases List.mem_append.mp m with m | m
        · exact hs s m
        · rw [List.mem_singleton.mp m]
          exact ⟨ms, by omega⟩
      · exact (zX.but bb pZ hpn ilp olp).updL W3 hW' W0 W1 W2
    rintro HW ⟨as, sss, hW, hP, l5, hs, zW⟩
    have lA := paired_len hP
    have hSs : ∀ ss ∈ sss, SW S ss := fun ss m => ⟨(hs ss m).1, by have := (hs ss m).2; omega⟩
    clear zN hWD
    -- the effects
    refine ⟨_, rfl, WD, rfl, ⟨_, .of hW⟩, fun L hL0 => ?_⟩
    obtain ⟨L0, _, _, _⟩ := zW.fresh hL0
    refine lc_list (K := K) (a := WD) (xs := as.map V.ref) (fun j HX => ∃ es : List Addr, HX L = some (.lst (es.map V.ref)) ∧ Paired (fun e ss => EffV K C HX e (effM ss)) es (sss.take j) ∧ Same HW HX) ⟨[], upd_same, .nil, Same.new hL0⟩ (fun j HX _ q => ?_) ?_ ?_
    · obtain ⟨_, _, _, q⟩ := q
      exact .of (q _ _ hW)
    · rintro j x HX hx ⟨es, hes, hE, sX⟩
      rw [List.getElem?_map] at hx
      obtain ⟨a1, hj, rfl⟩ : ∃ e, as[j]? = some e ∧ x = V.ref e := by
        cases hq : as[j]? with
        | none =>
          rw [hq] at hx
          cases hx
        | some e =>
          rw [hq] at hx
          cases hx
          exact ⟨e, rfl, rfl⟩
      obtain ⟨ss, hss, w0, w1, us, hu, hst⟩ := paired_at hP hj
      have ws := hSs ss (List.mem_of_getElem? hss)
      have lE := paired_len hE
      rw [List.length_take] at lE
      refine ⟨rfl, yes_in ⟨_, rfl, a1, us, ss, rfl, .of (sX _ _ hu), by rw [hst.length]; have := ws.len; omega, (hst.same9 sX).v, ws.item iS, fun e HY sY he => ?_⟩⟩
      refine ⟨es.map V.ref, sY _ _ hes, by rw [List.length_map, sizeLine_eq]; omega, es ++ [e], by rw [upd_same, List.map_append]; rfl, ?_, Same.free2 (sX.trans sY) hL0⟩
      rw [List.take_add_one, hss, Option.toList_some]
      exact Paired.snoc2 (Paired.mapP hE fun _ _ q => EffV.updL (sY _ _ hes) (q.same sY)) (EffV.updL (sY _ _ hes) he)
    rintro HE ⟨es, hL, hE, sE⟩
    rw [List.length_map, lA, List.take_length] at hE
    have lES := paired_len hE
    have zE := zW.same sE
    have hWE := sE _ _ hW
    have hPE : Paired (WyV p WD HE) as sss := Paired.mapP hP fun _ _ q => q.same sE
    clear zW hW hP hL0 sE
    -- pairs
    refine ⟨4, rfl, by decide, by decide, for_range (lo := 0) (n := 4) (fun j σ HX => ∃ (x1 x6 x10 x11 x12 x13 : Option V), σ = [some (.ref a), x1, some (.ref p), some (.int M), some (.ref il), some (.ref ol), x6, some (.ref nd), some (.ref WD), some (.ref L), x10, x11, x12, x13] ∧ Same HE HX) ⟨_, _, _, _, _, _, rfl, Same.refl HE⟩ ?_ ?_⟩
    · rintro j σ HX hj ⟨x1, x6, x10, x11, x12, x13, rfl, sX⟩
      obtain ⟨ea, hea⟩ : ∃ e, es[j]? = some e := ⟨_, List.getElem?_eq_getElem (by omega)⟩
      obtain ⟨eb, heb⟩ : ∃ e, es[j + 1]? = some e := ⟨_, List.getElem?_eq_getElem (by omega)⟩
      obtain ⟨wa, hwa⟩ : ∃ e, as[j]? = some e := ⟨_, List.getElem?_eq_getElem (by omega)⟩
      obtain ⟨wb, hwb⟩ : ∃ e, as[j + 1]? = some e := ⟨_, List.getElem?_eq_getElem (by omega)⟩
      obtain ⟨sa, hsa, eva⟩ := paired_at hE hea
      obtain ⟨sb, hsb, evb⟩ := paired_at hE heb
      obtain ⟨sa', hsa', _, _, usa, hua, hta⟩ := paired_at hPE hwa
      obtain ⟨sb', hsb', _, _, usb, hub, htb⟩ := paired_at hPE hwb
      rw [hsa] at hsa'
      cases hsa'
      rw [hsb] at hsb'
      cases hsb'
      have ma := List.mem_of_getElem? hsa
      have mb := List.mem_of_getElem? hsb
      have la := (hs _ ma).2
      have lb := (hs _ mb).2
      refine ⟨_, rfl, _, rfl, L, _, 0 + j, .ref ea, rfl, rfl, .of (sX _ _ hL), at_of (j := j) (by omega) (by rw [List.getElem?_map, hea]; rfl), ?_⟩
      refine ⟨_, rfl, _, rfl, 0 + j, 1, rfl, rfl, L, _, 0 + j + 1, .ref eb, rfl, rfl, .of (sX _ _ hL), at_of (j := j + 1) (by omega) (by rw [List.getElem?_map, heb]; rfl), ?_⟩
      refine ⟨_, rfl, _, rfl, _, rfl, _, rfl, 0 + j, 2, rfl, rfl, _, rfl, WD, _, rfl, .of (sX _ _ hWE), fun FS hFS => ?_⟩
      have ec : cutV (as.map V.ref) (some (0 + (j : Int))) (some (0 + (j : Int) + 2)) = [.ref wa, .ref wb] := by
        rw [Int.zero_add]
        exact cutF_two V.ref as hwa hwb
      rw [ec]
      have sF := sX.trans (Same.new (o := .lst [V.ref wa, .ref wb]) hFS)
      have zF := zE.same sF
      refine ⟨_, rfl, ea, eb, FS, nd, wa, wb, S, toF S O, usa, usb, sa, sb, rfl, zF.nm.nm, mo, iS, iF, .of upd_same, .of (sF _ _ hua), .of (sF _ _ hub), (hta.same9 sF).v, (htb.same9 sF).v, hSs _ ma, hSs _ mb, by omega, eva.same sF, evb.same sF, fun H' s' => ⟨true, rfl, iteF ?_⟩⟩
      exact ⟨_, _, _, _, _, _, rfl, sF.trans s'⟩
    rintro σ HG ⟨x1, x6, x10, x11, x12, x13, rfl, sG⟩
    have zG := zE.same sG
    have hLG := sG _ _ hL
    have hEG : Paired (fun e ss => EffV K C HG e (effM ss)) es sss := Paired.mapP hE fun _ _ q => q.same sG
    clear zE hWE hPE hL hE sG
    -- groups
    refine ⟨_, rfl, _, rfl, _, rfl, p, il, 4, S, rfl, zG.pl, ilp, zG.hi, S0, by omega, by decide, by decide, fun t ws HJ bJ pJ t0 ht lw mw => ?_⟩
    have zJ := zG.but bJ pJ hpn ilp olp
    have hLJ := bJ _ _ L0 hLG
    have hEJ : Paired (fun e ss => EffV K C HJ e (effM ss)) es sss := Paired.mapP hEG fun _ _ q => q.but zG.pl bJ
    refine ⟨_, rfl, L, t, nd, es, sss, S, toF S O, ws, rfl, zJ.nm.nm, mo, iS, iF, ⟨.of hLJ, hEJ, hSs, by omega, by omega⟩, .of ht, mw, by omega, fun HK sK => ⟨true, rfl, iteF ?_⟩⟩
    have zK := zJ.same sK
    have hLK := sK _ _ hLJ
    have hEK : Paired (fun e ss => EffV K C HK e (effM ss)) es sss := Paired.mapP hEJ fun _ _ q => q.same sK
    clear zJ hLJ hEJ zG hLG hEG bJ pJ t0 ht lw mw
    -- turned
    have lR : O.reverse.length = S.length := by rw [List.length_reverse]; exact lOS
    have ndR : O.reverse.Nodup := (List.reverse_perm O).nodup_iff.mpr ndO
    have iR : ∀ z ∈ S, Item (toF S O.reverse z) := fun z m => iO _ (List.mem_reverse.mp (toF_in ndS lR m))
    refine ⟨_, rfl, (M : Int), rfl, by omega, by omega, fun DD hDD => lc_it (walk_range (lo := 0) (n := M)) (fun j HX => ∃ ps : List Addr, HX DD = some (.lst (ps.map V.ref)) ∧ Paired (fun (q : Addr) (kv : Key × V) => SqT K HX q [kV kv.1, kv.2]) ps ((S.map fun z => ((Sum.inr z : Key), V.str (toF S O.reverse z))).take j) ∧ Same HK HX) ⟨[], upd_same, .nil, Same.new hDD⟩ (fun _ _ _ _ => trivial) ?_ ?_⟩
    · rintro j x HX HY hj ⟨ps, hps, hP, sX⟩ ⟨rfl, rfl⟩
      obtain ⟨z, hz⟩ : ∃ z, S[j]? = some z := ⟨_, List.getElem?_eq_getElem (by omega)⟩
      have ho := toF_at ndS lR hz
      rw [List.getElem?_reverse (by omega)] at ho
      have lP := paired_len hP
      rw [List.length_take, List.length_map] at lP
      refine ⟨rfl, yes_in ⟨_, rfl, _, rfl, il, _, 0 + j, .str z, rfl, rfl, .of (sX _ _ zK.hi), at_of (j := j) (by omega) (by rw [List.getElem?_map, hz]; rfl), ?_⟩⟩
      refine ⟨_, rfl, _, rfl, _, 1, rfl, rfl, _, rfl, _, 0 + j, rfl, rfl, ol, _, (M : Int) - 1 - (0 + j), .str (toF S O.reverse z), rfl, rfl, .of (sX _ _ zK.ho), at_of (j := O.length - 1 - j) (by omega) (by rw [List.getElem?_map, ho]; rfl), by show 2 ≤ sizeLine; decide, fun T hT => ?_⟩
      have sT := Same.new (o := .tup [.str z, .str (toF S O.reverse z)]) hT
      refine ⟨ps.map V.ref, sT _ _ hps, by rw [List.length_map, sizeLine_eq]; omega, ps ++ [T], by rw [upd_same, List.map_append]; rfl, ?_, Same.free2 (sX.trans sT) hDD⟩
      rw [List.take_add_one, List.getElem?_map, hz, Option.map_some, Option.toList_some]
      exact Paired.snoc2 (Paired.mapP hP fun _ _ q => tup_updL (sT _ _ hps) (Same.tup sT q)) (tup_updL (sT _ _ hps) (.of upd_same))
    rintro HA ⟨ps, hps, hP, sX⟩
    rw [List.take_of_length_le (by rw [List.length_map]; omega)] at hP
    dsimp only [tNil]
    refine ⟨DD, ps, _, rfl, .of hps, hP, fun n2 hn2 => ?_⟩
    rw [merge_names ndS]
    have sN := sX.trans (Same.new (o := .dK (S.map fun z => ((Sum.inr z : Key), V.str (toF S O.reverse z)))) hn2)
    have zN := zK.same sN
    have nN : NmF (upd HA n2 (.dK (S.map fun z => ((Sum.inr z : Key), V.str (toF S O.reverse z))))) n2 S (toF S O.reverse) := ⟨upd_same, ndS⟩
    have hLN := sN _ _ hLK
    have hEN : Paired (fun e ss => EffV K C (upd HA n2 (.dK (S.map fun z => ((Sum.inr z : Key), V.str (toF S O.reverse z))))) e (effM ss)) es sss := Paired.mapP hEK fun _ _ q => q.same sN
    generalize upd HA n2 (.dK (S.map fun z => ((Sum.inr z : Key), V.str (toF S O.reverse z)))) = HN at zN nN hLN hEN ⊢
    clear sN sX hP hps hDD hn2 zK hLK hEK sK
    -- exchanged
    refine ⟨_, rfl, _, rfl, _, rfl, _, rfl, p, L, il, nd, es, sss, S, toF S O, rfl, zN.pl, L0, ilp, hLN, hEN, hSs, by omega, by omega, zN.nm, mo.inj, iS, iF, zN.hi, S0, by omega, fun HP bP pP => ?_⟩
    have zP := zN.but bP pP hpn ilp olp
    have nP := nN.but zN.pl bP
    have hLP := bP _ _ L0 hLN
    have hEP : Paired (fun e ss => EffV K C HP e (effM ss)) es sss := Paired.mapP hEN fun _ _ q => q.but zN.pl bP
    clear zN nN hLN hEN bP pP
    refine ⟨true, rfl, iteF ?_⟩
    refine ⟨_, rfl, _, rfl, _, rfl, _, rfl, p, L, il, n2, es, sss, S, toF S O.reverse, rfl, zP.pl, L0, ilp, hLP, hEP, hSs, by omega, by omega, nP, toF_inj ndS ndR lR, iS, iR, zP.hi, S0, by omega, fun HR bR pR => ⟨true, rfl, iteF ?_⟩⟩
    have zR := zP.but bR pR hpn ilp olp
    have hLR := bR _ _ L0 hLP
    have hER : Paired (fun e ss => EffV K C HR e (effM ss)) es sss := Paired.mapP hEP fun _ _ q => q.but zP.pl bR
    clear zP nP hLP hEP bR pR
    -- numbers
    refine ⟨_, rfl, L, rfl, ⟨_, .of hLR⟩, for_list (K := K) (a := L) (xs := es.map V.ref) (fun j σ HX => ∃ (x1 x6 x10 x11 x12 x13 : Option V), σ = [some (.ref a), x1, some (.ref p), some (.int M), some (.ref il), some (.ref ol), x6, some (.ref nd), some (.ref WD), some (.ref L), x10, x11, x12, x13] ∧ Same HR HX) ⟨_, _, _, _, _, _, rfl, Same.refl HR⟩ (fun j σ HX _ q => ?_) ?_ ?_⟩
    · obtain ⟨_, _, _, _, _, _, rfl, q⟩ := q
      exact .of (q _ _ hLR)
    rotate_left
    · rintro σ HX ⟨x1, x6, x10, x11, x12, x13, rfl, sX⟩
      exact ⟨_, _, _, _, _, _, _, _, _, _, _, _, _, rfl, zR.s2.trans sX |> s2.trans⟩
    rintro j x σ HX hx ⟨x1, x6, x10, x11, x12, x13, rfl, sX⟩
    rw [List.getElem?_map] at hx
    obtain ⟨e1, hj, rfl⟩ : ∃ e, es[j]? = some e ∧ x = V.ref e := by
      cases hq : es[j]? with
      | none =>
        rw [hq] at hx
        cases hx
      | some e =>
        rw [hq] at hx
        cases hx
        exact ⟨e, rfl, rfl⟩
    obtain ⟨ss, hss, ev⟩ := paired_at hER hj
    have ws := hSs ss (List.mem_of_getElem? hss)
    have zX := zR.same sX
    have ev := ev.same sX
    refine ⟨_, rfl, _, rfl, ?_⟩
    dsimp only [tNil, List.append_nil]
    refine sm_eff9 (ss := ss) ev (ws.item iS) ws.len ⟨.inl (.of zX.hi), by omega, ndS, iS⟩ rfl fun HY sY => ?_
    have zY := zX.same sY
    have ev := ev.same sY
    refine ⟨_, rfl, _, rfl, e1, nd, S, toF S O, effM ss, rfl, zY.nm.nm, iF, ev, (ws.ok iS).ok, (ws.ok iS).lp, eff_in ws.mem, fun e2 HZ sZ he => ?_⟩
    rw [← eff_led mo.inj ws.mem] at he
    have zZ := zY.same sZ
    refine ⟨_, rfl, ol, _, rfl, .inl ⟨.of zZ.ho, fun tt htt => ?_⟩⟩
    have sT := Same.new (o := .tup (O.map V.str)) htt
    dsimp only [tNil, List.append_nil]
    refine sm_eff9 (ss := ledW (toF S O) ss) (he.same sT) (ws.itemF iF) (by rw [ledW_len]; exact ws.len) ⟨.inr (.of upd_same), by omega, ndO, iO⟩ rfl fun HT sTT => ?_
    have eN : smR O (effM (ledW (toF S O) ss)) = smR S (effM ss) := smR_led mo.inj ws.mem (by rw [toF_map ndS lOS])
    rw [eN]
    exact ⟨rfl, false, congrArg V.bl (by rw [decide_eq_true rfl]; rfl), iteF ⟨_, _, _, _, _, _, rfl, (((sX.trans sY).trans sZ).trans sT).trans sTT⟩⟩
end
end SE
namespace SE
open PySem PySem.Spec PyProof.Rows L2
section
/-! ### what the top has left -/
theorem def_mk {K : PySem.W.Frag} {h : Heap} {mg : Str → Option Value} {x : Str} {st : Stmt} {f : Addr} {oc : Value} {od an : Option Addr} {osl : Array (Option Value)} {kV doc pm cdv ct : Value} (X : K.In h) (G : h.Ns mainGlobals mg)
    (a : PySem.W.nsIn K mainGlobals x = some (some (.ref f))) (l : K.lookup f = some ⟨oc, od, .func (PySem.W.fnOf x x (defArgs st) (defBody st) (defScope st) .none kV doc pm an cdv ct), osl⟩)
    (c : PySem.W.codeIn K cdv x = true) (k : PySem.W.keepIn K (.ref f) = true) : Def K mg x st := ⟨f, _, fun_mk l c k, PySem.W.mg_of X G a⟩
theorem defk_mk {K : PySem.W.Frag} {h : Heap} {mg : Str → Option Value} {x y : Str} {st : Stmt} {f d : Addr} {oc : Value} {od an : Option Addr} {osl : Array (Option Value)} {doc pm cdv ct : Value} (X : K.In h) (G : h.Ns mainGlobals mg)
    (a : PySem.W.nsIn K mainGlobals x = some (some (.ref f))) (l : K.lookup f = some ⟨oc, od, .func (PySem.W.fnOf x x (defArgs st) (defBody st) (defScope st) .none (.ref d) doc pm an cdv ct), osl⟩)
    (c : PySem.W.codeIn K cdv x = true) (k : PySem.W.keepIn K (.ref f) = true) (n : PySem.W.nsIn K d y = some (some .none)) : DefK K mg x st [(y, .non)] := by
  refine ⟨f, _, fun_mk l c k, ⟨⟨oc, od, .none, .ref d, doc, pm, an, cdv, ct, osl, rfl, l, c, .inl ⟨rfl, rfl⟩, .inr ⟨d, rfl, fun q hq => ?_⟩⟩, k⟩, PySem.W.mg_of X G a⟩
  rw [List.mem_singleton.mp hq]
  exact ⟨.none, n, rfl⟩
theorem init_mk {K : PySem.W.Frag} {x q y : Str} {st : Stmt} {f d : Addr} {oc : Value} {od an : Option Addr} {osl : Array (Option Value)} {doc pm cdv ct : Value}
    (l : K.lookup f = some ⟨oc, od, .func (PySem.W.fnOf x q (defArgs st) (defBody st) (defScope st) .none (.ref d) doc pm an cdv ct), osl⟩) (c : PySem.W.codeIn K cdv q = true) (k : PySem.W.keepIn K (.ref f) = true) (n : PySem.W.nsIn K d y = some (some .none)) :
    FunD K x q (defArgs st) (defBody st) (defScope st) [] [(y, .non)] f (PySem.W.fnOf x q (defArgs st) (defBody st) (defScope st) .none (.ref d) doc pm an cdv ct) := by
  refine ⟨⟨oc, od, .none, .ref d, doc, pm, an, cdv, ct, osl, rfl, l, c, .inl ⟨rfl, rfl⟩, .inr ⟨d, rfl, fun z hz => ?_⟩⟩, k⟩
  rw [List.mem_singleton.mp hz]
  exact ⟨.none, n, rfl⟩
theorem all_mk {l : PySem.W.OpenLaw} {w : World} {K : PySem.W.Frag} {h : Heap} {mg : Str → Option Value} {fa gI dI C D fL gP0 qP0 gP1 qP1 gP2 qP2 gP3 qP3 gP4 qP4 gM0 qM0 gQ gT gA dA DS DA : Addr} {tk1 tk2 tk3 tk4 tk5 tk6 tk7 tk8 tk9 tk10 tk11 tk12 : Tok} (X : K.In h) (G : h.Ns mainGlobals mg) (hfa : mg "law" = some (.ref fa))
    {odI anI : Option Addr} {slI : Array (Option Value)} {ocI dcI pmI cdI ctI : Value}
    {odP0 anP0 : Option Addr} {slP0 : Array (Option Value)} {ocP0 kVP0 dcP0 pmP0 cdP0 ctP0 : Value}
    {rP0 : List Value}
    {odP1 anP1 : Option Addr} {slP1 : Array (Option Value)} {ocP1 kVP1 dcP1 pmP1 cdP1 ctP1 : Value}
    {rP1 : List Value}
    {odP2 anP2 : Option Addr} {slP2 : Array (Option Value)} {ocP2 kVP2 dcP2 pmP2 cdP2 ctP2 : Value}
    {rP2 : List Value}
    {odP3 anP3 : Option Addr} {slP3 : Array (Option Value)} {ocP3 kVP3 dcP3 pmP3 cdP3 ctP3 : Value}
    {rP3 : List Value}
    {odP4 anP4 : Option Addr} {slP4 : Array (Option Value)} {ocP4 kVP4 dcP4 pmP4 cdP4 ctP4 : Value}
    {rP4 : List Value}
    {odM0 anM0 : Option Addr} {slM0 : Array (Option Value)} {ocM0 kVM0 dcM0 pmM0 cdM0 ctM0 : Value}
    {rM0 : List Value}
    {odQ anQ : Option Addr} {slQ : Array (Option Value)} {ocQ kVQ dcQ pmQ cdQ ctQ : Value}
    {odT anT : Option Addr} {slT : Array (Option Value)} {ocT kVT dcT pmT cdT ctT : Value}
    {odA anA : Option Addr} {slA : Array (Option Value)} {ocA dcA pmA cdA ctA : Value}
    {esS : Array DictEntry} {nS : Nat} {uS vS : Value}
    {esA : Array DictEntry} {nA' : Nat} {uA vA : Value}
    {odL anL : Option Addr} {slL : Array (Option Value)} {ocL kVL dcL pmL cdL ctL : Value} {es : Array DictEntry} {n : Nat} {uP uQ : Value}
    (d_is_whole : Def K mg "is_whole" sIsWhole)
    (d_is_between : Def K mg "is_between" sIsBetween)
    (d_is_item : Def K mg "is_item" sIsItem)
    (d_is_word : Def K mg "is_word" sIsWord)
    (d_is_step : Def K mg "is_step" sIsStep)
    (d_may_hold_steps : Def K mg "may_hold_steps" sMayHold)
    (d_is_sequence : Def K mg "is_sequence" sIsSeq)
    (d_is_limit : Def K mg "is_limit" sIsLimit)
    (d_check_limit : Def K mg "check_limit" sChkLimit)
    (d_is_too_high : Def K mg "is_too_high" sTooHigh)
    (d_check_steps : Def K mg "check_steps" sChkSteps)
    (d_check_word : Def K mg "check_word" sChkWord)
    (d_by_height : Def K mg "by_height" sByHeight)
    (d_first_success : Def K mg "first_success" sFirstSuccess)
    (d_first_beyond : Def K mg "first_beyond" sFirstBeyond)
    (d_least_peak : Def K mg "least_peak" sLeastPeak)
    (d_joined : Def K mg "joined" sJoined)
    (d_parts_of_step : Def K mg "parts_of_step" sPartsOfStep)
    (d_effect_of : Def K mg "effect_of" sEffectOf)
    (d_replaced : Def K mg "replaced" sReplaced)
    (d_are_candidates : Def K mg "are_candidates" sAreCandidates)
    (d_check_candidates : Def K mg "check_candidates" sCheckCandidates)
    (d_is_observation : Def K mg "is_observation" sIsObservation)
    (d_check_observations : Def K mg "check_observations" sCheckObservations)
    (d_gives_all : Def K mg "gives_all" sGivesAll)
    (d_possible : Def K mg "possible" sPossible)
    (d_indexes_by_result : Def K mg "indexes_by_result" sIndexesByResult)
    (d_outcomes : Def K mg "outcomes" sOutcomes)
    (d_largest_many : Def K mg "largest_many" sLargestMany)
    (d_best_stack : Def K mg "best_stack" sBestStack)
    (d_word_in : Def K mg "word_in" sWordIn)
    (d_steps_in : Def K mg "steps_in" sStepsIn)
    (d_number_in : Def K mg "number_in" sNumberIn)
    (d_text_of_number : Def K mg "text_of_number" sTextOfNumber)
    (d_effect_in : Def K mg "effect_in" sEffectIn)
    (d_format_word : Def K mg "format_word" sFormatWord)
    (d_format_steps : Def K mg "format_steps" sFormatSteps)
    (d_format_effect : Def K mg "format_effect" sFormatEffect)
    (d_parse_word : Def K mg "parse_word" sParseWord)
    (d_parse_steps : Def K mg "parse_steps" sParseSteps)
    (d_parse_effect : Def K mg "parse_effect" sParseEffect)
    (d_power : Def K mg "power" sPower)
    (d_surplus : Def K mg "surplus" sSurplus)
    (d_ways_many : Def K mg "ways_many" sWaysMany)
    (d_is_item_list : Def K mg "is_item_list" sIsItemList)
    (d_check_items : Def K mg "check_items" sCheckItems)
    (d_shortest_many : Def K mg "shortest_many" sShortestMany)
    (d__law_pool : Def K mg "_law_pool" sPool)
    (d__law_take : Def K mg "_law_take" sTake)
    (d__law_name : Def K mg "_law_name" sName)
    (d__law_items : Def K mg "_law_items" sItems)
    (d__law_steps : Def K mg "_law_steps" sSteps)
    (d__law_word : Def K mg "_law_word" sWord)
    (d__law_word_led : Def K mg "_law_word_led" sLawWordLed)
    (d__law_effect_led : Def K mg "_law_effect_led" sLawEffectLed)
    (d__law_written : Def K mg "_law_written" sLawWritten)
    (d__law_pair_right : Def K mg "_law_pair_right" sLawPairRight)
    (d__law_groups_right : Def K mg "_law_groups_right" sLawGroupsRight)
    (d__law_limits_right : Def K mg "_law_limits_right" sLawLimitsRight)
    (d__law_exchanged_right : Def K mg "_law_exchanged_right" sLawExchangedRight)
    (d_difference : DefK K mg "difference" sDifference [("limit", .non)])
    (d_commute : DefK K mg "commute" sCommute [("limit", .non)])
    (z_isinstance : PySem.W.nsIn K mainGlobals "isinstance" = some none)
    (z_str : PySem.W.nsIn K mainGlobals "str" = some none)
    (z_len : PySem.W.nsIn K mainGlobals "len" = some none)
    (z_all : PySem.W.nsIn K mainGlobals "all" = some none)
    (z_tuple : PySem.W.nsIn K mainGlobals "tuple" = some none)
    (z_list : PySem.W.nsIn K mainGlobals "list" = some none)
    (z_enumerate : PySem.W.nsIn K mainGlobals "enumerate" = some none)
    (z_range : PySem.W.nsIn K mainGlobals "range" = some none)
    (z_abs : PySem.W.nsIn K mainGlobals "abs" = some none)
    (z_int : PySem.W.nsIn K mainGlobals "int" = some none)
    (z_bool : PySem.W.nsIn K mainGlobals "bool" = some none)
    (z_max : PySem.W.nsIn K mainGlobals "max" = some none)
    (z_min : PySem.W.nsIn K mainGlobals "min" = some none)
    (z_sorted : PySem.W.nsIn K mainGlobals "sorted" = some none)
    (z_dict : PySem.W.nsIn K mainGlobals "dict" = some none)
    (z_set : PySem.W.nsIn K mainGlobals "set" = some none)
    (z_any : PySem.W.nsIn K mainGlobals "any" = some none)
    (cL : PySem.W.nsIn K mainGlobals "LETTERS" = some (some (.str abc tk1)))
    (cM : PySem.W.nsIn K mainGlobals "MOST_LETTERS" = some (some (.int 8 tk2)))
    (cS : PySem.W.nsIn K mainGlobals "MOST_STEPS" = some (some (.int 1000 tk3)))
    (cC : PySem.W.nsIn K mainGlobals "MOST_CANDIDATES" = some (some (.int 20 tk4)))
    (cLM : PySem.W.nsIn K mainGlobals "MOST_LIMIT" = some (some (.int 1000 tk5)))
    (cF : PySem.W.nsIn K mainGlobals "FIRST_ITEM" = some (some (.str "a" tk6)))
    (cJ : PySem.W.nsIn K mainGlobals "MOST_ITEMS" = some (some (.int 50 tk7)))
    (c1 : PySem.W.nsIn K mainGlobals "DIGITS" = some (some (.str "0123456789" tk8)))
    (c2 : PySem.W.nsIn K mainGlobals "MANY_DIGITS" = some (some (.int 1000000000000000000 tk9)))
    (c3 : PySem.W.nsIn K mainGlobals "EMPTY_WORD" = some (some (.str sDash tk10)))
    (c4 : PySem.W.nsIn K mainGlobals "EMPTY_SEQUENCE" = some (some (.str sDot tk11)))
    (c5 : PySem.W.nsIn K mainGlobals "NEVER" = some (some (.str "never" tk12)))
    (cO : PySem.W.nsIn K mainGlobals "OPPOSITES" = some (some (.ref D)))
    (lO : K.lookup D = some ⟨.type "dict", none, .dict es n, #[]⟩)
    (kO : PySem.W.KeysLit w.params es.toList)
    (wO : (D == sysModules) = false)
    (pO : PySem.W.nsIn K D "push" = some (some uP))
    (qO : PySem.W.nsIn K D "pop" = some (some uQ))
    (rP : RelV (.str "pop") uP)
    (rQ : RelV (.str "push") uQ)
    (aC : PySem.W.nsIn K mainGlobals "Effect" = some (some (.ref C)))
    (pg : PySem.W.plainGet K C Str.empty = true)
    (hd : PySem.W.hasDictIn K C = true)
    (po : PySem.W.plainOver K C = true)
    (sa : PySem.W.findIn K (.ref C) "__setattr__" = some (some (.builtin "object.__setattr__")))
    (nN : PySem.W.findIn K (.ref C) "needs" = some none)
    (nL : PySem.W.findIn K (.ref C) "leaves" = some none)
    (nH : PySem.W.findIn K (.ref C) "highest" = some none)
    (mkC : PySem.W.makesIn K C = true)
    (keC : PySem.W.keepIn K (.ref C) = true)
    (aI : PySem.W.findIn K (.ref C) "__init__" = some (some (.ref gI)))
    (iI : PySem.W.isFn K (.ref gI) = true)
    (lI : K.lookup gI = some ⟨ocI, odI, .func (PySem.W.fnOf "__init__" "Effect.__init__" (defArgs sInit) (defBody sInit) (defScope sInit) .none (.ref dI) dcI pmI anI cdI ctI), slI⟩)
    (cI : PySem.W.codeIn K cdI "Effect.__init__" = true)
    (kI : PySem.W.keepIn K (.ref gI) = true)
    (nI : PySem.W.nsIn K dI "peak" = some (some .none))
    (aP0 : PySem.W.findIn K (.ref C) "pops" = some (some (.ref qP0)))
    (bP0 : PySem.W.specialIn K (.ref qP0) "__get__" = some (some (.builtin "property.__get__")))
    (tP0 : PySem.W.takesIn K (.ref qP0) = some true)
    (uP0 : PySem.W.recIn K qP0 "property" = some (.ref gP0 :: rP0))
    (lP0 : K.lookup gP0 = some ⟨ocP0, odP0, .func (PySem.W.fnOf "pops" "Effect.pops" (defArgs sPops) (defBody sPops) (defScope sPops) .none kVP0 dcP0 pmP0 anP0 cdP0 ctP0), slP0⟩)
    (cP0 : PySem.W.codeIn K cdP0 "Effect.pops" = true)
    (kP0 : PySem.W.keepIn K (.ref gP0) = true)
    (aP1 : PySem.W.findIn K (.ref C) "pushes" = some (some (.ref qP1)))
    (bP1 : PySem.W.specialIn K (.ref qP1) "__get__" = some (some (.builtin "property.__get__")))
    (tP1 : PySem.W.takesIn K (.ref qP1) = some true)
    (uP1 : PySem.W.recIn K qP1 "property" = some (.ref gP1 :: rP1))
    (lP1 : K.lookup gP1 = some ⟨ocP1, odP1, .func (PySem.W.fnOf "pushes" "Effect.pushes" (defArgs sPushes) (defBody sPushes) (defScope sPushes) .none kVP1 dcP1 pmP1 anP1 cdP1 ctP1), slP1⟩)
    (cP1 : PySem.W.codeIn K cdP1 "Effect.pushes" = true)
    (kP1 : PySem.W.keepIn K (.ref gP1) = true)
    (aP2 : PySem.W.findIn K (.ref C) "is_never" = some (some (.ref qP2)))
    (bP2 : PySem.W.specialIn K (.ref qP2) "__get__" = some (some (.builtin "property.__get__")))
    (tP2 : PySem.W.takesIn K (.ref qP2) = some true)
    (uP2 : PySem.W.recIn K qP2 "property" = some (.ref gP2 :: rP2))
    (lP2 : K.lookup gP2 = some ⟨ocP2, odP2, .func (PySem.W.fnOf "is_never" "Effect.is_never" (defArgs sIsNever) (defBody sIsNever) (defScope sIsNever) .none kVP2 dcP2 pmP2 anP2 cdP2 ctP2), slP2⟩)
    (cP2 : PySem.W.codeIn K cdP2 "Effect.is_never" = true)
    (kP2 : PySem.W.keepIn K (.ref gP2) = true)
    (aP3 : PySem.W.findIn K (.ref C) "peak" = some (some (.ref qP3)))
    (bP3 : PySem.W.specialIn K (.ref qP3) "__get__" = some (some (.builtin "property.__get__")))
    (tP3 : PySem.W.takesIn K (.ref qP3) = some true)
    (uP3 : PySem.W.recIn K qP3 "property" = some (.ref gP3 :: rP3))
    (lP3 : K.lookup gP3 = some ⟨ocP3, odP3, .func (PySem.W.fnOf "peak" "Effect.peak" (defArgs sPeak) (defBody sPeak) (defScope sPeak) .none kVP3 dcP3 pmP3 anP3 cdP3 ctP3), slP3⟩)
    (cP3 : PySem.W.codeIn K cdP3 "Effect.peak" = true)
    (kP3 : PySem.W.keepIn K (.ref gP3) = true)
    (aP4 : PySem.W.findIn K (.ref C) "change" = some (some (.ref qP4)))
    (bP4 : PySem.W.specialIn K (.ref qP4) "__get__" = some (some (.builtin "property.__get__")))
    (tP4 : PySem.W.takesIn K (.ref qP4) = some true)
    (uP4 : PySem.W.recIn K qP4 "property" = some (.ref gP4 :: rP4))
    (lP4 : K.lookup gP4 = some ⟨ocP4, odP4, .func (PySem.W.fnOf "change" "Effect.change" (defArgs sChange) (defBody sChange) (defScope sChange) .none kVP4 dcP4 pmP4 anP4 cdP4 ctP4), slP4⟩)
    (cP4 : PySem.W.codeIn K cdP4 "Effect.change" = true)
    (kP4 : PySem.W.keepIn K (.ref gP4) = true)
    (rdC : PySem.W.readsIn K C (.type "type") = true)
    (gaC : PySem.W.specialIn K (.ref C) "__getattribute__" = some (some (.builtin "type.__getattribute__")))
    (aM0 : PySem.W.findCls K (.ref C) (.type "type") "never" = some (.get (.builtin "classmethod.__get__") (.ref qM0) .none (.ref C)))
    (uM0 : PySem.W.recIn K qM0 "classmethod" = some (.ref gM0 :: rM0))
    (fM0 : PySem.W.fnIn K gM0 = true)
    (lM0 : K.lookup gM0 = some ⟨ocM0, odM0, .func (PySem.W.fnOf "never" "Effect.never" (defArgs sNever) (defBody sNever) (defScope sNever) .none kVM0 dcM0 pmM0 anM0 cdM0 ctM0), slM0⟩)
    (cM0 : PySem.W.codeIn K cdM0 "Effect.never" = true)
    (kM0 : PySem.W.keepIn K (.ref gM0) = true)
    (aQ : PySem.W.findIn K (.ref C) "__eq__" = some (some (.ref gQ)))
    (iQ : PySem.W.isFn K (.ref gQ) = true)
    (lQ : K.lookup gQ = some ⟨ocQ, odQ, .func (PySem.W.fnOf "__eq__" "Effect.__eq__" (defArgs sEq) (defBody sEq) (defScope sEq) .none kVQ dcQ pmQ anQ cdQ ctQ), slQ⟩)
    (cQ : PySem.W.codeIn K cdQ "Effect.__eq__" = true)
    (kQ : PySem.W.keepIn K (.ref gQ) = true)
    (nQ : PySem.W.findIn K (.ref C) "__ne__" = some (some (.builtin "object.__ne__")))
    (aT : PySem.W.findIn K (.ref C) "then" = some (some (.ref gT)))
    (iT : PySem.W.isFn K (.ref gT) = true)
    (lT : K.lookup gT = some ⟨ocT, odT, .func (PySem.W.fnOf "then" "Effect.then" (defArgs sThen) (defBody sThen) (defScope sThen) .none kVT dcT pmT anT cdT ctT), slT⟩)
    (cT : PySem.W.codeIn K cdT "Effect.then" = true)
    (kT : PySem.W.keepIn K (.ref gT) = true)
    (aA : PySem.W.findIn K (.ref C) "apply" = some (some (.ref gA)))
    (iA : PySem.W.isFn K (.ref gA) = true)
    (lA : K.lookup gA = some ⟨ocA, odA, .func (PySem.W.fnOf "apply" "Effect.apply" (defArgs sApply) (defBody sApply) (defScope sApply) .none (.ref dA) dcA pmA anA cdA ctA), slA⟩)
    (cA : PySem.W.codeIn K cdA "Effect.apply" = true)
    (kA : PySem.W.keepIn K (.ref gA) = true)
    (nA : PySem.W.nsIn K dA "limit" = some (some .none))
    (e1 : PySem.W.findIn K (.ref C) "__class__" = some (some (.builtin "object.__class__")))
    (e2 : PySem.W.specialIn K (.builtin "object.__class__") "__get__" = some (some (.builtin "getset_descriptor.__get__")))
    (e3 : PySem.W.takesIn K (.builtin "object.__class__") = some true)
    (e4 : PySem.W.mroIn K C (.type "object") = some true)
    (cDS : PySem.W.nsIn K mainGlobals "SIGNS" = some (some (.ref DS)))
    (lDS : K.lookup DS = some ⟨.type "dict", none, .dict esS nS, #[]⟩)
    (kDS : PySem.W.KeysLit w.params esS.toList)
    (wDS : (DS == sysModules) = false)
    (p1S : PySem.W.nsIn K DS "push" = some (some uS))
    (p2S : PySem.W.nsIn K DS "pop" = some (some vS))
    (r1S : RelV (.str sPlus) uS)
    (r2S : RelV (.str sDash) vS)
    (cDA : PySem.W.nsIn K mainGlobals "ACTIONS" = some (some (.ref DA)))
    (lDA : K.lookup DA = some ⟨.type "dict", none, .dict esA nA', #[]⟩)
    (kDA : PySem.W.KeysLit w.params esA.toList)
    (wDA : (DA == sysModules) = false)
    (p1A : PySem.W.nsIn K DA "+" = some (some uA))
    (p2A : PySem.W.nsIn K DA "-" = some (some vA))
    (r1A : RelV (.str "push") uA)
    (r2A : RelV (.str "pop") vA)
    (aL : PySem.W.nsIn K mainGlobals "law" = some (some (.ref fL)))
    (lL : K.lookup fL = some ⟨ocL, odL, .func (PySem.W.fnOf "law" "law" (defArgs sLaw) (defBody sLaw) (defScope sLaw) .none kVL dcL pmL anL cdL ctL), slL⟩)
    (ckL : PySem.W.codeIn K cdL "law" = true)
    (kL : PySem.W.keepIn K (.ref fL) = true) :
    ∃ fd : FuncData, (∀ (s : Shared) (v : Value), BindsTo s fd ⟨[v], []⟩ [("_law_script", v)]) ∧ ∀ base : Heap, K.In base → base.Ns mainGlobals mg → GOk l.prog w K mg base 11 fa fd ["_law_script"] (spLaw K) := by
  have e := hfa.symm.trans (PySem.W.mg_of X G aL)
  cases e
  have F := fun_mk (st := sLaw) lL ckL kL
  have m_isinstance : mg "isinstance" = none := PySem.W.mg_none_of X G z_isinstance
  have m_str : mg "str" = none := PySem.W.mg_none_of X G z_str
  have m_len : mg "len" = none := PySem.W.mg_none_of X G z_len
  have m_all : mg "all" = none := PySem.W.mg_none_of X G z_all
  have m_tuple : mg "tuple" = none := PySem.W.mg_none_of X G z_tuple
  have m_list : mg "list" = none := PySem.W.mg_none_of X G z_list
  have m_enumerate : mg "enumerate" = none := PySem.W.mg_none_of X G z_enumerate
  have m_range : mg "range" = none := PySem.W.mg_none_of X G z_range
  have m_abs : mg "abs" = none := PySem.W.mg_none_of X G z_abs
  have m_int : mg "int" = none := PySem.W.mg_none_of X G z_int
  have m_bool : mg "bool" = none := PySem.W.mg_none_of X G z_bool
  have m_max : mg "max" = none := PySem.W.mg_none_of X G z_max
  have m_min : mg "min" = none := PySem.W.mg_none_of X G z_min
  have m_sorted : mg "sorted" = none := PySem.W.mg_none_of X G z_sorted
  have m_dict : mg "dict" = none := PySem.W.mg_none_of X G z_dict
  have m_set : mg "set" = none := PySem.W.mg_none_of X G z_set
  have m_any : mg "any" = none := PySem.W.mg_none_of X G z_any
  have B : Blt mg := ⟨m_isinstance, m_str, m_len, m_all, m_tuple, m_list, m_enumerate⟩
  have Co : Cons K w mg := ⟨⟨_, PySem.W.mg_of X G cL⟩, ⟨_, PySem.W.mg_of X G cM⟩, ⟨_, PySem.W.mg_of X G cS⟩, ⟨D, es, n, uP, uQ, PySem.W.mg_of X G cO, ⟨lO, kO, wO⟩, pO, rP, qO, rQ⟩⟩
  have T : EC K mg C := ⟨⟨pg, hd, po, sa⟩, nN, nL, nH, PySem.W.mg_of X G aC⟩
  refine ⟨PySem.W.fnOf "law" "law" (defArgs sLaw) (defBody sLaw) (defScope sLaw) .none kVL dcL pmL anL cdL ctL, fun s v => .of_eq rfl, fun base _ _ => ?_⟩
  have TC := (⟨⟨_, PySem.W.mg_of X G c1⟩, ⟨_, PySem.W.mg_of X G c2⟩, ⟨_, PySem.W.mg_of X G c3⟩, ⟨_, PySem.W.mg_of X G c4⟩, ⟨_, PySem.W.mg_of X G c5⟩, ⟨DS, esS, nS, uS, vS, PySem.W.mg_of X G cDS, ⟨lDS, kDS, wDS⟩, p1S, r1S, p2S, r2S⟩, ⟨DA, esA, nA', uA, vA, PySem.W.mg_of X G cDA, ⟨lDA, kDA, wDA⟩, p1A, r1A, p2A, r2A⟩⟩ : TCons K w mg)
  have gTake := has_take (P := l.prog) (w := w) (base := base) d__law_take
  have gPool := has_pool (P := l.prog) (w := w) (base := base) d__law_pool m_len m_abs m_int
  have gName := has_name d__law_name gTake m_range
  have gItems := has_items d__law_items gName m_range
  have gSt := has_steps d__law_steps gTake m_range m_len
  have gWord := has_word d__law_word gTake m_range m_len m_tuple
  have gItem := has_isItem (P := l.prog) (w := w) (base := base) d_is_item B Co
  have gIsWord := has_isWord d_is_word gItem B
  have gCw := has_chkWord d_check_word gIsWord
  have gIsStep := has_isStep d_is_step gItem B Co
  have gMay := has_may (P := l.prog) (w := w) (base := base) d_may_hold_steps B Co
  have gChk := has_chkSteps d_check_steps gMay gIsStep B
  have gSeq := has_isSeq d_is_sequence gMay gIsStep B
  have gWh := has_whole (P := l.prog) (w := w) (base := base) d_is_whole B m_int m_bool
  have gLe := has_least (P := l.prog) (w := w) (base := base) d_least_peak B m_max
  have gM := (⟨gI, _, ⟨mkC, aI, iI, keC⟩, ok_init (fun_mk lI cI kI) T gCw gLe gWh, init_mk lI cI kI nI⟩ : Makes l.prog w K mg base C)
  have gPo := (⟨qP0, gP0, _, ⟨aP0, bP0, tP0, rP0, uP0⟩, ok_pops (fun_mk lP0 cP0 kP0) T, (fun_mk lP0 cP0 kP0).binds (ps := ["self"]) fun _ _ _ _ _ _ us hl => match us, hl with | [_], _ => rfl⟩ : PropHas l.prog w K mg base C "pops" 1 _)
  have gPu := (⟨qP1, gP1, _, ⟨aP1, bP1, tP1, rP1, uP1⟩, ok_push (fun_mk lP1 cP1 kP1) T, (fun_mk lP1 cP1 kP1).binds (ps := ["self"]) fun _ _ _ _ _ _ us hl => match us, hl with | [_], _ => rfl⟩ : PropHas l.prog w K mg base C "pushes" 1 _)
  have gNv := (⟨qP2, gP2, _, ⟨aP2, bP2, tP2, rP2, uP2⟩, ok_isNev (fun_mk lP2 cP2 kP2) T, (fun_mk lP2 cP2 kP2).binds (ps := ["self"]) fun _ _ _ _ _ _ us hl => match us, hl with | [_], _ => rfl⟩ : PropHas l.prog w K mg base C "is_never" 1 _)
  have gPk := (⟨qP3, gP3, _, ⟨aP3, bP3, tP3, rP3, uP3⟩, ok_peak (fun_mk lP3 cP3 kP3) T, (fun_mk lP3 cP3 kP3).binds (ps := ["self"]) fun _ _ _ _ _ _ us hl => match us, hl with | [_], _ => rfl⟩ : PropHas l.prog w K mg base C "peak" 1 _)
  have gCh := (⟨qP4, gP4, _, ⟨aP4, bP4, tP4, rP4, uP4⟩, ok_chan (fun_mk lP4 cP4 kP4) T B, (fun_mk lP4 cP4 kP4).binds (ps := ["self"]) fun _ _ _ _ _ _ us hl => match us, hl with | [_], _ => rfl⟩ : PropHas l.prog w K mg base C "change" 1 _)
  have fNe := ok_never (fun_mk lM0 cM0 kM0) T gM
  have bNe := (fun_mk (st := sNever) lM0 cM0 kM0).binds (ps := ["cls"]) fun _ _ _ _ _ _ us hl => match us, hl with | [_], _ => rfl
  have gNe := (⟨.type "type", qM0, gM0, ⟨rdC, gaC⟩, ⟨aM0, ⟨_, uM0⟩, fM0⟩, (fNe.raw bNe .nil).imp fun vs H Q E h => by rw [List.append_nil]; exact h⟩ : NeverHas l.prog w K mg base C)
  have gPart := has_part (P := l.prog) (w := w) (base := base) d_parts_of_step
  have gJn := has_join d_joined T gM gNe B m_max m_min
  have gE := has_effOf d_effect_of gChk gPart gJn
  have TI := (⟨e1, e2, e3, e4, if_pos (beq_self_eq_true _)⟩ : EI K C)
  have gEq := (⟨⟨gQ, _, ok_eq (fun_mk lQ cQ kQ) T TI B, aQ, iQ, (fun_mk lQ cQ kQ).binds (ps := ["self", "other"]) fun _ _ _ _ _ _ us hl => match us, hl with | [_, _], _ => rfl⟩, nQ⟩ : EqH l.prog w K mg base C)
  have gRd := has_repd d_replaced T B gNv gPo gPu
  have gAc := has_areC (P := l.prog) (w := w) (base := base) d_are_candidates T TI B ⟨_, PySem.W.mg_of X G cC⟩
  have gCc := has_chkC d_check_candidates gAc
  have gIo := has_isOb d_is_observation gIsWord B
  have gCo := has_chkO d_check_observations gIo B
  have gGi := has_giv d_gives_all gRd B
  have gPs := has_poss d_possible gCc gCo gGi B
  have gBy := (by_of d_by_height B : ByHas l.prog w K mg base)
  have gByH := (has_by d_by_height B : Has l.prog w K mg base "by_height" 1 ["stack"] [] (spBy K))
  have gIx := has_idx d_indexes_by_result gRd B
  have gOu := has_out d_outcomes gCc gCw gIx gBy m_sorted
  have gLg := has_lg d_largest_many gIx B m_max
  have gBs := has_best d_best_stack T gCc gLg gByH gNv gPo m_min
  have gTh := (⟨gT, ⟨aT, iT, kT⟩, ok_then (fun_mk lT cT kT) T gNe gNv gPo gPu gPk gJn m_any⟩ : ThenHas l.prog w K mg base C)
  have gBt := has_bet d_is_between gWh
  have gLz := has_limZ d_is_limit gBt ⟨_, PySem.W.mg_of X G cLM⟩
  have gClV := has_clV d_check_limit gLz
  have gThV := has_thV (P := l.prog) (w := w) (base := base) d_is_too_high
  have gAp := (⟨gA, _, ⟨aA, iA, kA⟩, ok_apply9 (fun_mk lA cA kA) T B gCw gClV gThV gRd gNv gPk, init_mk lA cA kA nA⟩ : ApplyP l.prog w K mg base C)
  have gFs := has_fs d_first_success T gAp gNv gPo
  have gFb := has_fb d_first_beyond T B gPo gPk m_max ⟨_, PySem.W.mg_of X G cF⟩
  have gDf := has_df d_difference T gClV gFs gFb gBy gPo gPu m_min
  have gCm := has_cm d_commute T gTh gDf
  have gWi := has_wordIn d_word_in gIsWord B TC
  have gFw := has_fmtW d_format_word gIsWord TC
  have gPw := has_parW d_parse_word gWi B
  have gFst := has_fmtS d_format_steps gSeq TC
  have gSi := has_stepsIn d_steps_in gSeq TC
  have gPst := has_parS d_parse_steps gSi B
  have gNi := has_numIn (P := l.prog) (w := w) (base := base) d_number_in B TC
  have gNt := has_numT (P := l.prog) (w := w) (base := base) d_text_of_number TC
  have gEi := has_effIn d_effect_in T gM gNe gWi gNi gLe B TC
  have gPe := has_parE d_parse_effect gEi B
  have gFe := has_fmtE d_format_effect T TI gNv gPo gPu gPk gFw gNt B TC
  have Sc := (⟨⟨_, PySem.W.mg_of X G cF⟩, ⟨_, PySem.W.mg_of X G cJ⟩⟩ : SC mg)
  have gPow := has_pow (P := l.prog) (w := w) (base := base) d_power m_range
  have gSu := has_sur d_surplus T gPo gPu gPk gLe
  have gWy := has_wy d_ways_many T gPo gCh gPk B
  have gItX := has_itemX (P := l.prog) (w := w) (base := base) d_is_item B Co
  have gIl := has_il d_is_item_list gItX B m_set Sc
  have gCi := has_ci d_check_items gIl
  have gSm := has_sm d_shortest_many T gPo gPu gNv gCi gWy gPow gSu B
  have gWl := has_wl (P := l.prog) (w := w) (base := base) d__law_word_led m_tuple
  have gEl := has_el d__law_effect_led T gM gNe gWl gNv gPo gPu gPk
  have gWr := has_wr d__law_written TI gEq gFst gPst gFe gPe gFw gPw
  have gPr := has_pr9 d__law_pair_right T TI gEq gE gEl gWl gDf gCm gWr
  have gGr := has_gr d__law_groups_right gEl gWl gOu gBs
  have gLr := has_lr d__law_limits_right T B gDf gAp
  have gEx := has_ex d__law_exchanged_right T B gAp gEl gWl gWord gPs gBs gOu gLr gTake gSm m_range m_sorted
  exact ok_law F gPool gTake gItems gSt gWord gE gPr gGr gEx gSm gEl B m_range m_max m_min m_dict m_tuple m_sorted
end
end SE
open PySem PySem.W PyProof.Rows
set_option maxHeartbeats 0 in
theorem PySem.Challenge.cw_stackeffect_k89_whole_renamed_and_writte_holds : PySem.Challenge.rw_stackeffect_k89_whole_renamed_and_writte.Holds := by
  w_on; o_law; k_head; (case hw => w_witness2)
  k_fill
  refine SE.walkG (l := PySem.Challenge.rw_stackeffect_k89_whole_renamed_and_writte) (n := 63) (k := 11) (x := "_law_script") (sp := SE.spLaw) rfl (by decide) rfl ⟨rfl, by decide, by decide⟩ (fun w h Y => PySem.W.kIn_of Y) ?F (fun _ _ a ns hl hS => ⟨a, ns, rfl, hS, hl, fun _ => rfl⟩)
  case F =>
    intro w mg fa h KX G hmg
    refine' SE.all_mk KX G hmg ?d_is_whole ?d_is_between ?d_is_item ?d_is_word ?d_is_step ?d_may_hold_steps ?d_is_sequence ?d_is_limit ?d_check_limit ?d_is_too_high ?d_check_steps ?d_check_word ?d_by_height ?d_first_success ?d_first_beyond ?d_least_peak ?d_joined ?d_parts_of_step ?d_effect_of ?d_replaced ?d_are_candidates ?d_check_candidates ?d_is_observation ?d_check_observations ?d_gives_all ?d_possible ?d_indexes_by_result ?d_outcomes ?d_largest_many ?d_best_stack ?d_word_in ?d_steps_in ?d_number_in ?d_text_of_number ?d_effect_in ?d_format_word ?d_format_steps ?d_format_effect ?d_parse_word ?d_parse_steps ?d_parse_effect ?d_power ?d_surplus ?d_ways_many ?d_is_item_list ?d_check_items ?d_shortest_many ?d__law_pool ?d__law_take ?d__law_name ?d__law_items ?d__law_steps ?d__law_word ?d__law_word_led ?d__law_effect_led ?d__law_written ?d__law_pair_right ?d__law_groups_right ?d__law_limits_right ?d__law_exchanged_right ?d_difference ?d_commute ?z_isinstance ?z_str ?z_len ?z_all ?z_tuple ?z_list ?z_enumerate ?z_range ?z_abs ?z_int ?z_bool ?z_max ?z_min ?z_sorted ?z_dict ?z_set ?z_any ?cL ?cM ?cS ?cC ?cLM ?cF ?cJ ?c1 ?c2 ?c3 ?c4 ?c5 ?cO ?lO ?kO ?wO ?pO ?qO ?rP ?rQ ?aC ?pg ?hd ?po ?sa ?nN ?nL ?nH ?mkC ?keC ?aI ?iI ?lI ?cI ?kI ?nI ?aP0 ?bP0 ?tP0 ?uP0 ?lP0 ?cP0 ?kP0 ?aP1 ?bP1 ?tP1 ?uP1 ?lP1 ?cP1 ?kP1 ?aP2 ?bP2 ?tP2 ?uP2 ?lP2 ?cP2 ?kP2 ?aP3 ?bP3 ?tP3 ?uP3 ?lP3 ?cP3 ?kP3 ?aP4 ?bP4 ?tP4 ?uP4 ?lP4 ?cP4 ?kP4 ?rdC ?gaC ?aM0 ?uM0 ?fM0 ?lM0 ?cM0 ?kM0 ?aQ ?iQ ?lQ ?cQ ?kQ ?nQ ?aT ?iT ?lT ?cT ?kT ?aA ?iA ?lA ?cA ?kA ?nA ?e1 ?e2 ?e3 ?e4 ?cDS ?lDS ?kDS ?wDS ?p1S ?p2S ?r1S ?r2S ?cDA ?lDA ?kDA ?wDA ?p1A ?p2A ?r1A ?r2A ?aL ?lL ?ckL ?kL
    (case d_is_whole => refine' SE.def_mk KX G ?a ?l ?c ?k; (case a => k_is); (case l => k_is); (case c => k_is); (case k => k_is))
    (case d_is_between => refine' SE.def_mk KX G ?a ?l ?c ?k; (case a => k_is); (case l => k_is); (case c => k_is); (case k => k_is))
    (case d_is_item => refine' SE.def_mk KX G ?a ?l ?c ?k; (case a => k_is); (case l => k_is); (case c => k_is); (case k => k_is))
    (case d_is_word => refine' SE.def_mk KX G ?a ?l ?c ?k; (case a => k_is); (case l => k_is); (case c => k_is); (case k => k_is))
    (case d_is_step => refine' SE.def_mk KX G ?a ?l ?c ?k; (case a => k_is); (case l => k_is); (case c => k_is); (case k => k_is))
    (case d_may_hold_steps => refine' SE.def_mk KX G ?a ?l ?c ?k; (case a => k_is); (case l => k_is); (case c => k_is); (case k => k_is))
    (case d_is_sequence => refine' SE.def_mk KX G ?a ?l ?c ?k; (case a => k_is); (case l => k_is); (case c => k_is); (case k => k_is))
    (case d_is_limit => refine' SE.def_mk KX G ?a ?l ?c ?k; (case a => k_is); (case l => k_is); (case c => k_is); (case k => k_is))
    (case d_check_limit => refine' SE.def_mk KX G ?a ?l ?c ?k; (case a => k_is); (case l => k_is); (case c => k_is); (case k => k_is))
    (case d_is_too_high => refine' SE.def_mk KX G ?a ?l ?c ?k; (case a => k_is); (case l => k_is); (case c => k_is); (case k => k_is))
    (case d_check_steps => refine' SE.def_mk KX G ?a ?l ?c ?k; (case a => k_is); (case l => k_is); (case c => k_is); (case k => k_is))
    (case d_check_word => refine' SE.def_mk KX G ?a ?l ?c ?k; (case a => k_is); (case l => k_is); (case c => k_is); (case k => k_is))
    (case d_by_height => refine' SE.def_mk KX G ?a ?l ?c ?k; (case a => k_is); (case l => k_is); (case c => k_is); (case k => k_is))
    (case d_first_success => refine' SE.def_mk KX G ?a ?l ?c ?k; (case a => k_is); (case l => k_is); (case c => k_is); (case k => k_is))
    (case d_first_beyond => refine' SE.def_mk KX G ?a ?l ?c ?k; (case a => k_is); (case l => k_is); (case c => k_is); (case k => k_is))
    (case d_least_peak => refine' SE.def_mk KX G ?a ?l ?c ?k; (case a => k_is); (case l => k_is); (case c => k_is); (case k => k_is))
    (case d_joined => refine' SE.def_mk KX G ?a ?l ?c ?k; (case a => k_is); (case l => k_is); (case c => k_is); (case k => k_is))
    (case d_parts_of_step => refine' SE.def_mk KX G ?a ?l ?c ?k; (case a => k_is); (case l => k_is); (case c => k_is); (case k => k_is))
    (case d_effect_of => refine' SE.def_mk KX G ?a ?l ?c ?k; (case a => k_is); (case l => k_is); (case c => k_is); (case k => k_is))
    (case d_replaced => refine' SE.def_mk KX G ?a ?l ?c ?k; (case a => k_is); (case l => k_is); (case c => k_is); (case k => k_is))
    (case d_are_candidates => refine' SE.def_mk KX G ?a ?l ?c ?k; (case a => k_is); (case l => k_is); (case c => k_is); (case k => k_is))
    (case d_check_candidates => refine' SE.def_mk KX G ?a ?l ?c ?k; (case a => k_is); (case l => k_is); (case c => k_is); (case k => k_is))
    (case d_is_observation => refine' SE.def_mk KX G ?a ?l ?c ?k; (case a => k_is); (case l => k_is); (case c => k_is); (case k => k_is))
    (case d_check_observations => refine' SE.def_mk KX G ?a ?l ?c ?k; (case a => k_is); (case l => k_is); (case c => k_is); (case k => k_is))
    (case d_gives_all => refine' SE.def_mk KX G ?a ?l ?c ?k; (case a => k_is); (case l => k_is); (case c => k_is); (case k => k_is))
    (case d_possible => refine' SE.def_mk KX G ?a ?l ?c ?k; (case a => k_is); (case l => k_is); (case c => k_is); (case k => k_is))
    (case d_indexes_by_result => refine' SE.def_mk KX G ?a ?l ?c ?k; (case a => k_is); (case l => k_is); (case c => k_is); (case k => k_is))
    (case d_outcomes => refine' SE.def_mk KX G ?a ?l ?c ?k; (case a => k_is); (case l => k_is); (case c => k_is); (case k => k_is))
    (case d_largest_many => refine' SE.def_mk KX G ?a ?l ?c ?k; (case a => k_is); (case l => k_is); (case c => k_is); (case k => k_is))
    (case d_best_stack => refine' SE.def_mk KX G ?a ?l ?c ?k; (case a => k_is); (case l => k_is); (case c => k_is); (case k => k_is))
    (case d_word_in => refine' SE.def_mk KX G ?a ?l ?c ?k; (case a => k_is); (case l => k_is); (case c => k_is); (case k => k_is))
    (case d_steps_in => refine' SE.def_mk KX G ?a ?l ?c ?k; (case a => k_is); (case l => k_is); (case c => k_is); (case k => k_is))
    (case d_number_in => refine' SE.def_mk KX G ?a ?l ?c ?k; (case a => k_is); (case l => k_is); (case c => k_is); (case k => k_is))
    (case d_text_of_number => refine' SE.def_mk KX G ?a ?l ?c ?k; (case a => k_is); (case l => k_is); (case c => k_is); (case k => k_is))
    (case d_effect_in => refine' SE.def_mk KX G ?a ?l ?c ?k; (case a => k_is); (case l => k_is); (case c => k_is); (case k => k_is))
    (case d_format_word => refine' SE.def_mk KX G ?a ?l ?c ?k; (case a => k_is); (case l => k_is); (case c => k_is); (case k => k_is))
    (case d_format_steps => refine' SE.def_mk KX G ?a ?l ?c ?k; (case a => k_is); (case l => k_is); (case c => k_is); (case k => k_is))
    (case d_format_effect => refine' SE.def_mk KX G ?a ?l ?c ?k; (case a => k_is); (case l => k_is); (case c => k_is); (case k => k_is))
    (case d_parse_word => refine' SE.def_mk KX G ?a ?l ?c ?k; (case a => k_is); (case l => k_is); (case c => k_is); (case k => k_is))
    (case d_parse_steps => refine' SE.def_mk KX G ?a ?l ?c ?k; (case a => k_is); (case l => k_is); (case c => k_is); (case k => k_is))
    (case d_parse_effect => refine' SE.def_mk KX G ?a ?l ?c ?k; (case a => k_is); (case l => k_is); (case c => k_is); (case k => k_is))
    (case d_power => refine' SE.def_mk KX G ?a ?l ?c ?k; (case a => k_is); (case l => k_is); (case c => k_is); (case k => k_is))
    (case d_surplus => refine' SE.def_mk KX G ?a ?l ?c ?k; (case a => k_is); (case l => k_is); (case c => k_is); (case k => k_is))
    (case d_ways_many => refine' SE.def_mk KX G ?a ?l ?c ?k; (case a => k_is); (case l => k_is); (case c => k_is); (case k => k_is))
    (case d_is_item_list => refine' SE.def_mk KX G ?a ?l ?c ?k; (case a => k_is); (case l => k_is); (case c => k_is); (case k => k_is))
    (case d_check_items => refine' SE.def_mk KX G ?a ?l ?c ?k; (case a => k_is); (case l => k_is); (case c => k_is); (case k => k_is))
    (case d_shortest_many => refine' SE.def_mk KX G ?a ?l ?c ?k; (case a => k_is); (case l => k_is); (case c => k_is); (case k => k_is))
    (case d__law_pool => refine' SE.def_mk KX G ?a ?l ?c ?k; (case a => k_is); (case l => k_is); (case c => k_is); (case k => k_is))
    (case d__law_take => refine' SE.def_mk KX G ?a ?l ?c ?k; (case a => k_is); (case l => k_is); (case c => k_is); (case k => k_is))
    (case d__law_name => refine' SE.def_mk KX G ?a ?l ?c ?k; (case a => k_is); (case l => k_is); (case c => k_is); (case k => k_is))
    (case d__law_items => refine' SE.def_mk KX G ?a ?l ?c ?k; (case a => k_is); (case l => k_is); (case c => k_is); (case k => k_is))
    (case d__law_steps => refine' SE.def_mk KX G ?a ?l ?c ?k; (case a => k_is); (case l => k_is); (case c => k_is); (case k => k_is))
    (case d__law_word => refine' SE.def_mk KX G ?a ?l ?c ?k; (case a => k_is); (case l => k_is); (case c => k_is); (case k => k_is))
    (case d__law_word_led => refine' SE.def_mk KX G ?a ?l ?c ?k; (case a => k_is); (case l => k_is); (case c => k_is); (case k => k_is))
    (case d__law_effect_led => refine' SE.def_mk KX G ?a ?l ?c ?k; (case a => k_is); (case l => k_is); (case c => k_is); (case k => k_is))
    (case d__law_written => refine' SE.def_mk KX G ?a ?l ?c ?k; (case a => k_is); (case l => k_is); (case c => k_is); (case k => k_is))
    (case d__law_pair_right => refine' SE.def_mk KX G ?a ?l ?c ?k; (case a => k_is); (case l => k_is); (case c => k_is); (case k => k_is))
    (case d__law_groups_right => refine' SE.def_mk KX G ?a ?l ?c ?k; (case a => k_is); (case l => k_is); (case c => k_is); (case k => k_is))
    (case d__law_limits_right => refine' SE.def_mk KX G ?a ?l ?c ?k; (case a => k_is); (case l => k_is); (case c => k_is); (case k => k_is))
    (case d__law_exchanged_right => refine' SE.def_mk KX G ?a ?l ?c ?k; (case a => k_is); (case l => k_is); (case c => k_is); (case k => k_is))
    (case d_difference => refine' SE.defk_mk KX G ?a ?l ?c ?k ?n; (case a => k_is); (case l => k_is); (case c => k_is); (case k => k_is); (case n => k_is))
    (case d_commute => refine' SE.defk_mk KX G ?a ?l ?c ?k ?n; (case a => k_is); (case l => k_is); (case c => k_is); (case k => k_is); (case n => k_is))
    (case z_isinstance => k_is)
    (case z_str => k_is)
    (case z_len => k_is)
    (case z_all => k_is)
    (case z_tuple => k_is)
    (case z_list => k_is)
    (case z_enumerate => k_is)
    (case z_range => k_is)
    (case z_abs => k_is)
    (case z_int => k_is)
    (case z_bool => k_is)
    (case z_max => k_is)
    (case z_min => k_is)
    (case z_sorted => k_is)
    (case z_dict => k_is)
    (case z_set => k_is)
    (case z_any => k_is)
    (case cL => k_is)
    (case cM => k_is)
    (case cS => k_is)
    (case cC => k_is)
    (case cLM => k_is)
    (case cF => k_is)
    (case cJ => k_is)
    (case c1 => k_is)
    (case c2 => k_is)
    (case c3 => k_is)
    (case c4 => k_is)
    (case c5 => k_is)
    (case cO => k_is)
    (case lO => k_is)
    (case kO => exact ⟨⟨_, _, rfl, rfl⟩, ⟨_, _, rfl, rfl⟩, trivial⟩)
    (case wO => rfl)
    (case pO => k_is)
    (case qO => k_is)
    (case rP => exact ⟨_, rfl⟩)
    (case rQ => exact ⟨_, rfl⟩)
    (case aC => k_is)
    (case pg => k_is)
    (case hd => k_is)
    (case po => k_is)
    (case sa => k_is)
    (case nN => k_is)
    (case nL => k_is)
    (case nH => k_is)
    (case mkC => k_is)
    (case keC => k_is)
    (case aI => k_is)
    (case iI => k_is)
    (case lI => k_is)
    (case cI => k_is)
    (case kI => k_is)
    (case nI => k_is)
    (case aP0 => k_is)
    (case bP0 => k_is)
    (case tP0 => k_is)
    (case uP0 => k_is)
    (case lP0 => k_is)
    (case cP0 => k_is)
    (case kP0 => k_is)
    (case aP1 => k_is)
    (case bP1 => k_is)
    (case tP1 => k_is)
    (case uP1 => k_is)
    (case lP1 => k_is)
    (case cP1 => k_is)
    (case kP1 => k_is)
    (case aP2 => k_is)
    (case bP2 => k_is)
    (case tP2 => k_is)
    (case uP2 => k_is)
    (case lP2 => k_is)
    (case cP2 => k_is)
    (case kP2 => k_is)
    (case aP3 => k_is)
    (case bP3 => k_is)
    (case tP3 => k_is)
    (case uP3 => k_is)
    (case lP3 => k_is)
    (case cP3 => k_is)
    (case kP3 => k_is)
    (case aP4 => k_is)
    (case bP4 => k_is)
    (case tP4 => k_is)
    (case uP4 => k_is)
    (case lP4 => k_is)
    (case cP4 => k_is)
    (case kP4 => k_is)
    (case rdC => k_is)
    (case gaC => k_is)
    (case aM0 => k_is)
    (case uM0 => k_is)
    (case fM0 => k_is)
    (case lM0 => k_is)
    (case cM0 => k_is)
    (case kM0 => k_is)
    (case aQ => k_is)
    (case iQ => k_is)
    (case lQ => k_is)
    (case cQ => k_is)
    (case kQ => k_is)
    (case nQ => k_is)
    (case aT => k_is)
    (case iT => k_is)
    (case lT => k_is)
    (case cT => k_is)
    (case kT => k_is)
    (case aA => k_is)
    (case iA => k_is)
    (case lA => k_is)
    (case cA => k_is)
    (case kA => k_is)
    (case nA => k_is)
    (case e1 => k_is)
    (case e2 => k_is)
    (case e3 => k_is)
    (case e4 => k_is)
    (case cDS => k_is)
    (case lDS => k_is)
    (case kDS => exact ⟨⟨_, _, rfl, rfl⟩, ⟨_, _, rfl, rfl⟩, trivial⟩)
    (case wDS => rfl)
    (case p1S => k_is)
    (case p2S => k_is)
    (case r1S => exact ⟨_, rfl⟩)
    (case r2S => exact ⟨_, rfl⟩)
    (case cDA => k_is)
    (case lDA => k_is)
    (case kDA => exact ⟨⟨_, _, rfl, rfl⟩, ⟨_, _, rfl, rfl⟩, trivial⟩)
    (case wDA => rfl)
    (case p1A => k_is)
    (case p2A => k_is)
    (case r1A => exact ⟨_, rfl⟩)
    (case r2A => exact ⟨_, rfl⟩)
    (case aL => k_is)
    (case lL => k_is)
    (case ckL => k_is)
    (case kL => k_is)
