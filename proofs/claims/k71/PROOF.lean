import PyProof.Rows.All
import Wide.All
import OpenK.AllK
import Wide.FinOn
import PyProof.EqAt
import PyProof.EqKinds
import PyProof.TupleCall
import HandS.Base
import HandS.Call
import HandS.List
import HandS.Ends
import HandS.Words
import HandS.Comp
import HandS.Dict
import HandS.Iter
import HandS.Text
import HandS.WordsList
import HandS.Defaults
import PyProof.EnumMake
import PyProof.Draws
import KE.GoesMore
import KE.KRevSl
import PyProof.ReprLen
import PyProof.ReprText
import HandS.More
import HandS.Evl
import HandS.Walk
import HandS.IsInst
import HandS.TupAny
import HandS.Style
import HandS.TupMul
import HandS.Strs
import HandS.Set
import HandS.GenBody
import HandS.GenYield
import HandS.GenCall
import HandS.GenList
import PyProof.GenComp
import HandS.Property
import HandS.ClsMeth
import HandS.MakeKwOnly
import PyProof.InstEq
import KE.KFmtOwn
import HandS.OwnEq
import HandS.FStr
import PyProof.ReprNest
import PyProof.ReprRoads
import HandS.Deep
import PyProof.ReprDict
import PyProof.CallFns
import HandS.Replace
import HandS.Exc
import HandS.ExcOwn
import HandS.ExcInit
import HandS.ExcField
import HandS.ExcIs
import HandS.WordsExc
import KE.KExcIs
import HandS.Zip
import HandS.TryMany
import KE.IntTextLaws
import PyProof.ReprHeadsEmpty
import PyProof.ReprReads
import HandS.HotCalls
import PyProof.StrLawsRepr
import HandS.Flow
import HandS.TryOnly
import PySem.Challenge.RW_stackeffect_k71_texts_refused
set_option Elab.async false
set_option linter.all false
set_option maxRecDepth 100000
set_option maxHeartbeats 4000000
/-! Defs called where no repr is under way: their promise (GOk), their call, the law's head, and repr of plain data. -/
namespace SE
open PySem PySem.Spec PyProof.Rows L2

/-- the promise of a def whose caller has no repr under way -/
structure GOk (P : Program) (w : World) (K : PySem.W.Frag) (mg : Str → Option Value) (base : Heap) (k : Nat) (f : Addr) (fd : FuncData) (ps : List Str) (sp : Sp) : Prop where
  len : ∀ xs H Q E, sp xs H Q E → xs.length = ps.length
  run : ∀ (A : Around) (out : List Env) (s : Shared) (H : Hp) (args : Args) (us : List Value) (xs : List V) (Q : VK) (E : XK), A.guards = some [] → Room k A → Env0 P w K mg base A out s H →
    BindsTo s fd args (ps.zip us) → Vals xs us → sp xs H Q E → codeAny (model P w) A (.call (.ref f) args) (CR (fun _ _ _ _ _ _ => False) out P w H s Q E) s

section
variable {P : Program} {w : World} {K : PySem.W.Frag} {mg : Str → Option Value} {base : Heap}
theorem gok_of {k : Nat} {f : Addr} {nm ql : Str} {pars : Arguments} {bd : List Stmt} {sc : Scope} {dV kV doc pm cv ct oc : Value} {an od : Option Addr}
    {osl : Array (Option Value)} {N ps : List Str} {sp : Sp} (look : K.lookup f = some ⟨oc, od, .func (PySem.W.fnOf nm ql pars bd sc dV kV doc pm an cv ct), osl⟩) (hcode : PySem.W.codeIn K cv ql = true) (S : FnScope N ps sc)
    (len : ∀ xs H Q E, sp xs H Q E → xs.length = ps.length)
    (hbd : ∀ (A : Around) (out : List Env) (s : Shared) (H : Hp) (xs : List V) (Q : VK) (E : XK), A.guards = some [] → Room k (A.deeper (envOfC ql sc s.heap.objs.size f cv)) → sp xs H Q E →
      ∃ t, PSs (cxOf (fun _ _ _ _ _ _ => False) P w K mg base N ql sc f cv A out s H E) bd t ∧ t { nx := fun _ H2 => Q .non H2, rt := Q } (start N xs) H) :
    GOk P w K mg base (k + 1) f (PySem.W.fnOf nm ql pars bd sc dV kV doc pm an cv ct) ps sp := by
  constructor
  · exact len
  intro A out s H args us xs Q E hgu hroom env hbind hvals hpre
  have hlen := len _ _ _ _ hpre
  have kin : K.In s.heap := env.mod.kin.keeps fun b o z => (env.bs b o z).1
  have nolim : s.heap.NoLimit := env.mod.nolimit.keeps fun b o z => (env.bs b o z).1
  have kinds : ∀ y ∈ ps.zip us, sc.names.lookup y.1 = some .local ∨ (sc.names.lookup y.1 = some .cell ∧ ((cellsFrom (s.heap.objs.size + 1) sc.names []).lookup y.1).isSome = true) := by
    rintro ⟨n, v⟩ hy
    rcases S.par n (List.of_mem_zip hy).1 with q | q
    · exact .inl q
    · exact .inr ⟨q, PySem.W.cellsFrom_some _ _ _ (.inl q)⟩
  apply codeAny_call_function hroom.depth (kin _ _ look) rfl S.co S.gen rfl (PySem.W.codeRec_of kin hcode)
  apply hbind
  refine wpAny_newFunctionEnv_cells S.kind kinds fun ev hev s2 inc => ?_
  subst hev
  refine ⟨nolim.keeps inc.toInCall.keep, codeAny_func ?_⟩
  obtain ⟨t, der, rd⟩ := hbd A out s H xs Q E hgu (hroom.deeper _) hpre
  have J0 : Inv (cxOf (fun _ _ _ _ _ _ => False) P w K mg base N ql sc f cv A out s H E) [] (start N xs) H s2 := inv_start S hroom.hd env hlen hvals inc
  refine wpAny_mono (der.run [] s2 (start N xs) H _ J0 rd) (fun fl s3 hs => ?_) fun e s3 hs => hs
  cases fl with
  | ret u =>
    obtain ⟨v, σ3, H3, J, rv, q⟩ := hs
    exact ⟨v, H3, J.os, J.bare, J.base, J.hok, rv, q⟩
  | next =>
    obtain ⟨σ3, H3, J, q⟩ := hs
    exact ⟨V.non, H3, J.os, J.bare, J.base, J.hok, rfl, q⟩
  | brk => exact hs.elim fun _ z => z.elim fun _ z => z.2.elim
  | cont => exact hs.elim fun _ z => z.elim fun _ z => z.2.elim
theorem gok_mk {x ql : Str} {st : Stmt} {f : Addr} {fd : FuncData} {N ps : List Str} {k : Nat} {sp : Sp} (F : Fun K x ql st f fd) (S : FnScope N ps (defScope st)) (len : ∀ xs H Q E, sp xs H Q E → xs.length = ps.length)
    (hbd : ∀ (cv : Value) (A : Around) (out : List Env) (s : Shared) (H : Hp) (xs : List V) (Q : VK) (E : XK), A.guards = some [] → Room k (A.deeper (envOfC ql (defScope st) s.heap.objs.size f cv)) → sp xs H Q E →
      ∃ t, PSs (cxOf CX0 P w K mg base N ql (defScope st) f cv A out s H E).nox (defBody st) t ∧ t { nx := fun _ H2 => Q .non H2, rt := Q } (start N xs) H) : GOk P w K mg base (k + 1) f fd ps sp := by
  obtain ⟨oc, od, kV, doc, pm, an, cv, ct, osl, rfl, look, hcode⟩ := F.ex
  refine gok_of look hcode S len fun A out s H xs Q E hgu hr hpre => ?_
  obtain ⟨t, a, b⟩ := hbd cv A out s H xs Q E hgu hr hpre
  exact ⟨t, a.nox, b⟩
end

section
variable {X : Cx} {k : Nat} {f : Addr} {fd : FuncData} {ps : List Str} {sp : Sp} {x : Str} {p pos : Pos} {e : Expr} {es : List Expr} {t : TA}
theorem pe_callG (F : GOk X.prog X.w X.K X.mg X.base k f fd ps sp) (hgu : X.A.guards = some []) (hr : Room k X.A) (hg : Gl X x) (hm : X.mg x = some (.ref f)) (hk : PySem.W.keepIn X.K (.ref f) = true) (hb : Binds X.K fd ps [])
    (ha : PA X (e :: es) t) (hdb : (x == ("__debug__" : Str)) = false := by decide) (he : starEach (e :: es) X.env = (false, eval e X.env) :: starEach es X.env := by rfl) (hpl : (backTo pos (starEach es X.env)).any (·.1) = false := by rfl) :
    PE X (.Call (.Name x p) (e :: es) [] pos) (tCall sp [] (fun _ _ _ => False) t) := by
  constructor
  intro pins s σ H Q I h
  apply wpAny_Call_Name_kw
  apply ld_glob I hg hm _ hdb
  refine PySem.W.callWith_K (h₀ := X.base) I.ok.mod.kin hk (thn (ha.run pos pins s σ H _ I h) fun us s1 hh => ?_) he hpl
  obtain ⟨xs, H1, I1, r, q⟩ := hh
  refine ⟨I1.kIn, ?_⟩
  have q' : sp xs H1 Q (fun _ _ _ => False) := by rw [List.append_nil] at q; exact q
  have hl : us.length = ps.length := by rw [← r.length]; exact F.len _ _ _ _ q'
  have hb' := hb s1 us I1.kIn (by rw [List.append_nil]; exact hl)
  rw [List.append_nil] at hb'
  refine wpAny_call (codeAny_mono (F.run X.A X.stack s1 H1 ⟨us, []⟩ us xs Q _ hgu hr I1.env0 hb' r q') fun r2 s2 hq => ?_)
  cases r2 with
  | error _ => exact hq.elim
  | ok fl =>
    cases fl with
    | ret _ => exact I1.after hq
    | next => exact hq.elim
    | brk => exact hq.elim
    | cont => exact hq.elim
end

section
variable {X : Cx}
/-- repr(x), x plain data -/
def rRep (K : PySem.W.Frag) : List V → Hp → VK → Prop := fun xs H Q => ∃ (x : V) (d : PyData), xs = [x] ∧ Dp K H x d ∧ (∃ a, x = .ref a) ∧ d.showable = true ∧ d.hasDict = false ∧ d.depth ≤ 20 ∧ d.shown.length ≤ sizeLine ∧ Q (.str d.shown) H
theorem call_rep (hgu : X.A.guards = some []) (hu : X.A.units + 64 < cLine) : CallR X (.builtin "repr") (rRep X.K) := by
  intro pins s σ H xs us Q I r h
  obtain ⟨x, d, rfl, hd, ⟨a, rfl⟩, hs, hn, hdep, hz, q⟩ := h
  cases r with
  | cons r1 r2 =>
    cases r2
    cases r1
    obtain ⟨as, rd⟩ := Dp.reads I d (.ref a) (.ref a) hd rfl
    refine repr_of_reads' rd hs (PyData.noDict_hsm hn) hgu (by omega) (fun _ _ z => z) (fun h' u tk hk => ?_) hz
    exact ⟨.str d.shown, H, I.kept (t' := tk) hk, ⟨_, rfl⟩, q⟩
end
/-! ### the law's head -/
theorem lawG {P : Program} {w : World} {K : PySem.W.Frag} {mg mb : Str → Option Value} {k : Nat} {fa a : Addr} {fd : FuncData} {x : Str} {sp : Sp} {s1 : Shared} {vs : List Value} {ns : List Int}
    (kin : K.In s1.heap) (hns : s1.heap.Ns mainGlobals mg) (hbn : s1.heap.Ns builtinsNs mb) (hbb : ∀ x : Str, x ≠ "__name__" → mb x = bootBuiltins x) (nolim : s1.heap.NoLimit) (hg : s1.gens = #[])
    (hobj : s1.heap.get? a = some { cls := .type "list", data := .seq vs.toArray }) (hi : IntsAre vs ns) (hz : ns.length ≤ sizeLine) (hr : Room k callerA)
    (F : ∀ base : Heap, K.In base → base.Ns mainGlobals mg → GOk P w K mg base k fa fd [x] sp) (hbind : ∀ (s : Shared) (u : Value), BindsTo s fd ⟨[u], []⟩ [(x, u)])
    (hsp : ∀ H : Hp, SqL K H a (ns.map V.int) → sp [.ref a] H (fun v _ => v = .bl true) fun _ _ _ => False) :
    codeAny (model P w) callerA (.call (.ref fa) ⟨[.ref a], []⟩) (fun r s2 => r = .ok (.ret (.bool true)) ∧ OldK s1.heap s2.heap ∧ s2.os = s1.os ∧ AllBare s2.gens) s1 := by
  have rel := vals_ints hi
  have same := hi.length
  have go : ∀ H : Hp, (∀ b u, H b = some u → b = a ∧ K.lookup a = none ∧ ∃ o xs, u = .frz o (.lst xs)) → SqL K H a (ns.map V.int) → HOk P w H s1.heap →
      codeAny (model P w) callerA (.call (.ref fa) ⟨[.ref a], []⟩) (fun r s2 => r = .ok (.ret (.bool true)) ∧ OldK s1.heap s2.heap ∧ s2.os = s1.os ∧ AllBare s2.gens) s1 := by
    intro H only hS hok
    have free : ∀ {b : Addr}, b ≠ a → H b = none := fun {b} hb => by
      cases q : H b with
      | none => rfl
      | some u => exact absurd (only b u q).1 hb
    have freeD : ∀ {b : Addr} {o : Obj} {es : Array DictEntry} {ep : Nat}, s1.heap.get? b = some o → o.data = .dict es ep → H b = none := fun {b o es ep} e d => by
      by_cases hb : b = a
      · subst hb
        rw [hobj] at e
        cases e
        cases d
      · exact free hb
    have ns2 : ∀ {b : Addr} {m : Str → Option Value}, s1.heap.Ns b m → (hidT s1.heap H).Ns b m := by
      rintro b m ⟨o, es, ep, e, d, r⟩
      exact ⟨o, es, ep, hidT_get e (freeD e d), d, r⟩
    have kin2 : K.In (hidT s1.heap H) := by
      intro b o e
      refine hidT_get (kin b o e) ?_
      cases q : H b with
      | none => rfl
      | some u =>
        obtain ⟨eb, nk, _⟩ := only b u q
        subst eb
        rw [nk] at e
        cases e
    have mod : Mod K mg (hidT s1.heap H) := by
      refine ⟨kin2, ns2 hns, ⟨mb, ns2 hbn, hbb⟩, ?_⟩
      obtain ⟨mc, h1, h2⟩ := nolim
      exact ⟨mc, ns2 h1, h2⟩
    have env : Env0 P w K mg (hidT s1.heap H) callerA [] s1 H :=
      ⟨rfl, mod, fun b o e => of_hidT e, Nat.le_of_eq (hidT_size _ _), trivial, fun b hb => (by cases (show b ∈ ([] : List Addr) from hb)), hok, .of_eq hg⟩
    have runs := (F _ kin2 (ns2 hns)).run callerA [] s1 H ⟨[.ref a], []⟩ [.ref a] [.ref a] (fun v _ => v = .bl true) (fun _ _ _ => False) rfl hr env (hbind s1 (.ref a)) (.cons rfl .nil) (hsp H hS)
    refine codeAny_mono runs fun r s2 h => ?_
    cases r with
    | error _ => exact h.elim
    | ok fl =>
      cases fl with
      | next => exact h.elim
      | brk => exact h.elim
      | cont => exact h.elim
      | ret u =>
        obtain ⟨v, H2, os, bare, un, hok2, r2, q⟩ := h
        have q2 : v = .bl true := q
        subst q2
        obtain rfl : u = Value.bool true := r2
        refine ⟨rfl, OldK.of_keep fun b o e => ?_, os, bare⟩
        cases z : H b with
        | none => exact un.keep b o e z (fun m => by cases (show b ∈ ([] : List Addr) from m)) (fun m => by cases m)
        | some u2 =>
          obtain ⟨_, _, ob, ys, eu⟩ := only b u2 z
          subst eu
          obtain ⟨e1, _⟩ := hok b _ z
          obtain ⟨e2, _⟩ := hok2 b _ (un.frzs b ob _ z)
          rw [e] at e1
          cases e1
          exact e2
  cases hk : K.lookup a with
  | some o =>
    have e := kin a o hk
    rw [hobj] at e
    cases e
    refine go (fun _ => none) (fun b u z => nomatch z) (.inr ⟨_, vs.toArray, _, hk, rfl, rfl, rfl, by rw [List.size_toArray, same]; exact hz, by simpa using rel⟩) (fun b u z => nomatch z)
  | none =>
    have at1 : ∀ {b : Addr} {u : HO}, (if b = a then some (HO.frz { cls := .type "list", data := .seq vs.toArray } (.lst (ns.map V.int))) else none) = some u → b = a ∧ u = .frz { cls := .type "list", data := .seq vs.toArray } (.lst (ns.map V.int)) := fun {b u} z => by
      by_cases hb : b = a
      · rw [if_pos hb] at z
        cases z
        exact ⟨hb, rfl⟩
      · rw [if_neg hb] at z
        cases z
    refine go (fun b => if b = a then some (.frz { cls := .type "list", data := .seq vs.toArray } (.lst (ns.map V.int))) else none) (fun b u z => ?_) (.inl (.inr ⟨{ cls := .type "list", data := .seq vs.toArray }, if_pos rfl⟩)) (fun b u z => ?_)
    · obtain ⟨e1, e2⟩ := at1 z
      exact ⟨e1, hk, _, _, e2⟩
    · obtain ⟨e1, e2⟩ := at1 z
      subst e1
      subst e2
      exact ⟨hobj, by rw [List.length_map]; exact hz, vs, _, rel, hobj⟩
theorem walkG {l : PySem.W.OpenLaw} {n k : Nat} {q : Program} {loose : List Str} {XP : (Str → Option Value) → Heap → Prop} {YP : World → Heap → Prop} {d : DefRec} {K : Params → PySem.W.Frag} {sp : PySem.W.Frag → Sp} {x : Str}
    (hn : l.most = some n) (hn2 : n ≤ sizeLine) (hdf : d.params.defaults = []) (hr : Room k callerA) (hY : ∀ (w : World) (h : Heap), YP w h → (K w.params).In h)
    (F : ∀ (w : World) (mg : Str → Option Value) (fa : Addr) (h : Heap), (K w.params).In h → h.Ns mainGlobals mg → mg d.name = some (.ref fa) →
      ∃ fd : FuncData, (∀ (s : Shared) (u : Value), BindsTo s fd ⟨[u], []⟩ [(x, u)]) ∧ ∀ base : Heap, (K w.params).In base → base.Ns mainGlobals mg → GOk l.prog w (K w.params) mg base k fa fd [x] (sp (K w.params)))
    (hsp : ∀ (K : PySem.W.Frag) (H : Hp) (a : Addr) (ns : List Int), ns.length ≤ n → SqL K H a (ns.map V.int) → sp K [.ref a] H (fun v _ => v = .bl true) fun _ _ _ => False) :
    PySem.W.WalkO q loose XP YP l.row.toRowW d [] (fun f vs => PySem.call f vs) := by
  apply Att.attach_call hn hdf
  intro w s0 s1 mg mb fa o pm cd doc a vs ns G Y ho hd hcd hmg hobj hints hlen hg
  have kin := hY w _ Y
  obtain ⟨fd, hb, hF⟩ := F w mg fa _ kin G.T.g hmg
  exact lawG kin G.T.g G.T.b G.T.builtins G.T.nolimit hg hobj hints (Nat.le_trans hlen hn2) hr hF hb fun H hS => hsp _ H a ns hlen hS
end SE
/-! Defs by their names. -/
namespace SE
open PySem PySem.Spec PyProof.Rows L2
section
variable {P : Program} {w : World} {K : PySem.W.Frag} {mg : Str → Option Value} {base : Heap}
/-- the def st stands under its name -/
def Def (K : PySem.W.Frag) (mg : Str → Option Value) (x : Str) (st : Stmt) : Prop := ∃ f fd, Fun K x x st f fd ∧ mg x = some (.ref f)
/-- a def that keeps the promise sp stands under the name x; dvs: the values of its defaults -/
def Has (P : Program) (w : World) (K : PySem.W.Frag) (mg : Str → Option Value) (base : Heap) (x : Str) (k : Nat) (ps : List Str) (dvs : List V) (sp : Sp) : Prop :=
  ∃ f fd ds, FnOk P w K mg base CX0 k f fd ps sp ∧ mg x = some (.ref f) ∧ PySem.W.keepIn K (.ref f) = true ∧ Binds K fd ps ds ∧ Vals dvs ds ∧ ∃ st, Fun K x x st f fd
def GHas (P : Program) (w : World) (K : PySem.W.Frag) (mg : Str → Option Value) (base : Heap) (x : Str) (k : Nat) (ps : List Str) (sp : Sp) : Prop :=
  ∃ f fd, GOk P w K mg base k f fd ps sp ∧ mg x = some (.ref f) ∧ PySem.W.keepIn K (.ref f) = true ∧ Binds K fd ps []
abbrev Bx (P : Program) (w : World) (K : PySem.W.Frag) (mg : Str → Option Value) (base : Heap) (N : List Str) (x : Str) (st : Stmt) (f : Addr) (cv : Value) (A : Around) (out : List Env) (s : Shared) (H : Hp) (E : XK) : Cx :=
  (cxOf CX0 P w K mg base N x (defScope st) f cv A out s H E).nox
theorem has_of {x : Str} {st : Stmt} {N ps : List Str} {k : Nat} {sp : Sp} (D : Def K mg x st) (S : FnScope N ps (defScope st))
    (hb : ∀ (kV doc pm : Value) (an : Option Addr) (cv ct : Value) (us : List Value), us.length = ps.length → bindArgs (PySem.W.fnOf x x (defArgs st) (defBody st) (defScope st) .none kV doc pm an cv ct) ⟨us, []⟩ = pure (ps.zip us))
    (len : ∀ xs H Q E, sp xs H Q E → xs.length = ps.length)
    (hbd : ∀ (f : Addr) (cv : Value) (A : Around) (out : List Env) (s : Shared) (H : Hp) (xs : List V) (Q : VK) (E : XK), Room k (A.deeper (envOfC x (defScope st) s.heap.objs.size f cv)) → sp xs H Q E →
      ∃ t, PSs (Bx P w K mg base N x st f cv A out s H E) (defBody st) t ∧ t { nx := fun _ H2 => Q .non H2, rt := Q } (start N xs) H) : Has P w K mg base x (k + 1) ps [] sp := by
  obtain ⟨f, fd, F, hm⟩ := D
  exact ⟨f, fd, [], F.ok S len fun cv A out s H xs Q E hr h => hbd f cv A out s H xs Q E hr h, hm, F.kp, F.binds hb, .nil, st, F⟩
theorem ghas_of {x : Str} {st : Stmt} {N ps : List Str} {k : Nat} {sp : Sp} (D : Def K mg x st) (S : FnScope N ps (defScope st))
    (hb : ∀ (kV doc pm : Value) (an : Option Addr) (cv ct : Value) (us : List Value), us.length = ps.length → bindArgs (PySem.W.fnOf x x (defArgs st) (defBody st) (defScope st) .none kV doc pm an cv ct) ⟨us, []⟩ = pure (ps.zip us))
    (len : ∀ xs H Q E, sp xs H Q E → xs.length = ps.length)
    (hbd : ∀ (f : Addr) (cv : Value) (A : Around) (out : List Env) (s : Shared) (H : Hp) (xs : List V) (Q : VK) (E : XK), A.guards = some [] → Room k (A.deeper (envOfC x (defScope st) s.heap.objs.size f cv)) → sp xs H Q E →
      ∃ t, PSs (Bx P w K mg base N x st f cv A out s H E) (defBody st) t ∧ t { nx := fun _ H2 => Q .non H2, rt := Q } (start N xs) H) : GHas P w K mg base x (k + 1) ps sp := by
  obtain ⟨f, fd, F, hm⟩ := D
  exact ⟨f, fd, gok_mk F S len fun cv A out s H xs Q E hg hr h => hbd f cv A out s H xs Q E hg hr h, hm, F.kp, F.binds hb⟩
theorem Has.mono {x : Str} {j k : Nat} {ps : List Str} {dvs : List V} {sp : Sp} (h : Has P w K mg base x j ps dvs sp) (hk : j ≤ k) : Has P w K mg base x k ps dvs sp := by
  obtain ⟨f, fd, ds, F, r⟩ := h
  exact ⟨f, fd, ds, F.mono hk, r⟩
theorem Has.fun {x : Str} {k : Nat} {ps : List Str} {dvs : List V} {sp : Sp} {st : Stmt} (h : Has P w K mg base x k ps dvs sp) (D : Def K mg x st) : ∃ f fd, FnOk P w K mg base CX0 k f fd ps sp ∧ mg x = some (.ref f) ∧ PySem.W.keepIn K (.ref f) = true ∧ Fun K x x st f fd := by
  obtain ⟨f, fd, ds, G, hm, hk, hb, hd, st2, F2⟩ := h
  obtain ⟨g, fe, F, hg⟩ := D
  have e : f = g := by
    rw [hm] at hg
    cases hg
    rfl
  subst e
  have e2 : fd = fe := by
    obtain ⟨_, _, _, _, _, _, _, _, _, _, l1, _⟩ := F.ex
    obtain ⟨_, _, _, _, _, _, _, _, _, _, l2, _⟩ := F2.ex
    rw [l1] at l2
    cases l2
    rfl
  subst e2
  exact ⟨f, fd, G, hm, hk, F⟩
end
section
variable {X : Cx} {k : Nat} {ps : List Str} {sp : Sp} {x : Str} {p pos : Pos} {e : Expr} {es : List Expr} {t : TA} {dvs : List V}
theorem pe_has (h : Has X.prog X.w X.K X.mg X.base x k ps dvs sp) (hr : Room k X.A) (ha : PA X (e :: es) t) (hg : Gl X x := by rfl) (hdb : (x == ("__debug__" : Str)) = false := by decide)
    (he : starEach (e :: es) X.env = (false, eval e X.env) :: starEach es X.env := by rfl) (hpl : (backTo pos (starEach es X.env)).any (·.1) = false := by rfl) : PE X (.Call (.Name x p) (e :: es) [] pos) (tCall sp dvs E0 t) := by
  obtain ⟨f, fd, ds, F, hm, hk, hb, hd, _⟩ := h
  exact pe_call F hr hg hm hk hb hd pass0 ha hdb he hpl
theorem pe_ghas (h : GHas X.prog X.w X.K X.mg X.base x k ps sp) (hgu : X.A.guards = some []) (hr : Room k X.A) (ha : PA X (e :: es) t) (hg : Gl X x := by rfl) (hdb : (x == ("__debug__" : Str)) = false := by decide)
    (he : starEach (e :: es) X.env = (false, eval e X.env) :: starEach es X.env := by rfl) (hpl : (backTo pos (starEach es X.env)).any (·.1) = false := by rfl) : PE X (.Call (.Name x p) (e :: es) [] pos) (tCall sp [] E0 t) := by
  obtain ⟨f, fd, F, hm, hk, hb⟩ := h
  exact pe_callG F hgu hr hg hm hk hb ha hdb he hpl
end
/-! ### heaps -/
theorem Same.tup {K : PySem.W.Frag} {H H' : Hp} {a : Addr} {xs : List V} (e : Same H H') (h : SqT K H a xs) : SqT K H' a xs := by
  rcases h with (h | ⟨o, h⟩) | h
  · exact .inl (.inl (e _ _ h))
  · exact .inl (.inr ⟨o, e _ _ h⟩)
  · exact .inr h
theorem Same.new {H : Hp} {p : Addr} {o : HO} (h : H p = none) : Same H (upd H p o) := fun b u z => by
  rw [upd_ne (ne_of_none z h)]
  exact z
/-- all but what stands at p -/
def But (p : Addr) (H H' : Hp) : Prop := ∀ b o, b ≠ p → H b = some o → H' b = some o
theorem But.refl (p : Addr) (H : Hp) : But p H H := fun _ _ _ h => h
theorem But.trans {p : Addr} {H H1 H2 : Hp} (a : But p H H1) (b : But p H1 H2) : But p H H2 := fun c o n h => b c o n (a c o n h)
theorem But.of {p : Addr} {H H1 : Hp} (a : Same H H1) : But p H H1 := fun c o _ h => a c o h
theorem But.at {p : Addr} {H : Hp} {o : HO} : But p H (upd H p o) := fun c u n h => by
  rw [upd_ne n]
  exact h
/-- what H does not know may change -/
theorem But.free {p q : Addr} {H H1 : Hp} {o : HO} (a : But p H H1) (h : H q = none) : But p H (upd H1 q o) := fun c u n z => by
  rw [upd_ne (ne_of_none z h)]
  exact a c u n z
theorem Same.free2 {q : Addr} {H H1 : Hp} {o : HO} (a : Same H H1) (h : H q = none) : Same H (upd H1 q o) := fun c u z => by
  rw [upd_ne (ne_of_none z h)]
  exact a c u z
theorem But.none {p q : Addr} {H H1 : Hp} (a : But p H H1) (n : q ≠ p) (h : H1 q = Option.none) : H q = Option.none := by
  cases z : H q with
  | none => rfl
  | some o =>
    rw [a q o n z] at h
    cases h
/-! ### the drawn numbers -/
/-- a pool: two numbers -/
structure Pool (H : Hp) (p : Addr) : Prop where
  ex : ∃ m s : Int, H p = some (.lst [.int m, .int s]) ∧ 0 ≤ m ∧ 0 ≤ s ∧ s < 2147483647
theorem Pool.ne {H : Hp} {p t : Addr} {xs : List V} (h : Pool H p) (ht : H t = some (.tup xs)) : t ≠ p := by
  obtain ⟨m, s, e, _⟩ := h.ex
  intro z
  rw [z, e] at ht
  cases ht
theorem Pool.free {H : Hp} {p q : Addr} (h : Pool H p) (hq : H q = none) : q ≠ p := by
  obtain ⟨m, s, e, _⟩ := h.ex
  intro z
  rw [z, e] at hq
  cases hq
theorem Pool.same {H H' : Hp} {p : Addr} (h : Pool H p) (s : Same H H') : Pool H' p := by
  obtain ⟨m, n, e, r⟩ := h.ex
  exact ⟨m, n, s _ _ e, r⟩
theorem Pool.upd {H : Hp} {p q : Addr} {o : HO} (h : Pool H p) (n : q ≠ p) : Pool (L2.upd H q o) p := by
  obtain ⟨m, k, e, r⟩ := h.ex
  exact ⟨m, k, by rw [upd_ne (Ne.symm n)]; exact e, r⟩
end SE
/-! enumerate(t) and t[::-1] of a tuple. -/
namespace SE
open PySem PySem.Spec PyProof.Rows L2
section
open Sem (wp)
open AutoSeq1 (wpAny_loadPart')
theorem meets_enum_newT (t : Addr) (items : Array Value) (n : Nat) (dct : Option Addr) (sl : Array (Option Value)) :
    Meets (Builtin.«enumerate.__new__» ⟨[.type "enumerate", .ref t], []⟩) (fun _ R s => s.heap.get? t = some { cls := .type "tuple", dict := dct, data := .seq items n, slots := sl } ∧
      R (.ok (.ret (.ref (s.heap.push { cls := .type "tuple_iterator", data := .fields #[.ref t, .int 0 0] }).objs.size)))
        { s with heap := (s.heap.push { cls := .type "tuple_iterator", data := .fields #[.ref t, .int 0 0] }).push { cls := .type "enumerate", data := .fields #[.none, .bool false, .ref s.heap.objs.size, rawInt 0, .none, .none] } }) := by
  refine .of_wp fun prog w A R s h => ?_
  obtain ⟨hp, g, d, tk, os⟩ := s
  obtain ⟨ht, h⟩ := h
  have hsub := sub_enumerate
  have hT : Heap.IsTuple (Shared.heap ⟨hp, g, d, tk, os⟩) t items := ⟨_, ht, rfl, n, rfl⟩
  wp_walk using wpAny_loadPart' ht
  refine wpAny_stack_any fun st => wpAny_pure ?_
  split
  · rename_i c _ _ _ _ _
    cases (c == Value.type "enumerate")
    · wp_walk using wpAny_loadPart' ht, wpAny_pyIter_tuple hT
      exact ⟨_, rfl, h⟩
    · wp_walk using wpAny_loadPart' ht, wpAny_pyIter_tuple hT
      exact ⟨_, rfl, h⟩
  · wp_walk using wpAny_loadPart' ht, wpAny_pyIter_tuple hT
    exact ⟨_, rfl, h⟩
end
section
variable {prog : Program} {w : World} {A : Around} {E : Value → Shared → Prop} {s : Shared}
theorem call_enumT {t : Addr} {items : Array Value} {Q : Value → Shared → Prop} (hT : s.heap.IsTuple t items)
    (h : ∀ h', IsEnum h' (s.heap.objs.size + 1) s.heap.objs.size 0 .none → h'.IsTupleIter s.heap.objs.size t 0 → (∀ b o, s.heap.get? b = some o → h'.get? b = some o) → Q (.ref (s.heap.objs.size + 1)) { s with heap := h' }) :
    wpAny (model prog w) A (call (.type "enumerate") [.ref t]) Q E s := by
  obtain ⟨⟨c, dct, dt, sl⟩, ht, hc, n, hd⟩ := hT
  simp only at hc hd
  subst hc hd
  refine callType_new F.called_enumerate (by decide) (F.typeCall_enumerate_1 _) (F.newCall_enumerate_1 _) (fun obj => F.args_object_init_2 obj _) F.entry_enumerate_new (meets_enum_newT t items n dct sl) ⟨ht, ?_⟩
  have hz : (s.heap.push { cls := .type "tuple_iterator", data := .fields #[.ref t, .int 0 0] }).objs.size = s.heap.objs.size + 1 := Heap.size_push ..
  show _ ∧ _
  rw [hz]
  have he : IsEnum ((s.heap.push { cls := .type "tuple_iterator", data := .fields #[.ref t, .int 0 0] }).push
      { cls := .type "enumerate", data := .fields #[.none, .bool false, .ref s.heap.objs.size, rawInt 0, .none, .none] }) (s.heap.objs.size + 1) s.heap.objs.size 0 .none := by
    have z := Heap.get?_push_size (s.heap.push { cls := .type "tuple_iterator", data := .fields #[.ref t, .int 0 0] })
      (o := { cls := .type "enumerate", data := .fields #[.none, .bool false, .ref s.heap.objs.size, rawInt 0, .none, .none] }) rfl
    rw [hz] at z
    exact z
  exact ⟨⟨_, he, rfl⟩, h _ he ⟨_, Heap.get?_push_of_some _ (Heap.get?_push_size _ rfl), rfl, rfl⟩ fun b o x => Heap.get?_push_of_some _ (Heap.get?_push_of_some _ x)⟩
end
/-- the tuple at a, each item in a new pair -/
def ItE (K : PySem.W.Frag) (a : Addr) : It :=
  ⟨fun i H => ∃ (xs : List V) (x : V), SqT K H a xs ∧ xs[i]? = some x, fun i H v H' => ∃ T x, v = .ref T ∧ H T = none ∧ H' = upd H T (.tup [.int (i : Nat), x]) ∧ ∀ xs, SqT K H a xs → xs[i]? = some x, fun i H => ∃ xs : List V, SqT K H a xs ∧ xs.length ≤ i⟩
theorem turn_enumT {P : Program} {w : World} {K : PySem.W.Frag} {elts : List Expr} {kk : Nat} {tpos : Pos} (a e it : Addr) :
    Turn P w K (.Tuple elts kk tpos) (ItE K a) [e, it] e (fun i h => (∃ old, IsEnum h e it ((i : Nat) : Int) old) ∧ h.IsTupleIter it a i ∧ e ≠ it ∧ a ≠ it ∧ a ≠ e) where
  mem := by simp
  obj := fun i h st b hb => by
    obtain ⟨⟨old, he⟩, ⟨o, ho, hc, hd⟩, _⟩ := st
    have ee : b = e ∨ b = it := by simpa using hb
    rcases ee with z | z
    · rw [z]
      exact ⟨_, he, fun v q => nomatch q⟩
    · rw [z]
      exact ⟨o, ho, fun v q => by rw [hd] at q; cases q⟩
  keep := fun i h h' st k => by
    obtain ⟨⟨old, he⟩, hi, hne⟩ := st
    exact ⟨⟨old, k e (by simp) _ he⟩, (let ⟨o, ho, r⟩ := hi; ⟨o, k it (by simp) o ho, r⟩), hne⟩
  item := by
    intro X hP hw hK hc i pins s σ H E I hf st hg
    subst hP hw hK
    obtain ⟨⟨old, he⟩, hit, hne, hai, hae⟩ := st
    obtain ⟨xs, x, hq, hx⟩ := hg
    obtain ⟨its, rv, p, hz⟩ := I.tuple hq
    obtain ⟨u, hu, ru⟩ := rv.get hx
    have hel : e < s.heap.objs.size := Heap.lt_size he
    have hil : it < s.heap.objs.size := by
      obtain ⟨_, q, _⟩ := hit
      exact Heap.lt_size q
    have hlt : i < its.toArray.size := by
      rw [List.size_toArray, ← rv.length]
      exact (List.getElem?_eq_some_iff.mp hx).1
    have D : Draws X.prog X.w X.A.in1 it [it, a] its.toArray.size (fun j v => its.toArray[j]? = some v) (fun j h => h.IsTupleIter it a j ∧ h.IsTuple a its.toArray) := Draws.tuple (A := X.A.in1) (I.ok.hd hc) it a hai its.toArray
    refine wpAny_pyNext_enum_itemD D he ⟨hit, p⟩ hlt hne (by simp [Ne.symm hae, hne]) fun v h1 tk hv ho hit1 hT hsz hk => ?_
    have ev : v = u := by
      have z : some v = some u := by rw [← hv]; simpa using hu
      exact Option.some.inj z
    subst ev
    refine ⟨_, rfl, wpAny_letOwnedTupleGo_enum (s := { s with heap := h1, toks := tk + 1 }) ho fun h2 he2 sb => ?_⟩
    have hT2 : h2.get? s.heap.objs.size = some { cls := .type "tuple", data := .seq #[.int i tk, v] } := (sb.2 _ (Nat.ne_of_gt hel)).trans hT
    have new : ObjOk X.prog X.w (upd H s.heap.objs.size (.tup [.int (i : Nat), x])) h2 s.heap.objs.size (.tup [.int (i : Nat), x]) :=
      ⟨by show 2 ≤ sizeLine; decide, [.int i tk, v], .cons ⟨_, rfl⟩ (.cons ru .nil), ⟨_, hT2, rfl, _, rfl⟩⟩
    have J : Inv X pins σ (upd H s.heap.objs.size (.tup [.int (i : Nat), x])) { s with heap := h2, toks := tk + 1 } :=
      I.turnedNew (ch := [e, it]) (fun b ob hb q => (sb.2 b (fun z => hb (by simp [z]))).trans (hk b ob (fun z => hb (by simp [z])) (fun z => hb (by simp [z])) q)) hf (Nat.le_refl _) new
    refine ⟨.ref s.heap.objs.size, _, J, rfl, ⟨_, x, rfl, I.hok.fresh (Nat.le_refl _), rfl, fun ys hy => by rw [I.tuple_inj hy hq]; exact hx⟩, ⟨⟨v, ?_⟩, ?_, hne, hai, hae⟩, fun b hb => ?_⟩
    · have e1 : ((i + 1 : Nat) : Int) = (i : Int) + 1 := by omega
      rw [e1]
      exact he2
    · obtain ⟨o, ho2, r⟩ := hit1.1
      exact ⟨o, (sb.2 it (Ne.symm hne)).trans ho2, r⟩
    · have hb2 : b < s.heap.objs.size := by
        have ee : b = e ∨ b = it := by simpa using hb
        rcases ee with z | z
        · rw [z]; exact hel
        · rw [z]; exact hil
      rw [upd_ne (Nat.ne_of_lt hb2)]
      exact (hf b hb).1
  done := by
    intro X hP hw hK hc i pins s σ H E I hf st hg
    subst hP hw hK
    obtain ⟨⟨old, he⟩, hit, hne, hai, hae⟩ := st
    obtain ⟨xs, hq, hx⟩ := hg
    obtain ⟨its, rv, p, hz⟩ := I.tuple hq
    obtain ⟨f0, f1, f2, f3, f4, f5⟩ := hf it (by simp)
    have hl := rv.length
    have D : Draws X.prog X.w X.A.in1 it [it, a] i (fun j v => its.toArray[j]? = some v) (fun j h => j = i ∧ h.IsTupleIter it a i ∧ h.IsTuple a its.toArray ∧ its.toArray.size ≤ i) := by
      have D0 := Draws.tuple (prog := X.prog) (w := X.w) (A := X.A.in1) (I.ok.hd hc) it a hai its.toArray
      refine ⟨fun j h z => D0.live i h ⟨z.2.1, z.2.2.1⟩, fun j h h' z k => ⟨z.1, (D0.frame i h h' ⟨z.2.1, z.2.2.1⟩ k).1, (D0.frame i h h' ⟨z.2.1, z.2.2.1⟩ k).2, z.2.2.2⟩, fun j s Q E hj z k => ?_, fun s Q E z k => ?_⟩
      · exact absurd z.1 (Nat.ne_of_lt hj)
      · exact wpAny_nextOf_tuple_end (I.ok.hd hc) z.2.1 z.2.2.1 (Array.getElem?_eq_none z.2.2.2) k
    exact wpAny_pyNext_enum_endD D he ⟨rfl, hit, p, by rw [List.size_toArray]; omega⟩ fun h' eb => ⟨rfl, I.turned (t' := s.toks) (fun b o hb q => eb b o hb q) f0 f1 f3 f4 f5⟩
  self := fun A i s Q E st h => let ⟨⟨_, he⟩, _⟩ := st; wpAny_pyIter_enum he h
def iEnumT (K : PySem.W.Frag) (ta : TA) : TI := fun σ H R => ta σ H fun vs H1 => ∃ a xs, vs = [.ref a] ∧ SqT K H1 a xs ∧ R (ItE K a) H1
theorem pi_enumT {X : Cx} {e : Expr} {ta : TA} {p pos tpos : Pos} {elts : List Expr} {kk : Nat} (hg : Gl X "enumerate") (hm : X.mg "enumerate" = none) (ha : PA X [e] ta) (hs : starEach [e] X.env = [(false, eval e X.env)] := by rfl) :
    PI X (.Tuple elts kk tpos) (.Call (.Name "enumerate" p) [e] [] pos) (iEnumT X.K ta) := by
  constructor
  intro pins s σ H R I h
  refine Call_ (ld_blt I hg hm boot_enumerate (PyProof.Rows.callWith_type1 (thn (ha.run pos pins s σ H _ I h) fun us s1 hh => ?_) hs rfl))
  obtain ⟨vs, H1, I1, r1, a, xs, ex, hq, q⟩ := hh
  subst ex
  cases r1 with
  | cons r rr =>
    cases rr
    cases r
    obtain ⟨its, rv, p2, hz⟩ := I1.tuple hq
    refine call_enumT p2 fun h2 he hit hk => wpAny_pyIter_enum he ?_
    have I2 : Inv X pins σ H1 { s1 with heap := h2 } := I1.kept (t' := s1.toks) hk
    have hlt : a < s1.heap.objs.size := p2.lt
    refine ⟨s1.heap.objs.size + 1, [s1.heap.objs.size + 1, s1.heap.objs.size], _, _, H1, rfl, I2, turn_enumT a (s1.heap.objs.size + 1) s1.heap.objs.size, ⟨⟨.none, he⟩, hit, Nat.succ_ne_self _, Nat.ne_of_lt hlt, Nat.ne_of_lt (Nat.lt_succ_of_lt hlt)⟩, fun b hb => ?_, q⟩
    have ee : b = s1.heap.objs.size + 1 ∨ b = s1.heap.objs.size := by simpa using hb
    have hle : s1.heap.objs.size ≤ b := by
      rcases ee with z | z
      · rw [z]; exact Nat.le_add_right _ _
      · rw [z]; exact Nat.le_refl _
    exact I1.fpOk hle (I1.hok.fresh hle)
/-! ### t[::-1] -/
section
variable {prog : Program} {w : World} {A : Around} {E : Value → Shared → Prop} {s : Shared}
theorem back_pick (xs : Array Value) (n : Nat) (hn : n = xs.size) : (List.range n).filterMap (fun (m : Nat) => xs[(((n : Int) - 1) + (m : Int) * (-1)).toNat]?) = xs.toList.reverse := by
  subst hn
  have e : (fun (m : Nat) => xs[(((xs.size : Nat) : Int) - 1 + (m : Int) * (-1)).toNat]?) = fun m => xs[xs.size - 1 - m]? := by
    funext m
    have z : (((xs.size : Nat) : Int) - 1 + (m : Int) * (-1)).toNat = xs.size - 1 - m := by omega
    rw [z]
  rw [e]
  have a := PySem.W.krv_pick xs
  have b : PySem.slicePick xs none none (some (-1)) = ((List.range xs.size).filterMap fun m => xs[xs.size - 1 - m]?).toArray := by
    unfold PySem.slicePick
    rw [PySem.W.krv_bounds]
    show ((PySem.sliceRange ((xs.size : Int) - 1) (-1) (-1)).filterMap (xs[·]?)).toArray = _
    rw [PySem.W.krv_sliceRange, List.filterMap_map]
    rfl
  have c := a.symm.trans b
  have d := congrArg Array.toList c
  exact d.symm
theorem applied_back {sl : Addr} {vs : Value} {n : Nat} {Q : Int × Int × Nat → Shared → Prop} (hs : s.heap.IsSliceOf sl .none .none vs) (pv : IsPart vs (some (-1)))
    (h : Q ((n : Int) - 1, -1, n) s) : wpAny (model prog w) A (Builtin.Slice.sliceApplied (.ref sl) (pure (n : Int))) Q E s := by
  obtain ⟨os, hos, hcs, hds⟩ := id hs
  unfold Builtin.Slice.sliceApplied Builtin.Slice.sliceFields
  refine wpAny_bind (wpAny_bind (wpAny_field hos hds (x := .none) rfl (wpAny_bind (wpAny_field hos hds (x := .none) rfl (wpAny_bind (wpAny_field hos hds (x := vs) rfl (wpAny_pure ?_)))))))
  refine wpAny_bind (HT.slicePart_ pv ?_)
  show wpAny _ _ (if ((-1 : Int) == 0) = true then _ else _) _ _ s
  rw [if_neg (by decide)]
  refine wpAny_bind (HT.slicePart_ .none (wpAny_bind (HT.slicePart_ .none (wpAny_bind (wpAny_pure ?_)))))
  show wpAny _ _ (pure ((n : Int) - 1, (-1 : Int), Builtin.Slice.slicePlaces ((n : Int) - 1) (-1) (-1))) _ _ s
  have e : Builtin.Slice.slicePlaces ((n : Int) - 1) (-1) (-1) = n := by
    unfold Builtin.Slice.slicePlaces
    rw [if_neg (by decide)]
    by_cases hn : (n : Int) - 1 > -1
    · rw [if_pos hn, show (- -1 : Int) = 1 by decide, Int.ediv_one]
      omega
    · rw [if_neg hn]
      omega
  rw [e]
  exact wpAny_pure h
theorem item_back {t sl : Addr} {items : Array Value} {vs : Value} {Q : Value → Shared → Prop} (ht : IsTup s.heap t items) (hs : s.heap.IsSliceOf sl .none .none vs) (pv : IsPart vs (some (-1)))
    (h : Q (.ref s.heap.objs.size) { s with heap := s.heap.push { cls := .type "tuple", data := .seq items.toList.reverse.toArray } }) (hsz : items.size ≤ sizeLine) : wpAny (model prog w) A (getItem (.ref t) (.ref sl)) Q E s := by
  have hok : sizeOk (.seq items.toList.reverse.toArray) := by
    show items.toList.reverse.toArray.size ≤ sizeLine
    rw [List.size_toArray, List.length_reverse, Array.length_toList]
    exact hsz
  obtain ⟨os, hos, hcs, hds⟩ := id hs
  have hTs : s.TypeIs (.ref sl) "slice" := ⟨os, hos, hcs⟩
  unfold getItem
  try with_reducible refine wpAny_holding ?_
  first | refine wpAny_bind (wpAny_pure ?_) | skip
  refine wpAny_bind (wpAny_sequenceKey ht.typeIs (by decide) ?_)
  refine wpAny_bind (wpAny_callSpecial?_slot (name := Str.ofString "__getitem__") ht.typeIs PyProof.Rows.slot_tuple_getitem (wpAny_call_entry PyProof.Rows.slot_tuple_getitem ht.typeIs entry_tuple_getitem ?_ (args_tuple_getitem _ _)))
  show wpAny _ _ (Builtin.Tuple.tupleItemsOf (.ref t) >>= _) _ _ s
  refine wpAny_bind (tupleItemsOf_ ht ?_)
  refine wpAny_bind (wpAny_typeOf hTs ?_)
  rw [if_pos (by decide)]
  refine wpAny_bind (applied_back hs pv ?_)
  have hno : ¬ ((((items.size : Int) - 1) == 0 && (-1 : Int) == 1 && items.size == items.size) = true) := by
    intro q
    rw [Bool.and_eq_true, Bool.and_eq_true] at q
    exact absurd q.1.2 (by decide)
  show wpAny _ _ (if (((items.size : Int) - 1) == 0 && (-1 : Int) == 1 && items.size == items.size) = true then _ else _) _ _ s
  rw [if_neg hno, back_pick items items.size rfl]
  first
    | exact wpAny_bind (m := Builtin.Tuple.tupleExact _) (wpAny_newObj_type (wpAny_pure ⟨_, rfl, wpAny_pure h⟩) hok)
    | exact wpAny_bind (m := Builtin.Tuple.tupleExact _) (wpAny_newObj_type (wpAny_bind (wpAny_pure (wpAny_pure ⟨_, rfl, wpAny_pure h⟩))) hok)
    | exact wpAny_bind (wpAny_bind (m := Builtin.Tuple.tupleExact _) (wpAny_newObj_type (wpAny_pure (wpAny_pure ⟨_, rfl, wpAny_pure h⟩)) hok))
    | exact wpAny_bind (wpAny_bind (m := Builtin.Tuple.tupleExact _) (wpAny_newObj_type (wpAny_pure ⟨_, rfl, wpAny_pure h⟩) hok))
end
def tRevT (K : PySem.W.Frag) (te : TE) : TE := fun σ H Q => te σ H fun x H1 => ∃ a xs, x = .ref a ∧ SqT K H1 a xs ∧ ∀ p, H1 p = none → Q (.ref p) (upd H1 p (.tup xs.reverse))
theorem pe_revT {X : Cx} {e : Expr} {te : TE} {k : Nat} {p1 p2 p3 pos : Pos} (he : PE X e te) : PE X (.Subscript e (.Slice none none (some (.UnaryOp .USub (.Constant (.int 1) k p1) p2)) p3) pos) (tRevT X.K te) := by
  constructor
  intro pins s σ H Q I h
  refine Subscript_ (thn (he.run pins s σ H _ I h) fun v s1 hh => ?_)
  obtain ⟨x, H1, I1, r1, a, xs, ex, hx, q⟩ := hh
  subst ex
  cases r1
  have hst : PO X (some (.UnaryOp .USub (.Constant (.int 1) k p1) p2)) (tPart (tUn (rU fun i => .int (-i)) (tC (.int 1)))) := po_some (pe_un un_neg pe_int)
  refine wpAny_Slice (thn (po_none.run pins s1 σ H1 (fun o H2 => o = none ∧ H2 = H1) I1 ⟨rfl, rfl⟩) fun vl s2 hl => ?_)
  obtain ⟨l, H2, I2, pl, el, e2⟩ := hl
  subst el e2
  refine thn (po_none.run pins s2 σ H2 (fun o H3 => o = none ∧ H3 = H2) I2 ⟨rfl, rfl⟩) fun vu s3 hu => ?_
  obtain ⟨u, H3, I3, pu, eu, e3⟩ := hu
  subst eu e3
  refine thn (hst.run pins s3 σ H3 (fun o H4 => o = some (-1) ∧ H4 = H3) I3 ⟨1, rfl, -1, rfl, rfl, rfl⟩) fun vs s4 ho => ?_
  obtain ⟨o, H4, I4, ps, eo, e4⟩ := ho
  subst eo e4
  cases pl
  cases pu
  have I5 : Inv X pins σ H4 { s4 with heap := s4.heap.push { cls := .type "slice", data := .fields #[.none, .none, vs] } } := I4.kept (t' := s4.toks) fun b ob q => Heap.get?_push_of_some _ q
  obtain ⟨its, r, ht, hz⟩ := I5.tuple hx
  have hlen := r.length
  show wpAny (model X.prog X.w) X.A (subscriptTail e (.Slice none none (some (.UnaryOp .USub (.Constant (.int 1) k p1) p2)) p3) (.ref a) (.ref s4.heap.objs.size)) (EP X pins σ Q) X.xe { s4 with heap := s4.heap.push { cls := .type "slice", data := .fields #[.none, .none, vs] } }
  refine tail_any (ops := [.ref a, .ref s4.heap.objs.size]) ht.typeIs (PyProof.Rows.slot_tuple_getitem.lookup) ?_ (by with_unfolding_all rfl)
  refine item_back ht (Heap.IsSliceOf.new _ .none .none vs) ps ?_ (by rw [List.size_toArray]; omega)
  refine ⟨.ref _, _, I5.laid (t' := s4.toks) (o := .tup xs.reverse) (fun b ob q => Heap.get?_push_of_some _ q) (Nat.le_refl _) ?_, rfl, q _ (I5.hok.fresh (Nat.le_refl _))⟩
  exact ⟨by rw [List.length_reverse]; exact hz, _, r.reverse, IsTup.new _ _⟩
end SE
/-! Plain data: texts, steps; when they are equal, how they are shown. -/
namespace SE
open PySem PySem.Spec PyProof.Rows L2
/-- a text that is an item -/
structure Item (z : Str) : Prop where
  pos : 1 ≤ z.length
  most : z.length ≤ 8
  low : ∀ c ∈ z.cps.toList, 97 ≤ c ∧ c ≤ 122
/-- data that may be compared and shown: its depth, its weight -/
structure Nice (k B : Nat) (d : PyData) : Prop where
  lay : d.canLay0 = true
  dep : d.depth ≤ k
  sh : d.showable = true
  nd : d.hasDict = false
  ish : d.intsShort 13 = true
  wt : d.weight ≤ B
theorem Nice.mono {k j B C : Nat} {d : PyData} (h : Nice k B d) (hk : k ≤ j) (hB : B ≤ C) : Nice j C d := ⟨h.lay, Nat.le_trans h.dep hk, h.sh, h.nd, h.ish, Nat.le_trans h.wt hB⟩
theorem nice_str {z : Str} {B : Nat} (hc : ∀ c ∈ z.cps.toList, c < 0x110000) (hB : z.length ≤ B) : Nice 0 B (.str z) := by
  refine ⟨?_, ?_, ?_, ?_, ?_, ?_⟩
  · simp only [PyData.canLay0, PyData.strOk]
    rw [← Array.all_toList, List.all_eq_true]
    intro c h
    exact decide_eq_true (hc c h)
  · simp only [PyData.depth]
    exact Nat.le_refl _
  · simp only [PyData.showable]
  · simp only [PyData.hasDict]
  · simp only [PyData.intsShort]
  · simp only [PyData.weight]
    exact hB
theorem Item.nice {z : Str} (h : Item z) : Nice 0 8 (.str z) := nice_str (fun c hc => by have := (h.low c hc).2; omega) h.most
theorem nice_all {k B : Nat} : ∀ {ds : List PyData}, (∀ d ∈ ds, Nice k B d) → PyData.canLayAll0 ds = true ∧ PyData.depthAll ds ≤ k ∧ PyData.showableAll ds = true ∧ PyData.hasDictAll ds = false ∧ PyData.intsShortAll 13 ds = true ∧ PyData.weightAll ds ≤ ds.length * (B + 1)
  | [], _ => by
    refine ⟨?_, ?_, ?_, ?_, ?_, ?_⟩
    · simp only [PyData.canLayAll0]
    · simp only [PyData.depthAll]
      exact Nat.zero_le _
    · simp only [PyData.showableAll]
    · simp only [PyData.hasDictAll]
    · simp only [PyData.intsShortAll]
    · simp only [PyData.weightAll]
      exact Nat.zero_le _
  | d :: ds, h => by
    obtain ⟨a1, a2, a3, a4, a5, a6⟩ := nice_all (ds := ds) fun x hx => h x (List.mem_cons_of_mem _ hx)
    have q := h d List.mem_cons_self
    refine ⟨?_, ?_, ?_, ?_, ?_, ?_⟩
    · simp only [PyData.canLayAll0, q.lay, a1, Bool.and_self]
    · simp only [PyData.depthAll]
      exact Nat.max_le.mpr ⟨q.dep, a2⟩
    · simp only [PyData.showableAll, q.sh, a3, Bool.and_self]
    · simp only [PyData.hasDictAll, q.nd, a4, Bool.or_self]
    · simp only [PyData.intsShortAll, q.ish, a5, Bool.and_self]
    · simp only [PyData.weightAll, List.length_cons]
      have := q.wt
      rw [Nat.add_mul]
      omega
theorem nice_list {k B : Nat} {ds : List PyData} (h : ∀ d ∈ ds, Nice k B d) : Nice (k + 1) (ds.length * (B + 1)) (.list ds) := by
  obtain ⟨a1, a2, a3, a4, a5, a6⟩ := nice_all h
  exact ⟨by simp only [PyData.canLay0]; exact a1, by simp only [PyData.depth]; omega, by simp only [PyData.showable]; exact a3, by simp only [PyData.hasDict]; exact a4, by simp only [PyData.intsShort]; exact a5, by simp only [PyData.weight]; exact a6⟩
theorem nice_tuple {k B : Nat} {ds : List PyData} (h : ∀ d ∈ ds, Nice k B d) : Nice (k + 1) (ds.length * (B + 1)) (.tuple ds) := by
  obtain ⟨a1, a2, a3, a4, a5, a6⟩ := nice_all h
  exact ⟨by simp only [PyData.canLay0]; exact a1, by simp only [PyData.depth]; omega, by simp only [PyData.showable]; exact a3, by simp only [PyData.hasDict]; exact a4, by simp only [PyData.intsShort]; exact a5, by simp only [PyData.weight]; exact a6⟩
theorem Nice.shaped {k B : Nat} {d : PyData} (h : Nice k B d) (hk : k ≤ 64) : SeqAt.shaped d = true := by
  unfold SeqAt.shaped
  rw [h.lay, Bool.true_and]
  exact decide_eq_true (Nat.le_trans h.dep hk)
theorem Nice.shown {k B : Nat} {d : PyData} (h : Nice k B d) (hk : k ≤ 64) (hB : B ≤ 2 ^ 20) : d.shown.length ≤ sizeLine := by
  refine PyData.shown_fits_of_layable0 (B := 13) (by decide) (by decide) ?_ h.ish
  unfold PyData.layable0
  rw [h.lay, Bool.true_and, Bool.and_eq_true]
  exact ⟨decide_eq_true (Nat.le_trans h.dep hk), decide_eq_true (Nat.le_trans h.wt hB)⟩
theorem Nice.eqv {k B : Nat} {d : PyData} (h : Nice k B d) : PyData.eqv d d = true := SeqAt.eqv_refl d h.lay
/-! ### texts -/
theorem dp_strs {K : PySem.W.Frag} {H : Hp} : ∀ zs : List Str, DpAll K H (zs.map V.str) (zs.map PyData.str)
  | [] => .nil
  | z :: zs => .cons (.str z) (dp_strs zs)
theorem eqvAll_strs : ∀ a b : List Str, PyData.eqvAll (a.map .str) (b.map .str) = decide (a = b)
  | [], [] => by simp [PyData.eqvAll]
  | [], y :: b => by simp [PyData.eqvAll]
  | x :: a, [] => by simp [PyData.eqvAll]
  | x :: a, y :: b => by
    rw [List.map_cons, List.map_cons]
    unfold PyData.eqvAll
    rw [eqvAll_strs a b]
    unfold PyData.eqv
    by_cases e : x = y
    · subst e
      simp
    · simp [e]
theorem eqv_listS (a b : List Str) : PyData.eqv (.list (a.map .str)) (.list (b.map .str)) = decide (a = b) := by
  unfold PyData.eqv
  exact eqvAll_strs a b
theorem eqv_tupS (a b : List Str) : PyData.eqv (.tuple (a.map .str)) (.tuple (b.map .str)) = decide (a = b) := by
  unfold PyData.eqv
  exact eqvAll_strs a b
theorem nice_strs {zs : List Str} (h : ∀ z ∈ zs, Item z) : ∀ d ∈ zs.map PyData.str, Nice 0 8 d := by
  intro d hd
  obtain ⟨z, hz, rfl⟩ := List.mem_map.mp hd
  exact (h z hz).nice
/-! ### steps -/
abbrev Stp := Bool × Str
def act (b : Bool) : Str := if b then "push" else "pop"
theorem act_nice (b : Bool) : Nice 0 8 (.str (act b)) := by
  cases b
  · exact nice_str (by decide +kernel) (by decide +kernel)
  · exact nice_str (by decide +kernel) (by decide +kernel)
def stepD (s : Stp) : PyData := .tuple [.str (act s.1), .str s.2]
theorem stepD_nice {s : Stp} (h : Item s.2) : Nice 1 18 (stepD s) := by
  refine (nice_tuple (k := 0) (B := 8) (ds := [.str (act s.1), .str s.2]) ?_).mono (Nat.le_refl _) (by show 2 * 9 ≤ 18; decide)
  intro d hd
  rcases List.mem_cons.mp hd with q | q
  · rw [q]
    exact act_nice _
  · rw [List.mem_singleton.mp q]
    exact h.nice
/-- a step -/
def StepV (K : PySem.W.Frag) (H : Hp) (v : V) (s : Stp) : Prop := ∃ t, v = .ref t ∧ SqT K H t [.str (act s.1), .str s.2]
abbrev StepsV (K : PySem.W.Frag) (H : Hp) : List V → List Stp → Prop := Paired (StepV K H)
theorem StepV.same {K : PySem.W.Frag} {H H' : Hp} {v : V} {s : Stp} (h : StepV K H v s) (e : Same H H') : StepV K H' v s := by
  obtain ⟨t, rfl, q⟩ := h
  exact ⟨t, rfl, Same.tup e q⟩
theorem StepsV.same {K : PySem.W.Frag} {H H' : Hp} {xs : List V} {ss : List Stp} (h : StepsV K H xs ss) (e : Same H H') : StepsV K H' xs ss := Paired.mapP h fun _ _ q => q.same e
theorem StepsV.at {K : PySem.W.Frag} {H : Hp} : ∀ {xs : List V} {ss : List Stp} {i : Nat} {v : V}, StepsV K H xs ss → xs[i]? = some v → ∃ s, ss[i]? = some s ∧ StepV K H v s
  | _, _, _, _, .nil, h => by simp at h
  | _, _, 0, _, .cons a _, h => by
    have e := Option.some.inj h
    subst e
    exact ⟨_, rfl, a⟩
  | _, _, i + 1, _, .cons _ r, h => StepsV.at (i := i) r h
theorem dp_steps {K : PySem.W.Frag} {H : Hp} : ∀ {xs : List V} {ss : List Stp}, StepsV K H xs ss → DpAll K H xs (ss.map stepD)
  | _, _, .nil => .nil
  | _, _, .cons a r => by
    obtain ⟨t, rfl, q⟩ := a
    exact .cons (.tup q (.cons (.str _) (.cons (.str _) .nil))) (dp_steps r)
theorem nice_steps {ss : List Stp} (h : ∀ s ∈ ss, Item s.2) : ∀ d ∈ ss.map stepD, Nice 1 18 d := by
  intro d hd
  obtain ⟨s, hs, rfl⟩ := List.mem_map.mp hd
  exact stepD_nice (h s hs)
theorem StepsV.rev {K : PySem.W.Frag} {H : Hp} : ∀ {xs : List V} {ss : List Stp}, StepsV K H xs ss → StepsV K H xs.reverse ss.reverse
  | _, _, .nil => .nil
  | _, _, .cons a r => by
    rw [List.reverse_cons, List.reverse_cons]
    exact (StepsV.rev r).snoc a
/-- the exchange of push and pop -/
def flip1 (s : Stp) : Stp := (!s.1, s.2)
def revM (ss : List Stp) : List Stp := ss.reverse.map flip1
/-- what a step makes of a stack -/
def stepM (s : Stp) (zs : List Str) : Option (List Str) := if s.1 then some (s.2 :: zs) else match zs with
  | [] => none
  | z :: r => if z = s.2 then some r else none
def runM : List Stp → List Str → Option (List Str)
  | [], zs => some zs
  | s :: ss, zs => match stepM s zs with
    | none => none
    | some ws => runM ss ws
theorem runM_append : ∀ (a b : List Stp) (zs : List Str), runM (a ++ b) zs = (runM a zs).bind (runM b)
  | [], b, zs => rfl
  | s :: a, b, zs => by
    show (match stepM s zs with | none => none | some ws => runM (a ++ b) ws) = (match stepM s zs with | none => none | some ws => runM a ws).bind (runM b)
    cases stepM s zs with
    | none => rfl
    | some ws => exact runM_append a b ws
theorem stepM_flip {s : Stp} {zs ws : List Str} (h : stepM s zs = some ws) : stepM (flip1 s) ws = some zs := by
  obtain ⟨b, x⟩ := s
  cases b with
  | true =>
    have e : x :: zs = ws := by
      have q : some (x :: zs) = some ws := h
      exact Option.some.inj q
    subst e
    show (if x = x then some zs else none) = some zs
    rw [if_pos rfl]
  | false =>
    cases zs with
    | nil => exact absurd h (by intro q; cases q)
    | cons z r =>
      have q : (if z = x then some r else none) = some ws := h
      by_cases e : z = x
      · rw [if_pos e] at q
        have e2 := Option.some.inj q
        subst e2
        subst e
        rfl
      · rw [if_neg e] at q
        cases q
theorem runM_rev : ∀ (ss : List Stp) (zs ws : List Str), runM ss zs = some ws → runM (revM ss) ws = some zs
  | [], zs, ws, h => by
    have e : zs = ws := Option.some.inj h
    subst e
    rfl
  | s :: ss, zs, ws, h => by
    have h' : (match stepM s zs with | none => none | some ys => runM ss ys) = some ws := h
    cases e : stepM s zs with
    | none =>
      rw [e] at h'
      cases h'
    | some ys =>
      rw [e] at h'
      have ih := runM_rev ss ys ws h'
      show runM ((s :: ss).reverse.map flip1) ws = some zs
      rw [List.reverse_cons, List.map_append, runM_append]
      have ih' : runM (ss.reverse.map flip1) ws = some ys := ih
      rw [ih']
      show (match stepM (flip1 s) ys with | none => none | some ws => runM [] ws) = some zs
      rw [stepM_flip e]
      rfl
theorem revM_revM (ss : List Stp) : revM (revM ss) = ss := by
  unfold revM
  rw [← List.map_reverse, List.reverse_reverse, List.map_map]
  have e : flip1 ∘ flip1 = id := by
    funext s
    obtain ⟨b, x⟩ := s
    cases b <;> rfl
  rw [e, List.map_id]
theorem revM_items {ss : List Stp} (h : ∀ s ∈ ss, Item s.2) : ∀ s ∈ revM ss, Item s.2 := by
  intro s hs
  obtain ⟨t, ht, rfl⟩ := List.mem_map.mp hs
  exact h t (List.mem_reverse.mp ht)
theorem stepM_items {s : Stp} {zs ws : List Str} (h : stepM s zs = some ws) (hs : Item s.2) (hz : ∀ z ∈ zs, Item z) : ∀ z ∈ ws, Item z := by
  obtain ⟨b, x⟩ := s
  cases b with
  | true =>
    have e : x :: zs = ws := Option.some.inj (show some (x :: zs) = some ws from h)
    subst e
    intro z m
    rcases List.mem_cons.mp m with q | q
    · rw [q]
      exact hs
    · exact hz z q
  | false =>
    cases zs with
    | nil => exact absurd h (by intro q; cases q)
    | cons y r =>
      have q : (if y = x then some r else none) = some ws := h
      by_cases e : y = x
      · rw [if_pos e] at q
        have e2 := Option.some.inj q
        subst e2
        exact fun z m => hz z (List.mem_cons_of_mem _ m)
      · rw [if_neg e] at q
        cases q
theorem stepM_len {s : Stp} {zs ws : List Str} (h : stepM s zs = some ws) : ws.length ≤ zs.length + 1 := by
  obtain ⟨b, x⟩ := s
  cases b with
  | true =>
    have e : x :: zs = ws := Option.some.inj (show some (x :: zs) = some ws from h)
    subst e
    exact Nat.le_refl _
  | false =>
    cases zs with
    | nil => exact absurd h (by intro q; cases q)
    | cons y r =>
      have q : (if y = x then some r else none) = some ws := h
      by_cases e : y = x
      · rw [if_pos e] at q
        have e2 := Option.some.inj q
        subst e2
        rw [List.length_cons]
        omega
      · rw [if_neg e] at q
        cases q
end SE
namespace SE
open PySem PySem.Spec PyProof.Rows L2
def topS (i : Nat) : Stmt := PySem.Challenge.pw_stackeffect_k71_texts_refused.main.body.getD i (.Pass ⟨0, 0, 0, 0⟩)
abbrev sWall : Stmt := topS 0
abbrev sStackerror : Stmt := topS 2
abbrev sInvalidword : Stmt := topS 3
abbrev sInvalidsteps : Stmt := topS 4
abbrev sInvalidnumber : Stmt := topS 5
abbrev sInvalidtext : Stmt := topS 6
abbrev sIsWhole : Stmt := topS 8
abbrev sIsItem : Stmt := topS 14
abbrev sIsWord : Stmt := topS 15
abbrev sIsStep : Stmt := topS 16
abbrev sMayHold : Stmt := topS 17
abbrev sIsSeq : Stmt := topS 18
abbrev sChkSteps : Stmt := topS 19
abbrev sChkWord : Stmt := topS 20
abbrev sLeastPeak : Stmt := topS 22
abbrev sEffect : Stmt := topS 23
abbrev sJoined : Stmt := topS 24
abbrev sPartsOfStep : Stmt := topS 25
abbrev sEffectOf : Stmt := topS 26
abbrev sWordIn : Stmt := topS 33
abbrev sStepsIn : Stmt := topS 34
abbrev sNumberIn : Stmt := topS 35
abbrev sEffectIn : Stmt := topS 36
abbrev sParseWord : Stmt := topS 37
abbrev sParseSteps : Stmt := topS 38
abbrev sParseEffect : Stmt := topS 39
abbrev sPool : Stmt := topS 41
abbrev sTake : Stmt := topS 42
abbrev sName : Stmt := topS 43
abbrev sItems : Stmt := topS 44
abbrev sSteps : Stmt := topS 45
abbrev sWord : Stmt := topS 46
abbrev sLawIsItem : Stmt := topS 47
abbrev sLawWordOf : Stmt := topS 48
abbrev sLawStepsOf : Stmt := topS 49
abbrev sLawEffectOf : Stmt := topS 50
abbrev sLawTold : Stmt := topS 51
abbrev sRight : Stmt := topS 52
abbrev sLawBent : Stmt := topS 53
abbrev sLaw : Stmt := topS 54
end SE
namespace SE
open PySem PySem.Spec PyProof.Rows L2
section
variable {P : Program} {w : World} {K : PySem.W.Frag} {mg : Str → Option Value} {base : Heap}
/-! ### _law_take -/
def spTake : Sp := fun xs H Q _ => ∃ (p : Addr) (n : Int), xs = [.ref p, .int n] ∧ Pool H p ∧ 1 ≤ n ∧ n ≤ 100000 ∧
  ∀ (r : Int) (H' : Hp), But p H H' → Pool H' p → 0 ≤ r → r < n → Q (.int r) H'
theorem scTake : FnScope ["_law_pool_here", "_law_many", "_law_found"] ["_law_pool_here", "_law_many"] (defScope sTake) := ⟨rfl, rfl, rfl, by decide +kernel, rfl, by decide +kernel, by decide +kernel⟩
theorem has_take (D : Def K mg "_law_take" sTake) : Has P w K mg base "_law_take" 1 ["_law_pool_here", "_law_many"] [] spTake := by
  refine has_of D scTake (fun _ _ _ _ _ _ us hl => match us, hl with | [_, _], _ => rfl) (fun xs H Q E h => ?_) (fun f cv A out s H xs Q E hr h => ?_)
  · obtain ⟨p, n, rfl, _⟩ := h
    rfl
  · obtain ⟨p, n, rfl, hp, h1, h2, k⟩ := h
    obtain ⟨m, z, e, hm, hz0, hz1⟩ := hp.ex
    have a0 : atI [V.int m, V.int z] 0 = some (.int m) := atI_nat (j := 0) rfl
    refine ⟨_, pss_cons (ps_if (pt_cmpR op_gt (pe_ix ix_list (pv 0) pe_int (fun _ _ => rfl)) pe_int (nomark _))
        (pss_cons (ps_set (i := 2) scTake.nd rfl (.inl rfl) (pe_op op_modN (pe_ix ix_list (pv 0) pe_int (fun _ _ => rfl)) (pv 1)))
        (pss_cons (ps_asg (pe_op op_fdivN (pe_ix ix_list (pv 0) pe_int (fun _ _ => rfl)) (pv 1)) (pg_sub (pv 0) pe_int set_list))
        (pss_one (ps_ret (pv 2))))) pss_nil)
      (pss_cons (ps_asg (pe_op op_mod (pe_op op_add (pe_op op_mul (pe_ix ix_list (pv 0) pe_int (fun _ _ => rfl)) pe_int) pe_int) pe_int) (pg_sub (pv 0) pe_int set_list))
      (pss_one (ps_ret (pe_op op_modN (pe_op op_fdiv (pe_op op_mod (pe_op op_mul (pe_ix ix_list (pv 0) pe_int (fun _ _ => rfl)) (pe_ix ix_list (pv 0) pe_int (fun _ _ => rfl))) pe_int) pe_int) (pv 1))))), ?_⟩
    refine ⟨.ref p, rfl, p, _, 0, _, rfl, rfl, .of e, a0, m, 0, rfl, rfl, _, rfl, ite2 (fun c => ?_) (fun c => ?_)⟩
    · refine ⟨.ref p, rfl, p, _, 0, _, rfl, rfl, .of e, a0, .int n, rfl, m, n, rfl, rfl, (by omega), ?_⟩
      refine ⟨.ref p, rfl, p, _, 0, _, rfl, rfl, .of e, a0, .int n, rfl, m, n, rfl, rfl, ⟨by omega, by omega⟩, .ref p, rfl, p, _, 0, 0, rfl, rfl, e, rfl, ?_⟩
      refine ⟨_, rfl, k _ _ .at ⟨m.fdiv n, z, upd_same, ?_, hz0, hz1⟩ ?_ ?_⟩
      · rw [Int.fdiv_eq_ediv_of_nonneg _ (by omega)]
        exact Int.ediv_nonneg hm (by omega)
      · rw [Int.fmod_eq_emod_of_nonneg _ (by omega)]
        exact Int.emod_nonneg _ (by omega)
      · rw [Int.fmod_eq_emod_of_nonneg _ (by omega)]
        exact Int.emod_lt_of_pos _ (by omega)
    · have a1 : atI [V.int m, V.int z] 1 = some (.int z) := atI_nat (j := 1) rfl
      refine ⟨.ref p, rfl, p, _, 1, _, rfl, rfl, .of e, a1, z, 48271, rfl, rfl, .inl ⟨by omega, by omega⟩, _, 11, rfl, rfl, _, 2147483647, rfl, rfl, (by show (0 : Int) < 2147483647; decide), .ref p, rfl, p, _, 1, 1, rfl, rfl, e, rfl, ?_⟩
      have q0 : 0 ≤ (z * 48271 + 11) % 2147483647 := Int.emod_nonneg _ (by omega)
      have q1 : (z * 48271 + 11) % 2147483647 < 2147483647 := Int.emod_lt_of_pos _ (by omega)
      have e' : (upd H p (.lst ([V.int m, V.int z].set 1 (.int ((z * 48271 + 11) % 2147483647))))) p = some (.lst [V.int m, .int ((z * 48271 + 11) % 2147483647)]) := upd_same
      have a1' : atI [V.int m, V.int ((z * 48271 + 11) % 2147483647)] 1 = some (.int ((z * 48271 + 11) % 2147483647)) := atI_nat (j := 1) rfl
      refine ⟨.ref p, rfl, p, _, 1, _, rfl, rfl, .of e', a1', .ref p, rfl, p, _, 1, _, rfl, rfl, .of e', a1', ((z * 48271 + 11) % 2147483647), ((z * 48271 + 11) % 2147483647), rfl, rfl, .inl ⟨by omega, by omega⟩, _, 2147483629, rfl, rfl, (by show (0 : Int) < 2147483629; decide), _, 64, rfl, rfl, ⟨by decide, by decide⟩, .int n, rfl, _, n, rfl, rfl, (by omega), ?_⟩
      refine k _ _ .at ⟨m, ((z * 48271 + 11) % 2147483647), upd_same, hm, q0, q1⟩ ?_ ?_
      · rw [Int.fmod_eq_emod_of_nonneg _ (by omega)]
        exact Int.emod_nonneg _ (by omega)
      · rw [Int.fmod_eq_emod_of_nonneg _ (by omega)]
        exact Int.emod_lt_of_pos _ (by omega)
/-! ### _law_pool -/
def spPool (K : PySem.W.Frag) : Sp := fun xs H Q _ => ∃ (a : Addr) (ns : List Int) (i : Int), xs = [.ref a, .int i] ∧ SqL K H a (ns.map V.int) ∧ 0 ≤ i ∧ i ≤ 63 ∧
  ∀ (p : Addr) (H' : Hp), Same H H' → H p = none → Pool H' p → Q (.ref p) H'
theorem scPool : FnScope ["_law_script", "_law_k", "_law_cell", "_law_size", "_law_seed"] ["_law_script", "_law_k"] (defScope sPool) := ⟨rfl, rfl, rfl, by decide +kernel, rfl, by decide +kernel, by decide +kernel⟩
theorem has_pool (D : Def K mg "_law_pool" sPool) (ml : mg "len" = none) (ma : mg "abs" = none) (mi : mg "int" = none) : Has P w K mg base "_law_pool" 1 ["_law_script", "_law_k"] [] (spPool K) := by
  refine has_of D scPool (fun _ _ _ _ _ _ us hl => match us, hl with | [_, _], _ => rfl) (fun xs H Q E h => ?_) (fun f cv A out s H xs Q E hr h => ?_)
  · obtain ⟨a, ns, i, rfl, _⟩ := h
    rfl
  · obtain ⟨a, ns, i, rfl, hS, h0, h1, k⟩ := h
    refine ⟨_, pss_cons (ps_set (i := 2) scPool.nd rfl (.inl rfl) pe_int)
      (Evl.pss_cut (ps_if (pt_cmpR op_lt (pv 1) (pe_callB call_len_seq (by rfl) ml PySem.boot_len (pa_cons (pv 0) pa_nil)) (nomark _))
        (pss_one (ps_set (i := 2) scPool.nd rfl (.inl rfl) (pe_ix ix_list (pv 0) (pv 1) (fun _ _ => rfl)))) pss_nil)
      (pss_cons (ps_set (i := 3) scPool.nd rfl (.inl rfl) (pe_callB call_abs (by rfl) ma (by decide +kernel) (pa_cons (pv 2) pa_nil)))
      (pss_cons (ps_set (i := 4) scPool.nd rfl (.inl rfl) (pe_op op_mod (pe_op op_pow (pe_op op_add (pe_op op_add (pe_op op_add (pe_op op_mod (pv 2) pe_int) (pe_op op_mul (pe_op op_mul pe_int (pv 1)) (pv 1))) (pe_op op_mul pe_int (pv 1))) pe_int) pe_int) pe_int))
      (pss_one (ps_ret (pe_lst (pa_cons (pe_op op_mul (pv 3) (pe_callTy call_int1 (by rfl) mi (by decide +kernel) (pa_cons (pe_cmpR op_ge (pv 3) (pe_op op_pow pe_int pe_int) (nomark _)) pa_nil))) (pa_cons (pv 4) pa_nil)))))))), ?_⟩
    refine ⟨fun σ H2 => H2 = H ∧ ∃ c : Int, σ = [some (.ref a), some (.int i), some (.int c), none, none], ?_, ?_⟩
    · refine ⟨_, rfl, .ref a, rfl, a, _, rfl, .inl hS, i, _, rfl, rfl, _, rfl, ite2 (fun c => ?_) (fun c => ?_)⟩
      · have hi : i < ((ns.map V.int).length : Int) := of_decide_eq_true c
        rw [List.length_map] at hi
        have hj : i.toNat < ns.length := by omega
        refine ⟨.ref a, rfl, .int i, rfl, a, _, i, .int ns[i.toNat], rfl, rfl, hS, at_of (j := i.toNat) (by omega) ?_, rfl, ns[i.toNat], rfl⟩
        rw [List.getElem?_map, List.getElem?_eq_getElem hj]
        rfl
      · exact ⟨rfl, 0, rfl⟩
    · rintro σ H2 ⟨rfl, c, rfl⟩
      refine ⟨_, rfl, c, rfl, ?_⟩
      refine ⟨_, rfl, c, 2147483629, rfl, rfl, (by show (0 : Int) < 2147483629; decide), _, rfl, 104729, i, rfl, rfl, .inl ⟨by decide, by decide⟩, _, rfl, _, i, rfl, rfl, .inr ⟨by omega, by omega⟩, _, _, rfl, rfl, _, rfl, 7919, i, rfl, rfl, .inl ⟨by decide, by decide⟩, _, _, rfl, rfl, _, 11, rfl, rfl, _, 3, rfl, rfl, ⟨by decide, by decide, ?_⟩, _, 2147483647, rfl, rfl, (by show (0 : Int) < 2147483647; decide), ?_⟩
      · have b0 : 0 ≤ c % 2147483629 := Int.emod_nonneg _ (by omega)
        have b1 : c % 2147483629 < 2147483629 := Int.emod_lt_of_pos _ (by omega)
        have b2 : 0 ≤ 104729 * i * i := Int.mul_nonneg (by omega) h0
        have b3 : 104729 * i * i ≤ 104729 * 63 * 63 := Int.mul_le_mul (by omega) h1 h0 (by omega)
        omega
      · have t0 : ∀ y : Int, 0 ≤ y ^ 3 % 2147483647 ∧ y ^ 3 % 2147483647 < 2147483647 := fun y => ⟨Int.emod_nonneg _ (by omega), Int.emod_lt_of_pos _ (by omega)⟩
        have u0 : 0 ≤ (if c < 0 then -c else c) := by
          split <;> omega
        refine ⟨_, rfl, _, rfl, 10, 18, rfl, rfl, ⟨by decide, by decide, by decide⟩, _, _, rfl, rfl, .inr ⟨_, rfl, ?_⟩⟩
        have b01 : ∀ b : Bool, (0 : Int) ≤ (if b = true then 1 else 0) ∧ (if b = true then (1 : Int) else 0) ≤ 1 := fun b => by cases b <;> decide
        have g := b01 (decide (10 ^ Int.toNat 18 ≤ if c < 0 then -c else c))
        refine ⟨_, _, rfl, rfl, .inr ⟨by omega, by omega⟩, _, rfl, (by show 2 ≤ sizeLine; decide), fun p hp => k p _ (Same.new hp) hp ⟨_, _, upd_same, Int.mul_nonneg u0 g.1, (t0 _).1, (t0 _).2⟩⟩
end
end SE
namespace SE
open PySem PySem.Spec PyProof.Rows L2
theorem len_add (x y : Str) : (x ++ y).length = x.length + y.length := by
  show (x.cps ++ y.cps).size = _
  rw [Array.size_append]
  rfl
theorem cps_add (x y : Str) : (x ++ y).cps.toList = x.cps.toList ++ y.cps.toList := by
  show (x.cps ++ y.cps).toList = _
  exact Array.toList_append
abbrev abc : Str := Str.ofString "abcdefghijklmnopqrstuvwxyz"
theorem abc_len : abc.length = 26 := by decide +kernel
theorem abc_at (i : Nat) (h : i < 26) : ∃ c, abc.cps[i]? = some c ∧ 97 ≤ c ∧ c ≤ 122 := by
  have q : ∀ j : Fin 26, (abc.cps[j.1]?).any (fun c => decide (97 ≤ c) && decide (c ≤ 122)) = true := by decide +kernel
  have z := q ⟨i, h⟩
  simp only [Option.any_eq_true, Bool.and_eq_true, decide_eq_true_eq] at z
  obtain ⟨c, h1, h2, h3⟩ := z
  exact ⟨c, h1, h2, h3⟩
section
variable {P : Program} {w : World} {K : PySem.W.Frag} {mg : Str → Option Value} {base : Heap}
/-! ### _law_name -/
def spName : Sp := fun xs H Q _ => ∃ (p : Addr), xs = [.ref p] ∧ Pool H p ∧ ∀ (z : Str) (H' : Hp), But p H H' → Pool H' p → Item z → Q (.str z) H'
theorem scName : FnScope ["_law_pool_here", "_law_letters", "_law_found", "_law_turn"] ["_law_pool_here"] (defScope sName) := ⟨rfl, rfl, rfl, by decide +kernel, rfl, by decide +kernel, by decide +kernel⟩
theorem has_name (D : Def K mg "_law_name" sName) (GT : Has P w K mg base "_law_take" 1 ["_law_pool_here", "_law_many"] [] spTake) (mr : mg "range" = none) : Has P w K mg base "_law_name" 2 ["_law_pool_here"] [] spName := by
  refine has_of D scName (fun _ _ _ _ _ _ us hl => match us, hl with | [_], _ => rfl) (fun xs H Q E h => ?_) (fun f cv A out s H xs Q E hr h => ?_)
  · obtain ⟨p, rfl, _⟩ := h
    rfl
  · obtain ⟨p, rfl, hp, k⟩ := h
    refine ⟨_, pss_cons (ps_set (i := 1) scName.nd rfl (.inl rfl) pe_str)
      (pss_cons (ps_set (i := 2) scName.nd rfl (.inl rfl) (pe_item_str (pv 1) (pe_has GT hr (pa_cons (pv 0) (pa_cons pe_int pa_nil))) (fun _ _ => rfl)))
      (pss_cons (ps_for PassesOwn.never rfl (pi_range1 (by rfl) mr (pa_cons (pe_has GT hr (pa_cons (pv 0) (pa_cons pe_int pa_nil))) pa_nil)) (pg_name (i := 3) scName.nd rfl (.inl rfl))
        (pss_one (ps_set (i := 2) scName.nd rfl (.inl rfl) (pe_op op_add_str (pv 2) (pe_item_str (pv 1) (pe_has GT hr (pa_cons (pv 0) (pa_cons pe_int pa_nil))) (fun _ _ => rfl))))))
      (pss_one (ps_ret (pv 2))))), ?_⟩
    refine ⟨_, rfl, _, rfl, p, 26, rfl, hp, by decide, by decide, fun r H1 b1 p1 r0 r1 => ?_⟩
    obtain ⟨c, hc, c0, c1⟩ := abc_at r.toNat (by omega)
    refine ⟨abc, r, c, rfl, rfl, r0, by omega, ?_, hc, ?_⟩
    · have := abc_len
      rw [this]
      omega
    refine ⟨_, rfl, p, 8, rfl, p1, by decide, by decide, fun n H2 b2 p2 n0 n1 => ?_⟩
    refine ⟨n, rfl, by omega, by omega, for_range (lo := 0) (n := n.toNat) (fun i σ H3 => ∃ (z : Str) (y : Option V), σ = [some (.ref p), some (.str abc), some (.str z), y] ∧ But p H H3 ∧ Pool H3 p ∧ z.length = i + 1 ∧ ∀ c ∈ z.cps.toList, 97 ≤ c ∧ c ≤ 122) ?_ ?_ ?_⟩
    · refine ⟨⟨#[c]⟩, none, rfl, b1.trans b2, p2, rfl, fun d hd => ?_⟩
      obtain rfl : d = c := by simpa using hd
      exact ⟨c0, c1⟩
    · rintro i σ H3 hi ⟨z, y, rfl, b3, p3, hz, hl⟩
      refine ⟨_, rfl, _, rfl, _, rfl, p, 26, rfl, p3, by decide, by decide, fun r2 H4 b4 p4 s0 s1 => ?_⟩
      obtain ⟨d, hd, d0, d1⟩ := abc_at r2.toNat (by omega)
      refine ⟨abc, r2, d, rfl, rfl, s0, by omega, ?_, hd, z, ⟨#[d]⟩, rfl, rfl, ?_, z ++ ⟨#[d]⟩, _, rfl, b3.trans b4, p4, ?_, fun e he => ?_⟩
      · have := abc_len
        rw [this]
        omega
      · rw [hz]
        exact Nat.le_of_lt (small1000 (show i + 1 + 1 ≤ 1000 by omega))
      · rw [len_add, hz]
        rfl
      · rw [cps_add] at he
        rcases List.mem_append.mp he with q | q
        · exact hl e q
        · obtain rfl : e = d := by simpa using q
          exact ⟨d0, d1⟩
    · rintro σ H3 ⟨z, y, rfl, b3, p3, hz, hl⟩
      exact ⟨_, rfl, k z H3 b3 p3 ⟨by omega, by omega, hl⟩⟩
end
end SE
namespace SE
open PySem PySem.Spec PyProof.Rows L2
theorem nodup_le {α : Type} [DecidableEq α] : ∀ {ys zs : List α}, ys.Nodup → (∀ y ∈ ys, y ∈ zs) → ys.length ≤ zs.length
  | [], _, _, _ => Nat.zero_le _
  | y :: ys, zs, nd, h => by
    obtain ⟨n1, n2⟩ := List.nodup_cons.mp nd
    have hy : y ∈ zs := h y List.mem_cons_self
    have ih := nodup_le (zs := zs.erase y) n2 fun x hx => (List.mem_erase_of_ne (fun e => n1 (by rw [← e]; exact hx))).mpr (h x (List.mem_cons_of_mem _ hx))
    rw [List.length_erase_of_mem hy] at ih
    have : 0 < zs.length := List.length_pos_of_mem hy
    rw [List.length_cons]
    omega
theorem yes_in {σ : L2.St} {H : Hp} {F G : Hp → Prop} (h : F H) : tYes σ H (fun b H3 => if b = true then F H3 else G H3) := by
  show if true = true then F H else G H
  exact iteT h
theorem eqV_str (a b : Str) : eqV (.str a) (.str b) = (a == b) := by
  unfold eqV
  rfl
theorem inV_str (z : Str) : ∀ zs : List Str, inV (.str z) (zs.map V.str) = decide (z ∈ zs)
  | [] => by simp [inV]
  | y :: zs => by
    have ih := inV_str z zs
    unfold inV at ih ⊢
    rw [List.map_cons, List.any_cons, ih, eqV_str]
    by_cases e : y = z
    · subst e
      simp
    · have e2 : ¬ z = y := fun q => e q.symm
      simp [e, e2]
theorem flat_strs : ∀ zs : List Str, (zs.map V.str).all flatV = true
  | [] => rfl
  | y :: zs => by
    rw [List.map_cons, List.all_cons, flat_strs zs]
    rfl
/-- the names that are taken where one is drawn twice -/
def spare : List Str := abc.cps.toList.map fun c => (⟨#[c]⟩ : Str) ++ "zz"
theorem spare_len : spare.length = 26 := by decide +kernel
theorem spare_nd : spare.Nodup := by decide +kernel
theorem spare_item {z : Str} (h : z ∈ spare) : Item z := by
  have q : ∀ y ∈ spare, (decide (1 ≤ y.length) && decide (y.length ≤ 8) && y.cps.toList.all fun c => decide (97 ≤ c) && decide (c ≤ 122)) = true := by decide +kernel
  have e := q z h
  simp only [Bool.and_eq_true, decide_eq_true_eq, List.all_eq_true] at e
  exact ⟨e.1.1, e.1.2, e.2⟩
theorem spare_at {i c : Nat} (h : abc.cps[i]? = some c) : spare[i]? = some ((⟨#[c]⟩ : Str) ++ "zz") := by
  unfold spare
  rw [List.getElem?_map, Array.getElem?_toList, h]
  rfl
theorem abc_size : abc.cps.size = 26 := by decide +kernel
section
variable {P : Program} {w : World} {K : PySem.W.Frag} {mg : Str → Option Value} {base : Heap}
/-! ### _law_items -/
def spItems : Sp := fun xs H Q _ => ∃ (p : Addr) (n : Int), xs = [.ref p, .int n] ∧ Pool H p ∧ 0 ≤ n ∧ n ≤ 20 ∧
  ∀ (l : Addr) (zs : List Str) (H' : Hp), But p H H' → Pool H' p → H l = none → l ≠ p → H' l = some (.lst (zs.map V.str)) → zs.length = n.toNat → (∀ z ∈ zs, Item z) → Q (.ref l) H'
theorem scItems : FnScope ["_law_pool_here", "_law_many", "_law_found", "_law_at", "_law_name_here", "_law_some", "_law_one"] ["_law_pool_here", "_law_many"] (defScope sItems) := ⟨rfl, rfl, rfl, by decide +kernel, rfl, by decide +kernel, by decide +kernel⟩
abbrev nItems : List Str := ["_law_pool_here", "_law_many", "_law_found", "_law_at", "_law_name_here", "_law_some", "_law_one"]
theorem has_items (D : Def K mg "_law_items" sItems) (GN : Has P w K mg base "_law_name" 2 ["_law_pool_here"] [] spName) (mr : mg "range" = none) : Has P w K mg base "_law_items" 3 ["_law_pool_here", "_law_many"] [] spItems := by
  refine has_of D scItems (fun _ _ _ _ _ _ us hl => match us, hl with | [_, _], _ => rfl) (fun xs H Q E h => ?_) (fun f cv A out s H xs Q E hr h => ?_)
  · obtain ⟨p, n, rfl, _⟩ := h
    rfl
  · obtain ⟨p, n, rfl, hp, h0, h1, k⟩ := h
    refine ⟨_, pss_cons (ps_set (i := 2) scItems.nd rfl (.inr rfl) (pe_lst pa_nil))
      (pss_cons (ps_for PassesOwn.never rfl (pi_range1 (by rfl) mr (pa_cons (pv 1) pa_nil)) (pg_name (i := 3) scItems.nd rfl (.inl rfl))
        (pss_cons (ps_set (i := 4) scItems.nd rfl (.inl rfl) (pe_has GN hr (pa_cons (pv 0) pa_nil)))
        (Evl.pss_cut (ps_if (pt_cmpR op_in_seq (pv 4) (pv 2) (by rfl))
          (pss_cons (ps_setLc (i := 5) (own := [("_law_one", 6)]) (g := gName 6) (tt := tYes) rfl scItems.nd rfl rfl (sw_true rfl rfl rfl (by decide +kernel)) (pi_str pe_str) (blkOk_by (own := [("_law_one", 6)]) (N := nItems) (sc := defScope sItems) (by decide +kernel))
              (fun _ _ _ _ _ => pg_name (i := 6) scItems.nd rfl (.inl rfl)) (fun _ _ _ _ _ => pts_nil) (fun _ _ _ _ _ => pe_op op_add_str (pv 6) pe_str))
          (pss_one (ps_set (i := 4) scItems.nd rfl (.inl rfl) (pe_ix ix_list (pe_lc (own := [("_law_one", 6)]) (g := gName 6) (tt := tTest (tOp (rIn K true) (tVar 6) (tVar 2))) (te := tVar 6) rfl scItems.nd (pi_list (pv 5)) (blkOk_by (own := [("_law_one", 6)]) (N := nItems) (sc := defScope sItems) (by decide +kernel))
              (fun _ _ _ _ _ => pg_name (i := 6) scItems.nd rfl (.inl rfl)) (fun _ _ _ _ _ => pts_one (pt_cmpR op_notIn_seq (pv 6) (pv 2) (by rfl))) (fun _ _ _ _ _ => pv 6)) pe_int (fun _ _ => rfl))))) pss_nil)
        (pss_one (ps_expr (pe_bm PySem.F.plainAttrs_list PySem.F.slot_list_append PySem.F.type_list_append mt_append (pv 2) (pa_cons (pv 4) pa_nil)))))))
      (pss_one (ps_ret (pv 2)))), ?_⟩
    refine ⟨Nat.zero_le _, fun l hl => ?_⟩
    have lp : l ≠ p := hp.free hl
    refine ⟨_, rfl, n, rfl, by omega, by omega, for_range (lo := 0) (n := n.toNat) (fun i σ H3 => ∃ (zs : List Str) (y3 y4 y5 y6 : Option V), σ = [some (.ref p), some (.int n), some (.ref l), y3, y4, y5, y6] ∧ But p H H3 ∧ Pool H3 p ∧ H3 l = some (.lst (zs.map V.str)) ∧ zs.length = i ∧ ∀ z ∈ zs, Item z) ?_ ?_ ?_⟩
    · exact ⟨[], none, none, none, none, rfl, .of (Same.new hl), hp.upd lp, upd_same, rfl, fun z h => nomatch h⟩
    · rintro i σ H3 hi ⟨zs, y3, y4, y5, y6, rfl, b3, p3, hl3, hz, hI⟩
      refine ⟨_, rfl, p, rfl, p3, fun z H4 b4 p4 iz => ?_⟩
      have hl4 : H4 l = some (.lst (zs.map V.str)) := b4 l _ lp hl3
      have bb := b3.trans b4
      refine ⟨fun σ H5 => ∃ (z : Str) (y5 y6 : Option V), σ = [some (.ref p), some (.int n), some (.ref l), some (.int (0 + i)), some (.str z), y5, y6] ∧ But p H H5 ∧ Pool H5 p ∧ H5 l = some (.lst (zs.map V.str)) ∧ Item z, ?_, ?_⟩
      · refine ⟨_, rfl, _, rfl, l, _, rfl, .inl (.of hl4), rfl, flat_strs _, _, rfl, ite2 (fun c => ?_) (fun c => ?_)⟩
        · refine ⟨abc, rfl, fun D hD => lc_it walk_str (fun j H5 => H5 D = some (.lst ((spare.take j).map V.str)) ∧ But p H H5 ∧ Pool H5 p ∧ H5 l = some (.lst (zs.map V.str))) ?_ (fun _ _ _ _ => trivial) ?_ ?_⟩
          · have Dp : D ≠ p := p4.free hD
            exact ⟨upd_same, bb.free (bb.none Dp hD), p4.upd Dp, by rw [upd_ne (ne_of_none hl4 hD)]; exact hl4⟩
          · rintro j x H5 H6 hj ⟨hD5, b5, p5, hl5⟩ ⟨rfl, d, hd, rfl⟩
            have Dp : D ≠ p := p4.free hD
            refine ⟨rfl, yes_in ⟨_, rfl, ⟨#[d]⟩, "zz", rfl, rfl, (by show 1 + 2 ≤ sizeLine; decide), _, hD5, ?_, ?_, b5.free (bb.none Dp hD), p5.upd Dp, ?_⟩⟩
            · rw [List.length_map, List.length_take, spare_len]
              exact small1000 (by omega)
            · rw [upd_same, List.take_add_one, spare_at hd, List.map_append]
              rfl
            · rw [upd_ne (ne_of_none hl4 hD)]
              exact hl5
          · rintro H5 ⟨hD5, b5, p5, hl5⟩
            have full : spare.take abc.cps.size = spare := List.take_of_length_le (by rw [spare_len, abc_size]; omega)
            rw [full] at hD5
            have Dp : D ≠ p := p4.free hD
            have Dl : l ≠ D := ne_of_none hl4 hD
            refine ⟨_, rfl, D, rfl, ⟨_, .of hD5⟩, fun E2 hE => lc_list (K := K) (a := D) (xs := spare.map V.str) (fun j H6 => H6 D = some (.lst (spare.map V.str)) ∧ H6 E2 = some (.lst (((spare.take j).filter fun y => !decide (y ∈ zs)).map V.str)) ∧ But p H H6 ∧ Pool H6 p ∧ H6 l = some (.lst (zs.map V.str))) ?_ (fun _ _ _ q => .of q.1) ?_ ?_⟩
            · have Ep : E2 ≠ p := p5.free hE
              refine ⟨?_, upd_same, b5.free (b5.none Ep hE), p5.upd Ep, ?_⟩
              · rw [upd_ne (ne_of_none hD5 hE)]
                exact hD5
              · rw [upd_ne (ne_of_none hl5 hE)]
                exact hl5
            · rintro j x H6 hj ⟨hD6, hE6, b6, p6, hl6⟩
              have Ep : E2 ≠ p := p5.free hE
              rw [List.getElem?_map] at hj
              obtain ⟨y, hy, rfl⟩ : ∃ y, spare[j]? = some y ∧ V.str y = x := by
                cases e : spare[j]? with
                | none => rw [e] at hj; cases hj
                | some y => rw [e] at hj; exact ⟨y, rfl, Option.some.inj hj⟩
              have tk : spare.take (j + 1) = spare.take j ++ [y] := by
                rw [List.take_add_one, hy]
                rfl
              refine ⟨rfl, _, rfl, _, rfl, l, _, rfl, .inl (.of hl6), rfl, flat_strs _, _, rfl, ?_⟩
              rw [if_pos rfl, inV_str]
              by_cases m : y ∈ zs
              · rw [decide_eq_true m]
                refine iteF ⟨hD6, ?_, b6, p6, hl6⟩
                rw [tk, List.filter_append, List.filter_cons_of_neg (by simp [m]), List.filter_nil, List.append_nil]
                exact hE6
              · rw [decide_eq_false m]
                refine iteT ⟨_, rfl, _, hE6, ?_, ?_, ?_, b6.free (b5.none Ep hE), p6.upd Ep, ?_⟩
                · rw [List.length_map]
                  have z1 := List.length_filter_le (fun y => !decide (y ∈ zs)) (spare.take j)
                  have z2 : (spare.take j).length ≤ 26 := by
                    rw [List.length_take, spare_len]
                    omega
                  exact small1000 (by omega)
                · rw [upd_ne (ne_of_none hD5 hE)]
                  exact hD6
                · rw [upd_same, tk, List.filter_append, List.filter_cons_of_pos (by simp [m]), List.filter_nil, List.map_append]
                  rfl
                · rw [upd_ne (ne_of_none hl5 hE)]
                  exact hl6
            · rintro H6 ⟨hD6, hE6, b6, p6, hl6⟩
              rw [List.length_map, List.take_length] at hE6
              have some1 : ∃ y0 r, (spare.filter fun y => !decide (y ∈ zs)) = y0 :: r := by
                cases e : spare.filter fun y => !decide (y ∈ zs) with
                | cons y0 r => exact ⟨y0, r, rfl⟩
                | nil =>
                  have all : ∀ y ∈ spare, y ∈ zs := fun y hy => by
                    by_cases m : y ∈ zs
                    · exact m
                    · have q : y ∈ spare.filter fun y => !decide (y ∈ zs) := List.mem_filter.mpr ⟨hy, by simp [m]⟩
                      rw [e] at q
                      cases q
                  have q := nodup_le spare_nd all
                  rw [spare_len] at q
                  omega
              obtain ⟨y0, r, e0⟩ := some1
              have y0s : y0 ∈ spare := (List.mem_filter.mp (show y0 ∈ spare.filter fun y => !decide (y ∈ zs) by rw [e0]; exact List.mem_cons_self)).1
              rw [e0] at hE6
              exact ⟨E2, _, 0, .str y0, rfl, rfl, .of hE6, atI_nat (j := 0) rfl, y0, _, _, rfl, b6, p6, hl6, spare_item y0s⟩
        · exact ⟨z, _, _, rfl, bb, p4, hl4, iz⟩
      · rintro σ H5 ⟨z, y5, y6, rfl, b5, p5, hl5, iz⟩
        refine ⟨.ref l, rfl, .inl ⟨rfl, _, .inl (.inl hl5)⟩, _, rfl, l, _, _, rfl, rfl, hl5, ?_, zs ++ [z], _, _, _, _, rfl, b5.free hl, p5.upd lp, ?_, ?_, ?_⟩
        · rw [List.length_map, hz]
          exact small1000 (by omega)
        · rw [upd_same, List.map_append]
          rfl
        · rw [List.length_append, hz]
          rfl
        · intro y hy
          rcases List.mem_append.mp hy with q | q
          · exact hI y q
          · rw [List.mem_singleton.mp q]
            exact iz
    · rintro σ H3 ⟨zs, y3, y4, y5, y6, rfl, b3, p3, hl3, hz, hI⟩
      exact ⟨_, rfl, k l zs H3 b3 p3 hl lp hl3 hz hI⟩
end
end SE
namespace SE
open PySem PySem.Spec PyProof.Rows L2
section
variable {P : Program} {w : World} {K : PySem.W.Frag} {mg : Str → Option Value} {base : Heap}
/-! ### _law_word -/
def spWord : Sp := fun xs H Q _ => ∃ (p l : Addr) (m : Int) (zs : List Str), xs = [.ref p, .ref l, .int m] ∧ Pool H p ∧ l ≠ p ∧ H l = some (.lst (zs.map V.str)) ∧ zs ≠ [] ∧ zs.length ≤ 100 ∧ 0 ≤ m ∧ m ≤ 900 ∧
  ∀ (t : Addr) (ws : List Str) (H' : Hp), But p H H' → Pool H' p → H t = none → H' t = some (.tup (ws.map V.str)) → (ws.length : Int) ≤ m → (∀ z ∈ ws, z ∈ zs) → Q (.ref t) H'
abbrev nWord : List Str := ["_law_pool_here", "_law_items_here", "_law_most", "_law_turn"]
theorem scWord : FnScope nWord ["_law_pool_here", "_law_items_here", "_law_most"] (defScope sWord) := ⟨rfl, rfl, rfl, by decide +kernel, rfl, by decide +kernel, by decide +kernel⟩
theorem pick_str {zs : List Str} {r : Int} (h0 : 0 ≤ r) (h1 : r < (zs.length : Int)) : ∃ z, z ∈ zs ∧ atI (zs.map V.str) r = some (.str z) := by
  have hj : r.toNat < zs.length := by omega
  refine ⟨zs[r.toNat], List.getElem_mem hj, at_of (j := r.toNat) (by omega) ?_⟩
  rw [List.getElem?_map, List.getElem?_eq_getElem hj]
  rfl
theorem has_word (D : Def K mg "_law_word" sWord) (GT : Has P w K mg base "_law_take" 1 ["_law_pool_here", "_law_many"] [] spTake) (mr : mg "range" = none) (ml : mg "len" = none) (mt : mg "tuple" = none) : Has P w K mg base "_law_word" 2 ["_law_pool_here", "_law_items_here", "_law_most"] [] spWord := by
  refine has_of D scWord (fun _ _ _ _ _ _ us hl => match us, hl with | [_, _, _], _ => rfl) (fun xs H Q E h => ?_) (fun f cv A out s H xs Q E hr h => ?_)
  · obtain ⟨p, l, m, zs, rfl, _⟩ := h
    rfl
  · obtain ⟨p, l, m, zs, rfl, hp, lp, hl, hne, hz, h0, h1, k⟩ := h
    refine ⟨_, pss_one (ps_ret (pe_callTy call_tuple_of (by rfl) mt (by decide +kernel) (pa_cons
      (pe_lc (own := [("_law_turn", 3)]) (g := gName 3) (tt := tYes) (te := tOp (rIxL K) (tVar 1) (tCall spTake [] E0 (tCons (tVar 0) (tCons (tCB (Evl.rLenS K) (tCons (tVar 1) tNil)) tNil)))) rfl scWord.nd
        (pi_range1 (by rfl) mr (pa_cons (pe_has GT hr (pa_cons (pv 0) (pa_cons (pe_op op_add (pv 2) pe_int) pa_nil))) pa_nil)) (blkOk_by (own := [("_law_turn", 3)]) (N := nWord) (sc := defScope sWord) (by decide +kernel))
        (fun _ _ _ _ _ => pg_name (i := 3) scWord.nd rfl (.inl rfl)) (fun _ _ _ _ _ => pts_nil)
        (fun _ _ _ _ _ => pe_ix ix_list (pv 1) (pe_has GT hr (pa_cons (pv 0) (pa_cons (pe_callB call_len_seq (by rfl) ml PySem.boot_len (pa_cons (pv 1) pa_nil)) pa_nil))) (fun _ _ => rfl))) pa_nil))), ?_⟩
    refine ⟨_, rfl, _, rfl, m, 1, rfl, rfl, p, m + 1, rfl, hp, by omega, by omega, fun n H1 b1 p1 n0 n1 => ?_⟩
    have hl1 : H1 l = some (.lst (zs.map V.str)) := b1 l _ lp hl
    refine ⟨n, rfl, by omega, by omega, fun D hD => lc_range (lo := 0) (n := n.toNat) (fun i H2 => ∃ ws : List Str, H2 D = some (.lst (ws.map V.str)) ∧ ws.length = i ∧ (∀ z ∈ ws, z ∈ zs) ∧ But p H H2 ∧ Pool H2 p ∧ H2 l = some (.lst (zs.map V.str))) ?_ ?_ ?_⟩
    · have Dp : D ≠ p := p1.free hD
      exact ⟨[], upd_same, rfl, fun z q => (by cases q), b1.free (b1.none Dp hD), p1.upd Dp, by rw [upd_ne (ne_of_none hl1 hD)]; exact hl1⟩
    · rintro i H2 hi ⟨ws, hw, wl, wz, b2, p2, hl2⟩
      have Dp : D ≠ p := p1.free hD
      have Dl : l ≠ D := ne_of_none hl1 hD
      have hzp : 0 < zs.length := List.length_pos_iff.mpr hne
      refine ⟨rfl, yes_in ⟨_, rfl, _, rfl, _, rfl, l, _, rfl, .inl (.of hl2), p, _, rfl, p2, ?_, ?_, fun r H3 b3 p3 r0 r1 => ?_⟩⟩
      · rw [List.length_map]
        omega
      · rw [List.length_map]
        omega
      · rw [List.length_map] at r1
        obtain ⟨z, zm, az⟩ := pick_str r0 r1
        have hl3 : H3 l = some (.lst (zs.map V.str)) := b3 l _ lp hl2
        have hD3 : H3 D = some (.lst (ws.map V.str)) := b3 D _ Dp hw
        refine ⟨l, _, r, _, rfl, rfl, .of hl3, az, _, hD3, ?_, ws ++ [z], ?_, ?_, ?_, (b2.trans b3).free (b1.none Dp hD), p3.upd Dp, ?_⟩
        · rw [List.length_map, wl]
          exact small1000 (by omega)
        · rw [upd_same, List.map_append]
          rfl
        · rw [List.length_append, wl]
          rfl
        · intro y hy
          rcases List.mem_append.mp hy with q | q
          · exact wz y q
          · rw [List.mem_singleton.mp q]
            exact zm
        · rw [upd_ne Dl]
          exact hl3
    · rintro H2 ⟨ws, hw, wl, wz, b2, p2, hl2⟩
      refine ⟨D, _, rfl, .inl ⟨.of hw, fun t ht => ?_⟩⟩
      have tp : t ≠ p := p2.free ht
      refine k t ws _ (b2.free (b2.none tp ht)) (p2.upd tp) (b2.none tp ht) upd_same ?_ wz
      omega
end
end SE
namespace SE
open PySem PySem.Spec PyProof.Rows L2
/-- a test whose ways meet -/
def tCutT (t : TT) : TT := fun σ H Q => ∃ M : Bool → Hp → Prop, t σ H M ∧ ∀ b H2, M b H2 → Q b H2
theorem pt_cut {X : Cx} {e : Expr} {t : TT} (h : PT X e t) : PT X e (tCutT t) := ⟨fun pins s σ H Q I hw => by
  obtain ⟨M, h1, h2⟩ := hw
  refine thn (h.run pins s σ H M I h1) fun b s2 z => ?_
  obtain ⟨H2, I2, q⟩ := z
  exact ⟨H2, I2, h2 b H2 q⟩⟩
theorem cut_map {α : Type} (f : α → V) (hs : List α) (lo hi : Option Int) : cutV (hs.map f) lo hi = ((hs.drop (HT.sIx hs.length 0 lo)).take (HT.sIx hs.length hs.length hi - HT.sIx hs.length 0 lo)).map f := by
  unfold cutV
  rw [List.length_map, List.map_take, List.map_drop]
theorem cut_mem {α : Type} {x : α} {hs : List α} {a b : Nat} (h : x ∈ (hs.drop a).take b) : x ∈ hs := List.mem_of_mem_drop (List.mem_of_mem_take h)
/-- steps whose tuples stand in the heap -/
abbrev StepsH (H : Hp) : List V → List Stp → Prop := Paired fun v s => ∃ t, v = .ref t ∧ H t = some (.tup [.str (act s.1), .str s.2])
theorem StepsH.v {K : PySem.W.Frag} {H : Hp} {xs : List V} {ss : List Stp} (h : StepsH H xs ss) : StepsV K H xs ss := Paired.mapP h fun _ _ q => by
  obtain ⟨t, e, z⟩ := q
  exact ⟨t, e, .of z⟩
theorem StepsH.but {H H' : Hp} {p : Addr} {xs : List V} {ss : List Stp} (h : StepsH H xs ss) (hp : Pool H p) (b : But p H H') : StepsH H' xs ss := Paired.mapP h fun _ _ q => by
  obtain ⟨t, e, z⟩ := q
  exact ⟨t, e, b t _ (hp.ne z) z⟩
theorem StepsH.upd {H : Hp} {q : Addr} {o : HO} {xs : List V} {ss : List Stp} (h : StepsH H xs ss) (hq : ∀ ys, H q ≠ some (.tup ys)) : StepsH (upd H q o) xs ss := Paired.mapP h fun _ _ r => by
  obtain ⟨t, e, z⟩ := r
  refine ⟨t, e, ?_⟩
  rw [upd_ne (fun w => hq _ (by rw [← w]; exact z))]
  exact z
structure SI (p l f h : Addr) (zs : List Str) (H H3 : Hp) (xs : List V) (ss : List Stp) (hs : List Str) : Prop where
  b : But p H H3
  pl : Pool H3 p
  it : H3 l = some (.lst (zs.map V.str))
  fl : H3 f = some (.lst xs)
  st : StepsH H3 xs ss
  sz : ∀ s ∈ ss, s.2 ∈ zs
  hl : H3 h = some (.lst (hs.map V.str))
  hz : ∀ z ∈ hs, z ∈ zs
  lp : l ≠ p
  fp : f ≠ p
  fn : H f = none
  hp : h ≠ p
  hn : H h = none
  hf : h ≠ f
  hnl : h ≠ l
  lf : l ≠ f
section
variable {p l f h : Addr} {zs : List Str} {H H3 : Hp} {xs : List V} {ss : List Stp} {hs : List Str}
theorem SI.new (a : SI p l f h zs H H3 xs ss hs) {q : Addr} {o : HO} (hq : H3 q = none) : SI p l f h zs H (upd H3 q o) xs ss hs := by
  have qp : q ≠ p := a.pl.free hq
  exact ⟨a.b.free (a.b.none qp hq), a.pl.upd qp, by rw [upd_ne (ne_of_none a.it hq)]; exact a.it, by rw [upd_ne (ne_of_none a.fl hq)]; exact a.fl, a.st.upd (fun ys z => by rw [hq] at z; cases z), a.sz,
    by rw [upd_ne (ne_of_none a.hl hq)]; exact a.hl, a.hz, a.lp, a.fp, a.fn, a.hp, a.hn, a.hf, a.hnl, a.lf⟩
theorem SI.draw (a : SI p l f h zs H H3 xs ss hs) {H4 : Hp} (b : But p H3 H4) (q : Pool H4 p) : SI p l f h zs H H4 xs ss hs :=
  ⟨a.b.trans b, q, b _ _ a.lp a.it, b _ _ a.fp a.fl, a.st.but a.pl b, a.sz, b _ _ a.hp a.hl, a.hz, a.lp, a.fp, a.fn, a.hp, a.hn, a.hf, a.hnl, a.lf⟩
theorem SI.app (a : SI p l f h zs H H3 xs ss hs) {t : Addr} {c : Bool} {z : Str} (ht : H3 t = some (.tup [.str (act c), .str z])) (hz : z ∈ zs) : SI p l f h zs H (upd H3 f (.lst (xs ++ [.ref t]))) (xs ++ [.ref t]) (ss ++ [(c, z)]) hs := by
  have tf : t ≠ f := ne_of ht a.fl (by intro w; cases w)
  refine ⟨a.b.free a.fn, a.pl.upd a.fp, by rw [upd_ne a.lf]; exact a.it, upd_same, (a.st.upd (fun ys w => by rw [a.fl] at w; cases w)).snoc ⟨t, rfl, by rw [upd_ne tf]; exact ht⟩, fun s hs' => ?_, by rw [upd_ne a.hf]; exact a.hl, a.hz, a.lp, a.fp, a.fn, a.hp, a.hn, a.hf, a.hnl, a.lf⟩
  rcases List.mem_append.mp hs' with q | q
  · exact a.sz s q
  · rw [List.mem_singleton.mp q]
    exact hz
theorem SI.hset (a : SI p l f h zs H H3 xs ss hs) {ys : List Str} (hy : ∀ z ∈ ys, z ∈ zs) : SI p l f h zs H (upd H3 h (.lst (ys.map V.str))) xs ss ys :=
  ⟨a.b.free a.hn, a.pl.upd a.hp, by rw [upd_ne (Ne.symm a.hnl)]; exact a.it, by rw [upd_ne (Ne.symm a.hf)]; exact a.fl, a.st.upd (fun us w => by rw [a.hl] at w; cases w), a.sz, upd_same, hy, a.lp, a.fp, a.fn, a.hp, a.hn, a.hf, a.hnl, a.lf⟩
theorem SI.hnew (a : SI p l f h zs H H3 xs ss hs) {q : Addr} {ys : List Str} (hq : H3 q = none) (hy : ∀ z ∈ ys, z ∈ zs) : SI p l f q zs H (upd H3 q (.lst (ys.map V.str))) xs ss ys := by
  have b := a.new (o := .lst (ys.map V.str)) hq
  have qp : q ≠ p := a.pl.free hq
  exact ⟨b.b, b.pl, b.it, b.fl, b.st, b.sz, upd_same, hy, a.lp, a.fp, a.fn, qp, a.b.none qp hq, Ne.symm (ne_of_none a.fl hq), Ne.symm (ne_of_none a.it hq), a.lf⟩
end
section
variable {P : Program} {w : World} {K : PySem.W.Frag} {mg : Str → Option Value} {base : Heap}
/-! ### _law_steps -/
def spSteps : Sp := fun xs H Q _ => ∃ (p l : Addr) (m : Int) (zs : List Str), xs = [.ref p, .ref l, .int m] ∧ Pool H p ∧ l ≠ p ∧ H l = some (.lst (zs.map V.str)) ∧ zs ≠ [] ∧ zs.length ≤ 100 ∧ (∀ z ∈ zs, Item z) ∧ 0 ≤ m ∧ m ≤ 100 ∧
  ∀ (t : Addr) (us : List V) (ss : List Stp) (H' : Hp), But p H H' → Pool H' p → H t = none → H' t = some (.lst us) → StepsH H' us ss → ss.length = m.toNat → (∀ s ∈ ss, s.2 ∈ zs) → Q (.ref t) H'
abbrev nSteps : List Str := ["_law_pool_here", "_law_items_here", "_law_many", "_law_found", "_law_held", "_law_turn", "_law_way", "_law_item"]
theorem scSteps : FnScope nSteps ["_law_pool_here", "_law_items_here", "_law_many"] (defScope sSteps) := ⟨rfl, rfl, rfl, by decide +kernel, rfl, by decide +kernel, by decide +kernel⟩
theorem has_steps (D : Def K mg "_law_steps" sSteps) (GT : Has P w K mg base "_law_take" 1 ["_law_pool_here", "_law_many"] [] spTake) (mr : mg "range" = none) (ml : mg "len" = none) : Has P w K mg base "_law_steps" 2 ["_law_pool_here", "_law_items_here", "_law_many"] [] spSteps := by
  refine has_of D scSteps (fun _ _ _ _ _ _ us hl => match us, hl with | [_, _, _], _ => rfl) (fun xs H Q E h => ?_) (fun f cv A out s H xs Q E hr h => ?_)
  · obtain ⟨p, l, m, zs, rfl, _⟩ := h
    rfl
  · obtain ⟨p, l, m, zs, rfl, hp, lp, hl, hne, hz, hI, h0, h1, k⟩ := h
    refine ⟨_, pss_cons (ps_par (i := 3) (j := 4) (by rfl) scSteps.nd rfl rfl (by decide) rfl rfl (pa_cons (pe_lst pa_nil) (pa_cons (pe_lst pa_nil) pa_nil)) (by rfl))
      (pss_cons (ps_for PassesOwn.never rfl (pi_range1 (by rfl) mr (pa_cons (pv 2) pa_nil)) (pg_name (i := 5) scSteps.nd rfl (.inl rfl))
        (pss_cons (ps_set (i := 6) scSteps.nd rfl (.inl rfl) (pe_has GT hr (pa_cons (pv 0) (pa_cons pe_int pa_nil))))
        (pss_cons (ps_set (i := 7) scSteps.nd rfl (.inl rfl) (pe_ix ix_list (pv 1) (pe_has GT hr (pa_cons (pv 0) (pa_cons (pe_callB call_len_seq (by rfl) ml PySem.boot_len (pa_cons (pv 1) pa_nil)) pa_nil))) (fun _ _ => rfl)))
        (pss_one (ps_if (pt_cut (PW.pt (pw_and (pt_cmpR op_lt (pv 6) pe_int (nomark _)) (pw_and1 (pt_cmpR (op_neD hr.units) (pv 4) (pe_lst pa_nil) (nomark _))))))
          (pss_cons (ps_set (i := 7) scSteps.nd rfl (.inl rfl) (pe_bm0 PySem.F.plainAttrs_list PySem.F.slot_list_pop PySem.F.type_list_pop mt_pop (pv 4)))
          (pss_one (ps_expr (pe_bm PySem.F.plainAttrs_list PySem.F.slot_list_append PySem.F.type_list_append mt_append (pv 3) (pa_cons (pe_tup (pa_cons pe_str (pa_cons (pv 7) pa_nil))) pa_nil)))))
          (pss_one (ps_if (pt_cut (PW.pt (pw_or (pt_cmpR op_eq (pv 6) pe_int (nomark _)) (pw_or1 (PW.pt (pw_and (pt_cmpR op_eq (pv 6) pe_int (nomark _)) (pw_and1 (pt_cmpR (op_eqD hr.units) (pv 4) (pe_lst pa_nil) (nomark _)))))))))
            (pss_cons (ps_expr (pe_bm PySem.F.plainAttrs_list PySem.F.slot_list_append PySem.F.type_list_append mt_append (pv 3) (pa_cons (pe_tup (pa_cons pe_str (pa_cons (pv 7) pa_nil))) pa_nil)))
            (pss_one (ps_set (i := 4) scSteps.nd rfl (.inl rfl) (pe_ifExp (pt_cut (pt_cmpR (op_eqD hr.units) (pe_slice sl_list (pv 4) (po_some (pe_un un_neg pe_int)) po_none) (pe_lst (pa_cons (pv 7) pa_nil)) (nomark _))) (pe_slice sl_list (pv 4) po_none (po_some (pe_un un_neg pe_int))) (pv 4)))))
            (pss_cons (ps_expr (pe_bm PySem.F.plainAttrs_list PySem.F.slot_list_append PySem.F.type_list_append mt_append (pv 3) (pa_cons (pe_tup (pa_cons pe_str (pa_cons (pv 7) pa_nil))) pa_nil)))
            (pss_one (ps_expr (pe_bm PySem.F.plainAttrs_list PySem.F.slot_list_append PySem.F.type_list_append mt_append (pv 4) (pa_cons (pv 7) pa_nil)))))))))))
      ) (pss_one (ps_ret (pv 3)))), ?_⟩
    refine ⟨Nat.zero_le _, fun g hg => ⟨Nat.zero_le _, fun h0' hh => ⟨_, _, rfl, ?_⟩⟩⟩
    have gp : g ≠ p := hp.free hg
    have hh0 : H h0' = none := (Same.new hg).free hh
    have hgne : g ≠ h0' := ne_of_none upd_same hh
    have ofz : ∀ {hs : List Str}, (∀ z ∈ hs, z ∈ zs) → SeqAt.shaped (.list (hs.map PyData.str)) = true := fun {hs} q => (nice_list (nice_strs fun z m => hI z (q z m))).shaped (by decide)
    refine ⟨_, rfl, m, rfl, by omega, by omega, for_range (lo := 0) (n := m.toNat) (fun i σ H3 => ∃ (h : Addr) (xs : List V) (ss : List Stp) (hs : List Str) (y5 y6 y7 : Option V), σ = [some (.ref p), some (.ref l), some (.int m), some (.ref g), some (.ref h), y5, y6, y7] ∧ SI p l g h zs H H3 xs ss hs ∧ ss.length = i ∧ xs.length = i ∧ hs.length ≤ i) ?_ ?_ ?_⟩
    · refine ⟨h0', [], [], [], none, none, none, rfl, ⟨(But.of (Same.new hg)).free hh0, (hp.upd gp).upd (hp.free hh0), ?_, ?_, .nil, fun s q => (by cases q), upd_same, fun z q => (by cases q), lp, gp, hg, hp.free hh0, hh0, Ne.symm hgne, Ne.symm (ne_of_none hl hh0), ne_of_none hl hg⟩, rfl, rfl, Nat.le_refl _⟩
      · rw [upd_ne (ne_of_none hl hh0), upd_ne (ne_of_none hl hg)]
        exact hl
      · rw [upd_ne hgne]
        exact upd_same
    · rintro i σ H3 hi ⟨h, xs, ss, hs, y5, y6, y7, rfl, a, hsl, hxl, hhl⟩
      refine ⟨_, rfl, p, 8, rfl, a.pl, by decide, by decide, fun r H4 b4 p4 r0 r1 => ?_⟩
      have a4 := a.draw b4 p4
      have hzp : 0 < zs.length := List.length_pos_iff.mpr hne
      refine ⟨_, rfl, _, rfl, _, rfl, l, _, rfl, .inl (.of a4.it), p, _, rfl, a4.pl, ?_, ?_, fun r2 H5 b5 p5 s0 s1 => ?_⟩
      · rw [List.length_map]
        omega
      · rw [List.length_map]
        omega
      rw [List.length_map] at s1
      obtain ⟨z, zm, az⟩ := pick_str s0 s1
      have a5 := a4.draw b5 p5
      refine ⟨l, _, r2, _, rfl, rfl, .of a5.it, az, ?_⟩
      -- way < 3 and held != []
      refine ⟨fun b H6 => SI p l g h zs H H6 xs ss hs ∧ (b = true → hs ≠ []), ?_, ?_⟩
      · refine ⟨_, rfl, r, 3, rfl, rfl, _, rfl, ite2 (fun c => ?_) (fun c => ?_)⟩
        · refine ⟨_, rfl, Nat.zero_le _, fun q hq => ⟨.list (hs.map .str), .list (([] : List Str).map .str), .lst (.of (a5.new hq).hl) (dp_strs hs), .lst (.of upd_same) .nil, ofz a5.hz, ofz (fun z w => (by cases w)), _, rfl, a5.new hq, fun e => ?_⟩⟩
          rw [eqv_listS] at e
          intro z
          rw [z] at e
          exact absurd e (by decide)
        · exact ⟨a5, fun e => (by cases e)⟩
      rintro b H6 ⟨a6, hb⟩
      cases b with
      | true =>
        have hs0 : hs ≠ [] := hb rfl
        refine iteT ?_
        have hlast : (hs.map V.str)[(hs.map V.str).length - 1]? = some (.str (hs.getLast hs0)) := by
          rw [List.length_map, List.getElem?_map, ← List.getLast?_eq_getElem?, List.getLast?_eq_getLast hs0]
          rfl
        have hmem : hs.getLast hs0 ∈ zs := a6.hz _ (List.getLast_mem hs0)
        have a7 : SI p l g h zs H (upd H6 h (.lst (hs.dropLast.map V.str))) xs ss hs.dropLast := a6.hset fun z m => a6.hz z ((List.dropLast_sublist hs).subset m)
        refine ⟨.ref h, rfl, .inl ⟨rfl, _, .of a6.hl⟩, h, _, _, rfl, rfl, a6.hl, hlast, ?_⟩
        rw [← List.map_dropLast]
        refine ⟨.ref g, rfl, .inl ⟨rfl, _, .of a7.fl⟩, _, rfl, (by show 2 ≤ sizeLine; decide), fun t ht => ⟨g, _, _, rfl, rfl, (a7.new ht).fl, ?_, ?_⟩⟩
        · rw [hxl]
          exact small1000 (by omega)
        · refine ⟨h, _, ss ++ [(false, hs.getLast hs0)], _, _, _, _, rfl, (a7.new ht).app (c := false) upd_same hmem, ?_, ?_, ?_⟩
          · rw [List.length_append, hsl]
            rfl
          · rw [List.length_append, hxl]
            rfl
          · rw [List.length_dropLast]
            omega
      | false =>
        refine iteF ?_
        -- the other ways
        refine ⟨fun b H7 => SI p l g h zs H H7 xs ss hs, ?_, ?_⟩
        · refine ⟨_, rfl, rfl, _, rfl, ite2 (fun c => ?_) (fun c => ?_)⟩
          · exact a6
          · refine ⟨_, rfl, rfl, _, rfl, ite2 (fun c2 => ?_) (fun c2 => ?_)⟩
            · exact ⟨_, rfl, Nat.zero_le _, fun q hq => ⟨.list (hs.map .str), .list (([] : List Str).map .str), .lst (.of (a6.new hq).hl) (dp_strs hs), .lst (.of upd_same) .nil, ofz a6.hz, ofz (fun z w => (by cases w)), _, rfl, a6.new hq⟩⟩
            · exact a6
        rintro b H7 a7
        cases b with
        | true =>
          refine iteT ?_
          refine ⟨.ref g, rfl, .inl ⟨rfl, _, .of a7.fl⟩, _, rfl, (by show 2 ≤ sizeLine; decide), fun t ht => ⟨g, _, _, rfl, rfl, (a7.new ht).fl, ?_, ?_⟩⟩
          · rw [hxl]
            exact small1000 (by omega)
          have a8 := (a7.new ht).app (c := false) upd_same zm
          have fin : ∀ (v : Addr) (H9 : Hp) (ks : List Str), SI p l g v zs H H9 (xs ++ [.ref t]) (ss ++ [(false, z)]) ks → ks.length ≤ i → ∃ (h : Addr) (xs : List V) (ss : List Stp) (hs : List Str) (y5 y6 y7 : Option V), [some (.ref p), some (.ref l), some (.int m), some (.ref g), some (.ref v), some (.int (0 + i)), some (.int r), some (.str z)] = [some (V.ref p), some (.ref l), some (.int m), some (.ref g), some (.ref h), y5, y6, y7] ∧ SI p l g h zs H H9 xs ss hs ∧ ss.length = i + 1 ∧ xs.length = i + 1 ∧ hs.length ≤ i + 1 := by
            intro v H9 ks a9 kl
            refine ⟨v, _, _, ks, _, _, _, rfl, a9, ?_, ?_, by omega⟩
            · rw [List.length_append, hsl]
              rfl
            · rw [List.length_append, hxl]
              rfl
          refine ⟨fun b H8 => SI p l g h zs H H8 (xs ++ [.ref t]) (ss ++ [(false, z)]) hs, ?_, ?_⟩
          · refine ⟨_, rfl, 1, rfl, -1, rfl, h, _, rfl, .of a8.hl, fun q hq => ⟨_, rfl, (by show 1 ≤ sizeLine; decide), fun q2 hq2 => ?_⟩⟩
            have a9 := (a8.new hq (o := .lst (cutV (hs.map V.str) (some (-1)) none))).new hq2 (o := .lst [.str z])
            have ne2 : q ≠ q2 := ne_of_none upd_same hq2
            refine ⟨.list (((hs.drop (HT.sIx hs.length 0 (some (-1)))).take (HT.sIx hs.length hs.length none - HT.sIx hs.length 0 (some (-1)))).map .str), .list ([z].map .str), .lst (.of ?_) (dp_strs _), .lst (.of upd_same) (dp_strs [z]), ofz (fun y m => a8.hz y (cut_mem m)), ofz (fun y m => (by rw [List.mem_singleton.mp m]; exact zm)), _, rfl, a9⟩
            rw [upd_ne ne2, upd_same, cut_map]
          rintro b H8 a9
          cases b with
          | true =>
            refine iteT ?_
            refine ⟨_, rfl, 1, rfl, -1, rfl, h, _, rfl, .of a9.hl, fun q hq => ?_⟩
            rw [cut_map]
            refine fin q _ _ (a9.hnew hq fun y m => a9.hz y (cut_mem m)) ?_
            rw [List.length_take, List.length_drop]
            omega
          | false =>
            refine iteF ?_
            exact ⟨_, rfl, fin h H8 hs a9 hhl⟩
        | false =>
          refine iteF ?_
          refine ⟨.ref g, rfl, .inl ⟨rfl, _, .of a7.fl⟩, _, rfl, (by show 2 ≤ sizeLine; decide), fun t ht => ⟨g, _, _, rfl, rfl, (a7.new ht).fl, ?_, ?_⟩⟩
          · rw [hxl]
            exact small1000 (by omega)
          have a8 := (a7.new ht).app (c := true) upd_same zm
          refine ⟨.ref h, rfl, .inl ⟨rfl, _, .of a8.hl⟩, _, rfl, h, _, _, rfl, rfl, a8.hl, ?_, ?_⟩
          · rw [List.length_map]
            exact small1000 (by omega)
          · have a9 : SI p l g h zs H (upd _ h (.lst ((hs ++ [z]).map V.str))) (xs ++ [.ref t]) (ss ++ [(true, z)]) (hs ++ [z]) := a8.hset fun y m => by
              rcases List.mem_append.mp m with q | q
              · exact a8.hz y q
              · rw [List.mem_singleton.mp q]
                exact zm
            rw [List.map_append] at a9
            refine ⟨h, _, _, _, _, _, _, rfl, a9, ?_, ?_, ?_⟩
            · rw [List.length_append, hsl]
              rfl
            · rw [List.length_append, hxl]
              rfl
            · rw [List.length_append]
              show hs.length + 1 ≤ i + 1
              omega
    · rintro σ H3 ⟨h, xs, ss, hs, y5, y6, y7, rfl, a, hsl, hxl, hhl⟩
      exact ⟨_, rfl, k g xs ss H3 a.b a.pl hg a.fl a.st hsl a.sz⟩
end
end SE
namespace SE
open PySem PySem.Spec PyProof.Rows L2
/-! ### what is never reached; types -/
theorem pe_never {X : Cx} {e : Expr} : PE X e (fun _ _ _ => False) := ⟨fun _ _ _ _ _ _ h => h.elim⟩
theorem ty_tup {K : PySem.W.Frag} {H : Hp} {a : Addr} {xs : List V} (h : SqT K H a xs) : TyX K H (.ref a) (.type "tuple") := by
  rcases h with (h | ⟨o, h⟩) | ⟨o, its, n, h1, h2, _⟩
  · exact .base (.tup h)
  · exact .fTuple h
  · exact .kTuple h1 h2
theorem ty_lst {K : PySem.W.Frag} {H : Hp} {a : Addr} {xs : List V} (h : SqL K H a xs) : TyX K H (.ref a) (.type "list") := by
  rcases h with (h | ⟨o, h⟩) | ⟨o, its, n, h1, h2, _⟩
  · exact .base (.lst h)
  · exact .base (.frz h)
  · exact .kList h1 h2
theorem bl_snoc (n : Nat) : (List.replicate n true).map V.bl ++ [V.bl true] = (List.replicate (n + 1) true).map V.bl := by
  rw [List.replicate_succ', List.map_append]
  rfl
theorem all_true (n : Nat) : (List.replicate n true).all id = true := by
  rw [List.all_eq_true]
  intro b hb
  rw [(List.mem_replicate.mp hb).2]
  rfl
theorem abc_has {c : Nat} (h : 97 ≤ c ∧ c ≤ 122) : c ∈ abc.cps.toList := by
  have q : ∀ j : Fin 26, (97 + j.1) ∈ abc.cps.toList := by decide +kernel
  have z := q ⟨c - 97, by omega⟩
  have e : 97 + (c - 97) = c := by omega
  rw [← e]
  exact z
/-- the module's constants -/
structure Cons (K : PySem.W.Frag) (w : World) (mg : Str → Option Value) : Prop where
  let_ : ∃ t, mg "LETTERS" = some (.str abc t)
  ml : ∃ t, mg "MOST_LETTERS" = some (.int 8 t)
  ms : ∃ t, mg "MOST_STEPS" = some (.int 1000 t)
  opp : ∃ (d : Addr) (es : Array DictEntry) (n : Nat) (u v : Value), mg "OPPOSITES" = some (.ref d) ∧ KDict K w d es n ∧ PySem.W.nsIn K d "push" = some (some u) ∧ RelV (.str "pop") u ∧ PySem.W.nsIn K d "pop" = some (some v) ∧ RelV (.str "push") v
/-- built-in names that the module leaves as they are -/
structure Blt (mg : Str → Option Value) : Prop where
  isi : mg "isinstance" = none
  str : mg "str" = none
  len : mg "len" = none
  all : mg "all" = none
  tup : mg "tuple" = none
  lst : mg "list" = none
  enu : mg "enumerate" = none
section
variable {P : Program} {w : World} {K : PySem.W.Frag} {mg : Str → Option Value} {base : Heap}
/-! ### is_item -/
def spIsItem : Sp := fun xs H Q _ => ∃ (z : Str), xs = [.str z] ∧ Item z ∧ ∀ H', Same H H' → Q (.bl true) H'
theorem scIsItem : FnScope ["value", "letter"] ["value"] (defScope sIsItem) := ⟨rfl, rfl, rfl, by decide +kernel, rfl, by decide +kernel, by decide +kernel⟩
theorem has_isItem (D : Def K mg "is_item" sIsItem) (B : Blt mg) (C : Cons K w mg) : Has P w K mg base "is_item" 1 ["value"] [] spIsItem := by
  obtain ⟨tl, hL⟩ := C.let_
  obtain ⟨tm, hM⟩ := C.ml
  refine has_of D scIsItem (fun _ _ _ _ _ _ us hl => match us, hl with | [_], _ => rfl) (fun xs H Q E h => ?_) (fun f cv A out s H xs Q E hr h => ?_)
  · obtain ⟨z, rfl, _⟩ := h
    rfl
  · obtain ⟨z, rfl, iz, k⟩ := h
    refine ⟨_, pss_cons (ps_if (PW.pt (pw_or (pt_not (pt_val (pe_callB call_isi (by rfl) B.isi (by decide +kernel) (pa_cons (pv 0) (pa_cons (pe_bltn (v := .ty "str") (by rfl) B.str (by decide +kernel) rfl) pa_nil)))))
        (pw_or1 (pt_not (pt_chain op_le op_le pe_int (pe_callB call_len_str (by rfl) B.len PySem.boot_len (pa_cons (pv 0) pa_nil)) (pe_glob (v := .int 8) rfl hM ⟨_, rfl⟩)))))) (pss_one (ps_ret pe_bl)) pss_nil)
      (pss_one (ps_ret (pe_callB (cr_all rfl) (by rfl) B.all (by decide +kernel) (pa_cons
        (pe_lc (own := [("letter", 1)]) (g := gName 1) (tt := tYes) rfl scIsItem.nd (pi_str (pv 0)) (blkOk_by (own := [("letter", 1)]) (N := ["value", "letter"]) (sc := defScope sIsItem) (by decide +kernel))
          (fun _ _ _ _ _ => pg_name (i := 1) scIsItem.nd rfl (.inl rfl)) (fun _ _ _ _ _ => pts_nil) (fun _ _ _ _ _ => pe_cmpR op_in_sign (pv 1) (pe_glob (v := .str abc) rfl hL ⟨_, rfl⟩) (by rfl))) pa_nil)))), ?_⟩
    refine ⟨_, rfl, _, .ty "str", .type "str", .type "str", true, rfl, .ty _, .base (.str z), kit_ty (by decide +kernel), true, rfl, iteF ?_⟩
    have p1 : (1 : Int) ≤ (z.length : Int) := by have := iz.pos; omega
    have p2 : (z.length : Int) ≤ 8 := by have := iz.most; omega
    refine ⟨_, rfl, z, rfl, Nat.le_of_lt (small1000 (by have := iz.most; omega)), 1, _, rfl, rfl, true, congrArg V.bl (decide_eq_true p1), iteT ⟨_, 8, rfl, rfl, true, congrArg V.bl (decide_eq_true p2), iteF ?_⟩⟩
    refine ⟨_, rfl, z, rfl, fun D hD => lc_it walk_str (fun j H2 => H2 D = some (.lst ((List.replicate j true).map V.bl)) ∧ Same H H2) ⟨upd_same, Same.new hD⟩ (fun _ _ _ _ => trivial) ?_ ?_⟩
    · rintro j x H2 H3 hj ⟨h2, s2⟩ ⟨rfl, c, hc, rfl⟩
      refine ⟨rfl, yes_in ⟨_, rfl, c, abc, rfl, rfl, _, h2, ?_, ?_, ?_⟩⟩
      · rw [List.length_map, List.length_replicate]
        have : j < z.length := hj
        have := iz.most
        exact small1000 (by omega)
      · have cm : c ∈ z.cps.toList := by
          have q : z.cps.toList[j]? = some c := by rw [Array.getElem?_toList]; exact hc
          exact List.mem_of_getElem? q
        rw [upd_same, decide_eq_true (abc_has (iz.low c cm)), bl_snoc]
      · exact Same.free2 s2 hD
    · rintro H2 ⟨h2, s2⟩
      refine ⟨D, _, rfl, .of h2, ?_⟩
      rw [all_true]
      exact k H2 s2
/-! ### is_word -/
def spIsWord (K : PySem.W.Frag) : Sp := fun xs H Q _ => ∃ (a : Addr) (zs : List Str), xs = [.ref a] ∧ SqT K H a (zs.map V.str) ∧ zs.length ≤ 5000 ∧ (∀ z ∈ zs, Item z) ∧ ∀ H', Same H H' → Q (.bl true) H'
theorem scIsWord : FnScope ["value", "item"] ["value"] (defScope sIsWord) := ⟨rfl, rfl, rfl, by decide +kernel, rfl, by decide +kernel, by decide +kernel⟩
theorem has_isWord (D : Def K mg "is_word" sIsWord) (G : Has P w K mg base "is_item" 1 ["value"] [] spIsItem) (B : Blt mg) : Has P w K mg base "is_word" 2 ["value"] [] (spIsWord K) := by
  refine has_of D scIsWord (fun _ _ _ _ _ _ us hl => match us, hl with | [_], _ => rfl) (fun xs H Q E h => ?_) (fun f cv A out s H xs Q E hr h => ?_)
  · obtain ⟨a, zs, rfl, _⟩ := h
    rfl
  · obtain ⟨a, zs, rfl, hT, hz, hI, k⟩ := h
    refine ⟨_, pss_one (ps_ret (pe_and (pe_callB call_isi (by rfl) B.isi (by decide +kernel) (pa_cons (pv 0) (pa_cons (pe_bltn (v := .ty "tuple") (by rfl) B.tup (by decide +kernel) rfl) pa_nil)))
      (pe_one (pe_callB (cr_all rfl) (by rfl) B.all (by decide +kernel) (pa_cons
        (pe_lc (own := [("item", 1)]) (g := gName 1) (tt := tYes) (te := tCall spIsItem [] E0 (tCons (tVar 1) tNil)) rfl scIsWord.nd (pi_tup (pv 0)) (blkOk_by (own := [("item", 1)]) (N := ["value", "item"]) (sc := defScope sIsWord) (by decide +kernel))
          (fun _ _ _ _ _ => pg_name (i := 1) scIsWord.nd rfl (.inl rfl)) (fun _ _ _ _ _ => pts_nil) (fun _ _ _ _ _ => pe_has G hr (pa_cons (pv 1) pa_nil))) pa_nil))))), ?_⟩
    refine ⟨_, rfl, _, .ty "tuple", .type "tuple", .type "tuple", true, rfl, .ty _, ty_tup hT, kit_ty (by decide +kernel), true, rfl, iteT ?_⟩
    refine ⟨_, rfl, a, rfl, ⟨_, hT⟩, fun D hD => lc_tup (K := K) (a := a) (xs := zs.map V.str) (fun j H2 => H2 D = some (.lst ((List.replicate j true).map V.bl)) ∧ Same H H2) ⟨upd_same, Same.new hD⟩ (fun _ _ _ q => Same.tup q.2 hT) ?_ ?_⟩
    · rintro j x H2 hj ⟨h2, s2⟩
      have jl : j < zs.length := by
        have := (List.getElem?_eq_some_iff.mp hj).1
        rwa [List.length_map] at this
      rw [List.getElem?_map, List.getElem?_eq_getElem jl] at hj
      have e := Option.some.inj hj
      subst e
      refine ⟨rfl, yes_in ⟨_, rfl, zs[j], rfl, hI _ (List.getElem_mem jl), fun H3 s3 => ⟨_, s3 _ _ h2, ?_, ?_, ?_⟩⟩⟩
      · rw [List.length_map, List.length_replicate]
        exact Nat.lt_of_lt_of_le jl (Nat.le_trans hz (by decide))
      · rw [upd_same, bl_snoc]
      · exact Same.free2 (s2.trans s3) hD
    · rintro H2 ⟨h2, s2⟩
      refine ⟨D, _, rfl, .of h2, ?_⟩
      rw [all_true]
      exact k H2 s2
/-! ### is_step -/
def spIsStep (K : PySem.W.Frag) : Sp := fun xs H Q _ => ∃ (v : V) (s : Stp), xs = [v] ∧ StepV K H v s ∧ Item s.2 ∧ ∀ H', Same H H' → Q (.bl true) H'
theorem scIsStep : FnScope ["value", "action", "item"] ["value"] (defScope sIsStep) := ⟨rfl, rfl, rfl, by decide +kernel, rfl, by decide +kernel, by decide +kernel⟩
theorem has_isStep (D : Def K mg "is_step" sIsStep) (G : Has P w K mg base "is_item" 1 ["value"] [] spIsItem) (B : Blt mg) (C : Cons K w mg) : Has P w K mg base "is_step" 2 ["value"] [] (spIsStep K) := by
  obtain ⟨d, es, n, u1, u2, hO, KD, n1, r1, n2, r2⟩ := C.opp
  refine has_of D scIsStep (fun _ _ _ _ _ _ us hl => match us, hl with | [_], _ => rfl) (fun xs H Q E h => ?_) (fun f cv A out s H xs Q E hr h => ?_)
  · obtain ⟨v, st, rfl, _⟩ := h
    rfl
  · obtain ⟨v, st, rfl, ⟨t, rfl, hT⟩, iz, k⟩ := h
    refine ⟨_, pss_cons (ps_if (PW.pt (pw_or (pt_not (pt_val (pe_callB call_isi (by rfl) B.isi (by decide +kernel) (pa_cons (pv 0) (pa_cons (pe_bltn (v := .ty "tuple") (by rfl) B.tup (by decide +kernel) rfl) pa_nil)))))
        (pw_or1 (pt_cmpR op_ne (pe_callB call_len_seq (by rfl) B.len PySem.boot_len (pa_cons (pv 0) pa_nil)) pe_int (nomark _))))) (pss_one (ps_ret pe_bl)) pss_nil)
      (pss_cons (ps_asg (pv 0) (pg_tup (by rfl) (pgs_cons (pg_name (i := 1) scIsStep.nd rfl (.inl rfl)) (pgs_cons (pg_name (i := 2) scIsStep.nd rfl (.inl rfl)) pgs_nil))))
      (pss_one (ps_ret (pe_and (pe_callB call_isi (by rfl) B.isi (by decide +kernel) (pa_cons (pv 1) (pa_cons (pe_bltn (v := .ty "str") (by rfl) B.str (by decide +kernel) rfl) pa_nil)))
        (pe_and (pe_cmpR (op_in_kd KD) (pv 1) (pe_glob (v := .ref d) rfl hO rfl) (by rfl)) (pe_one (pe_has G hr (pa_cons (pv 2) pa_nil)))))))), ?_⟩
    refine ⟨_, rfl, _, .ty "tuple", .type "tuple", .type "tuple", true, rfl, .ty _, ty_tup hT, kit_ty (by decide +kernel), true, rfl, iteF ?_⟩
    refine ⟨_, rfl, t, _, rfl, .inr hT, rfl, _, rfl, iteF ?_⟩
    refine ⟨_, rfl, t, _, rfl, hT, rfl, _, _, rfl, _, _, rfl, rfl, ?_⟩
    refine ⟨_, rfl, _, .ty "str", .type "str", .type "str", true, rfl, .ty _, .base (.str _), kit_ty (by decide +kernel), true, rfl, iteT ?_⟩
    have inO : ∃ r, PySem.W.nsIn K d (act st.1) = some r ∧ r.isSome = true := by
      cases e : st.1 with
      | true => exact ⟨some u1, n1, rfl⟩
      | false => exact ⟨some u2, n2, rfl⟩
    obtain ⟨r, hr1, hr2⟩ := inO
    refine ⟨_, rfl, act st.1, r, rfl, rfl, hr1, r.isSome, rfl, ?_⟩
    rw [hr2]
    exact iteT ⟨_, rfl, st.2, rfl, iz, k⟩
end
end SE
namespace SE
open PySem PySem.Spec PyProof.Rows L2
section
variable {P : Program} {w : World} {K : PySem.W.Frag} {mg : Str → Option Value} {base : Heap}
/-! ### may_hold_steps -/
def spMay (K : PySem.W.Frag) : Sp := fun xs H Q _ => ∃ (a : Addr) (ys : List V), xs = [.ref a] ∧ (SqL K H a ys ∨ SqT K H a ys) ∧ ys.length ≤ 1000 ∧ ∀ H', Same H H' → Q (.bl true) H'
theorem scMay : FnScope ["value"] ["value"] (defScope sMayHold) := ⟨rfl, rfl, rfl, by decide +kernel, rfl, by decide +kernel, by decide +kernel⟩
theorem has_may (D : Def K mg "may_hold_steps" sMayHold) (B : Blt mg) (C : Cons K w mg) : Has P w K mg base "may_hold_steps" 1 ["value"] [] (spMay K) := by
  obtain ⟨tm, hM⟩ := C.ms
  refine has_of D scMay (fun _ _ _ _ _ _ us hl => match us, hl with | [_], _ => rfl) (fun xs H Q E h => ?_) (fun f cv A out s H xs Q E hr h => ?_)
  · obtain ⟨a, ys, rfl, _⟩ := h
    rfl
  · obtain ⟨a, ys, rfl, hS, hl, k⟩ := h
    refine ⟨_, pss_one (ps_ret (pe_and (pe_callB call_isiT (by rfl) B.isi (by decide +kernel) (pa_cons (pv 0) (pa_cons (pe_tup (pa_cons (pe_bltn (v := .ty "list") (by rfl) B.lst (by decide +kernel) rfl) (pa_cons (pe_bltn (v := .ty "tuple") (by rfl) B.tup (by decide +kernel) rfl) pa_nil))) pa_nil)))
      (pe_one (pe_cmpR op_le (pe_callB call_len_seq (by rfl) B.len PySem.boot_len (pa_cons (pv 0) pa_nil)) (pe_glob (v := .int 1000) rfl hM ⟨_, rfl⟩) (nomark _))))), ?_⟩
    refine ⟨_, rfl, (by show 2 ≤ sizeLine; decide), fun t ht => ?_⟩
    have s1 : Same H (upd H t (.tup [.ty "list", .ty "tuple"])) := Same.new ht
    have p1 : (ys.length : Int) ≤ 1000 := by omega
    have ty : ∃ T, TyX K (upd H t (.tup [.ty "list", .ty "tuple"])) (.ref a) T ∧ PySem.W.kitAny K T [.type "list", .type "tuple"] = some true := by
      rcases hS with q | q
      · exact ⟨_, ty_lst (Same.seq s1 q), kitAny_cons (b := true) (kit_ty (by decide +kernel)) (fun z => (by cases z)) (fun _ => rfl)⟩
      · exact ⟨_, ty_tup (Same.tup s1 q), kitAny_cons (b := false) (kit_ty (by decide +kernel)) (fun _ => kitAny_cons (b := true) (kit_ty (by decide +kernel)) (fun z => (by cases z)) (fun _ => rfl)) (fun z => (by cases z))⟩
    obtain ⟨T, ty1, ty2⟩ := ty
    refine ⟨_, t, _, T, _, true, rfl, upd_same, .cons (.ty _) (.cons (.ty _) .nil), ty1, ty2, true, rfl, iteT ?_⟩
    refine ⟨_, rfl, a, ys, rfl, hS.imp (Same.seq s1) (Same.tup s1), _, 1000, rfl, rfl, ?_⟩
    show Q (V.bl (decide ((ys.length : Int) ≤ 1000))) _
    rw [decide_eq_true p1]
    exact k _ s1
/-! ### check_steps -/
def spChkSteps (K : PySem.W.Frag) : Sp := fun xs H Q _ => ∃ (a : Addr) (ys : List V) (ss : List Stp), xs = [.ref a] ∧ (SqL K H a ys ∨ SqT K H a ys) ∧ ys.length ≤ 1000 ∧ StepsV K H ys ss ∧ (∀ s ∈ ss, Item s.2) ∧ ∀ H', Same H H' → Q .non H'
theorem scChk : FnScope ["steps", "index", "step"] ["steps"] (defScope sChkSteps) := ⟨rfl, rfl, rfl, by decide +kernel, rfl, by decide +kernel, by decide +kernel⟩
theorem walk_enumT {K : PySem.W.Frag} {a : Addr} {xs : List V} : Walk (ItE K a) xs.length (fun H => SqT K H a xs) (YPair (fun i => some (.int (i : Nat))) (fun i => xs[i]?)) := by
  refine ⟨fun i _ hi q => ⟨xs, xs[i], q, by simp [hi]⟩, fun _ q => ⟨xs, q, Nat.le_refl _⟩, fun i H v H2 _ q y => ?_⟩
  obtain ⟨T, x, h1, h2, h3, h4⟩ := y
  exact ⟨T, .int (i : Nat), x, h1, h2, h3, rfl, h4 xs q⟩
theorem has_chkSteps (D : Def K mg "check_steps" sChkSteps) (GM : Has P w K mg base "may_hold_steps" 1 ["value"] [] (spMay K)) (GS : Has P w K mg base "is_step" 2 ["value"] [] (spIsStep K)) (B : Blt mg) : Has P w K mg base "check_steps" 3 ["steps"] [] (spChkSteps K) := by
  refine has_of D scChk (fun _ _ _ _ _ _ us hl => match us, hl with | [_], _ => rfl) (fun xs H Q E h => ?_) (fun f cv A out s H xs Q E hr h => ?_)
  · obtain ⟨a, ys, ss, rfl, _⟩ := h
    rfl
  · obtain ⟨a, ys, ss, rfl, hS, hl, hV, hI, k⟩ := h
    have hr1 : Room 1 _ := hr.mono (by decide)
    have one : ∀ {i : Nat} {y : V} {H2 : Hp}, ys[i]? = some y → Same H H2 → ∃ s, StepV K H2 y s ∧ Item s.2 := by
      intro i y H2 hy s2
      obtain ⟨st, h1, h2⟩ := StepsV.at hV hy
      exact ⟨st, h2.same s2, hI st (List.mem_of_getElem? h1)⟩
    rcases hS with hS | hS
    · refine ⟨_, pss_cons (ps_if (pt_not (pt_val (pe_has GM hr1 (pa_cons (pv 0) pa_nil)))) pss_never pss_nil)
        (pss_one (ps_for PassesOwn.never rfl (pi_enum (by rfl) B.enu (pa_cons (pv 0) pa_nil)) (pg_tup (by rfl) (pgs_cons (pg_name (i := 1) scChk.nd rfl (.inl rfl)) (pgs_cons (pg_name (i := 2) scChk.nd rfl (.inl rfl)) pgs_nil)))
          (pss_one (ps_if (pt_not (pt_val (pe_has GS hr (pa_cons (pv 2) pa_nil)))) pss_never pss_nil)))), ?_⟩
      refine ⟨_, rfl, a, ys, rfl, .inl hS, hl, fun H1 s1 => ⟨true, rfl, iteF ?_⟩⟩
      refine ⟨_, rfl, a, ys, rfl, Same.seq s1 hS, for_it (walk_enum (K := K) (a := a) (xs := ys)) (fun i σ H2 => ∃ y1 y2, σ = [some (.ref a), y1, y2] ∧ Same H H2) ⟨none, none, rfl, s1⟩ (fun i σ H2 _ q => ?_) ?_ ?_⟩
      · obtain ⟨_, _, _, s2⟩ := q
        exact Same.seq s2 hS
      · rintro i x σ H2 H3 hi ⟨y1, y2, rfl, s2⟩ ⟨T, p, y, rfl, nT, rfl, hp, hy⟩
        refine ⟨T, _, rfl, .of upd_same, rfl, _, _, rfl, _, _, rfl, rfl, ?_⟩
        have s3 : Same H (upd H2 T (.tup [p, y])) := Same.free2 s2 (s2.free nT)
        obtain ⟨st, h1, h2⟩ := one hy s3
        exact ⟨_, rfl, y, st, rfl, h1, h2, fun H4 s4 => ⟨true, rfl, iteF ⟨_, _, rfl, s3.trans s4⟩⟩⟩
      · rintro σ H2 ⟨y1, y2, rfl, s2⟩
        exact k H2 s2
    · refine ⟨_, pss_cons (ps_if (pt_not (pt_val (pe_has GM hr1 (pa_cons (pv 0) pa_nil)))) pss_never pss_nil)
        (pss_one (ps_for PassesOwn.never rfl (pi_enumT (by rfl) B.enu (pa_cons (pv 0) pa_nil)) (pg_tup (by rfl) (pgs_cons (pg_name (i := 1) scChk.nd rfl (.inl rfl)) (pgs_cons (pg_name (i := 2) scChk.nd rfl (.inl rfl)) pgs_nil)))
          (pss_one (ps_if (pt_not (pt_val (pe_has GS hr (pa_cons (pv 2) pa_nil)))) pss_never pss_nil)))), ?_⟩
      refine ⟨_, rfl, a, ys, rfl, .inr hS, hl, fun H1 s1 => ⟨true, rfl, iteF ?_⟩⟩
      refine ⟨_, rfl, a, ys, rfl, Same.tup s1 hS, for_it (walk_enumT (K := K) (a := a) (xs := ys)) (fun i σ H2 => ∃ y1 y2, σ = [some (.ref a), y1, y2] ∧ Same H H2) ⟨none, none, rfl, s1⟩ (fun i σ H2 _ q => ?_) ?_ ?_⟩
      · obtain ⟨_, _, _, s2⟩ := q
        exact Same.tup s2 hS
      · rintro i x σ H2 H3 hi ⟨y1, y2, rfl, s2⟩ ⟨T, p, y, rfl, nT, rfl, hp, hy⟩
        refine ⟨T, _, rfl, .of upd_same, rfl, _, _, rfl, _, _, rfl, rfl, ?_⟩
        have s3 : Same H (upd H2 T (.tup [p, y])) := Same.free2 s2 (s2.free nT)
        obtain ⟨st, h1, h2⟩ := one hy s3
        exact ⟨_, rfl, y, st, rfl, h1, h2, fun H4 s4 => ⟨true, rfl, iteF ⟨_, _, rfl, s3.trans s4⟩⟩⟩
      · rintro σ H2 ⟨y1, y2, rfl, s2⟩
        exact k H2 s2
/-! ### check_word, is_limit, check_limit, check_run, is_too_high -/
def spChkWord (K : PySem.W.Frag) : Sp := fun xs H Q _ => ∃ (a : Addr) (zs : List Str), xs = [.ref a] ∧ SqT K H a (zs.map V.str) ∧ zs.length ≤ 5000 ∧ (∀ z ∈ zs, Item z) ∧ ∀ H', Same H H' → Q .non H'
theorem scCw : FnScope ["word"] ["word"] (defScope sChkWord) := ⟨rfl, rfl, rfl, by decide +kernel, rfl, by decide +kernel, by decide +kernel⟩
theorem has_chkWord (D : Def K mg "check_word" sChkWord) (G : Has P w K mg base "is_word" 2 ["value"] [] (spIsWord K)) : Has P w K mg base "check_word" 3 ["word"] [] (spChkWord K) := by
  refine has_of D scCw (fun _ _ _ _ _ _ us hl => match us, hl with | [_], _ => rfl) (fun xs H Q E h => ?_) (fun f cv A out s H xs Q E hr h => ?_)
  · obtain ⟨a, zs, rfl, _⟩ := h
    rfl
  · obtain ⟨a, zs, rfl, hT, hz, hI, k⟩ := h
    refine ⟨_, pss_one (ps_if (pt_not (pt_val (pe_has G hr (pa_cons (pv 0) pa_nil)))) pss_never pss_nil), ?_⟩
    exact ⟨_, rfl, a, zs, rfl, hT, hz, hI, fun H1 s1 => ⟨true, rfl, iteF (k H1 s1)⟩⟩
end
end SE
namespace SE
open PySem PySem.Spec PyProof.Rows L2
/-- a def with keyword-only defaults alone -/
def DefK (K : PySem.W.Frag) (mg : Str → Option Value) (x : Str) (st : Stmt) (kws : List (Str × V)) : Prop := ∃ f fd, Fun K x x st f fd ∧ FunD K x x (defArgs st) (defBody st) (defScope st) [] kws f fd ∧ mg x = some (.ref f)
end SE
namespace SE
open PySem PySem.Spec PyProof.Rows L2
section
variable {P : Program} {w : World} {K : PySem.W.Frag} {mg : Str → Option Value} {base : Heap}
/-! ### is_whole, is_between, check_between -/
def spWhole : Sp := fun xs H Q _ => ∃ n : Int, xs = [.int n] ∧ Q (.bl true) H
theorem scWh : FnScope ["value"] ["value"] (defScope sIsWhole) := ⟨rfl, rfl, rfl, by decide +kernel, rfl, by decide +kernel, by decide +kernel⟩
theorem has_whole (D : Def K mg "is_whole" sIsWhole) (B : Blt mg) (mi : mg "int" = none) (mb : mg "bool" = none) : Has P w K mg base "is_whole" 1 ["value"] [] spWhole := by
  refine has_of D scWh (fun _ _ _ _ _ _ us hl => match us, hl with | [_], _ => rfl) (fun xs H Q E h => ?_) (fun f cv A out s H xs Q E hr h => ?_)
  · obtain ⟨n, rfl, _⟩ := h
    rfl
  · obtain ⟨n, rfl, k⟩ := h
    refine ⟨_, pss_one (ps_ret (pe_and (pe_callB call_isi (by rfl) B.isi (by decide +kernel) (pa_cons (pv 0) (pa_cons (pe_bltn (v := .ty "int") (by rfl) mi (by decide +kernel) rfl) pa_nil)))
      (pe_one (pe_not (pe_callB call_isi (by rfl) B.isi (by decide +kernel) (pa_cons (pv 0) (pa_cons (pe_bltn (v := .ty "bool") (by rfl) mb (by decide +kernel) rfl) pa_nil))))))), ?_⟩
    refine ⟨_, rfl, _, .ty "int", .type "int", .type "int", true, rfl, .ty _, .base (.int n), kit_ty (by decide +kernel), true, rfl, iteT ?_⟩
    exact ⟨_, rfl, _, .ty "bool", .type "int", .type "bool", false, rfl, .ty _, .base (.int n), kit_ty (by decide +kernel), false, rfl, k⟩
end
end SE
/-! (x,) * n for n up to 5000. -/
namespace SE
open PySem PySem.Spec PyProof.Rows L2
def rRepB (K : PySem.W.Frag) : R2 := fun x y H Q => ∃ (l : Addr) (k : Int) (v : V), x = .ref l ∧ y = .int k ∧ SqT K H l [v] ∧ 2 ≤ k ∧ k ≤ 5000 ∧ ∀ p, H p = none → Q (.ref p) (upd H p (.tup (List.replicate k.toNat v)))
theorem op_repB {X : Cx} : OpR X (binaryOp .Mult) (rRepB X.K) := by
  intro pins s σ H x y a u Q I rx ry h
  obtain ⟨l, k, v, rfl, rfl, hT, h1, h2, q⟩ := h
  cases rx
  obtain ⟨t, rfl⟩ := ry
  obtain ⟨its, r, ⟨⟨cls, dd, data, sl⟩, ho, hc, n, hd⟩, hs⟩ := I.tuple hT
  simp only at hc hd
  subst hc hd
  obtain ⟨w, rfl⟩ : ∃ w, its = [w] := by
    cases r with
    | cons r1 r2 =>
      cases r2
      exact ⟨_, rfl⟩
  have sz : (([w] : List Value).toArray.size : Int) * k = k := by
    show ((1 : Nat) : Int) * k = k
    omega
  have rep : ∀ {α : Type} (z : α), (List.replicate k.toNat [z]).flatten = List.replicate k.toNat z := fun z => List.flatten_replicate_singleton
  have big : k.toNat ≤ sizeLine := by
    rw [sizeLine_eq]
    omega
  refine wpAny_binaryOp_repeat_ref (T := "tuple") (U := "int") (by decide) ⟨_, ho, rfl⟩ (fun s2 => typeIs_int s2 k t) noFill_tuple_mul F.fills_int_mul F.slot_int_rmul repeat_tuple F.slot_int_index.lookup ?_
  refine call_meets F.slot_int_rmul (typeIs_int s k t) F.entry_int_rmul (F.args_int_rmul_2 _ _) (int_rmul_tuple k t l _ n dd sl) ⟨ho, rfl, ⟨_, ho, rfl⟩, ?_⟩
  refine call_meets F.slot_tuple_mul ⟨_, ho, rfl⟩ F.entry_tuple_mul (F.args_tuple_mul_2 _ _) (tuple_mulW l _ n dd sl k t ?_ ?_ ?_ ?_ ?_ ?_) ⟨ho, ?_⟩
  · rw [decide_eq_false (by omega), decide_eq_false (by omega)]
    rfl
  · show (false || k == 1) = false
    rw [Bool.false_or]
    exact beq_eq_false_iff_ne.mpr (by omega)
  · show (decide (k ≤ 0) || false) = false
    rw [Bool.or_false]
    exact decide_eq_false (by omega)
  · rw [sz]
    omega
  · rw [sz]
    unfold Builtin.Tuple.tupleTooMany
    rw [sizeLine_eq]
    exact decide_eq_false (by omega)
  · rw [size_rep, List.size_toArray, rep, List.length_replicate]
    exact big
  · rw [size_rep, rep]
    refine ⟨.ref s.heap.objs.size, _, I.laid (t' := s.toks) (o := .tup (List.replicate k.toNat v)) (fun b ob e => Heap.get?_push_of_some _ e) (Nat.le_refl _) ?_, rfl, q _ (I.hok.fresh (Nat.le_refl _))⟩
    refine ⟨by rw [List.length_replicate]; exact big, _, ?_, IsTup.new _ _⟩
    have z := r.rep k.toNat
    rw [rep, rep] at z
    exact z
end SE
/-! Tuples: t * n, t + u, t[a:b] whichever object comes out; len(set(t)) of texts. -/
namespace SE
open PySem PySem.Spec PyProof.Rows L2
section
variable {X : Cx}
theorem tmul_one (l : Addr) (w : Value) (n : Nat) (dd : Option Addr) (sl : Array (Option Value)) (u : Tok) :
    Meets (Builtin.«tuple.__mul__» ⟨[.ref l, .int 1 u], []⟩) (fun _ R s => s.heap.get? l = some { cls := .type "tuple", dict := dd, data := .seq #[w] n, slots := sl } ∧ R (.ok (.ret (Value.ref l))) s) :=
  .of_wp fun prog wd A R s h => by
    obtain ⟨hp, g, d, tk, os⟩ := s
    obtain ⟨hl, h⟩ := h
    have f1 := AutoSeq1.idx_int
    wp_walk using AutoSeq1.wpAny_loadPart' hl
    exact ⟨_, rfl, h⟩
theorem tmul_none (l : Addr) (w : Value) (n : Nat) (dd : Option Addr) (sl : Array (Option Value)) (k : Int) (u : Tok) (h0 : -1000000 ≤ k) (h1 : k ≤ 0) :
    Meets (Builtin.«tuple.__mul__» ⟨[.ref l, .int k u], []⟩) (fun _ R s => s.heap.get? l = some { cls := .type "tuple", dict := dd, data := .seq #[w] n, slots := sl } ∧
      R (.ok (.ret (Value.ref s.heap.objs.size))) { s with heap := s.heap.push { cls := .type "tuple", data := .seq #[] } }) :=
  .of_wp fun prog wd A R s h => by
    obtain ⟨hp, g, d, tk, os⟩ := s
    obtain ⟨hl, h⟩ := h
    have f1 := AutoSeq1.idx_int
    have c0 : (decide (k < -(2 ^ 63)) || decide (k ≥ 2 ^ 63)) = false := by
      rw [decide_eq_false (by omega), decide_eq_false (by omega)]
      rfl
    have c1 : ((#[w] : Array Value).isEmpty || k == 1) = false := by
      show (false || k == 1) = false
      rw [Bool.false_or]
      exact beq_eq_false_iff_ne.mpr (by omega)
    have c2 : (decide (k ≤ 0) || (#[w] : Array Value).isEmpty) = true := by
      rw [decide_eq_true h1]
      rfl
    wp_walk using AutoSeq1.wpAny_loadPart' hl
    repeat (first
      | (refine wpAny_ite_false (decide_eq_false (by rw [c0]; exact Bool.false_ne_true)) ?_; wp_walk using AutoSeq1.wpAny_loadPart' hl)
      | (refine wpAny_ite_false (decide_eq_false (by rw [c1]; exact Bool.false_ne_true)) ?_; wp_walk using AutoSeq1.wpAny_loadPart' hl)
      | (refine wpAny_ite_true (decide_eq_true (by rw [c2])) ?_; wp_walk using AutoSeq1.wpAny_loadPart' hl))
    exact ⟨_, rfl, h⟩
/-- (x,) * k, any k -/
def rRepS (K : PySem.W.Frag) : R2 := fun x y H Q => ∃ (l : Addr) (k : Int) (v : V), x = .ref l ∧ y = .int k ∧ SqT K H l [v] ∧ -1000000 ≤ k ∧ k ≤ 5000 ∧ ∀ (p : Addr) (H' : Hp), Same H H' → SqT K H' p (List.replicate k.toNat v) → Q (.ref p) H'
theorem op_repS : OpR X (binaryOp .Mult) (rRepS X.K) := by
  intro pins s σ H x y a u Q I rx ry h
  obtain ⟨l, k, v, rfl, rfl, hT, h1, h2, q⟩ := h
  by_cases c : 2 ≤ k
  · exact op_repB pins s σ H _ _ a u Q I rx ry ⟨l, k, v, rfl, rfl, hT, c, h2, fun p hp => q p _ (Same.new hp) (.of upd_same)⟩
  cases rx
  obtain ⟨t, rfl⟩ := ry
  obtain ⟨its, r, ⟨⟨cls, dd, data, sl⟩, ho, hc, n, hd⟩, hs⟩ := I.tuple hT
  simp only at hc hd
  subst hc hd
  obtain ⟨w, rfl⟩ : ∃ w, its = [w] := by
    cases r with
    | cons r1 r2 =>
      cases r2
      exact ⟨_, rfl⟩
  refine wpAny_binaryOp_repeat_ref (T := "tuple") (U := "int") (by decide) ⟨_, ho, rfl⟩ (fun s2 => typeIs_int s2 k t) noFill_tuple_mul F.fills_int_mul F.slot_int_rmul repeat_tuple F.slot_int_index.lookup ?_
  refine call_meets F.slot_int_rmul (typeIs_int s k t) F.entry_int_rmul (F.args_int_rmul_2 _ _) (int_rmul_tuple k t l _ n dd sl) ⟨ho, rfl, ⟨_, ho, rfl⟩, ?_⟩
  by_cases c1 : k = 1
  · subst c1
    refine call_meets F.slot_tuple_mul ⟨_, ho, rfl⟩ F.entry_tuple_mul (F.args_tuple_mul_2 _ _) (tmul_one l w n dd sl t) ⟨ho, ?_⟩
    exact ⟨.ref l, H, I, rfl, q l H (Same.refl H) hT⟩
  · have k0 : k ≤ 0 := by omega
    refine call_meets F.slot_tuple_mul ⟨_, ho, rfl⟩ F.entry_tuple_mul (F.args_tuple_mul_2 _ _) (tmul_none l w n dd sl k t h1 k0) ⟨ho, ?_⟩
    refine ⟨.ref s.heap.objs.size, _, I.laid (t' := s.toks) (o := .tup []) (fun b ob e => Heap.get?_push_of_some _ e) (Nat.le_refl _) ?_, rfl, q _ _ (Same.new (I.hok.fresh (Nat.le_refl _))) ?_⟩
    · exact ⟨Nat.zero_le _, [], .nil, IsTup.new _ _⟩
    · rw [show k.toNat = 0 by omega]
      exact .of upd_same
/-- t + u -/
def rCatS (K : PySem.W.Frag) : R2 := fun x y H Q => ∃ (a b : Addr) (xs ys : List V), x = .ref a ∧ y = .ref b ∧ SqT K H a xs ∧ SqT K H b ys ∧ xs.length + ys.length ≤ sizeLine ∧ ∀ (p : Addr) (H' : Hp), Same H H' → SqT K H' p (xs ++ ys) → Q (.ref p) H'
theorem op_catS : OpR X (binaryOp .Add) (rCatS X.K) := by
  intro pins s σ H x y v u Q I rx ry h
  obtain ⟨a, b, xs, ys, rfl, rfl, ha, hb, hz, q⟩ := h
  refine op_catA pins s σ H _ _ v u Q I rx ry ⟨a, b, xs, ys, rfl, rfl, ha, hb, hz, fun e => ?_, fun _ e => ?_, fun _ _ p hp => q p _ (Same.new hp) (.of upd_same)⟩
  · subst e
    exact q b H (Same.refl H) hb
  · subst e
    exact q a H (Same.refl H) (by rw [List.append_nil]; exact ha)
/-- t[lo:hi] -/
def rSlS (K : PySem.W.Frag) : V → Option Int → Option Int → Hp → VK → Prop := fun x lo hi H Q => ∃ (a : Addr) (xs : List V), x = .ref a ∧ SqT K H a xs ∧ ∀ (p : Addr) (H' : Hp), Same H H' → SqT K H' p (cutV xs lo hi) → Q (.ref p) H'
theorem sl_tupS : SlR X (rSlS X.K) := by
  intro pins s σ H x v vl vu lo hi sl Q I rx hs pl pu h
  obtain ⟨a, xs, rfl, hx, q⟩ := h
  refine sl_tupA pins s σ H _ v vl vu lo hi sl Q I rx hs pl pu ⟨a, xs, rfl, hx, fun e => q a H (Same.refl H) ?_, fun _ p hp => q p _ (Same.new hp) (.of upd_same)⟩
  have e2 : cutV xs lo hi = xs := by
    unfold cutV
    rw [e.1, e.2, List.drop_zero, Nat.sub_zero, List.take_length]
  rw [e2]
  exact hx
end
end SE
/-! A for in a generator's body; a generator def called with keywords. -/
namespace SE
open PySem PySem.Spec PyProof.Rows L2 GenW
section
variable {X : Cx}
def tGFor (wi : TI) (g : TG) (tb : TGn) : TGn := fun D ys σ H => wi σ H fun J H1 => ∃ W : Nat → Nat → List V → L2.St → Hp → Prop, (∃ m, W 0 m ys σ H1) ∧ ∀ i m ys σ H, W i m ys σ H →
  (J.stop i H ∧ D.nx ys σ H) ∨ (J.go i H ∧ ∃ N : List V → L2.St → Hp → Prop, (∀ zs σ2 H2, N zs σ2 H2 → ∃ j, j < m ∧ W (i + 1) j zs σ2 H2) ∧ ∀ x H2, J.yld i H x H2 → g x σ H2 fun σ3 H3 => tb { D with nx := N, ct := N, bk := D.nx } ys σ3 H3)
theorem gs_for {tg iter : Expr} {body : List Stmt} {pos : Pos} {wi : TI} {g : TG} {tb : TGn} (hp : PassesOwn (model X.prog X.w) X.A X.env X.xe) (hc : X.calm = true) (hi : PI X tg iter wi) (hg : PG X tg g) (hb : GSs X body tb)
    (hs : ∀ x, foldedSetIterable iter X.env x = pure x := by intro _; rfl) : GS X (.For tg iter body [] pos) (tGFor wi g tb) := by
  constructor
  intro A S ip R n ys s₀ c fs K J gd lv s σ H D gc hn k hI ht
  obtain ⟨acc, cc, r, I⟩ := hI
  rw [exec_For]
  refine seg_bind_wrap (wpAny_standAt ?_)
  refine seg_bind_wrap ?_
  rw [gc.over]
  refine wpAny_mono (hi.run _ s σ H _ I ht) (fun v s1 h1 => ?_) fun x s2 hx => k.exc n s₀ x s2 hx
  refine seg_bind_wrap (wpAny_of_eq (hs v) ?_)
  refine seg_bind_wrap (wpAny_standAt ?_)
  refine seg_bind_wrap (wpAny_holding ?_)
  rw [gc.over]
  refine wpAny_mono h1 (fun itv s2 h2 => ?_) fun x s3 hx => k.exc n s₀ x s3 hx
  obtain ⟨it, fp, tn, Jt, H2, e2, I2, T, st2, f2, W, ⟨m0, w0⟩, turn⟩ := h2
  subst e2
  refine seg_call fun p => ?_
  have gl := fun (kk : Result → Sem PySem.Fin) => gc_loop (X := X) (k := kk) (c' := .forLoop tg (.ref it) body [] X.env) (l := lv []) (kp := []) (p := p) gc rfl rfl
  have apart : ∀ b ∈ fp, b ≠ S := fun b hb z => by
    obtain ⟨_, _, _, _, _, q⟩ := f2 b hb
    exact q (S, lstObj acc cc) (List.mem_append_right _ List.mem_cons_self) z.symm
  have fpok : ∀ {acc2 : Array Value} {c2 : Nat} {H3 : Hp}, (∀ b ∈ fp, H3 b = none) → ∀ b ∈ fp, FpOk X ((S, lstObj acc2 c2) :: ip) H3 b := by
    intro acc2 c2 H3 hn3 b hb
    obtain ⟨_, a2, a3, a4, a5, a6⟩ := f2 b hb
    refine ⟨hn3 b hb, a2, a3, a4, a5, fun q hq => ?_⟩
    rcases List.mem_append.mp hq with z | z
    · exact a6 q (List.mem_append_left _ z)
    · rcases List.mem_cons.mp z with y | y
      · rw [y]
        exact Ne.symm (apart b hb)
      · exact a6 q (List.mem_append_right _ (List.mem_cons_of_mem _ y))
  have loop : ∀ (m n i : Nat) (ys : List V) (s₀ s : Shared) (σ : L2.St) (H : Hp), n + ys.length = sizeLine → W i m ys σ H → GI X S ip ys σ H s → tn i s.heap → (∀ b ∈ fp, H b = none) →
      Seg (model X.prog X.w) A R (GY X S) n s₀ (.forLoop tg (.ref it) body [] X.env) ((model X.prog X.w).den (.forLoop tg (.ref it) body [] X.env))
        (.ret (fun r => ((match r with | .ok f => (.pure f : Sem Flow) | .error e => .raise e).onRaise (cameBack X.env)).wrap K J gd lv) none (gd false) (lv []) c p [] :: fs) s := by
    intro m
    induction m using Nat.strongRecOn with
    | ind m ih =>
      intro n i ys s₀ s σ H hn w hI st fr
      have ee : ∀ (n : Nat) (s₀ : Shared) (x : Value) (s4 : Shared), X.xe x s4 → Seg (model X.prog X.w) A R (GY X S) n s₀ (.forLoop tg (.ref it) body [] X.env)
          ((do noteFrame x X.env; theTreesLotGoes x : Sem Unit).bind fun _ => .raise x)
          (.ret (fun r => ((match r with | .ok f => (.pure f : Sem Flow) | .error e => .raise e).onRaise (cameBack X.env)).wrap K J gd lv) none (gd false) (lv []) c p [] :: fs) s4 := fun n s₀ x s4 hx => by
        rw [Sem.bind_eq_wrap]
        refine seg_wrap ?_
        rw [(gl _).over]
        refine wpAny_bind (wpAny_mono (hp x s4 hx) (fun _ s5 hcb => wpAny_theTreesLotGoes ?_) fun y s5 hcb => ?_)
        · exact seg_leaf (.error x) (seg_cameBack gc k hcb)
        · exact seg_leaf (.error y) (seg_cameBack gc k hcb)
      show Seg _ A R _ n s₀ _ ((forTurn tg (.ref it) body [] X.env).onRaise (fun x => do noteFrame x X.env; theTreesLotGoes x)) _ s
      unfold forTurn
      rw [Sem.onRaise_eq_wrap]
      refine seg_bind_wrap (wpAny_standAt ?_)
      refine seg_bind_wrap ?_
      rw [(gl _).over]
      obtain ⟨acc3, c3, r3, I3⟩ := hI
      rcases turn i m ys σ H w with ⟨stop, qn⟩ | ⟨go, N, hN, step⟩
      · refine wpAny_onRaise (wpAny_mono (T.done X rfl rfl rfl hc i _ s σ H X.xe I3 (fpok fr) st stop) (fun rr s4 hh => ?_) fun x s4 hx => wpAny_standAt (ee n s₀ x s4 hx))
        obtain ⟨hr, I4⟩ := hh
        subst hr
        refine seg_again rfl ?_
        show Seg _ A R _ n s₀ _ (do return Fin.done (← (execs [] X.env).onRaise (fun x => do noteFrame x X.env; theTreesLotGoes x))) _ s4
        exact seg_leaf (.ok .next) (k.ok n ys s₀ s4 .next hn ⟨σ, H, ⟨acc3, c3, r3, I4⟩, qn⟩)
      · refine wpAny_onRaise (wpAny_mono (T.item X rfl rfl rfl hc i _ s σ H X.xe I3 (fpok fr) st go) (fun rr s4 hh => ?_) fun x s4 hx => wpAny_standAt (ee n s₀ x s4 hx))
        obtain ⟨u, hr, h4⟩ := hh
        subst hr
        refine seg_bind_wrap ?_
        rw [(gl _).over]
        refine wpAny_mono h4 (fun _ s5 hh => ?_) fun x s5 hx => ee n s₀ x s5 hx
        obtain ⟨x, H5, I5, r5, y5, st5, fr5⟩ := hh
        have I6 := I5.pinned (fpok fr5) (T.obj _ _ st5)
        refine seg_bind_wrap ?_
        rw [(gl _).over]
        refine wpAny_mono (hg.run _ s5 σ H5 x u _ I6 r5 (step x H5 y5)) (fun _ s6 hh => ?_) fun x s6 hx => ee n s₀ x s6 hx
        obtain ⟨σ6, H6, I7, q6⟩ := hh
        have gb : GC X S (ip ++ pinsAt fp s5.heap) A (.forLoop tg (.ref it) body [] X.env) (.ret (fun r => ((match r with | .ok f => (.pure f : Sem Flow) | .error e => .raise e).onRaise (cameBack X.env)).wrap K J gd lv) none (gd false) (lv []) c p [] :: fs) id := by
          have q := gl (fun r => ((match r with | .ok f => (.pure f : Sem Flow) | .error e => .raise e).onRaise (cameBack X.env)).wrap K J gd lv)
          refine ⟨q.pn, fun z hz => ?_, q.apart, q.over, q.split, q.guard, q.gd⟩
          rcases List.mem_append.mp hz with y | y
          · exact q.ip z y
          · exact apart z.1 (of_pinsAt y).1
        rw [Sem.bind_eq_wrap', Sem.wrap_wrap]
        refine hb.run A S (ip ++ pinsAt fp s5.heap) R n ys s₀ _ _ _ _ id id s6 σ6 H6 { D with nx := N, ct := N, bk := D.nx } gb hn ⟨fun n2 zs s7 s8 f hn2 hs8 => ?_, fun n2 s7 x s8 hx => ee n2 s7 x s8 hx⟩ ⟨acc3, c3, r3, I7⟩ q6
        have again : ∀ {σ8 : L2.St} {H8 : Hp}, GI X S (ip ++ pinsAt fp s5.heap) zs σ8 H8 s8 → N zs σ8 H8 → Seg (model X.prog X.w) A R (GY X S) n2 s7 (.forLoop tg (.ref it) body [] X.env) ((model X.prog X.w).den (.forLoop tg (.ref it) body [] X.env))
            (.ret (fun r => ((match r with | .ok f => (.pure f : Sem Flow) | .error e => .raise e).onRaise (cameBack X.env)).wrap K J gd lv) none (gd false) (lv []) c p [] :: fs) s8 := by
          intro σ8 H8 G8 n8
          obtain ⟨j, hj, w8⟩ := hN zs σ8 H8 n8
          obtain ⟨acc8, c8, r8, I8⟩ := G8
          have pin8 : ∀ b ∈ fp, ∀ o, s5.heap.get? b = some o → s8.heap.get? b = some o ∧ H8 b = none := fun b hb o e => by
            have q := I8.pin (b, o) (List.mem_append_right _ (List.mem_cons_of_mem _ (List.mem_append_right _ (mem_pinsAt hb e))))
            exact ⟨q.1, q.2.1⟩
          refine ih j hj n2 (i + 1) zs s7 s8 σ8 H8 hn2 w8 ⟨acc8, c8, r8, I8.pins_of fun q hq => I8.pin q (List.mem_append_right _ ?_)⟩ (T.keep _ _ _ st5 fun b hb o e => (pin8 b hb o e).1) fun b hb => ?_
          · rcases List.mem_cons.mp hq with y | y
            · rw [y]
              exact List.mem_cons_self
            · exact List.mem_cons_of_mem _ (List.mem_append_left _ y)
          · obtain ⟨o, e, _⟩ := T.obj _ _ st5 b hb
            exact (pin8 b hb o e).2
        have thin : ∀ {σ8 : L2.St} {H8 : Hp}, GI X S (ip ++ pinsAt fp s5.heap) zs σ8 H8 s8 → GI X S ip zs σ8 H8 s8 := by
          intro σ8 H8 G8
          obtain ⟨acc8, c8, r8, I8⟩ := G8
          refine ⟨acc8, c8, r8, I8.pins_of fun q hq => I8.pin q (List.mem_append_right _ ?_)⟩
          rcases List.mem_cons.mp hq with y | y
          · rw [y]
            exact List.mem_cons_self
          · exact List.mem_cons_of_mem _ (List.mem_append_left _ y)
        cases f with
        | next =>
          obtain ⟨σ8, H8, G8, n8⟩ := hs8
          exact seg_again rfl (again G8 n8)
        | cont =>
          obtain ⟨σ8, H8, G8, n8⟩ := hs8
          exact seg_again rfl (again G8 n8)
        | brk =>
          obtain ⟨σ8, H8, G8, n8⟩ := hs8
          exact seg_leaf (.ok .next) (k.ok n2 zs s7 s8 .next hn2 ⟨σ8, H8, thin G8, n8⟩)
        | ret v =>
          obtain ⟨x8, σ8, H8, G8, r8, n8⟩ := hs8
          exact seg_leaf (.ok (.ret v)) (k.ok n2 zs s7 s8 (.ret v) hn2 ⟨x8, σ8, H8, thin G8, r8, n8⟩)
  exact loop m0 n 0 ys s₀ s2 σ H2 hn w0 ⟨acc, cc, r, I2⟩ st2 fun b hb => (f2 b hb).1
end
end SE
/-! Calls by keywords. -/
namespace SE
open PySem PySem.Spec PyProof.Rows L2 GenW
section
variable {K : PySem.W.Frag} {x qual : Str} {params : Arguments} {body : List Stmt} {scope : Scope} {kws : List (Str × V)} {f : Addr} {fd : FuncData} {ps : List Str}
/-- keyword-only defaults alone; ms: those that lack -/
theorem kb_some (F : FunD K x qual params body scope [] kws f fd) (n : Nat) (ks : List Str) (ms : List (Str × V)) (g : {α : Type} → List α → List α → List α → List α) (hk : kws ≠ []) (hms : ∀ q ∈ ms, q ∈ kws)
    (hrel : ∀ {vs mz zs : List V} {us mv ws : List Value}, Vals vs us → Vals mz mv → Vals zs ws → Vals (g vs mz zs) (g us mv ws))
    (h : ∀ (D : Addr) (doc pm : Value) (an : Option Addr) (cv ct : Value) (us mv ws : List Value), us.length = n → mv.length = ms.length → ws.length = ks.length →
      KwChain D ((ms.map (·.1)).zip mv) (bindArgs (PySem.W.fnOf x qual params body scope .none (.ref D) doc pm an cv ct) ⟨us, ks.zip ws⟩) (ps.zip (g us mv ws))) :
    ∃ mv : List Value, KBn K fd ps n ks (fun us ws => g us mv ws) (fun vs zs => g vs (ms.map (·.2)) zs) := by
  obtain ⟨oc, od, dV, kV, doc, pm, an, cv, ct, osl, rfl, look, hc, hD, hK⟩ := F.ex
  rcases hD with ⟨_, rfl⟩ | ⟨e, _⟩
  · rcases hK with e | ⟨D, rfl, hq⟩
    · exact absurd e hk
    · obtain ⟨mv, hl, rk, hks⟩ := kwd_vals (ms := ms) fun q hm => hq q (hms q hm)
      exact ⟨mv, fun s us ws X l1 l2 => BindsTo.of_looks fun M => KwChain.looks X hks (h D doc pm an cv ct us mv ws l1 hl l2), fun r1 r2 => hrel r1 rk r2⟩
  · exact absurd rfl e
theorem kb_all {st : Stmt} (F : Fun K x qual st f fd) (n : Nat) (ks : List Str) (g : {α : Type} → List α → List α → List α)
    (hrel : ∀ {vs zs : List V} {us ws : List Value}, Vals vs us → Vals zs ws → Vals (g vs zs) (g us ws))
    (h : ∀ (kV doc pm : Value) (an : Option Addr) (cv ct : Value) (us ws : List Value), us.length = n → ws.length = ks.length → bindArgs (PySem.W.fnOf x qual (defArgs st) (defBody st) (defScope st) .none kV doc pm an cv ct) ⟨us, ks.zip ws⟩ = pure (ps.zip (g us ws))) :
    KBn K fd ps n ks (fun us ws => g us ws) (fun vs zs => g vs zs) := by
  obtain ⟨oc, od, kV, doc, pm, an, cv, ct, osl, rfl, look, hc⟩ := F.ex
  exact ⟨fun s us ws X l1 l2 => .of_eq (h kV doc pm an cv ct us ws l1 l2), fun r1 r2 => hrel r1 r2⟩
end
section
variable {X : Cx} {k n : Nat} {f : Addr} {fd : FuncData} {ps ks : List Str} {sp : Sp} {E : XK} {x : Str} {p pos : Pos} {e : Expr} {es : List Expr} {kws : List Keyword} {t tk : TA} {g : List Value → List Value → List Value} {gV : List V → List V → List V}
/-- f(k = v, ..) -/
theorem pe_kw0 (F : FnOk X.prog X.w X.K X.mg X.base CX0 k f fd ps sp) (hr : Room k X.A) (hg : Gl X x) (hm : X.mg x = some (.ref f)) (hk : PySem.W.keepIn X.K (.ref f) = true) (hb : KBn X.K fd ps 0 ks g gV)
    (hkw : PK X kws tk) (hall : (backToKw pos (keywordEach kws X.env)).all (·.1.isSome) = true := by rfl) (hks : (backToKw pos (keywordEach kws X.env)).filterMap (·.1) = ks := by rfl)
    (hdb : (x == ("__debug__" : Str)) = false := by decide) (hpl : ((backTo pos (starEach [] X.env)).any (·.1) || (backToKw pos (keywordEach kws X.env)).any (·.1.isNone)) = false := by rfl) :
    PE X (.Call (.Name x p) [] kws pos) (tCallN 0 ks.length sp gV E0 tNil tk) := by
  constructor
  intro pins s σ H Q I h
  apply wpAny_Call_Name_kw
  apply ld_glob I hg hm _ hdb
  refine PySem.W.callWith_KW0 (h₀ := X.base) I.ok.mod.kin hk hall (thn (hkw.run pos pins s σ H _ I h) fun ws s2 hh => ?_) hpl
  obtain ⟨zs, H2, I2, rz, l1, l2, q2⟩ := hh
  refine ⟨I2.kIn, ?_⟩
  rw [hks]
  exact run_fnN F hr hb pass0 I2 .nil rz l1 l2 q2
/-! ### generators -/
variable {sg : SpG}
theorem run_gkw {pins : List (Addr × Obj)} {σ : L2.St} {H : Hp} {s : Shared} {us ws : List Value} {vs zs : List V} {cont : List V → Hp → Prop} {E1 : Value → Shared → Prop} (F : GFn X.prog X.w X.K X.mg X.base k f fd ps sg) (hr : Room k X.A) (hb : KBn X.K fd ps n ks g gV)
    (I : Inv X pins σ H s) (r : Vals vs us) (rz : Vals zs ws) (l1 : vs.length = n) (l2 : zs.length = ks.length) (h : sg (gV vs zs) H cont E) :
    wpAny (model X.prog X.w) X.A (call (.ref f) us (ks.zip ws)) (fun u s2 => ∃ H1 sc ex, Inv X pins σ H1 sc ∧ ExOk X pins ex ∧ GMade X.prog X.w k X.stack H1 sc ex cont E u s2) E1 s := by
  have r2 := hb.rel r rz
  refine wpAny_call (codeAny_mono (F.run X.A X.stack s H ⟨us, ks.zip ws⟩ (g us ws) (gV vs zs) cont E hr I.env0 (hb.to s us ws I.kIn (r.length.symm.trans l1) (rz.length.symm.trans l2)) r2 h) fun rr s2 hq => ?_)
  cases rr with
  | error _ => exact hq.elim
  | ok fl =>
    cases fl with
    | ret u => exact ⟨H, s, [], I, .nil, hq⟩
    | next => exact hq.elim
    | brk => exact hq.elim
    | cont => exact hq.elim
def tGenN (n m : Nat) (sg : SpG) (gV : List V → List V → List V) (E : XK) (t tk : TA) : TGen := fun σ H cont => t σ H fun vs H1 => tk σ H1 fun zs H2 => vs.length = n ∧ zs.length = m ∧ sg (gV vs zs) H2 cont E
theorem pgen_kw (F : GFn X.prog X.w X.K X.mg X.base k f fd ps sg) (hr : Room k X.A) (hg : Gl X x) (hm : X.mg x = some (.ref f)) (hk : PySem.W.keepIn X.K (.ref f) = true) (hb : KBn X.K fd ps n ks g gV)
    (ha : PA X (e :: es) t) (hkw : PK X kws tk) (hall : (backToKw pos (keywordEach kws X.env)).all (·.1.isSome) = true := by rfl) (hks : (backToKw pos (keywordEach kws X.env)).filterMap (·.1) = ks := by rfl)
    (hdb : (x == ("__debug__" : Str)) = false := by decide) (he : starEach (e :: es) X.env = (false, eval e X.env) :: starEach es X.env := by rfl)
    (hpl : ((backTo pos (starEach (e :: es) X.env)).any (·.1) || (backToKw pos (keywordEach kws X.env)).any (·.1.isNone)) = false := by rfl) :
    PGen X k (.Call (.Name x p) (e :: es) kws pos) (tGenN n ks.length sg gV E t tk) E := by
  constructor
  intro pins s σ H cont I h
  apply wpAny_Call_Name_kw
  apply ld_glob I hg hm _ hdb
  refine PySem.W.callWith_KW (h₀ := X.base) I.ok.mod.kin hk hall (thn (ha.run pos pins s σ H _ I h) fun us s1 hh => ?_) hpl he
  obtain ⟨vs, H1, I1, r, q⟩ := hh
  refine thn (hkw.run pos pins s1 σ H1 _ I1 q) fun ws s2 hh => ?_
  obtain ⟨zs, H2, I2, rz, l1, l2, q2⟩ := hh
  refine ⟨I2.kIn, ?_⟩
  rw [hks]
  exact run_gkw F hr hb I2 r rz l1 l2 q2
theorem pgen_kw0 (F : GFn X.prog X.w X.K X.mg X.base k f fd ps sg) (hr : Room k X.A) (hg : Gl X x) (hm : X.mg x = some (.ref f)) (hk : PySem.W.keepIn X.K (.ref f) = true) (hb : KBn X.K fd ps 0 ks g gV)
    (hkw : PK X kws tk) (hall : (backToKw pos (keywordEach kws X.env)).all (·.1.isSome) = true := by rfl) (hks : (backToKw pos (keywordEach kws X.env)).filterMap (·.1) = ks := by rfl)
    (hdb : (x == ("__debug__" : Str)) = false := by decide) (hpl : ((backTo pos (starEach [] X.env)).any (·.1) || (backToKw pos (keywordEach kws X.env)).any (·.1.isNone)) = false := by rfl) :
    PGen X k (.Call (.Name x p) [] kws pos) (tGenN 0 ks.length sg gV E tNil tk) E := by
  constructor
  intro pins s σ H cont I h
  apply wpAny_Call_Name_kw
  apply ld_glob I hg hm _ hdb
  refine PySem.W.callWith_KW0 (h₀ := X.base) I.ok.mod.kin hk hall (thn (hkw.run pos pins s σ H _ I h) fun ws s2 hh => ?_) hpl
  obtain ⟨zs, H2, I2, rz, l1, l2, q2⟩ := hh
  refine ⟨I2.kIn, ?_⟩
  rw [hks]
  exact run_gkw F hr hb I2 .nil rz l1 l2 q2
/-- nothing is raised by a generator that raises nothing -/
theorem pass_gen : Passes (CX X.prog X.w) X E0 := by
  intro pins σ H s e s2 I h
  obtain ⟨a, B, H2, cls, d, _, _, _, _, _, _, _, q⟩ := h
  exact q.elim
theorem nostop0 {K : PySem.W.Frag} : NoStop K E0 := fun _ _ _ h => h.elim
end
end SE
namespace SE
open PySem PySem.Spec PyProof.Rows L2
/-! ### rules: a class held by a local name, called; a classmethod called with nothing -/
section
variable {X : Cx} {CX : CXT} {k i : Nat} {f C p g : Addr} {mc : Value} {fd : FuncData} {ps : List Str} {sp : Sp} {dvs : List V} {ds : List Value} {E : XK} {x m : Str} {pn pos apos : Pos} {o e : Expr} {es : List Expr} {ta : TE} {t : TA} {pl : Sem Bool}
def tMakeL (i : Nat) (C : Addr) (sp : Sp) (dvs : List V) (E : XK) (t : TA) : TE := fun σ H Q => σ[i]? = some (some (.ref C)) ∧ tMake C sp dvs E t σ H Q
theorem pe_makeL (M : Mk X.K C f) (F : FnOk X.prog X.w X.K X.mg X.base CX k f fd ps sp) (hr : Room (k + 1) X.A) (hN : X.N[i]? = some x) (hv : Vis X.env.scope x) (hb : Binds X.K fd ps ds) (hd : Vals dvs ds) (hx : Passes CX X E)
    (ha : PA X (e :: es) t) (hdb : (x == ("__debug__" : Str)) = false := by decide) (hcd : (x == ("__classdict__" : Str)) = false := by decide)
    (he : starEach (e :: es) X.env = (false, eval e X.env) :: starEach es X.env := by rfl) (hpl : (backTo pos (starEach es X.env)).any (·.1) = false := by rfl) :
    PE X (.Call (.Name x pn) (e :: es) [] pos) (tMakeL i C sp dvs E t) := by
  constructor
  intro pins s σ H Q I h
  obtain ⟨hs, ht⟩ := h
  refine wpAny_Call_Name_kw (thn ((pe_var (pos := pn) hN hv hdb hcd).run pins s σ H (fun v H1 => v = .ref C ∧ H1 = H) I ⟨.ref C, hs, rfl, rfl⟩) fun u s1 hh => ?_)
  obtain ⟨v, H1, I1, r1, rfl, rfl⟩ := hh
  cases r1
  refine PySem.W.callWith_K (h₀ := X.base) I.ok.mod.kin M.kp (thn (ha.run pos pins s1 σ _ _ I1 ht) fun us s2 hh => ?_) he hpl
  obtain ⟨vs, H2, I2, r, q⟩ := hh
  exact ⟨I2.kIn, run_make M F hr hb hd hx I2 r q⟩
/-- C.m() -/
def tCMeth0 (C : Addr) (sp : Sp) (E : XK) (ta : TE) : TE := fun σ H Q => ta σ H fun x H1 => x = .ref C ∧ sp [.ref C] H1 Q E
theorem pe_cmeth0 (he : PE X o ta) (r : ClX.CRead X.K C mc) (c : ClX.CMet X.K C mc m p g) (F : FnR X.prog X.w X.K X.mg X.base CX k g sp) (hr : Room k X.A) (hx : Passes CX X E)
    (ht : eval (.Call (.Attribute o m apos) [] [] pos) X.env = (do
      let v ← eval o X.env
      standAt apos.atName
      let (f, first) ← holding [v] (getMethod v m pl)
      callWith pos f first (backTo pos (starEach [] X.env)) (backToKw pos (keywordEach [] X.env))) := by rfl) :
    PE X (.Call (.Attribute o m apos) [] [] pos) (tCMeth0 C sp E ta) := by
  constructor
  intro pins s σ H Q I h
  refine PySem.W.methodCall_KW (pl := pl) (thn (he.run pins s σ H _ I h) fun u s1 hh => ?_) ht
  obtain ⟨v, H1, I1, rx, ex, q⟩ := hh
  subst ex
  obtain rfl : u = Value.ref C := rx
  refine ClX.getmethcm_ok I1 r c fun s2 I2 => ?_
  exact PySem.W.callWith_M0 ⟨ClX.pin_at I2, I2.kIn⟩ c.fi (ClX.run_cm (us := []) (vs := []) F hr hx I2 .nil q)
end
end SE
namespace SE
open PySem PySem.Spec PyProof.Rows L2
/-! ### the class Effect -/
abbrev sInit : Stmt := inClass sEffect 0
abbrev sNever : Stmt := inClass sEffect 2
abbrev sPops : Stmt := inClass sEffect 4
abbrev sPushes : Stmt := inClass sEffect 5
abbrev sPeak : Stmt := inClass sEffect 6
abbrev sChange : Stmt := inClass sEffect 7
abbrev sIsNever : Stmt := inClass sEffect 8
def eF (a b c : V) : List (Str × V) := [("needs", a), ("leaves", b), ("highest", c)]
theorem eF_new (a b c : V) : putF "highest" c (putF "leaves" b (putF "needs" a [])) = eF a b c := by
  have h1 : ¬ (("needs" : Str) = "leaves") := by decide +kernel
  have h2 : ¬ (("needs" : Str) = "highest") := by decide +kernel
  have h3 : ¬ (("leaves" : Str) = "highest") := by decide +kernel
  simp only [putF, h1, h2, h3, if_false]
  rfl
theorem eF_two (a b : V) : (putF "leaves" b (putF "needs" a [])).length < 1000 := by
  have h1 : ¬ (("needs" : Str) = "leaves") := by decide +kernel
  simp only [putF, h1, if_false]
  show 2 < 1000
  decide
theorem eF_n (x a b c : V) : putF "needs" x (eF a b c) = eF x b c := by
  unfold eF
  simp only [putF, if_true]
theorem eF_l (x a b c : V) : putF "leaves" x (eF a b c) = eF a x c := by
  have h1 : ¬ (("needs" : Str) = "leaves") := by decide +kernel
  unfold eF
  simp only [putF, h1, if_false, if_true]
theorem eF_h (x a b c : V) : putF "highest" x (eF a b c) = eF a b x := by
  have h2 : ¬ (("needs" : Str) = "highest") := by decide +kernel
  have h3 : ¬ (("leaves" : Str) = "highest") := by decide +kernel
  unfold eF
  simp only [putF, h2, h3, if_false, if_true]
theorem eF_needs (a b c : V) : (eF a b c).lookup ("needs" : Str) = some a := by
  rw [← eF_new, lookup_putF, if_neg (by decide +kernel), lookup_putF, if_neg (by decide +kernel), lookup_putF, if_pos rfl]
theorem eF_leaves (a b c : V) : (eF a b c).lookup ("leaves" : Str) = some b := by
  rw [← eF_new, lookup_putF, if_neg (by decide +kernel), lookup_putF, if_pos rfl]
theorem eF_high (a b c : V) : (eF a b c).lookup ("highest" : Str) = some c := by
  rw [← eF_new, lookup_putF, if_pos rfl]
/-- an effect that is not never -/
structure EffAt (K : PySem.W.Frag) (C : Addr) (H : Hp) (e : Addr) (xs ys : List Str) (p : Int) : Prop where
  ex : ∃ dx u v, H e = some (.ins C dx (eF (.ref u) (.ref v) (.int p))) ∧ SqT K H u (xs.map V.str) ∧ SqT K H v (ys.map V.str)
theorem EffAt.same {K : PySem.W.Frag} {C : Addr} {H H' : Hp} {e : Addr} {xs ys : List Str} {p : Int} (h : EffAt K C H e xs ys p) (s : Same H H') : EffAt K C H' e xs ys p := by
  obtain ⟨dx, u, v, h1, h2, h3⟩ := h.ex
  exact ⟨dx, u, v, s _ _ h1, Same.tup s h2, Same.tup s h3⟩
structure NevAt (C : Addr) (H : Hp) (e : Addr) : Prop where
  ex : ∃ dx, H e = some (.ins C dx (eF .non .non .non))
theorem NevAt.same {C : Addr} {H H' : Hp} {e : Addr} (h : NevAt C H e) (s : Same H H') : NevAt C H' e := by
  obtain ⟨dx, h1⟩ := h.ex
  exact ⟨dx, s _ _ h1⟩
/-- the least peak -/
def lp (xs ys : List Str) : Int := if (ys.length : Int) - (xs.length : Int) > 0 then (ys.length : Int) - (xs.length : Int) else 0
def pkV : Option Int → V
  | none => .non
  | some p => .int p
structure EC (K : PySem.W.Frag) (mg : Str → Option Value) (C : Addr) : Prop where
  cl : Cls K C
  nN : NoAttr K C "needs"
  nL : NoAttr K C "leaves"
  nH : NoAttr K C "highest"
  mgE : mg "Effect" = some (.ref C)
section
variable {P : Program} {w : World} {K : PySem.W.Frag} {mg : Str → Option Value} {base : Heap} {C : Addr}
def spLeast (K : PySem.W.Frag) : Sp := fun vs H Q _ => ∃ (a b : Addr) (xs ys : List Str), vs = [.ref a, .ref b] ∧ SqT K H a (xs.map V.str) ∧ SqT K H b (ys.map V.str) ∧ Q (.int (lp xs ys)) H
theorem scLe : FnScope ["pops", "pushes"] ["pops", "pushes"] (defScope sLeastPeak) := ⟨rfl, rfl, rfl, by decide +kernel, rfl, by decide +kernel, by decide +kernel⟩
theorem has_least (D : Def K mg "least_peak" sLeastPeak) (B : Blt mg) (mx : mg "max" = none) : Has P w K mg base "least_peak" 1 ["pops", "pushes"] [] (spLeast K) := by
  refine has_of D scLe (fun _ _ _ _ _ _ us hl => match us, hl with | [_, _], _ => rfl) (fun xs H Q E h => ?_) (fun f cv A out s H xs Q E hr h => ?_)
  · obtain ⟨a, b, xs, ys, rfl, _⟩ := h
    rfl
  · obtain ⟨a, b, xs, ys, rfl, ha, hb, k⟩ := h
    refine ⟨_, pss_one (ps_ret (pe_callB (call_max2 rfl) (by rfl) mx (by decide +kernel) (pa_cons pe_int (pa_cons (pe_op op_sub (pe_callB call_len_seq (by rfl) B.len PySem.boot_len (pa_cons (pv 1) pa_nil)) (pe_callB call_len_seq (by rfl) B.len PySem.boot_len (pa_cons (pv 0) pa_nil))) pa_nil)))), ?_⟩
    refine ⟨_, rfl, b, _, rfl, .inr hb, _, rfl, a, _, rfl, .inr ha, _, _, rfl, rfl, 0, _, rfl, ?_⟩
    rw [List.length_map, List.length_map]
    exact k
def spInit (K : PySem.W.Frag) (C : Addr) : Sp := fun vs H Q _ => ∃ (x dx a b : Addr) (xs ys : List Str) (pk : Option Int), vs = [.ref x, .ref a, .ref b, pkV pk] ∧ H x = some (.ins C dx []) ∧ SqT K H a (xs.map V.str) ∧ SqT K H b (ys.map V.str) ∧
  xs.length ≤ 5000 ∧ ys.length ≤ 5000 ∧ (∀ z ∈ xs, Item z) ∧ (∀ z ∈ ys, Item z) ∧ (∀ p, pk = some p → lp xs ys ≤ p) ∧
  ∀ H', (∀ b o, H b = some o → b ≠ x → H' b = some o) → H' x = some (.ins C dx (eF (.ref a) (.ref b) (.int (pk.getD (lp xs ys))))) → Q .non H'
abbrev pInit : List Str := ["self", "pops", "pushes", "peak"]
theorem scIn : FnScope ["self", "pops", "pushes", "peak", "least"] pInit (defScope sInit) := ⟨rfl, rfl, rfl, by decide +kernel, rfl, by decide +kernel, by decide +kernel⟩
theorem ok_init {f : Addr} {fd : FuncData} (F : Fun K "__init__" "Effect.__init__" sInit f fd) (T : EC K mg C) (GW : Has P w K mg base "check_word" 3 ["word"] [] (spChkWord K)) (GL : Has P w K mg base "least_peak" 1 ["pops", "pushes"] [] (spLeast K)) (GH : Has P w K mg base "is_whole" 1 ["value"] [] spWhole) :
    FnOk P w K mg base CX0 4 f fd pInit (spInit K C) := by
  refine F.ok scIn (fun vs H Q E h => ?_) (fun cdv A outer s H vs Q E hr h => ?_)
  · obtain ⟨x, dx, a, b, xs, ys, pk, rfl, _⟩ := h
    rfl
  · obtain ⟨x, dx, a, b, xs, ys, pk, rfl, hx, ha, hb, l1, l2, i1, i2, hp, k⟩ := h
    have hr1 : Room 1 _ := hr.mono (by decide)
    refine ⟨_, pss_cons (ps_expr (pe_has GW hr (pa_cons (pv 1) pa_nil))) (pss_cons (ps_expr (pe_has GW hr (pa_cons (pv 2) pa_nil)))
      (pss_cons (ps_set (i := 4) scIn.nd rfl (.inl rfl) (pe_has GL hr1 (pa_cons (pv 1) (pa_cons (pv 2) pa_nil))))
      (pss_cons (ps_if (pt_cut (PW.pt (pw_and (pt_cmpR op_notN (pv 3) pe_non (nomark _)) (pw_and1 (PW.pt (pw_or (pt_not (pt_val (pe_has GH hr1 (pa_cons (pv 3) pa_nil)))) (pw_or1 (pt_cmpR op_lt (pv 3) (pv 4) (nomark _))))))))) pss_never pss_nil)
      (pss_cons (ps_fld (pv 0) (pv 1) rfl) (pss_cons (ps_fld (pv 0) (pv 2) rfl)
      (pss_one (ps_fld (pv 0) (pe_ifExp (pt_cmpR op_isN (pv 3) pe_non (nomark _)) (pv 4) (pv 3)) rfl))))))), ?_⟩
    refine ⟨_, rfl, a, xs, rfl, ha, l1, i1, fun H1 s1 => ⟨_, rfl, b, ys, rfl, Same.tup s1 hb, l2, i2, fun H2 s2 => ?_⟩⟩
    have s12 := s1.trans s2
    refine ⟨_, rfl, _, rfl, a, b, xs, ys, rfl, Same.tup s12 ha, Same.tup s12 hb, ?_⟩
    refine ⟨fun c H3 => c = false ∧ H3 = H2, ?_, ?_⟩
    · cases pk with
      | none => exact ⟨_, rfl, rfl, false, rfl, iteF ⟨rfl, rfl⟩⟩
      | some p =>
        have hq := hp p rfl
        refine ⟨_, rfl, rfl, true, rfl, iteT ⟨_, rfl, p, rfl, true, rfl, iteF ⟨_, rfl, _, rfl, p, lp xs ys, rfl, rfl, _, rfl, ?_, rfl⟩⟩⟩
        exact decide_eq_false (by omega)
    rintro c H3 ⟨rfl, rfl⟩
    refine iteF ?_
    have hx3 := s12 _ _ hx
    have fin : ∀ z : V, z = .int (pk.getD (lp xs ys)) → Q .non (upd (upd (upd H3 x (.ins C dx (putF "needs" (.ref a) []))) x (.ins C dx (putF "leaves" (.ref b) (putF "needs" (.ref a) [])))) x (.ins C dx (putF "highest" z (putF "leaves" (.ref b) (putF "needs" (.ref a) []))))) := by
      intro z ez
      refine k _ (fun c o e ne => ?_) ?_
      · rw [upd_ne ne, upd_ne ne, upd_ne ne]
        exact s12 _ _ e
      · rw [upd_same, eF_new, ez]
    refine ⟨_, rfl, _, rfl, x, C, dx, [], rfl, hx3, T.cl, T.nN, (by show 0 < 1000; decide), _, rfl, _, rfl, x, C, dx, _, rfl, upd_same, T.cl, T.nL, (by show 1 < 1000; decide), ?_⟩
    cases pk with
    | none => exact ⟨_, rfl, rfl, true, rfl, iteT ⟨_, rfl, _, rfl, x, C, dx, _, rfl, upd_same, T.cl, T.nH, eF_two _ _, fin _ rfl⟩⟩
    | some p => exact ⟨_, rfl, rfl, false, rfl, iteF ⟨_, rfl, _, rfl, x, C, dx, _, rfl, upd_same, T.cl, T.nH, eF_two _ _, fin _ rfl⟩⟩
end
end SE
namespace SE
open PySem PySem.Spec PyProof.Rows L2
/-- a property of the class C with its promise -/
def PropHas (P : Program) (w : World) (K : PySem.W.Frag) (mg : Str → Option Value) (base : Heap) (C : Addr) (f : Str) (k : Nat) (sp : Sp) : Prop := ∃ p g fd, PropOf K C f p g ∧ FnOk P w K mg base CX0 k g fd ["self"] sp ∧ Binds K fd ["self"] []
theorem pe_propH {X : Cx} {C : Addr} {f : Str} {k : Nat} {sp : Sp} {e : Expr} {ta : TE} {pos : Pos} (h : PropHas X.prog X.w X.K X.mg X.base C f k sp) (he : PE X e ta) (c : Cls X.K C) (hr : Room (k + 1) X.A)
    (hab : attributeBase e f X.env (eval e X.env) = eval e X.env := by rfl) : PE X (.Attribute e f pos) (tProp C sp [] E0 ta) := by
  obtain ⟨p, g, fd, hp, F, hb⟩ := h
  exact pe_prop he c hp F hr hb .nil pass0 hab
section
variable {P : Program} {w : World} {K : PySem.W.Frag} {mg : Str → Option Value} {base : Heap} {C : Addr}
/-! ### properties -/
/-- of an effect that is not never: its parts -/
def spPops (K : PySem.W.Frag) (C : Addr) : Sp := fun vs H Q _ => ∃ (e : Addr) (xs ys : List Str) (p : Int), vs = [.ref e] ∧ EffAt K C H e xs ys p ∧ ∀ u, SqT K H u (xs.map V.str) → Q (.ref u) H
def spPush (K : PySem.W.Frag) (C : Addr) : Sp := fun vs H Q _ => ∃ (e : Addr) (xs ys : List Str) (p : Int), vs = [.ref e] ∧ EffAt K C H e xs ys p ∧ ∀ u, SqT K H u (ys.map V.str) → Q (.ref u) H
def spIsNev (K : PySem.W.Frag) (C : Addr) : Sp := fun vs H Q _ => ∃ (e : Addr), vs = [.ref e] ∧ ((∃ xs ys p, EffAt K C H e xs ys p ∧ Q (.bl false) H) ∨ (NevAt C H e ∧ Q (.bl true) H))
theorem scPo : FnScope ["self"] ["self"] (defScope sPops) := ⟨rfl, rfl, rfl, by decide +kernel, rfl, by decide +kernel, by decide +kernel⟩
theorem scPu : FnScope ["self"] ["self"] (defScope sPushes) := ⟨rfl, rfl, rfl, by decide +kernel, rfl, by decide +kernel, by decide +kernel⟩
theorem scNv : FnScope ["self"] ["self"] (defScope sIsNever) := ⟨rfl, rfl, rfl, by decide +kernel, rfl, by decide +kernel, by decide +kernel⟩
theorem ok_pops {f : Addr} {fd : FuncData} (F : Fun K "pops" "Effect.pops" sPops f fd) (T : EC K mg C) : FnOk P w K mg base CX0 1 f fd ["self"] (spPops K C) := by
  refine F.ok scPo (fun vs H Q E h => ?_) (fun cdv A outer s H vs Q E hr h => ?_)
  · obtain ⟨e, xs, ys, p, rfl, _⟩ := h
    rfl
  · obtain ⟨e, xs, ys, p, rfl, h, k⟩ := h
    obtain ⟨dx, u, v, h1, h2, h3⟩ := h.ex
    exact ⟨_, pss_one (ps_ret (pe_fld (pv 0) rfl)), _, rfl, e, C, dx, _, _, rfl, h1, T.cl, T.nN, eF_needs _ _ _, k u h2⟩
theorem ok_push {f : Addr} {fd : FuncData} (F : Fun K "pushes" "Effect.pushes" sPushes f fd) (T : EC K mg C) : FnOk P w K mg base CX0 1 f fd ["self"] (spPush K C) := by
  refine F.ok scPu (fun vs H Q E h => ?_) (fun cdv A outer s H vs Q E hr h => ?_)
  · obtain ⟨e, xs, ys, p, rfl, _⟩ := h
    rfl
  · obtain ⟨e, xs, ys, p, rfl, h, k⟩ := h
    obtain ⟨dx, u, v, h1, h2, h3⟩ := h.ex
    exact ⟨_, pss_one (ps_ret (pe_fld (pv 0) rfl)), _, rfl, e, C, dx, _, _, rfl, h1, T.cl, T.nL, eF_leaves _ _ _, k v h3⟩
/-! ### Effect(a, b), Effect.never() -/
/-- the class can be called -/
def Makes (P : Program) (w : World) (K : PySem.W.Frag) (mg : Str → Option Value) (base : Heap) (C : Addr) : Prop := ∃ f fd, Mk K C f ∧ FnOk P w K mg base CX0 4 f fd pInit (spInit K C) ∧ FunD K "__init__" "Effect.__init__" (defArgs sInit) (defBody sInit) (defScope sInit) [] [("peak", .non)] f fd
theorem Makes.two (h : Makes P w K mg base C) : ∃ f fd ds, Mk K C f ∧ FnOk P w K mg base CX0 4 f fd pInit (spInit K C) ∧ Vals [V.non] ds ∧ Binds K fd pInit ds := by
  obtain ⟨f, fd, M, F, FD⟩ := h
  obtain ⟨ds, hd, hb⟩ := FD.binds0 (ps := pInit) 3 (by simp) rfl (fun D doc pm an cv ct us ks h1 h2 => match us, ks, h1, h2 with | [_, _, _], [_], _, _ => ⟨_, _, _, _, _, _, rfl, rfl, rfl⟩)
  exact ⟨f, fd, ds, M, F, hd, hb⟩
/-- what Effect(a, b) asks -/
def tEff2 (K : PySem.W.Frag) (C : Addr) (t : TA) : TE := fun σ H Q => t σ H fun vs H1 => ∃ (a b : Addr) (xs ys : List Str), vs = [.ref a, .ref b] ∧ SqT K H1 a (xs.map V.str) ∧ SqT K H1 b (ys.map V.str) ∧ xs.length ≤ 5000 ∧ ys.length ≤ 5000 ∧ (∀ z ∈ xs, Item z) ∧ (∀ z ∈ ys, Item z) ∧
  ∀ (e : Addr) (H' : Hp), Same H1 H' → H1 e = none → EffAt K C H' e xs ys (lp xs ys) → Q (.ref e) H'
theorem make_imp {vs : List V} {H1 : Hp} {Q : VK} (h : ∃ (a b : Addr) (xs ys : List Str), vs = [.ref a, .ref b] ∧ SqT K H1 a (xs.map V.str) ∧ SqT K H1 b (ys.map V.str) ∧ xs.length ≤ 5000 ∧ ys.length ≤ 5000 ∧ (∀ z ∈ xs, Item z) ∧ (∀ z ∈ ys, Item z) ∧
    ∀ (e : Addr) (H' : Hp), Same H1 H' → H1 e = none → EffAt K C H' e xs ys (lp xs ys) → Q (.ref e) H') : ∀ x dx, H1 x = none → H1 dx = none → dx ≠ x →
    spInit K C (.ref x :: (vs ++ [V.non])) (upd (upd H1 dx (.own x)) x (.ins C dx [])) (fun v H2 => v = .non ∧ Q (.ref x) H2) E0 := by
  intro x dx nx nd ne
  obtain ⟨a, b, xs, ys, rfl, ha, hb, l1, l2, i1, i2, k⟩ := h
  have s0 : Same H1 (upd (upd H1 dx (.own x)) x (.ins C dx [])) := Same.made nx nd fun b o e _ => e
  refine ⟨x, dx, a, b, xs, ys, none, rfl, upd_same, Same.tup s0 ha, Same.tup s0 hb, l1, l2, i1, i2, fun p z => (by cases z), fun H' kp hx => ⟨rfl, ?_⟩⟩
  have s1 : Same H1 H' := fun c o e => kp c o (s0 c o e) (ne_of_none e nx)
  exact k x H' s1 nx ⟨dx, a, b, hx, Same.tup s1 ha, Same.tup s1 hb⟩
theorem pe_eff2 {X : Cx} {p pos : Pos} {e1 e2 : Expr} {t : TA} (M : Makes X.prog X.w X.K X.mg X.base C) (mgE : X.mg "Effect" = some (.ref C)) (hr : Room 5 X.A) (ha : PA X [e1, e2] t) (hg : Gl X "Effect" := by rfl)
    (he : starEach [e1, e2] X.env = (false, eval e1 X.env) :: starEach [e2] X.env := by rfl) (hpl : (backTo pos (starEach [e2] X.env)).any (·.1) = false := by rfl) :
    PE X (.Call (.Name "Effect" p) [e1, e2] [] pos) (tEff2 X.K C t) := by
  obtain ⟨f, fd, ds, Mk1, F, hd, hb⟩ := M.two
  constructor
  intro pins s σ H Q I h
  refine wpAny_Call_Name_kw (ld_glob I hg mgE ?_ (by decide))
  refine PySem.W.callWith_K (h₀ := X.base) I.ok.mod.kin Mk1.kp (thn (ha.run pos pins s σ H _ I h) fun us s1 hh => ?_) he hpl
  obtain ⟨vs, H1, I1, r, q⟩ := hh
  exact ⟨I1.kIn, run_make Mk1 F hr hb hd pass0 I1 r (make_imp q)⟩
/-! ### Effect.never() -/
def spNever (C : Addr) : Sp := fun vs H Q _ => vs = [.ref C] ∧ ∀ (e : Addr) (H' : Hp), Same H H' → NevAt C H' e → Q (.ref e) H'
theorem scNe : FnScope ["cls", "effect"] ["cls"] (defScope sNever) := ⟨rfl, rfl, rfl, by decide +kernel, rfl, by decide +kernel, by decide +kernel⟩
theorem ok_never {g : Addr} {gd : FuncData} (F : Fun K "never" "Effect.never" sNever g gd) (T : EC K mg C) (M : Makes P w K mg base C) : FnOk P w K mg base CX0 6 g gd ["cls"] (spNever C) := by
  obtain ⟨f, fd, ds, Mk1, FI, hd, hb⟩ := M.two
  refine F.ok scNe (fun vs H Q E h => ?_) (fun cdv A outer s H vs Q E hr h => ?_)
  · obtain ⟨rfl, _⟩ := h
    rfl
  · obtain ⟨rfl, k⟩ := h
    refine ⟨_, pss_cons (ps_set (i := 1) scNe.nd rfl (.inl rfl) (pe_makeL (i := 0) Mk1 FI hr rfl (.inl rfl) hb hd pass0 (pa_cons (pe_tup pa_nil) (pa_cons (pe_tup pa_nil) pa_nil))))
      (pss_cons (ps_fld (pv 1) pe_non rfl) (pss_cons (ps_fld (pv 1) pe_non rfl) (pss_cons (ps_fld (pv 1) pe_non rfl) (pss_one (ps_ret (pv 1)))))), ?_⟩
    refine ⟨rfl, Nat.zero_le _, fun t1 h1 => ⟨Nat.zero_le _, fun t2 h2 => ?_⟩⟩
    have n2 : t1 ≠ t2 := ne_of_none upd_same h2
    have s2 : Same H (upd (upd H t1 (.tup [])) t2 (.tup [])) := Same.free2 (Same.new h1) ((Same.new h1).free h2)
    intro y dy ny nd nyd
    have s3 : Same (upd (upd H t1 (.tup [])) t2 (.tup [])) (upd (upd (upd (upd H t1 (.tup [])) t2 (.tup [])) dy (.own y)) y (.ins C dy [])) := Same.made ny nd fun b o z _ => z
    refine ⟨y, dy, t1, t2, [], [], none, rfl, upd_same, Same.tup s3 (.of (by rw [upd_ne n2]; exact upd_same)), Same.tup s3 (.of upd_same), Nat.zero_le _, Nat.zero_le _, fun z m => (by cases m), fun z m => (by cases m), fun p z => (by cases z), fun H' kp e1 => ⟨rfl, ?_⟩⟩
    have s4 : Same H H' := fun c o z => kp c o (s3 _ _ (s2 c o z)) (ne_of_none z (s2.free ny))
    have hne : H y = none := s2.free ny
    refine ⟨_, rfl, y, C, dy, _, rfl, e1, T.cl, T.nN, (by show 3 < 1000; decide), _, rfl, y, C, dy, _, rfl, upd_same, T.cl, T.nL, (by rw [eF_n]; show 3 < 1000; decide), _, rfl, y, C, dy, _, rfl, upd_same, T.cl, T.nH, (by rw [eF_n, eF_l]; show 3 < 1000; decide), _, rfl, ?_⟩
    refine k y _ ?_ ⟨dy, ?_⟩
    · exact Same.free2 (Same.free2 (Same.free2 s4 hne) hne) hne
    · rw [upd_same, eF_n, eF_l, eF_h]
/-- the classmethod -/
def NeverHas (P : Program) (w : World) (K : PySem.W.Frag) (mg : Str → Option Value) (base : Heap) (C : Addr) : Prop := ∃ mc p g, ClX.CRead K C mc ∧ ClX.CMet K C mc "never" p g ∧ FnR P w K mg base CX0 6 g (spNever C)
theorem pe_never0 {X : Cx} {p apos pos : Pos} {pl : Sem Bool} (h : NeverHas X.prog X.w X.K X.mg X.base C) (mgE : X.mg "Effect" = some (.ref C)) (hr : Room 6 X.A) (hg : Gl X "Effect" := by rfl)
    (ht : eval (.Call (.Attribute (.Name "Effect" p) "never" apos) [] [] pos) X.env = (do
      let v ← eval (.Name "Effect" p) X.env
      standAt apos.atName
      let (f, first) ← holding [v] (getMethod v "never" pl)
      callWith pos f first (backTo pos (starEach [] X.env)) (backToKw pos (keywordEach [] X.env))) := by rfl) :
    PE X (.Call (.Attribute (.Name "Effect" p) "never" apos) [] [] pos) (tCMeth0 C (spNever C) E0 (tC (.ref C))) := by
  obtain ⟨mc, q, g, r, c, F⟩ := h
  exact pe_cmeth0 (pl := pl) (pe_glob hg mgE rfl) r c F hr pass0 ht
end
end SE
namespace SE
open PySem PySem.Spec PyProof.Rows L2
section
variable {P : Program} {w : World} {K : PySem.W.Frag} {mg : Str → Option Value} {base : Heap} {C : Addr}
/-! ### Effect(a, b, peak = c) -/
def tEffK (K : PySem.W.Frag) (C : Addr) (t : TA) (tk : TE) : TE := fun σ H Q => t σ H fun vs H1 => tCons tk tNil σ H1 fun zs H2 => ∃ (a b : Addr) (xs ys : List Str) (pk : Option Int), vs = [.ref a, .ref b] ∧ zs = [pkV pk] ∧ SqT K H2 a (xs.map V.str) ∧ SqT K H2 b (ys.map V.str) ∧ xs.length ≤ 5000 ∧ ys.length ≤ 5000 ∧
  (∀ z ∈ xs, Item z) ∧ (∀ z ∈ ys, Item z) ∧ (∀ p, pk = some p → lp xs ys ≤ p) ∧ ∀ (e : Addr) (H' : Hp), Same H2 H' → H2 e = none → EffAt K C H' e xs ys (pk.getD (lp xs ys)) → Q (.ref e) H'
theorem pe_effK {X : Cx} {p pos q1 : Pos} {e1 e2 c : Expr} {t : TA} {tk : TE} (M : Makes X.prog X.w X.K X.mg X.base C) (mgE : X.mg "Effect" = some (.ref C)) (hr : Room 5 X.A) (ha : PA X [e1, e2] t) (hc : PE X c tk) (hg : Gl X "Effect" := by rfl)
    (he : starEach [e1, e2] X.env = (false, eval e1 X.env) :: starEach [e2] X.env := by rfl) (hpl : ((backTo pos (starEach [e1, e2] X.env)).any (·.1) || (backToKw pos (keywordEach [⟨some "peak", c, q1⟩] X.env)).any (·.1.isNone)) = false := by rfl) :
    PE X (.Call (.Name "Effect" p) [e1, e2] [⟨some "peak", c, q1⟩] pos) (tEffK X.K C t tk) := by
  obtain ⟨f, fd, Mk1, F, FD⟩ := M
  obtain ⟨mv, kb⟩ := kb_some (ps := pInit) FD 3 ["peak"] [] (fun us _ ws => us ++ ws) (by simp) (fun q h => (by cases h)) (fun r1 _ r3 => r1.append r3) (fun D doc pm an cv ct us mv ws h1 h2 h3 => match us, mv, ws, h1, h2, h3 with | [_, _, _], [], [_], _, _, _ => rfl)
  constructor
  intro pins s σ H Q I h
  refine wpAny_Call_Name_kw (ld_glob I hg mgE ?_ (by decide))
  refine PySem.W.callWith_KW (h₀ := X.base) I.ok.mod.kin Mk1.kp rfl (thn (ha.run pos pins s σ H _ I h) fun us s1 hh => ?_) hpl he
  obtain ⟨vs, H1, I1, r, q⟩ := hh
  refine thn ((pk_cons (nm := some "peak") (kpos := q1) hc pk_nil).run pos pins s1 σ H1 _ I1 q) fun ws s2 hh => ?_
  obtain ⟨zs, H2, I2, rz, a, b, xs, ys, pk, rfl, rfl, ha2, hb2, l1, l2, i1, i2, hp, k⟩ := hh
  refine ⟨I2.kIn, ?_⟩
  refine run_makeK (ks := ["peak"]) (n := 2) Mk1 F hr kb pass0 I2 r rz rfl rfl ?_
  intro x dx nx nd ne
  have s0 : Same H2 (upd (upd H2 dx (.own x)) x (.ins C dx [])) := Same.made nx nd fun b o e _ => e
  refine ⟨x, dx, a, b, xs, ys, pk, rfl, upd_same, Same.tup s0 ha2, Same.tup s0 hb2, l1, l2, i1, i2, hp, fun H' kp hx => ⟨rfl, ?_⟩⟩
  have s3 : Same H2 H' := fun c o e => kp c o (s0 c o e) (ne_of_none e nx)
  exact k x H' s3 nx ⟨dx, a, b, hx, Same.tup s3 ha2, Same.tup s3 hb2⟩
/-! ### effects as values -/
abbrev Eff := Option (List Str × List Str × Int)
def EffV (K : PySem.W.Frag) (C : Addr) (H : Hp) (e : Addr) : Eff → Prop
  | none => NevAt C H e
  | some (xs, ys, p) => EffAt K C H e xs ys p
theorem EffV.same {H H' : Hp} {e : Addr} : ∀ {o : Eff}, EffV K C H e o → Same H H' → EffV K C H' e o
  | none, h, s => NevAt.same h s
  | some (_, _, _), h, s => EffAt.same h s
theorem EffV.ins {H : Hp} {e : Addr} : ∀ {o : Eff}, EffV K C H e o → ∃ dx fs, H e = some (.ins C dx fs)
  | none, h => by
    obtain ⟨dx, h1⟩ := NevAt.ex h
    exact ⟨dx, _, h1⟩
  | some (_, _, _), h => by
    obtain ⟨dx, u, v, h1, _⟩ := EffAt.ex h
    exact ⟨dx, _, h1⟩
/-! ### peak, nothing -/
def spPeak (K : PySem.W.Frag) (C : Addr) : Sp := fun vs H Q _ => ∃ (e : Addr) (xs ys : List Str) (p : Int), vs = [.ref e] ∧ EffAt K C H e xs ys p ∧ Q (.int p) H
theorem scPk : FnScope ["self"] ["self"] (defScope sPeak) := ⟨rfl, rfl, rfl, by decide +kernel, rfl, by decide +kernel, by decide +kernel⟩
theorem ok_peak {f : Addr} {fd : FuncData} (F : Fun K "peak" "Effect.peak" sPeak f fd) (T : EC K mg C) : FnOk P w K mg base CX0 1 f fd ["self"] (spPeak K C) := by
  refine F.ok scPk (fun vs H Q E h => ?_) (fun cdv A outer s H vs Q E hr h => ?_)
  · obtain ⟨e, xs, ys, p, rfl, _⟩ := h
    rfl
  · obtain ⟨e, xs, ys, p, rfl, h, k⟩ := h
    obtain ⟨dx, u, v, h1, h2, h3⟩ := h.ex
    exact ⟨_, pss_one (ps_ret (pe_fld (pv 0) rfl)), _, rfl, e, C, dx, _, _, rfl, h1, T.cl, T.nH, eF_high _ _ _, k⟩
end
end SE
namespace SE
open PySem PySem.Spec PyProof.Rows L2
/-! ### effects one after the other: the mathematics' side -/
abbrev Prt := List Str × List Str × Int
def comp (A B : Prt) : Option Prt :=
  if A.2.1.take (min A.2.1.length B.1.length) = B.1.take (min A.2.1.length B.1.length) then
    some (A.1 ++ B.1.drop (min A.2.1.length B.1.length), B.2.1 ++ A.2.1.drop (min A.2.1.length B.1.length), if (A.2.1.length : Int) - (A.1.length : Int) + B.2.2 > A.2.2 then (A.2.1.length : Int) - (A.1.length : Int) + B.2.2 else A.2.2)
  else none
def joinF : Prt → List Prt → Eff
  | A, [] => some A
  | A, B :: r => match comp A B with
    | none => none
    | some D => joinF D r
def joinM (ps : List Prt) : Eff := joinF ([], [], 0) ps
def szP (ps : List Prt) : Nat := (ps.map fun B => B.1.length + B.2.1.length).sum
/-- a part that may be joined -/
structure PrtOk (B : Prt) : Prop where
  i1 : ∀ z ∈ B.1, Item z
  i2 : ∀ z ∈ B.2.1, Item z
  h0 : 0 ≤ B.2.2
  h1 : (B.2.1.length : Int) - (B.1.length : Int) ≤ B.2.2
theorem comp_ok {A B D : Prt} (hA : PrtOk A) (hB : PrtOk B) (h : comp A B = some D) : PrtOk D ∧ D.1.length + D.2.1.length ≤ A.1.length + A.2.1.length + (B.1.length + B.2.1.length) := by
  unfold comp at h
  split at h
  · cases h
    have q1 := hA.h0
    have q2 := hA.h1
    have q3 := hB.h1
    refine ⟨⟨fun z m => ?_, fun z m => ?_, ?_, ?_⟩, ?_⟩
    · rcases List.mem_append.mp m with q | q
      · exact hA.i1 z q
      · exact hB.i1 z (List.mem_of_mem_drop q)
    · rcases List.mem_append.mp m with q | q
      · exact hB.i2 z q
      · exact hA.i2 z (List.mem_of_mem_drop q)
    · dsimp only
      split <;> omega
    · dsimp only
      rw [List.length_append, List.length_append, List.length_drop, List.length_drop]
      have m1 := Nat.min_le_left A.2.1.length B.1.length
      have m2 := Nat.min_le_right A.2.1.length B.1.length
      generalize min A.2.1.length B.1.length = m at m1 m2 ⊢
      split <;> omega
    · show (A.1 ++ B.1.drop (min A.2.1.length B.1.length)).length + (B.2.1 ++ A.2.1.drop (min A.2.1.length B.1.length)).length ≤ _
      rw [List.length_append, List.length_append, List.length_drop, List.length_drop]
      omega
  · cases h
theorem PrtOk.lp {D : Prt} (h : PrtOk D) : lp D.1 D.2.1 ≤ D.2.2 := by
  have q1 := h.h0
  have q2 := h.h1
  unfold SE.lp
  split <;> omega
theorem cutF_to {α : Type} (f : α → V) (xs : List α) (j : Nat) : cutV (xs.map f) none (some (j : Int)) = (xs.take j).map f := by
  unfold cutV
  rw [List.length_map]
  have e1 : HT.sIx xs.length 0 none = 0 := rfl
  rw [e1, HT.sIx_nat, List.drop_zero, Nat.sub_zero, ← List.map_take]
  congr 1
  by_cases c : j ≤ xs.length
  · rw [Nat.min_eq_left c]
  · rw [Nat.min_eq_right (by omega), List.take_length, List.take_of_length_le (by omega)]
theorem cutF_from {α : Type} (f : α → V) (xs : List α) (j : Nat) : cutV (xs.map f) (some (j : Int)) none = (xs.drop j).map f := by
  unfold cutV
  rw [List.length_map]
  have e1 : HT.sIx xs.length xs.length none = xs.length := rfl
  rw [e1, HT.sIx_nat, ← List.map_drop, ← List.map_take]
  congr 1
  by_cases c : j ≤ xs.length
  · rw [Nat.min_eq_left c, List.take_of_length_le (by rw [List.length_drop]; exact Nat.le_refl _)]
  · rw [Nat.min_eq_right (by omega), List.drop_of_length_le (Nat.le_refl _), List.drop_of_length_le (by omega), List.take_nil]
theorem min_int (a b : Nat) : (if (b : Int) < (a : Int) then (b : Int) else (a : Int)) = ((min a b : Nat) : Int) := by
  split <;> omega
/-- a part as a tuple -/
def PrtV (K : PySem.W.Frag) (H : Hp) (v : V) (B : Prt) : Prop := ∃ t a b, v = .ref t ∧ SqT K H t [.ref a, .ref b, .int B.2.2] ∧ SqT K H a (B.1.map V.str) ∧ SqT K H b (B.2.1.map V.str)
theorem PrtV.same {K : PySem.W.Frag} {H H' : Hp} {v : V} {B : Prt} (h : PrtV K H v B) (s : Same H H') : PrtV K H' v B := by
  obtain ⟨t, a, b, e, h1, h2, h3⟩ := h
  exact ⟨t, a, b, e, Same.tup s h1, Same.tup s h2, Same.tup s h3⟩
section
variable {P : Program} {w : World} {K : PySem.W.Frag} {mg : Str → Option Value} {base : Heap} {C : Addr}
/-! ### joined -/
def spJoin (K : PySem.W.Frag) (C : Addr) : Sp := fun vs H Q _ => ∃ (a : Addr) (us : List V) (ps : List Prt), vs = [.ref a] ∧ SqL K H a us ∧ Paired (PrtV K H) us ps ∧ (∀ B ∈ ps, PrtOk B) ∧ szP ps ≤ 5000 ∧ ∀ (e : Addr) (H' : Hp), Same H H' → EffV K C H' e (joinM ps) → Q (.ref e) H'
theorem scJo : FnScope ["parts", "pops", "pushes", "peak", "needed", "left", "highest", "shared"] ["parts"] (defScope sJoined) := ⟨rfl, rfl, rfl, by decide +kernel, rfl, by decide +kernel, by decide +kernel⟩
theorem paired_at {α β : Type} {F : α → β → Prop} : ∀ {l₁ : List α} {l₂ : List β} {i : Nat} {x : α}, Paired F l₁ l₂ → l₁[i]? = some x → ∃ y, l₂[i]? = some y ∧ F x y
  | _, _, _, _, .nil, h => by simp at h
  | _, _, 0, _, .cons r _, h => ⟨_, rfl, by cases h; exact r⟩
  | _, _, i + 1, _, .cons _ t, h => by
    obtain ⟨y, h1, h2⟩ := paired_at t (i := i) h
    exact ⟨y, h1, h2⟩
theorem paired_len {α β : Type} {F : α → β → Prop} : ∀ {l₁ : List α} {l₂ : List β}, Paired F l₁ l₂ → l₁.length = l₂.length
  | _, _, .nil => rfl
  | _, _, .cons _ t => congrArg Nat.succ (paired_len t)
theorem has_join (D : Def K mg "joined" sJoined) (T : EC K mg C) (M : Makes P w K mg base C) (GN : NeverHas P w K mg base C) (B : Blt mg) (mx : mg "max" = none) (mn : mg "min" = none) : Has P w K mg base "joined" 7 ["parts"] [] (spJoin K C) := by
  refine has_of D scJo (fun _ _ _ _ _ _ us hl => match us, hl with | [_], _ => rfl) (fun xs H Q E h => ?_) (fun f cv A out s H xs Q E hr h => ?_)
  · obtain ⟨a, us, ps, rfl, _⟩ := h
    rfl
  · obtain ⟨a, us, ps, rfl, hS, hV, hO, hz, k⟩ := h
    have hr5 : Room 5 _ := hr.mono (by decide)
    refine ⟨_, pss_cons (ps_asg (pe_tup (pa_cons (pe_tup pa_nil) (pa_cons (pe_tup pa_nil) (pa_cons pe_int pa_nil)))) (pg_tup (by rfl) (pgs_cons (pg_name (i := 1) scJo.nd rfl (.inl rfl)) (pgs_cons (pg_name (i := 2) scJo.nd rfl (.inl rfl)) (pgs_cons (pg_name (i := 3) scJo.nd rfl (.inl rfl)) pgs_nil)))))
      (pss_cons (ps_for PassesOwn.never rfl (pi_list (pv 0)) (pg_tup (by rfl) (pgs_cons (pg_name (i := 4) scJo.nd rfl (.inl rfl)) (pgs_cons (pg_name (i := 5) scJo.nd rfl (.inl rfl)) (pgs_cons (pg_name (i := 6) scJo.nd rfl (.inl rfl)) pgs_nil))))
        (pss_cons (ps_set (i := 7) scJo.nd rfl (.inl rfl) (pe_callB (call_min2 rfl) (by rfl) mn (by decide +kernel) (pa_cons (pe_callB call_len_seq (by rfl) B.len PySem.boot_len (pa_cons (pv 2) pa_nil)) (pa_cons (pe_callB call_len_seq (by rfl) B.len PySem.boot_len (pa_cons (pv 4) pa_nil)) pa_nil))))
        (pss_cons (ps_if (pt_cut (pt_cmpR (op_neD hr.units) (pe_slice sl_tupS (pv 2) po_none (po_some (pv 7))) (pe_slice sl_tupS (pv 4) po_none (po_some (pv 7))) (nomark _))) (pss_one (ps_ret (pe_never0 GN T.mgE hr))) pss_nil)
        (pss_cons (ps_set (i := 3) scJo.nd rfl (.inl rfl) (pe_callB (call_max2 rfl) (by rfl) mx (by decide +kernel) (pa_cons (pv 3) (pa_cons (pe_op op_add (pe_op op_sub (pe_callB call_len_seq (by rfl) B.len PySem.boot_len (pa_cons (pv 2) pa_nil)) (pe_callB call_len_seq (by rfl) B.len PySem.boot_len (pa_cons (pv 1) pa_nil))) (pv 6)) pa_nil))))
        (pss_cons (ps_set (i := 1) scJo.nd rfl (.inl rfl) (pe_op op_catS (pv 1) (pe_slice sl_tupS (pv 4) (po_some (pv 7)) po_none)))
        (pss_one (ps_set (i := 2) scJo.nd rfl (.inl rfl) (pe_op op_catS (pv 5) (pe_slice sl_tupS (pv 2) (po_some (pv 7)) po_none)))))))))
      (pss_one (ps_ret (pe_effK M T.mgE hr5 (pa_cons (pv 1) (pa_cons (pv 2) pa_nil)) (pv 3))))), ?_⟩
    refine ⟨Nat.zero_le _, fun t1 ht1 => ⟨Nat.zero_le _, fun t2 ht2 => ?_⟩⟩
    have n12 : t1 ≠ t2 := ne_of_none upd_same ht2
    have s0 : Same H (upd (upd H t1 (.tup [])) t2 (.tup [])) := Same.free2 (Same.new ht1) ((Same.new ht1).free ht2)
    have shp : ∀ {zs : List Str}, (∀ z ∈ zs, Item z) → SeqAt.shaped (.tuple (zs.map PyData.str)) = true := fun {zs} q => (nice_tuple (nice_strs q)).shaped (by decide)
    refine ⟨(by show 3 ≤ sizeLine; decide), fun t3 ht3 => ⟨t3, _, rfl, .of upd_same, rfl, _, _, rfl, _, _, rfl, _, _, rfl, rfl, ?_⟩⟩
    have s00 := Same.new (o := .tup [.ref t1, .ref t2, .int 0]) ht3
    generalize upd (upd (upd H t1 (.tup [])) t2 (.tup [])) t3 (.tup [.ref t1, .ref t2, .int 0]) = H1 at s00 ⊢
    have w1 : SqT K H1 t1 (([] : List Str).map V.str) := Same.tup s00 (.of (by rw [upd_ne n12]; exact upd_same))
    have w2 : SqT K H1 t2 (([] : List Str).map V.str) := Same.tup s00 (.of upd_same)
    replace s0 := s0.trans s00
    refine ⟨_, rfl, a, rfl, ⟨_, Same.seq s0 hS⟩, for_list (K := K) (a := a) (xs := us) (fun i σ H2 => ∃ (u v : Addr) (A : Prt) (y4 y5 y6 y7 : Option V), σ = [some (.ref a), some (.ref u), some (.ref v), some (.int A.2.2), y4, y5, y6, y7] ∧ Same H H2 ∧ SqT K H2 u (A.1.map V.str) ∧ SqT K H2 v (A.2.1.map V.str) ∧ PrtOk A ∧ joinM ps = joinF A (ps.drop i) ∧ A.1.length + A.2.1.length + szP (ps.drop i) ≤ 5000)
      ⟨t1, t2, ([], [], 0), none, none, none, none, rfl, s0, w1, w2, ⟨fun z m => (by cases m), fun z m => (by cases m), Int.le_refl _, Int.le_refl _⟩, rfl, by rw [List.drop_zero]; show 0 + 0 + szP ps ≤ 5000; omega⟩ (fun i σ H2 _ q => ?_) ?_ ?_⟩
    · obtain ⟨_, _, _, _, _, _, _, _, s2, _⟩ := q
      exact Same.seq s2 hS
    · rintro i x σ H2 hx ⟨u, v, A, y4, y5, y6, y7, rfl, s2, hu, hv, oA, hj, hsz⟩
      obtain ⟨Bp, hB, hP⟩ := paired_at hV hx
      obtain ⟨t, p1, p2, rfl, q1, q2, q3⟩ := hP.same s2
      have oB := hO Bp (List.mem_of_getElem? hB)
      have hd : ps.drop i = Bp :: ps.drop (i + 1) := by
        obtain ⟨hl, he⟩ := List.getElem?_eq_some_iff.mp hB
        rw [List.drop_eq_getElem_cons hl, he]
      have hsz2 : A.1.length + A.2.1.length + (Bp.1.length + Bp.2.1.length) + szP (ps.drop (i + 1)) ≤ 5000 := by
        rw [hd] at hsz
        have e : szP (Bp :: ps.drop (i + 1)) = Bp.1.length + Bp.2.1.length + szP (ps.drop (i + 1)) := by
          unfold szP
          rw [List.map_cons, List.sum_cons]
        omega
      refine ⟨t, _, rfl, q1, rfl, _, _, rfl, _, _, rfl, _, _, rfl, rfl, ?_⟩
      refine ⟨_, rfl, v, _, rfl, .inr hv, _, rfl, p1, _, rfl, .inr q2, _, _, rfl, ?_⟩
      rw [List.length_map, List.length_map, min_int]
      -- do they fit
      refine ⟨fun b H3 => b = !decide (A.2.1.take (min A.2.1.length Bp.1.length) = Bp.1.take (min A.2.1.length Bp.1.length)) ∧ Same H2 H3, ?_, ?_⟩
      · refine ⟨_, rfl, _, rfl, _, rfl, v, _, rfl, hv, fun c1 H3 s3 hc1 => ⟨_, rfl, _, rfl, _, rfl, p1, _, rfl, Same.tup s3 q2, fun c2 H4 s4 hc2 => ?_⟩⟩
        rw [cutF_to] at hc1 hc2
        refine ⟨.tuple ((A.2.1.take (min A.2.1.length Bp.1.length)).map .str), .tuple ((Bp.1.take (min A.2.1.length Bp.1.length)).map .str), .tup (Same.tup s4 hc1) (dp_strs _), .tup hc2 (dp_strs _), shp (fun z m => oA.i2 z (List.mem_of_mem_take m)), shp (fun z m => oB.i1 z (List.mem_of_mem_take m)), _, rfl, ?_, s3.trans s4⟩
        rw [eqv_tupS]
      rintro b H3 ⟨rfl, s3⟩
      have s23 := s2.trans s3
      by_cases c : A.2.1.take (min A.2.1.length Bp.1.length) = Bp.1.take (min A.2.1.length Bp.1.length)
      rotate_left
      · rw [decide_eq_false c]
        refine iteT ⟨rfl, rfl, fun e H4 s4 he => k e H4 (s23.trans s4) ?_⟩
        have ej : joinM ps = none := by
          rw [hj, hd]
          unfold joinF comp
          rw [if_neg c]
        rw [ej]
        exact he
      rw [decide_eq_true c]
      refine iteF ?_
      refine ⟨_, rfl, _, rfl, v, _, rfl, .inr (Same.tup s3 hv), _, rfl, u, _, rfl, .inr (Same.tup s3 hu), _, _, rfl, rfl, _, rfl, _, _, rfl, rfl, _, _, rfl, ?_⟩
      rw [List.length_map, List.length_map]
      refine ⟨_, rfl, _, rfl, _, rfl, _, rfl, p1, _, rfl, Same.tup s3 q2, fun c1 H4 s4 hc1 => ?_⟩
      rw [cutF_from] at hc1
      refine ⟨u, c1, _, _, rfl, rfl, Same.tup (s3.trans s4) hu, hc1, ?_, fun u2 H5 s5 hu2 => ?_⟩
      · rw [List.length_map, List.length_map, List.length_drop, sizeLine_eq]
        omega
      have s35 := (s3.trans s4).trans s5
      refine ⟨_, rfl, _, rfl, _, rfl, _, rfl, v, _, rfl, Same.tup s35 hv, fun c2 H6 s6 hc2 => ?_⟩
      rw [cutF_from] at hc2
      refine ⟨p2, c2, _, _, rfl, rfl, Same.tup (s35.trans s6) q3, hc2, ?_, fun v2 H7 s7 hv2 => ?_⟩
      · rw [List.length_map, List.length_map, List.length_drop, sizeLine_eq]
        omega
      obtain ⟨Dp, hD⟩ : ∃ Dp, comp A Bp = some Dp := by
        unfold comp
        rw [if_pos c]
        exact ⟨_, rfl⟩
      have oD := comp_ok oA oB hD
      have e1 : Dp.1 = A.1 ++ Bp.1.drop (min A.2.1.length Bp.1.length) ∧ Dp.2.1 = Bp.2.1 ++ A.2.1.drop (min A.2.1.length Bp.1.length) ∧ Dp.2.2 = if (A.2.1.length : Int) - (A.1.length : Int) + Bp.2.2 > A.2.2 then (A.2.1.length : Int) - (A.1.length : Int) + Bp.2.2 else A.2.2 := by
        unfold comp at hD
        rw [if_pos c] at hD
        cases hD
        exact ⟨rfl, rfl, rfl⟩
      rw [← List.map_append, ← e1.1] at hu2
      rw [← List.map_append, ← e1.2.1] at hv2
      refine ⟨u2, v2, Dp, some (.ref p1), some (.ref p2), some (.int Bp.2.2), some (.int ((min A.2.1.length Bp.1.length : Nat) : Int)), ?_, s2.trans ((s35.trans s6).trans s7), Same.tup (s6.trans s7) hu2, hv2, oD.1, ?_, ?_⟩
      · rw [e1.2.2]
        rfl
      · rw [hj, hd]
        conv => lhs; unfold joinF
        rw [hD]
      · have := oD.2
        omega
    · rintro σ H2 ⟨u, v, A, y4, y5, y6, y7, rfl, s2, hu, hv, oA, hj, hsz⟩
      rw [paired_len hV, List.drop_length] at hj
      refine ⟨_, rfl, _, rfl, _, rfl, u, v, A.1, A.2.1, some A.2.2, rfl, rfl, hu, hv, by omega, by omega, oA.i1, oA.i2, fun p z => ?_, fun e H3 s3 _ he => ?_⟩
      · cases z
        exact oA.lp
      · refine k e H3 (s2.trans s3) ?_
        rw [hj]
        exact he
end
end SE
namespace SE
open PySem PySem.Spec PyProof.Rows L2
/-! ### effect_of -/
def partM (s : Stp) : Prt := if s.1 = true then ([], [s.2], 1) else ([s.2], [], 0)
def effM (ss : List Stp) : Eff := joinM (ss.map partM)
theorem partM_ok {s : Stp} (h : Item s.2) : PrtOk (partM s) := by
  unfold partM
  split
  · exact ⟨fun z m => (by cases m), fun z m => (by rw [List.mem_singleton.mp m]; exact h), (by show (0 : Int) ≤ 1; decide), (by show ((1 : Nat) : Int) - ((0 : Nat) : Int) ≤ 1; decide)⟩
  · exact ⟨fun z m => (by rw [List.mem_singleton.mp m]; exact h), fun z m => (by cases m), (by show (0 : Int) ≤ 0; decide), (by show ((0 : Nat) : Int) - ((1 : Nat) : Int) ≤ 0; decide)⟩
theorem szP_steps : ∀ ss : List Stp, szP (ss.map partM) = ss.length
  | [] => rfl
  | s :: ss => by
    have ih := szP_steps ss
    unfold szP at ih ⊢
    rw [List.map_cons, List.map_cons, List.sum_cons, ih, List.length_cons]
    unfold partM
    split
    · show 0 + 1 + ss.length = _
      omega
    · show 1 + 0 + ss.length = _
      omega
theorem tup_updL {K : PySem.W.Frag} {H : Hp} {D t : Addr} {xs us : List V} {o : HO} (hD : H D = some (.lst us)) (h : SqT K H t xs) : SqT K (upd H D o) t xs := by
  rcases h with (h | ⟨p, h⟩) | h
  · exact .inl (.inl (by rw [upd_ne (ne_of h hD (by intro z; cases z))]; exact h))
  · exact .inl (.inr ⟨p, by rw [upd_ne (ne_of h hD (by intro z; cases z))]; exact h⟩)
  · exact .inr h
theorem PrtV.updL {K : PySem.W.Frag} {H : Hp} {D : Addr} {us : List V} {v : V} {B : Prt} {o : HO} (hD : H D = some (.lst us)) (h : PrtV K H v B) : PrtV K (upd H D o) v B := by
  obtain ⟨t, a, b, e, h1, h2, h3⟩ := h
  exact ⟨t, a, b, e, tup_updL hD h1, tup_updL hD h2, tup_updL hD h3⟩
theorem Paired.snoc2 {α β : Type} {F : α → β → Prop} : ∀ {l₁ : List α} {l₂ : List β} {x : α} {y : β}, Paired F l₁ l₂ → F x y → Paired F (l₁ ++ [x]) (l₂ ++ [y])
  | _, _, _, _, .nil, h => .cons h .nil
  | _, _, _, _, .cons r t, h => .cons r (Paired.snoc2 t h)
section
variable {P : Program} {w : World} {K : PySem.W.Frag} {mg : Str → Option Value} {base : Heap} {C : Addr}
def spPart (K : PySem.W.Frag) : Sp := fun vs H Q _ => ∃ (v : V) (s : Stp), vs = [v] ∧ StepV K H v s ∧ ∀ (u : V) (H' : Hp), Same H H' → PrtV K H' u (partM s) → Q u H'
theorem scPt : FnScope ["step", "action", "item"] ["step"] (defScope sPartsOfStep) := ⟨rfl, rfl, rfl, by decide +kernel, rfl, by decide +kernel, by decide +kernel⟩
theorem has_part (D : Def K mg "parts_of_step" sPartsOfStep) : Has P w K mg base "parts_of_step" 1 ["step"] [] (spPart K) := by
  refine has_of D scPt (fun _ _ _ _ _ _ us hl => match us, hl with | [_], _ => rfl) (fun xs H Q E h => ?_) (fun f cv A out s H xs Q E hr h => ?_)
  · obtain ⟨v, st, rfl, _⟩ := h
    rfl
  · obtain ⟨v, st, rfl, ⟨t, rfl, hT⟩, k⟩ := h
    refine ⟨_, pss_cons (ps_asg (pv 0) (pg_tup (by rfl) (pgs_cons (pg_name (i := 1) scPt.nd rfl (.inl rfl)) (pgs_cons (pg_name (i := 2) scPt.nd rfl (.inl rfl)) pgs_nil))))
      (pss_one (ps_ret (pe_ifExp (pt_cmpR op_eq (pv 1) pe_str (nomark _)) (pe_tup (pa_cons (pe_tup pa_nil) (pa_cons (pe_tup (pa_cons (pv 2) pa_nil)) (pa_cons pe_int pa_nil)))) (pe_tup (pa_cons (pe_tup (pa_cons (pv 2) pa_nil)) (pa_cons (pe_tup pa_nil) (pa_cons pe_int pa_nil))))))), ?_⟩
    refine ⟨_, rfl, t, _, rfl, hT, rfl, _, _, rfl, _, _, rfl, rfl, ?_⟩
    obtain ⟨b, z⟩ := st
    cases b with
    | true =>
      refine ⟨_, rfl, rfl, true, congrArg V.bl (decide_eq_true (show V.str (act true) = V.str "push" from rfl)), iteT ?_⟩
      refine ⟨Nat.zero_le _, fun a ha => ⟨_, rfl, (by show 1 ≤ sizeLine; decide), fun c hc => ⟨(by show 3 ≤ sizeLine; decide), fun q hq => ?_⟩⟩⟩
      have nac : a ≠ c := ne_of_none upd_same hc
      have naq : a ≠ q := ne_of_none (by rw [upd_ne nac]; exact upd_same) hq
      have ncq : c ≠ q := ne_of_none upd_same hq
      refine k (.ref q) _ ?_ ⟨q, a, c, rfl, .of upd_same, .of ?_, .of ?_⟩
      · exact Same.free2 (Same.free2 (Same.new ha) ((Same.new ha).free hc)) ((Same.free2 (Same.new ha) ((Same.new ha).free hc)).free hq)
      · rw [upd_ne naq, upd_ne nac]
        exact upd_same
      · rw [upd_ne ncq]
        exact upd_same
    | false =>
      refine ⟨_, rfl, rfl, false, congrArg V.bl (decide_eq_false (fun y => absurd (V.str.inj (show V.str (act false) = V.str "push" from y)) (by decide +kernel))), iteF ?_⟩
      refine ⟨_, rfl, (by show 1 ≤ sizeLine; decide), fun a ha => ⟨Nat.zero_le _, fun c hc => ⟨(by show 3 ≤ sizeLine; decide), fun q hq => ?_⟩⟩⟩
      have nac : a ≠ c := ne_of_none upd_same hc
      have naq : a ≠ q := ne_of_none (by rw [upd_ne nac]; exact upd_same) hq
      have ncq : c ≠ q := ne_of_none upd_same hq
      refine k (.ref q) _ ?_ ⟨q, a, c, rfl, .of upd_same, .of ?_, .of ?_⟩
      · exact Same.free2 (Same.free2 (Same.new ha) ((Same.new ha).free hc)) ((Same.free2 (Same.new ha) ((Same.new ha).free hc)).free hq)
      · rw [upd_ne naq, upd_ne nac]
        exact upd_same
      · rw [upd_ne ncq]
        exact upd_same
def spEffOf (K : PySem.W.Frag) (C : Addr) : Sp := fun vs H Q _ => ∃ (a : Addr) (ys : List V) (ss : List Stp), vs = [.ref a] ∧ SqL K H a ys ∧ ys.length ≤ 1000 ∧ StepsV K H ys ss ∧ (∀ s ∈ ss, Item s.2) ∧ ∀ (e : Addr) (H' : Hp), Same H H' → EffV K C H' e (effM ss) → Q (.ref e) H'
theorem scEo : FnScope ["steps", "step"] ["steps"] (defScope sEffectOf) := ⟨rfl, rfl, rfl, by decide +kernel, rfl, by decide +kernel, by decide +kernel⟩
theorem has_effOf (D : Def K mg "effect_of" sEffectOf) (GC : Has P w K mg base "check_steps" 3 ["steps"] [] (spChkSteps K)) (GP : Has P w K mg base "parts_of_step" 1 ["step"] [] (spPart K)) (GJ : Has P w K mg base "joined" 7 ["parts"] [] (spJoin K C)) :
    Has P w K mg base "effect_of" 8 ["steps"] [] (spEffOf K C) := by
  refine has_of D scEo (fun _ _ _ _ _ _ us hl => match us, hl with | [_], _ => rfl) (fun xs H Q E h => ?_) (fun f cv A out s H xs Q E hr h => ?_)
  · obtain ⟨a, ys, ss, rfl, _⟩ := h
    rfl
  · obtain ⟨a, ys, ss, rfl, hS, hl, hV, hI, k⟩ := h
    have hr1 : Room 1 _ := hr.mono (by decide)
    have hr3 : Room 3 _ := hr.mono (by decide)
    have hln : ys.length = ss.length := hV.length
    refine ⟨_, pss_cons (ps_expr (pe_has GC hr3 (pa_cons (pv 0) pa_nil))) (pss_one (ps_ret (pe_has GJ hr (pa_cons
      (pe_lc (own := [("step", 1)]) (g := gName 1) (tt := tYes) (te := tCall (spPart K) [] E0 (tCons (tVar 1) tNil)) rfl scEo.nd (pi_list (pv 0)) (blkOk_by (own := [("step", 1)]) (N := ["steps", "step"]) (sc := defScope sEffectOf) (by decide +kernel))
        (fun _ _ _ _ _ => pg_name (i := 1) scEo.nd rfl (.inl rfl)) (fun _ _ _ _ _ => pts_nil) (fun _ _ _ _ _ => pe_has GP hr1 (pa_cons (pv 1) pa_nil))) pa_nil)))), ?_⟩
    refine ⟨_, rfl, a, ys, ss, rfl, .inl hS, hl, hV, hI, fun H1 s1 => ?_⟩
    refine ⟨_, rfl, a, rfl, ⟨_, Same.seq s1 hS⟩, fun D hD => lc_list (K := K) (a := a) (xs := ys) (fun j H2 => ∃ us, H2 D = some (.lst us) ∧ Paired (PrtV K H2) us ((ss.take j).map partM) ∧ Same H1 H2) ⟨[], upd_same, .nil, Same.new hD⟩ (fun j H2 _ q => ?_) ?_ ?_⟩
    · obtain ⟨_, _, _, s2⟩ := q
      exact Same.seq (s1.trans s2) hS
    · rintro j x H2 hx ⟨us, hu, hP, s2⟩
      obtain ⟨st, h1, h2⟩ := StepsV.at hV hx
      refine ⟨rfl, yes_in ⟨_, rfl, x, st, rfl, h2.same (s1.trans s2), fun u H3 s3 hp => ⟨us, s3 _ _ hu, ?_, us ++ [u], upd_same, ?_, ?_⟩⟩⟩
      · have l2 := paired_len hP
        rw [List.length_map, List.length_take] at l2
        rw [sizeLine_eq]
        omega
      · have e1 : (ss.take (j + 1)).map partM = (ss.take j).map partM ++ [partM st] := by
          rw [List.take_add_one, h1, List.map_append]
          rfl
        rw [e1]
        have hu3 := s3 _ _ hu
        exact Paired.snoc2 (Paired.mapP hP fun v B q => (q.same s3).updL hu3) (hp.updL hu3)
      · exact Same.free2 (s2.trans s3) hD
    · rintro H2 ⟨us, hu, hP, s2⟩
      rw [hln, List.take_length] at hP
      refine ⟨D, us, ss.map partM, rfl, .of hu, hP, fun Bp m => ?_, ?_, fun e H3 s3 he => k e H3 ((s1.trans s2).trans s3) he⟩
      · obtain ⟨st, ms, rfl⟩ := List.mem_map.mp m
        exact partM_ok (hI st ms)
      · rw [szP_steps]
        omega
end
end SE
/-! == and != by an own __eq__, whatever it answers; repr by an own __repr__. -/
namespace SE
open PySem PySem.Spec PyProof.Rows L2
section
variable {prog : Program} {w : World} {A : Around} {E : Value → Shared → Prop} {s : Shared} {K : PySem.W.Frag} {x y C f : Addr} {ox oy : Obj} {od oe : Option Obj} {Q : Value → Shared → Prop}
/-- a special method that is a built-in's slot -/
theorem bound_slot {M : Model} {name : Str} {id : String} {args : List Value} {R : Option Value → Shared → Prop} (X : K.In s.heap) (I : PySem.W.InstAt s.heap x ox C od) (hs : PySem.W.findIn K (.ref C) name = some (some (.builtin id)))
    (hb : ∀ v, bindSpecial (.builtin id) v = pure (.builtin id, [v])) (h : wpAny M A (call (.builtin id) (.ref x :: args)) (fun v => R (some v)) E s) : wpAny M A (callSpecialIfBound? (.ref x) name args) R E s := by
  simp only [callSpecialIfBound?, bindSpecialIfBound?]
  refine wpAny_holding (wpAny_bind (wpAny_bind (wpAny_bind (I.type.here ((PySem.W.looks_findIn X hs).here (wpAny_bind (wpAny_askSetting (wpAny_ite ?_))))))))
  have last : wpAny M A (call (.builtin id) ([.ref x] ++ args) >>= fun v => pure (some v)) R E s := wpAny_bind (wpAny_mono h (fun v s2 z => wpAny_pure z) fun _ _ z => z)
  split
  · exact wpAny_bind ((PySem.W.Looks.of_pure (hb _)).here (wpAny_pure (by exact last)))
  · exact wpAny_tryCatch (wpAny_bind ((PySem.W.Looks.of_pure (hb _)).here (wpAny_pure (by exact last))))
open Builtin in
theorem ne_call {v : Value} (hu : A.in1.units < cLine) (X : K.In s.heap) (I : PySem.W.InstAt s.heap x ox C od) (hm : PySem.W.mroIn K C (.type "object") = some true) (hs : PySem.W.findIn K (.ref C) "__eq__" = some (some (.ref f))) (hf : PySem.W.isFn K (.ref f) = true)
    (h : wpAny (model prog w) A.in1 (call (.ref f) [.ref x, v]) (fun r s2 => ∃ b, r = .bool b ∧ Q (.bool (!b)) s2) E s) : wpAny (model prog w) A (call (.builtin "object.__ne__") [.ref x, v]) Q E s := by
  refine wpAny_call (codeAny_call_builtin PySem.F.cmp_object.ne.plain PySem.F.cmpEntry_ne (PySem.W.check_slot PySem.F.cmpKind_ne PySem.F.cmpSplit_ne (I.type.andThen (PySem.W.looks_mroIn X hm)) (PySem.F.cmpArgs_ne _ _) ?_))
  unfold Builtin.«object.__ne__»
  refine wpAny_bind (m := slotArgs "__ne__" 1 _) (wpAny_pure ?_)
  refine wpAny_bind (m := cRoomFor _ _) (wpAny_cRoomFor hu ?_)
  refine wpAny_bind (m := callSpecialIfBound? (.ref x) (Str.ofString "__eq__") _) (PySem.W.ifBound_K X I hs hf (wpAny_mono h (fun r s2 z => ?_) fun _ _ z => z))
  obtain ⟨b, rfl, q⟩ := z
  exact wpAny_bind (wpAny_truthy_bool (wpAny_pure q))
theorem ne_inst (hu : A.units + 1 < cLine) (X : K.In s.heap) (I : PySem.W.InstAt s.heap x ox C od) (J : PySem.W.InstAt s.heap y oy C oe) (hm : PySem.W.mroIn K C (.type "object") = some true)
    (hn : PySem.W.findIn K (.ref C) "__ne__" = some (some (.builtin "object.__ne__"))) (hs : PySem.W.findIn K (.ref C) "__eq__" = some (some (.ref f))) (hf : PySem.W.isFn K (.ref f) = true)
    (h : wpAny (model prog w) A.in1 (call (.ref f) [.ref x, .ref y]) (fun r s2 => ∃ b, r = .bool b ∧ Q (.bool (!b)) s2) E s) : wpAny (model prog w) A (richCompare .NotEq (.ref x) (.ref y)) Q E s := by
  have one : wpAny (model prog w) A (tryCompare (.ref x) (cmpInfo .NotEq).2.1 (.ref y)) (fun r s2 => ∃ v, r = some v ∧ Q v s2) E s := by
    unfold tryCompare
    refine wpAny_bind (bound_slot X I hn PySem.F.cmp_object.ne.bind (ne_call hu X I hm hs hf (wpAny_mono h (fun v s2 z => ?_) fun _ _ z => z)))
    obtain ⟨b, rfl, q⟩ := z
    exact ⟨b, rfl, wpAny_pure ⟨_, rfl, q⟩⟩
  unfold richCompare
  simp only [oneThing_ref]
  refine wpAny_holding (wpAny_bind (wpAny_cRoomFor (Nat.lt_of_succ_lt hu) (wpAny_bind (I.type.here (wpAny_bind (J.type.here ?_))))))
  rw [show (Value.ref C != Value.ref C) = false by simp]
  simp only [Bool.false_eq_true, if_false]
  refine wpAny_bind (wpAny_pure ?_)
  simp only [Bool.false_eq_true, if_false]
  refine wpAny_bind (wpAny_mono one (fun r s2 z => ?_) fun _ _ z => z)
  obtain ⟨v, rfl, q⟩ := z
  exact wpAny_pure q
end
/-! ### the rules -/
/-- what an own == promises -/
def spEqB (R : Addr → Addr → Bool → Hp → Prop) : Sp := fun vs H Q _ => ∃ (a b : Addr) (c : Bool), vs = [.ref a, .ref b] ∧ R a b c H ∧ ∀ H', Same H H' → Q (.bl c) H'
def rCmp (C : Addr) (R : Addr → Addr → Bool → Hp → Prop) (neg : Bool) : R2 := fun x y H Q => ∃ (a b : Addr) (c : Bool) (dx dy : Addr) (fs gs : List (Str × V)), x = .ref a ∧ y = .ref b ∧ H a = some (.ins C dx fs) ∧ H b = some (.ins C dy gs) ∧ R a b c H ∧ ∀ H', Same H H' → Q (.bl (c != neg)) H'
section
variable {X : Cx} {n : Nat} {C f : Addr} {fd : FuncData} {ps : List Str} {R : Addr → Addr → Bool → Hp → Prop}
theorem op_eqE (F : FnOk X.prog X.w X.K X.mg X.base CX0 n f fd ps (spEqB R)) (hs : PySem.W.findIn X.K (.ref C) "__eq__" = some (some (.ref f))) (hf : PySem.W.isFn X.K (.ref f) = true) (hb : Binds X.K fd ps []) (hr : Room n X.A) : OpR X (compareOp .Eq) (rCmp C R false) := by
  intro pins s σ H x y u v Q I rx ry hq
  obtain ⟨a, b, c, dx, dy, fs, gs, rfl, rfl, ha, hb2, hR, k⟩ := hq
  cases rx
  cases ry
  obtain ⟨mA, J, _⟩ := ins_get I.hok ha
  obtain ⟨mB, J2, _⟩ := ins_get I.hok hb2
  obtain ⟨od, J, _⟩ := J.look
  obtain ⟨oe, J2, _⟩ := J2.look
  obtain ⟨m, hF⟩ := I.fr
  show wpAny (model X.prog X.w) X.A (richCompare .Eq (.ref a) (.ref b)) (EP X pins σ Q) X.xe s
  refine PySem.W.cmp_K (op := .Eq) (tb := .ref C) hr.units0 hF I.ok.mod.kin J J2.type (by simp [PySem.W.notFirst]) hs hf ?_
  have hsp : spEqB R [.ref a, .ref b] H (fun z H' => z = .bl c ∧ Same H H') (fun _ _ _ => False) := ⟨a, b, c, rfl, hR, fun H' e => ⟨rfl, e⟩⟩
  have hl := F.len _ _ _ _ hsp
  refine wpAny_call (codeAny_mono (F.run X.A X.stack s H ⟨[.ref a, .ref b], []⟩ [.ref a, .ref b] [.ref a, .ref b] _ _ hr I.env0 (by simpa using hb s [.ref a, .ref b] I.kIn (by simpa using hl)) (.cons rfl (.cons rfl .nil)) hsp) fun r s2 hq => ?_)
  cases r with
  | error e => exact hq.elim
  | ok fl =>
    cases fl with
    | ret z =>
      obtain ⟨y, H2, I2, rz, ez, ex⟩ := I.after hq
      subst ez
      cases rz
      refine ⟨.bl c, H2, I2, rfl, ?_⟩
      have q := k H2 ex
      rw [show (c != false) = c by cases c <;> rfl] at q
      exact q
    | next => exact hq.elim
    | brk => exact hq.elim
    | cont => exact hq.elim
theorem op_neE (F : FnOk X.prog X.w X.K X.mg X.base CX0 n f fd ps (spEqB R)) (hs : PySem.W.findIn X.K (.ref C) "__eq__" = some (some (.ref f))) (hf : PySem.W.isFn X.K (.ref f) = true) (hb : Binds X.K fd ps []) (hm : PySem.W.mroIn X.K C (.type "object") = some true)
    (hn : PySem.W.findIn X.K (.ref C) "__ne__" = some (some (.builtin "object.__ne__"))) (hr : Room (n + 1) X.A) : OpR X (compareOp .NotEq) (rCmp C R true) := by
  intro pins s σ H x y u v Q I rx ry hq
  obtain ⟨a, b, c, dx, dy, fs, gs, rfl, rfl, ha, hb2, hR, k⟩ := hq
  cases rx
  cases ry
  obtain ⟨mA, J, _⟩ := ins_get I.hok ha
  obtain ⟨mB, J2, _⟩ := ins_get I.hok hb2
  obtain ⟨od, J, _⟩ := J.look
  obtain ⟨oe, J2, _⟩ := J2.look
  show wpAny (model X.prog X.w) X.A (richCompare .NotEq (.ref a) (.ref b)) (EP X pins σ Q) X.xe s
  refine ne_inst (by have := hr.in1.units0; exact this) I.kIn J J2 hm hn hs hf ?_
  have hsp : spEqB R [.ref a, .ref b] H (fun z H' => z = .bl c ∧ Same H H') (fun _ _ _ => False) := ⟨a, b, c, rfl, hR, fun H' e => ⟨rfl, e⟩⟩
  have hl := F.len _ _ _ _ hsp
  refine wpAny_call (codeAny_mono (F.run X.A.in1 X.stack s H ⟨[.ref a, .ref b], []⟩ [.ref a, .ref b] [.ref a, .ref b] _ _ hr.in1 I.env0.in1 (by simpa using hb s [.ref a, .ref b] I.kIn (by simpa using hl)) (.cons rfl (.cons rfl .nil)) hsp) fun r s2 hq => ?_)
  cases r with
  | error e => exact hq.elim
  | ok fl =>
    cases fl with
    | ret z =>
      obtain ⟨y, H2, I2, rz, ez, ex⟩ := I.after hq
      subst ez
      cases rz
      refine ⟨c, rfl, .bl (!c), H2, I2, rfl, ?_⟩
      have q := k H2 ex
      rw [show (c != true) = !c by cases c <;> rfl] at q
      exact q
    | next => exact hq.elim
    | brk => exact hq.elim
    | cont => exact hq.elim
/-- repr(o), an own __repr__ -/
theorem call_reprE {sp : Sp} (F : GOk X.prog X.w X.K X.mg X.base n f fd ["self"] sp) (hs : PySem.W.findIn X.K (.ref C) "__repr__" = some (some (.ref f))) (hf : PySem.W.isFn X.K (.ref f) = true) (hb : Binds X.K fd ["self"] []) (hgu : X.A.guards = some []) (hr : Room (n + 1) X.A) :
    CallR X (.builtin "repr") (fun xs H Q => ∃ (a dx : Addr) (fs : List (Str × V)), xs = [.ref a] ∧ H a = some (.ins C dx fs) ∧ sp [.ref a] H (fun v H' => ∃ z, v = .str z ∧ Q (.str z) H') (fun _ _ _ => False)) := by
  intro pins s σ H xs us Q I r h
  obtain ⟨a, dx, fs, rfl, ha, hsp⟩ := h
  cases r with
  | cons r1 r2 =>
    cases r2
    cases r1
    obtain ⟨mA, J, _⟩ := ins_get I.hok ha
    obtain ⟨od, J, _⟩ := J.look
    obtain ⟨m, hF⟩ := I.fr
    refine PySem.W.repr_K hr.in1.units0 hF I.ok.mod.kin J hs hf ?_
    refine wpAny_call (codeAny_mono (F.run X.A.in1 X.stack s H ⟨[.ref a], []⟩ [.ref a] [.ref a] _ _ hgu hr.in1 I.env0.in1 (by simpa using hb s [.ref a] I.kIn rfl) (.cons rfl .nil) hsp) fun r s2 hq => ?_)
    cases r with
    | error e => exact hq.elim
    | ok fl =>
      cases fl with
      | ret z =>
        obtain ⟨y, H2, I2, rz, t, ez, q⟩ := I.after hq
        subst ez
        obtain ⟨tk, rfl⟩ := rz
        exact ⟨.str t, H2, I2, ⟨_, rfl⟩, q⟩
      | next => exact hq.elim
      | brk => exact hq.elim
      | cont => exact hq.elim
/-- {x!r}, x plain data -/
def tFmtT (K : PySem.W.Frag) (te : TE) : TE := fun σ H Q => te σ H fun x H1 => ∃ (a : Addr) (d : PyData), x = .ref a ∧ Dp K H1 x d ∧ d.showable = true ∧ d.hasDict = false ∧ d.depth ≤ 20 ∧ d.shown.length ≤ sizeLine ∧ Q (.str d.shown) H1
theorem pe_fmtT {e : Expr} {te : TE} {pos : Pos} (hgu : X.A.guards = some []) (hu : X.A.units + 64 < cLine) (he : PE X e te) : PE X (.FormattedValue e 114 none pos) (tFmtT X.K te) := by
  constructor
  intro pins s σ H Q I h
  refine wpAny_FormattedValue_repr (thn (he.run pins s σ H _ I h) fun v s1 hv => ?_)
  obtain ⟨x, H1, I1, r1, a, d, rfl, hd, hs, hn, hdep, hz, q⟩ := hv
  cases r1
  obtain ⟨as, rd⟩ := Dp.reads I1 d (.ref a) (.ref a) hd rfl
  refine pyReprObj_of_reads rd hs (PyData.noDict_hsm hn) hgu (by omega) (fun _ _ z => z) (fun h2 u tk keep => ?_) hz
  have I2 := I1.kept (t' := tk) keep
  exact wpAny_formatField_str ⟨.str d.shown, H1, I2, ⟨u, rfl⟩, q⟩ ⟨.str d.shown, H1, I2.tok _, ⟨_, rfl⟩, q⟩ hz
end
theorem Nice.shownLe {k B : Nat} {d : PyData} (h : Nice k B d) : d.shown.length ≤ 15 * B + 13 := by
  have q := PyData.shown_le 13 (by decide) d (PyData.leavesShort_of_canLay0 13 d h.lay h.ish)
  have := h.wt
  omega
end SE
namespace SE
open PySem PySem.Spec PyProof.Rows L2
abbrev sEq : Stmt := inClass sEffect 13
abbrev sRepr : Stmt := inClass sEffect 14
/-- what isinstance asks of the class -/
structure EI (K : PySem.W.Frag) (C : Addr) : Prop where
  ha : PySem.W.findIn K (.ref C) "__class__" = some (some (.builtin "object.__class__"))
  hn : PySem.W.specialIn K (.builtin "object.__class__") "__get__" = some (some (.builtin "getset_descriptor.__get__"))
  ht : PySem.W.takesIn K (.builtin "object.__class__") = some true
  hm : PySem.W.mroIn K C (.type "object") = some true
  ki : PySem.W.kitOne K (.ref C) (.ref C) = some true
/-- the parts of an effect as data -/
def dN : Eff → PyData
  | none => .none
  | some (xs, _, _) => .tuple (xs.map .str)
def dL : Eff → PyData
  | none => .none
  | some (_, ys, _) => .tuple (ys.map .str)
def dH : Eff → PyData
  | none => .none
  | some (_, _, p) => .int p
/-- an effect whose words are of items -/
def EffOk : Eff → Prop
  | none => True
  | some (xs, ys, p) => (∀ z ∈ xs, Item z) ∧ (∀ z ∈ ys, Item z) ∧ xs.length ≤ 1000 ∧ ys.length ≤ 1000 ∧ 0 ≤ p ∧ p ≤ 1000000000
theorem eff_eqv (a b : Eff) : (PyData.eqv (dN a) (dN b) && (PyData.eqv (dL a) (dL b) && PyData.eqv (dH a) (dH b))) = decide (a = b) := by
  cases a with
  | none =>
    cases b with
    | none => simp [dN, dL, dH, PyData.eqv]
    | some b =>
      obtain ⟨x, y, p⟩ := b
      simp [dN, dL, dH, PyData.eqv]
  | some a =>
    obtain ⟨x, y, p⟩ := a
    cases b with
    | none => simp [dN, dL, dH, PyData.eqv]
    | some b =>
      obtain ⟨x2, y2, p2⟩ := b
      show (PyData.eqv (.tuple (x.map .str)) (.tuple (x2.map .str)) && (PyData.eqv (.tuple (y.map .str)) (.tuple (y2.map .str)) && PyData.eqv (.int p) (.int p2))) = _
      rw [eqv_tupS, eqv_tupS]
      have e : PyData.eqv (.int p) (.int p2) = decide (p = p2) := by
        unfold PyData.eqv
        by_cases c : p = p2
        · subst c
          simp
        · simp [c]
      rw [e]
      by_cases c1 : x = x2 <;> by_cases c2 : y = y2 <;> by_cases c3 : p = p2 <;> simp [c1, c2, c3]
def shownE : Eff → Str
  | none => "Effect.never()"
  | some (xs, ys, p) => Str.empty ++ "Effect(" ++ (PyData.tuple (xs.map .str)).shown ++ ", " ++ (PyData.tuple (ys.map .str)).shown ++ ", peak=" ++ toString p ++ ")"
section
variable {P : Program} {w : World} {K : PySem.W.Frag} {mg : Str → Option Value} {base : Heap} {C : Addr}
theorem EffV.dp {H : Hp} {e : Addr} : ∀ {o : Eff}, EffV K C H e o → ∃ dx u v p, H e = some (.ins C dx (eF u v p)) ∧ Dp K H u (dN o) ∧ Dp K H v (dL o) ∧ Dp K H p (dH o)
  | none, h => by
    obtain ⟨dx, h1⟩ := NevAt.ex h
    exact ⟨dx, _, _, _, h1, .non, .non, .non⟩
  | some (_, _, _), h => by
    obtain ⟨dx, u, v, h1, h2, h3⟩ := EffAt.ex h
    exact ⟨dx, _, _, _, h1, .tup h2 (dp_strs _), .tup h3 (dp_strs _), .int _⟩
theorem EffOk.shaped : ∀ {o : Eff}, EffOk o → SeqAt.shaped (dN o) = true ∧ SeqAt.shaped (dL o) = true ∧ SeqAt.shaped (dH o) = true
  | none, _ => ⟨rfl, rfl, rfl⟩
  | some (_, _, _), h => ⟨(nice_tuple (nice_strs h.1)).shaped (by decide), (nice_tuple (nice_strs h.2.1)).shaped (by decide), rfl⟩
/-! ### __eq__ -/
def rEff (K : PySem.W.Frag) (C : Addr) (a b : Addr) (c : Bool) (H : Hp) : Prop := ∃ o1 o2, EffV K C H a o1 ∧ EffV K C H b o2 ∧ EffOk o1 ∧ EffOk o2 ∧ c = decide (o1 = o2)
theorem scEq : FnScope ["self", "other"] ["self", "other"] (defScope sEq) := ⟨rfl, rfl, rfl, by decide +kernel, rfl, by decide +kernel, by decide +kernel⟩
theorem ok_eq {f : Addr} {fd : FuncData} (F : Fun K "__eq__" "Effect.__eq__" sEq f fd) (T : EC K mg C) (TI : EI K C) (B : Blt mg) : FnOk P w K mg base CX0 1 f fd ["self", "other"] (spEqB (rEff K C)) := by
  refine F.ok scEq (fun vs H Q E h => ?_) (fun cdv A outer s H vs Q E hr h => ?_)
  · obtain ⟨a, b, c, rfl, _⟩ := h
    rfl
  · obtain ⟨a, b, c, rfl, ⟨o1, o2, h1, h2, k1, k2, rfl⟩, k⟩ := h
    obtain ⟨dx, u, v, p, i1, d1, d2, d3⟩ := h1.dp
    obtain ⟨dy, u2, v2, p2, i2, g1, g2, g3⟩ := h2.dp
    obtain ⟨s1, s2, s3⟩ := k1.shaped
    obtain ⟨t1, t2, t3⟩ := k2.shaped
    refine ⟨_, pss_one (ps_ret (pe_and (pe_callB call_isi (by rfl) B.isi (by decide +kernel) (pa_cons (pv 1) (pa_cons (pe_glob (v := .ref C) rfl T.mgE rfl) pa_nil)))
      (pe_and (pe_cmpR (op_eqD hr.units) (pe_fld (pv 0) rfl) (pe_fld (pv 1) rfl) (nomark _)) (pe_and (pe_cmpR (op_eqD hr.units) (pe_fld (pv 0) rfl) (pe_fld (pv 1) rfl) (nomark _)) (pe_one (pe_cmpR (op_eqD hr.units) (pe_fld (pv 0) rfl) (pe_fld (pv 1) rfl) (nomark _))))))), ?_⟩
    have fin := k H (Same.refl H)
    rw [← eff_eqv] at fin
    refine ⟨_, rfl, _, .ref C, .ref C, .ref C, true, rfl, .own C, .base (.ins i2 T.cl TI.ha TI.hn TI.ht TI.hm), TI.ki, true, rfl, iteT ?_⟩
    refine ⟨_, rfl, a, C, dx, _, _, rfl, i1, T.cl, T.nN, eF_needs _ _ _, _, rfl, b, C, dy, _, _, rfl, i2, T.cl, T.nN, eF_needs _ _ _, dN o1, dN o2, d1, g1, s1, t1, _, rfl, ?_⟩
    cases e1 : PyData.eqv (dN o1) (dN o2) with
    | false =>
      rw [e1, Bool.false_and] at fin
      exact iteF fin
    | true =>
      rw [e1, Bool.true_and] at fin
      refine iteT ⟨_, rfl, a, C, dx, _, _, rfl, i1, T.cl, T.nL, eF_leaves _ _ _, _, rfl, b, C, dy, _, _, rfl, i2, T.cl, T.nL, eF_leaves _ _ _, dL o1, dL o2, d2, g2, s2, t2, _, rfl, ?_⟩
      cases e2 : PyData.eqv (dL o1) (dL o2) with
      | false =>
        rw [e2, Bool.false_and] at fin
        exact iteF fin
      | true =>
        rw [e2, Bool.true_and] at fin
        exact iteT ⟨_, rfl, a, C, dx, _, _, rfl, i1, T.cl, T.nH, eF_high _ _ _, _, rfl, b, C, dy, _, _, rfl, i2, T.cl, T.nH, eF_high _ _ _, dH o1, dH o2, d3, g3, s3, t3, fin⟩
/-! ### __repr__ -/
def spRepr (K : PySem.W.Frag) (C : Addr) : Sp := fun vs H Q _ => ∃ (e : Addr) (o : Eff), vs = [.ref e] ∧ EffV K C H e o ∧ EffOk o ∧ Q (.str (shownE o)) H
theorem scRp : FnScope ["self"] ["self"] (defScope sRepr) := ⟨rfl, rfl, rfl, by decide +kernel, rfl, by decide +kernel, by decide +kernel⟩
theorem ok_repr {f : Addr} {fd : FuncData} (F : Fun K "__repr__" "Effect.__repr__" sRepr f fd) (T : EC K mg C) : GOk P w K mg base 1 f fd ["self"] (spRepr K C) := by
  obtain ⟨oc, od, kV, doc, pm, an, cv, ct, osl, rfl, look, hcode⟩ := F.ex
  refine gok_of look hcode scRp (fun vs H Q E h => ?_) (fun A out s H vs Q E hgu hr h => ?_)
  · obtain ⟨e, o, rfl, _⟩ := h
    rfl
  · obtain ⟨e, o, rfl, h, ok, k⟩ := h
    have body : ∃ t, PSs (cxOf CX0 P w K mg base ["self"] "Effect.__repr__" (defScope sRepr) f cv A out s H E).nox (defBody sRepr) t ∧ t { nx := fun _ H2 => Q .non H2, rt := Q } (start ["self"] [.ref e]) H := by
      refine ⟨_, pss_cons (ps_if (pt_cmpR op_isN (pe_fld (pv 0) rfl) pe_non (nomark _)) (pss_one (ps_ret pe_str)) pss_nil)
        (pss_one (ps_ret (pe_joined (.cons pe_str (.cons (pe_fmtT hgu hr.units (pe_fld (pv 0) rfl)) (.cons pe_str (.cons (pe_fmtT hgu hr.units (pe_fld (pv 0) rfl)) (.cons pe_str (.cons (pe_fmtR (pe_fld (pv 0) rfl)) (.cons pe_str .nil)))))))))), ?_⟩
      cases o with
      | none =>
        obtain ⟨dx, h1⟩ := NevAt.ex h
        exact ⟨_, rfl, e, C, dx, _, _, rfl, h1, T.cl, T.nN, eF_needs _ _ _, rfl, true, rfl, iteT k⟩
      | some o =>
        obtain ⟨xs, ys, p⟩ := o
        obtain ⟨dx, u, v, h1, h2, h3⟩ := EffAt.ex h
        obtain ⟨i1, i2, l1, l2, p0, p1⟩ := ok
        have n1 := nice_tuple (nice_strs i1)
        have n2 := nice_tuple (nice_strs i2)
        have z1 := n1.shownLe
        have z2 := n2.shownLe
        rw [List.length_map] at z1 z2
        have tl : (toString p : Str).length ≤ 13 := by
          have := PyData.shown_int_le (i := p) (by omega)
          exact this
        have big : ∀ m : Nat, m ≤ 400000 → m ≤ sizeLine := fun m hm => by
          rw [sizeLine_eq]
          omega
        have w0 : (Str.empty : Str).length = 0 := by decide +kernel
        have w1 : ("Effect(" : Str).length = 7 := by decide +kernel
        have w2 : (", " : Str).length = 2 := by decide +kernel
        have w3 : (", peak=" : Str).length = 7 := by decide +kernel
        have w4 : (")" : Str).length = 1 := by decide +kernel
        have lg : p.natAbs.log2 < 1920 := PySem.Flt.log2_lt_of (by decide) (Nat.lt_of_lt_of_le (show p.natAbs < 2 ^ 30 by show _ < 1073741824; omega) (Nat.pow_le_pow_right (by decide) (by decide)))
        refine ⟨_, rfl, e, C, dx, _, _, rfl, h1, T.cl, T.nN, eF_needs _ _ _, rfl, false, rfl, iteF ?_⟩
        refine ⟨_, rfl, big _ ?_, _, rfl, e, C, dx, _, _, rfl, h1, T.cl, T.nN, eF_needs _ _ _, u, _, rfl, .tup h2 (dp_strs xs), n1.sh, n1.nd, Nat.le_trans n1.dep (by decide), big _ (by omega), _, rfl, big _ ?_, _, rfl, big _ ?_, _, rfl, e, C, dx, _, _, rfl, h1, T.cl, T.nL, eF_leaves _ _ _, v, _, rfl, .tup h3 (dp_strs ys), n2.sh, n2.nd, Nat.le_trans n2.dep (by decide), big _ (by omega), _, rfl, big _ ?_, _, rfl, big _ ?_, _, rfl, e, C, dx, _, _, rfl, h1, T.cl, T.nH, eF_high _ _ _, .inr ⟨p, rfl, lg, _, rfl, big _ ?_, _, rfl, big _ ?_, k⟩⟩
        all_goals (simp only [len_add, w0, w1, w2, w3, w4]; omega)
    obtain ⟨t, a, b⟩ := body
    exact ⟨t, a.nox, b⟩
end
end SE
namespace SE
open PySem PySem.Spec PyProof.Rows L2
/-! ### the effect of a repeated sequence -/
def cw : List Str → List Str → Option (List Str × List Str)
  | [], R => some (R, [])
  | a :: P, [] => some ([], a :: P)
  | a :: P, b :: R => if a = b then cw P R else none
def mx (a b : Int) : Int := if b > a then b else a
def hg (A : Prt) : Int := (A.2.1.length : Int) - (A.1.length : Int)
theorem cw_nil (P : List Str) : cw P [] = some ([], P) := by
  cases P <;> rfl
theorem cw_eq : ∀ P R : List Str, cw P R = if P.take (min P.length R.length) = R.take (min P.length R.length) then some (R.drop (min P.length R.length), P.drop (min P.length R.length)) else none
  | [], R => by simp [cw]
  | a :: P, [] => by simp [cw]
  | a :: P, b :: R => by
    have ih := cw_eq P R
    unfold cw
    have e : min (a :: P).length (b :: R).length = min P.length R.length + 1 := by
      rw [List.length_cons, List.length_cons]
      omega
    rw [e, List.take_succ_cons, List.take_succ_cons, List.drop_succ_cons, List.drop_succ_cons]
    by_cases c : a = b
    · subst c
      rw [if_pos rfl, ih]
      simp
    · rw [if_neg c, if_neg (fun z => c (List.cons.inj z).1)]
theorem comp_cw (A B : Prt) : comp A B = (cw A.2.1 B.1).map fun z => (A.1 ++ z.1, B.2.1 ++ z.2, mx A.2.2 (hg A + B.2.2)) := by
  unfold comp
  rw [cw_eq]
  split
  · rfl
  · rfl
theorem assoc1 (A E : Prt) (s : Stp) : ((comp A (partM s)).bind fun D => comp D E) = (comp (partM s) E).bind (comp A) := by
  obtain ⟨x, y, p⟩ := A
  obtain ⟨u, v, q⟩ := E
  obtain ⟨b, z⟩ := s
  cases b with
  | true =>
    have e1 : partM (true, z) = ([], [z], 1) := rfl
    rw [e1]
    simp only [comp_cw, cw_nil, Option.map_some, Option.bind_some]
    cases u with
    | nil =>
      simp only [comp_cw, cw_nil, Option.map_some, Option.bind_some, hg, List.append_nil, List.nil_append]
      refine congrArg some (Prod.ext rfl (Prod.ext (by simp) ?_))
      simp only [List.length_append, List.length_cons, List.length_nil, mx]
      grind
    | cons t r =>
      simp only [cw]
      by_cases c : z = t
      · subst c
        simp only [List.cons_append, List.nil_append, cw, if_true, Option.map_some, Option.bind_some, List.append_nil, comp_cw]
        cases cw y r with
        | none => rfl
        | some g =>
          simp only [Option.map_some, hg]
          refine congrArg some (Prod.ext rfl (Prod.ext rfl ?_))
          simp only [List.length_append, List.length_cons, List.length_nil, mx]
          grind
      · simp [cw, c]
  | false =>
    have e1 : partM (false, z) = ([z], [], 0) := rfl
    rw [e1]
    simp only [comp_cw, cw, Option.map_some, Option.bind_some, List.append_nil]
    cases y with
    | nil =>
      simp only [cw, Option.map_some, Option.bind_some, hg, List.append_nil]
      refine congrArg some (Prod.ext (by simp) (Prod.ext (by simp) ?_))
      simp only [List.length_append, List.length_cons, List.length_nil, mx]
      grind
    | cons t r =>
      simp only [List.cons_append, List.nil_append, cw, cw_nil]
      by_cases c : t = z
      · subst c
        simp only [if_true, Option.map_some, Option.bind_some, List.append_nil, List.nil_append]
        cases cw r u with
        | none => rfl
        | some g =>
          simp only [Option.map_some, hg]
          refine congrArg some (Prod.ext rfl (Prod.ext rfl ?_))
          simp only [List.length_append, List.length_cons, List.length_nil, mx]
          grind
      · simp [c]
theorem joinF_cons (A B : Prt) (r : List Prt) : joinF A (B :: r) = (comp A B).bind fun D => joinF D r := by
  rw [joinF]
  cases comp A B <;> rfl
theorem comp_one (s : Stp) : comp ([], [], 0) (partM s) = some (partM s) := by
  obtain ⟨b, z⟩ := s
  cases b <;> simp [comp_cw, partM, cw, hg, mx]
theorem cw_len : ∀ (P R : List Str) (z : List Str × List Str), cw P R = some z → (z.2.length : Int) - z.1.length = P.length - R.length
  | [], R, z, h => by
    cases h
    show ((0 : Nat) : Int) - R.length = ((0 : Nat) : Int) - R.length
    rfl
  | a :: P, [], z, h => by
    cases h
    rfl
  | a :: P, b :: R, z, h => by
    unfold cw at h
    split at h
    · have ih := cw_len P R z h
      rw [List.length_cons, List.length_cons]
      omega
    · cases h
theorem hg_comp {A B D : Prt} (h : comp A B = some D) : hg D = hg A + hg B := by
  rw [comp_cw] at h
  cases e : cw A.2.1 B.1 with
  | none =>
    rw [e] at h
    cases h
  | some z =>
    rw [e] at h
    cases h
    have := cw_len _ _ _ e
    unfold hg
    simp only [List.length_append]
    omega
theorem pk_comp {A B D : Prt} (h : comp A B = some D) : D.2.2 = mx A.2.2 (hg A + B.2.2) := by
  rw [comp_cw] at h
  cases e : cw A.2.1 B.1 with
  | none =>
    rw [e] at h
    cases h
  | some z =>
    rw [e] at h
    cases h
    rfl
theorem hgp (s : Stp) : hg (partM s) ≤ (partM s).2.2 ∧ 0 ≤ (partM s).2.2 ∧ (partM s).2.2 ≤ 1 := by
  obtain ⟨b, z⟩ := s
  cases b
  · exact ⟨(by show ((0 : Nat) : Int) - ((1 : Nat) : Int) ≤ 0; decide), (by show (0 : Int) ≤ 0; decide), (by show (0 : Int) ≤ 1; decide)⟩
  · exact ⟨(by show ((1 : Nat) : Int) - ((0 : Nat) : Int) ≤ 1; decide), (by show (0 : Int) ≤ 1; decide), (by show (1 : Int) ≤ 1; decide)⟩
theorem joinF_eff : ∀ (ss : List Stp) (A : Prt), hg A ≤ A.2.2 → joinF A (ss.map partM) = (effM ss).bind (comp A)
  | [], A, h => by
    obtain ⟨x, y, p⟩ := A
    show some (x, y, p) = comp (x, y, p) ([], [], 0)
    rw [comp_cw, cw_nil]
    simp only [Option.map_some, List.append_nil, List.nil_append]
    refine congrArg some (Prod.ext rfl (Prod.ext rfl ?_))
    have h' : hg (x, y, p) ≤ p := h
    simp only [mx]
    split <;> omega
  | s :: ss, A, h => by
    have ih := joinF_eff ss
    rw [List.map_cons, joinF_cons]
    have hs := hgp s
    have e : effM (s :: ss) = (effM ss).bind (comp (partM s)) := by
      rw [← ih _ hs.1]
      unfold effM joinM
      rw [List.map_cons, joinF_cons, comp_one, Option.bind_some]
    rw [e]
    have e2 : ((comp A (partM s)).bind fun D => joinF D (ss.map partM)) = (comp A (partM s)).bind fun D => (effM ss).bind (comp D) := by
      cases q : comp A (partM s) with
      | none => rfl
      | some D =>
        rw [Option.bind_some, Option.bind_some]
        refine ih D ?_
        rw [hg_comp q, pk_comp q]
        unfold mx
        split <;> omega
    rw [e2]
    cases effM ss with
    | none =>
      simp only [Option.bind_none]
      cases comp A (partM s) <;> rfl
    | some E => exact assoc1 A E s
theorem joinF_app : ∀ (ps qs : List Prt) (A : Prt), joinF A (ps ++ qs) = (joinF A ps).bind fun D => joinF D qs
  | [], qs, A => rfl
  | B :: ps, qs, A => by
    rw [List.cons_append, joinF_cons, joinF_cons]
    cases comp A B with
    | none => rfl
    | some D =>
      rw [Option.bind_some, Option.bind_some]
      exact joinF_app ps qs D
/-- what the effect of a sequence keeps to -/
theorem joinF_ok : ∀ (ss : List Stp) (A D : Prt), PrtOk A → (∀ s ∈ ss, Item s.2) → joinF A (ss.map partM) = some D → PrtOk D ∧ D.1.length + D.2.1.length ≤ A.1.length + A.2.1.length + ss.length ∧ D.2.2 ≤ A.2.2 + ss.length
  | [], A, D, h, _, e => by
    cases e
    refine ⟨h, by simp, by simp⟩
  | s :: ss, A, D, h, hI, e => by
    rw [List.map_cons, joinF_cons] at e
    cases q : comp A (partM s) with
    | none =>
      rw [q] at e
      cases e
    | some B =>
      rw [q, Option.bind_some] at e
      have ok := comp_ok h (partM_ok (hI s List.mem_cons_self)) q
      have ih := joinF_ok ss B D ok.1 (fun z m => hI z (List.mem_cons_of_mem _ m)) e
      have pk := pk_comp q
      have hs := hgp s
      have l1 : (partM s).1.length + (partM s).2.1.length = 1 := by
        unfold partM
        split <;> rfl
      have hh : hg A ≤ A.2.2 := h.h1
      refine ⟨ih.1, ?_, ?_⟩
      · rw [List.length_cons]
        omega
      · have i3 := ih.2.2
        rw [pk] at i3
        have : mx A.2.2 (hg A + (partM s).2.2) ≤ A.2.2 + 1 := by
          unfold mx
          split <;> omega
        rw [List.length_cons]
        omega
theorem effM_ok {ss : List Stp} {D : Prt} (hI : ∀ s ∈ ss, Item s.2) (h : effM ss = some D) : PrtOk D ∧ D.1.length + D.2.1.length ≤ ss.length ∧ D.2.2 ≤ ss.length := by
  have q := joinF_ok ss ([], [], 0) D ⟨fun z m => (by cases m), fun z m => (by cases m), Int.le_refl _, Int.le_refl _⟩ hI h
  refine ⟨q.1, ?_, ?_⟩
  · have := q.2.1
    simpa using this
  · have := q.2.2
    simpa using this
theorem effM_app {ss tt : List Stp} (hI : ∀ s ∈ ss, Item s.2) : effM (ss ++ tt) = (effM ss).bind fun A => (effM tt).bind (comp A) := by
  unfold effM joinM
  rw [List.map_append, joinF_app]
  cases q : joinF ([], [], 0) (ss.map partM) with
  | none => rfl
  | some A =>
    rw [Option.bind_some, Option.bind_some]
    exact joinF_eff tt A (effM_ok hI q).1.h1
theorem cw_self_left : ∀ (w r : List Str), cw w (w ++ r) = some (r, [])
  | [], r => rfl
  | a :: w, r => by
    rw [List.cons_append, cw, if_pos rfl]
    exact cw_self_left w r
theorem cw_self_right : ∀ (w r : List Str), cw (w ++ r) w = some ([], r)
  | [], r => cw_nil r
  | a :: w, r => by
    rw [List.cons_append, cw, if_pos rfl]
    exact cw_self_right w r
theorem effM_EffOk {ss : List Stp} (hI : ∀ s ∈ ss, Item s.2) (hl : ss.length ≤ 1000) : EffOk (effM ss) := by
  cases h : effM ss with
  | none => exact trivial
  | some o =>
    obtain ⟨x, y, p⟩ := o
    obtain ⟨a, b, c⟩ := effM_ok hI h
    have b' : x.length + y.length ≤ ss.length := b
    have c' : p ≤ ss.length := c
    exact ⟨a.i1, a.i2, by omega, by omega, a.h0, by omega⟩
end SE
/-! repr of a list of objects with an own __repr__; an own __repr__ while a list's repr is under way. -/
namespace SE
open PySem PySem.Spec PyProof.Rows L2
/-- the promise of a def that is called while the reprs g are under way -/
structure GOkG (P : Program) (w : World) (K : PySem.W.Frag) (mg : Str → Option Value) (base : Heap) (g : List Code) (k : Nat) (f : Addr) (fd : FuncData) (ps : List Str) (sp : Sp) : Prop where
  len : ∀ xs H Q E, sp xs H Q E → xs.length = ps.length
  run : ∀ (A : Around) (out : List Env) (s : Shared) (H : Hp) (args : Args) (us : List Value) (xs : List V) (Q : VK) (E : XK), A.guards = some g → Room k A → Env0 P w K mg base A out s H →
    BindsTo s fd args (ps.zip us) → Vals xs us → sp xs H Q E → codeAny (model P w) A (.call (.ref f) args) (CR (fun _ _ _ _ _ _ => False) out P w H s Q E) s
section
variable {P : Program} {w : World} {K : PySem.W.Frag} {mg : Str → Option Value} {base : Heap} {g : List Code}
theorem gok_ofG {k : Nat} {f : Addr} {nm ql : Str} {pars : Arguments} {bd : List Stmt} {sc : Scope} {dV kV doc pm cv ct oc : Value} {an od : Option Addr}
    {osl : Array (Option Value)} {N ps : List Str} {sp : Sp} (look : K.lookup f = some ⟨oc, od, .func (PySem.W.fnOf nm ql pars bd sc dV kV doc pm an cv ct), osl⟩) (hcode : PySem.W.codeIn K cv ql = true) (S : FnScope N ps sc)
    (len : ∀ xs H Q E, sp xs H Q E → xs.length = ps.length)
    (hbd : ∀ (A : Around) (out : List Env) (s : Shared) (H : Hp) (xs : List V) (Q : VK) (E : XK), A.guards = some g → Room k (A.deeper (envOfC ql sc s.heap.objs.size f cv)) → sp xs H Q E →
      ∃ t, PSs (cxOf (fun _ _ _ _ _ _ => False) P w K mg base N ql sc f cv A out s H E) bd t ∧ t { nx := fun _ H2 => Q .non H2, rt := Q } (start N xs) H) :
    GOkG P w K mg base g (k + 1) f (PySem.W.fnOf nm ql pars bd sc dV kV doc pm an cv ct) ps sp := by
  constructor
  · exact len
  intro A out s H args us xs Q E hgu hroom env hbind hvals hpre
  have hlen := len _ _ _ _ hpre
  have kin : K.In s.heap := env.mod.kin.keeps fun b o z => (env.bs b o z).1
  have nolim : s.heap.NoLimit := env.mod.nolimit.keeps fun b o z => (env.bs b o z).1
  have kinds : ∀ y ∈ ps.zip us, sc.names.lookup y.1 = some .local ∨ (sc.names.lookup y.1 = some .cell ∧ ((cellsFrom (s.heap.objs.size + 1) sc.names []).lookup y.1).isSome = true) := by
    rintro ⟨n, v⟩ hy
    rcases S.par n (List.of_mem_zip hy).1 with q | q
    · exact .inl q
    · exact .inr ⟨q, PySem.W.cellsFrom_some _ _ _ (.inl q)⟩
  apply codeAny_call_function hroom.depth (kin _ _ look) rfl S.co S.gen rfl (PySem.W.codeRec_of kin hcode)
  apply hbind
  refine wpAny_newFunctionEnv_cells S.kind kinds fun ev hev s2 inc => ?_
  subst hev
  refine ⟨nolim.keeps inc.toInCall.keep, codeAny_func ?_⟩
  obtain ⟨t, der, rd⟩ := hbd A out s H xs Q E hgu (hroom.deeper _) hpre
  have J0 : Inv (cxOf (fun _ _ _ _ _ _ => False) P w K mg base N ql sc f cv A out s H E) [] (start N xs) H s2 := inv_start S hroom.hd env hlen hvals inc
  refine wpAny_mono (der.run [] s2 (start N xs) H _ J0 rd) (fun fl s3 hs => ?_) fun e s3 hs => hs
  cases fl with
  | ret u =>
    obtain ⟨v, σ3, H3, J, rv, q⟩ := hs
    exact ⟨v, H3, J.os, J.bare, J.base, J.hok, rv, q⟩
  | next =>
    obtain ⟨σ3, H3, J, q⟩ := hs
    exact ⟨V.non, H3, J.os, J.bare, J.base, J.hok, rfl, q⟩
  | brk => exact hs.elim fun _ z => z.elim fun _ z => z.2.elim
  | cont => exact hs.elim fun _ z => z.elim fun _ z => z.2.elim
end
section
variable {prog : Program} {w : World} {A : Around} {E : Value → Shared → Prop} {s : Shared} {K : PySem.W.Frag} {x C f : Addr} {ox : Obj} {od : Option Obj}
/-- the repr of an object with an own __repr__, inside a list's -/
theorem under_own {b : Nat} {Q : Value → Shared → Prop} (hu : A.units < cLine) (X : K.In s.heap) (I : PySem.W.InstAt s.heap x ox C od) (hs : PySem.W.findIn K (.ref C) "__repr__" = some (some (.ref f))) (hf : PySem.W.isFn K (.ref f) = true)
    (h : wpAny (model prog w) A (call (.ref f) [.ref x]) (fun r s' => ∃ t u, r = .str t u ∧ Q (.str t u) s') E s) : wpAny (model prog w) A (pyReprObjUnder b (.ref x)) Q E s := by
  unfold pyReprObjUnder pyReprObjBy
  refine wpAny_bind (wpAny_cRoomFor hu ?_)
  refine wpAny_bind (wpAny_bind (I.type.here ((PySem.W.looks_findIn X hs).here ?_)))
  show wpAny _ _ (if (some (Value.ref f)).isNone = true then _ else _) _ _ _
  rw [if_neg (by simp)]
  simp only [callSpecialIfBoundBy?, bindSpecialIfBound?]
  have fin : ∀ {R : Option Value → Shared → Prop}, (∀ t u s', Q (.str t u) s' → R (some (.str t u)) s') → wpAny (model prog w) A (call (.ref f) ([.ref x] ++ []) >>= fun v => pure (some v)) R E s := fun hR =>
    wpAny_bind (wpAny_mono h (fun v s' h' => by
      obtain ⟨t, u, rfl, q⟩ := h'
      exact wpAny_pure (hR t u s' q)) fun _ _ h' => h')
  have post : ∀ t u s', Q (.str t u) s' → wpAny (model prog w) A (do
      if ← isInstance (.str t u) (.type "str") then pure (Value.str t u) else raiseError "TypeError" s!"__repr__ returned non-string (type {← typeNameOf (.str t u)})") Q E s' := fun t u s' q =>
    wpAny_bind (wpAny_isInstance (typeIs_str _ _ _) isSubtype_str_str (by exact wpAny_pure q))
  refine wpAny_bind (wpAny_holding (wpAny_bind (wpAny_bind (wpAny_bind (I.type.here ((PySem.W.looks_findIn X hs).here ?_))))))
  refine wpAny_bind (wpAny_askSetting (wpAny_ite ?_))
  split
  · exact wpAny_bind ((PySem.W.bind_fn X _ (beq_iff_eq.mp hf)).here (wpAny_pure (by exact fin post)))
  · exact wpAny_tryCatch (wpAny_bind ((PySem.W.bind_fn X _ (beq_iff_eq.mp hf)).here (wpAny_pure (by exact fin post))))
end
theorem vals_strs : ∀ {ts : List Str} {its : List Value}, Vals (ts.map V.str) its → ∃ done : List (Str × Tok), its = strValues done ∧ done.map (·.1) = ts
  | [], _, h => by
    cases h
    exact ⟨[], rfl, rfl⟩
  | t :: ts, _, h => by
    cases h with
    | cons r q =>
      obtain ⟨u, rfl⟩ := r
      obtain ⟨done, rfl, e⟩ := vals_strs q
      exact ⟨(t, u) :: done, rfl, by rw [List.map_cons, e]⟩
theorem vals_refs : ∀ {es : List Addr} {its : List Value}, Vals (es.map V.ref) its → its = es.map Value.ref
  | [], _, h => by
    cases h
    rfl
  | e :: es, _, h => by
    cases h with
    | cons r q =>
      cases r
      rw [vals_refs q]
      rfl
theorem loop_depth {A : Around} {args : Args} : (A.under (.builtin "list.__repr__.loop" args)).depth ≤ A.depth + 1 := by
  simp [Around.under, Code.weight, Code.isCreation, Code.isGuard, Code.isCaller, Code.frames, Code.isFrame, guardIds]
theorem Room.loop {k : Nat} {A : Around} (r : Room (k + 1) A) (args : Args) : Room k (A.under (.builtin "list.__repr__.loop" args)) :=
  ⟨r.hd, by have := r.dp; have := loop_depth (A := A) (args := args); omega, by have := r.un; rw [units_under_list_loop]; omega⟩
theorem Env0.loop {P : Program} {w : World} {K : PySem.W.Frag} {mg : Str → Option Value} {base : Heap} {A : Around} {outer : List Env} {s : Shared} {H : Hp} (e : Env0 P w K mg base A outer s H) (args : Args) :
    Env0 P w K mg base (A.under (.builtin "list.__repr__.loop" args)) outer s H := ⟨by first | exact e.frames | (simpa [Around.under, Code.envs, Code.isFrame, pushEnvs] using e.frames), e.mod, e.bs, e.bsz, e.funs, e.frf, e.hok, e.bare⟩
section
variable {X : Cx} {n : Nat} {C f : Addr} {fd : FuncData}
open Builtin Builtin.List in
theorem repr_go {pins : List (Addr × Obj)} {σ : L2.St} {H : Hp} {sp : List Code → Sp} {R : Result → Shared → Prop} {L P : Addr} {es : List Addr} {ts : List Str} (F : ∀ g, GOkG X.prog X.w X.K X.mg X.base g n f fd ["self"] (sp g)) (hs : PySem.W.findIn X.K (.ref C) "__repr__" = some (some (.ref f))) (hf : PySem.W.isFn X.K (.ref f) = true) (hb : Binds X.K fd ["self"] [])
    (hgu : X.A.guards = some []) (hr : Room (n + 3) X.A) (hLP : L ≠ P) (hL : H L = some (.lst (es.map V.ref))) (hP : H P = none) (hlen : es.length = ts.length) (hsz : (listText ts).length ≤ sizeLine)
    (hT : ∀ (i : Nat) (e : Addr), es[i]? = some e → ∃ t, ts[i]? = some t ∧ (∃ dx fs, H e = some (.ins C dx fs)) ∧ ∀ (rest : List Value) (ys : List V), sp [.builtin "list.__repr__.loop" ⟨.ref L :: rest, []⟩] [.ref e] (upd H P (.lst ys)) (fun v H' => v = .str t ∧ H' = upd H P (.lst ys)) (fun _ _ _ => False))
    (hR : ∀ u s', Inv X pins σ (upd H P (.lst (ts.map V.str))) s' → R (.ok (.ret (.str (listText ts) u))) s') :
    ∀ (k i : Nat) (s : Shared), es.length - i = k → i ≤ es.length → Inv X pins σ (upd H P (.lst ((ts.take i).map V.str))) s →
    codeAny (model X.prog X.w) X.A.in1 (.builtin "list.__repr__.loop" ⟨[.ref L, rawInt i, .ref P, rawInt ((0 + piled (ts.take i) : Nat) : Int)], []⟩) R s := by
  have hX : (listText ts).length = (textFrom 0 "[" ts).length + 1 := by
    show (textFrom 0 "[" ts ++ "]").length = _
    rw [strLen_append]; rfl
  have hLn := textFrom_len ts 0 "["
  have hsz1 : es.length ≤ sizeLine := by
    have h1 := hLn.1
    rw [if_neg (Nat.lt_irrefl 0)] at h1
    omega
  have hsz2 : ∀ t ∈ ts, t.length ≤ sizeLine := fun t ht => by
    have h2 := hLn.2.1 t ht
    omega
  have hp3 := piled_le_listText ts
  intro k
  induction k with
  | zero =>
    intro i s hk hi I
    have hin : i = es.length := by omega
    have hLs : (upd H P (.lst ((ts.take i).map V.str))) L = some (.lst (es.map V.ref)) := by rw [upd_ne hLP]; exact hL
    obtain ⟨_, its, nL, rL, lL, eL⟩ := I.lstM hLs
    obtain ⟨_, itp, nP, rP, lP, eP⟩ := I.lstM (l := P) upd_same
    obtain ⟨done, rfl, hdone⟩ := vals_strs rP
    refine codeAny_builtin PySem.F.entry_list_repr_loop ?_
    show wpAny _ _ («list.__repr__.loop» ⟨[.ref L, .int i 0, .ref P, .int ((0 + piled (ts.take i) : Nat) : Int) 0], []⟩) _ _ s
    rw [repr_loop_tree]
    refine wpAny_bind (wpAny_listItems eL rfl ?_)
    have hnone : its.toArray[(i : Int).toNat]? = none := by
      rw [List.length_map] at lL
      simp only [Int.toNat_natCast, List.getElem?_toArray]
      exact List.getElem?_eq_none (by omega)
    simp only [hnone]
    unfold reprEnd
    refine wpAny_bind (wpAny_listItems eP rfl ?_)
    rw [show (strValues done).toArray.toList = strValues done from List.toList_toArray .., repr_fold]
    refine wpAny_bind (wpAny_pure ?_)
    have hall : done.map (·.1) = ts := by rw [hdone, hin, hlen, List.take_length]
    rw [hall]
    refine wpAny_bind (wpAny_mkStr (wpAny_pure ?_) hsz)
    rw [hin, hlen, List.take_length] at I
    exact hR _ _ (I.tok _)
  | succ k ih =>
    intro i s hk hi I
    have hlt : i < es.length := by omega
    have hLs : (upd H P (.lst ((ts.take i).map V.str))) L = some (.lst (es.map V.ref)) := by rw [upd_ne hLP]; exact hL
    obtain ⟨_, its, nL, rL, lL, eL⟩ := I.lstM hLs
    have hits := vals_refs rL
    subst hits
    obtain ⟨t, ht, ⟨dx, fs, he⟩, hsp⟩ := hT i es[i] (by simp [hlt])
    have hp1 := piled_take_succ ht
    have hp2 := piled_take_le ts (i + 1)
    refine codeAny_builtin PySem.F.entry_list_repr_loop ?_
    show wpAny _ _ («list.__repr__.loop» ⟨[.ref L, .int i 0, .ref P, .int ((0 + piled (ts.take i) : Nat) : Int) 0], []⟩) _ _ s
    rw [repr_loop_tree]
    refine wpAny_bind (wpAny_listItems eL rfl ?_)
    have hsome : (es.map Value.ref).toArray[(i : Int).toNat]? = some (.ref es[i]) := by simp [hlt]
    simp only [hsome]
    rw [Int.toNat_natCast]
    have ePne : es[i] ≠ P := fun z => by rw [z, hP] at he; cases he
    have heP : (upd H P (.lst ((ts.take i).map V.str))) es[i] = some (.ins C dx fs) := by rw [upd_ne ePne]; exact he
    obtain ⟨mA, J, _⟩ := ins_get I.hok heP
    obtain ⟨od, J, _⟩ := J.look
    have gG : ((X.A.in1).under (.builtin "list.__repr__.loop" ⟨[.ref L, .int i 0, .ref P, .int ((0 + piled (ts.take i) : Nat) : Int) 0], []⟩)).guards = some [.builtin "list.__repr__.loop" ⟨[.ref L, .int i 0, .ref P, .int ((0 + piled (ts.take i) : Nat) : Int) 0], []⟩] := guards_under_guard (isGuard_list_loop _) hgu
    have hrA := Room.loop (k := n) ((show Room (n + 2) X.A.in1 from Room.in1 hr).mono (by omega)) ⟨[.ref L, .int i 0, .ref P, .int ((0 + piled (ts.take i) : Nat) : Int) 0], []⟩
    refine wpAny_bind (wpAny_holding (wpAny_pyReprUnder_ref (by omega) (under_own hrA.units0 I.kIn J hs hf ?_)))
    refine wpAny_call (codeAny_mono ((F _).run _ X.stack s _ ⟨[.ref es[i]], []⟩ [.ref es[i]] [.ref es[i]] _ _ gG hrA (Env0.loop I.env0.in1 _) (by simpa using hb s [.ref es[i]] I.kIn rfl) (.cons rfl .nil) (hsp _ ((ts.take i).map V.str))) fun r s2 hq => ?_)
    cases r with
    | error e => exact hq.elim
    | ok fl =>
      cases fl with
      | next => exact hq.elim
      | brk => exact hq.elim
      | cont => exact hq.elim
      | ret z =>
        obtain ⟨y, H2, I2, rz, ey, eH⟩ := I.after hq
        subst ey
        subst eH
        obtain ⟨tk, rfl⟩ := rz
        refine ⟨t, tk, rfl, t, tk, rfl, ?_⟩
        refine wpAny_bind (wpAny_mkStr ?_ (hsz2 t (List.mem_of_getElem? ht)))
        refine wpAny_bind ?_
        show wpAny _ _ (updateSeq P _) _ _ _
        have I3 := I2.tok (s2.toks + 1)
        obtain ⟨zP, itp, nP, rP, lP, eP⟩ := I3.lstM (l := P) upd_same
        have lt : ((ts.take i).map V.str).length ≤ i := by rw [List.length_map, List.length_take]; omega
        have hasz : itp.toArray.size ≤ sizeLine := by rw [List.size_toArray]; omega
        refine wpAny_updateSeq eP rfl (wpAny_pure ⟨PySem.F.quiet_list_repr_loop _, ?_⟩) hasz
        have e1 : ((i : Int) + 1) = ((i + 1 : Nat) : Int) := by omega
        have e2 : 0 + piled (ts.take i) + (t.length + 2) = 0 + piled (ts.take (i + 1)) := by omega
        rw [e1, e2]
        refine ih (i + 1) _ (by omega) hlt ?_
        have ev : (ts.take (i + 1)).map V.str = (ts.take i).map V.str ++ [V.str t] := by
          rw [List.take_add_one, ht, List.map_append]
          rfl
        have I4 := I3.lset (its' := itp ++ [.str t s2.toks]) (f := fun x => x.push (.str t s2.toks)) (ys := (ts.take (i + 1)).map V.str) (t' := s2.toks + 1) upd_same eP (by simp) (by rw [ev]; exact rP.append (.cons ⟨_, rfl⟩ .nil)) (by rw [List.length_map, List.length_take]; omega)
        rw [upd_upd] at I4
        exact I4
/-- repr of a list of objects with an own __repr__ -/
def rReprL (C : Addr) (sp : List Code → Sp) : List V → Hp → VK → Prop := fun xs H Q => ∃ (L : Addr) (es : List Addr) (ts : List Str), xs = [.ref L] ∧ H L = some (.lst (es.map V.ref)) ∧ es ≠ [] ∧ es.length = ts.length ∧ (listText ts).length ≤ sizeLine ∧
  (∀ (i : Nat) (e : Addr), es[i]? = some e → ∃ t, ts[i]? = some t ∧ (∃ dx fs, H e = some (.ins C dx fs)) ∧ ∀ (P : Addr) (rest : List Value) (ys : List V), H P = none → sp [.builtin "list.__repr__.loop" ⟨.ref L :: rest, []⟩] [.ref e] (upd H P (.lst ys)) (fun v H' => v = .str t ∧ H' = upd H P (.lst ys)) (fun _ _ _ => False)) ∧
  ∀ P, H P = none → Q (.str (listText ts)) (upd H P (.lst (ts.map V.str)))
theorem call_reprL {sp : List Code → Sp} (F : ∀ g, GOkG X.prog X.w X.K X.mg X.base g n f fd ["self"] (sp g)) (hs : PySem.W.findIn X.K (.ref C) "__repr__" = some (some (.ref f))) (hf : PySem.W.isFn X.K (.ref f) = true) (hb : Binds X.K fd ["self"] [])
    (hgu : X.A.guards = some []) (hr : Room (n + 3) X.A) : CallR X (.builtin "repr") (rReprL C sp) := by
  intro pins s σ H xs us Q I r h
  obtain ⟨L, es, ts, rfl, hL, hne, hlen, hsz, hT, k⟩ := h
  cases r with
  | cons r1 r2 =>
    cases r2
    cases r1
    obtain ⟨_, its, nL, rL, lL, eL⟩ := I.lstM hL
    have hits := vals_refs rL
    subst hits
    cases es with
    | nil => exact absurd rfl hne
    | cons e es =>
      have hu := hr.units
      refine call_repr_slot (T := "list") (by omega) ⟨_, eL, rfl⟩ PySem.F.slot_list_repr.toG ?_
      refine wpAny_call (codeAny_call_builtin PySem.F.slot_list_repr.plain PySem.F.entry_list_repr (PySem.F.slot_list_repr.check _ _ _ _ _ _ _ _ ⟨_, eL, rfl⟩ (PySem.F.args_list_repr_1 _) ?_))
      have hg2 : (X.A.in1).in1.guards = some [] := hgu
      refine wpAny_list_repr_head (A := X.A.in1.in1) hg2 (fun v rest kw hm => (by cases hm)) eL rfl ?_
      refine wpAny_bind (m := newList []) (wpAny_newObj_type ?_)
      refine wpAny_pure ⟨PySem.F.quiet_list_repr_loop _, ?_⟩
      have hP : H s.heap.objs.size = none := I.hok.fresh (Nat.le_refl _)
      have I1 : Inv X pins σ (upd H s.heap.objs.size (.lst [])) { s with heap := s.heap.push ({ cls := .type "list", data := .seq #[] } : Obj) } := I.laid (t' := s.toks) (fun b u q => Heap.get?_push_of_some _ q) (Nat.le_refl _) ⟨Nat.zero_le _, [], 0, .nil, Heap.get?_push_size _ rfl⟩
      have hLP : L ≠ s.heap.objs.size := fun z => by rw [z, hP] at hL; cases hL
      exact repr_go (R := callEnd (fun r s₁ => ∃ x t, r = .str x t ∧ EP X pins σ Q r s₁) X.xe) F hs hf hb hgu hr hLP hL hP hlen hsz (fun i e he => by
        obtain ⟨t, ht, hi, q⟩ := hT i e he
        exact ⟨t, ht, hi, fun rest ys => q _ rest ys hP⟩) (fun u s' I' => ⟨_, _, rfl, .str (listText ts), _, I', ⟨u, rfl⟩, k _ hP⟩) _ 0 _ rfl (Nat.zero_le _) I1
end
theorem repr_strs {prog : Program} {w : World} {h₀ : Heap} : ∀ (done : List (Str × Tok)), (∀ z ∈ done.map (·.1), (reprText z).length ≤ sizeLine) → ReprAllK prog w [] h₀ 0 (strValues done) (PyData.shownAll ((done.map (·.1)).map PyData.str))
  | [], _ => .nil
  | (z, t) :: r, h => .cons (.of_is (.str z t (h z (List.mem_cons_self ..))) _ _ _) (repr_strs r fun y m => h y (List.mem_cons_of_mem _ m))
theorem mem_shownAll {z : Str} : ∀ {zs : List Str}, z ∈ zs → reprText z ∈ PyData.shownAll (zs.map PyData.str)
  | [], m => by cases m
  | y :: r, m => by
    rcases List.mem_cons.mp m with e | e
    · rw [e]
      exact List.mem_cons_self ..
    · exact List.mem_cons_of_mem _ (mem_shownAll e)
section
variable {X : Cx}
/-- the reprs under way are those of lists -/
def GuL (g : List Code) (H : Hp) : Prop := ∀ id v rest kw, Code.builtin id ⟨v :: rest, kw⟩ ∈ g → ∃ L us, v = .ref L ∧ H L = some (.lst us)
/-- {x!r}, x a tuple of texts, while the reprs g are under way -/
def tFmtG (K : PySem.W.Frag) (g : List Code) (te : TE) : TE := fun σ H Q => te σ H fun x H1 => ∃ (a : Addr) (zs : List Str), x = .ref a ∧ SqT K H1 a (zs.map V.str) ∧ GuL g H1 ∧ (PyData.tuple (zs.map PyData.str)).shown.length ≤ sizeLine ∧ Q (.str (PyData.tuple (zs.map PyData.str)).shown) H1
theorem pe_fmtG {e : Expr} {te : TE} {pos : Pos} {g : List Code} (hgu : X.A.guards = some g) (hu : X.A.units + 64 < cLine) (he : PE X e te) : PE X (.FormattedValue e 114 none pos) (tFmtG X.K g te) := by
  constructor
  intro pins s σ H Q I h
  refine wpAny_FormattedValue_repr (thn (he.run pins s σ H _ I h) fun v s1 hv => ?_)
  obtain ⟨x, H1, I1, r1, a, zs, rfl, hT, hc, hz, q⟩ := hv
  cases r1
  obtain ⟨its, rv, ⟨o, ho, oc, n, od⟩, _⟩ := I1.tuple hT
  have hc : Clear g a := fun id v rest kw hm => by
    obtain ⟨L, us, rfl, hL⟩ := hc id v rest kw hm
    intro e
    cases e
    obtain ⟨_, _, _, _, _, eL⟩ := I1.lstM hL
    rw [ho] at eL
    cases eL
    simp at oc
  obtain ⟨done, rfl, ed⟩ := vals_strs rv
  subst ed
  have hz' : (tupleText (PyData.shownAll ((done.map (·.1)).map PyData.str))).length ≤ sizeLine := by simpa only [PyData.shown] using hz
  have hall : ∀ z ∈ done.map (·.1), (reprText z).length ≤ sizeLine := fun z m => by
    have mm := mem_shownAll m
    exact Nat.le_trans (tupleText_mem_le mm) hz'
  refine wpAny_pyReprObj_tupleK (as := []) (d := 0) ho oc od (by simp) (repr_strs done hall) hgu (fun b hb => by rw [List.mem_singleton.mp hb]; exact hc) (by omega) (fun _ _ z => z) (fun h2 u tk keep => ?_) hz'
  have I2 := I1.kept (t' := tk) keep
  exact wpAny_formatField_str ⟨.str _, H1, I2, ⟨u, rfl⟩, q⟩ ⟨.str _, H1, I2.tok _, ⟨_, rfl⟩, q⟩ hz'
end
end SE
namespace SE
open PySem PySem.Spec PyProof.Rows L2
section
variable {P : Program} {w : World} {K : PySem.W.Frag} {mg : Str → Option Value} {base : Heap} {C : Addr}
/-! ### __repr__ while a list's repr is under way -/
def spReprG (K : PySem.W.Frag) (C : Addr) (g : List Code) : Sp := fun vs H Q _ => ∃ (e : Addr) (o : Eff), vs = [.ref e] ∧ EffV K C H e o ∧ EffOk o ∧ GuL g H ∧ Q (.str (shownE o)) H
theorem ok_reprG {f : Addr} {fd : FuncData} {g : List Code} (F : Fun K "__repr__" "Effect.__repr__" sRepr f fd) (T : EC K mg C) : GOkG P w K mg base g 1 f fd ["self"] (spReprG K C g) := by
  obtain ⟨oc, od, kV, doc, pm, an, cv, ct, osl, rfl, look, hcode⟩ := F.ex
  refine gok_ofG look hcode scRp (fun vs H Q E h => ?_) (fun A out s H vs Q E hgu hr h => ?_)
  · obtain ⟨e, o, rfl, _⟩ := h
    rfl
  · obtain ⟨e, o, rfl, h, ok, hc, k⟩ := h
    have body : ∃ t, PSs (cxOf CX0 P w K mg base ["self"] "Effect.__repr__" (defScope sRepr) f cv A out s H E).nox (defBody sRepr) t ∧ t { nx := fun _ H2 => Q .non H2, rt := Q } (start ["self"] [.ref e]) H := by
      refine ⟨_, pss_cons (ps_if (pt_cmpR op_isN (pe_fld (pv 0) rfl) pe_non (nomark _)) (pss_one (ps_ret pe_str)) pss_nil)
        (pss_one (ps_ret (pe_joined (.cons pe_str (.cons (pe_fmtG hgu hr.units (pe_fld (pv 0) rfl)) (.cons pe_str (.cons (pe_fmtG hgu hr.units (pe_fld (pv 0) rfl)) (.cons pe_str (.cons (pe_fmtR (pe_fld (pv 0) rfl)) (.cons pe_str .nil)))))))))), ?_⟩
      cases o with
      | none =>
        obtain ⟨dx, h1⟩ := NevAt.ex h
        exact ⟨_, rfl, e, C, dx, _, _, rfl, h1, T.cl, T.nN, eF_needs _ _ _, rfl, true, rfl, iteT k⟩
      | some o =>
        obtain ⟨xs, ys, p⟩ := o
        obtain ⟨dx, u, v, h1, h2, h3⟩ := EffAt.ex h
        obtain ⟨i1, i2, l1, l2, p0, p1⟩ := ok
        have n1 := nice_tuple (nice_strs i1)
        have n2 := nice_tuple (nice_strs i2)
        have z1 := n1.shownLe
        have z2 := n2.shownLe
        rw [List.length_map] at z1 z2
        have tl : (toString p : Str).length ≤ 13 := by
          have := PyData.shown_int_le (i := p) (by omega)
          exact this
        have big : ∀ m : Nat, m ≤ 400000 → m ≤ sizeLine := fun m hm => by
          rw [sizeLine_eq]
          omega
        have w0 : (Str.empty : Str).length = 0 := by decide +kernel
        have w1 : ("Effect(" : Str).length = 7 := by decide +kernel
        have w2 : (", " : Str).length = 2 := by decide +kernel
        have w3 : (", peak=" : Str).length = 7 := by decide +kernel
        have w4 : (")" : Str).length = 1 := by decide +kernel
        have lg : p.natAbs.log2 < 1920 := PySem.Flt.log2_lt_of (by decide) (Nat.lt_of_lt_of_le (show p.natAbs < 2 ^ 30 by show _ < 1073741824; omega) (Nat.pow_le_pow_right (by decide) (by decide)))
        refine ⟨_, rfl, e, C, dx, _, _, rfl, h1, T.cl, T.nN, eF_needs _ _ _, rfl, false, rfl, iteF ?_⟩
        refine ⟨_, rfl, big _ ?_, _, rfl, e, C, dx, _, _, rfl, h1, T.cl, T.nN, eF_needs _ _ _, u, xs, rfl, h2, hc, big _ (by omega), _, rfl, big _ ?_, _, rfl, big _ ?_, _, rfl, e, C, dx, _, _, rfl, h1, T.cl, T.nL, eF_leaves _ _ _, v, ys, rfl, h3, hc, big _ (by omega), _, rfl, big _ ?_, _, rfl, big _ ?_, _, rfl, e, C, dx, _, _, rfl, h1, T.cl, T.nH, eF_high _ _ _, .inr ⟨p, rfl, lg, _, rfl, big _ ?_, _, rfl, big _ ?_, k⟩⟩
        all_goals (simp only [len_add, w0, w1, w2, w3, w4]; omega)
    obtain ⟨t, a, b⟩ := body
    exact ⟨t, a.nox, b⟩
def ReprHasG (P : Program) (w : World) (K : PySem.W.Frag) (mg : Str → Option Value) (base : Heap) (C : Addr) : Prop := ∃ f fd, (∀ g, GOkG P w K mg base g 1 f fd ["self"] (spReprG K C g)) ∧ PySem.W.findIn K (.ref C) "__repr__" = some (some (.ref f)) ∧ PySem.W.isFn K (.ref f) = true ∧ Binds K fd ["self"] []
end
end SE
/-! Plain data in which empty dicts may stand: its kinds, ==, in, and repr of every kind. -/
namespace SE
open PySem PySem.Spec PyProof.Rows L2
mutual
inductive DpX (K : PySem.W.Frag) (H : Hp) : V → PyData → Prop
  | non : DpX K H .non .none
  | bl (b : Bool) : DpX K H (.bl b) (.bool b)
  | int (i : Int) : DpX K H (.int i) (.int i)
  | str (x : Str) : DpX K H (.str x) (.str x)
  | lst {a : Addr} {xs : List V} {ds : List PyData} : SqL K H a xs → DpXs K H xs ds → DpX K H (.ref a) (.list ds)
  | tup {a : Addr} {xs : List V} {ds : List PyData} : SqT K H a xs → DpXs K H xs ds → DpX K H (.ref a) (.tuple ds)
  | emp {a : Addr} : H a = some (.dK []) → DpX K H (.ref a) (.dict [])
inductive DpXs (K : PySem.W.Frag) (H : Hp) : List V → List PyData → Prop
  | nil : DpXs K H [] []
  | cons {v : V} {vs : List V} {d : PyData} {ds : List PyData} : DpX K H v d → DpXs K H vs ds → DpXs K H (v :: vs) (d :: ds)
end
section
variable {K : PySem.W.Frag} {H H' : Hp}
mutual
theorem DpX.same (s : Same H H') : ∀ (d : PyData) (v : V), DpX K H v d → DpX K H' v d
  | .none, _, h => by cases h; exact .non
  | .bool b, _, h => by cases h; exact .bl b
  | .int i, _, h => by cases h; exact .int i
  | .str x, _, h => by cases h; exact .str x
  | .list ds, _, h => by
    cases h with
    | lst a b => exact .lst (Same.seq s a) (DpXs.same s ds _ b)
  | .tuple ds, _, h => by
    cases h with
    | tup a b => exact .tup (Same.tup s a) (DpXs.same s ds _ b)
  | .dict kvs, _, h => by
    cases h with
    | emp a => exact .emp (s _ _ a)
theorem DpXs.same (s : Same H H') : ∀ (ds : List PyData) (vs : List V), DpXs K H vs ds → DpXs K H' vs ds
  | [], _, h => by cases h; exact .nil
  | d :: ds, _, h => by
    cases h with
    | cons a b => exact .cons (DpX.same s d _ a) (DpXs.same s ds _ b)
end
theorem DpXs.at : ∀ {vs : List V} {ds : List PyData} {i : Nat} {v : V}, DpXs K H vs ds → vs[i]? = some v → ∃ d, ds[i]? = some d ∧ DpX K H v d
  | _, _, 0, v, .cons a b, h => by cases h; exact ⟨_, rfl, a⟩
  | _, _, i + 1, v, .cons a b, h => by
    obtain ⟨d, h1, h2⟩ := DpXs.at b h
    exact ⟨d, h1, h2⟩
theorem DpXs.len : ∀ {vs : List V} {ds : List PyData}, DpXs K H vs ds → vs.length = ds.length
  | _, _, .nil => rfl
  | _, _, .cons a b => by rw [List.length_cons, List.length_cons, DpXs.len b]
end
section
variable {X : Cx} {pins : List (Addr × Obj)} {σ : L2.St} {H : Hp} {s : Shared}
theorem emp_obj (I : Inv X pins σ H s) {a : Addr} (e : H a = some (.dK [])) : (a == sysModules) = false ∧ ∃ o n, s.heap.get? a = some o ∧ o.cls = .type "dict" ∧ o.data = .dict #[] n := by
  obtain ⟨_, hd, vs, rel, o, es, ep, h1, h2, h3, h4, h5, h6⟩ := dk_of I.hok e
  cases rel
  have : es = #[] := by
    have q : es.toList = [] := by
      cases hq : es.toList with
      | nil => rfl
      | cons x r => rw [hq] at h5; cases h5
    exact Array.toList_eq_nil_iff.mp q
  subst this
  exact ⟨hd, o, ep, h1, h2.1, h3⟩
mutual
theorem DpX.reads (I : Inv X pins σ H s) : ∀ (d : PyData) (v : V) (u : Value), DpX X.K H v d → RelV v u → ∃ as, Reads s.heap u d as
  | .none, _, _, h, r => by
    cases h
    cases r
    exact ⟨_, Reads.none⟩
  | .bool b, _, _, h, r => by
    cases h
    cases r
    exact ⟨_, Reads.bool b⟩
  | .int i, _, _, h, r => by
    cases h
    obtain ⟨t, rfl⟩ := r
    exact ⟨_, Reads.int i t⟩
  | .str x, _, _, h, r => by
    cases h
    obtain ⟨t, rfl⟩ := r
    exact ⟨_, Reads.str x t⟩
  | .list ds, _, _, h, r => by
    cases h with
    | lst hs ha =>
      cases r
      obtain ⟨its, rv, ⟨o, n, ho, hc, _, hd⟩, _⟩ := I.list hs
      obtain ⟨as, hr⟩ := DpXs.reads I ds _ its ha rv
      exact ⟨_, Reads.list ho hc hd hr⟩
  | .tuple ds, _, _, h, r => by
    cases h with
    | tup hs ha =>
      cases r
      obtain ⟨its, rv, ⟨o, ho, hc, n, hd⟩, _⟩ := I.tuple hs
      obtain ⟨as, hr⟩ := DpXs.reads I ds _ its ha rv
      exact ⟨_, Reads.tuple ho hc hd hr⟩
  | .dict _, _, _, h, r => by
    cases h with
    | emp e =>
      cases r
      obtain ⟨_, o, n, h1, h2, h3⟩ := emp_obj I e
      exact ⟨_, Reads.dict (kvs := []) h1 h2 h3 .nil .nil⟩
theorem DpXs.reads (I : Inv X pins σ H s) : ∀ (ds : List PyData) (vs : List V) (us : List Value), DpXs X.K H vs ds → Vals vs us → ∃ as, ReadsAll s.heap us ds as
  | [], _, _, h, r => by
    cases h
    cases r
    exact ⟨_, ReadsAll.nil⟩
  | d :: ds, _, _, h, r => by
    cases h with
    | cons h1 h2 =>
      cases r with
      | cons r1 r2 =>
        obtain ⟨as, q1⟩ := DpX.reads I d _ _ h1 r1
        obtain ⟨bs, q2⟩ := DpXs.reads I ds _ _ h2 r2
        exact ⟨_, ReadsAll.cons q1 q2⟩
end
mutual
theorem DpX.reprK (I : Inv X pins σ H s) : ∀ (d : PyData) (v : V) (u : Value), DpX X.K H v d → RelV v u → d.showable = true → d.shown.length ≤ sizeLine → ∃ bs, ReadAtMost s.heap d.depth bs ∧ ReprK X.prog X.w bs s.heap d.depth u d.shown
  | .none, _, _, h, r, _, _ => by
    cases h
    cases r
    exact ⟨[], (fun _ h => nomatch h), by simp only [PyData.shown]; exact .of_is ReprIs.none _ _ _⟩
  | .bool b, _, _, h, r, _, _ => by
    cases h
    cases r
    exact ⟨[], (fun _ h => nomatch h), by simp only [PyData.shown]; exact .of_is (ReprIs.bool b) _ _ _⟩
  | .int i, _, _, h, r, hs, _ => by
    cases h
    obtain ⟨t, rfl⟩ := r
    exact ⟨[], (fun _ h => nomatch h), by simp only [PyData.shown]; exact .of_is (ReprIs.int t (by simpa [PyData.showable] using hs)) _ _ _⟩
  | .str x, _, _, h, r, _, hz => by
    cases h
    obtain ⟨t, rfl⟩ := r
    exact ⟨[], (fun _ h => nomatch h), by simp only [PyData.shown]; exact .of_is (ReprIs.str x t (by simpa only [PyData.shown] using hz)) _ _ _⟩
  | .list ds, _, _, h, r, hs, hz => by
    cases h with
    | @lst a xs _ hs' ha =>
      cases r
      obtain ⟨its, rv, ⟨o, n, ho, hc, _, hd⟩, _⟩ := I.list hs'
      obtain ⟨as, hr⟩ := DpXs.reads I ds _ its ha rv
      have hz' : (listText (PyData.shownAll ds)).length ≤ sizeLine := by simpa only [PyData.shown] using hz
      obtain ⟨bs, hb, hk⟩ := DpXs.reprK I ds _ its ha rv (by simpa [PyData.showable] using hs) (fun t ht => Nat.le_trans (listText_mem_le ht) hz')
      have rr : Reads s.heap (.ref a) (.list ds) _ := .list ho hc hd hr
      have hna : a ∉ bs := not_mem_of_deeper rr (by simp only [PyData.depth]; omega) hb
      refine ⟨a :: bs, ReadAtMost.cons rr (by simp only [PyData.depth]; omega) hb, ?_⟩
      simp only [PyData.depth, PyData.shown]
      cases its with
      | nil =>
        cases hr
        simp only [PyData.shownAll, listText_nil]
        exact ReprK.listEmpty ho hc hd
      | cons x l => exact ReprK.list ho hc hd hna (by simpa using hk.length_eq) (fun i y e => hk.item i y (by simpa using e))
  | .tuple ds, _, _, h, r, hs, hz => by
    cases h with
    | @tup a xs _ hs' ha =>
      cases r
      obtain ⟨its, rv, ⟨o, ho, hc, n, hd⟩, _⟩ := I.tuple hs'
      obtain ⟨as, hr⟩ := DpXs.reads I ds _ its ha rv
      have hz' : (tupleText (PyData.shownAll ds)).length ≤ sizeLine := by simpa only [PyData.shown] using hz
      obtain ⟨bs, hb, hk⟩ := DpXs.reprK I ds _ its ha rv (by simpa [PyData.showable] using hs) (fun t ht => Nat.le_trans (tupleText_mem_le ht) hz')
      have rr : Reads s.heap (.ref a) (.tuple ds) _ := .tuple ho hc hd hr
      have hna : a ∉ bs := not_mem_of_deeper rr (by simp only [PyData.depth]; omega) hb
      refine ⟨a :: bs, ReadAtMost.cons rr (by simp only [PyData.depth]; omega) hb, ?_⟩
      simp only [PyData.depth, PyData.shown]
      exact ReprK.tuple ho hc hd hna hk
  | .dict _, _, _, h, r, _, hz => by
    cases h with
    | @emp a e =>
      cases r
      obtain ⟨hsys, o, n, h1, h2, h3⟩ := emp_obj I e
      have rr : Reads s.heap (.ref a) (.dict []) _ := .dict (kvs := []) h1 h2 h3 .nil .nil
      have h0 : ReadAtMost s.heap 0 [] := fun _ h => nomatch h
      refine ⟨[a], ReadAtMost.cons rr (by simp only [PyData.depth]; omega) h0, ?_⟩
      simp only [PyData.depth, PyData.shown, PyData.depthKv, PyData.shownKv]
      exact ReprK.dict h1 h2 h3 hsys (by simp) .nil
theorem DpXs.reprK (I : Inv X pins σ H s) : ∀ (ds : List PyData) (vs : List V) (us : List Value), DpXs X.K H vs ds → Vals vs us → PyData.showableAll ds = true → (∀ t ∈ PyData.shownAll ds, t.length ≤ sizeLine) →
    ∃ bs, ReadAtMost s.heap (PyData.depthAll ds) bs ∧ ReprAllK X.prog X.w bs s.heap (PyData.depthAll ds) us (PyData.shownAll ds)
  | [], _, _, h, r, _, _ => by
    cases h
    cases r
    exact ⟨[], (fun _ h => nomatch h), by simp only [PyData.shownAll]; exact .nil⟩
  | d :: ds, _, _, h, r, hs, hz => by
    cases h with
    | cons h1 h2 =>
      cases r with
      | cons r1 r2 =>
        have hs' : d.showable = true ∧ PyData.showableAll ds = true := by simpa [PyData.showableAll] using hs
        obtain ⟨b1, hb1, k1⟩ := DpX.reprK I d _ _ h1 r1 hs'.1 (hz _ (by simp only [PyData.shownAll]; exact List.mem_cons_self ..))
        obtain ⟨b2, hb2, k2⟩ := DpXs.reprK I ds _ _ h2 r2 hs'.2 (fun t ht => hz t (by simp only [PyData.shownAll]; exact List.mem_cons_of_mem _ ht))
        refine ⟨b1 ++ b2, ?_, ?_⟩
        · intro b hm
          simp only [PyData.depthAll]
          rcases List.mem_append.mp hm with hm | hm
          · obtain ⟨d', as', r', hd'⟩ := hb1 b hm
            exact ⟨d', as', r', Nat.le_trans hd' (Nat.le_max_left _ _)⟩
          · obtain ⟨d', as', r', hd'⟩ := hb2 b hm
            exact ⟨d', as', r', Nat.le_trans hd' (Nat.le_max_right _ _)⟩
        · simp only [PyData.depthAll, PyData.shownAll]
          exact .cons ((k1.more fun b hb => List.mem_append_left _ hb).level_le (Nat.le_max_left _ _)) (k2.more_le (fun b hb => List.mem_append_right _ hb) (Nat.le_max_right _ _))
end
end
section
variable {X : Cx}
def rEqX (K : PySem.W.Frag) : R2 := fun x y H Q => ∃ d e, DpX K H x d ∧ DpX K H y e ∧ SeqAt.shaped d = true ∧ SeqAt.shaped e = true ∧ Q (.bl (PyData.eqv d e)) H
def rNeX (K : PySem.W.Frag) : R2 := fun x y H Q => ∃ d e, DpX K H x d ∧ DpX K H y e ∧ SeqAt.shaped d = true ∧ SeqAt.shaped e = true ∧ Q (.bl (!PyData.eqv d e)) H
def rInX (K : PySem.W.Frag) : R2 := fun x y H Q => ∃ d ds, DpX K H x d ∧ DpX K H y (.list ds) ∧ SeqAt.shaped d = true ∧ SeqAt.shaped (.list ds) = true ∧ Q (.bl (ds.any fun z => PyData.eqv z d)) H
theorem op_eqX (hu : X.A.units + 64 < cLine) : OpR X (compareOp .Eq) (rEqX X.K) := by
  intro pins s σ H x y v u Q I rx ry h
  obtain ⟨d, e, hd, he, sd, se, q⟩ := h
  obtain ⟨as, r1⟩ := DpX.reads I d x v hd rx
  obtain ⟨bs, r2⟩ := DpX.reads I e y u he ry
  exact SeqAt.compareEq_shaped r1 r2 sd se hu ⟨.bl _, H, I, rfl, q⟩
theorem op_neX (hu : X.A.units + 64 < cLine) : OpR X (compareOp .NotEq) (rNeX X.K) := by
  intro pins s σ H x y v u Q I rx ry h
  obtain ⟨d, e, hd, he, sd, se, q⟩ := h
  obtain ⟨as, r1⟩ := DpX.reads I d x v hd rx
  obtain ⟨bs, r2⟩ := DpX.reads I e y u he ry
  exact SeqAt.compareNe_shaped r1 r2 sd se hu ⟨.bl _, H, I, rfl, q⟩
theorem op_inX (hu : X.A.units + 65 < cLine) : OpR X (compareOp .In) (rInX X.K) := by
  intro pins s σ H x y v u Q I rx ry h
  obtain ⟨d, ds, hd, he, sd, se, q⟩ := h
  obtain ⟨as, r1⟩ := DpX.reads I d x v hd rx
  obtain ⟨bs, r2⟩ := DpX.reads I (.list ds) y u he ry
  exact SeqAt.in_list_reads r2 r1 (SeqAt.canLay_of_shaped se) (SeqAt.canLay_of_shaped sd) (room_in_shaped sd hu) ⟨.bl _, H, I, rfl, q⟩
/-- the kind of such data -/
def tyD : PyData → String
  | .none => "NoneType"
  | .bool _ => "bool"
  | .int _ => "int"
  | .str _ => "str"
  | .list _ => "list"
  | .tuple _ => "tuple"
  | .dict _ => "dict"
theorem DpX.ty {K : PySem.W.Frag} {H : Hp} {v : V} {d : PyData} (h : DpX K H v d) : TyX K H v (.type (tyD d)) := by
  cases h with
  | non => exact .base .non
  | bl b => exact .base (.bl b)
  | int i => exact .base (.int i)
  | str x => exact .base (.str x)
  | lst h _ =>
    rcases h with (h | ⟨o, h⟩) | ⟨o, its, n, h1, h2, _⟩
    · exact .base (.lst h)
    · exact .base (.frz h)
    · exact .kList h1 h2
  | tup h _ =>
    rcases h with (h | ⟨o, h⟩) | ⟨o, its, n, h1, h2, _⟩
    · exact .base (.tup h)
    · exact .fTuple h
    · exact .kTuple h1 h2
  | emp h => exact .base (.dK h)
def isStr : PyData → Bool
  | .str _ => true
  | _ => false
def isTup : PyData → Bool
  | .tuple _ => true
  | _ => false
def isLst : PyData → Bool
  | .list _ => true
  | _ => false
theorem kit_str {K : PySem.W.Frag} : ∀ d : PyData, PySem.W.kitOne K (.type (tyD d)) (.type "str") = some (isStr d)
  | .none => kit_ty (show kitB "NoneType" "str" = some false by decide +kernel)
  | .bool _ => kit_ty (show kitB "bool" "str" = some false by decide +kernel)
  | .int _ => kit_ty (show kitB "int" "str" = some false by decide +kernel)
  | .str _ => kit_ty (show kitB "str" "str" = some true by decide +kernel)
  | .list _ => kit_ty (show kitB "list" "str" = some false by decide +kernel)
  | .tuple _ => kit_ty (show kitB "tuple" "str" = some false by decide +kernel)
  | .dict _ => kit_ty (show kitB "dict" "str" = some false by decide +kernel)
theorem kit_tup {K : PySem.W.Frag} : ∀ d : PyData, PySem.W.kitOne K (.type (tyD d)) (.type "tuple") = some (isTup d)
  | .none => kit_ty (show kitB "NoneType" "tuple" = some false by decide +kernel)
  | .bool _ => kit_ty (show kitB "bool" "tuple" = some false by decide +kernel)
  | .int _ => kit_ty (show kitB "int" "tuple" = some false by decide +kernel)
  | .str _ => kit_ty (show kitB "str" "tuple" = some false by decide +kernel)
  | .list _ => kit_ty (show kitB "list" "tuple" = some false by decide +kernel)
  | .tuple _ => kit_ty (show kitB "tuple" "tuple" = some true by decide +kernel)
  | .dict _ => kit_ty (show kitB "dict" "tuple" = some false by decide +kernel)
theorem kit_lst {K : PySem.W.Frag} : ∀ d : PyData, PySem.W.kitOne K (.type (tyD d)) (.type "list") = some (isLst d)
  | .none => kit_ty (show kitB "NoneType" "list" = some false by decide +kernel)
  | .bool _ => kit_ty (show kitB "bool" "list" = some false by decide +kernel)
  | .int _ => kit_ty (show kitB "int" "list" = some false by decide +kernel)
  | .str _ => kit_ty (show kitB "str" "list" = some false by decide +kernel)
  | .list _ => kit_ty (show kitB "list" "list" = some true by decide +kernel)
  | .tuple _ => kit_ty (show kitB "tuple" "list" = some false by decide +kernel)
  | .dict _ => kit_ty (show kitB "dict" "list" = some false by decide +kernel)
/-- repr(x), x such data of any kind -/
def rRepX (K : PySem.W.Frag) : List V → Hp → VK → Prop := fun xs H Q => ∃ (x : V) (d : PyData), xs = [x] ∧ DpX K H x d ∧ d.showable = true ∧ d.depth ≤ 20 ∧ d.shown.length ≤ sizeLine ∧ Q (.str d.shown) H
theorem call_repX (hgu : X.A.guards = some []) (hu : X.A.units + 64 < cLine) : CallR X (.builtin "repr") (rRepX X.K) := by
  intro pins s σ H xs us Q I r h
  obtain ⟨x, d, rfl, hd, hs, hdep, hz, q⟩ := h
  cases r with
  | cons r1 r2 =>
    cases r2
    rename_i u
    cases hd with
    | non =>
      cases r1
      simp only [PyData.shown] at q
      exact PySem.P.repr_of_none ⟨.str _, H, I.tok _, ⟨_, rfl⟩, q⟩
    | bl b =>
      cases r1
      simp only [PyData.shown] at q
      exact PySem.P.repr_of_bool ⟨.str _, H, I.tok _, ⟨_, rfl⟩, q⟩
    | int i =>
      obtain ⟨t, rfl⟩ := r1
      simp only [PyData.shown] at q
      exact PySem.P.repr_of_int (by simpa [PyData.showable] using hs) ⟨.str _, H, I.tok _, ⟨_, rfl⟩, q⟩
    | str z =>
      obtain ⟨t, rfl⟩ := r1
      simp only [PyData.shown] at q hz
      exact PySem.P.repr_of_str ⟨.str _, H, I.tok _, ⟨_, rfl⟩, q⟩ hz
    | @lst a xs ds hs' ha =>
      cases r1
      obtain ⟨its, rv, ⟨o, n, ho, hc, _, hdd⟩, _⟩ := I.list hs'
      obtain ⟨as, hr⟩ := DpXs.reads I ds _ its ha rv
      have hz' : (listText (PyData.shownAll ds)).length ≤ sizeLine := by simpa only [PyData.shown] using hz
      obtain ⟨bs, hb, hk⟩ := DpXs.reprK I ds _ its ha rv (by simpa [PyData.showable] using hs) (fun t ht => Nat.le_trans (listText_mem_le ht) hz')
      have rr : Reads s.heap (.ref a) (.list ds) _ := .list ho hc hdd hr
      have hna : a ∉ bs := not_mem_of_deeper rr (by simp only [PyData.depth]; omega) hb
      simp only [PyData.depth] at hdep
      simp only [PyData.shown] at q
      refine call_repr_slot (T := "list") (by omega) ⟨o, ho, hc⟩ PySem.F.slot_list_repr.toG ?_
      cases its with
      | nil =>
        cases hr
        simp only [PyData.shownAll, listText_nil] at q
        exact call_list_repr_empty ⟨o, ho, hc⟩ ho hdd ⟨_, _, rfl, .str _, H, I.tok _, ⟨_, rfl⟩, q⟩
      | cons y l =>
        exact call_list_reprK ho hc hdd hna (by simpa using hk.length_eq) (fun i y e => hk.item i y (by simpa using e)) (A := X.A.in1) hgu (fun b _ => Clear.nil b) (by show X.A.units + 1 + _ < cLine; omega) (fun _ _ z => z) (fun h' u tk keep => ⟨_, _, rfl, .str _, H, I.kept (t' := tk) keep, ⟨_, rfl⟩, q⟩) hz'
    | @tup a xs ds hs' ha =>
      cases r1
      obtain ⟨its, rv, ⟨o, ho, hc, n, hdd⟩, _⟩ := I.tuple hs'
      obtain ⟨as, hr⟩ := DpXs.reads I ds _ its ha rv
      have hz' : (tupleText (PyData.shownAll ds)).length ≤ sizeLine := by simpa only [PyData.shown] using hz
      obtain ⟨bs, hb, hk⟩ := DpXs.reprK I ds _ its ha rv (by simpa [PyData.showable] using hs) (fun t ht => Nat.le_trans (tupleText_mem_le ht) hz')
      have rr : Reads s.heap (.ref a) (.tuple ds) _ := .tuple ho hc hdd hr
      have hna : a ∉ bs := not_mem_of_deeper rr (by simp only [PyData.depth]; omega) hb
      simp only [PyData.depth] at hdep
      simp only [PyData.shown] at q
      refine call_repr_slot (T := "tuple") (by omega) ⟨o, ho, hc⟩ PySem.F.slot_tuple_repr ?_
      exact call_tuple_reprK ho hc hdd hna hk (A := X.A.in1) hgu (fun b _ => Clear.nil b) (by show X.A.units + 1 + _ < cLine; omega) (fun _ _ z => z) (fun h' u tk keep => ⟨_, _, rfl, .str _, H, I.kept (t' := tk) keep, ⟨_, rfl⟩, q⟩) hz'
    | @emp a e =>
      cases r1
      obtain ⟨hsys, o, n, h1, h2, h3⟩ := emp_obj I e
      have hz' : (dictText []).length ≤ sizeLine := by simpa only [PyData.shown, PyData.shownKv] using hz
      simp only [PyData.shown, PyData.shownKv] at q
      refine call_repr_slot (T := "dict") (by omega) ⟨o, h1, h2⟩ PySem.F.slot_dict_repr ?_
      exact call_dict_reprK (as := []) (d := 0) h1 h2 h3 hsys (by simp) .nil (A := X.A.in1) hgu (fun b _ => Clear.nil b) (by show X.A.units + 1 + _ < cLine; omega) (fun _ _ z => z) (fun h' u tk keep => ⟨_, _, rfl, .str _, H, I.kept (t' := tk) keep, ⟨_, rfl⟩, q⟩) hz'
end
end SE
namespace SE
open PySem PySem.Spec PyProof.Rows L2
/-! ### data whose dicts are empty -/
mutual
def layE : PyData → Bool
  | .none | .bool _ | .int _ => true
  | .str x => PyData.strOk x
  | .list xs | .tuple xs => layEAll xs
  | .dict kvs => kvs.isEmpty
def layEAll : List PyData → Bool
  | [] => true
  | x :: xs => layE x && layEAll xs
end
mutual
theorem layE_of : ∀ d : PyData, d.canLay0 = true → layE d = true
  | .none, _ => by simp only [layE]
  | .bool _, _ => by simp only [layE]
  | .int _, _ => by simp only [layE]
  | .str x, h => by simpa only [layE, PyData.canLay0] using h
  | .list xs, h => by
    simp only [layE]
    exact layEAll_of xs (by simpa only [PyData.canLay0] using h)
  | .tuple xs, h => by
    simp only [layE]
    exact layEAll_of xs (by simpa only [PyData.canLay0] using h)
  | .dict _, h => by simp only [PyData.canLay0] at h; exact nomatch h
theorem layEAll_of : ∀ xs : List PyData, PyData.canLayAll0 xs = true → layEAll xs = true
  | [], _ => by simp only [layEAll]
  | x :: xs, h => by
    have h' : x.canLay0 = true ∧ PyData.canLayAll0 xs = true := by simpa only [PyData.canLayAll0, Bool.and_eq_true] using h
    simp only [layEAll, Bool.and_eq_true]
    exact ⟨layE_of x h'.1, layEAll_of xs h'.2⟩
end
mutual
theorem leavesShort_of_layE : ∀ d : PyData, layE d = true → d.intsShort 13 = true → d.leavesShort 13 = true
  | .none, _, _ => rfl
  | .bool _, _, _ => rfl
  | .int i, _, h => by simpa only [PyData.leavesShort, PyData.intsShort] using h
  | .str x, hc, _ => PyData.leavesShort_of_canLay0 13 (.str x) (by simpa only [layE, PyData.canLay0] using hc) rfl
  | .list xs, hc, h => by
    simp only [PyData.leavesShort]
    exact leavesShortAll_of_layE xs (by simpa only [layE] using hc) (by simpa only [PyData.intsShort] using h)
  | .tuple xs, hc, h => by
    simp only [PyData.leavesShort]
    exact leavesShortAll_of_layE xs (by simpa only [layE] using hc) (by simpa only [PyData.intsShort] using h)
  | .dict kvs, hc, _ => by
    simp only [layE, List.isEmpty_iff] at hc
    rw [hc]
    rfl
theorem leavesShortAll_of_layE : ∀ xs : List PyData, layEAll xs = true → PyData.intsShortAll 13 xs = true → PyData.leavesShortAll 13 xs = true
  | [], _, _ => rfl
  | x :: xs, hc, h => by
    have hc' : layE x = true ∧ layEAll xs = true := by simpa only [layEAll, Bool.and_eq_true] using hc
    have h' : x.intsShort 13 = true ∧ PyData.intsShortAll 13 xs = true := by simpa only [PyData.intsShortAll, Bool.and_eq_true] using h
    simp only [PyData.leavesShortAll, Bool.and_eq_true]
    exact ⟨leavesShort_of_layE x hc'.1 h'.1, leavesShortAll_of_layE xs hc'.2 h'.2⟩
end
/-! ### small data -/
structure NX (k B : Nat) (d : PyData) : Prop where
  lay : layE d = true
  dep : d.depth ≤ k
  sh : d.showable = true
  ish : d.intsShort 13 = true
  wt : d.weight ≤ B
theorem NX.mono {k j B C : Nat} {d : PyData} (h : NX k B d) (hk : k ≤ j) (hB : B ≤ C) : NX j C d := ⟨h.lay, Nat.le_trans h.dep hk, h.sh, h.ish, Nat.le_trans h.wt hB⟩
theorem Nice.nx {k B : Nat} {d : PyData} (h : Nice k B d) : NX k B d := ⟨layE_of _ h.lay, h.dep, h.sh, h.ish, h.wt⟩
theorem nx_all {k B : Nat} : ∀ {ds : List PyData}, (∀ d ∈ ds, NX k B d) → layEAll ds = true ∧ PyData.depthAll ds ≤ k ∧ PyData.showableAll ds = true ∧ PyData.intsShortAll 13 ds = true ∧ PyData.weightAll ds ≤ ds.length * (B + 1)
  | [], _ => by
    refine ⟨?_, ?_, ?_, ?_, ?_⟩
    · simp only [layEAll]
    · simp only [PyData.depthAll]
      exact Nat.zero_le _
    · simp only [PyData.showableAll]
    · simp only [PyData.intsShortAll]
    · simp only [PyData.weightAll]
      exact Nat.zero_le _
  | d :: ds, h => by
    obtain ⟨a1, a2, a3, a5, a6⟩ := nx_all (ds := ds) fun x hx => h x (List.mem_cons_of_mem _ hx)
    have q := h d List.mem_cons_self
    refine ⟨?_, ?_, ?_, ?_, ?_⟩
    · simp only [layEAll, q.lay, a1, Bool.and_self]
    · simp only [PyData.depthAll]
      exact Nat.max_le.mpr ⟨q.dep, a2⟩
    · simp only [PyData.showableAll, q.sh, a3, Bool.and_self]
    · simp only [PyData.intsShortAll, q.ish, a5, Bool.and_self]
    · simp only [PyData.weightAll, List.length_cons]
      have := q.wt
      rw [Nat.add_mul]
      omega
theorem nx_list {k B : Nat} {ds : List PyData} (h : ∀ d ∈ ds, NX k B d) : NX (k + 1) (ds.length * (B + 1)) (.list ds) := by
  obtain ⟨a1, a2, a3, a5, a6⟩ := nx_all h
  exact ⟨by simp only [layE]; exact a1, by simp only [PyData.depth]; omega, by simp only [PyData.showable]; exact a3, by simp only [PyData.intsShort]; exact a5, by simp only [PyData.weight]; exact a6⟩
theorem nx_tuple {k B : Nat} {ds : List PyData} (h : ∀ d ∈ ds, NX k B d) : NX (k + 1) (ds.length * (B + 1)) (.tuple ds) := by
  obtain ⟨a1, a2, a3, a5, a6⟩ := nx_all h
  exact ⟨by simp only [layE]; exact a1, by simp only [PyData.depth]; omega, by simp only [PyData.showable]; exact a3, by simp only [PyData.intsShort]; exact a5, by simp only [PyData.weight]; exact a6⟩
theorem all_elem {k B : Nat} : ∀ {ds : List PyData}, layEAll ds = true → PyData.depthAll ds ≤ k → PyData.showableAll ds = true → PyData.intsShortAll 13 ds = true → PyData.weightAll ds ≤ B → (∀ d ∈ ds, NX k B d) ∧ ds.length ≤ B
  | [], _, _, _, _, _ => ⟨fun d m => (by cases m), Nat.zero_le _⟩
  | d :: ds, h1, h2, h3, h4, h5 => by
    simp only [layEAll, Bool.and_eq_true] at h1
    simp only [PyData.depthAll] at h2
    simp only [PyData.showableAll, Bool.and_eq_true] at h3
    simp only [PyData.intsShortAll, Bool.and_eq_true] at h4
    simp only [PyData.weightAll] at h5
    have m2 := Nat.max_le.mp h2
    obtain ⟨q1, q2⟩ := all_elem (k := k) (B := B - 1) h1.2 m2.2 h3.2 h4.2 (by omega)
    refine ⟨fun x m => ?_, by rw [List.length_cons]; omega⟩
    rcases List.mem_cons.mp m with e | e
    · rw [e]
      exact ⟨h1.1, m2.1, h3.1, h4.1, by omega⟩
    · exact (q1 x e).mono (Nat.le_refl _) (by omega)
theorem NX.list {k B : Nat} {ds : List PyData} (h : NX k B (.list ds)) : (∀ d ∈ ds, NX k B d) ∧ ds.length ≤ B := by
  obtain ⟨a, b, c, d, e⟩ := h
  simp only [layE] at a
  simp only [PyData.depth] at b
  simp only [PyData.showable] at c
  simp only [PyData.intsShort] at d
  simp only [PyData.weight] at e
  exact all_elem a (by omega) c d e
theorem NX.tuple {k B : Nat} {ds : List PyData} (h : NX k B (.tuple ds)) : (∀ d ∈ ds, NX k B d) ∧ ds.length ≤ B := by
  obtain ⟨a, b, c, d, e⟩ := h
  simp only [layE] at a
  simp only [PyData.depth] at b
  simp only [PyData.showable] at c
  simp only [PyData.intsShort] at d
  simp only [PyData.weight] at e
  exact all_elem a (by omega) c d e
theorem NX.str {k B : Nat} {z : Str} (h : NX k B (.str z)) : z.length ≤ B := by
  have := h.wt
  simp only [PyData.weight] at this
  exact this
theorem NX.shown {k B : Nat} {d : PyData} (h : NX k B d) (hk : k ≤ 64) (hB : B ≤ 2 ^ 20) : d.shown.length ≤ sizeLine :=
  PyData.shown_fits (B := 13) (by decide) (by decide) (leavesShort_of_layE d h.lay h.ish) (Nat.le_trans h.wt hB)
/-- the data that the functions are asked about -/
abbrev OkD (d : PyData) : Prop := NX 20 100000 d
theorem big100 {n : Nat} (h : n ≤ 100001) : n ≤ sizeLine := by
  rw [sizeLine_eq]
  omega
/-! ### what the functions answer -/
def itemD : PyData → Bool
  | .str z => decide (1 ≤ z.length ∧ z.length ≤ 8) && (z.cps.toList.map fun c => decide (c ∈ abc.cps.toList)).all id
  | _ => false
def wordD : PyData → Bool
  | .tuple ds => (ds.map itemD).all id
  | _ => false
def actD : PyData → Bool
  | .str z => decide (z = "push" ∨ z = "pop")
  | _ => false
def stpD : PyData → Bool
  | .tuple [a, b] => actD a && itemD b
  | _ => false
def seqD : PyData → Bool
  | .list ds => decide (ds.length ≤ 1000) && (ds.map stpD).all id
  | .tuple ds => decide (ds.length ≤ 1000) && (ds.map stpD).all id
  | _ => false
end SE
namespace SE
open PySem PySem.Spec PyProof.Rows L2
theorem bl_take {α : Type} {f : α → Bool} {l : List α} {j : Nat} {x : α} (h : l[j]? = some x) : ((l.take j).map f).map V.bl ++ [V.bl (f x)] = ((l.take (j + 1)).map f).map V.bl := by
  rw [List.take_add_one, h, List.map_append, List.map_append]
  rfl
theorem itemD_str (z : Str) : itemD (.str z) = (decide (1 ≤ z.length ∧ z.length ≤ 8) && (z.cps.toList.map fun c => decide (c ∈ abc.cps.toList)).all id) := rfl
section
variable {P : Program} {w : World} {K : PySem.W.Frag} {mg : Str → Option Value} {base : Heap}
/-! ### is_item, is_word -/
def spX (K : PySem.W.Frag) (f : PyData → Bool) : Sp := fun xs H Q _ => ∃ (v : V) (d : PyData), xs = [v] ∧ DpX K H v d ∧ OkD d ∧ ∀ H', Same H H' → Q (.bl (f d)) H'
theorem has_itemX (D : Def K mg "is_item" sIsItem) (B : Blt mg) (C : Cons K w mg) : Has P w K mg base "is_item" 1 ["value"] [] (spX K itemD) := by
  obtain ⟨tl, hL⟩ := C.let_
  obtain ⟨tm, hM⟩ := C.ml
  refine has_of D scIsItem (fun _ _ _ _ _ _ us hl => match us, hl with | [_], _ => rfl) (fun xs H Q E h => ?_) (fun f cv A out s H xs Q E hr h => ?_)
  · obtain ⟨v, d, rfl, _⟩ := h
    rfl
  · obtain ⟨v, d, rfl, hd, ok, k⟩ := h
    refine ⟨_, pss_cons (ps_if (PW.pt (pw_or (pt_not (pt_val (pe_callB call_isi (by rfl) B.isi (by decide +kernel) (pa_cons (pv 0) (pa_cons (pe_bltn (v := .ty "str") (by rfl) B.str (by decide +kernel) rfl) pa_nil)))))
        (pw_or1 (pt_not (pt_chain op_le op_le pe_int (pe_callB call_len_str (by rfl) B.len PySem.boot_len (pa_cons (pv 0) pa_nil)) (pe_glob (v := .int 8) rfl hM ⟨_, rfl⟩)))))) (pss_one (ps_ret pe_bl)) pss_nil)
      (pss_one (ps_ret (pe_callB (cr_all rfl) (by rfl) B.all (by decide +kernel) (pa_cons
        (pe_lc (own := [("letter", 1)]) (g := gName 1) (tt := tYes) rfl scIsItem.nd (pi_str (pv 0)) (blkOk_by (own := [("letter", 1)]) (N := ["value", "letter"]) (sc := defScope sIsItem) (by decide +kernel))
          (fun _ _ _ _ _ => pg_name (i := 1) scIsItem.nd rfl (.inl rfl)) (fun _ _ _ _ _ => pts_nil) (fun _ _ _ _ _ => pe_cmpR op_in_sign (pv 1) (pe_glob (v := .str abc) rfl hL ⟨_, rfl⟩) (by rfl))) pa_nil)))), ?_⟩
    refine ⟨_, rfl, _, .ty "str", .type (tyD d), .type "str", isStr d, rfl, .ty _, hd.ty, kit_str d, _, rfl, ?_⟩
    cases hd with
    | non => exact iteT (iteT (k H (Same.refl H)))
    | bl b => exact iteT (iteT (k H (Same.refl H)))
    | int i => exact iteT (iteT (k H (Same.refl H)))
    | lst _ _ => exact iteT (iteT (k H (Same.refl H)))
    | tup _ _ => exact iteT (iteT (k H (Same.refl H)))
    | emp _ => exact iteT (iteT (k H (Same.refl H)))
    | str z =>
      refine iteF ?_
      have zl : z.length ≤ 100000 := ok.str
      refine ⟨_, rfl, z, rfl, big100 (by omega), 1, _, rfl, rfl, _, rfl, ?_⟩
      by_cases p1 : 1 ≤ z.length
      · have e1 : decide ((1 : Int) ≤ (z.length : Int)) = true := decide_eq_true (by omega)
        rw [e1]
        refine iteT ⟨_, 8, rfl, rfl, _, rfl, ?_⟩
        by_cases p2 : z.length ≤ 8
        · have e2 : decide ((z.length : Int) ≤ 8) = true := decide_eq_true (by omega)
          rw [e2]
          refine iteF ?_
          have e3 : itemD (.str z) = (z.cps.toList.map fun c => decide (c ∈ abc.cps.toList)).all id := by
            rw [itemD_str, decide_eq_true ⟨p1, p2⟩, Bool.true_and]
          rw [e3] at k
          refine ⟨_, rfl, z, rfl, fun D hD => lc_it walk_str (fun j H2 => H2 D = some (.lst (((z.cps.toList.take j).map fun c => decide (c ∈ abc.cps.toList)).map V.bl)) ∧ Same H H2) ⟨upd_same, Same.new hD⟩ (fun _ _ _ _ => trivial) ?_ ?_⟩
          · rintro j x H2 H3 hj ⟨h2, s2⟩ ⟨rfl, c, hc, rfl⟩
            have q : z.cps.toList[j]? = some c := by rw [Array.getElem?_toList]; exact hc
            refine ⟨rfl, yes_in ⟨_, rfl, c, abc, rfl, rfl, _, h2, ?_, ?_, Same.free2 s2 hD⟩⟩
            · rw [List.length_map, List.length_map, List.length_take]
              exact small1000 (by have : j < z.length := hj; omega)
            · rw [upd_same, bl_take (f := fun c => decide (c ∈ abc.cps.toList)) q]
          · rintro H2 ⟨h2, s2⟩
            rw [List.take_of_length_le (by rw [Array.length_toList]; exact Nat.le_refl _)] at h2
            exact ⟨D, _, rfl, .of h2, k H2 s2⟩
        · have e2 : decide ((z.length : Int) ≤ 8) = false := decide_eq_false (by omega)
          rw [e2]
          have e3 : itemD (.str z) = false := by
            rw [itemD_str, decide_eq_false (fun q => p2 q.2), Bool.false_and]
          rw [e3] at k
          exact iteT (k H (Same.refl H))
      · have e1 : decide ((1 : Int) ≤ (z.length : Int)) = false := decide_eq_false (by omega)
        rw [e1]
        have e3 : itemD (.str z) = false := by
          rw [itemD_str, decide_eq_false (fun q => p1 q.1), Bool.false_and]
        rw [e3] at k
        exact iteF ⟨false, rfl, iteT (k H (Same.refl H))⟩
theorem has_wordX (D : Def K mg "is_word" sIsWord) (G : Has P w K mg base "is_item" 1 ["value"] [] (spX K itemD)) (B : Blt mg) : Has P w K mg base "is_word" 2 ["value"] [] (spX K wordD) := by
  refine has_of D scIsWord (fun _ _ _ _ _ _ us hl => match us, hl with | [_], _ => rfl) (fun xs H Q E h => ?_) (fun f cv A out s H xs Q E hr h => ?_)
  · obtain ⟨v, d, rfl, _⟩ := h
    rfl
  · obtain ⟨v, d, rfl, hd, ok, k⟩ := h
    refine ⟨_, pss_one (ps_ret (pe_and (pe_callB call_isi (by rfl) B.isi (by decide +kernel) (pa_cons (pv 0) (pa_cons (pe_bltn (v := .ty "tuple") (by rfl) B.tup (by decide +kernel) rfl) pa_nil)))
      (pe_one (pe_callB (cr_all rfl) (by rfl) B.all (by decide +kernel) (pa_cons
        (pe_lc (own := [("item", 1)]) (g := gName 1) (tt := tYes) (te := tCall (spX K itemD) [] E0 (tCons (tVar 1) tNil)) rfl scIsWord.nd (pi_tup (pv 0)) (blkOk_by (own := [("item", 1)]) (N := ["value", "item"]) (sc := defScope sIsWord) (by decide +kernel))
          (fun _ _ _ _ _ => pg_name (i := 1) scIsWord.nd rfl (.inl rfl)) (fun _ _ _ _ _ => pts_nil) (fun _ _ _ _ _ => pe_has G hr (pa_cons (pv 1) pa_nil))) pa_nil))))), ?_⟩
    refine ⟨_, rfl, _, .ty "tuple", .type (tyD d), .type "tuple", isTup d, rfl, .ty _, hd.ty, kit_tup d, _, rfl, ?_⟩
    cases hd with
    | non => exact iteF (k H (Same.refl H))
    | bl b => exact iteF (k H (Same.refl H))
    | int i => exact iteF (k H (Same.refl H))
    | str z => exact iteF (k H (Same.refl H))
    | lst _ _ => exact iteF (k H (Same.refl H))
    | emp _ => exact iteF (k H (Same.refl H))
    | @tup a xs ds hT ha =>
      refine iteT ?_
      obtain ⟨oks, ln⟩ := ok.tuple
      have le := ha.len
      refine ⟨_, rfl, a, rfl, ⟨_, hT⟩, fun D hD => lc_tup (K := K) (a := a) (xs := xs) (fun j H2 => H2 D = some (.lst (((ds.take j).map itemD).map V.bl)) ∧ Same H H2) ⟨upd_same, Same.new hD⟩ (fun _ _ _ q => Same.tup q.2 hT) ?_ ?_⟩
      · rintro j x H2 hj ⟨h2, s2⟩
        obtain ⟨e, he, hx⟩ := ha.at hj
        refine ⟨rfl, yes_in ⟨_, rfl, x, e, rfl, DpX.same s2 e x hx, oks e (List.mem_of_getElem? he), fun H3 s3 => ⟨_, s3 _ _ h2, ?_, ?_, Same.free2 (s2.trans s3) hD⟩⟩⟩
        · rw [List.length_map, List.length_map, List.length_take, sizeLine_eq]
          omega
        · rw [upd_same, bl_take he]
      · rintro H2 ⟨h2, s2⟩
        rw [le, List.take_length] at h2
        exact ⟨D, _, rfl, .of h2, k H2 s2⟩
end
end SE
namespace SE
open PySem PySem.Spec PyProof.Rows L2
def OppKeys : List DictEntry → Prop
  | [] => True
  | e :: r => (∃ x t, e.key = .str x t ∧ (x = ("push" : Str) ∨ x = ("pop" : Str))) ∧ OppKeys r
theorem opp_none {z : Str} (h1 : z ≠ "push") (h2 : z ≠ "pop") : ∀ {l : List DictEntry}, OppKeys l → l.find? (fun e => e.key.isStr z) = none ∧ l.any (fun e => e.refKey) = false
  | [], _ => ⟨rfl, rfl⟩
  | e :: r, ⟨⟨x, t, hk, hx⟩, q⟩ => by
    obtain ⟨q1, q2⟩ := opp_none h1 h2 q
    have e1 : e.key.isStr z = false := by
      rw [hk]
      have ne : x ≠ z := by
        rcases hx with hx | hx
        · rw [hx]; exact fun w => h1 w.symm
        · rw [hx]; exact fun w => h2 w.symm
      simpa [Value.isStr] using ne
    have e2 : e.refKey = false := by
      unfold DictEntry.refKey
      rw [hk]
    rw [List.find?_cons, e1, List.any_cons, e2]
    exact ⟨q1, q2⟩
/-- OPPOSITES and all its keys -/
def Opp2 (K : PySem.W.Frag) (w : World) (mg : Str → Option Value) : Prop := ∃ (d : Addr) (es : Array DictEntry) (n : Nat) (u v : Value), mg "OPPOSITES" = some (.ref d) ∧ KDict K w d es n ∧ PySem.W.nsIn K d "push" = some (some u) ∧ PySem.W.nsIn K d "pop" = some (some v) ∧ OppKeys es.toList
theorem opp_in {K : PySem.W.Frag} {w : World} {d : Addr} {es : Array DictEntry} {n : Nat} {u v : Value} (KD : KDict K w d es n) (n1 : PySem.W.nsIn K d "push" = some (some u)) (n2 : PySem.W.nsIn K d "pop" = some (some v)) (ok : OppKeys es.toList) (z : Str) :
    ∃ r, PySem.W.nsIn K d z = some r ∧ r.isSome = actD (.str z) := by
  by_cases h1 : z = "push"
  · subst h1
    exact ⟨_, n1, show true = actD (.str "push") by decide +kernel⟩
  by_cases h2 : z = "pop"
  · subst h2
    exact ⟨_, n2, show true = actD (.str "pop") by decide +kernel⟩
  obtain ⟨q1, q2⟩ := opp_none h1 h2 ok
  refine ⟨none, ?_, ?_⟩
  · unfold PySem.W.nsIn
    rw [KD.at_]
    dsimp only
    rw [q1]
    dsimp only
    rw [q2]
    rfl
  · show false = decide (z = "push" ∨ z = "pop")
    rw [decide_eq_false (fun q => q.elim h1 h2)]
section
variable {P : Program} {w : World} {K : PySem.W.Frag} {mg : Str → Option Value} {base : Heap}
/-! ### is_step -/
theorem has_stepX (D : Def K mg "is_step" sIsStep) (G : Has P w K mg base "is_item" 1 ["value"] [] (spX K itemD)) (B : Blt mg) (C : Opp2 K w mg) : Has P w K mg base "is_step" 2 ["value"] [] (spX K stpD) := by
  obtain ⟨d, es, n, u1, u2, hO, KD, n1, n2, okO⟩ := C
  refine has_of D scIsStep (fun _ _ _ _ _ _ us hl => match us, hl with | [_], _ => rfl) (fun xs H Q E h => ?_) (fun f cv A out s H xs Q E hr h => ?_)
  · obtain ⟨v, dd, rfl, _⟩ := h
    rfl
  · obtain ⟨v, dd, rfl, hd, ok, k⟩ := h
    refine ⟨_, pss_cons (ps_if (PW.pt (pw_or (pt_not (pt_val (pe_callB call_isi (by rfl) B.isi (by decide +kernel) (pa_cons (pv 0) (pa_cons (pe_bltn (v := .ty "tuple") (by rfl) B.tup (by decide +kernel) rfl) pa_nil)))))
        (pw_or1 (pt_cmpR op_ne (pe_callB call_len_seq (by rfl) B.len PySem.boot_len (pa_cons (pv 0) pa_nil)) pe_int (nomark _))))) (pss_one (ps_ret pe_bl)) pss_nil)
      (pss_cons (ps_asg (pv 0) (pg_tup (by rfl) (pgs_cons (pg_name (i := 1) scIsStep.nd rfl (.inl rfl)) (pgs_cons (pg_name (i := 2) scIsStep.nd rfl (.inl rfl)) pgs_nil))))
      (pss_one (ps_ret (pe_and (pe_callB call_isi (by rfl) B.isi (by decide +kernel) (pa_cons (pv 1) (pa_cons (pe_bltn (v := .ty "str") (by rfl) B.str (by decide +kernel) rfl) pa_nil)))
        (pe_and (pe_cmpR (op_in_kd KD) (pv 1) (pe_glob (v := .ref d) rfl hO rfl) (by rfl)) (pe_one (pe_has G hr (pa_cons (pv 2) pa_nil)))))))), ?_⟩
    refine ⟨_, rfl, _, .ty "tuple", .type (tyD dd), .type "tuple", isTup dd, rfl, .ty _, hd.ty, kit_tup dd, _, rfl, ?_⟩
    cases hd with
    | non => exact iteT (iteT (k H (Same.refl H)))
    | bl b => exact iteT (iteT (k H (Same.refl H)))
    | int i => exact iteT (iteT (k H (Same.refl H)))
    | str z => exact iteT (iteT (k H (Same.refl H)))
    | lst _ _ => exact iteT (iteT (k H (Same.refl H)))
    | emp _ => exact iteT (iteT (k H (Same.refl H)))
    | @tup t xs ds hT ha =>
      refine iteF ?_
      obtain ⟨oks, ln⟩ := ok.tuple
      have le := ha.len
      refine ⟨_, rfl, t, _, rfl, .inr hT, rfl, _, rfl, ?_⟩
      match ds, xs, ha, le, oks, k, hT with
      | [], _, .nil, _, _, k, _ => exact iteT (k H (Same.refl H))
      | [_], _, .cons _ .nil, _, _, k, _ => exact iteT (k H (Same.refl H))
      | [e1, e2], [x1, x2], .cons h1 (.cons h2 .nil), _, oks, k, hT =>
        refine iteF ?_
        refine ⟨_, rfl, t, _, rfl, hT, rfl, _, _, rfl, _, _, rfl, rfl, ?_⟩
        refine ⟨_, rfl, _, .ty "str", .type (tyD e1), .type "str", isStr e1, rfl, .ty _, h1.ty, kit_str e1, _, rfl, ?_⟩
        have k' : ∀ H', Same H H' → Q (.bl (actD e1 && itemD e2)) H' := k
        cases h1 with
        | non => exact iteF (k' H (Same.refl H))
        | bl b => exact iteF (k' H (Same.refl H))
        | int i => exact iteF (k' H (Same.refl H))
        | lst _ _ => exact iteF (k' H (Same.refl H))
        | tup _ _ => exact iteF (k' H (Same.refl H))
        | emp _ => exact iteF (k' H (Same.refl H))
        | str z =>
          refine iteT ?_
          obtain ⟨r, hr1, hr2⟩ := opp_in KD n1 n2 okO z
          refine ⟨_, rfl, z, r, rfl, rfl, hr1, r.isSome, rfl, ?_⟩
          rw [hr2]
          cases hz : actD (.str z) with
          | false =>
            rw [hz] at k'
            exact iteF (k' H (Same.refl H))
          | true =>
            rw [hz] at k'
            exact iteT ⟨_, rfl, x2, e2, rfl, h2, oks e2 (by simp), fun H' s' => k' H' s'⟩
      | _ :: _ :: _ :: ds, x1 :: x2 :: x3 :: xs, .cons _ (.cons _ (.cons _ _)), _, _, k, _ =>
        have hne : decide (V.int (((x1 :: x2 :: x3 :: xs).length : Nat) : Int) = V.int 2) = false := decide_eq_false (by
          intro q
          have q2 := V.int.inj q
          simp only [List.length_cons] at q2
          omega)
        rw [hne]
        exact iteT (k H (Same.refl H))
/-! ### may_hold_steps, is_sequence -/
def mayD : PyData → Bool
  | .list ds => decide (ds.length ≤ 1000)
  | .tuple ds => decide (ds.length ≤ 1000)
  | _ => false
theorem kit_lt {K : PySem.W.Frag} (d : PyData) : PySem.W.kitAny K (.type (tyD d)) [.type "list", .type "tuple"] = some (isLst d || isTup d) := by
  have a := kit_lst (K := K) d
  have b := kit_tup (K := K) d
  cases d with
  | list ds => exact kitAny_cons (b := true) a (fun z => (by cases z)) (fun _ => rfl)
  | tuple ds => exact kitAny_cons (b := false) a (fun _ => kitAny_cons (b := true) b (fun z => (by cases z)) (fun _ => rfl)) (fun z => (by cases z))
  | _ => exact kitAny_cons (b := false) a (fun _ => kitAny_cons (b := false) b (fun _ => rfl) (fun z => (by cases z))) (fun z => (by cases z))
theorem has_mayX (D : Def K mg "may_hold_steps" sMayHold) (B : Blt mg) (C : Cons K w mg) : Has P w K mg base "may_hold_steps" 1 ["value"] [] (spX K mayD) := by
  obtain ⟨tm, hM⟩ := C.ms
  refine has_of D scMay (fun _ _ _ _ _ _ us hl => match us, hl with | [_], _ => rfl) (fun xs H Q E h => ?_) (fun f cv A out s H xs Q E hr h => ?_)
  · obtain ⟨v, d, rfl, _⟩ := h
    rfl
  · obtain ⟨v, d, rfl, hd, ok, k⟩ := h
    refine ⟨_, pss_one (ps_ret (pe_and (pe_callB call_isiT (by rfl) B.isi (by decide +kernel) (pa_cons (pv 0) (pa_cons (pe_tup (pa_cons (pe_bltn (v := .ty "list") (by rfl) B.lst (by decide +kernel) rfl) (pa_cons (pe_bltn (v := .ty "tuple") (by rfl) B.tup (by decide +kernel) rfl) pa_nil))) pa_nil)))
      (pe_one (pe_cmpR op_le (pe_callB call_len_seq (by rfl) B.len PySem.boot_len (pa_cons (pv 0) pa_nil)) (pe_glob (v := .int 1000) rfl hM ⟨_, rfl⟩) (nomark _))))), ?_⟩
    refine ⟨_, rfl, (by show 2 ≤ sizeLine; decide), fun t ht => ?_⟩
    have s1 : Same H (upd H t (.tup [.ty "list", .ty "tuple"])) := Same.new ht
    have hd1 := DpX.same s1 d v hd
    refine ⟨_, t, _, .type (tyD d), _, isLst d || isTup d, rfl, upd_same, .cons (.ty _) (.cons (.ty _) .nil), hd1.ty, kit_lt d, _, rfl, ?_⟩
    have fin : ∀ (n : Nat), (V.bl (decide ((n : Int) ≤ 1000)) : V) = V.bl (decide (n ≤ 1000)) := fun n => by
      by_cases q : n ≤ 1000
      · rw [decide_eq_true q, decide_eq_true (by omega)]
      · rw [decide_eq_false q, decide_eq_false (by omega)]
    cases hd with
    | non => exact iteF (k _ s1)
    | bl b => exact iteF (k _ s1)
    | int i => exact iteF (k _ s1)
    | str z => exact iteF (k _ s1)
    | emp _ => exact iteF (k _ s1)
    | @tup a xs ds hT ha =>
      refine iteT ⟨_, rfl, a, xs, rfl, .inr (Same.tup s1 hT), _, 1000, rfl, rfl, ?_⟩
      show Q (V.bl (decide ((xs.length : Int) ≤ 1000))) _
      rw [fin, ha.len]
      exact k _ s1
    | @lst a xs ds hT ha =>
      refine iteT ⟨_, rfl, a, xs, rfl, .inl (Same.seq s1 hT), _, 1000, rfl, rfl, ?_⟩
      show Q (V.bl (decide ((xs.length : Int) ≤ 1000))) _
      rw [fin, ha.len]
      exact k _ s1
end
end SE
namespace SE
open PySem PySem.Spec PyProof.Rows L2
theorem all_id_map {α : Type} (f : α → Bool) (l : List α) : (l.map f).all id = l.all f := by
  induction l with
  | nil => rfl
  | cons a r ih => rw [List.map_cons, List.all_cons, List.all_cons, ih]; rfl
/-- none is left over where all are right -/
theorem none_left {α : Type} [DecidableEq α] (f : α → Bool) : ∀ l : List α, decide (l.filter (fun x => !f x) = []) = l.all f
  | [] => rfl
  | a :: r => by
    rw [List.filter_cons, List.all_cons, ← none_left f r]
    cases h : f a with
    | true => rfl
    | false => rfl
theorem abc_low : ∀ c ∈ abc.cps.toList, 97 ≤ c ∧ c ≤ 122 := by decide +kernel
theorem abc_iff (c : Nat) : decide (c ∈ abc.cps.toList) = (!decide (([c] : List Nat) < [97]) && !decide (([122] : List Nat) < [c])) := by
  have e1 : (([c] : List Nat) < [97]) ↔ c < 97 := by
    rw [List.cons_lt_cons_iff]
    simp
  have e2 : (([122] : List Nat) < [c]) ↔ 122 < c := by
    rw [List.cons_lt_cons_iff]
    simp
  by_cases h : c ∈ abc.cps.toList
  · have := abc_low c h
    rw [decide_eq_true h, decide_eq_false (by rw [e1]; omega), decide_eq_false (by rw [e2]; omega)]
    rfl
  · have hn : ¬ (97 ≤ c ∧ c ≤ 122) := fun q => h (abc_has q)
    rw [decide_eq_false h]
    by_cases q : c < 97
    · rw [decide_eq_true (e1.mpr q)]
      rfl
    · rw [decide_eq_true (e2.mpr (by omega))]
      simp
section
variable {P : Program} {w : World} {K : PySem.W.Frag} {mg : Str → Option Value} {base : Heap}
/-! ### is_sequence -/
theorem scIsSeqX : FnScope ["value", "step"] ["value"] (defScope sIsSeq) := ⟨rfl, rfl, rfl, by decide +kernel, rfl, by decide +kernel, by decide +kernel⟩
theorem has_seqX (D : Def K mg "is_sequence" sIsSeq) (GM : Has P w K mg base "may_hold_steps" 1 ["value"] [] (spX K mayD)) (GS : Has P w K mg base "is_step" 2 ["value"] [] (spX K stpD)) (B : Blt mg) : Has P w K mg base "is_sequence" 3 ["value"] [] (spX K seqD) := by
  refine has_of D scIsSeqX (fun _ _ _ _ _ _ us hl => match us, hl with | [_], _ => rfl) (fun xs H Q E h => ?_) (fun f cv A out s H xs Q E hr h => ?_)
  · obtain ⟨v, d, rfl, _⟩ := h
    rfl
  · obtain ⟨v, d, rfl, hd, ok, k⟩ := h
    have hr1 : Room 1 _ := hr.mono (by decide)
    have no : seqD d = false → mayD d = false → ∃ t, PSs (Bx P w K mg base ["value", "step"] "is_sequence" sIsSeq f cv A out s H E) (defBody sIsSeq) t ∧ t { nx := fun _ H2 => Q .non H2, rt := Q } (start ["value", "step"] [v]) H := fun e1 e2 => by
      refine ⟨_, pss_one (ps_ret (pe_and (pe_has GM hr1 (pa_cons (pv 0) pa_nil)) pe_never)), ?_⟩
      refine ⟨_, rfl, v, d, rfl, hd, ok, fun H1 s1 => ⟨false, by rw [e2], iteF ?_⟩⟩
      rw [e1] at k
      exact k H1 s1
    cases hd with
    | non => exact no rfl rfl
    | bl b => exact no rfl rfl
    | int i => exact no rfl rfl
    | str z => exact no rfl rfl
    | emp _ => exact no rfl rfl
    | @tup a xs ds hT ha =>
      clear no
      refine ⟨_, pss_one (ps_ret (pe_and (pe_has GM hr1 (pa_cons (pv 0) pa_nil)) (pe_one (pe_callB (cr_all rfl) (by rfl) B.all (by decide +kernel) (pa_cons
        (pe_lc (own := [("step", 1)]) (g := gName 1) (tt := tYes) (te := tCall (spX K stpD) [] E0 (tCons (tVar 1) tNil)) rfl scIsSeqX.nd (pi_tup (pv 0)) (blkOk_by (own := [("step", 1)]) (N := ["value", "step"]) (sc := defScope sIsSeq) (by decide +kernel))
          (fun _ _ _ _ _ => pg_name (i := 1) scIsSeqX.nd rfl (.inl rfl)) (fun _ _ _ _ _ => pts_nil) (fun _ _ _ _ _ => pe_has GS hr (pa_cons (pv 1) pa_nil))) pa_nil))))), ?_⟩
      refine ⟨_, rfl, _, _, rfl, .tup hT ha, ok, fun H1 s1 => ⟨_, rfl, ?_⟩⟩
      have k' : ∀ H', Same H H' → Q (.bl (decide (ds.length ≤ 1000) && (ds.map stpD).all id)) H' := k
      show if decide (ds.length ≤ 1000) = true then _ else _
      cases hc : decide (ds.length ≤ 1000) with
      | false =>
        rw [hc] at k'
        exact iteF (k' H1 s1)
      | true =>
        rw [hc] at k'
        refine iteT ?_
        obtain ⟨oks, ln⟩ := ok.tuple
        have le := ha.len
        have hT1 := Same.tup s1 hT
        refine ⟨_, rfl, a, rfl, ⟨_, hT1⟩, fun D hD => lc_tup (K := K) (a := a) (xs := xs) (fun j H2 => H2 D = some (.lst (((ds.take j).map stpD).map V.bl)) ∧ Same H1 H2) ⟨upd_same, Same.new hD⟩ (fun _ _ _ q => Same.tup q.2 hT1) ?_ ?_⟩
        · rintro j x H2 hj ⟨h2, s2⟩
          obtain ⟨e, he, hx⟩ := ha.at hj
          refine ⟨rfl, yes_in ⟨_, rfl, x, e, rfl, DpX.same (s1.trans s2) e x hx, oks e (List.mem_of_getElem? he), fun H3 s3 => ⟨_, s3 _ _ h2, ?_, ?_, Same.free2 (s2.trans s3) hD⟩⟩⟩
          · rw [List.length_map, List.length_map, List.length_take, sizeLine_eq]
            omega
          · rw [upd_same, bl_take he]
        · rintro H2 ⟨h2, s2⟩
          rw [le, List.take_length] at h2
          exact ⟨D, _, rfl, .of h2, k' H2 (s1.trans s2)⟩
    | @lst a xs ds hT ha =>
      clear no
      refine ⟨_, pss_one (ps_ret (pe_and (pe_has GM hr1 (pa_cons (pv 0) pa_nil)) (pe_one (pe_callB (cr_all rfl) (by rfl) B.all (by decide +kernel) (pa_cons
        (pe_lc (own := [("step", 1)]) (g := gName 1) (tt := tYes) (te := tCall (spX K stpD) [] E0 (tCons (tVar 1) tNil)) rfl scIsSeqX.nd (pi_list (pv 0)) (blkOk_by (own := [("step", 1)]) (N := ["value", "step"]) (sc := defScope sIsSeq) (by decide +kernel))
          (fun _ _ _ _ _ => pg_name (i := 1) scIsSeqX.nd rfl (.inl rfl)) (fun _ _ _ _ _ => pts_nil) (fun _ _ _ _ _ => pe_has GS hr (pa_cons (pv 1) pa_nil))) pa_nil))))), ?_⟩
      refine ⟨_, rfl, _, _, rfl, .lst hT ha, ok, fun H1 s1 => ⟨_, rfl, ?_⟩⟩
      have k' : ∀ H', Same H H' → Q (.bl (decide (ds.length ≤ 1000) && (ds.map stpD).all id)) H' := k
      show if decide (ds.length ≤ 1000) = true then _ else _
      cases hc : decide (ds.length ≤ 1000) with
      | false =>
        rw [hc] at k'
        exact iteF (k' H1 s1)
      | true =>
        rw [hc] at k'
        refine iteT ?_
        obtain ⟨oks, ln⟩ := ok.list
        have le := ha.len
        have hT1 := Same.seq s1 hT
        refine ⟨_, rfl, a, rfl, ⟨_, hT1⟩, fun D hD => lc_list (K := K) (a := a) (xs := xs) (fun j H2 => H2 D = some (.lst (((ds.take j).map stpD).map V.bl)) ∧ Same H1 H2) ⟨upd_same, Same.new hD⟩ (fun _ _ _ q => Same.seq q.2 hT1) ?_ ?_⟩
        · rintro j x H2 hj ⟨h2, s2⟩
          obtain ⟨e, he, hx⟩ := ha.at hj
          refine ⟨rfl, yes_in ⟨_, rfl, x, e, rfl, DpX.same (s1.trans s2) e x hx, oks e (List.mem_of_getElem? he), fun H3 s3 => ⟨_, s3 _ _ h2, ?_, ?_, Same.free2 (s2.trans s3) hD⟩⟩⟩
          · rw [List.length_map, List.length_map, List.length_take, sizeLine_eq]
            omega
          · rw [upd_same, bl_take he]
        · rintro H2 ⟨h2, s2⟩
          rw [le, List.take_length] at h2
          exact ⟨D, _, rfl, .of h2, k' H2 (s1.trans s2)⟩
/-! ### _law_is_item -/
end
end SE
/-! Texts: d.get(x) of a module's dict, repr of a text. -/
namespace SE
open PySem PySem.Spec PyProof.Rows L2
/-- d.get(x), d a module's dict with texts as keys -/
def tKGet (K : PySem.W.Frag) (w : World) (td ty : TE) : TE := fun σ H Q => td σ H fun x H1 => ∃ p es n, x = .ref p ∧ KDict K w p es n ∧ ty σ H1 fun y H2 => ∃ (z : Str) (r : Option Value) (v : V), y = .str z ∧ PySem.W.nsIn K p z = some r ∧ RelV v (r.getD .none) ∧ Q v H2
section
variable {X : Cx} {o e : Expr} {apos cpos : Pos} {td ty : TE}
theorem pe_kget (ho : PE X o td) (he : PE X e ty) (m : M1 X o "get" apos e cpos) : PE X (.Call (.Attribute o "get" apos) [e] [] cpos) (tKGet X.K X.w td ty) := by
  refine ⟨fun pins s σ H Q I h => ?_⟩
  refine wpAny_Call_method m.base m.few m.line PySem.F.plainAttrs_dict PySem.F.slot_dict_get PySem.F.type_dict_get (thn (ho.run pins s σ H _ I h) fun u s1 ⟨x, H1, I1, rx, a, es, n, ex, D, q1⟩ => ?_)
  subst ex
  obtain rfl : u = Value.ref a := rx
  have hm := PySem.W.mapOf_K (prog := X.prog) (w := X.w) I1.kIn D.at_ D.lit
  refine ⟨hm.typeIs, fun b q => ?_, ?_⟩
  · cases q
    obtain ⟨ob, _, _, h1, h2, _⟩ := hm
    exact ⟨ob, h1, h2.2.1⟩
  rw [m.trees]
  refine Calls.callWith_builtin rfl (Calls.evalArgs_plain (Calls.spliced_cons (thn (he.run pins s1 σ H1 _ I1 q1) fun iv s2 ⟨y, H2, I2, ry, z, r, v, ey, hn, rv, q2⟩ => Calls.spliced_nil ?_)))
  subst ey
  obtain ⟨t, rfl⟩ := ry
  have hm2 := PySem.W.mapOf_K (prog := X.prog) (w := X.w) I2.kIn D.at_ D.lit
  refine call_meetsIn PySem.F.slot_dict_get hm2.typeIs PySem.F.entry_dict_get (PySem.F.args_dict_get_2 _ _) (meets_dict_get (strKind X.prog X.w) a (PySem.strKind_is X.prog X.w z t) D.low) ⟨_, hm2, ?_⟩
  rw [PySem.W.find_K D.at_ hn]
  exact ⟨v, H2, I2.tok _, rv, q2⟩
/-- repr(x), x a text -/
def rRepT : List V → Hp → VK → Prop := fun xs H Q => ∃ z : Str, xs = [.str z] ∧ (reprText z).length ≤ sizeLine ∧ Q (.str (reprText z)) H
theorem call_repT : CallR X (.builtin "repr") rRepT := by
  intro pins s σ H xs us Q I r h
  obtain ⟨z, rfl, hz, q⟩ := h
  cases r with
  | cons r1 r2 =>
    cases r2
    obtain ⟨t, rfl⟩ := r1
    exact PySem.P.repr_of_str ⟨.str _, H, I.tok _, ⟨_, rfl⟩, q⟩ hz
end
/-- texts added -/
def rAddT : R2 := fun a b H Q => ∃ x y, a = .str x ∧ b = .str y ∧ x.length + y.length ≤ sizeLine ∧ Q (.str (x ++ y)) H
theorem op_addT {X : Cx} : OpR X (binaryOp .Add) rAddT := op_add_str
/-! ### joined texts -/
open TL
theorem mem_joinL {S : List Nat} {c : Nat} : ∀ {ps : List (List Nat)}, c ∈ joinL S ps → c ∈ S ∨ ∃ p ∈ ps, c ∈ p
  | [], h => by cases h
  | [p], h => .inr ⟨p, List.mem_singleton.mpr rfl, h⟩
  | p :: q :: r, h => by
    have h' : c ∈ p ++ (S ++ joinL S (q :: r)) := h
    rcases List.mem_append.mp h' with a | a
    · exact .inr ⟨p, List.mem_cons_self .., a⟩
    · rcases List.mem_append.mp a with a | a
      · exact .inl a
      · rcases mem_joinL a with b | ⟨x, m, b⟩
        · exact .inl b
        · exact .inr ⟨x, List.mem_cons_of_mem _ m, b⟩
theorem mem_join {y : Str} {c : Nat} {ps : List Str} (h : c ∈ tl (Txt.join y ps)) : c ∈ tl y ∨ ∃ p ∈ ps, c ∈ tl p := by
  rw [join_eq, tl_join] at h
  rcases mem_joinL h with a | ⟨x, m, a⟩
  · exact .inl a
  · obtain ⟨p, mp, rfl⟩ := List.mem_map.mp m
    exact .inr ⟨p, mp, a⟩
theorem join_len (y : Str) (ps : List Str) : (Txt.join y ps).length ≤ (ps.map (·.length)).sum + ps.length * y.length := by
  rw [join_eq]
  exact StrLaws.join_length_le y ps
theorem sum_lens {B : Nat} : ∀ {ts : List Str}, (∀ t ∈ ts, t.length ≤ B) → (ts.map (·.length)).sum ≤ ts.length * B
  | [], _ => Nat.zero_le _
  | t :: ts, h => by
    have h1 := h t (List.mem_cons_self ..)
    have ih := sum_lens fun t m => h t (List.mem_cons_of_mem _ m)
    rw [List.map_cons, List.sum_cons, List.length_cons, Nat.succ_mul]
    omega
end SE
namespace SE
open PySem PySem.Spec PyProof.Rows L2 TL
/-! ### the texts -/
abbrev sDot : Str := Str.ofString "."
abbrev sBlk : Str := Str.ofString " "
abbrev sDash : Str := Str.ofString "-"
abbrev sPlus : Str := Str.ofString "+"
def wordT (zs : List Str) : Str := if zs = [] then sDash else Txt.join sDot zs
def stepT (s : Stp) : Str := (if s.1 = true then sPlus else sDash) ++ s.2
def stepsT (ss : List Stp) : Str := if ss = [] then sDot else Txt.join sBlk (ss.map stepT)
def fiveT (xs ys : List Str) (p : Int) : List Str := [wordT xs, Str.ofString ">", wordT ys, Str.ofString "^", toString p]
def effT : Option (List Str × List Str × Int) → Str
  | none => Str.ofString "never"
  | some (xs, ys, p) => Txt.join sBlk (fiveT xs ys p)
theorem tl_dot : tl sDot = [46] := by decide +kernel
theorem tl_blk : tl sBlk = [32] := by decide +kernel
theorem tl_dash : tl sDash = [45] := by decide +kernel
theorem tl_plus : tl sPlus = [43] := by decide +kernel
theorem Item.tl {z : Str} (h : Item z) {c : Nat} (m : c ∈ TL.tl z) : 97 ≤ c ∧ c ≤ 122 := h.low c m
theorem wordT_in {zs : List Str} (h : ∀ z ∈ zs, Item z) {c : Nat} (m : c ∈ TL.tl (wordT zs)) : c = 45 ∨ c = 46 ∨ (97 ≤ c ∧ c ≤ 122) := by
  unfold wordT at m
  split at m
  · rw [tl_dash] at m
    exact .inl (List.mem_singleton.mp m)
  · rcases mem_join m with a | ⟨p, mp, a⟩
    · rw [tl_dot] at a
      exact .inr (.inl (List.mem_singleton.mp a))
    · exact .inr (.inr ((h p mp).tl a))
theorem wordT_blk {zs : List Str} (h : ∀ z ∈ zs, Item z) : 32 ∉ TL.tl (wordT zs) := fun m => by
  rcases wordT_in h m with e | e | e <;> omega
theorem joinL_head {S : List Nat} {c : Nat} {t : List Nat} {r : List (List Nat)} : ∃ u, joinL S ((c :: t) :: r) = c :: u := by
  cases r with
  | nil => exact ⟨t, rfl⟩
  | cons q r => exact ⟨t ++ (S ++ joinL S (q :: r)), rfl⟩
theorem item_head {z : Str} (h : Item z) : ∃ c t, TL.tl z = c :: t ∧ 97 ≤ c := by
  cases e : TL.tl z with
  | nil =>
    have := h.pos
    rw [len_tl, e] at this
    simp at this
  | cons c t => exact ⟨c, t, rfl, (h.tl (by rw [e]; exact List.mem_cons_self ..)).1⟩
/-- a word's text is "-" for the empty one alone -/
theorem wordT_dash {zs : List Str} (h : ∀ z ∈ zs, Item z) : wordT zs = sDash ↔ zs = [] := by
  constructor
  · intro e
    cases zs with
    | nil => rfl
    | cons z r =>
      unfold wordT at e
      rw [if_neg (by simp), join_eq] at e
      have e2 := congrArg TL.tl e
      rw [tl_join, List.map_cons, tl_dash] at e2
      obtain ⟨c, t, h1, h2⟩ := item_head (h z (List.mem_cons_self ..))
      rw [h1] at e2
      obtain ⟨u, hu⟩ := joinL_head (S := TL.tl sDot) (c := c) (t := t) (r := r.map TL.tl)
      rw [hu] at e2
      injection e2 with e3 _
      omega
  · rintro rfl
    rfl
theorem split_word {zs : List Str} (h : ∀ z ∈ zs, Item z) (hn : zs ≠ []) : Txt.split (wordT zs) sDot = zs := by
  unfold wordT
  rw [if_neg hn]
  exact split_join tl_dot (by decide +kernel) hn fun p m q => by have := (h p m).tl q; omega
theorem wordT_len {zs : List Str} (h : ∀ z ∈ zs, Item z) : (wordT zs).length ≤ 9 * zs.length + 1 := by
  unfold wordT
  split
  · have : sDash.length = 1 := by decide +kernel
    omega
  · have a := join_len sDot zs
    have b := sum_lens (B := 8) (ts := zs) fun t m => (h t m).most
    have c : sDot.length = 1 := by decide +kernel
    rw [c] at a
    omega
/-! ### steps -/
theorem stepT_tl (s : Stp) : TL.tl (stepT s) = (if s.1 = true then 43 else 45) :: TL.tl s.2 := by
  unfold stepT
  rw [tl_append]
  split
  · rw [tl_plus]; rfl
  · rw [tl_dash]; rfl
theorem stepT_blk {s : Stp} (h : Item s.2) : 32 ∉ TL.tl (stepT s) := fun m => by
  rw [stepT_tl] at m
  rcases List.mem_cons.mp m with e | m
  · split at e <;> omega
  · have := h.tl m
    omega
theorem stepT_len {s : Stp} (h : Item s.2) : (stepT s).length ≤ 9 := by
  have a := h.most
  rw [len_tl] at a ⊢
  rw [stepT_tl, List.length_cons]
  omega
theorem stepsT_dot {ss : List Stp} : stepsT ss = sDot ↔ ss = [] := by
  constructor
  · intro e
    cases ss with
    | nil => rfl
    | cons s r =>
      unfold stepsT at e
      rw [if_neg (by simp), join_eq] at e
      have e2 := congrArg TL.tl e
      rw [tl_join, List.map_cons, List.map_cons, tl_dot, stepT_tl] at e2
      obtain ⟨u, hu⟩ := joinL_head (S := TL.tl sBlk) (c := if s.1 = true then 43 else 45) (t := TL.tl s.2) (r := (r.map stepT).map TL.tl)
      rw [hu] at e2
      injection e2 with e3 _
      split at e3 <;> omega
  · rintro rfl
    rfl
theorem split_steps {ss : List Stp} (h : ∀ s ∈ ss, Item s.2) (hn : ss ≠ []) : Txt.split (stepsT ss) sBlk = ss.map stepT := by
  unfold stepsT
  rw [if_neg hn]
  refine split_join tl_blk (by decide +kernel) (by simpa using hn) fun p m q => ?_
  obtain ⟨s, ms, rfl⟩ := List.mem_map.mp m
  exact stepT_blk (h s ms) q
theorem stepsT_len {ss : List Stp} (h : ∀ s ∈ ss, Item s.2) : (stepsT ss).length ≤ 10 * ss.length + 1 := by
  unfold stepsT
  split
  · have : sDot.length = 1 := by decide +kernel
    omega
  · have a := join_len sBlk (ss.map stepT)
    have b := sum_lens (B := 9) (ts := ss.map stepT) fun t m => by
      obtain ⟨s, ms, rfl⟩ := List.mem_map.mp m
      exact stepT_len (h s ms)
    have c : sBlk.length = 1 := by decide +kernel
    rw [c, List.length_map] at a
    rw [List.length_map] at b
    omega
theorem stepT_cut0 (s : Stp) : cutS (stepT s) none (some 1) = if s.1 = true then sPlus else sDash := by
  refine ext_tl ?_
  have hl : 1 ≤ (stepT s).length := by
    rw [len_tl, stepT_tl, List.length_cons]
    omega
  show ((TL.tl (stepT s)).drop 0).take (HT.sIx (stepT s).length (stepT s).length (some ((1 : Nat) : Int)) - 0) = _
  rw [HT.sIx_nat, List.drop_zero, Nat.sub_zero, Nat.min_eq_left hl, stepT_tl]
  split
  · rw [tl_plus]; rfl
  · rw [tl_dash]; rfl
theorem stepT_cut1 (s : Stp) : cutS (stepT s) (some 1) none = s.2 := by
  refine ext_tl ?_
  have hl : 1 ≤ (stepT s).length := by
    rw [len_tl, stepT_tl, List.length_cons]
    omega
  have hl2 : (stepT s).length = (TL.tl s.2).length + 1 := by rw [len_tl, stepT_tl, List.length_cons]
  show ((TL.tl (stepT s)).drop (HT.sIx (stepT s).length 0 (some ((1 : Nat) : Int)))).take (HT.sIx (stepT s).length (stepT s).length none - HT.sIx (stepT s).length 0 (some ((1 : Nat) : Int))) = _
  rw [HT.sIx_nat, HT.sIx_none, Nat.min_eq_left hl, stepT_tl]
  show (TL.tl s.2).take _ = _
  rw [hl2]
  exact List.take_of_length_le (by omega)
/-! ### numbers and effects -/
def nums : List Nat := (List.range 100)
theorem num_blk (p : Int) (h0 : 0 ≤ p) : 32 ∉ TL.tl (toString p : Str) := by
  obtain ⟨n, rfl⟩ := Int.eq_ofNat_of_zero_le h0
  rw [tl_num]
  exact numL_free (.inl (by decide))
theorem split_eff {xs ys : List Str} {p : Int} (h1 : ∀ z ∈ xs, Item z) (h2 : ∀ z ∈ ys, Item z) (h0 : 0 ≤ p) : Txt.split (effT (some (xs, ys, p))) sBlk = fiveT xs ys p := by
  refine split_join tl_blk (by decide +kernel) (by simp [fiveT]) fun q m c => ?_
  simp only [fiveT, List.mem_cons, List.not_mem_nil, or_false] at m
  rcases m with rfl | rfl | rfl | rfl | rfl
  · exact wordT_blk h1 c
  · exact absurd c (by decide +kernel)
  · exact wordT_blk h2 c
  · exact absurd c (by decide +kernel)
  · exact num_blk p h0 c
theorem effT_never {o : Option (List Str × List Str × Int)} : effT o = Str.ofString "never" ↔ o = none := by
  constructor
  · intro e
    cases o with
    | none => rfl
    | some B =>
      obtain ⟨xs, ys, p⟩ := B
      have e2 : 32 ∈ TL.tl (effT (some (xs, ys, p))) := by
        unfold effT fiveT
        dsimp only
        rw [join_eq]
        show 32 ∈ TL.tl (wordT xs ++ sBlk ++ Str.join sBlk _)
        rw [tl_append, tl_append, tl_blk]
        simp
      rw [e] at e2
      exact absurd e2 (by decide +kernel)
  · rintro rfl
    rfl
end SE
/-! Exceptions of own classes below ValueError, each with one field. -/
namespace SE
open PySem PySem.Spec PyProof.Rows L2
section
variable {P : Program} {w : World} {K : PySem.W.Frag} {mg : Str → Option Value} {base : Heap}
/-- a def that may raise keeps the promise sp -/
def HasX (P : Program) (w : World) (K : PySem.W.Frag) (mg : Str → Option Value) (base : Heap) (x : Str) (k : Nat) (ps : List Str) (dvs : List V) (sp : Sp) : Prop :=
  ∃ f fd ds, FnOk P w K mg base (L2.CX P w) k f fd ps sp ∧ mg x = some (.ref f) ∧ PySem.W.keepIn K (.ref f) = true ∧ Binds K fd ps ds ∧ Vals dvs ds ∧ ∃ st, Fun K x x st f fd
abbrev BxX (P : Program) (w : World) (K : PySem.W.Frag) (mg : Str → Option Value) (base : Heap) (N : List Str) (x : Str) (st : Stmt) (f : Addr) (cv : Value) (A : Around) (out : List Env) (s : Shared) (H : Hp) (E : XK) : Cx :=
  cxOf (L2.CX P w) P w K mg base N x (defScope st) f cv A out s H E
theorem hasX_of {x : Str} {st : Stmt} {N ps : List Str} {k : Nat} {sp : Sp} (D : Def K mg x st) (S : FnScope N ps (defScope st))
    (hb : ∀ (kV doc pm : Value) (an : Option Addr) (cv ct : Value) (us : List Value), us.length = ps.length → bindArgs (PySem.W.fnOf x x (defArgs st) (defBody st) (defScope st) .none kV doc pm an cv ct) ⟨us, []⟩ = pure (ps.zip us))
    (len : ∀ xs H Q E, sp xs H Q E → xs.length = ps.length)
    (hbd : ∀ (f : Addr) (cv : Value) (A : Around) (out : List Env) (s : Shared) (H : Hp) (xs : List V) (Q : VK) (E : XK), Room k (A.deeper (envOfC x (defScope st) s.heap.objs.size f cv)) → sp xs H Q E →
      ∃ t, PSs (BxX P w K mg base N x st f cv A out s H E) (defBody st) t ∧ t { nx := fun _ H2 => Q .non H2, rt := Q } (start N xs) H) : HasX P w K mg base x (k + 1) ps [] sp := by
  obtain ⟨f, fd, F, hm⟩ := D
  exact ⟨f, fd, [], F.okX S len fun cv A out s H xs Q E hr h => hbd f cv A out s H xs Q E hr h, hm, F.kp, F.binds hb, .nil, st, F⟩
/-- what stands in a def that may raise: its own way out -/
theorem tkX {N : List Str} {x : Str} {st : Stmt} {f : Addr} {cv : Value} {A : Around} {out : List Env} {s : Shared} {H : Hp} {E : XK} : Takes (BxX P w K mg base N x st f cv A out s H E) (fun cls d _ H => E cls d H) := takes_of rfl rfl rfl rfl
end
section
variable {X : Cx} {k : Nat} {ps : List Str} {sp : Sp} {x : Str} {p pos : Pos} {e : Expr} {es : List Expr} {t : TA} {dvs : List V} {E : XK} {W : WX}
/-- a call whose exceptions leave the def that calls -/
theorem pe_hasX (h : HasX X.prog X.w X.K X.mg X.base x k ps dvs sp) (hr : Room k X.A) (tk : Takes X (fun cls d _ H => E cls d H)) (ha : PA X (e :: es) t) (hg : Gl X x := by rfl) (hdb : (x == ("__debug__" : Str)) = false := by decide)
    (he : starEach (e :: es) X.env = (false, eval e X.env) :: starEach es X.env := by rfl) (hpl : (backTo pos (starEach es X.env)).any (·.1) = false := by rfl) : PE X (.Call (.Name x p) (e :: es) [] pos) (tCall sp dvs E t) := by
  obtain ⟨f, fd, ds, F, hm, hk, hb, hd, _⟩ := h
  exact pe_call F hr hg hm hk hb hd (passes_call tk fun _ _ _ _ z => z) ha hdb he hpl
/-- a call within a try -/
theorem pe_hasS (h : HasX X.prog X.w X.K X.mg X.base x k ps [] sp) (hr : Room k X.A) (tk : Takes X W) (ha : PA X (e :: es) t) (hg : Gl X x := by rfl) (hdb : (x == ("__debug__" : Str)) = false := by decide)
    (he : starEach (e :: es) X.env = (false, eval e X.env) :: starEach es X.env := by rfl) (hpl : (backTo pos (starEach es X.env)).any (·.1) = false := by rfl) : PE X (.Call (.Name x p) (e :: es) [] pos) (tCallS sp (WE W) t) := by
  obtain ⟨f, fd, ds, F, hm, hk, hb, hd, _⟩ := h
  cases hd
  exact pe_callS F hr hg hm hk hb (fun σ => passAt tk σ) ha hdb he hpl
end
/-! ### a class of exceptions -/
def spXI (K : PySem.W.Frag) (C : Addr) (f : Str) : Sp := fun xs H Q _ => ∃ (a : Addr) (v : V), xs = [.ref a, v] ∧ H a = some (exo a C none) ∧ ∀ dx, H dx = none → dx ≠ a → Q .non (upd (upd H dx (exd dx [(f, v)])) a (exo a C (some dx)))
/-- what the written part says of the class at C, whose __init__ sets the field f -/
structure XcC (P : Program) (w : World) (K : PySem.W.Frag) (mg : Str → Option Value) (base : Heap) (x f : Str) (C : Addr) : Prop where
  oex : OexC K C
  gC : mg x = some (.ref C)
  init : ∃ fI fd, PySem.W.findIn K (.ref C) "__init__" = some (some (.ref fI)) ∧ PySem.W.typeIn K (.ref fI) = some (.type "function") ∧ FnOk P w K mg base CX0 1 fI fd ["self", f] (spXI K C f) ∧ Binds K fd ["self", f] []
  xf : XfC K C
  noF : PySem.W.findIn K (.ref C) f = some none
  ha : PySem.W.findIn K (.ref C) "__class__" = some (some (.builtin "object.__class__"))
  hn : PySem.W.specialIn K (.builtin "object.__class__") "__get__" = some (some (.builtin "getset_descriptor.__get__"))
  ht : PySem.W.takesIn K (.builtin "object.__class__") = some true
  hm : PySem.W.mroIn K C (.type "object") = some true
  te : PySem.W.exmOne K (.ref C) (.ref C) = some true
/-- __init__ -/
theorem init_ok {P : Program} {w : World} {K : PySem.W.Frag} {mg : Str → Option Value} {base : Heap} {q f : Str} {C : Addr} {st : Stmt} {fI : Addr} {fd : FuncData} {p1 p2 p3 p4 : Pos} (F : Fun K "__init__" q st fI fd) (S : FnScope ["self", f] ["self", f] (defScope st)) (T : OexC K C) (noF : PySem.W.findIn K (.ref C) f = some none)
    (hb : defBody st = [.Assign [.Attribute (.Name "self" p1) f p2] (.Name f p3) p4])
    (v0 : Vis (defScope st) "self") (v1 : Vis (defScope st) f) (hdb : (f == ("__debug__" : Str)) = false) (hcd : (f == ("__classdict__" : Str)) = false) : FnOk P w K mg base CX0 1 fI fd ["self", f] (spXI K C f) := by
  refine F.ok S (fun xs H Q E h => ?_) (fun cv A out s H xs Q E hr h => ?_)
  · obtain ⟨a, v, rfl, _⟩ := h
    rfl
  · obtain ⟨a, v, rfl, ha, k⟩ := h
    rw [hb]
    refine ⟨_, pss_one (ps_ost (pe_var (i := 0) rfl v0) (pe_var (i := 1) rfl v1 (hd := hdb) (hcd := hcd))), ?_⟩
    exact ⟨_, rfl, _, rfl, a, C, rfl, T, noF, .inl ⟨ha, fun dx nd ne => k dx nd ne⟩⟩
section
variable {X : Cx} {C : Addr} {x f : Str}
theorem mk_heap {H1 : Hp} {a d C : Addr} {f : Str} {v : V} (na : H1 a = none) (nd : d ≠ a) : upd (del (upd (upd (upd H1 a (exo a C none)) d (exd d [(f, v)])) a (exo a C (some d))) a) d (.xd [(f, v)]) = upd H1 d (.xd [(f, v)]) := by
  funext b
  by_cases e : b = d
  · subst e
    rw [upd_same, upd_same]
  · rw [upd_ne e, upd_ne e]
    by_cases e2 : b = a
    · subst e2
      rw [del_same, na]
    · rw [del_ne e2, upd_ne e2, upd_ne e, upd_ne e2]
theorem mk_red {K : PySem.W.Frag} {H1 : Hp} {v : V} {Q : XK} (h : ∀ d, H1 d = none → Q (.ref C) (some d) (upd H1 d (.xd [(f, v)]))) :
    ([v] : List V).length ≤ 1000 ∧ ∀ a, H1 a = none → spXI K C f (.ref a :: ([v] ++ [])) (upd H1 a (exo a C none))
      (fun u H2 => u = .non ∧ ∃ (d : Addr) (fs : List (Str × V)), H2 a = some (exo a C (some d)) ∧ H2 d = some (exd d fs) ∧ H1 d = none ∧ Q (.ref C) (some d) (upd (del H2 a) d (.xd fs))) (fun _ _ _ => False) := by
  refine ⟨(by decide : 1 ≤ 1000), fun a na => ⟨a, v, rfl, upd_same, fun d nd ne => ⟨rfl, d, [(f, v)], upd_same, ?_, ?_, ?_⟩⟩⟩
  · rw [upd_ne ne]
    exact upd_same
  · rw [upd_ne ne] at nd
    exact nd
  · rw [mk_heap na ne]
    rw [upd_ne ne] at nd
    exact h d nd
/-- C(e): behind the argument mk_red -/
theorem pmk_x {e : Expr} {ta : TA} {p pos : Pos} (T : XcC X.prog X.w X.K X.mg X.base x f C) (hr : Room 2 X.A) (ha : PA X [e] ta) (hg : Gl X x := by rfl)
    (hdb : (x == ("__debug__" : Str)) = false := by decide) (he : starEach (e :: []) X.env = (false, eval e X.env) :: starEach [] X.env := by rfl) (hpl : (backTo pos (starEach [] X.env)).any (·.1) = false := by rfl) :
    PMk X (.Call (.Name x p) [e] [] pos) (tMkO C (spXI X.K C f) [] ta) := by
  obtain ⟨fI, fd, i1, i2, i3, i4⟩ := T.init
  exact pmk_oex (CX := CX0) T.oex i1 i2 i3 hr i4 .nil pass0 hg T.gC ha hdb he hpl
theorem ps_raiseX {W : WX} {e : Expr} {ta : TA} {p pos pos2 : Pos} (hc : X.calm = true) (T : XcC X.prog X.w X.K X.mg X.base x f C) (hr : Room 2 X.A) (tk : Takes X W) (ha : PA X [e] ta) (hg : Gl X x := by rfl)
    (hdb : (x == ("__debug__" : Str)) = false := by decide) (he : starEach (e :: []) X.env = (false, eval e X.env) :: starEach [] X.env := by rfl) (hpl : (backTo pos (starEach [] X.env)).any (·.1) = false := by rfl) :
    PS X (.Raise (some (.Call (.Name x p) [e] [] pos)) none pos2) (fun _ σ H => tMkO C (spXI X.K C f) [] ta σ H fun cls d H' => W cls d σ H') := ps_raise hc tk (pmk_x T hr ha hg hdb he hpl)
/-- isinstance(e, c), e the exception that the suite holds -/
def rIsX (K : PySem.W.Frag) (C a : Addr) (cls : Value) (d : Option Addr) : List V → Hp → VK → Prop := fun xs H Q => ∃ (c : V) (cv : Value) (b : Bool) (dd : Addr) (fs : List (Str × V)), xs = [.ref a, c] ∧ cls = .ref C ∧ (∀ u, RelV c u → u = cv) ∧ PySem.W.kitOne K (.ref C) cv = some b ∧ d = some dd ∧ H dd = some (.xd fs) ∧ Q (.bl b) H
theorem call_isX {a : Addr} {oe : Obj} {cls : Value} {d : Option Addr} {pn : List (Addr × Obj)} (T : XcC X.prog X.w X.K X.mg X.base x f C) (hz : Zc cls d oe) (hf : ∃ vs, oe.data = .fields vs) : CallR (X.suite a ((a, oe) :: pn)) (.builtin "isinstance") (rIsX X.K C a cls d) := by
  intro pins s σ H xs us Q I r h
  obtain ⟨c, cv, b, dd, fs, rfl, rfl, hcv, e, rfl, hH, q⟩ := h
  cases r with
  | cons rx rr =>
    cases rr with
    | cons rt rr =>
      cases rr
      cases rx
      have ec := hcv _ rt
      subst ec
      obtain ⟨hget, _⟩ := I.pin (a, oe) (List.mem_append.mpr (.inl List.mem_cons_self))
      obtain ⟨vs, hv⟩ := hf
      have hx : ObjOk X.prog X.w H s.heap dd (.xd fs) := I.hok dd _ hH
      obtain ⟨mA, hns, hr⟩ := hx
      obtain ⟨od, ho, hl⟩ := lookIn_ns hns
      have J : PySem.W.InstAt s.heap a oe C (some od) := ⟨hget, hz.1, by unfold PySem.W.notCls; rw [hv] <;> rfl, by rw [hz.2]; exact ho⟩
      have hcl : (PySem.W.clsIn X.K C).isSome = true := by
        obtain ⟨cd, hc, _⟩ := PySem.W.any_some T.xf.hdC
        rw [hc]
        rfl
      exact PySem.W.kia_one (PySem.W.kitx_exc hcl T.xf.ga T.xf.gg T.xf.exC T.ha T.hn T.ht T.hm) I.kIn J e (fun z => nomatch z) fun tk => ⟨.bl b, H, I.kept (t' := tk) fun _ _ z => z, rfl, q⟩
end
end SE
/-! Small data with great ints; its kinds; len(set(ints)) with duplicates. -/
namespace SE
open PySem PySem.Spec PyProof.Rows L2
/-- a text of signs -/
def okA (x : Str) : Bool := x.cps.toList.all fun c => decide (c < 0x110000)
theorem okA_app {a b : Str} (ha : okA a = true) (hb : okA b = true) : okA (a ++ b) = true := by
  show ((a.cps ++ b.cps).toList.all fun c => decide (c < 0x110000)) = true
  rw [Array.toList_append, List.all_append, Bool.and_eq_true]
  exact ⟨ha, hb⟩
theorem okA_from : ∀ (ts : List Str) (k : Nat) (acc : Str), okA acc = true → (∀ t ∈ ts, okA t = true) → okA (textFrom k acc ts) = true
  | [], k, acc, h, _ => h
  | t :: r, k, acc, h, hs => by
    refine okA_from r (k + 1) _ (okA_app (okA_app h ?_) (hs t List.mem_cons_self)) fun x m => hs x (List.mem_cons_of_mem _ m)
    split <;> decide +kernel
theorem okA_list {ts : List Str} (h : ∀ t ∈ ts, okA t = true) : okA (listText ts) = true := okA_app (okA_from ts 0 "[" (by decide +kernel) h) (by decide +kernel)
theorem okA_join : ∀ (ts : List Str), (∀ t ∈ ts, okA t = true) → okA (Str.join ", " ts) = true
  | [], _ => by decide +kernel
  | [x], h => h x List.mem_cons_self
  | x :: y :: r, h => okA_app (okA_app (h x List.mem_cons_self) (by decide +kernel)) (okA_join (y :: r) fun t m => h t (List.mem_cons_of_mem _ m))
theorem okA_tuple {ts : List Str} (h : ∀ t ∈ ts, okA t = true) : okA (tupleText ts) = true := by
  refine okA_app (okA_app (by decide +kernel) (okA_join ts h)) ?_
  split <;> decide +kernel
structure SD (k B : Nat) (d : PyData) : Prop where
  dep : d.depth ≤ k
  sh : d.showable = true
  lf : d.leavesShort 45 = true
  wt : d.weight ≤ B
  so : okA d.shown = true
theorem SD.mono {k j B C : Nat} {d : PyData} (h : SD k B d) (hk : k ≤ j) (hB : B ≤ C) : SD j C d := ⟨Nat.le_trans h.dep hk, h.sh, h.lf, Nat.le_trans h.wt hB, h.so⟩
theorem sd_all {k B : Nat} : ∀ {ds : List PyData}, (∀ d ∈ ds, SD k B d) → PyData.depthAll ds ≤ k ∧ PyData.showableAll ds = true ∧ PyData.leavesShortAll 45 ds = true ∧ PyData.weightAll ds ≤ ds.length * (B + 1) ∧ ∀ t ∈ PyData.shownAll ds, okA t = true
  | [], _ => by
    refine ⟨?_, ?_, ?_, ?_, fun t m => by cases m⟩
    · simp only [PyData.depthAll]
      exact Nat.zero_le _
    · simp only [PyData.showableAll]
    · simp only [PyData.leavesShortAll]
    · simp only [PyData.weightAll]
      exact Nat.zero_le _
  | d :: ds, h => by
    obtain ⟨a2, a3, a5, a6, a7⟩ := sd_all (ds := ds) fun x hx => h x (List.mem_cons_of_mem _ hx)
    have q := h d List.mem_cons_self
    refine ⟨?_, ?_, ?_, ?_, fun t m => ?_⟩
    · simp only [PyData.depthAll]
      exact Nat.max_le.mpr ⟨q.dep, a2⟩
    · simp only [PyData.showableAll, q.sh, a3, Bool.and_self]
    · simp only [PyData.leavesShortAll, q.lf, a5, Bool.and_self]
    · simp only [PyData.weightAll, List.length_cons]
      have := q.wt
      rw [Nat.add_mul]
      omega
    · rcases List.mem_cons.mp (show t ∈ d.shown :: PyData.shownAll ds from m) with e | e
      · rw [e]; exact q.so
      · exact a7 t e
theorem sd_list {k B : Nat} {ds : List PyData} (h : ∀ d ∈ ds, SD k B d) : SD (k + 1) (ds.length * (B + 1)) (.list ds) := by
  obtain ⟨a2, a3, a5, a6, a7⟩ := sd_all h
  exact ⟨by simp only [PyData.depth]; omega, by simp only [PyData.showable]; exact a3, by simp only [PyData.leavesShort]; exact a5, by simp only [PyData.weight]; exact a6, by simp only [PyData.shown]; exact okA_list a7⟩
theorem sd_tuple {k B : Nat} {ds : List PyData} (h : ∀ d ∈ ds, SD k B d) : SD (k + 1) (ds.length * (B + 1)) (.tuple ds) := by
  obtain ⟨a2, a3, a5, a6, a7⟩ := sd_all h
  exact ⟨by simp only [PyData.depth]; omega, by simp only [PyData.showable]; exact a3, by simp only [PyData.leavesShort]; exact a5, by simp only [PyData.weight]; exact a6, by simp only [PyData.shown]; exact okA_tuple a7⟩
theorem SD.shown {k B : Nat} {d : PyData} (h : SD k B d) (hB : B ≤ 300000) : d.shown.length ≤ sizeLine := by
  have q := PyData.shown_le 45 (by decide) d h.lf
  have := h.wt
  have m : (45 + 2) * d.weight ≤ 47 * 300000 := Nat.mul_le_mul (by decide) (by omega)
  rw [sizeLine_eq]
  omega
/-! ### kinds -/
def isInt : PyData → Bool
  | .int _ | .bool _ => true
  | _ => false
def isBoo : PyData → Bool
  | .bool _ => true
  | _ => false
theorem kit_int {K : PySem.W.Frag} : ∀ d : PyData, PySem.W.kitOne K (.type (tyD d)) (.type "int") = some (isInt d)
  | .none => kit_ty (show kitB "NoneType" "int" = some false by decide +kernel)
  | .bool _ => kit_ty (show kitB "bool" "int" = some true by decide +kernel)
  | .int _ => kit_ty (show kitB "int" "int" = some true by decide +kernel)
  | .str _ => kit_ty (show kitB "str" "int" = some false by decide +kernel)
  | .list _ => kit_ty (show kitB "list" "int" = some false by decide +kernel)
  | .tuple _ => kit_ty (show kitB "tuple" "int" = some false by decide +kernel)
  | .dict _ => kit_ty (show kitB "dict" "int" = some false by decide +kernel)
theorem kit_boo {K : PySem.W.Frag} : ∀ d : PyData, PySem.W.kitOne K (.type (tyD d)) (.type "bool") = some (isBoo d)
  | .none => kit_ty (show kitB "NoneType" "bool" = some false by decide +kernel)
  | .bool _ => kit_ty (show kitB "bool" "bool" = some true by decide +kernel)
  | .int _ => kit_ty (show kitB "int" "bool" = some false by decide +kernel)
  | .str _ => kit_ty (show kitB "str" "bool" = some false by decide +kernel)
  | .list _ => kit_ty (show kitB "list" "bool" = some false by decide +kernel)
  | .tuple _ => kit_ty (show kitB "tuple" "bool" = some false by decide +kernel)
  | .dict _ => kit_ty (show kitB "dict" "bool" = some false by decide +kernel)
/-! ### len(set(xs)) of ints -/
theorem firstMet_len (f : Nat → Int) : ∀ i, (PyProof.Rows.firstMet f i).length ≤ i
  | 0 => Nat.le_refl _
  | i + 1 => by
    have ih := firstMet_len f i
    rw [PyProof.Rows.firstMet_succ]
    unfold PyProof.Rows.step_dedup
    split
    · omega
    · rw [List.length_append, List.length_singleton]
      omega
theorem firstMet_mem (f : Nat → Int) : ∀ i j, j < i → f j ∈ PyProof.Rows.firstMet f i
  | 0, j, h => absurd h (Nat.not_lt_zero _)
  | i + 1, j, h => by
    rw [PyProof.Rows.firstMet_succ]
    unfold PyProof.Rows.step_dedup
    by_cases e : j = i
    · subst e
      split
      · rename_i q
        obtain ⟨x, mx, ex⟩ := List.any_eq_true.mp q
        rw [← beq_iff_eq.mp ex]
        exact mx
      · exact List.mem_append.mpr (.inr (List.mem_singleton.mpr rfl))
    · have ih := firstMet_mem f i j (by omega)
      split
      · exact ih
      · exact List.mem_append.mpr (.inl ih)
theorem firstMet_full (f : Nat → Int) : ∀ i, (PyProof.Rows.firstMet f i).length = i → ∀ a b, a < b → b < i → f a ≠ f b
  | 0, _, _, _, _, h => absurd h (Nat.not_lt_zero _)
  | i + 1, hl, a, b, hab, hb => by
    have l1 := firstMet_len f i
    rw [PyProof.Rows.firstMet_succ] at hl
    unfold PyProof.Rows.step_dedup at hl
    by_cases q : (PyProof.Rows.firstMet f i).any (· == f i) = true
    · rw [if_pos q] at hl
      omega
    · rw [if_neg q, List.length_append, List.length_singleton] at hl
      have ih := firstMet_full f i (by omega)
      by_cases e : b = i
      · subst e
        intro z
        exact q (List.any_eq_true.mpr ⟨f a, firstMet_mem f b a hab, by rw [z]; exact beq_self_eq_true _⟩)
      · exact ih a b hab (by omega)
theorem firstMet_iff (ns : List Int) : (PyProof.Rows.firstMet (fun i => ns.getD i 0) ns.length).length = ns.length ↔ ns.Nodup := by
  constructor
  · intro h
    rw [List.nodup_iff_pairwise_ne, List.pairwise_iff_getElem]
    intro i j hi hj hij
    have q := firstMet_full _ _ h i j hij hj
    rw [List.getD_eq_getElem?_getD, List.getD_eq_getElem?_getD, List.getElem?_eq_getElem hi, List.getElem?_eq_getElem hj] at q
    exact q
  · intro h
    rw [RZ.firstMet_nodup h ns.length (Nat.le_refl _), List.take_length]
def tLenSetJ (K : PySem.W.Frag) (ta : TE) : TE := fun σ H Q => ta σ H fun x H1 => ∃ (l : Addr) (ns : List Int), x = .ref l ∧ SqL K H1 l (ns.map V.int) ∧ ns.length ≤ 4000 ∧ ∀ m : Nat, (m = ns.length ↔ ns.Nodup) → Q (.int (m : Nat)) H1
theorem pe_lenSetJ {X : Cx} {a : Expr} {ta : TE} {p p2 q pos : Pos} (hg : Gl X "len") (hm : X.mg "len" = none) (hg2 : Gl X "set") (hm2 : X.mg "set" = none) (ha : PE X a ta) (hc : X.calm = true := by rfl)
    (na : starEach [a] X.env = (false, eval a X.env) :: starEach [] X.env := by rfl) : PE X (.Call (.Name "len" p) [.Call (.Name "set" p2) [a] [] q] [] pos) (tLenSetJ X.K ta) := by
  constructor
  intro pins s σ H Q I h
  refine Call_ (ld_blt I hg hm boot_len (PyProof.Rows.callWith_builtin1 (PyProof.Rows.args_cons (Call_ (ld_blt I hg2 hm2 boot_set ?_)) rfl) rfl rfl))
  refine PyProof.Rows.callWith_type1 (PyProof.Rows.args_cons (thn (ha.run pins s σ H _ I h) fun v s1 hh => PyProof.Rows.args_nil ?_) na) na rfl
  obtain ⟨x, H1, I1, r1, l, ns, rfl, hq, hl, q1⟩ := hh
  cases r1
  obtain ⟨its, r, pl, hz⟩ := I1.list hq
  have sz : its.toArray.size = ns.length := by rw [List.size_toArray, ← r.length, List.length_map]
  refine call_set_list (I1.ok.hd hc) pl.isList (by simpa using RZ.intsAre_vals r) (by rw [sz]; unfold scanBound; omega) fun h2 tk hS keep => PyProof.Rows.args_nil ?_
  rw [sz] at hS
  have l2 := firstMet_len (fun i => ns.getD i 0) ns.length
  obtain ⟨o, es, ep, tb, ho, hx, dd, _, _, _, hf, hn⟩ := hS
  have J : Inv X pins σ H1 { s1 with heap := h2, toks := tk } := I1.kept fun b u e => keep b u (Heap.lt_size e) e
  exact call_len_set ho hx dd hf (by rw [hn]; omega) ⟨.int ((PyProof.Rows.firstMet (fun i => ns.getD i 0) ns.length).length : Nat), H1, J.tok _, ⟨_, by rw [hn]⟩, q1 _ (firstMet_iff ns)⟩
end SE
namespace SE
open PySem PySem.Spec PyProof.Rows L2 TL
/-! ### texts cut in pieces -/
theorem spl_ok {s : Nat} : ∀ (L acc : List Nat), (∀ p ∈ spl [s] 0 acc L, (∀ c ∈ p, c ∈ acc ∨ c ∈ L) ∧ p.length ≤ acc.length + L.length) ∧ (spl [s] 0 acc L).length ≤ L.length + 1 ∧ spl [s] 0 acc L ≠ []
  | [], acc => by
    rw [spl_nil]
    refine ⟨fun p m => ?_, by simp, by simp⟩
    obtain rfl := List.mem_singleton.mp m
    exact ⟨fun c h => .inl h, by simp⟩
  | c :: r, acc => by
    show (∀ p ∈ (if pre [s] (c :: r) = true then acc :: spl [s] 0 [] r else spl [s] 0 (acc ++ [c]) r), _) ∧ (if pre [s] (c :: r) = true then acc :: spl [s] 0 [] r else spl [s] 0 (acc ++ [c]) r).length ≤ _ ∧ (if pre [s] (c :: r) = true then acc :: spl [s] 0 [] r else spl [s] 0 (acc ++ [c]) r) ≠ []
    split
    · obtain ⟨h1, h2, _⟩ := spl_ok (s := s) r []
      refine ⟨fun p m => ?_, by simp only [List.length_cons]; omega, by simp⟩
      rcases List.mem_cons.mp m with rfl | m
      · exact ⟨fun d h => .inl h, by omega⟩
      · obtain ⟨q1, q2⟩ := h1 p m
        refine ⟨fun d h => .inr ?_, by simp only [List.length_cons, List.length_nil] at q2 ⊢; omega⟩
        rcases q1 d h with h | h
        · cases h
        · exact List.mem_cons_of_mem _ h
    · obtain ⟨h1, h2, h3⟩ := spl_ok (s := s) r (acc ++ [c])
      refine ⟨fun p m => ?_, by simp only [List.length_cons]; omega, h3⟩
      obtain ⟨q1, q2⟩ := h1 p m
      refine ⟨fun d h => ?_, by simp only [List.length_append, List.length_cons, List.length_nil] at q2 ⊢; omega⟩
      rcases q1 d h with h | h
      · rcases List.mem_append.mp h with h | h
        · exact .inl h
        · exact .inr (by rw [List.mem_singleton.mp h]; exact List.mem_cons_self)
      · exact .inr (List.mem_cons_of_mem _ h)
theorem split_ok {y : Str} {s : Nat} (ey : tl y = [s]) (hk : y.cps.all (· < 256) = true) (z : Str) : (∀ p ∈ Txt.split z y, (∀ c ∈ tl p, c ∈ tl z) ∧ p.length ≤ z.length) ∧ (Txt.split z y).length ≤ z.length + 1 ∧ Txt.split z y ≠ [] := by
  have e := split_spl z y (by rw [ey]; simp) (kind_ok hk)
  rw [ey] at e
  obtain ⟨h1, h2, h3⟩ := spl_ok (s := s) (tl z) []
  rw [← e] at h1 h2 h3
  refine ⟨fun p m => ?_, by rw [List.length_map] at h2; rw [len_tl]; exact h2, fun q => h3 (by rw [q]; rfl)⟩
  obtain ⟨q1, q2⟩ := h1 (tl p) (List.mem_map_of_mem m)
  refine ⟨fun c h => ?_, by rw [len_tl, len_tl]; simpa using q2⟩
  rcases q1 c h with h | h
  · cases h
  · exact h
theorem okA_mem {z : Str} : okA z = true ↔ ∀ c ∈ tl z, c < 0x110000 := by
  show (z.cps.toList.all fun c => decide (c < 0x110000)) = true ↔ _
  rw [List.all_eq_true]
  exact ⟨fun h c m => of_decide_eq_true (h c m), fun h c m => decide_eq_true (h c m)⟩
theorem okA_sub {p z : Str} (h : okA z = true) (k : ∀ c ∈ tl p, c ∈ tl z) : okA p = true := okA_mem.mpr fun c m => okA_mem.mp h c (k c m)
theorem cut_memT {z : Str} {lo hi : Option Int} : ∀ c ∈ tl (cutS z lo hi), c ∈ tl z := fun c m => by
  have m : c ∈ ((tl z).drop (HT.sIx z.length 0 lo)).take (HT.sIx z.length z.length hi - HT.sIx z.length 0 lo) := m
  exact List.mem_of_mem_drop (List.mem_of_mem_take m)
theorem oks_lay2 {x : Str} (h : okA x = true) : PyData.strOk x = true := by
  unfold PyData.strOk
  rw [← Array.all_toList]
  exact h
/-- a text of characters, its length bounded -/
structure TxS (B : Nat) (z : Str) : Prop where
  ok : okA z = true
  ln : z.length ≤ B
theorem TxS.nx {B : Nat} {z : Str} (h : TxS B z) : NX 0 B (.str z) := by
  refine ⟨?_, by simp [PyData.depth], rfl, rfl, ?_⟩
  · simp only [layE]
    exact oks_lay2 h.ok
  · simp only [PyData.weight]
    exact h.ln
theorem TxS.cut {B : Nat} {z : Str} (h : TxS B z) {lo hi : Option Int} : TxS B (cutS z lo hi) := ⟨okA_sub h.ok cut_memT, Nat.le_trans (cutS_length z lo hi) h.ln⟩
theorem TxS.mono {B C : Nat} {z : Str} (h : TxS B z) (k : B ≤ C) : TxS C z := ⟨h.ok, Nat.le_trans h.ln k⟩
theorem TxS.dot {B : Nat} {z : Str} (h : TxS B z) : (∀ p ∈ Txt.split z sDot, TxS B p) ∧ (Txt.split z sDot).length ≤ B + 1 ∧ Txt.split z sDot ≠ [] := by
  obtain ⟨h1, h2, h3⟩ := split_ok tl_dot (by decide +kernel) z
  have := h.ln
  exact ⟨fun p m => ⟨okA_sub h.ok (h1 p m).1, by have := (h1 p m).2; omega⟩, by omega, h3⟩
theorem TxS.blk {B : Nat} {z : Str} (h : TxS B z) : (∀ p ∈ Txt.split z sBlk, TxS B p) ∧ (Txt.split z sBlk).length ≤ B + 1 ∧ Txt.split z sBlk ≠ [] := by
  obtain ⟨h1, h2, h3⟩ := split_ok tl_blk (by decide +kernel) z
  have := h.ln
  exact ⟨fun p m => ⟨okA_sub h.ok (h1 p m).1, by have := (h1 p m).2; omega⟩, by omega, h3⟩
/-! ### what the texts say -/
abbrev itemS (z : Str) : Bool := itemD (.str z)
def wordOf (z : Str) : Option (List Str) := if z = sDash then some [] else if (Txt.split z sDot).all itemS = true then some (Txt.split z sDot) else none
/-- a value that stands for a word or for none -/
def WordR (K : PySem.W.Frag) (H : Hp) (v : V) : Option (List Str) → Prop
  | none => v = .non
  | some zs => ∃ a, v = .ref a ∧ SqT K H a (zs.map V.str)
theorem WordR.same {K : PySem.W.Frag} {H H' : Hp} {v : V} {o : Option (List Str)} (s : Same H H') (h : WordR K H v o) : WordR K H' v o := by
  cases o with
  | none => exact h
  | some zs =>
    obtain ⟨a, e, q⟩ := h
    exact ⟨a, e, Same.tup s q⟩
abbrev sPush : Str := Str.ofString "push"
abbrev sPop : Str := Str.ofString "pop"
def actS (p : Str) : Option Str := if cutS p none (some 1) = sPlus then some sPush else if cutS p none (some 1) = sDash then some sPop else none
def partS (p : Str) : Bool := (actS p).isSome && itemS (cutS p (some 1) none)
def stepsOf (z : Str) : Option (List Str) := if z = sDot then some [] else if (Txt.split z sBlk).all partS = true then some (Txt.split z sBlk) else none
/-- the constants of the texts -/
structure TCon (K : PySem.W.Frag) (w : World) (mg : Str → Option Value) : Prop where
  dig : ∃ t, mg "DIGITS" = some (.str "0123456789" t)
  ew : ∃ t, mg "EMPTY_WORD" = some (.str sDash t)
  es : ∃ t, mg "EMPTY_SEQUENCE" = some (.str sDot t)
  nv : ∃ t, mg "NEVER" = some (.str "never" t)
  ac : ∃ (d : Addr) (es : Array DictEntry) (n : Nat) (u v : Value), mg "ACTIONS" = some (.ref d) ∧ KDict K w d es n ∧ PySem.W.nsIn K d "+" = some (some u) ∧ RelV (.str "push") u ∧ PySem.W.nsIn K d "-" = some (some v) ∧ RelV (.str "pop") v ∧ ∀ z : Str, z ≠ sPlus → z ≠ sDash → PySem.W.nsIn K d z = some none
theorem dps_strs {K : PySem.W.Frag} {H : Hp} : ∀ zs : List Str, DpXs K H (zs.map V.str) (zs.map PyData.str)
  | [] => .nil
  | z :: zs => .cons (.str z) (dps_strs zs)
theorem all_strs (zs : List Str) : ((zs.map PyData.str).map itemD).all id = zs.all itemS := by
  induction zs with
  | nil => rfl
  | cons z zs ih =>
    rw [List.map_cons, List.map_cons, List.all_cons, List.all_cons, ih]
    rfl
section
variable {P : Program} {w : World} {K : PySem.W.Frag} {mg : Str → Option Value} {base : Heap}
/-! ### word_in -/
def spWordT (K : PySem.W.Frag) : Sp := fun xs H Q _ => ∃ z : Str, xs = [.str z] ∧ TxS 200 z ∧ ∀ (v : V) (H' : Hp), Same H H' → WordR K H' v (wordOf z) → Q v H'
theorem scWi : FnScope ["text", "word"] ["text"] (defScope sWordIn) := ⟨rfl, rfl, rfl, by decide +kernel, rfl, by decide +kernel, by decide +kernel⟩
theorem has_wordT (D : Def K mg "word_in" sWordIn) (G : Has P w K mg base "is_word" 2 ["value"] [] (spX K wordD)) (B : Blt mg) (TC : TCon K w mg) : Has P w K mg base "word_in" 3 ["text"] [] (spWordT K) := by
  obtain ⟨tw, hW⟩ := TC.ew
  refine has_of D scWi (fun _ _ _ _ _ _ us hl => match us, hl with | [_], _ => rfl) (fun xs H Q E h => ?_) (fun f cv A out s H xs Q E hr h => ?_)
  · obtain ⟨z, rfl, _⟩ := h
    rfl
  · obtain ⟨z, rfl, hz, k⟩ := h
    refine ⟨_, pss_cons (ps_if (pt_cmpR op_eq (pv 0) (pe_glob (v := .str sDash) rfl hW ⟨_, rfl⟩) (nomark _)) (pss_one (ps_ret (pe_tup pa_nil))) pss_nil)
      (pss_cons (ps_set (i := 1) scWi.nd rfl (.inl rfl) (pe_callTy call_tuple_of (by rfl) B.tup (by decide +kernel) (pa_cons (pe_split (pv 0) pe_str) pa_nil)))
      (pss_one (ps_ret (pe_ifExp (pt_val (pe_has G hr (pa_cons (pv 1) pa_nil))) (pv 1) pe_non)))), ?_⟩
    refine ⟨_, rfl, rfl, _, rfl, ?_⟩
    show if decide (V.str z = V.str sDash) = true then _ else _
    by_cases c : z = sDash
    · rw [decide_eq_true (by rw [c])]
      refine iteT ⟨(by show 0 ≤ sizeLine; decide), fun a ha => k _ _ (Same.new ha) ?_⟩
      unfold wordOf
      rw [if_pos c]
      exact ⟨a, rfl, .of upd_same⟩
    · rw [decide_eq_false (fun e => c (V.str.inj e))]
      have wl := hz.ln
      obtain ⟨g1, g2, g3⟩ := hz.dot
      refine iteF ⟨_, rfl, ⟨_, rfl⟩, z, sDot, rfl, rfl, (by decide +kernel), by rw [sizeLine_eq]; omega, fun p hp => ?_⟩
      have ew : wordOf z = if (Txt.split z sDot).all itemS = true then some (Txt.split z sDot) else none := by
        unfold wordOf
        rw [if_neg c]
      generalize Txt.split z sDot = zs at g1 g2 g3 ew
      refine ⟨p, _, rfl, .inl ⟨.of upd_same, fun a ha => ?_⟩⟩
      have s1 : Same H (upd (upd H p (.lst (zs.map V.str))) a (.tup (zs.map V.str))) := Same.trans (Same.new hp) (Same.new ha)
      have h1 : upd (upd H p (.lst (zs.map V.str))) a (.tup (zs.map V.str)) a = some (.tup (zs.map V.str)) := upd_same
      generalize upd (upd H p (.lst (zs.map V.str))) a (.tup (zs.map V.str)) = H1 at s1 h1
      have ok : OkD (.tuple (zs.map PyData.str)) := by
        refine (nx_tuple (k := 0) (B := 200) fun d m => ?_).mono (by decide) ?_
        · obtain ⟨q, mq, rfl⟩ := List.mem_map.mp m
          exact (g1 q mq).nx
        · rw [List.length_map]
          have : zs.length * (200 + 1) ≤ 201 * (200 + 1) := Nat.mul_le_mul_right _ g2
          omega
      refine ⟨_, rfl, .ref a, .tuple (zs.map PyData.str), rfl, .tup (.of h1) (dps_strs zs), ok, fun H2 s2 => ⟨_, rfl, ?_⟩⟩
      rw [show wordD (.tuple (zs.map PyData.str)) = zs.all itemS from all_strs zs]
      by_cases q : zs.all itemS = true
      · rw [q]
        refine iteT ⟨_, rfl, k _ H2 (s1.trans s2) ?_⟩
        rw [ew, if_pos q]
        exact ⟨a, rfl, .of (s2 _ _ h1)⟩
      · rw [Bool.eq_false_iff.mpr q]
        refine iteF (k _ H2 (s1.trans s2) ?_)
        rw [ew, if_neg q]
        rfl
end
end SE
namespace SE
open PySem PySem.Spec PyProof.Rows L2 TL
/-! ### steps_in -/
abbrev restS (p : Str) : Str := cutS p (some 1) none
abbrev headS (p : Str) : Str := cutS p none (some 1)
def actV (p : Str) : V := match actS p with
  | some x => .str x
  | none => .non
def actP (p : Str) : PyData := match actS p with
  | some x => .str x
  | none => .none
def partD (p : Str) : PyData := .tuple [actP p, .str (restS p)]
def stepsL (z : Str) : Option (List Str) := if z = sDot then some [] else if decide ((Txt.split z sBlk).length ≤ 1000) && (Txt.split z sBlk).all partS then some (Txt.split z sBlk) else none
/-- the pieces of a text are few and short -/
structure FitS (B : Nat) (z : Str) : Prop where
  tx : TxS 4000 z
  pc : ∀ p ∈ Txt.split z sBlk, p.length ≤ B
  sz : (Txt.split z sBlk).length * (2 * (B + 5) + 1) ≤ 100000
theorem TxS.fit {z : Str} (h : TxS 200 z) : FitS 200 z := by
  obtain ⟨h1, h2, _⟩ := h.blk
  refine ⟨h.mono (by decide), fun p m => (h1 p m).ln, ?_⟩
  have : (Txt.split z sBlk).length * (2 * (200 + 5) + 1) ≤ 201 * (2 * (200 + 5) + 1) := Nat.mul_le_mul_right _ h2
  omega
theorem stepsL_of {z : Str} (h : TxS 200 z) : stepsL z = stepsOf z := by
  obtain ⟨_, h2, _⟩ := h.blk
  unfold stepsL stepsOf
  rw [decide_eq_true (show (Txt.split z sBlk).length ≤ 1000 by omega), Bool.true_and]
def StpR (K : PySem.W.Frag) (H : Hp) (u : V) (p : Str) : Prop := ∃ t, u = .ref t ∧ SqT K H t [actV p, .str (restS p)]
def StepsR (K : PySem.W.Frag) (H : Hp) (v : V) : Option (List Str) → Prop
  | none => v = .non
  | some ps => ∃ a us, v = .ref a ∧ SqL K H a us ∧ Paired (StpR K H) us ps ∧ ∀ p ∈ ps, partS p = true
theorem StpR.same {K : PySem.W.Frag} {H H' : Hp} {u : V} {p : Str} (s : Same H H') (h : StpR K H u p) : StpR K H' u p := by
  obtain ⟨t, e, q⟩ := h
  exact ⟨t, e, Same.tup s q⟩
theorem StepsR.same {K : PySem.W.Frag} {H H' : Hp} {v : V} {o : Option (List Str)} (s : Same H H') (h : StepsR K H v o) : StepsR K H' v o := by
  cases o with
  | none => exact h
  | some ps =>
    obtain ⟨a, us, e, q, r, i⟩ := h
    exact ⟨a, us, e, Same.seq s q, Paired.mapP r fun _ _ q => q.same s, i⟩
theorem act_kinds (p : Str) : actS p = some sPush ∨ actS p = some sPop ∨ actS p = none := by
  unfold actS
  split
  · exact .inl rfl
  · split
    · exact .inr (.inl rfl)
    · exact .inr (.inr rfl)
theorem stp_part (p : Str) : stpD (partD p) = partS p := by
  show (actD (actP p) && itemD (.str (restS p))) = ((actS p).isSome && itemS (restS p))
  unfold actP
  rcases act_kinds p with e | e | e
  · rw [e]
    rw [show actD (.str sPush) = true by decide +kernel]
    rfl
  · rw [e]
    rw [show actD (.str sPop) = true by decide +kernel]
    rfl
  · rw [e]
    rfl
theorem dpx_act {K : PySem.W.Frag} {H : Hp} (p : Str) : DpX K H (actV p) (actP p) := by
  unfold actV actP
  rcases act_kinds p with e | e | e <;> rw [e]
  · exact .str _
  · exact .str _
  · exact .non
theorem dpx_part {K : PySem.W.Frag} {H : Hp} {u : V} {p : Str} (h : StpR K H u p) : DpX K H u (partD p) := by
  obtain ⟨t, rfl, q⟩ := h
  exact .tup q (.cons (dpx_act p) (.cons (.str _) .nil))
theorem dpx_parts {K : PySem.W.Frag} {H : Hp} : ∀ {us : List V} {ps : List Str}, Paired (StpR K H) us ps → DpXs K H us (ps.map partD)
  | _, _, .nil => .nil
  | _, _, .cons a b => .cons (dpx_part a) (dpx_parts b)
theorem nx_act {B : Nat} (p : Str) : NX 0 (B + 4) (actP p) := by
  have q : ∀ x : Str, okA x = true → x.length ≤ 4 → NX 0 (B + 4) (.str x) := fun x h1 h2 => (TxS.nx (B := 4) ⟨h1, h2⟩).mono (Nat.le_refl _) (by omega)
  unfold actP
  rcases act_kinds p with e | e | e <;> rw [e]
  · exact q _ (by decide +kernel) (by decide +kernel)
  · exact q _ (by decide +kernel) (by decide +kernel)
  · exact ⟨rfl, by simp [PyData.depth], rfl, rfl, by simp [PyData.weight]⟩
theorem nx_part {B : Nat} {p : Str} (h : TxS B p) : NX 1 (2 * (B + 5)) (partD p) := by
  have := nx_tuple (k := 0) (B := B + 4) (ds := [actP p, .str (restS p)]) fun d m => by
    rcases List.mem_cons.mp m with rfl | m
    · exact nx_act p
    · obtain rfl := List.mem_singleton.mp m
      exact h.cut.nx.mono (Nat.le_refl _) (by omega)
  exact this
theorem all_parts (ps : List Str) : ((ps.map partD).map stpD).all id = ps.all partS := by
  induction ps with
  | nil => rfl
  | cons p ps ih =>
    rw [List.map_cons, List.map_cons, List.all_cons, List.all_cons, ih, stp_part]
    rfl
section
variable {P : Program} {w : World} {K : PySem.W.Frag} {mg : Str → Option Value} {base : Heap}
theorem act_get {d : Addr} {u v : Value} (h1 : PySem.W.nsIn K d "+" = some (some u)) (h2 : RelV (.str "push") u) (h3 : PySem.W.nsIn K d "-" = some (some v)) (h4 : RelV (.str "pop") v) (h5 : ∀ z : Str, z ≠ sPlus → z ≠ sDash → PySem.W.nsIn K d z = some none) (p : Str) : ∃ r : Option Value, PySem.W.nsIn K d (headS p) = some r ∧ RelV (actV p) (r.getD .none) := by
  unfold actV actS
  by_cases c1 : headS p = sPlus
  · rw [if_pos c1, c1]
    exact ⟨_, h1, h2⟩
  · rw [if_neg c1]
    by_cases c2 : headS p = sDash
    · rw [if_pos c2, c2]
      exact ⟨_, h3, h4⟩
    · rw [if_neg c2]
      exact ⟨none, h5 _ c1 c2, rfl⟩
def spStepsT (K : PySem.W.Frag) : Sp := fun xs H Q _ => ∃ (z : Str) (B : Nat), xs = [.str z] ∧ FitS B z ∧ ∀ (v : V) (H' : Hp), Same H H' → StepsR K H' v (stepsL z) → Q v H'
theorem scSi : FnScope ["text", "steps", "part"] ["text"] (defScope sStepsIn) := ⟨rfl, rfl, rfl, by decide +kernel, rfl, by decide +kernel, by decide +kernel⟩
theorem has_stepsT (D : Def K mg "steps_in" sStepsIn) (G : Has P w K mg base "is_sequence" 3 ["value"] [] (spX K seqD)) (TC : TCon K w mg) : Has P w K mg base "steps_in" 4 ["text"] [] (spStepsT K) := by
  obtain ⟨te, hE⟩ := TC.es
  obtain ⟨d, des, dn, u1, u2, hAc, KD, n1, r1, n2, r2, n3⟩ := TC.ac
  refine has_of D scSi (fun _ _ _ _ _ _ us hl => match us, hl with | [_], _ => rfl) (fun xs H Q E h => ?_) (fun f cv A out s H xs Q E hr h => ?_)
  · obtain ⟨z, B, rfl, _⟩ := h
    rfl
  · obtain ⟨z, B, rfl, hz, k⟩ := h
    refine ⟨_, pss_cons (ps_if (pt_cmpR op_eq (pv 0) (pe_glob (v := .str sDot) rfl hE ⟨_, rfl⟩) (nomark _)) (pss_one (ps_ret (pe_lst pa_nil))) pss_nil)
      (pss_cons (ps_setLc (i := 1) (own := [("part", 2)]) (g := gName 2) (tt := tYes) (te := tTup (tCons (tKGet K w (tC (.ref d)) (tSl L2.rSlS (tVar 2) tNoPart (tPart (tC (.int 1))))) (tCons (tSl L2.rSlS (tVar 2) (tPart (tC (.int 1))) tNoPart) tNil))) rfl scSi.nd rfl rfl (sw_true rfl rfl rfl (by decide +kernel)) (pi_list (pe_split (pv 0) pe_str)) (blkOk_by (own := [("part", 2)]) (N := ["text", "steps", "part"]) (sc := defScope sStepsIn) (by decide +kernel))
        (fun _ _ _ _ _ => pg_name (i := 2) scSi.nd rfl (.inl rfl)) (fun _ _ _ _ _ => pts_nil) (fun _ _ _ _ _ => pe_tup (pa_cons (pe_kget (pe_glob (v := .ref d) rfl hAc rfl) (pe_slice sl_str (pv 2) po_none (po_some pe_int)) ⟨rfl, rfl, rfl, rfl⟩) (pa_cons (pe_slice sl_str (pv 2) (po_some pe_int) po_none) pa_nil))))
      (pss_one (ps_ret (pe_ifExp (pt_val (pe_has G hr (pa_cons (pv 1) pa_nil))) (pv 1) pe_non)))), ?_⟩
    refine ⟨_, rfl, rfl, _, rfl, ?_⟩
    show if decide (V.str z = V.str sDot) = true then _ else _
    by_cases c : z = sDot
    · rw [decide_eq_true (by rw [c])]
      refine iteT ⟨(by show 0 ≤ sizeLine; decide), fun a ha => k _ _ (Same.new ha) ?_⟩
      unfold stepsL
      rw [if_pos c]
      exact ⟨a, [], rfl, .of upd_same, .nil, fun _ m => nomatch m⟩
    · rw [decide_eq_false (fun e => c (V.str.inj e))]
      have wl := hz.tx.ln
      obtain ⟨g1, g2, g3⟩ := hz.tx.blk
      have gp := hz.pc
      have gs := hz.sz
      have el : stepsL z = if decide ((Txt.split z sBlk).length ≤ 1000) && (Txt.split z sBlk).all partS then some (Txt.split z sBlk) else none := by
        unfold stepsL
        rw [if_neg c]
      refine iteF ⟨_, rfl, ⟨_, rfl⟩, z, sBlk, rfl, rfl, (by decide +kernel), by rw [sizeLine_eq]; omega, fun p hp => ?_⟩
      generalize Txt.split z sBlk = ps at g1 g2 g3 gp gs el
      refine ⟨p, rfl, ⟨_, .of upd_same⟩, fun D hD => ?_⟩
      have s1 : Same H (upd H p (.lst (ps.map V.str))) := Same.new hp
      have h1 : upd H p (.lst (ps.map V.str)) p = some (.lst (ps.map V.str)) := upd_same
      generalize upd H p (.lst (ps.map V.str)) = H1 at s1 h1 hD
      refine lc_list (K := K) (a := p) (xs := ps.map V.str) (fun j H2 => ∃ us, H2 D = some (.lst us) ∧ Paired (fun u p => ∃ t, u = V.ref t ∧ H2 t = some (.tup [actV p, .str (restS p)])) us (ps.take j) ∧ Same H1 H2) ⟨[], upd_same, .nil, Same.new hD⟩ (fun j H2 _ q => ?_) ?_ ?_
      · obtain ⟨_, _, _, s2⟩ := q
        exact .of (s2 _ _ h1)
      · rintro j x H2 hj ⟨us, h2, hs, s2⟩
        rw [List.getElem?_map] at hj
        obtain ⟨q, h3, rfl⟩ := Option.map_eq_some_iff.mp hj
        have lq := (g1 q (List.mem_of_getElem? h3)).ln
        obtain ⟨r, hn, hrv⟩ := act_get n1 r1 n2 r2 n3 q
        refine ⟨rfl, yes_in ⟨d, des, dn, rfl, KD, _, rfl, 1, rfl, q, rfl, by rw [sizeLine_eq]; omega, _, r, _, rfl, hn, hrv, _, rfl, 1, rfl, q, rfl, by rw [sizeLine_eq]; omega, (by show 2 ≤ sizeLine; decide), fun t ht => ?_⟩⟩
        have st1 : Same H2 (upd H2 t (.tup [actV q, .str (restS q)])) := Same.new ht
        have ll := Paired.length hs
        rw [List.length_take] at ll
        refine ⟨us, st1 _ _ h2, ?_, us ++ [.ref t], upd_same, ?_, Same.free2 (s2.trans st1) hD⟩
        · rw [sizeLine_eq]
          omega
        · rw [List.take_add_one, h3]
          have tD : t ≠ D := Ne.symm (ne_of_none h2 ht)
          refine Paired.snoc2 (Paired.mapP hs fun v q z => ?_) ⟨t, rfl, by rw [upd_ne tD]; exact upd_same⟩
          obtain ⟨t', e', z⟩ := z
          have nt : t' ≠ D := fun q => by rw [q, h2] at z; cases z
          exact ⟨t', e', by rw [upd_ne nt]; exact st1 _ _ z⟩
      · rintro H2 ⟨us, h2, hs, s2⟩
        rw [List.length_map, List.take_length] at hs
        have hs' : Paired (StpR K H2) us ps := Paired.mapP hs fun _ _ ⟨t, e, z⟩ => ⟨t, e, .of z⟩
        have ok : OkD (.list (ps.map partD)) := by
          refine (nx_list (k := 1) (B := 2 * (B + 5)) fun d m => ?_).mono (by decide) ?_
          · obtain ⟨q, mq, rfl⟩ := List.mem_map.mp m
            exact nx_part ⟨(g1 q mq).ok, gp q mq⟩
          · rw [List.length_map]
            exact gs
        refine ⟨_, rfl, .ref D, .list (ps.map partD), rfl, .lst (.of h2) (dpx_parts hs'), ok, fun H3 s3 => ⟨_, rfl, ?_⟩⟩
        rw [show seqD (.list (ps.map partD)) = (decide ((ps.map partD).length ≤ 1000) && ((ps.map partD).map stpD).all id) from rfl, all_parts, List.length_map]
        by_cases q : (decide (ps.length ≤ 1000) && ps.all partS) = true
        · rw [q]
          refine iteT ⟨_, rfl, k _ H3 ((s1.trans s2).trans s3) ?_⟩
          rw [el, if_pos q]
          exact ⟨D, us, rfl, .of (s3 _ _ h2), Paired.mapP hs' fun _ _ z => z.same s3, fun p m => List.all_eq_true.mp (Bool.and_eq_true_iff.mp q).2 p m⟩
        · rw [Bool.eq_false_iff.mpr q]
          refine iteF (k _ H3 ((s1.trans s2).trans s3) ?_)
          rw [el, if_neg q]
          rfl
end
end SE
namespace SE
open PySem PySem.Spec PyProof.Rows L2 TL
/-! ### numbers below 100 -/
def digV (L : List Nat) : Int := L.foldl (fun (n : Int) (c : Nat) => 10 * n + ((c : Int) - 48)) 0
structure NumOk (p : Int) : Prop where
  all : ∀ c ∈ TL.tl (toString p : Str), 48 ≤ c ∧ c ≤ 57
  ne : (toString p : Str) ≠ ""
  hd : ∃ c, (TL.tl (toString p : Str))[0]? = some c ∧ (c = 48 → (toString p : Str) = "0")
  val : digV (TL.tl (toString p : Str)) = p
  len : (toString p : Str).length ≤ 2
theorem numOk {p : Int} (h0 : 0 ≤ p) (h1 : p < 100) : NumOk p := by
  obtain ⟨n, rfl⟩ := Int.eq_ofNat_of_zero_le h0
  have hn : n < 100 := by omega
  have el : TL.tl (toString ((n : Nat) : Int) : Str) = numL n := tl_num n
  have two : numL n = [48 + n] ∧ n < 10 ∨ numL n = [48 + n / 10, 48 + n % 10] ∧ 10 ≤ n := by
    by_cases c : n < 10
    · exact .inl ⟨numL_lt c, c⟩
    · refine .inr ⟨?_, by omega⟩
      rw [numL_step (by omega), numL_lt (n := n / 10) (by omega)]
      rfl
  have ll : (toString ((n : Nat) : Int) : Str).length = (numL n).length := by rw [len_tl, el]
  refine ⟨fun c m => ?_, fun e => ?_, ?_, ?_, ?_⟩
  · rw [el] at m
    exact numL_digits n c m
  · have := congrArg TL.tl e
    rw [el] at this
    exact numL_ne n (this.trans (by decide +kernel))
  · rw [el]
    rcases two with ⟨e, c⟩ | ⟨e, c⟩
    · rw [e]
      refine ⟨_, rfl, fun q => ext_tl ?_⟩
      rw [el, e]
      have : n = 0 := by omega
      subst this
      decide +kernel
    · rw [e]
      refine ⟨_, rfl, fun q => ?_⟩
      omega
  · rw [el]
    rcases two with ⟨e, c⟩ | ⟨e, c⟩
    · rw [e]
      show 10 * (0 : Int) + (((48 + n : Nat) : Int) - 48) = _
      omega
    · rw [e]
      show 10 * (10 * (0 : Int) + (((48 + n / 10 : Nat) : Int) - 48)) + (((48 + n % 10 : Nat) : Int) - 48) = _
      omega
  · rw [ll]
    rcases two with ⟨e, c⟩ | ⟨e, c⟩ <;> rw [e] <;> simp
theorem digV_snoc (L : List Nat) (c : Nat) : digV (L ++ [c]) = 10 * digV L + ((c : Int) - 48) := by
  unfold digV
  rw [List.foldl_append]
  rfl
abbrev sDigits : Str := Str.ofString "0123456789"
theorem dig_in {c : Nat} (h : 48 ≤ c ∧ c ≤ 57) : c ∈ sDigits.cps.toList := by
  have q : ∀ j : Fin 10, (48 + j.1) ∈ sDigits.cps.toList := by decide +kernel
  have z := q ⟨c - 48, by omega⟩
  have e : 48 + (c - 48) = c := by omega
  rw [← e]
  exact z
theorem dig_at {c : Nat} (h : 48 ≤ c ∧ c ≤ 57) : Builtin.Str.occurrences sDigits ⟨#[c]⟩ 0 sDigits.length 1 = [c - 48] := by
  have q : ∀ j : Fin 10, Builtin.Str.occurrences sDigits ⟨#[48 + j.1]⟩ 0 sDigits.length 1 = [j.1] := by decide +kernel
  have z := q ⟨c - 48, by omega⟩
  have e : 48 + (c - 48) = c := by omega
  rw [e] at z
  exact z
end SE
namespace SE
open PySem PySem.Spec PyProof.Rows L2 TL
/-! ### number_in -/
def digB (c : Nat) : Bool := decide (c ∈ sDigits.cps.toList)
theorem digB_iff (c : Nat) : digB c = true ↔ 48 ≤ c ∧ c ≤ 57 := by
  unfold digB
  rw [decide_eq_true_iff]
  refine ⟨fun m => ?_, dig_in⟩
  have q : ∀ c ∈ sDigits.cps.toList, 48 ≤ c ∧ c ≤ 57 := by decide +kernel
  exact q c m
def leadB (z : Str) : Bool := decide ((tl z)[0]? = some 48) && !decide (z = "0")
def numOf (z : Str) : Option Int := if z = "" then none else if (tl z).all digB = true then (if leadB z = true then none else some (digV (tl z))) else none
def numV : Option Int → V
  | none => .non
  | some n => .int n
theorem dig_take {f : Nat → Bool} {l : List Nat} {j : Nat} {x : Nat} (h : l[j]? = some x) : ((l.take j).map f).map V.bl ++ [V.bl (f x)] = ((l.take (j + 1)).map f).map V.bl := bl_take h
theorem zero_iff {c : Nat} : (⟨#[c]⟩ : Str) = "0" ↔ c = 48 := by
  constructor
  · intro e
    have := congrArg TL.tl e
    have q : TL.tl ("0" : Str) = [48] := by decide +kernel
    rw [q] at this
    injection this
  · rintro rfl
    rfl
section
variable {P : Program} {w : World} {K : PySem.W.Frag} {mg : Str → Option Value} {base : Heap} {C : Addr}
def spNumZ : Sp := fun xs H Q _ => ∃ z : Str, xs = [.str z] ∧ TxS 200 z ∧ ∀ (H' : Hp), Same H H' → Q (numV (numOf z)) H'
theorem scNi : FnScope ["text", "digit", "number"] ["text"] (defScope sNumberIn) := ⟨rfl, rfl, rfl, by decide +kernel, rfl, by decide +kernel, by decide +kernel⟩
theorem has_numZ (D : Def K mg "number_in" sNumberIn) (B : Blt mg) (TC : TCon K w mg) : Has P w K mg base "number_in" 1 ["text"] [] spNumZ := by
  obtain ⟨td, hD⟩ := TC.dig
  refine has_of D scNi (fun _ _ _ _ _ _ us hl => match us, hl with | [_], _ => rfl) (fun xs H Q E h => ?_) (fun f cv A out s H xs Q E hr h => ?_)
  · obtain ⟨z, rfl, _⟩ := h
    rfl
  · obtain ⟨z, rfl, hz, k⟩ := h
    have zl := hz.ln
    have zl2 : (tl z).length ≤ 200 := by rw [← len_tl]; exact zl
    refine ⟨_, pss_cons (ps_if (pt_cut (PW.pt (pw_or (pt_cmpR op_eq (pv 0) pe_str (nomark _)) (pw_or (pt_not (pt_val (pe_callB (cr_all rfl) (by rfl) B.all (by decide +kernel) (pa_cons
        (pe_lc (own := [("digit", 1)]) (g := gName 1) (tt := tYes) rfl scNi.nd (pi_str (pv 0)) (blkOk_by (own := [("digit", 1)]) (N := ["text", "digit", "number"]) (sc := defScope sNumberIn) (by decide +kernel))
          (fun _ _ _ _ _ => pg_name (i := 1) scNi.nd rfl (.inl rfl)) (fun _ _ _ _ _ => pts_nil) (fun _ _ _ _ _ => pe_cmpR op_in_sign (pv 1) (pe_glob (v := .str sDigits) rfl hD ⟨_, rfl⟩) (by rfl))) pa_nil))))
        (pw_or1 (PW.pt (pw_and (pt_cmpR op_eq (pe_ix ix_str (pv 0) pe_int (fun _ _ => rfl)) pe_str (nomark _)) (pw_and1 (pt_cmpR op_ne (pv 0) pe_str (nomark _))))))))))
        (pss_one (ps_ret pe_non)) pss_nil)
      (pss_cons (ps_set (i := 2) scNi.nd rfl (.inl rfl) pe_int)
      (pss_cons (ps_for PassesOwn.never rfl (pi_str (pv 0)) (pg_name (i := 1) scNi.nd rfl (.inl rfl))
        (pss_one (ps_set (i := 2) scNi.nd rfl (.inl rfl) (pe_op op_add (pe_op op_mul pe_int (pv 2)) (pe_m1 PySem.F.slot_str_index PySem.F.type_str_index mt_sindex (pe_glob (v := .str sDigits) rfl hD ⟨_, rfl⟩) (pv 1))))))
      (pss_one (ps_ret (pv 2))))), ?_⟩
    refine ⟨fun b H2 => Same H H2 ∧ ((b = true ∧ numOf z = none) ∨ (b = false ∧ (∀ c ∈ tl z, 48 ≤ c ∧ c ≤ 57) ∧ numOf z = some (digV (tl z)))), ?_, ?_⟩
    · refine ⟨_, rfl, rfl, _, rfl, ?_⟩
      by_cases e0 : z = ""
      · rw [decide_eq_true (by rw [e0])]
        refine iteT ⟨Same.refl H, .inl ⟨rfl, ?_⟩⟩
        unfold numOf
        rw [if_pos e0]
      rw [decide_eq_false (fun e => e0 (V.str.inj e))]
      have n0 : numOf z = if (tl z).all digB = true then (if leadB z = true then none else some (digV (tl z))) else none := by
        unfold numOf
        rw [if_neg e0]
      refine iteF ⟨_, rfl, z, rfl, fun L hL => lc_it walk_str (fun j H2 => H2 L = some (.lst ((((tl z).take j).map digB).map V.bl)) ∧ Same H H2) ⟨upd_same, Same.new hL⟩ (fun _ _ _ _ => trivial) ?_ ?_⟩
      · rintro j x H2 H3 hj ⟨h2, s2⟩ ⟨rfl, c, hc, rfl⟩
        have q : (tl z)[j]? = some c := by
          show z.cps.toList[j]? = some c
          rw [Array.getElem?_toList]
          exact hc
        refine ⟨rfl, yes_in ⟨_, rfl, c, sDigits, rfl, rfl, _, h2, ?_, ?_, Same.free2 s2 hL⟩⟩
        · rw [List.length_map, List.length_map, List.length_take, sizeLine_eq]
          omega
        · rw [upd_same, ← dig_take (f := digB) q]
          rfl
      · rintro H2 ⟨h2, s2⟩
        rw [List.take_of_length_le (by simp [TL.tl])] at h2
        refine ⟨L, _, rfl, .of h2, ?_⟩
        have eA : ((tl z).map digB).all id = (tl z).all digB := by rw [List.all_map]; rfl
        rw [eA]
        refine ⟨_, rfl, ?_⟩
        by_cases ea : (tl z).all digB = true
        · rw [ea]
          refine iteF ?_
          have nz : tl z ≠ [] := fun e => e0 (ext_tl (e.trans (by decide +kernel)))
          obtain ⟨c0, r0, hc0⟩ : ∃ c r, tl z = c :: r := by
            cases e : tl z with
            | nil => exact absurd e nz
            | cons c r => exact ⟨c, r, rfl⟩
          have hc1 : (tl z)[0]? = some c0 := by rw [hc0]; rfl
          refine ⟨_, rfl, z, 0, c0, rfl, rfl, by rw [sizeLine_eq]; omega, atI_nat (j := 0) hc1, rfl, _, rfl, ?_⟩
          have all' : ∀ c ∈ tl z, 48 ≤ c ∧ c ≤ 57 := fun c m => (digB_iff c).mp (List.all_eq_true.mp ea c m)
          by_cases c : c0 = 48
          · rw [decide_eq_true (by rw [zero_iff.mpr c])]
            refine iteT ⟨_, rfl, rfl, _, rfl, s2, ?_⟩
            have lead : leadB z = !decide (z = "0") := by
              unfold leadB
              rw [hc1, decide_eq_true (by rw [c]), Bool.true_and]
            by_cases e1 : z = "0"
            · refine .inr ⟨by rw [decide_eq_true (by rw [e1])]; rfl, all', ?_⟩
              rw [n0, if_pos ea, lead, decide_eq_true e1]
              rfl
            · refine .inl ⟨by rw [decide_eq_false (fun e => e1 (V.str.inj e))]; rfl, ?_⟩
              rw [n0, if_pos ea, lead, decide_eq_false e1]
              rfl
          · rw [decide_eq_false (fun e => c (zero_iff.mp (V.str.inj e)))]
            refine iteF ⟨s2, .inr ⟨rfl, all', ?_⟩⟩
            have lead : leadB z = false := by
              unfold leadB
              rw [hc1, decide_eq_false (fun e => c (Option.some.inj e)), Bool.false_and]
            rw [n0, if_pos ea, lead]
            rfl
        · rw [Bool.eq_false_iff.mpr ea]
          refine iteT ⟨s2, .inl ⟨rfl, ?_⟩⟩
          rw [n0, if_neg ea]
    rintro b H2 ⟨s2, h⟩
    rcases h with ⟨rfl, h⟩ | ⟨rfl, n1, h⟩
    · refine iteT ?_
      have := k H2 s2
      rw [h] at this
      exact this
    refine iteF ⟨_, rfl, z, rfl, for_it walk_str (fun j σ H3 => ∃ y1, σ = [some (.str z), y1, some (.int (digV ((TL.tl z).take j)))] ∧ Same H H3) ⟨_, rfl, s2⟩ (fun _ _ _ _ _ => trivial) ?_ ?_⟩
    · rintro j x σ H3 H4 hj ⟨y1, rfl, s3⟩ ⟨rfl, c, hc, rfl⟩
      have q : (TL.tl z)[j]? = some c := by
        show z.cps.toList[j]? = some c
        rw [Array.getElem?_toList]
        exact hc
      have hd := n1 c (List.mem_of_getElem? q)
      refine ⟨_, rfl, 10, _, rfl, rfl, ?_, ⟨_, rfl⟩, _, rfl, sDigits, ⟨#[c]⟩, c - 48, [], rfl, rfl, dig_at hd, _, _, rfl, rfl, some (.str ⟨#[c]⟩), ?_, s3⟩
      · exact .inl ⟨by decide, by decide⟩
      · rw [List.take_add_one, q]
        show [some (V.str z), some (V.str ⟨#[c]⟩), some (V.int (10 * digV ((TL.tl z).take j) + ((c - 48 : Nat) : Int)))] = [some (V.str z), some (V.str ⟨#[c]⟩), some (V.int (digV ((TL.tl z).take j ++ [c])))]
        rw [digV_snoc, show ((c - 48 : Nat) : Int) = (c : Int) - 48 by omega]
    · rintro σ H3 ⟨y1, rfl, s3⟩
      refine ⟨_, rfl, ?_⟩
      have e : (TL.tl z).take z.cps.size = TL.tl z := List.take_of_length_le (by simp [TL.tl])
      rw [e]
      have := k H3 s3
      rw [h] at this
      exact this
end
end SE
namespace SE
open PySem PySem.Spec PyProof.Rows L2 TL
theorem item_ok {z : Str} (h : itemS z = true) : Item z := by
  have h : (decide (1 ≤ z.length ∧ z.length ≤ 8) && (z.cps.toList.map fun c => decide (c ∈ abc.cps.toList)).all id) = true := h
  obtain ⟨h1, h2⟩ := Bool.and_eq_true_iff.mp h
  have h1 := of_decide_eq_true h1
  rw [List.all_map] at h2
  have q : ∀ c ∈ abc.cps.toList, 97 ≤ c ∧ c ≤ 122 := by decide +kernel
  exact ⟨h1.1, h1.2, fun c m => q c (of_decide_eq_true (List.all_eq_true.mp h2 c m))⟩
theorem wordOf_ok {z : Str} {zs : List Str} (h : TxS 200 z) (e : wordOf z = some zs) : (∀ x ∈ zs, Item x) ∧ zs.length ≤ 201 := by
  unfold wordOf at e
  split at e
  · cases e
    exact ⟨fun x m => (nomatch m), by simp⟩
  · split at e
    · rename_i q
      cases e
      exact ⟨fun x m => item_ok (List.all_eq_true.mp q x m), h.dot.2.1⟩
    · cases e
theorem digV_ge : ∀ (L : List Nat), (∀ c ∈ L, 48 ≤ c) → 0 ≤ digV L := by
  intro L
  have key : ∀ (L : List Nat) (n : Int), 0 ≤ n → (∀ c ∈ L, 48 ≤ c) → 0 ≤ L.foldl (fun (n : Int) (c : Nat) => 10 * n + ((c : Int) - 48)) n := by
    intro L
    induction L with
    | nil => exact fun n h _ => h
    | cons c r ih =>
      intro n h k
      rw [List.foldl_cons]
      have := k c List.mem_cons_self
      exact ih _ (by omega) fun d m => k d (List.mem_cons_of_mem _ m)
  exact key L 0 (Int.le_refl 0)
theorem numOf_ok {z : Str} {n : Int} (e : numOf z = some n) : z ≠ "" ∧ (∀ c ∈ tl z, 48 ≤ c ∧ c ≤ 57) ∧ leadB z = false ∧ n = digV (tl z) ∧ 0 ≤ n := by
  unfold numOf at e
  split at e
  · cases e
  · rename_i h0
    split at e
    · rename_i h1
      have a : ∀ c ∈ tl z, 48 ≤ c ∧ c ≤ 57 := fun c m => (digB_iff c).mp (List.all_eq_true.mp h1 c m)
      split at e
      · cases e
      · rename_i h2
        cases e
        exact ⟨h0, a, Bool.eq_false_iff.mpr h2, rfl, digV_ge _ fun c m => (a c m).1⟩
    · cases e
def eff5 (p0 p2 p4 : Str) : Option Eff := match wordOf p0, wordOf p2, numOf p4 with
  | some xs, some ys, some n => if n < lp xs ys then none else some (some (xs, ys, n))
  | _, _, _ => none
def effL : List Str → Option Eff
  | [p0, p1, p2, p3, p4] => if p1 = ">" ∧ p3 = "^" then eff5 p0 p2 p4 else none
  | _ => none
def effOf (z : Str) : Option Eff := if z = "never" then some none else effL (Txt.split z sBlk)
/-- no number in the text is great -/
def FigS (z : Str) : Prop := ∀ p ∈ Txt.split z sBlk, ∀ n, numOf p = some n → n ≤ 1000000000
section
variable {P : Program} {w : World} {K : PySem.W.Frag} {mg : Str → Option Value} {base : Heap} {C : Addr}
def EffR (K : PySem.W.Frag) (C : Addr) (H : Hp) (v : V) : Option Eff → Prop
  | none => v = .non
  | some o => ∃ e, v = .ref e ∧ EffV K C H e o ∧ EffOk o
theorem EffR.same {H H' : Hp} {v : V} {o : Option Eff} (s : Same H H') (h : EffR K C H v o) : EffR K C H' v o := by
  cases o with
  | none => exact h
  | some o =>
    obtain ⟨e, q, r, i⟩ := h
    exact ⟨e, q, r.same s, i⟩
def spEffT (K : PySem.W.Frag) (C : Addr) : Sp := fun xs H Q _ => ∃ z : Str, xs = [.str z] ∧ TxS 200 z ∧ FigS z ∧ ∀ (v : V) (H' : Hp), Same H H' → EffR K C H' v (effOf z) → Q v H'
abbrev nEi : List Str := ["text", "parts", "pops", "pushes", "peak"]
theorem scEi : FnScope nEi ["text"] (defScope sEffectIn) := ⟨rfl, rfl, rfl, by decide +kernel, rfl, by decide +kernel, by decide +kernel⟩
theorem has_effT (D : Def K mg "effect_in" sEffectIn) (T : EC K mg C) (M : Makes P w K mg base C) (GN : NeverHas P w K mg base C) (GW : Has P w K mg base "word_in" 3 ["text"] [] (spWordT K)) (GU : Has P w K mg base "number_in" 1 ["text"] [] spNumZ) (GL : Has P w K mg base "least_peak" 1 ["pops", "pushes"] [] (spLeast K)) (B : Blt mg) (TC : TCon K w mg) : Has P w K mg base "effect_in" 7 ["text"] [] (spEffT K C) := by
  obtain ⟨tn, hN⟩ := TC.nv
  refine has_of D scEi (fun _ _ _ _ _ _ us hl => match us, hl with | [_], _ => rfl) (fun xs H Q E h => ?_) (fun f cv A out s H xs Q E hr h => ?_)
  · obtain ⟨z, rfl, _⟩ := h
    rfl
  · obtain ⟨z, rfl, hz, hf, k⟩ := h
    have hr1 : Room 1 _ := hr.mono (by decide)
    have hr3 : Room 3 _ := hr.mono (by decide)
    have hr5 : Room 5 _ := hr.mono (by decide)
    refine ⟨_, pss_cons (ps_if (pt_cmpR op_eq (pv 0) (pe_glob (v := .str "never") rfl hN ⟨_, rfl⟩) (nomark _)) (pss_one (ps_ret (pe_never0 GN T.mgE hr))) pss_nil)
      (pss_cons (ps_set (i := 1) scEi.nd rfl (.inl rfl) (pe_split (pv 0) pe_str))
      (pss_cons (ps_if (PW.pt (pw_or (pt_cmpR op_ne (pe_callB call_len_seq (by rfl) B.len PySem.boot_len (pa_cons (pv 1) pa_nil)) pe_int (nomark _)) (pw_or (pt_cmpR op_ne (pe_ix ix_list (pv 1) pe_int (fun _ _ => rfl)) pe_str (nomark _)) (pw_or1 (pt_cmpR op_ne (pe_ix ix_list (pv 1) pe_int (fun _ _ => rfl)) pe_str (nomark _)))))) (pss_one (ps_ret pe_non)) pss_nil)
      (pss_cons (ps_par3 (i := 2) (j := 3) (l := 4) (by rfl) scEi.nd rfl rfl rfl (by decide) (by decide) (by decide) rfl rfl rfl (pa_cons (pe_has GW hr3 (pa_cons (pe_ix ix_list (pv 1) pe_int (fun _ _ => rfl)) pa_nil)) (pa_cons (pe_has GW hr3 (pa_cons (pe_ix ix_list (pv 1) pe_int (fun _ _ => rfl)) pa_nil)) (pa_cons (pe_has GU hr1 (pa_cons (pe_ix ix_list (pv 1) pe_int (fun _ _ => rfl)) pa_nil)) pa_nil))) (by rfl))
      (pss_cons (ps_if (PW.pt (pw_or (pt_cmpR op_isN (pv 2) pe_non (nomark _)) (pw_or (pt_cmpR op_isN (pv 3) pe_non (nomark _)) (pw_or (pt_cmpR op_isN (pv 4) pe_non (nomark _)) (pw_or1 (pt_cmpR op_lt (pv 4) (pe_has GL hr1 (pa_cons (pv 2) (pa_cons (pv 3) pa_nil))) (nomark _))))))) (pss_one (ps_ret pe_non)) pss_nil)
      (pss_one (ps_ret (pe_effK M T.mgE hr5 (pa_cons (pv 2) (pa_cons (pv 3) pa_nil)) (pv 4)))))))), ?_⟩
    refine ⟨_, rfl, rfl, _, rfl, ?_⟩
    show if decide (V.str z = V.str (Str.ofString "never")) = true then _ else _
    by_cases c : z = "never"
    · rw [decide_eq_true (by rw [c])]
      refine iteT ⟨rfl, rfl, fun e H' s1 he => k _ H' s1 ?_⟩
      unfold effOf
      rw [if_pos c]
      exact ⟨e, rfl, he, trivial⟩
    · rw [decide_eq_false (fun e => c (V.str.inj e))]
      have ee : effOf z = effL (Txt.split z sBlk) := by
        unfold effOf
        rw [if_neg c]
      have wl := hz.ln
      obtain ⟨g1, g2, g3⟩ := hz.blk
      have hf := hf
      unfold FigS at hf
      refine iteF ⟨_, rfl, ⟨_, rfl⟩, z, sBlk, rfl, rfl, (by decide +kernel), by rw [sizeLine_eq]; omega, fun L hL => ?_⟩
      generalize Txt.split z sBlk = ps at g1 g2 g3 ee hf
      have s1 : Same H (upd H L (.lst (ps.map V.str))) := Same.new hL
      have h1 : upd H L (.lst (ps.map V.str)) L = some (.lst (ps.map V.str)) := upd_same
      generalize upd H L (.lst (ps.map V.str)) = H1 at s1 h1
      refine ⟨_, rfl, L, _, rfl, .inl (.of h1), rfl, _, rfl, ?_⟩
      rw [List.length_map]
      match ps, ee with
      | [p0, p1, p2, p3, p4], ee =>
        refine iteNS rfl ⟨_, rfl, L, _, 1, _, rfl, rfl, .of h1, atI_nat (j := 1) rfl, rfl, _, rfl, ?_⟩
        by_cases c1 : p1 = ">"
        · refine iteNS (by rw [c1]) ⟨_, rfl, L, _, 3, _, rfl, rfl, .of h1, atI_nat (j := 3) rfl, rfl, _, rfl, ?_⟩
          by_cases c3 : p3 = "^"
          · refine iteNS (by rw [c3]) ?_
            have ee : effOf z = eff5 p0 p2 p4 := by
              rw [ee]
              show (if p1 = ">" ∧ p3 = "^" then eff5 p0 p2 p4 else none) = _
              rw [if_pos ⟨c1, c3⟩]
            have t0 := g1 p0 (by simp)
            have t2 := g1 p2 (by simp)
            have t4 := g1 p4 (by simp)
            have f4 := hf p4 (by simp)
            refine ⟨_, rfl, L, _, 0, _, rfl, rfl, .of h1, atI_nat (j := 0) rfl, p0, rfl, t0, fun v0 H2 s2 w0 => ?_⟩
            refine ⟨_, rfl, L, _, 2, _, rfl, rfl, .of (s2 _ _ h1), atI_nat (j := 2) rfl, p2, rfl, t2, fun v2 H3 s3 w2 => ?_⟩
            refine ⟨_, rfl, L, _, 4, _, rfl, rfl, .of (s3 _ _ (s2 _ _ h1)), atI_nat (j := 4) rfl, p4, rfl, t4, fun H4 s4 => ?_⟩
            have w0 := (w0.same s3).same s4
            have w2 := w2.same s4
            have S4 := ((s1.trans s2).trans s3).trans s4
            refine ⟨_, _, _, rfl, ?_⟩
            unfold eff5 at ee
            cases e0 : wordOf p0 with
            | none =>
              rw [e0] at w0 ee
              obtain rfl : v0 = .non := w0
              exact ⟨_, rfl, rfl, true, rfl, iteT (iteT (k _ H4 S4 (by rw [ee]; rfl)))⟩
            | some xs =>
              rw [e0] at w0 ee
              obtain ⟨a, rfl, ha⟩ := w0
              obtain ⟨i1, l1⟩ := wordOf_ok t0 e0
              refine ⟨_, rfl, rfl, false, rfl, iteF ⟨_, rfl, rfl, ?_⟩⟩
              cases e2 : wordOf p2 with
              | none =>
                rw [e2] at w2 ee
                obtain rfl : v2 = .non := w2
                exact ⟨true, rfl, iteT (iteT (k _ H4 S4 (by rw [ee]; rfl)))⟩
              | some ys =>
                rw [e2] at w2 ee
                obtain ⟨b, rfl, hb⟩ := w2
                obtain ⟨i2, l2⟩ := wordOf_ok t2 e2
                refine ⟨false, rfl, iteF ⟨_, rfl, rfl, ?_⟩⟩
                cases e4 : numOf p4 with
                | none =>
                  rw [e4] at ee
                  exact ⟨true, rfl, iteT (iteT (k _ H4 S4 (by rw [ee]; rfl)))⟩
                | some n =>
                  rw [e4] at ee
                  dsimp only at ee
                  obtain ⟨_, _, _, _, n0⟩ := numOf_ok e4
                  have n1 := f4 n e4
                  refine ⟨false, rfl, iteF ⟨_, rfl, _, rfl, _, rfl, a, b, xs, ys, rfl, ha, hb, n, _, rfl, rfl, _, rfl, ?_⟩⟩
                  by_cases cl : n < lp xs ys
                  · rw [decide_eq_true cl]
                    rw [if_pos cl] at ee
                    exact iteT (k _ H4 S4 (by rw [ee]; rfl))
                  · rw [decide_eq_false cl]
                    rw [if_neg cl] at ee
                    refine iteF ⟨_, rfl, _, rfl, _, rfl, a, b, xs, ys, some n, rfl, rfl, ha, hb, by omega, by omega, i1, i2, fun q e => ?_, fun e H5 s5 n5 hE => k _ H5 (S4.trans s5) ?_⟩
                    · cases e
                      omega
                    · rw [ee]
                      exact ⟨e, rfl, hE, i1, i2, by omega, by omega, n0, n1⟩
          · rw [show (!decide (V.str p3 = V.str (Str.ofString "^"))) = true from by rw [decide_eq_false (fun e => c3 (V.str.inj e))]; rfl]
            refine iteT (k _ H1 s1 ?_)
            rw [ee]
            show EffR K C H1 _ (if p1 = ">" ∧ p3 = "^" then eff5 p0 p2 p4 else none)
            rw [if_neg (fun q => c3 q.2)]
            rfl
        · rw [show (!decide (V.str p1 = V.str (Str.ofString ">"))) = true from by rw [decide_eq_false (fun e => c1 (V.str.inj e))]; rfl]
          refine iteT (iteT (k _ H1 s1 ?_))
          rw [ee]
          show EffR K C H1 _ (if p1 = ">" ∧ p3 = "^" then eff5 p0 p2 p4 else none)
          rw [if_neg (fun q => c1 q.1)]
          rfl
      | [], ee => exact iteT (iteT (k _ H1 s1 (by rw [ee]; rfl)))
      | [_], ee => exact iteT (iteT (k _ H1 s1 (by rw [ee]; rfl)))
      | [_, _], ee => exact iteT (iteT (k _ H1 s1 (by rw [ee]; rfl)))
      | [_, _, _], ee => exact iteT (iteT (k _ H1 s1 (by rw [ee]; rfl)))
      | [_, _, _, _], ee => exact iteT (iteT (k _ H1 s1 (by rw [ee]; rfl)))
      | a0 :: a1 :: a2 :: a3 :: a4 :: a5 :: r, ee =>
        rw [show (!decide (V.int (((a0 :: a1 :: a2 :: a3 :: a4 :: a5 :: r).length : Nat) : Int) = V.int 5)) = true from by
          rw [decide_eq_false (fun e => by
            have e := V.int.inj e
            simp only [List.length_cons] at e
            omega)]
          rfl]
        exact iteT (iteT (k _ H1 s1 (by rw [ee]; rfl)))
end
end SE
/-! Classes and methods called by keyword where exceptions may come, also within a try. -/
namespace SE
open PySem PySem.Spec PyProof.Rows L2
section
variable {X : Cx} {CT : CXT} {k n : Nat} {f C : Addr} {fd : FuncData} {ps ks : List Str} {sp : Sp} {x m : Str} {p pos apos : Pos} {e o : Expr} {es : List Expr} {kws : List Keyword} {te : TE} {t tk : TA} {ex : L2.St → XK}
  {g : List Value → List Value → List Value} {gV : List V → List V → List V}
/-- a def called with some arguments by keyword; ex σ is what is wished of its exceptions -/
theorem run_kwS {pins : List (Addr × Obj)} {σ : L2.St} {H : Hp} {s : Shared} {Q : VK} {us ws : List Value} {vs zs : List V} (F : FnOk X.prog X.w X.K X.mg X.base CT k f fd ps sp) (room : Room k X.A) (bd : KBn X.K fd ps n ks g gV)
    (out : PassesAt CT X σ (ex σ)) (I : Inv X pins σ H s) (r1 : Vals vs us) (r2 : Vals zs ws) (l1 : vs.length = n) (l2 : zs.length = ks.length) (h : sp (gV vs zs) H Q (ex σ)) :
    wpAny (model X.prog X.w) X.A (call (.ref f) us (ks.zip ws)) (EP X pins σ Q) X.xe s := by
  have to := bd.to s us ws I.kIn (r1.length.symm.trans l1) (r2.length.symm.trans l2)
  have run := F.run X.A X.stack s H ⟨us, ks.zip ws⟩ (g us ws) (gV vs zs) Q (ex σ) room I.env0 to (bd.rel r1 r2) h
  refine wpAny_call (codeAny_mono run fun res s2 done => ?_)
  match res, done with
  | .error ev, done => exact out pins H s ev s2 I done
  | .ok (.ret u), done => exact I.after done
  | .ok .next, done => exact done.elim
  | .ok .brk, done => exact done.elim
  | .ok .cont, done => exact done.elim
/-- a class called with some arguments by keyword -/
theorem run_mkS {pins : List (Addr × Obj)} {σ : L2.St} {H : Hp} {s : Shared} {Q : VK} {us ws : List Value} {vs zs : List V} (M : Mk X.K C f) (F : FnOk X.prog X.w X.K X.mg X.base CT k f fd ps sp) (room : Room (k + 1) X.A) (bd : KBn X.K fd ps (n + 1) ks g gV)
    (out : PassesAt CT X σ (ex σ)) (I : Inv X pins σ H s) (r1 : Vals vs us) (r2 : Vals zs ws) (l1 : vs.length = n) (l2 : zs.length = ks.length)
    (h : ∀ b db, H b = none → H db = none → db ≠ b → sp (gV (.ref b :: vs) zs) (upd (upd H db (.own b)) b (.ins C db [])) (fun v H2 => v = .non ∧ Q (.ref b) H2) (ex σ)) :
    wpAny (model X.prog X.w) X.A (call (.ref C) us (ks.zip ws)) (EP X pins σ Q) X.xe s := by
  have new := h (s.heap.objs.size + 1) s.heap.objs.size (I.hok.fresh (Nat.le_succ _)) (I.hok.fresh (Nat.le_refl _)) (Nat.ne_of_lt (Nat.lt_succ_self _))
  have made := Inv.made (C := C) I
  have rs : Vals (V.ref (s.heap.objs.size + 1) :: vs) (Value.ref (s.heap.objs.size + 1) :: us) := .cons rfl r1
  have len : (Value.ref (s.heap.objs.size + 1) :: us).length = n + 1 := congrArg (· + 1) (r1.length.symm.trans l1)
  have to := bd.to _ (Value.ref (s.heap.objs.size + 1) :: us) ws made.kIn len (r2.length.symm.trans l2)
  have run := F.run _ X.stack _ _ ⟨Value.ref (s.heap.objs.size + 1) :: us, ks.zip ws⟩ (g (Value.ref (s.heap.objs.size + 1) :: us) ws) _ _ (ex σ) (room.make C us (ks.zip ws)) (made.env0.make C us (ks.zip ws)) to (bd.rel rs r2) new
  refine wpAny_call (make_map (f := f) I.kIn M.makes M.init (beq_iff_eq.mp M.fn) (codeAny_mono run fun res s2 done => ?_))
  match res, done with
  | .error ev, done => exact out pins _ _ ev s2 made done
  | .ok (.ret u), done =>
    obtain ⟨v, H2, I2, rel, ev, q⟩ := made.after done
    subst ev
    exact ⟨rel, V.ref (s.heap.objs.size + 1), H2, I2, rfl, q⟩
  | .ok .next, done => exact done.elim
  | .ok .brk, done => exact done.elim
  | .ok .cont, done => exact done.elim
/-- C(e, .., k = v, ..) -/
def tMkS (C : Addr) (n m : Nat) (sp : Sp) (gV : List V → List V → List V) (ex : L2.St → XK) (t tk : TA) : TE := fun σ H Q => t σ H fun vs H1 => tk σ H1 fun zs H2 => vs.length = n ∧ zs.length = m ∧
  ∀ b db, H2 b = none → H2 db = none → db ≠ b → sp (gV (.ref b :: vs) zs) (upd (upd H2 db (.own b)) b (.ins C db [])) (fun v H3 => v = .non ∧ Q (.ref b) H3) (ex σ)
theorem pe_mkS (M : Mk X.K C f) (F : FnOk X.prog X.w X.K X.mg X.base CT k f fd ps sp) (room : Room (k + 1) X.A) (hm : X.mg x = some (.ref C)) (bd : KBn X.K fd ps (n + 1) ks g gV) (out : ∀ σ, PassesAt CT X σ (ex σ)) (ha : PA X (e :: es) t) (hk : PK X kws tk)
    (hks : (backToKw pos (keywordEach kws X.env)).filterMap (·.1) = ks := by rfl) (hall : (backToKw pos (keywordEach kws X.env)).all (·.1.isSome) = true := by rfl) (hg : Gl X x := by rfl) (hd : (x == ("__debug__" : Str)) = false := by decide)
    (he : starEach (e :: es) X.env = (false, eval e X.env) :: starEach es X.env := by rfl) (hpl : ((backTo pos (starEach (e :: es) X.env)).any (·.1) || (backToKw pos (keywordEach kws X.env)).any (·.1.isNone)) = false := by rfl) :
    PE X (.Call (.Name x p) (e :: es) kws pos) (tMkS C n ks.length sp gV ex t tk) := by
  constructor
  intro pins s σ H Q I w
  refine wpAny_Call_Name_kw (ld_glob I hg hm ?_ hd)
  refine PySem.W.callWith_KW (h₀ := X.base) I.ok.mod.kin M.kp hall (thn (ha.run pos pins s σ H _ I w) fun us s1 z => ?_) hpl he
  obtain ⟨vs, H1, I1, r1, w1⟩ := z
  refine thn (hk.run pos pins s1 σ H1 _ I1 w1) fun ws s2 z => ?_
  obtain ⟨zs, H2, I2, r2, l1, l2, w2⟩ := z
  rw [hks]
  exact ⟨I2.kIn, run_mkS M F room bd (out σ) I2 r1 r2 l1 l2 w2⟩
/-- o.m(e, .., k = v, ..) -/
def tMethS (C : Addr) (m : Str) (n j : Nat) (sp : Sp) (gV : List V → List V → List V) (ex : L2.St → XK) (te : TE) (t tk : TA) : TE := fun σ H Q => te σ H fun y H1 => ∃ b db fs, y = .ref b ∧ H1 b = some (.ins C db fs) ∧ fs.lookup m = none ∧
  t σ H1 fun vs H2 => tk σ H2 fun zs H3 => vs.length = n ∧ zs.length = j ∧ sp (gV (.ref b :: vs) zs) H3 Q (ex σ)
theorem pe_methS {pl : Sem Bool} (ho : PE X o te) (c : Cls X.K C) (hm : Meth X.K C m f) (F : FnOk X.prog X.w X.K X.mg X.base CT k f fd ps sp) (room : Room k X.A) (bd : KBn X.K fd ps (n + 1) ks g gV) (out : ∀ σ, PassesAt CT X σ (ex σ)) (ha : PA X (e :: es) t) (hk : PK X kws tk)
    (hks : (backToKw pos (keywordEach kws X.env)).filterMap (·.1) = ks := by rfl) (hall : (backToKw pos (keywordEach kws X.env)).all (·.1.isSome) = true := by rfl)
    (he : starEach (e :: es) X.env = (false, eval e X.env) :: starEach es X.env := by rfl) (hpl : ((backTo pos (starEach (e :: es) X.env)).any (·.1) || (backToKw pos (keywordEach kws X.env)).any (·.1.isNone)) = false := by rfl)
    (hev : eval (.Call (.Attribute o m apos) (e :: es) kws pos) X.env = (do
      let ov ← eval o X.env
      standAt apos.atName
      let (f, first) ← holding [ov] (getMethod ov m pl)
      callWith pos f first (backTo pos (starEach (e :: es) X.env)) (backToKw pos (keywordEach kws X.env))) := by rfl) :
    PE X (.Call (.Attribute o m apos) (e :: es) kws pos) (tMethS C m n ks.length sp gV ex te t tk) := by
  constructor
  intro pins s σ H Q I w
  refine PySem.W.methodCall_KW (pl := pl) (thn (ho.run pins s σ H _ I w) fun u s1 z => ?_) hev
  obtain ⟨y, H1, I1, ry, b, db, fs, ey, hb, lk, w1⟩ := z
  subst ey
  obtain rfl : u = Value.ref b := ry
  refine getmeth_ok I1 hb c hm lk ?_
  refine PySem.W.callWith_KW (first := [.ref b]) (h₀ := X.base) I.ok.mod.kin hm.kp hall (thn (ha.run pos pins s1 σ H1 _ I1 w1) fun us s2 z => ?_) hpl he
  obtain ⟨vs, H2, I2, r1, w2⟩ := z
  refine thn (hk.run pos pins s2 σ H2 _ I2 w2) fun ws s3 z => ?_
  obtain ⟨zs, H3, I3, r2, l1, l2, w3⟩ := z
  rw [hks]
  exact ⟨I3.kIn, run_kwS (n := n + 1) (us := .ref b :: us) (vs := .ref b :: vs) F room bd (out σ) I3 (.cons rfl r1) r2 (congrArg (· + 1) l1) l2 w3⟩
/-! ### a static method of a class -/
/-- C.m is a staticmethod: its record at p, its def at f -/
structure SMet (K : PySem.W.Frag) (C : Addr) (mc : Value) (m : Str) (p f : Addr) : Prop where
  at_ : PySem.W.findCls K (.ref C) mc m = some (.get (.builtin "staticmethod.__get__") (.ref p) .none (.ref C))
  rc : ∃ rest, PySem.W.recIn K p "staticmethod" = some (.ref f :: rest)
  kp : PySem.W.keepIn K (.ref f) = true
/-- a def by its promise on positional values, exceptions as ex σ wishes -/
theorem run_rS {pins : List (Addr × Obj)} {σ : L2.St} {H : Hp} {s : Shared} {Q : VK} {us : List Value} {vs : List V} (F : FnR X.prog X.w X.K X.mg X.base CT k f sp) (room : Room k X.A) (out : PassesAt CT X σ (ex σ)) (I : Inv X pins σ H s) (r : Vals vs us) (h : sp vs H Q (ex σ)) :
    wpAny (model X.prog X.w) X.A (call (.ref f) us) (EP X pins σ Q) X.xe s := by
  refine wpAny_call (codeAny_mono (F X.A X.stack s H us vs Q (ex σ) room I.env0 r h) fun res s2 done => ?_)
  match res, done with
  | .error ev, done => exact out pins H s ev s2 I done
  | .ok (.ret u), done => exact I.after done
  | .ok .next, done => exact done.elim
  | .ok .brk, done => exact done.elim
  | .ok .cont, done => exact done.elim
/-- C.m(e, ..) of a staticmethod -/
def tSMeth (C : Addr) (sp : Sp) (ex : L2.St → XK) (te : TE) (t : TA) : TE := fun σ H Q => te σ H fun y H1 => y = .ref C ∧ t σ H1 fun vs H2 => sp vs H2 Q (ex σ)
theorem pe_smeth {pl : Sem Bool} {mc : Value} {q : Addr} (ho : PE X o te) (rd : ClX.CRead X.K C mc) (c : SMet X.K C mc m q f) (F : FnR X.prog X.w X.K X.mg X.base CT k f sp) (room : Room k X.A) (out : ∀ σ, PassesAt CT X σ (ex σ)) (ha : PA X (e :: es) t)
    (he : starEach (e :: es) X.env = (false, eval e X.env) :: starEach es X.env := by rfl) (hpl : (backTo pos (starEach es X.env)).any (·.1) = false := by rfl)
    (hev : eval (.Call (.Attribute o m apos) (e :: es) [] pos) X.env = (do
      let ov ← eval o X.env
      standAt apos.atName
      let (f, first) ← holding [ov] (getMethod ov m pl)
      callWith pos f first (backTo pos (starEach (e :: es) X.env)) (backToKw pos (keywordEach [] X.env))) := by rfl) :
    PE X (.Call (.Attribute o m apos) (e :: es) [] pos) (tSMeth C sp ex te t) := by
  constructor
  intro pins s σ H Q I w
  refine PySem.W.methodCall_KW (pl := pl) (thn (ho.run pins s σ H _ I w) fun u s1 z => ?_) hev
  obtain ⟨y, H1, I1, ry, ey, w1⟩ := z
  subst ey
  obtain rfl : u = Value.ref C := ry
  obtain ⟨rest, rec⟩ := c.rc
  refine PySem.W.method_cls I1.kIn rd.ga (PySem.W.cls_bind I1.kIn rd.rd c.at_ ?_)
  refine wpAny_call (PySem.W.sm_get (s := { s1 with toks := s1.toks + 1 }) I1.kIn rec (PySem.W.handed_on rfl ?_))
  have I2 : Inv X pins σ H1 { s1 with toks := s1.toks + 1 } := I1.tok _
  refine PySem.W.callWith_K (first := []) (h₀ := X.base) I.ok.mod.kin c.kp (thn (ha.run pos pins _ σ H1 _ I2 w1) fun us s3 z => ?_) he hpl
  obtain ⟨vs, H3, I3, r3, w3⟩ := z
  exact ⟨I3.kIn, run_rS F room (out σ) I3 r3 w3⟩
end
end SE
/-! Several clauses 'except C as e', all with the same name e. -/
namespace SE
open PySem PySem.Spec PyProof.Rows L2
abbrev Clause := Value × (Addr → Value → Option Addr → TS)
/-- the clauses' wishes: each passes on to the next what is not its own -/
def wAsL (K : PySem.W.Frag) (i : Nat) (out : WX) (D : Ends) : List Clause → WX
  | [] => out
  | (c, ts) :: more => wAs K c i ts (wAsL K i out D more) D
/-- each clause names its class and has its suite -/
inductive AsOk (X : Cx) (n : Str) : List ExceptHandler → List Clause → Prop
  | nil : AsOk X n [] []
  | cons {y : Str} {c : Value} {ts : Addr → Value → Option Addr → TS} {first : Stmt} {rest : List Stmt} {p1 p2 : Pos} {more : List ExceptHandler} {cl : List Clause} (name : Names X y c)
      (suite : ∀ (b : Addr) (ob : Obj) (cv : Value) (fld : Option Addr) (kept : List (Addr × Obj)),
        Zc cv fld ob → (∃ fs, ob.data = .fields fs) → PSs (X.suite b ((b, ob) :: kept)) (first :: rest) (ts b cv fld))
      (tail : AsOk X n more cl) :
      AsOk X n (.ExceptHandler (some (.Name y p1)) (some n) (first :: rest) p2 :: more) ((c, ts) :: cl)
section
variable {X : Cx} {n : Str} {i : Nat} {main : List Stmt} {top : ExceptHandler} {more : List ExceptHandler} {cl : List Clause} {at_ : Pos} {tm : WX → TS} {out : WX}
theorem ps_try_asL (e1 : X.stack = X.env :: X.outer) (e2 : X.env.frame = some X.env.locals) (nod : X.N.Nodup) (slot : X.N[i]? = some n) (lo : X.env.kindOf n = some .local) (up : Takes X out)
    (hm : ∀ (W : WX) (kept : List (Addr × Obj)) (x2 : Value → Shared → Prop),
      Takes (X.tr kept x2) W → PassesOwn (model X.prog X.w) X.A X.env x2 → PSs (X.tr kept x2) main (tm W))
    (ok : AsOk X n (top :: more) cl) : PS X (.Try main (top :: more) [] [] at_) (fun D σ H => tm (wAsL X.K i out D cl) D σ H) := by
  constructor
  intro pins s0 σ0 H0 D I0 w0
  have inv := I0.ok
  have frames : X.A.frames = some (X.env :: X.outer) := inv.frames.trans (by rw [e1])
  apply wpAny_Try_except
  have big := (hm (wAsL X.K i out D cl) (X.pn ++ pins)
    (fun ev t1 => wpAny (model X.prog X.w) X.A (noteFrame ev X.env)
      (fun _ t2 => wpAny (model X.prog X.w) X.A (setFlight ev none)
        (fun _ t3 => wpAny (model X.prog X.w) X.A
          (handleBy ev X.env (top :: more)) (SP X pins D) X.xe t3) X.xe t2) X.xe t1) ?takes PassesOwn.looking).run [] s0 σ0 H0 D (I0.toTry _) w0
  case takes =>
    rintro u t ⟨b, B, sB, pb, σ, H, cv, fld, rfl, Jt, nb, grow, sky, free, os, ag, wish⟩
    have J : Inv X pins σ H sB := Jt.ofTry inv
    rw [e1] at sky
    show wpAny (model X.prog X.w) X.A (noteFrame (.ref b) X.env) _ _ _
    refine Sky.land Zc.steady frames e2 sky (fun h5 land grow5 => ?_)
    have J5 : Inv X pins σ H { t with heap := h5 } := J.landed nb land.1 (grow.trans grow5) os ag
    obtain ⟨ob5, fs5, there5, zc5, data5⟩ := land.there
    have apart : b ∉ frs (X.env :: X.outer) := fun hin => by
      obtain ⟨_, o2, at2, no⟩ := land.2.2.1.mem hin
      rw [there5] at at2
      cases at2
      exact no _ data5
    have ne1 : b ≠ X.env.locals := fun e => apart (List.mem_filterMap.mpr ⟨X.env, List.mem_cons_self, by rw [e2, e]⟩)
    have ne2 : b ∉ X.fs := fun hin => by
      obtain ⟨v, hv, hq⟩ := List.mem_filterMap.mp hin
      exact apart (List.mem_filterMap.mpr ⟨v, List.mem_cons_of_mem _ hv, hq⟩)
    have S5 := J5.suite there5 data5 free ne1 ne2
    -- clause by clause
    suffices walk : ∀ {hs : List ExceptHandler} {cs : List Clause}, AsOk X n hs cs → wAsL X.K i out D cs cv fld σ H →
        wpAny (model X.prog X.w) X.A (handleBy (.ref b) X.env hs) (SP X pins D) X.xe { t with heap := h5 } from walk ok wish
    intro hs cs good
    induction good with
    | nil =>
      intro wish
      refine wpAny_handleBy_nil ?_
      obtain ⟨k1, k2, k3, o6, f6, T6, oT6, ts6, at6, z6, d6, first6, rest6⟩ := id land
      unfold PySem.passOn
      refine wpAny_bind (wpAny_field at6 d6 first6 ?_)
      rw [if_neg (show ¬ ((Value.ref T6 == Value.none) = true) from by simp)]
      have leave : wpAny (model X.prog X.w) X.A (setFlight (.ref b) X.env.frame)
          (fun _ t7 => wpAny (model X.prog X.w) X.A (throw (.ref b) : Sem Flow) (SP X pins D) X.xe t7) X.xe { t with heap := h5 } := by
        rw [e2]
        refine HandSPX.setFlight_upZ land fun h7 land7 grow7 => wpAny_throw (up _ _ ?_)
        refine ⟨b, B, sB, pins, σ, H, cv, fld, rfl, J, nb, (grow.trans grow5).trans grow7, .inr (.inr ?_), free, os, ag, wish⟩
        rw [e1]
        exact land7
      first
        | exact wpAny_bind (wpAny_pure (wpAny_bind leave))
        | exact wpAny_bind leave
    | @cons y c ts first rest p1 p2 more2 cl2 name suite tail ih =>
      intro wish
      obtain ⟨hit, match1, yes, no⟩ := wish
      refine wpAny_handleBy_cons (codeAny_handlers_test ?_) (fun q => by cases q)
      have kind : PySem.W.Looks (model X.prog X.w) h5 (typeOf (.ref b)) cv := fun A Q E s k q => by
        refine wpAny_typeOf_ref (k _ _ there5) ?_
        rw [zc5.1]
        exact q
      have found := PySem.W.exm_one (M := model X.prog X.w) J5.kIn kind match1
      have look : ∀ {Q E : Value → Shared → Prop}, Q c { t with heap := h5 } →
          wpAny (model X.prog X.w) (X.A.mark (some (.ref b))) (eval (.Name y p1) X.env) Q E { t with heap := h5 } := fun q => by
        obtain ⟨g1, g2, own | ⟨g3, g4, g5⟩⟩ := name
        · exact ld_glob (X := X.suite b ((b, ob5) :: (X.pn ++ pins))) S5 g1 own q g2
        · exact ld_blt (X := X.suite b ((b, ob5) :: (X.pn ++ pins))) S5 g1 g3 g4 q g5 g2
      refine look (found.here ?_)
      cases hit with
      | false => exact ih (no rfl)
      | true =>
        refine codeAny_handlers_suite_as (HandSPX.lands_againZ land fun h8 land8 grow8 => ?_)
        have J8 : Inv X pins σ H { t with heap := h8 } := J.landed nb land8.1 ((grow.trans grow5).trans grow8) os ag
        obtain ⟨ob8, fs8, there8, zc8, data8⟩ := land8.there
        have S8 := J8.suite there8 data8 free ne1 ne2
        refine store_ok (X := X.suite b ((b, ob8) :: (X.pn ++ pins))) (v := .ref b) S8 nod slot (.inl lo) rfl (fun t9 S9 => ?_) (.inr lo)
        have run := (suite b ob8 cv fld (X.pn ++ pins) zc8 ⟨_, data8⟩).run [] t9 _ H _ S9 (yes rfl b free)
        refine wpAny_mono run (fun fl tA done => ?_) (fun _ _ z => z.elim)
        have clear : ∀ {σA : L2.St} {HA : Hp} {Q : Shared → Prop}, Inv (X.suite b ((b, ob8) :: (X.pn ++ pins))) [] σA HA tA →
            (∀ tB, Inv X pins (σA.set i none) HA tB → Q tB) →
            wpAny (model X.prog X.w) X.A (do bindName X.env n .none; unbindBehindTheSuite X.env n p2) (fun _ tB => Q tB) X.xe tA :=
          fun SA goal => gone_ok (SA.unsuite inv) nod slot lo goal
        match fl, done with
        | .next, ⟨_, _, SA, q⟩ => exact clear SA fun tB JB => ⟨_, _, JB, q⟩
        | .brk, ⟨_, _, SA, q⟩ => exact clear SA fun tB JB => ⟨_, _, JB, q⟩
        | .cont, ⟨_, _, SA, q⟩ => exact clear SA fun tB JB => ⟨_, _, JB, q⟩
        | .ret u, ⟨_, _, _, SA, rel, q⟩ => exact clear SA fun tB JB => ⟨_, _, _, JB, rel, q⟩
  refine wpAny_mono big (fun fl t done => ?_) (fun _ _ z => z)
  match fl, done with
  | .next, ⟨_, _, J, q⟩ => exact wpAny_execs_nil ⟨_, _, J.ofTry inv, q⟩
  | .brk, ⟨_, _, J, q⟩ => exact ⟨_, _, J.ofTry inv, q⟩
  | .cont, ⟨_, _, J, q⟩ => exact ⟨_, _, J.ofTry inv, q⟩
  | .ret u, ⟨_, _, _, J, rel, q⟩ => exact ⟨_, _, _, J.ofTry inv, rel, q⟩
end
end SE
namespace SE
open PySem PySem.Spec PyProof.Rows L2
/-! ### what is refused -/
def bad (C : Addr) (H : Hp) (v : V) (E : XK) : Prop := ∀ (dd : Addr) (H' : Hp), Same H H' → H dd = none → H' dd = some (.xd [("value", v)]) → E (.ref C) (some dd) H'
theorem bad.go {C : Addr} {H H1 : Hp} {v : V} {E : XK} (h : bad C H v E) (s : Same H H1) : bad C H1 v E := fun dd H' s' n e => h dd H' (s.trans s') (s.free n) e
def badI (C : Addr) (H : Hp) (v : V) (E : XK) : Prop := ∀ (dd : Addr) (H' : Hp), Same H H' → H dd = none → H' dd = some (.xd [("index", v)]) → E (.ref C) (some dd) H'
theorem badI.go {C : Addr} {H H1 : Hp} {v : V} {E : XK} (h : badI C H v E) (s : Same H H1) : badI C H1 v E := fun dd H' s' n e => h dd H' (s.trans s') (s.free n) e
section
variable {P : Program} {w : World} {K : PySem.W.Frag} {mg : Str → Option Value} {base : Heap}
/-! ### check_word, check_limit -/
def spCwX (K : PySem.W.Frag) (C : Addr) : Sp := fun xs H Q E => ∃ (v : V) (d : PyData), xs = [v] ∧ DpX K H v d ∧ OkD d ∧ (wordD d = true → ∀ H', Same H H' → Q .non H') ∧ (wordD d = false → bad C H v E)
theorem scKw : FnScope ["word"] ["word"] (defScope sChkWord) := ⟨rfl, rfl, rfl, by decide +kernel, rfl, by decide +kernel, by decide +kernel⟩
theorem hasX_cw {C : Addr} (D : Def K mg "check_word" sChkWord) (G : Has P w K mg base "is_word" 2 ["value"] [] (spX K wordD)) (T : XcC P w K mg base "InvalidWord" "value" C) : HasX P w K mg base "check_word" 3 ["word"] [] (spCwX K C) := by
  refine hasX_of D scKw (fun _ _ _ _ _ _ us hl => match us, hl with | [_], _ => rfl) (fun xs H Q E h => ?_) (fun f cv A out s H xs Q E hr h => ?_)
  · obtain ⟨v, d, rfl, _⟩ := h
    rfl
  · obtain ⟨v, d, rfl, hd, ok, kY, kN⟩ := h
    refine ⟨_, pss_one (ps_if (pt_not (pt_val (pe_has G hr (pa_cons (pv 0) pa_nil)))) (pss_one (ps_raiseX rfl T hr tkX (pa_cons (pv 0) pa_nil))) pss_nil), ?_⟩
    refine ⟨_, rfl, v, d, rfl, hd, ok, fun H1 s1 => ⟨wordD d, rfl, ?_⟩⟩
    cases hw : wordD d with
    | true => exact iteF (kY hw H1 s1)
    | false =>
      refine iteT ⟨_, rfl, mk_red fun dd hdd => ?_⟩
      exact kN hw dd _ (s1.trans (Same.new hdd)) (s1.free hdd) upd_same
end
end SE
namespace SE
open PySem PySem.Spec PyProof.Rows L2 TL
section
variable {P : Program} {w : World} {K : PySem.W.Frag} {mg : Str → Option Value} {base : Heap} {C : Addr}
/-- a text that is read, or what is refused; CX: the exceptions' class -/
def spPar {α : Type} (K : PySem.W.Frag) (CX : Addr) (R : Hp → V → Option α → Prop) (f : Str → Option α) (Ok : Str → Prop) : Sp := fun xs H Q E => ∃ (v : V) (d : PyData), xs = [v] ∧ DpX K H v d ∧
  ((∃ z, d = .str z ∧ Ok z ∧ (∀ o, f z = some o → ∀ w H', Same H H' → R H' w (some o) → Q w H') ∧ (f z = none → bad CX H v E)) ∨ (isStr d = false ∧ bad CX H v E))
theorem scPword : FnScope ["text", "word"] ["text"] (defScope sParseWord) := ⟨rfl, rfl, rfl, by decide +kernel, rfl, by decide +kernel, by decide +kernel⟩
theorem hasX_pword {CX : Addr} (D : Def K mg "parse_word" sParseWord) (G : Has P w K mg base "word_in" 3 ["text"] [] (spWordT K)) (T : XcC P w K mg base "InvalidText" "value" CX) (B : Blt mg) : HasX P w K mg base "parse_word" 4 ["text"] [] (spPar (α := List Str) K CX (fun H v o => WordR K H v o) wordOf (TxS 200)) := by
  refine hasX_of D scPword (fun _ _ _ _ _ _ us hl => match us, hl with | [_], _ => rfl) (fun xs H Q E h => ?_) (fun f cv A out s H xs Q E hr h => ?_)
  · obtain ⟨v, d, rfl, _⟩ := h
    rfl
  · obtain ⟨v, d, rfl, hd, h⟩ := h
    refine ⟨_, pss_cons (ps_set (i := 1) scPword.nd rfl (.inl rfl) (pe_ifExp (pt_val (pe_callB call_isi (by rfl) B.isi (by decide +kernel) (pa_cons (pv 0) (pa_cons (pe_bltn (v := .ty "str") (by rfl) B.str (by decide +kernel) rfl) pa_nil)))) (pe_has G hr (pa_cons (pv 0) pa_nil)) pe_non))
      (pss_cons (ps_if (pt_cmpR op_isN (pv 1) pe_non (nomark _)) (pss_one (ps_raiseX rfl T (hr.mono (by decide)) tkX (pa_cons (pv 0) pa_nil))) pss_nil)
      (pss_one (ps_ret (pv 1)))), ?_⟩
    refine ⟨_, rfl, _, .ty "str", .type (tyD d), .type "str", isStr d, rfl, .ty _, hd.ty, kit_str d, _, rfl, ?_⟩
    rcases h with ⟨z, rfl, okz, kY, kN⟩ | ⟨hn, kN⟩
    · cases hd
      refine iteT ?_
      refine ⟨_, rfl, z, rfl, okz, fun w H1 s1 r => ?_⟩
      cases e : wordOf z with
      | none =>
        rw [e] at r
        obtain rfl : w = .non := r
        exact ⟨_, rfl, rfl, true, rfl, iteT ⟨_, rfl, mk_red fun dd hdd => kN e dd _ (s1.trans (Same.new hdd)) (s1.free hdd) upd_same⟩⟩
      | some o =>
        rw [e] at r
        have k := kY o e w H1 s1 r
        obtain ⟨a, rfl, _⟩ := r
        exact ⟨_, rfl, rfl, false, rfl, iteF ⟨_, rfl, k⟩⟩
    · rw [hn]
      exact iteF ⟨_, rfl, rfl, true, rfl, iteT ⟨_, rfl, mk_red fun dd hdd => kN dd _ (Same.new hdd) hdd upd_same⟩⟩
theorem scPsteps : FnScope ["text", "steps"] ["text"] (defScope sParseSteps) := ⟨rfl, rfl, rfl, by decide +kernel, rfl, by decide +kernel, by decide +kernel⟩
theorem hasX_psteps {CX : Addr} (D : Def K mg "parse_steps" sParseSteps) (G : Has P w K mg base "steps_in" 4 ["text"] [] (spStepsT K)) (T : XcC P w K mg base "InvalidText" "value" CX) (B : Blt mg) : HasX P w K mg base "parse_steps" 5 ["text"] [] (spPar (α := List Str) K CX (fun H v o => StepsR K H v o) stepsL (fun z => ∃ B, FitS B z)) := by
  refine hasX_of D scPsteps (fun _ _ _ _ _ _ us hl => match us, hl with | [_], _ => rfl) (fun xs H Q E h => ?_) (fun f cv A out s H xs Q E hr h => ?_)
  · obtain ⟨v, d, rfl, _⟩ := h
    rfl
  · obtain ⟨v, d, rfl, hd, h⟩ := h
    refine ⟨_, pss_cons (ps_set (i := 1) scPsteps.nd rfl (.inl rfl) (pe_ifExp (pt_val (pe_callB call_isi (by rfl) B.isi (by decide +kernel) (pa_cons (pv 0) (pa_cons (pe_bltn (v := .ty "str") (by rfl) B.str (by decide +kernel) rfl) pa_nil)))) (pe_has G hr (pa_cons (pv 0) pa_nil)) pe_non))
      (pss_cons (ps_if (pt_cmpR op_isN (pv 1) pe_non (nomark _)) (pss_one (ps_raiseX rfl T (hr.mono (by decide)) tkX (pa_cons (pv 0) pa_nil))) pss_nil)
      (pss_one (ps_ret (pv 1)))), ?_⟩
    refine ⟨_, rfl, _, .ty "str", .type (tyD d), .type "str", isStr d, rfl, .ty _, hd.ty, kit_str d, _, rfl, ?_⟩
    rcases h with ⟨z, rfl, okz, kY, kN⟩ | ⟨hn, kN⟩
    · cases hd
      refine iteT ?_
      obtain ⟨Bn, okz⟩ := okz
      refine ⟨_, rfl, z, Bn, rfl, okz, fun w H1 s1 r => ?_⟩
      cases e : stepsL z with
      | none =>
        rw [e] at r
        obtain rfl : w = .non := r
        exact ⟨_, rfl, rfl, true, rfl, iteT ⟨_, rfl, mk_red fun dd hdd => kN e dd _ (s1.trans (Same.new hdd)) (s1.free hdd) upd_same⟩⟩
      | some o =>
        rw [e] at r
        have k := kY o e w H1 s1 r
        obtain ⟨a, us, rfl, _⟩ := r
        exact ⟨_, rfl, rfl, false, rfl, iteF ⟨_, rfl, k⟩⟩
    · rw [hn]
      exact iteF ⟨_, rfl, rfl, true, rfl, iteT ⟨_, rfl, mk_red fun dd hdd => kN dd _ (Same.new hdd) hdd upd_same⟩⟩
theorem scPeffect : FnScope ["text", "effect"] ["text"] (defScope sParseEffect) := ⟨rfl, rfl, rfl, by decide +kernel, rfl, by decide +kernel, by decide +kernel⟩
theorem hasX_peffect {CX : Addr} (D : Def K mg "parse_effect" sParseEffect) (G : Has P w K mg base "effect_in" 7 ["text"] [] (spEffT K C)) (T : XcC P w K mg base "InvalidText" "value" CX) (B : Blt mg) : HasX P w K mg base "parse_effect" 8 ["text"] [] (spPar (α := Eff) K CX (fun H v o => EffR K C H v o) effOf (fun z => TxS 200 z ∧ FigS z)) := by
  refine hasX_of D scPeffect (fun _ _ _ _ _ _ us hl => match us, hl with | [_], _ => rfl) (fun xs H Q E h => ?_) (fun f cv A out s H xs Q E hr h => ?_)
  · obtain ⟨v, d, rfl, _⟩ := h
    rfl
  · obtain ⟨v, d, rfl, hd, h⟩ := h
    refine ⟨_, pss_cons (ps_set (i := 1) scPeffect.nd rfl (.inl rfl) (pe_ifExp (pt_val (pe_callB call_isi (by rfl) B.isi (by decide +kernel) (pa_cons (pv 0) (pa_cons (pe_bltn (v := .ty "str") (by rfl) B.str (by decide +kernel) rfl) pa_nil)))) (pe_has G hr (pa_cons (pv 0) pa_nil)) pe_non))
      (pss_cons (ps_if (pt_cmpR op_isN (pv 1) pe_non (nomark _)) (pss_one (ps_raiseX rfl T (hr.mono (by decide)) tkX (pa_cons (pv 0) pa_nil))) pss_nil)
      (pss_one (ps_ret (pv 1)))), ?_⟩
    refine ⟨_, rfl, _, .ty "str", .type (tyD d), .type "str", isStr d, rfl, .ty _, hd.ty, kit_str d, _, rfl, ?_⟩
    rcases h with ⟨z, rfl, okz, kY, kN⟩ | ⟨hn, kN⟩
    · cases hd
      refine iteT ?_
      obtain ⟨okz, okf⟩ := okz
      refine ⟨_, rfl, z, rfl, okz, okf, fun w H1 s1 r => ?_⟩
      cases e : effOf z with
      | none =>
        rw [e] at r
        obtain rfl : w = .non := r
        exact ⟨_, rfl, rfl, true, rfl, iteT ⟨_, rfl, mk_red fun dd hdd => kN e dd _ (s1.trans (Same.new hdd)) (s1.free hdd) upd_same⟩⟩
      | some o =>
        rw [e] at r
        have k := kY o e w H1 s1 r
        obtain ⟨a, rfl, _⟩ := r
        exact ⟨_, rfl, rfl, false, rfl, iteF ⟨_, rfl, k⟩⟩
    · rw [hn]
      exact iteF ⟨_, rfl, rfl, true, rfl, iteT ⟨_, rfl, mk_red fun dd hdd => kN dd _ (Same.new hdd) hdd upd_same⟩⟩
end
end SE
namespace SE
open PySem PySem.Spec PyProof.Rows L2 TL
theorem dp_strsT {K : PySem.W.Frag} {H : Hp} : ∀ zs : List Str, DpAll K H (zs.map V.str) (zs.map PyData.str)
  | [] => .nil
  | z :: zs => .cons (.str z) (dp_strsT zs)
section
variable {P : Program} {w : World} {K : PySem.W.Frag} {mg : Str → Option Value} {base : Heap} {C : Addr}
/-! ### _law_is_item -/
def spLI : Sp := fun xs H Q _ => ∃ z : Str, xs = [.str z] ∧ TxS 4000 z ∧ ∀ H', Same H H' → Q (.bl (itemS z)) H'
abbrev nLi : List Str := ["_law_text", "_law_sign"]
theorem scLi : FnScope nLi ["_law_text"] (defScope sLawIsItem) := ⟨rfl, rfl, rfl, by decide +kernel, rfl, by decide +kernel, by decide +kernel⟩
theorem has_lItem (D : Def K mg "_law_is_item" sLawIsItem) (B : Blt mg) : Has P w K mg base "_law_is_item" 1 ["_law_text"] [] spLI := by
  refine has_of D scLi (fun _ _ _ _ _ _ us hl => match us, hl with | [_], _ => rfl) (fun xs H Q E h => ?_) (fun f cv A out s H xs Q E hr h => ?_)
  · obtain ⟨z, rfl, _⟩ := h
    rfl
  · obtain ⟨z, rfl, ok, k⟩ := h
    refine ⟨_, pss_one (ps_ret (pe_and (pe_chain op_le op_le pe_int (pe_callB call_len_str (by rfl) B.len PySem.boot_len (pa_cons (pv 0) pa_nil)) pe_int)
      (pe_one (pe_cmpR (op_eqD hr.units)
        (pe_lc (own := [("_law_sign", 1)]) (g := gName 1) (te := tVar 1) rfl scLi.nd (pi_str (pv 0)) (blkOk_by (own := [("_law_sign", 1)]) (N := nLi) (sc := defScope sLawIsItem) (by decide +kernel))
          (fun _ _ _ _ _ => pg_name (i := 1) scLi.nd rfl (.inl rfl)) (fun _ _ _ _ _ => pts_one (pt_not (pt_chain op_le_str op_le_str pe_str (pv 1) pe_str))) (fun _ _ _ _ _ => pv 1)) (pe_lst pa_nil) (nomark _))))), ?_⟩
    have k : ∀ H', Same H H' → Q (.bl (itemD (.str z))) H' := k
    have zl := ok.ln
    have chars : ∀ c ∈ z.cps.toList, c < 0x110000 := okA_mem.mp ok.ok
    have e97 : ("a" : Str).cps.toList = [97] := by decide +kernel
    have e122 : ("z" : Str).cps.toList = [122] := by decide +kernel
    refine ⟨_, rfl, z, rfl, by rw [sizeLine_eq]; omega, 1, _, rfl, rfl, _, rfl, ?_⟩
    by_cases p1 : 1 ≤ z.length
    · have e1 : decide ((1 : Int) ≤ (z.length : Int)) = true := decide_eq_true (by omega)
      rw [e1]
      refine iteT ⟨_, 8, rfl, rfl, _, rfl, ?_⟩
      by_cases p2 : z.length ≤ 8
      · have e2 : decide ((z.length : Int) ≤ 8) = true := decide_eq_true (by omega)
        rw [e2]
        refine iteT ?_
        have e3 : itemD (.str z) = decide ((z.cps.toList.filter fun c => !decide (c ∈ abc.cps.toList)) = []) := by
          rw [itemD_str, decide_eq_true ⟨p1, p2⟩, Bool.true_and, all_id_map, none_left (fun c => decide (c ∈ abc.cps.toList))]
        rw [e3] at k
        refine ⟨_, rfl, z, rfl, fun D hD => lc_it walk_str (fun j H2 => H2 D = some (.lst ((((z.cps.toList.take j).filter fun c => !decide (c ∈ abc.cps.toList)).map fun c => (⟨#[c]⟩ : Str)).map V.str)) ∧ Same H H2) ⟨upd_same, Same.new hD⟩ (fun _ _ _ _ => trivial) ?_ ?_⟩
        · rintro j x H2 H3 hj ⟨h2, s2⟩ ⟨rfl, c, hc, rfl⟩
          have q : z.cps.toList[j]? = some c := by rw [Array.getElem?_toList]; exact hc
          have ai := abc_iff c
          have cr : c < 0x110000 := chars c (List.mem_of_getElem? q)
          have app : decide (c ∈ abc.cps.toList) = false → ∃ acc, H3 D = some (.lst acc) ∧ acc.length < sizeLine ∧ (upd H3 D (.lst (acc ++ [V.str ⟨#[c]⟩]))) D = some (.lst ((((z.cps.toList.take (j + 1)).filter fun c => !decide (c ∈ abc.cps.toList)).map fun c => (⟨#[c]⟩ : Str)).map V.str)) ∧ Same H (upd H3 D (.lst (acc ++ [V.str ⟨#[c]⟩]))) := fun hf => by
            refine ⟨_, h2, ?_, ?_, Same.free2 s2 hD⟩
            · rw [List.length_map, List.length_map]
              have l1 := List.length_filter_le (fun c => !decide (c ∈ abc.cps.toList)) (z.cps.toList.take j)
              rw [List.length_take] at l1
              exact small1000 (by have : j < z.length := hj; omega)
            · rw [upd_same, List.take_add_one, q, List.filter_append, List.map_append, List.map_append]
              simp only [Option.toList, List.filter_cons, hf, Bool.not_false, if_true, List.filter_nil]
              rfl
          have skip : decide (c ∈ abc.cps.toList) = true → H3 D = some (.lst ((((z.cps.toList.take (j + 1)).filter fun c => !decide (c ∈ abc.cps.toList)).map fun c => (⟨#[c]⟩ : Str)).map V.str)) ∧ Same H H3 := fun hf => by
            refine ⟨?_, s2⟩
            rw [h2, List.take_add_one, q, List.filter_append]
            simp only [Option.toList, List.filter_cons, hf, Bool.not_true, List.filter_nil]
            simp
          refine ⟨rfl, _, rfl, _, _, rfl, rfl, _, rfl, ?_⟩
          rw [show (!decide ((⟨#[c]⟩ : Str).cps.toList < ("a" : Str).cps.toList)) = (!decide (([c] : List Nat) < [97])) by rw [e97]]
          cases hb1 : decide (([c] : List Nat) < [97]) with
          | true =>
            rw [hb1] at ai
            exact iteF ⟨false, rfl, iteT ⟨_, rfl, app (by rw [ai]; rfl)⟩⟩
          | false =>
            rw [hb1] at ai
            refine iteT ⟨_, _, rfl, rfl, _, rfl, ?_⟩
            rw [show (!decide (("z" : Str).cps.toList < (⟨#[c]⟩ : Str).cps.toList)) = (!decide (([122] : List Nat) < [c])) by rw [e122]]
            cases hb2 : decide (([122] : List Nat) < [c]) with
            | true =>
              rw [hb2] at ai
              exact iteT ⟨_, rfl, app (by rw [ai]; rfl)⟩
            | false =>
              rw [hb2] at ai
              exact iteF (skip (by rw [ai]; rfl))
        · rintro H2 ⟨h2, s2⟩
          rw [List.take_of_length_le (by rw [Array.length_toList]; exact Nat.le_refl _)] at h2
          have nn : ∀ d ∈ ((z.cps.toList.filter fun c => !decide (c ∈ abc.cps.toList)).map fun c => (⟨#[c]⟩ : Str)).map PyData.str, Nice 0 8 d := fun d md => by
            obtain ⟨y, my, rfl⟩ := List.mem_map.mp md
            obtain ⟨c, mc, rfl⟩ := List.mem_map.mp my
            refine nice_str (fun c2 m2 => ?_) (by show 1 ≤ 8; decide)
            have : c2 = c := by simpa using m2
            rw [this]
            exact chars c (List.mem_filter.mp mc).1
          refine ⟨Nat.zero_le _, fun M hM => ⟨.list (((z.cps.toList.filter fun c => !decide (c ∈ abc.cps.toList)).map fun c => (⟨#[c]⟩ : Str)).map PyData.str), .list (([] : List Str).map PyData.str), .lst (.of (by rw [upd_ne (ne_of_none h2 hM)]; exact h2)) (dp_strsT _), .lst (.of upd_same) .nil, (nice_list nn).shaped (by decide), by decide, ?_⟩⟩
          rw [eqv_listS]
          have e4 : decide ((z.cps.toList.filter fun c => !decide (c ∈ abc.cps.toList)).map (fun c => (⟨#[c]⟩ : Str)) = []) = decide ((z.cps.toList.filter fun c => !decide (c ∈ abc.cps.toList)) = []) := decide_eq_decide.mpr List.map_eq_nil_iff
          rw [e4]
          exact k _ (s2.trans (Same.new hM))
      · have e2 : decide ((z.length : Int) ≤ 8) = false := decide_eq_false (by omega)
        rw [e2]
        have e3 : itemD (.str z) = false := by
          rw [itemD_str, decide_eq_false (fun q => p2 q.2), Bool.false_and]
        rw [e3] at k
        exact iteF (k H (Same.refl H))
    · have e1 : decide ((1 : Int) ≤ (z.length : Int)) = false := decide_eq_false (by omega)
      rw [e1]
      have e3 : itemD (.str z) = false := by
        rw [itemD_str, decide_eq_false (fun q => p1 q.1), Bool.false_and]
      rw [e3] at k
      exact iteF ⟨false, rfl, iteF (k H (Same.refl H))⟩
/-! ### _law_word_of -/
abbrev nLw : List Str := ["_law_text", "_law_items_here", "_law_item"]
theorem scLw : FnScope nLw ["_law_text"] (defScope sLawWordOf) := ⟨rfl, rfl, rfl, by decide +kernel, rfl, by decide +kernel, by decide +kernel⟩
theorem has_lWord (D : Def K mg "_law_word_of" sLawWordOf) (G : Has P w K mg base "_law_is_item" 1 ["_law_text"] [] spLI) (B : Blt mg) : Has P w K mg base "_law_word_of" 2 ["_law_text"] [] (spWordT K) := by
  refine has_of D scLw (fun _ _ _ _ _ _ us hl => match us, hl with | [_], _ => rfl) (fun xs H Q E h => ?_) (fun f cv A out s H xs Q E hr h => ?_)
  · obtain ⟨z, rfl, _⟩ := h
    rfl
  · obtain ⟨z, rfl, hz, k⟩ := h
    refine ⟨_, pss_cons (ps_if (pt_cmpR op_eq (pv 0) pe_str (nomark _)) (pss_one (ps_ret (pe_tup pa_nil))) pss_nil)
      (pss_cons (ps_set (i := 1) scLw.nd rfl (.inl rfl) (pe_split (pv 0) pe_str))
      (pss_one (ps_ret (pe_ifExp (pt_cmpR (op_eqD hr.units) (pe_lc (own := [("_law_item", 2)]) (g := gName 2) (tt := tNot (tB (tCall spLI [] E0 (tCons (tVar 2) tNil)))) (te := tVar 2) rfl scLw.nd (pi_list (pv 1)) (blkOk_by (own := [("_law_item", 2)]) (N := nLw) (sc := defScope sLawWordOf) (by decide +kernel))
          (fun _ _ _ _ _ => pg_name (i := 2) scLw.nd rfl (.inl rfl)) (fun _ _ _ _ _ => pts_one (pt_not (pt_val (pe_has G hr (pa_cons (pv 2) pa_nil))))) (fun _ _ _ _ _ => pv 2)) (pe_lst pa_nil) (nomark _))
        (pe_callTy call_tuple_of (by rfl) B.tup (by decide +kernel) (pa_cons (pv 1) pa_nil)) pe_non)))), ?_⟩
    refine ⟨_, rfl, rfl, _, rfl, ?_⟩
    show if decide (V.str z = V.str sDash) = true then _ else _
    by_cases c : z = sDash
    · rw [decide_eq_true (by rw [c])]
      refine iteT ⟨(by show 0 ≤ sizeLine; decide), fun a ha => k _ _ (Same.new ha) ?_⟩
      unfold wordOf
      rw [if_pos c]
      exact ⟨a, rfl, .of upd_same⟩
    · rw [decide_eq_false (fun e => c (V.str.inj e))]
      have wl := hz.ln
      obtain ⟨g1, g2, g3⟩ := hz.dot
      refine iteF ⟨_, rfl, ⟨_, rfl⟩, z, sDot, rfl, rfl, (by decide +kernel), by rw [sizeLine_eq]; omega, fun p hp => ?_⟩
      have ew : wordOf z = if (Txt.split z sDot).all itemS = true then some (Txt.split z sDot) else none := by
        unfold wordOf
        rw [if_neg c]
      generalize Txt.split z sDot = zs at g1 g2 g3 ew
      have s1 : Same H (upd H p (.lst (zs.map V.str))) := Same.new hp
      have h1 : upd H p (.lst (zs.map V.str)) p = some (.lst (zs.map V.str)) := upd_same
      generalize upd H p (.lst (zs.map V.str)) = H1 at s1 h1
      refine ⟨_, rfl, p, rfl, ⟨_, .of h1⟩, fun D hD => lc_list (K := K) (a := p) (xs := zs.map V.str) (fun j H2 => H2 D = some (.lst (((zs.take j).filter fun x => !itemS x).map V.str)) ∧ Same H1 H2) ⟨upd_same, Same.new hD⟩ (fun j H2 _ q => .of (q.2 _ _ h1)) ?_ ?_⟩
      · rintro j x H2 hj ⟨h2, s2⟩
        rw [List.getElem?_map] at hj
        obtain ⟨y, hy, rfl⟩ := Option.map_eq_some_iff.mp hj
        have ty := g1 y (List.mem_of_getElem? hy)
        have tk : zs.take (j + 1) = zs.take j ++ [y] := by
          rw [List.take_add_one, hy]
          rfl
        refine ⟨rfl, _, rfl, y, rfl, ty.mono (by decide), fun H3 s3 => ⟨_, rfl, ?_⟩⟩
        have h3 := s3 _ _ h2
        by_cases m : itemS y = true
        · rw [m]
          refine iteF ⟨?_, s2.trans s3⟩
          rw [tk, List.filter_append, List.filter_cons_of_neg (by simp [m]), List.filter_nil, List.append_nil]
          exact h3
        · have m' := Bool.eq_false_iff.mpr m
          rw [m']
          refine iteT ⟨_, rfl, _, h3, ?_, ?_, Same.free2 (s2.trans s3) hD⟩
          · rw [List.length_map, sizeLine_eq]
            have z1 := List.length_filter_le (fun x => !itemS x) (zs.take j)
            rw [List.length_take] at z1
            omega
          · rw [upd_same, tk, List.filter_append, List.filter_cons_of_pos (by simp [m']), List.filter_nil, List.map_append]
            rfl
      · rintro H2 ⟨h2, s2⟩
        rw [List.take_of_length_le (by rw [List.length_map]; exact Nat.le_refl _)] at h2
        have nn : ∀ d ∈ (zs.filter fun x => !itemS x).map PyData.str, Nice 0 200 d := fun d md => by
          obtain ⟨y, my, rfl⟩ := List.mem_map.mp md
          have ty := g1 y (List.mem_filter.mp my).1
          exact nice_str (okA_mem.mp ty.ok) ty.ln
        have sh : SeqAt.shaped (.list ((zs.filter fun x => !itemS x).map PyData.str)) = true := (nice_list nn).shaped (by decide)
        refine ⟨Nat.zero_le _, fun M hM => ⟨.list ((zs.filter fun x => !itemS x).map PyData.str), .list (([] : List Str).map PyData.str), .lst (.of (by rw [upd_ne (ne_of_none h2 hM)]; exact h2)) (dp_strsT _), .lst (.of upd_same) .nil, sh, by decide, _, rfl, ?_⟩⟩
        rw [eqv_listS]
        have e4 : decide ((zs.filter fun x => !itemS x) = []) = zs.all itemS := none_left itemS zs
        rw [e4]
        have s3 := s2.trans (Same.new (o := .lst []) hM)
        generalize upd H2 M (.lst []) = H3 at s3
        by_cases q : zs.all itemS = true
        · rw [q]
          refine iteT ⟨_, rfl, p, _, rfl, .inl ⟨.of (s3 _ _ h1), fun a ha => k _ _ ((s1.trans s3).trans (Same.new ha)) ?_⟩⟩
          rw [ew, if_pos q]
          exact ⟨a, rfl, .of upd_same⟩
        · rw [Bool.eq_false_iff.mpr q]
          refine iteF (k _ _ (s1.trans s3) ?_)
          rw [ew, if_neg q]
          rfl
end
end SE
namespace SE
open PySem PySem.Spec PyProof.Rows L2 TL
theorem act_some (q : Str) : (actS q).isSome = decide (headS q ∈ [sPlus, sDash]) := by
  unfold actS
  by_cases c1 : headS q = sPlus
  · rw [if_pos c1, c1]
    simp
  · rw [if_neg c1]
    by_cases c2 : headS q = sDash
    · rw [if_pos c2, c2]
      simp
    · rw [if_neg c2]
      simp [c1, c2]
theorem act_two {q : Str} (h : (actS q).isSome = true) : atI [V.str sPop, V.str sPush] (if decide (V.str (headS q) = V.str sPlus) = true then 1 else 0) = some (actV q) := by
  unfold actV
  unfold actS at h ⊢
  by_cases c1 : headS q = sPlus
  · rw [decide_eq_true (by rw [c1]), if_pos rfl, if_pos c1]
    exact atI_nat (j := 1) rfl
  · rw [decide_eq_false (fun e => c1 (V.str.inj e)), if_neg Bool.false_ne_true, if_neg c1]
    rw [if_neg c1] at h
    by_cases c2 : headS q = sDash
    · rw [if_pos c2]
      exact atI_nat (j := 0) rfl
    · rw [if_neg c2] at h
      cases h
section
variable {P : Program} {w : World} {K : PySem.W.Frag} {mg : Str → Option Value} {base : Heap} {C : Addr}
/-! ### _law_steps_of -/
def spLS (K : PySem.W.Frag) : Sp := fun xs H Q _ => ∃ z : Str, xs = [.str z] ∧ TxS 200 z ∧ ∀ (v : V) (H' : Hp), Same H H' → StepsR K H' v (stepsOf z) → Q v H'
abbrev nLs : List Str := ["_law_text", "_law_found", "_law_part"]
theorem scLs : FnScope nLs ["_law_text"] (defScope sLawStepsOf) := ⟨rfl, rfl, rfl, by decide +kernel, rfl, by decide +kernel, by decide +kernel⟩
theorem has_lSteps (D : Def K mg "_law_steps_of" sLawStepsOf) (G : Has P w K mg base "_law_is_item" 1 ["_law_text"] [] spLI) (mi : mg "int" = none) : Has P w K mg base "_law_steps_of" 2 ["_law_text"] [] (spLS K) := by
  refine has_of D scLs (fun _ _ _ _ _ _ us hl => match us, hl with | [_], _ => rfl) (fun xs H Q E h => ?_) (fun f cv A out s H xs Q E hr h => ?_)
  · obtain ⟨z, rfl, _⟩ := h
    rfl
  · obtain ⟨z, rfl, hz, k⟩ := h
    refine ⟨_, pss_cons (ps_if (pt_cmpR op_eq (pv 0) pe_str (nomark _)) (pss_one (ps_ret (pe_lst pa_nil))) pss_nil)
      (pss_cons (ps_set (i := 1) scLs.nd rfl (.inl rfl) (pe_lst pa_nil))
      (pss_cons (ps_for PassesOwn.never rfl (pi_list (pe_split (pv 0) pe_str)) (pg_name (i := 2) scLs.nd rfl (.inl rfl))
        (pss_cons (ps_if (PW.pt (pw_or (pt_cmpR op_notIn_seq (pe_slice sl_str (pv 2) po_none (po_some pe_int)) (pe_lst (pa_cons pe_str (pa_cons pe_str pa_nil))) (by rfl)) (pw_or1 (pt_not (pt_val (pe_has G hr (pa_cons (pe_slice sl_str (pv 2) (po_some pe_int) po_none) pa_nil))))))) (pss_one (ps_ret pe_non)) pss_nil)
        (pss_one (ps_expr (pe_bm PySem.F.plainAttrs_list PySem.F.slot_list_append PySem.F.type_list_append mt_append (pv 1) (pa_cons (pe_tup (pa_cons (pe_ix ix_list (pe_lst (pa_cons pe_str (pa_cons pe_str pa_nil))) (pe_callTy call_int1 (by rfl) mi (by decide +kernel) (pa_cons (pe_cmpR op_eq (pe_slice sl_str (pv 2) po_none (po_some pe_int)) pe_str (nomark _)) pa_nil)) (fun _ _ => rfl)) (pa_cons (pe_slice sl_str (pv 2) (po_some pe_int) po_none) pa_nil))) pa_nil))))))
      (pss_one (ps_ret (pv 1))))), ?_⟩
    refine ⟨_, rfl, rfl, _, rfl, ?_⟩
    show if decide (V.str z = V.str sDot) = true then _ else _
    by_cases c : z = sDot
    · rw [decide_eq_true (by rw [c])]
      refine iteT ⟨(by show 0 ≤ sizeLine; decide), fun a ha => k _ _ (Same.new ha) ?_⟩
      unfold stepsOf
      rw [if_pos c]
      exact ⟨a, [], rfl, .of upd_same, .nil, fun _ m => nomatch m⟩
    · rw [decide_eq_false (fun e => c (V.str.inj e))]
      have wl := hz.ln
      obtain ⟨g1, g2, g3⟩ := hz.blk
      have el : stepsOf z = if (Txt.split z sBlk).all partS = true then some (Txt.split z sBlk) else none := by
        unfold stepsOf
        rw [if_neg c]
      refine iteF ⟨Nat.zero_le _, fun D hD => ?_⟩
      refine ⟨_, rfl, ⟨_, rfl⟩, z, sBlk, rfl, rfl, (by decide +kernel), by rw [sizeLine_eq]; omega, fun p hp => ?_⟩
      generalize Txt.split z sBlk = ps at g1 g2 g3 el
      have pD : p ≠ D := (ne_of_none upd_same hp).symm
      have s1 : Same H (upd (upd H D (.lst [])) p (.lst (ps.map V.str))) := (Same.new hD).trans (Same.new hp)
      have h1 : upd (upd H D (.lst [])) p (.lst (ps.map V.str)) p = some (.lst (ps.map V.str)) := upd_same
      have d1 : upd (upd H D (.lst [])) p (.lst (ps.map V.str)) D = some (.lst []) := by rw [upd_ne pD.symm]; exact upd_same
      generalize upd (upd H D (.lst [])) p (.lst (ps.map V.str)) = H1 at s1 h1 d1
      refine ⟨p, rfl, ⟨_, .of h1⟩, for_list (K := K) (a := p) (xs := ps.map V.str) (fun j σ H2 => ∃ us y2, σ = [some (.str z), some (.ref D), y2] ∧ H2 D = some (.lst us) ∧ H2 p = some (.lst (ps.map V.str)) ∧ Paired (fun u p => ∃ t, u = V.ref t ∧ H2 t = some (.tup [actV p, .str (restS p)])) us (ps.take j) ∧ (∀ q ∈ ps.take j, partS q = true) ∧ Same H H2)
        ⟨[], _, rfl, d1, h1, .nil, fun _ m => (nomatch m), s1⟩ (fun j σ H2 _ q => ?_) ?_ ?_⟩
      · obtain ⟨_, _, _, _, q, _⟩ := q
        exact .of q
      · rintro j x σ H2 hj ⟨us, y2, rfl, h2, hp2, hs, ha, s2⟩
        rw [List.getElem?_map] at hj
        obtain ⟨q, hq, rfl⟩ := Option.map_eq_some_iff.mp hj
        have tq := g1 q (List.mem_of_getElem? hq)
        have lq := tq.ln
        have sz : q.length ≤ sizeLine := by rw [sizeLine_eq]; omega
        have mq : q ∈ ps := List.mem_of_getElem? hq
        have none' : partS q = false → stepsOf z = none := fun e => by
          rw [el, if_neg (fun a => by
            have := List.all_eq_true.mp a q mq
            rw [e] at this
            cases this)]
        refine ⟨_, rfl, 1, rfl, q, rfl, sz, by show 2 ≤ sizeLine; decide, fun m1 hm1 => ?_⟩
        have u1 := Same.new (o := .lst [.str sPlus, .str sDash]) hm1
        refine ⟨m1, [.str sPlus, .str sDash], rfl, .inl (.of upd_same), rfl, rfl, _, rfl, ?_⟩
        rw [if_pos rfl, show inV (.str (cutS q none (some 1))) [.str sPlus, .str sDash] = decide (headS q ∈ [sPlus, sDash]) from inV_str (headS q) [sPlus, sDash], ← act_some]
        by_cases ca : (actS q).isSome = true
        · rw [ca]
          refine iteF ⟨_, rfl, 1, rfl, q, rfl, sz, restS q, rfl, tq.cut.mono (by decide), fun H3 s3 => ⟨_, rfl, ?_⟩⟩
          by_cases ci : itemS (restS q) = true
          · rw [ci]
            refine iteF ?_
            have s23 := u1.trans s3
            have h3 := s23 _ _ h2
            have hp3 := s23 _ _ hp2
            refine ⟨_, rfl, .inl ⟨rfl, _, .of h3⟩, by show 2 ≤ sizeLine; decide, fun m2 hm2 => ?_⟩
            have u3 := Same.new (o := .lst [.str sPop, .str sPush]) hm2
            refine ⟨_, rfl, 1, rfl, q, rfl, sz, rfl, .inr ⟨_, rfl, m2, _, _, actV q, rfl, rfl, .of upd_same, act_two ca, ?_⟩⟩
            refine ⟨_, rfl, 1, rfl, q, rfl, sz, by show 2 ≤ sizeLine; decide, fun t ht => ?_⟩
            have u4 := Same.new (o := .tup [actV q, .str (restS q)]) ht
            have s24 := s23.trans (u3.trans u4)
            have h4 := s24 _ _ h2
            have hp4 := s24 _ _ hp2
            have t4 := upd_same (H := upd H3 m2 (.lst [.str sPop, .str sPush])) (a := t) (o := .tup [actV q, .str (restS q)])
            have tD : t ≠ D := Ne.symm (ne_of_none (u3 _ _ (s23 _ _ h2)) ht)
            have ll := Paired.length hs
            rw [List.length_take] at ll
            refine ⟨D, us, .ref t, rfl, rfl, h4, by rw [sizeLine_eq]; omega, us ++ [.ref t], _, rfl, upd_same, by rw [upd_ne pD]; exact hp4, ?_, ?_, Same.free2 (s2.trans s24) hD⟩
            · rw [List.take_add_one, hq]
              refine Paired.snoc2 (Paired.mapP hs fun v q z => ?_) ⟨t, rfl, by rw [upd_ne tD]; exact t4⟩
              obtain ⟨t', e', z⟩ := z
              have nt : t' ≠ D := fun q => by rw [q, h2] at z; cases z
              exact ⟨t', e', by rw [upd_ne nt]; exact s24 _ _ z⟩
            · rw [List.take_add_one, hq]
              intro r mr
              rcases List.mem_append.mp mr with mr | mr
              · exact ha r mr
              · have er : r = q := by simpa using mr
                rw [er]
                unfold partS
                rw [ca, ci]
                rfl
          · rw [Bool.eq_false_iff.mpr ci]
            refine iteT (k _ _ (s2.trans (u1.trans s3)) ?_)
            rw [none' (by unfold partS; rw [Bool.eq_false_iff.mpr ci, Bool.and_false])]
            rfl
        · have ca' := Bool.eq_false_iff.mpr ca
          rw [ca']
          refine iteT (iteT (k _ _ (s2.trans u1) ?_))
          rw [none' (by unfold partS; rw [ca', Bool.false_and])]
          rfl
      · rintro σ H2 ⟨us, y2, rfl, h2, hp2, hs, ha, s2⟩
        rw [List.length_map, List.take_length] at hs ha
        refine ⟨_, rfl, k _ _ s2 ?_⟩
        rw [el, if_pos (List.all_eq_true.mpr ha)]
        exact ⟨D, us, rfl, .of h2, Paired.mapP hs fun _ _ ⟨t, e, z⟩ => ⟨t, e, .of z⟩, ha⟩
end
end SE
namespace SE
open PySem PySem.Spec PyProof.Rows L2 TL
theorem digV_val : ∀ (L : List Nat), (∀ c ∈ L, 48 ≤ c) → ((NumText.digitsVal L : Nat) : Int) = digV L := by
  have key : ∀ (L : List Nat) (a : Nat), (∀ c ∈ L, 48 ≤ c) → ((L.foldl (fun acc c => acc * 10 + (c - 48)) a : Nat) : Int) = L.foldl (fun (n : Int) (c : Nat) => 10 * n + ((c : Int) - 48)) (a : Int) := by
    intro L
    induction L with
    | nil => exact fun a _ => rfl
    | cons c r ih =>
      intro a h
      rw [List.foldl_cons, List.foldl_cons, ih _ fun d m => h d (List.mem_cons_of_mem _ m)]
      have := h c List.mem_cons_self
      congr 1
      omega
  exact fun L h => key L 0 h
theorem int_dig {z : Str} (h : ∀ c ∈ tl z, 48 ≤ c ∧ c ≤ 57) (h0 : z ≠ "") (hl : z.length ≤ 200) : intText? z = some (digV (tl z)) := by
  have nz : tl z ≠ [] := fun e => h0 (ext_tl (e.trans (by decide +kernel)))
  have := PySem.intText_digits (x := z) h nz (by omega)
  rw [this, show ((NumText.digitsVal z.cps.toList : Nat) : Int) = digV (tl z) from digV_val (tl z) fun c m => (h c m).1]
section
variable {P : Program} {w : World} {K : PySem.W.Frag} {mg : Str → Option Value} {base : Heap} {C : Addr}
/-! ### _law_effect_of -/
abbrev nLe : List Str := ["_law_text", "_law_parts", "_law_pops", "_law_pushes", "_law_figures", "_law_sign"]
theorem scLEf : FnScope nLe ["_law_text"] (defScope sLawEffectOf) := ⟨rfl, rfl, rfl, by decide +kernel, rfl, by decide +kernel, by decide +kernel⟩
theorem has_lEff (D : Def K mg "_law_effect_of" sLawEffectOf) (T : EC K mg C) (M : Makes P w K mg base C) (GN : NeverHas P w K mg base C) (GW : Has P w K mg base "_law_word_of" 2 ["_law_text"] [] (spWordT K)) (B : Blt mg) (mi : mg "int" = none) (mx : mg "max" = none) : Has P w K mg base "_law_effect_of" 7 ["_law_text"] [] (spEffT K C) := by
  refine has_of D scLEf (fun _ _ _ _ _ _ us hl => match us, hl with | [_], _ => rfl) (fun xs H Q E h => ?_) (fun f cv A out s H xs Q E hr h => ?_)
  · obtain ⟨z, rfl, _⟩ := h
    rfl
  · obtain ⟨z, rfl, hz, hf, k⟩ := h
    have hr2 : Room 2 _ := hr.mono (by decide)
    have hr5 : Room 5 _ := hr.mono (by decide)
    refine ⟨_, pss_cons (ps_set (i := 1) scLEf.nd rfl (.inl rfl) (pe_split (pv 0) pe_str))
      (pss_cons (ps_if (PW.pt (pw_or (pt_cmpR op_eq (pv 0) pe_str (nomark _)) (pw_or (pt_cmpR op_ne (pe_callB call_len_seq (by rfl) B.len PySem.boot_len (pa_cons (pv 1) pa_nil)) pe_int (nomark _)) (pw_or1 (pt_cmpR (op_neD hr.units) (pe_lst (pa_cons (pe_ix ix_list (pv 1) pe_int (fun _ _ => rfl)) (pa_cons (pe_ix ix_list (pv 1) pe_int (fun _ _ => rfl)) pa_nil))) (pe_lst (pa_cons pe_str (pa_cons pe_str pa_nil))) (nomark _))))))
        (pss_one (ps_ret (pe_ifExp (pt_cmpR op_eq (pv 0) pe_str (nomark _)) (pe_never0 GN T.mgE hr) pe_non))) pss_nil)
      (pss_cons (ps_par3 (i := 2) (j := 3) (l := 4) (by rfl) scLEf.nd rfl rfl rfl (by decide) (by decide) (by decide) rfl rfl rfl (pa_cons (pe_has GW hr2 (pa_cons (pe_ix ix_list (pv 1) pe_int (fun _ _ => rfl)) pa_nil)) (pa_cons (pe_has GW hr2 (pa_cons (pe_ix ix_list (pv 1) pe_int (fun _ _ => rfl)) pa_nil)) (pa_cons (pe_ix ix_list (pv 1) pe_int (fun _ _ => rfl)) pa_nil))) (by rfl))
      (pss_cons (ps_if (PW.pt (pw_or (pt_cmpR op_isN (pv 2) pe_non (nomark _)) (pw_or (pt_cmpR op_isN (pv 3) pe_non (nomark _)) (pw_or1 (pt_cmpR op_eq (pv 4) pe_str (nomark _)))))) (pss_one (ps_ret pe_non)) pss_nil)
      (pss_cons (ps_if (pt_cmpR (op_neD hr.units) (pe_lc (own := [("_law_sign", 5)]) (g := gName 5) (te := tVar 5) rfl scLEf.nd (pi_str (pv 4)) (blkOk_by (own := [("_law_sign", 5)]) (N := nLe) (sc := defScope sLawEffectOf) (by decide +kernel))
          (fun _ _ _ _ _ => pg_name (i := 5) scLEf.nd rfl (.inl rfl)) (fun _ _ _ _ _ => pts_one (pt_cmpR op_notIn_sign (pv 5) pe_str (by rfl))) (fun _ _ _ _ _ => pv 5)) (pe_lst pa_nil) (nomark _)) (pss_one (ps_ret pe_non)) pss_nil)
      (pss_cons (ps_if (PW.pt (pw_or (pt_cut (PW.pt (pw_and (pt_cmpR op_gt (pe_callB call_len_str (by rfl) B.len PySem.boot_len (pa_cons (pv 4) pa_nil)) pe_int (nomark _)) (pw_and1 (pt_cmpR op_eq (pe_ix ix_str (pv 4) pe_int (fun _ _ => rfl)) pe_str (nomark _)))))) (pw_or1 (pt_cmpR op_lt (pe_callTy call_int_str (by rfl) mi (by decide +kernel) (pa_cons (pv 4) pa_nil)) (pe_callB (call_max2 rfl) (by rfl) mx (by decide +kernel) (pa_cons pe_int (pa_cons (pe_op op_sub (pe_callB call_len_seq (by rfl) B.len PySem.boot_len (pa_cons (pv 3) pa_nil)) (pe_callB call_len_seq (by rfl) B.len PySem.boot_len (pa_cons (pv 2) pa_nil))) pa_nil))) (nomark _))))) (pss_one (ps_ret pe_non)) pss_nil)
      (pss_one (ps_ret (pe_effK M T.mgE hr5 (pa_cons (pv 2) (pa_cons (pv 3) pa_nil)) (pe_callTy call_int_str (by rfl) mi (by decide +kernel) (pa_cons (pv 4) pa_nil)))))))))), ?_⟩
    have wl := hz.ln
    obtain ⟨g1, g2, g3⟩ := hz.blk
    have hf := hf
    unfold FigS at hf
    have ee : z ≠ "never" → effOf z = effL (Txt.split z sBlk) := fun c => by
      unfold effOf
      rw [if_neg c]
    refine ⟨_, rfl, ⟨_, rfl⟩, z, sBlk, rfl, rfl, (by decide +kernel), by rw [sizeLine_eq]; omega, fun L hL => ?_⟩
    generalize Txt.split z sBlk = ps at g1 g2 g3 ee hf
    have s1 : Same H (upd H L (.lst (ps.map V.str))) := Same.new hL
    have h1 : upd H L (.lst (ps.map V.str)) L = some (.lst (ps.map V.str)) := upd_same
    generalize upd H L (.lst (ps.map V.str)) = H1 at s1 h1
    refine ⟨_, rfl, rfl, _, rfl, ?_⟩
    by_cases c : z = "never"
    · rw [decide_eq_true (by rw [c])]
      refine iteT (iteT ⟨_, rfl, rfl, _, rfl, ?_⟩)
      rw [decide_eq_true (by rw [c])]
      refine iteT ⟨rfl, rfl, fun e H' s' he => k _ H' (s1.trans s') ?_⟩
      unfold effOf
      rw [if_pos c]
      exact ⟨e, rfl, he, trivial⟩
    have nv : decide (V.str z = V.str (Str.ofString "never")) = false := decide_eq_false (fun e => c (V.str.inj e))
    replace ee := ee c
    rw [nv]
    refine iteF ⟨_, rfl, L, _, rfl, .inl (.of h1), rfl, _, rfl, ?_⟩
    rw [List.length_map]
    match ps, ee with
    | [], ee => refine iteT (iteT ⟨_, rfl, rfl, _, rfl, ?_⟩); rw [nv]; exact iteF (k _ H1 s1 (by rw [ee]; rfl))
    | [_], ee => refine iteT (iteT ⟨_, rfl, rfl, _, rfl, ?_⟩); rw [nv]; exact iteF (k _ H1 s1 (by rw [ee]; rfl))
    | [_, _], ee => refine iteT (iteT ⟨_, rfl, rfl, _, rfl, ?_⟩); rw [nv]; exact iteF (k _ H1 s1 (by rw [ee]; rfl))
    | [_, _, _], ee => refine iteT (iteT ⟨_, rfl, rfl, _, rfl, ?_⟩); rw [nv]; exact iteF (k _ H1 s1 (by rw [ee]; rfl))
    | [_, _, _, _], ee => refine iteT (iteT ⟨_, rfl, rfl, _, rfl, ?_⟩); rw [nv]; exact iteF (k _ H1 s1 (by rw [ee]; rfl))
    | a0 :: a1 :: a2 :: a3 :: a4 :: a5 :: r, ee =>
      rw [show (!decide (V.int (((a0 :: a1 :: a2 :: a3 :: a4 :: a5 :: r).length : Nat) : Int) = V.int 5)) = true from by
        rw [decide_eq_false (fun e => by
          have e := V.int.inj e
          simp only [List.length_cons] at e
          omega)]
        rfl]
      refine iteT (iteT ⟨_, rfl, rfl, _, rfl, ?_⟩)
      rw [nv]
      exact iteF (k _ H1 s1 (by rw [ee]; rfl))
    | [p0, p1, p2, p3, p4], ee =>
    have t0 := g1 p0 (by simp)
    have t1 := g1 p1 (by simp)
    have t2 := g1 p2 (by simp)
    have t3 := g1 p3 (by simp)
    have t4 := g1 p4 (by simp)
    have f4 := hf p4 (by simp)
    refine iteNS rfl ⟨_, rfl, L, _, 1, _, rfl, rfl, .of h1, atI_nat (j := 1) rfl, _, rfl, L, _, 3, _, rfl, rfl, .of h1, atI_nat (j := 3) rfl, by show 2 ≤ sizeLine; decide, fun m1 hm1 => ⟨by show 2 ≤ sizeLine; decide, fun m2 hm2 => ?_⟩⟩
    have u1 := Same.new (o := .lst [.str p1, .str p3]) hm1
    have k1 := upd_same (H := H1) (a := m1) (o := .lst [.str p1, .str p3])
    have u2 := Same.new (o := .lst [.str ">", .str "^"]) hm2
    have nn : ∀ d ∈ [p1, p3].map PyData.str, Nice 0 200 d := fun d md => by
      rcases List.mem_cons.mp md with rfl | md
      · exact nice_str (okA_mem.mp t1.ok) t1.ln
      · rcases List.mem_cons.mp md with rfl | md
        · exact nice_str (okA_mem.mp t3.ok) t3.ln
        · cases md
    refine ⟨.list ([p1, p3].map PyData.str), .list (([">", "^"] : List Str).map PyData.str), .lst (.of (u2 _ _ k1)) (dp_strsT [p1, p3]), .lst (.of upd_same) (dp_strsT [">", "^"]), (nice_list nn).shaped (by decide), by decide +kernel, _, rfl, ?_⟩
    rw [eqv_listS]
    have s2 := s1.trans (u1.trans u2)
    have h2 := (u1.trans u2) _ _ h1
    generalize upd (upd H1 m1 (.lst [.str p1, .str p3])) m2 (.lst [.str ">", .str "^"]) = H2 at s2 h2
    by_cases q : [p1, p3] = ([">", "^"] : List Str)
    · rw [decide_eq_true q]
      refine iteF ?_
      have q1 : p1 = ">" := (List.cons.inj q).1
      have q3 : p3 = "^" := (List.cons.inj (List.cons.inj q).2).1
      have ee : effOf z = eff5 p0 p2 p4 := by
        rw [ee]
        show (if p1 = ">" ∧ p3 = "^" then eff5 p0 p2 p4 else none) = _
        rw [if_pos ⟨q1, q3⟩]
      refine ⟨_, rfl, L, _, 0, _, rfl, rfl, .of h2, atI_nat (j := 0) rfl, p0, rfl, t0, fun v0 H3 s3 w0 => ?_⟩
      refine ⟨_, rfl, L, _, 2, _, rfl, rfl, .of (s3 _ _ h2), atI_nat (j := 2) rfl, p2, rfl, t2, fun v2 H4 s4 w2 => ?_⟩
      refine ⟨_, rfl, L, _, 4, _, rfl, rfl, .of (s4 _ _ (s3 _ _ h2)), atI_nat (j := 4) rfl, ?_⟩
      have w0 := w0.same s4
      have S4 := (s2.trans s3).trans s4
      refine ⟨_, _, _, rfl, ?_⟩
      unfold eff5 at ee
      cases e0 : wordOf p0 with
      | none =>
        rw [e0] at w0 ee
        obtain rfl : v0 = .non := w0
        exact ⟨_, rfl, rfl, true, rfl, iteT (iteT (k _ H4 S4 (by rw [ee]; rfl)))⟩
      | some xs =>
      rw [e0] at w0 ee
      obtain ⟨a, rfl, ha⟩ := w0
      obtain ⟨i1, l1⟩ := wordOf_ok t0 e0
      refine ⟨_, rfl, rfl, false, rfl, iteF ⟨_, rfl, rfl, ?_⟩⟩
      cases e2 : wordOf p2 with
      | none =>
        rw [e2] at w2 ee
        obtain rfl : v2 = .non := w2
        exact ⟨true, rfl, iteT (iteT (k _ H4 S4 (by rw [ee]; rfl)))⟩
      | some ys =>
      rw [e2] at w2 ee
      obtain ⟨b', rfl, hb⟩ := w2
      obtain ⟨i2, l2⟩ := wordOf_ok t2 e2
      refine ⟨false, rfl, iteF ⟨_, rfl, rfl, _, rfl, ?_⟩⟩
      by_cases e40 : p4 = ""
      · rw [decide_eq_true (by rw [e40])]
        refine iteT (k _ H4 S4 ?_)
        have e4 : numOf p4 = none := by
          unfold numOf
          rw [if_pos e40]
        rw [e4] at ee
        rw [ee]
        rfl
      rw [decide_eq_false (fun e => e40 (V.str.inj e))]
      have n0 : numOf p4 = if (tl p4).all digB = true then (if leadB p4 = true then none else some (digV (tl p4))) else none := by
        unfold numOf
        rw [if_neg e40]
      refine iteF ⟨_, rfl, p4, rfl, fun D hD => lc_it walk_str (fun j H5 => H5 D = some (.lst ((((tl p4).take j).filter fun c => !digB c).map fun c => V.str ⟨#[c]⟩)) ∧ Same H4 H5) ⟨upd_same, Same.new hD⟩ (fun _ _ _ _ => trivial) ?_ ?_⟩
      · rintro j x H5 H6 hj ⟨h5, s5⟩ ⟨rfl, cc, hcc, rfl⟩
        have qc : (tl p4)[j]? = some cc := by
          show p4.cps.toList[j]? = some cc
          rw [Array.getElem?_toList]
          exact hcc
        refine ⟨rfl, _, rfl, cc, sDigits, rfl, rfl, _, rfl, ?_⟩
        have tk : (tl p4).take (j + 1) = (tl p4).take j ++ [cc] := by
          rw [List.take_add_one, qc]
          rfl
        by_cases m : digB cc = true
        · rw [show (!decide (cc ∈ sDigits.cps.toList)) = false from by
            rw [show decide (cc ∈ sDigits.cps.toList) = true from m]; rfl]
          refine iteF ⟨?_, s5⟩
          rw [tk, List.filter_append, List.filter_cons_of_neg (by simp [m]), List.filter_nil, List.append_nil]
          exact h5
        · have m' := Bool.eq_false_iff.mpr m
          rw [show (!decide (cc ∈ sDigits.cps.toList)) = true from by
            rw [show decide (cc ∈ sDigits.cps.toList) = false from m']; rfl]
          refine iteT ⟨_, rfl, _, h5, ?_, ?_, Same.free2 s5 hD⟩
          · rw [List.length_map, sizeLine_eq]
            have z1 := List.length_filter_le (fun c => !digB c) ((tl p4).take j)
            rw [List.length_take] at z1
            have z2 : (tl p4).length ≤ 200 := by rw [← len_tl]; exact t4.ln
            omega
          · rw [upd_same, tk, List.filter_append, List.filter_cons_of_pos (by simp [m']), List.filter_nil, List.map_append]
            rfl
      · rintro H5 ⟨h5, s5⟩
        rw [List.take_of_length_le (by simp [TL.tl])] at h5
        have h5 : H5 D = some (.lst ((((tl p4).filter fun c => !digB c).map fun c => (⟨#[c]⟩ : Str)).map V.str)) := by
          rw [h5, List.map_map]
          rfl
        have nn : ∀ d ∈ (((tl p4).filter fun c => !digB c).map fun c => (⟨#[c]⟩ : Str)).map PyData.str, Nice 0 8 d := fun d md => by
          obtain ⟨y, my, rfl⟩ := List.mem_map.mp md
          obtain ⟨cc, mc, rfl⟩ := List.mem_map.mp my
          refine nice_str (fun c2 m2 => ?_) (by show 1 ≤ 8; decide)
          have : c2 = cc := by simpa using m2
          rw [this]
          exact okA_mem.mp t4.ok cc (List.mem_filter.mp mc).1
        refine ⟨Nat.zero_le _, fun M hM => ⟨.list ((((tl p4).filter fun c => !digB c).map fun c => (⟨#[c]⟩ : Str)).map PyData.str), .list (([] : List Str).map PyData.str), .lst (.of (by rw [upd_ne (ne_of_none h5 hM)]; exact h5)) (dp_strsT _), .lst (.of upd_same) .nil, (nice_list nn).shaped (by decide), by decide, _, rfl, ?_⟩⟩
        rw [eqv_listS]
        have e4 : decide (((tl p4).filter fun c => !digB c).map (fun c => (⟨#[c]⟩ : Str)) = []) = (tl p4).all digB := by
          rw [← none_left digB (tl p4)]
          exact decide_eq_decide.mpr List.map_eq_nil_iff
        rw [e4]
        have s6 := s5.trans (Same.new (o := .lst []) hM)
        generalize upd H5 M (.lst []) = H6 at s6
        have ha := Same.tup s6 ha
        have hb := Same.tup s6 hb
        have S6 := S4.trans s6
        by_cases ea : (tl p4).all digB = true
        · rw [ea]
          refine iteF ?_
          have alld : ∀ c ∈ tl p4, 48 ≤ c ∧ c ≤ 57 := fun c m => (digB_iff c).mp (List.all_eq_true.mp ea c m)
          have nz : tl p4 ≠ [] := fun e => e40 (ext_tl (e.trans (by decide +kernel)))
          obtain ⟨c0, r0, hc0⟩ : ∃ c r, tl p4 = c :: r := by
            cases e : tl p4 with
            | nil => exact absurd e nz
            | cons c r => exact ⟨c, r, rfl⟩
          have hc1 : (tl p4)[0]? = some c0 := by rw [hc0]; rfl
          have len4 : p4.length = r0.length + 1 := by rw [len_tl, hc0]; rfl
          have l4 := t4.ln
          have lead : leadB p4 = (decide (c0 = 48) && decide (1 < p4.length)) := by
            unfold leadB
            rw [hc1]
            by_cases q0 : c0 = 48
            · rw [decide_eq_true (by rw [q0]), decide_eq_true q0, Bool.true_and, Bool.true_and]
              by_cases q1 : p4 = "0"
              · rw [decide_eq_true q1, q1]
                decide +kernel
              · rw [decide_eq_false q1]
                have : 1 < p4.length := by
                  rw [len4]
                  rcases r0 with _ | ⟨c1, r1⟩
                  · exact absurd (ext_tl (by rw [hc0, q0]; decide +kernel)) q1
                  · simp
                rw [decide_eq_true this]
                rfl
            · rw [decide_eq_false (fun e => q0 (Option.some.inj e)), decide_eq_false q0, Bool.false_and, Bool.false_and]
          refine ⟨fun b H7 => H7 = H6 ∧ b = leadB p4, ?_, ?_⟩
          · refine ⟨_, rfl, p4, rfl, by rw [sizeLine_eq]; omega, _, 1, rfl, rfl, _, rfl, ?_⟩
            by_cases q1 : 1 < p4.length
            · rw [decide_eq_true (show (p4.length : Int) > 1 by omega)]
              refine iteT ⟨_, rfl, p4, 0, c0, rfl, rfl, by rw [sizeLine_eq]; omega, atI_nat (j := 0) hc1, rfl, _, rfl, rfl, ?_⟩
              rw [lead, decide_eq_true q1, Bool.and_true]
              by_cases q0 : c0 = 48
              · rw [decide_eq_true (by rw [zero_iff.mpr q0]), decide_eq_true q0]
              · rw [decide_eq_false (fun e => q0 (zero_iff.mp (V.str.inj e))), decide_eq_false q0]
            · rw [decide_eq_false (show ¬ (p4.length : Int) > 1 by omega)]
              refine iteF ⟨rfl, ?_⟩
              rw [lead, decide_eq_false q1, Bool.and_false]
          rintro b H7 ⟨rfl, rfl⟩
          by_cases lb : leadB p4 = true
          · rw [lb]
            refine iteT (iteT (k _ H7 S6 ?_))
            have e4 : numOf p4 = none := by rw [n0, if_pos ea, if_pos lb]
            rw [e4] at ee
            rw [ee]
            rfl
          rw [Bool.eq_false_iff.mpr lb]
          have e4 : numOf p4 = some (digV (tl p4)) := by rw [n0, if_pos ea, if_neg lb]
          have hint := int_dig alld e40 l4
          obtain ⟨_, _, _, _, n00⟩ := numOf_ok e4
          have n1 := f4 _ e4
          rw [e4] at ee
          generalize digV (tl p4) = n at hint e4 n00 n1 ee
          dsimp only at ee
          refine iteF ⟨_, rfl, p4, n, rfl, hint, by omega, _, rfl, b', _, rfl, .inr hb, _, rfl, a, _, rfl, .inr ha, _, _, rfl, rfl, 0, _, rfl, n, _, rfl, rfl, _, rfl, ?_⟩
          have el : (if (((ys.map V.str).length : Nat) : Int) - (((xs.map V.str).length : Nat) : Int) > 0 then (((ys.map V.str).length : Nat) : Int) - (((xs.map V.str).length : Nat) : Int) else 0) = lp xs ys := by
            rw [List.length_map, List.length_map]
            rfl
          rw [el]
          by_cases cl : n < lp xs ys
          · rw [decide_eq_true cl]
            rw [if_pos cl] at ee
            exact iteT (k _ H7 S6 (by rw [ee]; rfl))
          · rw [decide_eq_false cl]
            rw [if_neg cl] at ee
            refine iteF ⟨_, rfl, _, rfl, _, rfl, p4, n, rfl, hint, by omega, a, b', xs, ys, some n, rfl, rfl, ha, hb, by omega, by omega, i1, i2, fun q e => ?_, fun e H8 s8 n8 hE => k _ H8 (S6.trans s8) ?_⟩
            · cases e
              omega
            · rw [ee]
              exact ⟨e, rfl, hE, i1, i2, by omega, by omega, n00, n1⟩
        · rw [Bool.eq_false_iff.mpr ea]
          refine iteT (k _ H6 S6 ?_)
          have e4 : numOf p4 = none := by rw [n0, if_neg ea]
          rw [e4] at ee
          rw [ee]
          rfl
    · rw [decide_eq_false q]
      refine iteT ⟨_, rfl, rfl, _, rfl, ?_⟩
      rw [nv]
      refine iteF (k _ H2 s2 ?_)
      rw [ee]
      show EffR K C H2 _ (if p1 = ">" ∧ p3 = "^" then eff5 p0 p2 p4 else none)
      rw [if_neg (fun r => q (by rw [r.1, r.2]))]
      rfl
end
end SE
/-! repr of lists that hold objects with an own __repr__, texts, numbers, tuples and further lists. -/
namespace SE
open PySem PySem.Spec PyProof.Rows L2
/-! ### data without lists: what its repr asks of stands in tuples -/
mutual
def noLst : PyData → Bool
  | .none | .bool _ | .int _ | .str _ => true
  | .tuple xs => noLstAll xs
  | .list _ | .dict _ => false
def noLstAll : List PyData → Bool
  | [] => true
  | x :: xs => noLst x && noLstAll xs
end
def TupsAt (h : Heap) (bs : List Addr) : Prop := ∀ b ∈ bs, ∃ o, h.get? b = some o ∧ o.cls = .type "tuple"
section
variable {prog : Program} {w : World} {h₀ : Heap}
mutual
theorem reprK_t : ∀ {v : Value} {d : PyData} {as : List Addr}, Reads h₀ v d as → d.showable = true → noLst d = true → d.shown.length ≤ sizeLine → ∃ bs, ReadAtMost h₀ d.depth bs ∧ TupsAt h₀ bs ∧ ReprK prog w bs h₀ d.depth v d.shown
  | _, _, _, .none, _, _, _ => ⟨[], (fun _ h => nomatch h), (fun _ h => nomatch h), by simp only [PyData.shown]; exact .of_is ReprIs.none _ _ _⟩
  | _, _, _, .bool b, _, _, _ => ⟨[], (fun _ h => nomatch h), (fun _ h => nomatch h), by simp only [PyData.shown]; exact .of_is (ReprIs.bool b) _ _ _⟩
  | _, _, _, .int i t, hs, _, _ => ⟨[], (fun _ h => nomatch h), (fun _ h => nomatch h), by simp only [PyData.shown]; exact .of_is (ReprIs.int t (by simpa [PyData.showable] using hs)) _ _ _⟩
  | _, _, _, .str x t, _, _, hz => ⟨[], (fun _ h => nomatch h), (fun _ h => nomatch h), by simp only [PyData.shown]; exact .of_is (ReprIs.str x t (by simpa only [PyData.shown] using hz)) _ _ _⟩
  | _, _, _, .list _ _ _ _, _, hn, _ => by simp [noLst] at hn
  | _, _, _, .tuple (a := a) (xs := xs) h1 h2 h3 h4, hs, hn, hz => by
    have hz' : (tupleText (PyData.shownAll xs)).length ≤ sizeLine := by simpa only [PyData.shown] using hz
    obtain ⟨bs, hb, ht, hk⟩ := reprAll_t h4 (by simpa [PyData.showable] using hs) (by simpa [noLst] using hn) (fun t ht => Nat.le_trans (tupleText_mem_le ht) hz')
    have r : Reads h₀ (.ref a) (.tuple xs) _ := .tuple h1 h2 h3 h4
    have hna : a ∉ bs := not_mem_of_deeper r (by simp only [PyData.depth]; omega) hb
    refine ⟨a :: bs, ReadAtMost.cons r (by simp only [PyData.depth]; omega) hb, fun b m => ?_, ?_⟩
    · rcases List.mem_cons.mp m with e | m
      · exact e ▸ ⟨_, h1, h2⟩
      · exact ht b m
    · simp only [PyData.depth, PyData.shown]
      exact ReprK.tuple h1 h2 h3 hna hk
  | _, _, _, .dict _ _ _ _ _, _, hn, _ => by simp [noLst] at hn
theorem reprAll_t : ∀ {vs : List Value} {ds : List PyData} {as : List Addr}, ReadsAll h₀ vs ds as → PyData.showableAll ds = true → noLstAll ds = true → (∀ t ∈ PyData.shownAll ds, t.length ≤ sizeLine) →
    ∃ bs, ReadAtMost h₀ (PyData.depthAll ds) bs ∧ TupsAt h₀ bs ∧ ReprAllK prog w bs h₀ (PyData.depthAll ds) vs (PyData.shownAll ds)
  | _, _, _, .nil, _, _, _ => ⟨[], (fun _ h => nomatch h), (fun _ h => nomatch h), by simp only [PyData.shownAll]; exact .nil⟩
  | _, _, _, .cons (d := d) (ds := ds) r rs, hs, hn, hz => by
    have hs' : d.showable = true ∧ PyData.showableAll ds = true := by simpa [PyData.showableAll] using hs
    have hn' : noLst d = true ∧ noLstAll ds = true := by simpa [noLstAll] using hn
    obtain ⟨b1, hb1, t1, k1⟩ := reprK_t r hs'.1 hn'.1 (hz _ (by simp only [PyData.shownAll]; exact List.mem_cons_self ..))
    obtain ⟨b2, hb2, t2, k2⟩ := reprAll_t rs hs'.2 hn'.2 (fun t ht => hz t (by simp only [PyData.shownAll]; exact List.mem_cons_of_mem _ ht))
    refine ⟨b1 ++ b2, ?_, fun b m => ?_, ?_⟩
    · simp only [PyData.depthAll]
      exact (hb1.mono (Nat.le_max_left _ _)).append (hb2.mono (Nat.le_max_right _ _))
    · rcases List.mem_append.mp m with m | m
      · exact t1 b m
      · exact t2 b m
    · simp only [PyData.depthAll, PyData.shownAll]
      exact .cons ((k1.more fun b hb => List.mem_append_left _ hb).level_le (Nat.le_max_left _ _)) (k2.more_le (fun b hb => List.mem_append_right _ hb) (Nat.le_max_right _ _))
end
end
/-! ### a value's repr while the reprs g are under way -/
def EnvTo (X : Cx) (A : Around) : Prop := ∀ (s : Shared) (H : Hp), Env0 X.prog X.w X.K X.mg X.base X.A X.stack s H → Env0 X.prog X.w X.K X.mg X.base A X.stack s H
structure RU (X : Cx) (g : List Code) (n : Nat) (v : V) (t : Str) (H : Hp) : Prop where
  run : ∀ {A : Around} {pins : List (Addr × Obj)} {σ : L2.St} {H' : Hp} {s : Shared} {u : Value} {b : Nat} {E : Value → Shared → Prop} {Q : Str → Shared → Prop}, A.guards = some g → Room n A → EnvTo X A → Same H H' → Inv X pins σ H' s → RelV v u → b + t.length ≤ sizeLine →
    (∀ H'' s', Same H' H'' → Inv X pins σ H'' s' → Q t s') → wpAny (model X.prog X.w) A (pyReprUnder b u) Q E s
section
variable {X : Cx} {g : List Code} {n : Nat} {H : Hp}
theorem RU.mono {v : V} {t : Str} {m : Nat} (h : RU X g n v t H) (hm : n ≤ m) : RU X g m v t H := ⟨fun hg hr he s I r hb k => h.run hg (hr.mono hm) he s I r hb k⟩
theorem RU.same {v : V} {t : Str} {H1 : Hp} (h : RU X g n v t H) (s1 : Same H H1) : RU X g n v t H1 := ⟨fun hg hr he s I r hb k => h.run hg hr he (Same.trans s1 s) I r hb k⟩
theorem GuL.same {H' : Hp} (h : GuL g H) (s : Same H H') : GuL g H' := fun id v rest kw m => by
  obtain ⟨L, us, e, hL⟩ := h id v rest kw m
  exact ⟨L, us, e, s _ _ hL⟩
theorem GuL.nil : GuL [] H := fun _ _ _ _ m => by cases m
theorem GuL.cons {id : String} {L : Addr} {us : List V} {rest : List Value} {kw : List (Str × Value)} (h : GuL g H) (hL : H L = some (.lst us)) : GuL (.builtin id ⟨.ref L :: rest, kw⟩ :: g) H := fun id' v rest' kw' m => by
  rcases List.mem_cons.mp m with e | m
  · cases e
    exact ⟨L, us, rfl, hL⟩
  · exact h _ _ _ _ m
/-- data without lists -/
theorem ru_dp {v : V} {d : PyData} (hD : ∀ H', Same H H' → Dp X.K H' v d) (hs : d.showable = true) (hn : noLst d = true) (hdep : d.depth ≤ 20) (hG : GuL g H) : RU X g n v d.shown H := by
  constructor
  intro A pins σ H' s u b E Q hg hr he sm I r hb k
  obtain ⟨as, rd⟩ := Dp.reads I d v u (hD H' sm) r
  obtain ⟨bs, _, ht, hk⟩ := reprK_t (prog := X.prog) (w := X.w) rd hs hn (by omega)
  have un := hr.un
  refine hk b hb A g E s Q hg (fun c hc => ?_) (by omega) (fun _ _ z => z) (fun h' tk keep => k H' _ (fun _ _ z => z) (I.kept (t' := tk) keep))
  obtain ⟨o, ho, oc⟩ := ht c hc
  intro id v rest kw hm
  obtain ⟨L, us, rfl, hL⟩ := (hG.same sm) id v rest kw hm
  intro e
  cases e
  obtain ⟨_, _, _, _, _, eL⟩ := I.lstM hL
  rw [ho] at eL
  cases eL
  simp at oc
/-- an object with an own __repr__ -/
theorem ru_own {C f e : Addr} {fd : FuncData} {sp : List Code → Sp} {t : Str} (F : GOkG X.prog X.w X.K X.mg X.base g n f fd ["self"] (sp g)) (hs : PySem.W.findIn X.K (.ref C) "__repr__" = some (some (.ref f))) (hf : PySem.W.isFn X.K (.ref f) = true) (hb : Binds X.K fd ["self"] [])
    (hi : ∃ dx fs, H e = some (.ins C dx fs)) (hsp : ∀ H', Same H H' → sp g [.ref e] H' (fun v H'' => v = .str t ∧ Same H' H'') (fun _ _ _ => False)) : RU X g n (.ref e) t H := by
  constructor
  intro A pins σ H' s u b E Q hg hr he sm I r hb2 k
  cases r
  obtain ⟨dx, fs, hi⟩ := hi
  obtain ⟨mA, J, _⟩ := ins_get I.hok (sm _ _ hi)
  obtain ⟨od, J, _⟩ := J.look
  refine wpAny_pyReprUnder_ref (by omega) (under_own hr.units0 I.kIn J hs hf ?_)
  refine wpAny_call (codeAny_mono (F.run A X.stack s H' ⟨[.ref e], []⟩ [.ref e] [.ref e] _ _ hg hr (he _ _ I.env0) (by simpa using hb s [.ref e] I.kIn rfl) (.cons rfl .nil) (hsp H' sm)) fun r s2 hq => ?_)
  cases r with
  | error e => exact hq.elim
  | ok fl =>
    cases fl with
    | next => exact hq.elim
    | brk => exact hq.elim
    | cont => exact hq.elim
    | ret z =>
      obtain ⟨y, H2, I2, rz, ey, eH⟩ := I.after hq
      subst ey
      obtain ⟨tk, rfl⟩ := rz
      exact ⟨t, tk, rfl, t, tk, rfl, k H2 s2 eH I2⟩
open Builtin Builtin.List in
theorem ru_loop {A : Around} {pins : List (Addr × Obj)} {σ : L2.St} {R : Result → Shared → Prop} {L P : Addr} {vs : List V} {ts : List Str} {base : Nat} (hg : A.guards = some g) (hr : Room (n + 1) A) (he : EnvTo X A) (hLP : L ≠ P) (hL : H L = some (.lst vs)) (hP : H P = none) (hlen : vs.length = ts.length)
    (hsz : base + (listText ts).length ≤ sizeLine) (hT : ∀ (i : Nat) (v : V), vs[i]? = some v → ∃ t, ts[i]? = some t ∧ ∀ rest, RU X (.builtin "list.__repr__.loop" ⟨.ref L :: rest, []⟩ :: g) n v t H)
    (hR : ∀ H' u s', Same H H' → Inv X pins σ H' s' → R (.ok (.ret (.str (listText ts) u))) s') :
    ∀ (k i : Nat) (s : Shared) (Hc : Hp), vs.length - i = k → i ≤ vs.length → Same H Hc → Hc P = some (.lst ((ts.take i).map V.str)) → Inv X pins σ Hc s →
    codeAny (model X.prog X.w) A (.builtin "list.__repr__.loop" ⟨[.ref L, rawInt i, .ref P, rawInt ((base + piled (ts.take i) : Nat) : Int)], []⟩) R s := by
  have hX : (listText ts).length = (textFrom 0 "[" ts).length + 1 := by
    show (textFrom 0 "[" ts ++ "]").length = _
    rw [strLen_append]; rfl
  have hLn := textFrom_len ts 0 "["
  have hsz1 : vs.length ≤ sizeLine := by
    have h1 := hLn.1
    rw [if_neg (Nat.lt_irrefl 0)] at h1
    omega
  have hsz2 : ∀ t ∈ ts, t.length ≤ sizeLine := fun t ht => by
    have h2 := hLn.2.1 t ht
    omega
  have hp3 := piled_le_listText ts
  have hsz3 : (listText ts).length ≤ sizeLine := by omega
  intro k
  induction k with
  | zero =>
    intro i s Hc hk hi sm hPc I
    have hin : i = vs.length := by omega
    obtain ⟨_, its, nL, rL, lL, eL⟩ := I.lstM (sm _ _ hL)
    obtain ⟨_, itp, nP, rP, lP, eP⟩ := I.lstM hPc
    obtain ⟨done, rfl, hdone⟩ := vals_strs rP
    refine codeAny_builtin PySem.F.entry_list_repr_loop ?_
    show wpAny _ _ («list.__repr__.loop» ⟨[.ref L, .int i 0, .ref P, .int ((base + piled (ts.take i) : Nat) : Int) 0], []⟩) _ _ s
    rw [repr_loop_tree]
    refine wpAny_bind (wpAny_listItems eL rfl ?_)
    have hnone : its.toArray[(i : Int).toNat]? = none := by
      simp only [Int.toNat_natCast, List.getElem?_toArray]
      exact List.getElem?_eq_none (by omega)
    simp only [hnone]
    unfold reprEnd
    refine wpAny_bind (wpAny_listItems eP rfl ?_)
    rw [show (strValues done).toArray.toList = strValues done from List.toList_toArray .., repr_fold]
    refine wpAny_bind (wpAny_pure ?_)
    have hall : done.map (·.1) = ts := by rw [hdone, hin, hlen, List.take_length]
    rw [hall]
    refine wpAny_bind (wpAny_mkStr (wpAny_pure ?_) hsz3)
    exact hR Hc _ _ sm (I.tok _)
  | succ k ih =>
    intro i s Hc hk hi sm hPc I
    have hlt : i < vs.length := by omega
    obtain ⟨_, its, nL, rL, lL, eL⟩ := I.lstM (sm _ _ hL)
    obtain ⟨t, ht, hru⟩ := hT i vs[i] (by simp [hlt])
    obtain ⟨u, hu, ru⟩ := rL.get (i := i) (x := vs[i]) (by simp [hlt])
    have hp1 := piled_take_succ ht
    have hp2 := piled_take_le ts (i + 1)
    refine codeAny_builtin PySem.F.entry_list_repr_loop ?_
    show wpAny _ _ («list.__repr__.loop» ⟨[.ref L, .int i 0, .ref P, .int ((base + piled (ts.take i) : Nat) : Int) 0], []⟩) _ _ s
    rw [repr_loop_tree]
    refine wpAny_bind (wpAny_listItems eL rfl ?_)
    have hsome : its.toArray[(i : Int).toNat]? = some u := by simpa using hu
    simp only [hsome]
    rw [Int.toNat_natCast]
    refine wpAny_bind (wpAny_holding ((hru _).run (guards_under_guard (isGuard_list_loop _) hg) (Room.loop hr _) (fun s' H' e => Env0.loop (he s' H' e) _) sm I ru (by omega) fun H2 s2 sm2 I2 => ?_))
    refine wpAny_bind (wpAny_mkStr ?_ (hsz2 t (List.mem_of_getElem? ht)))
    refine wpAny_bind ?_
    show wpAny _ _ (updateSeq P _) _ _ _
    have I3 := I2.tok (s2.toks + 1)
    have hP2 := sm2 _ _ hPc
    obtain ⟨zP, itp, nP, rP, lP, eP⟩ := I3.lstM hP2
    have lt : ((ts.take i).map V.str).length ≤ i := by rw [List.length_map, List.length_take]; omega
    have hasz : itp.toArray.size ≤ sizeLine := by rw [List.size_toArray]; omega
    refine wpAny_updateSeq eP rfl (wpAny_pure ⟨PySem.F.quiet_list_repr_loop _, ?_⟩) hasz
    have e1 : ((i : Int) + 1) = ((i + 1 : Nat) : Int) := by omega
    have e2 : base + piled (ts.take i) + (t.length + 2) = base + piled (ts.take (i + 1)) := by omega
    rw [e1, e2]
    have ev : (ts.take (i + 1)).map V.str = (ts.take i).map V.str ++ [V.str t] := by
      rw [List.take_add_one, ht, List.map_append]
      rfl
    have I4 := I3.lset (its' := itp ++ [.str t s2.toks]) (f := fun x => x.push (.str t s2.toks)) (ys := (ts.take (i + 1)).map V.str) (t' := s2.toks + 1) hP2 eP (by simp) (by rw [ev]; exact rP.append (.cons ⟨_, rfl⟩ .nil)) (by rw [List.length_map, List.length_take]; omega)
    exact ih (i + 1) _ _ (by omega) hlt (Same.free2 (Same.trans sm sm2) hP) upd_same I4
open Builtin Builtin.List in
theorem listAt {A : Around} {pins : List (Addr × Obj)} {σ : L2.St} {R : Result → Shared → Prop} {L : Addr} {v : V} {vs : List V} {ts : List Str} {base : Nat} {s : Shared} (hg : A.guards = some g) (hr : Room (n + 1) A) (he : EnvTo X A) (hL : H L = some (.lst (v :: vs))) (hc : Clear g L) (hlen : (v :: vs).length = ts.length)
    (hsz : base + (listText ts).length ≤ sizeLine) (hT : ∀ (i : Nat) (y : V), (v :: vs)[i]? = some y → ∃ t, ts[i]? = some t ∧ ∀ rest, RU X (.builtin "list.__repr__.loop" ⟨.ref L :: rest, []⟩ :: g) n y t H) (I : Inv X pins σ H s)
    (hR : ∀ H' u s', Same H H' → Inv X pins σ H' s' → R (.ok (.ret (.str (listText ts) u))) s') :
    wpAny (model X.prog X.w) A.in1 (Builtin.listReprAt base ⟨[.ref L], []⟩) (fun fin s' => match fin with | .done f => R (.ok f) s' | .again c' => c'.quiet = true ∧ codeAny (model X.prog X.w) A c' R s') (fun e s' => R (.error e) s') s := by
  obtain ⟨_, its, nL, rL, lL, eL⟩ := I.lstM hL
  cases its with
  | nil => simp at lL
  | cons u us =>
    refine wpAny_list_repr_head (A := A.in1) hg (fun v rest kw hm => listSameRef_of_ne (hc _ _ _ _ hm)) eL rfl ?_
    refine wpAny_bind (m := newList []) (wpAny_newObj_type ?_)
    refine wpAny_pure ⟨PySem.F.quiet_list_repr_loop _, ?_⟩
    have hP : H s.heap.objs.size = none := I.hok.fresh (Nat.le_refl _)
    have I1 : Inv X pins σ (upd H s.heap.objs.size (.lst [])) { s with heap := s.heap.push ({ cls := .type "list", data := .seq #[] } : Obj) } := I.laid (t' := s.toks) (fun b u q => Heap.get?_push_of_some _ q) (Nat.le_refl _) ⟨Nat.zero_le _, [], 0, .nil, Heap.get?_push_size _ rfl⟩
    have hLP : L ≠ s.heap.objs.size := fun z => by rw [z, hP] at hL; cases hL
    exact ru_loop hg hr he hLP hL hP hlen hsz hT hR _ 0 _ _ rfl (Nat.zero_le _) (Same.new hP) upd_same I1
theorem ru_list {L : Addr} {vs : List V} {ts : List Str} (hL : H L = some (.lst vs)) (hc : Clear g L) (hlen : vs.length = ts.length)
    (hT : ∀ (i : Nat) (y : V), vs[i]? = some y → ∃ t, ts[i]? = some t ∧ ∀ rest, RU X (.builtin "list.__repr__.loop" ⟨.ref L :: rest, []⟩ :: g) n y t H) : RU X g (n + 1) (.ref L) (listText ts) H := by
  constructor
  intro A pins σ H' s u b E Q hg hr he sm I r hb k
  cases r
  have hL' := sm _ _ hL
  obtain ⟨_, its, nL, rL, lL, eL⟩ := I.lstM hL'
  cases vs with
  | nil =>
    cases ts with
    | cons t ts => simp at hlen
    | nil =>
      cases its with
      | cons u us => simp at lL
      | nil =>
        rw [listText_nil] at k
        exact wpAny_pyReprUnder_ref (by omega) (wpAny_pyReprObjUnder_list_empty ⟨_, eL, rfl⟩ hr.units0 eL rfl ⟨_, _, rfl, k H' _ (fun _ _ z => z) (I.tok _)⟩)
  | cons v vs =>
    refine wpAny_pyReprUnder_ref (by omega) (wpAny_pyReprObjUnder_twin (twin := "list.__repr__.under") ⟨_, eL, rfl⟩ PySem.F.slot_list_repr.toG rfl hr.units0 ?_)
    refine call_twin_plain PySem.F.plain_list_repr_under PySem.F.entry_list_repr_under PySem.F.check_list_repr_under ⟨_, eL, rfl⟩ PySem.F.slot_list_repr.toG (PySem.F.args_list_repr_1 _) ?_
    exact listAt hg hr he hL' hc hlen hb (fun i y hy => by
      obtain ⟨t, ht, q⟩ := hT i y hy
      exact ⟨t, ht, fun rest => (q rest).same sm⟩) I fun H2 u s2 sm2 I2 => ⟨⟨_, _, rfl⟩, _, _, rfl, k H2 s2 sm2 I2⟩
/-- repr of a list -/
def rReprR (X : Cx) (n : Nat) : List V → Hp → VK → Prop := fun xs H Q => ∃ (L : Addr) (vs : List V) (ts : List Str), xs = [.ref L] ∧ H L = some (.lst vs) ∧ vs.length = ts.length ∧ (listText ts).length ≤ sizeLine ∧
  (∀ (i : Nat) (y : V), vs[i]? = some y → ∃ t, ts[i]? = some t ∧ ∀ rest, RU X [.builtin "list.__repr__.loop" ⟨.ref L :: rest, []⟩] n y t H) ∧ ∀ H', Same H H' → Q (.str (listText ts)) H'
theorem call_reprR (hgu : X.A.guards = some []) (hr : Room (n + 3) X.A) : CallR X (.builtin "repr") (rReprR X n) := by
  intro pins s σ H xs us Q I r h
  obtain ⟨L, vs, ts, rfl, hL, hlen, hsz, hT, k⟩ := h
  cases r with
  | cons r1 r2 =>
    cases r2
    cases r1
    obtain ⟨_, its, nL, rL, lL, eL⟩ := I.lstM hL
    have hu := hr.units
    refine call_repr_slot (T := "list") (by omega) ⟨_, eL, rfl⟩ PySem.F.slot_list_repr.toG ?_
    cases vs with
    | nil =>
      cases ts with
      | cons t ts => simp at hlen
      | nil =>
        cases its with
        | cons u us => simp at lL
        | nil =>
          rw [listText_nil] at k
          exact call_list_repr_empty ⟨_, eL, rfl⟩ eL rfl ⟨_, _, rfl, .str "[]", H, I.tok _, ⟨_, rfl⟩, k H fun _ _ z => z⟩
    | cons v vs =>
      refine wpAny_call (codeAny_call_builtin PySem.F.slot_list_repr.plain PySem.F.entry_list_repr (PySem.F.slot_list_repr.check _ _ _ _ _ _ _ _ ⟨_, eL, rfl⟩ (PySem.F.args_list_repr_1 _) ?_))
      exact listAt (A := X.A.in1) (R := callEnd (fun r s₁ => ∃ x t, r = .str x t ∧ EP X pins σ Q r s₁) X.xe) (base := 0) (g := []) (n := n) hgu (Room.in1 (hr.mono (by omega))) (fun s' H' e => e.in1) hL (Clear.nil _) hlen (by omega) hT I fun H2 u s2 sm2 I2 => ⟨_, _, rfl, .str (listText ts), _, I2, ⟨u, rfl⟩, k _ sm2⟩
end
end SE
/-! repr of a tuple that holds objects with an own __repr__, and of any value whose repr is known (RU). -/
namespace SE
open PySem PySem.Spec PyProof.Rows L2
theorem trep_depth {A : Around} {args : Args} : (A.under (.builtin "tuple.__repr__" args)).depth ≤ A.depth + 1 := by
  simp [Around.under, Code.weight, Code.isCreation, Code.isGuard, Code.isCaller, Code.frames, Code.isFrame, guardIds]
theorem Room.trep {k : Nat} {A : Around} (r : Room (k + 1) A) (args : Args) : Room k (A.under (.builtin "tuple.__repr__" args)) :=
  ⟨r.hd, by have := r.dp; have := trep_depth (A := A) (args := args); omega, by have := r.un; rw [units_under_tuple_repr]; omega⟩
theorem Env0.trep {P : Program} {w : World} {K : PySem.W.Frag} {mg : Str → Option Value} {base : Heap} {A : Around} {outer : List Env} {s : Shared} {H : Hp} (e : Env0 P w K mg base A outer s H) (args : Args) :
    Env0 P w K mg base (A.under (.builtin "tuple.__repr__" args)) outer s H := ⟨by first | exact e.frames | (simpa [Around.under, Code.envs, Code.isFrame, pushEnvs] using e.frames), e.mod, e.bs, e.bsz, e.funs, e.frf, e.hok, e.bare⟩
section
variable {X : Cx} {g : List Code} {n : Nat} {H : Hp}
theorem tup_fold {A : Around} {pins : List (Addr × Obj)} {σ : L2.St} {E : Value → Shared → Prop} (hg : A.guards = some g) (hr : Room n A) (he : EnvTo X A) : ∀ (xs : List V) (us : List Value) (ts : List Str) (acc : Array Str) (m : Nat) (s : Shared) (H' : Hp) (Q : (Array Str × Nat) → Shared → Prop), Vals xs us → xs.length = ts.length →
    (∀ (i : Nat) (v : V), xs[i]? = some v → ∃ t, ts[i]? = some t ∧ RU X g n v t H) → m + piled ts ≤ sizeLine → Same H H' → Inv X pins σ H' s → (∀ H'' s', Same H H'' → Inv X pins σ H'' s' → Q ⟨acc ++ ts.toArray, m + piled ts⟩ s') → wpAny (model X.prog X.w) A (forIn us (⟨acc, m⟩ : (Array Str × Nat)) tupBody) Q E s := by
  intro xs
  induction xs with
  | nil =>
    intro us ts acc m s H' Q r hl hT hz sm I k
    cases r
    cases ts with
    | cons t ts => simp at hl
    | nil =>
      have h0 := k H' s sm I
      simp only [List.forIn_nil]
      exact wpAny_pure (by simpa [piled] using h0)
  | cons x xs ih =>
    intro us ts acc m s H' Q r hl hT hz sm I k
    cases r with
    | cons r1 r2 =>
      cases ts with
      | nil => simp at hl
      | cons t ts =>
        obtain ⟨t', e1, ru⟩ := hT 0 x rfl
        obtain rfl : t = t' := Option.some.inj e1
        rw [piled_cons] at hz
        rw [List.forIn_cons]
        refine wpAny_bind (wpAny_bind (ru.run (b := m + 1) hg hr he sm I r1 (by omega) fun H2 s2 sm2 I2 => wpAny_pure ?_))
        refine ih _ ts (acc.push t) (m + (t.length + 2)) _ H2 Q r2 (by simpa using hl) (fun i v e => hT (i + 1) v e) (by omega) (Same.trans sm sm2) I2 fun H3 s3 sm3 I3 => ?_
        have h1 := k H3 s3 sm3 I3
        have e : m + piled (t :: ts) = m + (t.length + 2) + piled ts := by rw [piled_cons]; omega
        rw [e] at h1
        simpa using h1
/-- repr of a tuple -/
def rReprT (X : Cx) (n : Nat) : List V → Hp → VK → Prop := fun xs H Q => ∃ (a : Addr) (vs : List V) (ts : List Str), xs = [.ref a] ∧ SqT X.K H a vs ∧ vs.length = ts.length ∧ (tupleText ts).length ≤ sizeLine ∧
  (∀ (i : Nat) (y : V), vs[i]? = some y → ∃ t, ts[i]? = some t ∧ RU X [.builtin "tuple.__repr__" ⟨[.ref a], []⟩] n y t H) ∧ ∀ H', Same H H' → Q (.str (tupleText ts)) H'
theorem call_reprTup (hgu : X.A.guards = some []) (hr : Room (n + 3) X.A) : CallR X (.builtin "repr") (rReprT X n) := by
  intro pins s σ H xs us Q I r h
  obtain ⟨a, vs, ts, rfl, ha, hlen, hsz, hT, k⟩ := h
  obtain ⟨ua, rfl, ra⟩ := vals1 r
  cases ra
  obtain ⟨its, rv, ⟨o, ho, hc, m, hd⟩, _⟩ := I.tuple ha
  have hu := hr.units
  have lv := rv.length
  have hp := piled_le_tupleText ts
  refine call_repr_slot (T := "tuple") (by omega) ⟨o, ho, hc⟩ PySem.F.slot_tuple_repr ?_
  refine wpAny_call (codeAny_call_builtin_own (Code.quiet_builtin _ (by decide +kernel)) PySem.F.entry_tuple_repr (PySem.F.slot_tuple_repr.check _ _ _ _ _ _ _ _ ⟨o, ho, hc⟩ (PySem.F.args_tuple_repr_1 _) ?_))
  show wpOwn _ _ _ (Builtin.tupleReprAt 0 ⟨[.ref a], []⟩) _ _ s
  rw [tuple_repr_tree, tupleReprUnderWay_eq]
  have hg1 : X.A.in1.guards = some [] := hgu
  refine wpOwn_bind (wpOwn_stackTailAny hg1 (tupGuardF_off _) (tupGuardF_pos _) ?_)
  show wpOwn _ _ _ (tupleReprRest 0 (.ref a)) _ _ s
  refine wpOwn_of_wpAny ?_
  unfold tupleReprRest Builtin.Tuple.tupleItemsOf
  refine wpAny_bind (wpAny_bind (wpAny_seqItems ho hd (wpAny_pure ?_)))
  rw [← Array.forIn_toList]
  refine wpAny_bind (tup_fold (H := H) (n := n) (guards_under_guard (isGuard_tuple_repr _) hg1) (Room.trep (Room.in1 (hr.mono (by omega))) _) (fun s' H' e => Env0.trep e.in1 _) vs _ ts #[] 0 s H _ rv hlen hT (by omega) (fun _ _ z => z) I fun H2 s2 sm2 I2 => ?_)
  have hsz2 : ts.length = its.toArray.size := by rw [List.size_toArray]; omega
  refine wpAny_bind (wpAny_mkStr (wpAny_pure ?_) (by simpa [tupleText, hsz2] using hsz))
  refine ⟨_, _, rfl, .str _, H2, I2.tok _, ⟨_, rfl⟩, ?_⟩
  have := k H2 sm2
  simpa [tupleText, hsz2] using this
/-! ### what reprs are under way: of lists, and of tuples that begin with an object -/
def GuM (K : PySem.W.Frag) (g : List Code) (H : Hp) : Prop := ∀ id v rest kw, Code.builtin id ⟨v :: rest, kw⟩ ∈ g → ∃ L, v = .ref L ∧ ((∃ us, H L = some (.lst us)) ∨ ∃ e xs, SqT K H L (.ref e :: xs))
theorem GuM.same {K : PySem.W.Frag} {H' : Hp} (h : GuM K g H) (s : Same H H') : GuM K g H' := fun id v rest kw m => by
  obtain ⟨L, e, hL⟩ := h id v rest kw m
  refine ⟨L, e, ?_⟩
  rcases hL with ⟨us, hL⟩ | ⟨e, xs, hL⟩
  · exact .inl ⟨us, s _ _ hL⟩
  · exact .inr ⟨e, xs, Same.tup s hL⟩
theorem GuM.nil {K : PySem.W.Frag} : GuM K [] H := fun _ _ _ _ m => by cases m
theorem GuM.lst {K : PySem.W.Frag} {id : String} {L : Addr} {us : List V} {rest : List Value} {kw : List (Str × Value)} (h : GuM K g H) (hL : H L = some (.lst us)) : GuM K (.builtin id ⟨.ref L :: rest, kw⟩ :: g) H := fun id' v rest' kw' m => by
  rcases List.mem_cons.mp m with e | m
  · cases e
    exact ⟨L, rfl, .inl ⟨us, hL⟩⟩
  · exact h _ _ _ _ m
theorem GuM.tup {K : PySem.W.Frag} {id : String} {L e : Addr} {xs : List V} {rest : List Value} {kw : List (Str × Value)} (h : GuM K g H) (hL : SqT K H L (.ref e :: xs)) : GuM K (.builtin id ⟨.ref L :: rest, kw⟩ :: g) H := fun id' v rest' kw' m => by
  rcases List.mem_cons.mp m with q | m
  · cases q
    exact ⟨L, rfl, .inr ⟨e, xs, hL⟩⟩
  · exact h _ _ _ _ m
/-- {x!r}, x a tuple of texts, while the reprs g are under way -/
def tFmtM (K : PySem.W.Frag) (g : List Code) (te : TE) : TE := fun σ H Q => te σ H fun x H1 => ∃ (a : Addr) (zs : List Str), x = .ref a ∧ SqT K H1 a (zs.map V.str) ∧ GuM K g H1 ∧ (PyData.tuple (zs.map PyData.str)).shown.length ≤ sizeLine ∧ Q (.str (PyData.tuple (zs.map PyData.str)).shown) H1
theorem pe_fmtM {e : Expr} {te : TE} {pos : Pos} {g : List Code} (hgu : X.A.guards = some g) (hu : X.A.units + 64 < cLine) (he : PE X e te) : PE X (.FormattedValue e 114 none pos) (tFmtM X.K g te) := by
  constructor
  intro pins s σ H Q I h
  refine wpAny_FormattedValue_repr (thn (he.run pins s σ H _ I h) fun v s1 hv => ?_)
  obtain ⟨x, H1, I1, r1, a, zs, rfl, hT, hc, hz, q⟩ := hv
  cases r1
  obtain ⟨its, rv, ⟨o, ho, oc, n, od⟩, _⟩ := I1.tuple hT
  have hc : Clear g a := fun id v rest kw hm => by
    obtain ⟨L, rfl, hL⟩ := hc id v rest kw hm
    intro e
    cases e
    rcases hL with ⟨us, hL⟩ | ⟨e, xs, hL⟩
    · obtain ⟨_, _, _, _, _, eL⟩ := I1.lstM hL
      rw [ho] at eL
      cases eL
      simp at oc
    · obtain ⟨its2, rv2, ⟨o2, ho2, oc2, n2, od2⟩, _⟩ := I1.tuple hL
      rw [ho] at ho2
      cases ho2
      rw [od] at od2
      have ei : its = its2 := by
        have := (Data.seq.inj od2).1
        simpa using this
      subst ei
      cases rv2 with
      | cons r1 r2 =>
        cases zs with
        | nil => cases rv
        | cons z zs =>
          cases rv with
          | cons r3 r4 =>
            obtain ⟨t, rfl⟩ := r3
            cases r1
  obtain ⟨done, rfl, ed⟩ := vals_strs rv
  subst ed
  have hz' : (tupleText (PyData.shownAll ((done.map (·.1)).map PyData.str))).length ≤ sizeLine := by simpa only [PyData.shown] using hz
  have hall : ∀ z ∈ done.map (·.1), (reprText z).length ≤ sizeLine := fun z m => by
    have mm := mem_shownAll m
    exact Nat.le_trans (tupleText_mem_le mm) hz'
  refine wpAny_pyReprObj_tupleK (as := []) (d := 0) ho oc od (by simp) (repr_strs done hall) hgu (fun b hb => by rw [List.mem_singleton.mp hb]; exact hc) (by omega) (fun _ _ z => z) (fun h2 u tk keep => ?_) hz'
  have I2 := I1.kept (t' := tk) keep
  exact wpAny_formatField_str ⟨.str _, H1, I2, ⟨u, rfl⟩, q⟩ ⟨.str _, H1, I2.tok _, ⟨_, rfl⟩, q⟩ hz'
end
end SE
/-! repr of lists and tuples that hold objects with an own __repr__, also where an exception is handled. -/
namespace SE
open PySem PySem.Spec PyProof.Rows L2
structure RoomQ (X : Cx) (n : Nat) (A : Around) : Prop where
  rm : L2H.RoomH n A
  hh : A.handled = X.A.handled
theorem RoomQ.mono {X : Cx} {j k : Nat} {A : Around} (r : RoomQ X j A) (h : k ≤ j) : RoomQ X k A := ⟨r.rm.mono h, r.hh⟩
theorem RoomQ.un {X : Cx} {k : Nat} {A : Around} (r : RoomQ X k A) : A.units + 16 * k + 200 < cLine := r.rm.un
theorem RoomQ.units {X : Cx} {k : Nat} {A : Around} (r : RoomQ X k A) : A.units + 64 < cLine := by have := r.un; omega
theorem RoomQ.units0 {X : Cx} {k : Nat} {A : Around} (r : RoomQ X k A) : A.units < cLine := by have := r.un; omega
theorem RoomQ.in1 {X : Cx} {k : Nat} {A : Around} (r : RoomQ X (k + 1) A) : RoomQ X k A.in1 := ⟨⟨by have := r.rm.dp; show A.depth + 3 * k + 5 < _; omega, by have := r.un; show A.units + 1 + 16 * k + 200 < _; omega⟩, r.hh⟩
theorem RoomQ.loop {X : Cx} {k : Nat} {A : Around} (r : RoomQ X (k + 1) A) (args : Args) : RoomQ X k (A.under (.builtin "list.__repr__.loop" args)) :=
  ⟨⟨by have := r.rm.dp; have := loop_depth (A := A) (args := args); omega, by have := r.un; rw [units_under_list_loop]; omega⟩, r.hh⟩
theorem RoomQ.trep {X : Cx} {k : Nat} {A : Around} (r : RoomQ X (k + 1) A) (args : Args) : RoomQ X k (A.under (.builtin "tuple.__repr__" args)) :=
  ⟨⟨by have := r.rm.dp; have := trep_depth (A := A) (args := args); omega, by have := r.un; rw [units_under_tuple_repr]; omega⟩, r.hh⟩
theorem roomH_units {k : Nat} {A : Around} (r : L2H.RoomH k A) : A.units + 64 < cLine := by have := r.un; omega
/-- an own __repr__ may be called -/
def CallQ (X : Cx) (g : List Code) (n : Nat) (f : Addr) (fd : FuncData) (sp : Sp) : Prop := ∀ (A : Around) (pins : List (Addr × Obj)) (σ : L2.St) (H : Hp) (s : Shared) (us : List Value) (xs : List V) (Q : VK) (E : XK), A.guards = some g → RoomQ X n A → EnvTo X A → Inv X pins σ H s → BindsTo s fd ⟨us, []⟩ ([("self" : Str)].zip us) → Vals xs us → sp xs H Q E →
  codeAny (model X.prog X.w) A (.call (.ref f) ⟨us, []⟩) (CR (fun _ _ _ _ _ _ => False) X.stack X.prog X.w H s Q E) s
theorem callQ_calm {X : Cx} {g : List Code} {n : Nat} {f : Addr} {fd : FuncData} {sp : Sp} (F : GOkG X.prog X.w X.K X.mg X.base g n f fd ["self"] sp) (hd : X.A.handled = none) : CallQ X g n f fd sp := fun A pins σ H s us xs Q E hg hr he I hb hv h =>
  F.run A X.stack s H ⟨us, []⟩ us xs Q E hg ⟨hr.hh.trans hd, hr.rm.dp, hr.rm.un⟩ (he _ _ I.env0) hb hv h
structure GOkH (P : Program) (w : World) (K : PySem.W.Frag) (mg : Str → Option Value) (base : Heap) (g : List Code) (k : Nat) (f : Addr) (fd : FuncData) (ps : List Str) (sp : Sp) : Prop where
  len : ∀ xs H Q E, sp xs H Q E → xs.length = ps.length
  run : ∀ (A : Around) (out : List Env) (s : Shared) (H : Hp) (args : Args) (us : List Value) (xs : List V) (Q : VK) (E : XK) (p : Addr × Obj), A.guards = some g → L2H.RoomH k A → L2H.PinOk out H s p → Env0 P w K mg base A out s H →
    BindsTo s fd args (ps.zip us) → Vals xs us → sp xs H Q E → codeAny (model P w) A (.call (.ref f) args) (CR (fun _ _ _ _ _ _ => False) out P w H s Q E) s
theorem callQ_hot {X : Cx} {g : List Code} {n : Nat} {f : Addr} {fd : FuncData} {sp : Sp} (F : GOkH X.prog X.w X.K X.mg X.base g n f fd ["self"] sp) (hc : ∃ p, p ∈ X.pn) : CallQ X g n f fd sp := fun A pins σ H s us xs Q E hg hr he I hb hv h => by
  obtain ⟨p, hp⟩ := hc
  have P1 := I.pin p (List.mem_append_left _ hp)
  have hpin : L2H.PinOk X.stack H s p := ⟨P1.1, P1.2.1, fun hm => (List.mem_cons.mp (I.stkSub p.1 hm)).elim P1.2.2.1 P1.2.2.2.1, P1.2.2.2.2⟩
  exact F.run A X.stack s H ⟨us, []⟩ us xs Q E p hg hr.rm hpin (he _ _ I.env0) hb hv h
section
variable {P : Program} {w : World} {K : PySem.W.Frag} {mg : Str → Option Value} {base : Heap} {g : List Code}
theorem gok_ofH {k : Nat} {f : Addr} {nm ql : Str} {pars : Arguments} {bd : List Stmt} {sc : Scope} {dV kV doc pm cv ct oc : Value} {an od : Option Addr}
    {osl : Array (Option Value)} {N ps : List Str} {sp : Sp} (look : K.lookup f = some ⟨oc, od, .func (PySem.W.fnOf nm ql pars bd sc dV kV doc pm an cv ct), osl⟩) (hcode : PySem.W.codeIn K cv ql = true) (S : FnScope N ps sc)
    (len : ∀ xs H Q E, sp xs H Q E → xs.length = ps.length)
    (hbd : ∀ (A : Around) (out : List Env) (s : Shared) (H : Hp) (xs : List V) (Q : VK) (E : XK) (p : Addr × Obj), A.guards = some g → L2H.RoomH k (A.deeper (envOfC ql sc s.heap.objs.size f cv)) → sp xs H Q E →
      ∃ t, PSs (L2H.cxH (fun _ _ _ _ _ _ => False) P w K mg base N ql sc f cv A out s H E p) bd t ∧ t { nx := fun _ H2 => Q .non H2, rt := Q } (start N xs) H) :
    GOkH P w K mg base g (k + 1) f (PySem.W.fnOf nm ql pars bd sc dV kV doc pm an cv ct) ps sp := by
  constructor
  · exact len
  intro A out s H args us xs Q E p hgu hroom hpin env hbind hvals hpre
  have hlen := len _ _ _ _ hpre
  have kin : K.In s.heap := env.mod.kin.keeps fun b o z => (env.bs b o z).1
  have nolim : s.heap.NoLimit := env.mod.nolimit.keeps fun b o z => (env.bs b o z).1
  have kinds : ∀ y ∈ ps.zip us, sc.names.lookup y.1 = some .local ∨ (sc.names.lookup y.1 = some .cell ∧ ((cellsFrom (s.heap.objs.size + 1) sc.names []).lookup y.1).isSome = true) := by
    rintro ⟨n, v⟩ hy
    rcases S.par n (List.of_mem_zip hy).1 with q | q
    · exact .inl q
    · exact .inr ⟨q, PySem.W.cellsFrom_some _ _ _ (.inl q)⟩
  apply codeAny_call_function hroom.depth (kin _ _ look) rfl S.co S.gen rfl (PySem.W.codeRec_of kin hcode)
  apply hbind
  refine wpAny_newFunctionEnv_cells S.kind kinds fun ev hev s2 inc => ?_
  subst hev
  refine ⟨nolim.keeps inc.toInCall.keep, codeAny_func ?_⟩
  obtain ⟨t, der, rd⟩ := hbd A out s H xs Q E p hgu (hroom.deeper _) hpre
  have J0 : Inv (L2H.cxH (fun _ _ _ _ _ _ => False) P w K mg base N ql sc f cv A out s H E p) [] (start N xs) H s2 := L2H.inv_startH S hpin env hlen hvals inc
  refine wpAny_mono (der.run [] s2 (start N xs) H _ J0 rd) (fun fl s3 hs => ?_) fun e s3 hs => hs
  cases fl with
  | ret u =>
    obtain ⟨v, σ3, H3, J, rv, q⟩ := hs
    exact ⟨v, H3, J.os, J.bare, J.base, J.hok, rv, q⟩
  | next =>
    obtain ⟨σ3, H3, J, q⟩ := hs
    exact ⟨V.non, H3, J.os, J.bare, J.base, J.hok, rfl, q⟩
  | brk => exact hs.elim fun _ z => z.elim fun _ z => z.2.elim
  | cont => exact hs.elim fun _ z => z.elim fun _ z => z.2.elim
end
structure RUQ (X : Cx) (g : List Code) (n : Nat) (v : V) (t : Str) (H : Hp) : Prop where
  run : ∀ {A : Around} {pins : List (Addr × Obj)} {σ : L2.St} {H' : Hp} {s : Shared} {u : Value} {b : Nat} {E : Value → Shared → Prop} {Q : Str → Shared → Prop}, A.guards = some g → RoomQ X n A → EnvTo X A → Same H H' → Inv X pins σ H' s → RelV v u → b + t.length ≤ sizeLine →
    (∀ H'' s', Same H' H'' → Inv X pins σ H'' s' → Q t s') → wpAny (model X.prog X.w) A (pyReprUnder b u) Q E s
section
variable {X : Cx} {g : List Code} {n : Nat} {H : Hp}
theorem RUQ.mono {v : V} {t : Str} {m : Nat} (h : RUQ X g n v t H) (hm : n ≤ m) : RUQ X g m v t H := ⟨fun hg hr he s I r hb k => h.run hg (hr.mono hm) he s I r hb k⟩
theorem RUQ.same {v : V} {t : Str} {H1 : Hp} (h : RUQ X g n v t H) (s1 : Same H H1) : RUQ X g n v t H1 := ⟨fun hg hr he s I r hb k => h.run hg hr he (Same.trans s1 s) I r hb k⟩
/-- data without lists -/
theorem ruq_dp {v : V} {d : PyData} (hD : ∀ H', Same H H' → Dp X.K H' v d) (hs : d.showable = true) (hn : noLst d = true) (hdep : d.depth ≤ 20) (hG : GuL g H) : RUQ X g n v d.shown H := by
  constructor
  intro A pins σ H' s u b E Q hg hr he sm I r hb k
  obtain ⟨as, rd⟩ := Dp.reads I d v u (hD H' sm) r
  obtain ⟨bs, _, ht, hk⟩ := reprK_t (prog := X.prog) (w := X.w) rd hs hn (by omega)
  have un := hr.un
  refine hk b hb A g E s Q hg (fun c hc => ?_) (by omega) (fun _ _ z => z) (fun h' tk keep => k H' _ (fun _ _ z => z) (I.kept (t' := tk) keep))
  obtain ⟨o, ho, oc⟩ := ht c hc
  intro id v rest kw hm
  obtain ⟨L, us, rfl, hL⟩ := (hG.same sm) id v rest kw hm
  intro e
  cases e
  obtain ⟨_, _, _, _, _, eL⟩ := I.lstM hL
  rw [ho] at eL
  cases eL
  simp at oc
/-- an object with an own __repr__ -/
theorem ruq_own {C f e : Addr} {fd : FuncData} {sp : List Code → Sp} {t : Str} (F : CallQ X g n f fd (sp g)) (hs : PySem.W.findIn X.K (.ref C) "__repr__" = some (some (.ref f))) (hf : PySem.W.isFn X.K (.ref f) = true) (hb : Binds X.K fd ["self"] [])
    (hi : ∃ dx fs, H e = some (.ins C dx fs)) (hsp : ∀ H', Same H H' → sp g [.ref e] H' (fun v H'' => v = .str t ∧ Same H' H'') (fun _ _ _ => False)) : RUQ X g n (.ref e) t H := by
  constructor
  intro A pins σ H' s u b E Q hg hr he sm I r hb2 k
  cases r
  obtain ⟨dx, fs, hi⟩ := hi
  obtain ⟨mA, J, _⟩ := ins_get I.hok (sm _ _ hi)
  obtain ⟨od, J, _⟩ := J.look
  refine wpAny_pyReprUnder_ref (by omega) (under_own hr.units0 I.kIn J hs hf ?_)
  refine wpAny_call (codeAny_mono (F A pins σ H' s [.ref e] [.ref e] _ _ hg hr he I (by simpa using hb s [.ref e] I.kIn rfl) (.cons rfl .nil) (hsp H' sm)) fun r s2 hq => ?_)
  cases r with
  | error e => exact hq.elim
  | ok fl =>
    cases fl with
    | next => exact hq.elim
    | brk => exact hq.elim
    | cont => exact hq.elim
    | ret z =>
      obtain ⟨y, H2, I2, rz, ey, eH⟩ := I.after hq
      subst ey
      obtain ⟨tk, rfl⟩ := rz
      exact ⟨t, tk, rfl, t, tk, rfl, k H2 s2 eH I2⟩
open Builtin Builtin.List in
theorem ruq_loop {A : Around} {pins : List (Addr × Obj)} {σ : L2.St} {R : Result → Shared → Prop} {L P : Addr} {vs : List V} {ts : List Str} {base : Nat} (hg : A.guards = some g) (hr : RoomQ X (n + 1) A) (he : EnvTo X A) (hLP : L ≠ P) (hL : H L = some (.lst vs)) (hP : H P = none) (hlen : vs.length = ts.length)
    (hsz : base + (listText ts).length ≤ sizeLine) (hT : ∀ (i : Nat) (v : V), vs[i]? = some v → ∃ t, ts[i]? = some t ∧ ∀ rest, RUQ X (.builtin "list.__repr__.loop" ⟨.ref L :: rest, []⟩ :: g) n v t H)
    (hR : ∀ H' u s', Same H H' → Inv X pins σ H' s' → R (.ok (.ret (.str (listText ts) u))) s') :
    ∀ (k i : Nat) (s : Shared) (Hc : Hp), vs.length - i = k → i ≤ vs.length → Same H Hc → Hc P = some (.lst ((ts.take i).map V.str)) → Inv X pins σ Hc s →
    codeAny (model X.prog X.w) A (.builtin "list.__repr__.loop" ⟨[.ref L, rawInt i, .ref P, rawInt ((base + piled (ts.take i) : Nat) : Int)], []⟩) R s := by
  have hX : (listText ts).length = (textFrom 0 "[" ts).length + 1 := by
    show (textFrom 0 "[" ts ++ "]").length = _
    rw [strLen_append]; rfl
  have hLn := textFrom_len ts 0 "["
  have hsz1 : vs.length ≤ sizeLine := by
    have h1 := hLn.1
    rw [if_neg (Nat.lt_irrefl 0)] at h1
    omega
  have hsz2 : ∀ t ∈ ts, t.length ≤ sizeLine := fun t ht => by
    have h2 := hLn.2.1 t ht
    omega
  have hp3 := piled_le_listText ts
  have hsz3 : (listText ts).length ≤ sizeLine := by omega
  intro k
  induction k with
  | zero =>
    intro i s Hc hk hi sm hPc I
    have hin : i = vs.length := by omega
    obtain ⟨_, its, nL, rL, lL, eL⟩ := I.lstM (sm _ _ hL)
    obtain ⟨_, itp, nP, rP, lP, eP⟩ := I.lstM hPc
    obtain ⟨done, rfl, hdone⟩ := vals_strs rP
    refine codeAny_builtin PySem.F.entry_list_repr_loop ?_
    show wpAny _ _ («list.__repr__.loop» ⟨[.ref L, .int i 0, .ref P, .int ((base + piled (ts.take i) : Nat) : Int) 0], []⟩) _ _ s
    rw [repr_loop_tree]
    refine wpAny_bind (wpAny_listItems eL rfl ?_)
    have hnone : its.toArray[(i : Int).toNat]? = none := by
      simp only [Int.toNat_natCast, List.getElem?_toArray]
      exact List.getElem?_eq_none (by omega)
    simp only [hnone]
    unfold reprEnd
    refine wpAny_bind (wpAny_listItems eP rfl ?_)
    rw [show (strValues done).toArray.toList = strValues done from List.toList_toArray .., repr_fold]
    refine wpAny_bind (wpAny_pure ?_)
    have hall : done.map (·.1) = ts := by rw [hdone, hin, hlen, List.take_length]
    rw [hall]
    refine wpAny_bind (wpAny_mkStr (wpAny_pure ?_) hsz3)
    exact hR Hc _ _ sm (I.tok _)
  | succ k ih =>
    intro i s Hc hk hi sm hPc I
    have hlt : i < vs.length := by omega
    obtain ⟨_, its, nL, rL, lL, eL⟩ := I.lstM (sm _ _ hL)
    obtain ⟨t, ht, hru⟩ := hT i vs[i] (by simp [hlt])
    obtain ⟨u, hu, ru⟩ := rL.get (i := i) (x := vs[i]) (by simp [hlt])
    have hp1 := piled_take_succ ht
    have hp2 := piled_take_le ts (i + 1)
    refine codeAny_builtin PySem.F.entry_list_repr_loop ?_
    show wpAny _ _ («list.__repr__.loop» ⟨[.ref L, .int i 0, .ref P, .int ((base + piled (ts.take i) : Nat) : Int) 0], []⟩) _ _ s
    rw [repr_loop_tree]
    refine wpAny_bind (wpAny_listItems eL rfl ?_)
    have hsome : its.toArray[(i : Int).toNat]? = some u := by simpa using hu
    simp only [hsome]
    rw [Int.toNat_natCast]
    refine wpAny_bind (wpAny_holding ((hru _).run (guards_under_guard (isGuard_list_loop _) hg) (RoomQ.loop hr _) (fun s' H' e => Env0.loop (he s' H' e) _) sm I ru (by omega) fun H2 s2 sm2 I2 => ?_))
    refine wpAny_bind (wpAny_mkStr ?_ (hsz2 t (List.mem_of_getElem? ht)))
    refine wpAny_bind ?_
    show wpAny _ _ (updateSeq P _) _ _ _
    have I3 := I2.tok (s2.toks + 1)
    have hP2 := sm2 _ _ hPc
    obtain ⟨zP, itp, nP, rP, lP, eP⟩ := I3.lstM hP2
    have lt : ((ts.take i).map V.str).length ≤ i := by rw [List.length_map, List.length_take]; omega
    have hasz : itp.toArray.size ≤ sizeLine := by rw [List.size_toArray]; omega
    refine wpAny_updateSeq eP rfl (wpAny_pure ⟨PySem.F.quiet_list_repr_loop _, ?_⟩) hasz
    have e1 : ((i : Int) + 1) = ((i + 1 : Nat) : Int) := by omega
    have e2 : base + piled (ts.take i) + (t.length + 2) = base + piled (ts.take (i + 1)) := by omega
    rw [e1, e2]
    have ev : (ts.take (i + 1)).map V.str = (ts.take i).map V.str ++ [V.str t] := by
      rw [List.take_add_one, ht, List.map_append]
      rfl
    have I4 := I3.lset (its' := itp ++ [.str t s2.toks]) (f := fun x => x.push (.str t s2.toks)) (ys := (ts.take (i + 1)).map V.str) (t' := s2.toks + 1) hP2 eP (by simp) (by rw [ev]; exact rP.append (.cons ⟨_, rfl⟩ .nil)) (by rw [List.length_map, List.length_take]; omega)
    exact ih (i + 1) _ _ (by omega) hlt (Same.free2 (Same.trans sm sm2) hP) upd_same I4
open Builtin Builtin.List in
theorem listAtQ {A : Around} {pins : List (Addr × Obj)} {σ : L2.St} {R : Result → Shared → Prop} {L : Addr} {v : V} {vs : List V} {ts : List Str} {base : Nat} {s : Shared} (hg : A.guards = some g) (hr : RoomQ X (n + 1) A) (he : EnvTo X A) (hL : H L = some (.lst (v :: vs))) (hc : Clear g L) (hlen : (v :: vs).length = ts.length)
    (hsz : base + (listText ts).length ≤ sizeLine) (hT : ∀ (i : Nat) (y : V), (v :: vs)[i]? = some y → ∃ t, ts[i]? = some t ∧ ∀ rest, RUQ X (.builtin "list.__repr__.loop" ⟨.ref L :: rest, []⟩ :: g) n y t H) (I : Inv X pins σ H s)
    (hR : ∀ H' u s', Same H H' → Inv X pins σ H' s' → R (.ok (.ret (.str (listText ts) u))) s') :
    wpAny (model X.prog X.w) A.in1 (Builtin.listReprAt base ⟨[.ref L], []⟩) (fun fin s' => match fin with | .done f => R (.ok f) s' | .again c' => c'.quiet = true ∧ codeAny (model X.prog X.w) A c' R s') (fun e s' => R (.error e) s') s := by
  obtain ⟨_, its, nL, rL, lL, eL⟩ := I.lstM hL
  cases its with
  | nil => simp at lL
  | cons u us =>
    refine wpAny_list_repr_head (A := A.in1) hg (fun v rest kw hm => listSameRef_of_ne (hc _ _ _ _ hm)) eL rfl ?_
    refine wpAny_bind (m := newList []) (wpAny_newObj_type ?_)
    refine wpAny_pure ⟨PySem.F.quiet_list_repr_loop _, ?_⟩
    have hP : H s.heap.objs.size = none := I.hok.fresh (Nat.le_refl _)
    have I1 : Inv X pins σ (upd H s.heap.objs.size (.lst [])) { s with heap := s.heap.push ({ cls := .type "list", data := .seq #[] } : Obj) } := I.laid (t' := s.toks) (fun b u q => Heap.get?_push_of_some _ q) (Nat.le_refl _) ⟨Nat.zero_le _, [], 0, .nil, Heap.get?_push_size _ rfl⟩
    have hLP : L ≠ s.heap.objs.size := fun z => by rw [z, hP] at hL; cases hL
    exact ruq_loop hg hr he hLP hL hP hlen hsz hT hR _ 0 _ _ rfl (Nat.zero_le _) (Same.new hP) upd_same I1
theorem ruq_list {L : Addr} {vs : List V} {ts : List Str} (hL : H L = some (.lst vs)) (hc : Clear g L) (hlen : vs.length = ts.length)
    (hT : ∀ (i : Nat) (y : V), vs[i]? = some y → ∃ t, ts[i]? = some t ∧ ∀ rest, RUQ X (.builtin "list.__repr__.loop" ⟨.ref L :: rest, []⟩ :: g) n y t H) : RUQ X g (n + 1) (.ref L) (listText ts) H := by
  constructor
  intro A pins σ H' s u b E Q hg hr he sm I r hb k
  cases r
  have hL' := sm _ _ hL
  obtain ⟨_, its, nL, rL, lL, eL⟩ := I.lstM hL'
  cases vs with
  | nil =>
    cases ts with
    | cons t ts => simp at hlen
    | nil =>
      cases its with
      | cons u us => simp at lL
      | nil =>
        rw [listText_nil] at k
        exact wpAny_pyReprUnder_ref (by omega) (wpAny_pyReprObjUnder_list_empty ⟨_, eL, rfl⟩ hr.units0 eL rfl ⟨_, _, rfl, k H' _ (fun _ _ z => z) (I.tok _)⟩)
  | cons v vs =>
    refine wpAny_pyReprUnder_ref (by omega) (wpAny_pyReprObjUnder_twin (twin := "list.__repr__.under") ⟨_, eL, rfl⟩ PySem.F.slot_list_repr.toG rfl hr.units0 ?_)
    refine call_twin_plain PySem.F.plain_list_repr_under PySem.F.entry_list_repr_under PySem.F.check_list_repr_under ⟨_, eL, rfl⟩ PySem.F.slot_list_repr.toG (PySem.F.args_list_repr_1 _) ?_
    exact listAtQ hg hr he hL' hc hlen hb (fun i y hy => by
      obtain ⟨t, ht, q⟩ := hT i y hy
      exact ⟨t, ht, fun rest => (q rest).same sm⟩) I fun H2 u s2 sm2 I2 => ⟨⟨_, _, rfl⟩, _, _, rfl, k H2 s2 sm2 I2⟩
/-- repr of a list -/
def rReprRQ (X : Cx) (n : Nat) : List V → Hp → VK → Prop := fun xs H Q => ∃ (L : Addr) (vs : List V) (ts : List Str), xs = [.ref L] ∧ H L = some (.lst vs) ∧ vs.length = ts.length ∧ (listText ts).length ≤ sizeLine ∧
  (∀ (i : Nat) (y : V), vs[i]? = some y → ∃ t, ts[i]? = some t ∧ ∀ rest, RUQ X [.builtin "list.__repr__.loop" ⟨.ref L :: rest, []⟩] n y t H) ∧ ∀ H', Same H H' → Q (.str (listText ts)) H'
theorem call_reprRQ (hgu : X.A.guards = some []) (hr : RoomQ X (n + 3) X.A) : CallR X (.builtin "repr") (rReprRQ X n) := by
  intro pins s σ H xs us Q I r h
  obtain ⟨L, vs, ts, rfl, hL, hlen, hsz, hT, k⟩ := h
  cases r with
  | cons r1 r2 =>
    cases r2
    cases r1
    obtain ⟨_, its, nL, rL, lL, eL⟩ := I.lstM hL
    have hu := hr.units
    refine call_repr_slot (T := "list") (by omega) ⟨_, eL, rfl⟩ PySem.F.slot_list_repr.toG ?_
    cases vs with
    | nil =>
      cases ts with
      | cons t ts => simp at hlen
      | nil =>
        cases its with
        | cons u us => simp at lL
        | nil =>
          rw [listText_nil] at k
          exact call_list_repr_empty ⟨_, eL, rfl⟩ eL rfl ⟨_, _, rfl, .str "[]", H, I.tok _, ⟨_, rfl⟩, k H fun _ _ z => z⟩
    | cons v vs =>
      refine wpAny_call (codeAny_call_builtin PySem.F.slot_list_repr.plain PySem.F.entry_list_repr (PySem.F.slot_list_repr.check _ _ _ _ _ _ _ _ ⟨_, eL, rfl⟩ (PySem.F.args_list_repr_1 _) ?_))
      exact listAtQ (A := X.A.in1) (R := callEnd (fun r s₁ => ∃ x t, r = .str x t ∧ EP X pins σ Q r s₁) X.xe) (base := 0) (g := []) (n := n) hgu (RoomQ.in1 (hr.mono (by omega))) (fun s' H' e => e.in1) hL (Clear.nil _) hlen (by omega) hT I fun H2 u s2 sm2 I2 => ⟨_, _, rfl, .str (listText ts), _, I2, ⟨u, rfl⟩, k _ sm2⟩
theorem tup_foldQ {A : Around} {pins : List (Addr × Obj)} {σ : L2.St} {E : Value → Shared → Prop} (hg : A.guards = some g) (hr : RoomQ X n A) (he : EnvTo X A) : ∀ (xs : List V) (us : List Value) (ts : List Str) (acc : Array Str) (m : Nat) (s : Shared) (H' : Hp) (Q : (Array Str × Nat) → Shared → Prop), Vals xs us → xs.length = ts.length →
    (∀ (i : Nat) (v : V), xs[i]? = some v → ∃ t, ts[i]? = some t ∧ RUQ X g n v t H) → m + piled ts ≤ sizeLine → Same H H' → Inv X pins σ H' s → (∀ H'' s', Same H H'' → Inv X pins σ H'' s' → Q ⟨acc ++ ts.toArray, m + piled ts⟩ s') → wpAny (model X.prog X.w) A (forIn us (⟨acc, m⟩ : (Array Str × Nat)) tupBody) Q E s := by
  intro xs
  induction xs with
  | nil =>
    intro us ts acc m s H' Q r hl hT hz sm I k
    cases r
    cases ts with
    | cons t ts => simp at hl
    | nil =>
      have h0 := k H' s sm I
      simp only [List.forIn_nil]
      exact wpAny_pure (by simpa [piled] using h0)
  | cons x xs ih =>
    intro us ts acc m s H' Q r hl hT hz sm I k
    cases r with
    | cons r1 r2 =>
      cases ts with
      | nil => simp at hl
      | cons t ts =>
        obtain ⟨t', e1, ru⟩ := hT 0 x rfl
        obtain rfl : t = t' := Option.some.inj e1
        rw [piled_cons] at hz
        rw [List.forIn_cons]
        refine wpAny_bind (wpAny_bind (ru.run (b := m + 1) hg hr he sm I r1 (by omega) fun H2 s2 sm2 I2 => wpAny_pure ?_))
        refine ih _ ts (acc.push t) (m + (t.length + 2)) _ H2 Q r2 (by simpa using hl) (fun i v e => hT (i + 1) v e) (by omega) (Same.trans sm sm2) I2 fun H3 s3 sm3 I3 => ?_
        have h1 := k H3 s3 sm3 I3
        have e : m + piled (t :: ts) = m + (t.length + 2) + piled ts := by rw [piled_cons]; omega
        rw [e] at h1
        simpa using h1
/-- repr of a tuple -/
def rReprTQ (X : Cx) (n : Nat) : List V → Hp → VK → Prop := fun xs H Q => ∃ (a : Addr) (vs : List V) (ts : List Str), xs = [.ref a] ∧ SqT X.K H a vs ∧ vs.length = ts.length ∧ (tupleText ts).length ≤ sizeLine ∧
  (∀ (i : Nat) (y : V), vs[i]? = some y → ∃ t, ts[i]? = some t ∧ RUQ X [.builtin "tuple.__repr__" ⟨[.ref a], []⟩] n y t H) ∧ ∀ H', Same H H' → Q (.str (tupleText ts)) H'
theorem call_reprTupQ (hgu : X.A.guards = some []) (hr : RoomQ X (n + 3) X.A) : CallR X (.builtin "repr") (rReprTQ X n) := by
  intro pins s σ H xs us Q I r h
  obtain ⟨a, vs, ts, rfl, ha, hlen, hsz, hT, k⟩ := h
  obtain ⟨ua, rfl, ra⟩ := vals1 r
  cases ra
  obtain ⟨its, rv, ⟨o, ho, hc, m, hd⟩, _⟩ := I.tuple ha
  have hu := hr.units
  have lv := rv.length
  have hp := piled_le_tupleText ts
  refine call_repr_slot (T := "tuple") (by omega) ⟨o, ho, hc⟩ PySem.F.slot_tuple_repr ?_
  refine wpAny_call (codeAny_call_builtin_own (Code.quiet_builtin _ (by decide +kernel)) PySem.F.entry_tuple_repr (PySem.F.slot_tuple_repr.check _ _ _ _ _ _ _ _ ⟨o, ho, hc⟩ (PySem.F.args_tuple_repr_1 _) ?_))
  show wpOwn _ _ _ (Builtin.tupleReprAt 0 ⟨[.ref a], []⟩) _ _ s
  rw [tuple_repr_tree, tupleReprUnderWay_eq]
  have hg1 : X.A.in1.guards = some [] := hgu
  refine wpOwn_bind (wpOwn_stackTailAny hg1 (tupGuardF_off _) (tupGuardF_pos _) ?_)
  show wpOwn _ _ _ (tupleReprRest 0 (.ref a)) _ _ s
  refine wpOwn_of_wpAny ?_
  unfold tupleReprRest Builtin.Tuple.tupleItemsOf
  refine wpAny_bind (wpAny_bind (wpAny_seqItems ho hd (wpAny_pure ?_)))
  rw [← Array.forIn_toList]
  refine wpAny_bind (tup_foldQ (H := H) (n := n) (guards_under_guard (isGuard_tuple_repr _) hg1) (RoomQ.trep (RoomQ.in1 (hr.mono (by omega))) _) (fun s' H' e => Env0.trep e.in1 _) vs _ ts #[] 0 s H _ rv hlen hT (by omega) (fun _ _ z => z) I fun H2 s2 sm2 I2 => ?_)
  have hsz2 : ts.length = its.toArray.size := by rw [List.size_toArray]; omega
  refine wpAny_bind (wpAny_mkStr (wpAny_pure ?_) (by simpa [tupleText, hsz2] using hsz))
  refine ⟨_, _, rfl, .str _, H2, I2.tok _, ⟨_, rfl⟩, ?_⟩
  have := k H2 sm2
  simpa [tupleText, hsz2] using this
end
section
variable {X : Cx} {n : Nat} {C f : Addr} {fd : FuncData}
/-- repr(o), an own __repr__ -/
theorem call_reprEQ {sp : Sp} (F : CallQ X [] n f fd sp) (hs : PySem.W.findIn X.K (.ref C) "__repr__" = some (some (.ref f))) (hf : PySem.W.isFn X.K (.ref f) = true) (hb : Binds X.K fd ["self"] []) (hgu : X.A.guards = some []) (hr : RoomQ X (n + 1) X.A) :
    CallR X (.builtin "repr") (fun xs H Q => ∃ (a dx : Addr) (fs : List (Str × V)), xs = [.ref a] ∧ H a = some (.ins C dx fs) ∧ sp [.ref a] H (fun v H' => ∃ z, v = .str z ∧ Q (.str z) H') (fun _ _ _ => False)) := by
  intro pins s σ H xs us Q I r h
  obtain ⟨a, dx, fs, rfl, ha, hsp⟩ := h
  cases r with
  | cons r1 r2 =>
    cases r2
    cases r1
    obtain ⟨mA, J, _⟩ := ins_get I.hok ha
    obtain ⟨od, J, _⟩ := J.look
    obtain ⟨m, hF⟩ := I.fr
    refine PySem.W.repr_K hr.in1.units0 hF I.ok.mod.kin J hs hf ?_
    refine wpAny_call (codeAny_mono (F X.A.in1 pins σ H s [.ref a] [.ref a] _ _ hgu hr.in1 (fun _ _ e => e.in1) I (by simpa using hb s [.ref a] I.kIn rfl) (.cons rfl .nil) hsp) fun r s2 hq => ?_)
    cases r with
    | error e => exact hq.elim
    | ok fl =>
      cases fl with
      | ret z =>
        obtain ⟨y, H2, I2, rz, t, ez, q⟩ := I.after hq
        subst ez
        obtain ⟨tk, rfl⟩ := rz
        exact ⟨.str t, H2, I2, ⟨_, rfl⟩, q⟩
      | next => exact hq.elim
      | brk => exact hq.elim
      | cont => exact hq.elim
end
end SE
namespace SE
open PySem PySem.Spec PyProof.Rows L2
section
variable {P : Program} {w : World} {K : PySem.W.Frag} {mg : Str → Option Value} {base : Heap} {C : Addr}
/-! ### __repr__ while a list's repr is under way -/
def spReprM (K : PySem.W.Frag) (C : Addr) (g : List Code) : Sp := fun vs H Q _ => ∃ (e : Addr) (o : Eff), vs = [.ref e] ∧ EffV K C H e o ∧ EffOk o ∧ GuM K g H ∧ Q (.str (shownE o)) H
theorem ok_reprM {f : Addr} {fd : FuncData} {g : List Code} (F : Fun K "__repr__" "Effect.__repr__" sRepr f fd) (T : EC K mg C) : GOkG P w K mg base g 1 f fd ["self"] (spReprM K C g) := by
  obtain ⟨oc, od, kV, doc, pm, an, cv, ct, osl, rfl, look, hcode⟩ := F.ex
  refine gok_ofG look hcode scRp (fun vs H Q E h => ?_) (fun A out s H vs Q E hgu hr h => ?_)
  · obtain ⟨e, o, rfl, _⟩ := h
    rfl
  · obtain ⟨e, o, rfl, h, ok, hc, k⟩ := h
    have body : ∃ t, PSs (cxOf CX0 P w K mg base ["self"] "Effect.__repr__" (defScope sRepr) f cv A out s H E).nox (defBody sRepr) t ∧ t { nx := fun _ H2 => Q .non H2, rt := Q } (start ["self"] [.ref e]) H := by
      refine ⟨_, pss_cons (ps_if (pt_cmpR op_isN (pe_fld (pv 0) rfl) pe_non (nomark _)) (pss_one (ps_ret pe_str)) pss_nil)
        (pss_one (ps_ret (pe_joined (.cons pe_str (.cons (pe_fmtM hgu hr.units (pe_fld (pv 0) rfl)) (.cons pe_str (.cons (pe_fmtM hgu hr.units (pe_fld (pv 0) rfl)) (.cons pe_str (.cons (pe_fmtR (pe_fld (pv 0) rfl)) (.cons pe_str .nil)))))))))), ?_⟩
      cases o with
      | none =>
        obtain ⟨dx, h1⟩ := NevAt.ex h
        exact ⟨_, rfl, e, C, dx, _, _, rfl, h1, T.cl, T.nN, eF_needs _ _ _, rfl, true, rfl, iteT k⟩
      | some o =>
        obtain ⟨xs, ys, p⟩ := o
        obtain ⟨dx, u, v, h1, h2, h3⟩ := EffAt.ex h
        obtain ⟨i1, i2, l1, l2, p0, p1⟩ := ok
        have n1 := nice_tuple (nice_strs i1)
        have n2 := nice_tuple (nice_strs i2)
        have z1 := n1.shownLe
        have z2 := n2.shownLe
        rw [List.length_map] at z1 z2
        have tl : (toString p : Str).length ≤ 13 := by
          have := PyData.shown_int_le (i := p) (by omega)
          exact this
        have big : ∀ m : Nat, m ≤ 400000 → m ≤ sizeLine := fun m hm => by
          rw [sizeLine_eq]
          omega
        have w0 : (Str.empty : Str).length = 0 := by decide +kernel
        have w1 : ("Effect(" : Str).length = 7 := by decide +kernel
        have w2 : (", " : Str).length = 2 := by decide +kernel
        have w3 : (", peak=" : Str).length = 7 := by decide +kernel
        have w4 : (")" : Str).length = 1 := by decide +kernel
        have lg : p.natAbs.log2 < 1920 := PySem.Flt.log2_lt_of (by decide) (Nat.lt_of_lt_of_le (show p.natAbs < 2 ^ 30 by show _ < 1073741824; omega) (Nat.pow_le_pow_right (by decide) (by decide)))
        refine ⟨_, rfl, e, C, dx, _, _, rfl, h1, T.cl, T.nN, eF_needs _ _ _, rfl, false, rfl, iteF ?_⟩
        refine ⟨_, rfl, big _ ?_, _, rfl, e, C, dx, _, _, rfl, h1, T.cl, T.nN, eF_needs _ _ _, u, xs, rfl, h2, hc, big _ (by omega), _, rfl, big _ ?_, _, rfl, big _ ?_, _, rfl, e, C, dx, _, _, rfl, h1, T.cl, T.nL, eF_leaves _ _ _, v, ys, rfl, h3, hc, big _ (by omega), _, rfl, big _ ?_, _, rfl, big _ ?_, _, rfl, e, C, dx, _, _, rfl, h1, T.cl, T.nH, eF_high _ _ _, .inr ⟨p, rfl, lg, _, rfl, big _ ?_, _, rfl, big _ ?_, k⟩⟩
        all_goals (simp only [len_add, w0, w1, w2, w3, w4]; omega)
    obtain ⟨t, a, b⟩ := body
    exact ⟨t, a.nox, b⟩
theorem ok_reprH {f : Addr} {fd : FuncData} {g : List Code} (F : Fun K "__repr__" "Effect.__repr__" sRepr f fd) (T : EC K mg C) : GOkH P w K mg base g 1 f fd ["self"] (spReprM K C g) := by
  obtain ⟨oc, od, kV, doc, pm, an, cv, ct, osl, rfl, look, hcode⟩ := F.ex
  refine gok_ofH look hcode scRp (fun vs H Q E h => ?_) (fun A out s H vs Q E p0 hgu hr h => ?_)
  · obtain ⟨e, o, rfl, _⟩ := h
    rfl
  · obtain ⟨e, o, rfl, h, ok, hc, k⟩ := h
    have body : ∃ t, PSs (L2H.cxH CX0 P w K mg base ["self"] "Effect.__repr__" (defScope sRepr) f cv A out s H E p0).nox (defBody sRepr) t ∧ t { nx := fun _ H2 => Q .non H2, rt := Q } (start ["self"] [.ref e]) H := by
      refine ⟨_, pss_cons (ps_if (pt_cmpR op_isN (pe_fld (pv 0) rfl) pe_non (nomark _)) (pss_one (ps_ret pe_str)) pss_nil)
        (pss_one (ps_ret (pe_joined (.cons pe_str (.cons (pe_fmtM hgu (roomH_units hr) (pe_fld (pv 0) rfl)) (.cons pe_str (.cons (pe_fmtM hgu (roomH_units hr) (pe_fld (pv 0) rfl)) (.cons pe_str (.cons (pe_fmtR (pe_fld (pv 0) rfl)) (.cons pe_str .nil)))))))))), ?_⟩
      cases o with
      | none =>
        obtain ⟨dx, h1⟩ := NevAt.ex h
        exact ⟨_, rfl, e, C, dx, _, _, rfl, h1, T.cl, T.nN, eF_needs _ _ _, rfl, true, rfl, iteT k⟩
      | some o =>
        obtain ⟨xs, ys, p⟩ := o
        obtain ⟨dx, u, v, h1, h2, h3⟩ := EffAt.ex h
        obtain ⟨i1, i2, l1, l2, p0, p1⟩ := ok
        have n1 := nice_tuple (nice_strs i1)
        have n2 := nice_tuple (nice_strs i2)
        have z1 := n1.shownLe
        have z2 := n2.shownLe
        rw [List.length_map] at z1 z2
        have tl : (toString p : Str).length ≤ 13 := by
          have := PyData.shown_int_le (i := p) (by omega)
          exact this
        have big : ∀ m : Nat, m ≤ 400000 → m ≤ sizeLine := fun m hm => by
          rw [sizeLine_eq]
          omega
        have w0 : (Str.empty : Str).length = 0 := by decide +kernel
        have w1 : ("Effect(" : Str).length = 7 := by decide +kernel
        have w2 : (", " : Str).length = 2 := by decide +kernel
        have w3 : (", peak=" : Str).length = 7 := by decide +kernel
        have w4 : (")" : Str).length = 1 := by decide +kernel
        have lg : p.natAbs.log2 < 1920 := PySem.Flt.log2_lt_of (by decide) (Nat.lt_of_lt_of_le (show p.natAbs < 2 ^ 30 by show _ < 1073741824; omega) (Nat.pow_le_pow_right (by decide) (by decide)))
        refine ⟨_, rfl, e, C, dx, _, _, rfl, h1, T.cl, T.nN, eF_needs _ _ _, rfl, false, rfl, iteF ?_⟩
        refine ⟨_, rfl, big _ ?_, _, rfl, e, C, dx, _, _, rfl, h1, T.cl, T.nN, eF_needs _ _ _, u, xs, rfl, h2, hc, big _ (by omega), _, rfl, big _ ?_, _, rfl, big _ ?_, _, rfl, e, C, dx, _, _, rfl, h1, T.cl, T.nL, eF_leaves _ _ _, v, ys, rfl, h3, hc, big _ (by omega), _, rfl, big _ ?_, _, rfl, big _ ?_, _, rfl, e, C, dx, _, _, rfl, h1, T.cl, T.nH, eF_high _ _ _, .inr ⟨p, rfl, lg, _, rfl, big _ ?_, _, rfl, big _ ?_, k⟩⟩
        all_goals (simp only [len_add, w0, w1, w2, w3, w4]; omega)
    obtain ⟨t, a, b⟩ := body
    exact ⟨t, a.nox, b⟩
def ReprHasM (P : Program) (w : World) (K : PySem.W.Frag) (mg : Str → Option Value) (base : Heap) (C : Addr) : Prop := ∃ f fd, (∀ g, GOkG P w K mg base g 1 f fd ["self"] (spReprM K C g)) ∧ (∀ g, GOkH P w K mg base g 1 f fd ["self"] (spReprM K C g)) ∧ PySem.W.findIn K (.ref C) "__repr__" = some (some (.ref f)) ∧ PySem.W.isFn K (.ref f) = true ∧ Binds K fd ["self"] []
end
end SE
namespace SE
open PySem PySem.Spec PyProof.Rows L2 TL
def ShD (d : PyData) : Prop := d.showable = true ∧ d.depth ≤ 20 ∧ d.shown.length ≤ sizeLine
/-- a value's repr: data or an effect -/
def ShW (K : PySem.W.Frag) (C : Addr) (H : Hp) (v : V) (t : Str) : Prop := (∃ d, DpX K H v d ∧ ShD d ∧ t = d.shown) ∨ (∃ e o, v = .ref e ∧ EffV K C H e o ∧ EffOk o ∧ t = shownE o)
theorem ShW.same {K : PySem.W.Frag} {C : Addr} {H H' : Hp} {v : V} {t : Str} (s : Same H H') (h : ShW K C H v t) : ShW K C H' v t := by
  rcases h with ⟨d, h1, h2⟩ | ⟨e, o, e1, h1, h2, h3⟩
  · exact .inl ⟨d, DpX.same s _ _ h1, h2⟩
  · exact .inr ⟨e, o, e1, h1.same s, h2, h3⟩
def rRepW (K : PySem.W.Frag) (C : Addr) : List V → Hp → VK → Prop := fun vs H Q => ∃ v t, vs = [v] ∧ ShW K C H v t ∧ ∀ H', Same H H' → Q (.str t) H'
theorem call_repW {X : Cx} {C : Addr} (RP : ReprHasM X.prog X.w X.K X.mg X.base C) (hgu : X.A.guards = some []) (hr : Room 5 X.A) : CallR X (.builtin "repr") (rRepW X.K C) := by
  obtain ⟨f, fd, F, _, r1, r2, r3⟩ := RP
  have hq : RoomQ X 5 X.A := ⟨L2H.roomH_of hr, rfl⟩
  intro pins s σ H xs us Q I r h
  obtain ⟨v, t, rfl, hv, k⟩ := h
  rcases hv with ⟨d, h1, ⟨q1, q2, q3⟩, rfl⟩ | ⟨e, o, rfl, h1, h2, rfl⟩
  · exact call_repX hgu hq.units pins s σ H _ us Q I r ⟨v, d, rfl, h1, q1, q2, q3, k H (Same.refl H)⟩
  · obtain ⟨dx, fs, hi⟩ := h1.ins
    exact call_reprEQ (callQ_calm (F []) hr.hd) r1 r2 r3 hgu (hq.mono (by decide)) pins s σ H _ us Q I r ⟨e, dx, fs, rfl, hi, e, o, rfl, h1, h2, GuM.nil, _, rfl, k H (Same.refl H)⟩
/-- a refusal as the law tells it -/
def refR (H : Hp) (w : V) (d : PyData) : Prop := ∃ L, w = .ref L ∧ H L = some (.lst [.str "refused", .str d.shown, .bl true])
/-- what the parser at the door makes of a value -/
def ResR (K : PySem.W.Frag) (C : Addr) (H : Hp) (w : V) (d : PyData) : Nat → Prop
  | 0 => (∃ z o, d = .str z ∧ wordOf z = some o ∧ WordR K H w (some o)) ∨ ((∀ z, d = .str z → wordOf z = none) ∧ refR H w d)
  | 1 => (∃ z o, d = .str z ∧ stepsL z = some o ∧ StepsR K H w (some o)) ∨ ((∀ z, d = .str z → stepsL z = none) ∧ refR H w d)
  | _ => (∃ z o, d = .str z ∧ effOf z = some o ∧ EffR K C H w (some o)) ∨ ((∀ z, d = .str z → effOf z = none) ∧ refR H w d)
/-- a value that the law hands to the parsers -/
def OkW (d : PyData) : Prop := (∃ z, d = .str z ∧ TxS 200 z ∧ FigS z) ∨ isStr d = false
section
variable {P : Program} {w : World} {K : PySem.W.Frag} {mg : Str → Option Value} {base : Heap} {C CX S : Addr}
abbrev pW (K : PySem.W.Frag) (CX : Addr) : Sp := spPar (α := List Str) K CX (fun H v o => WordR K H v o) wordOf (TxS 200)
abbrev pSt (K : PySem.W.Frag) (CX : Addr) : Sp := spPar (α := List Str) K CX (fun H v o => StepsR K H v o) stepsL (fun z => ∃ B, FitS B z)
abbrev pE (K : PySem.W.Frag) (C CX : Addr) : Sp := spPar (α := Eff) K CX (fun H v o => EffR K C H v o) effOf (fun z => TxS 200 z ∧ FigS z)
/-! ### _law_told -/
def spTold (K : PySem.W.Frag) (C : Addr) : Sp := fun xs H Q _ => ∃ (dr : Nat) (v : V) (d : PyData), xs = [.int dr, v] ∧ dr < 3 ∧ DpX K H v d ∧ ShD d ∧ (OkW d ∨ dr = 1 ∧ ∃ z B, d = .str z ∧ FitS B z) ∧ ∀ w H', Same H H' → ResR K C H' w d dr → Q w H'
abbrev nTd : List Str := ["_law_door", "_law_what", "e"]
theorem scTd : FnScope nTd ["_law_door", "_law_what"] (defScope sLawTold) := ⟨rfl, rfl, rfl, by decide +kernel, rfl, by decide +kernel, by decide +kernel⟩
def tsTd (K : PySem.W.Frag) (CX S : Addr) : Addr → Value → Option Addr → TS := fun a cls d =>
  tRet (tLst (tCons (tC (.str "refused")) (tCons (tCB (rRepX K) (tCons (tXf a cls d CX "value" (tVar 2)) tNil)) (tCons (tCB (rIsX K CX a cls d) (tCons (tVar 2) (tCons (tC (.ref S)) tNil))) tNil))))
def tbTd (K : PySem.W.Frag) (C CX : Addr) (W : WX) : TS :=
  tSeq (tIfS (tTest (tOp rEq (tVar 0) (tC (.int 0)))) (tRet (tCallS (pW K CX) (WE W) (tCons (tVar 1) tNil))) tNext)
    (tRet (tIf (tTest (tOp rEq (tVar 0) (tC (.int 1)))) (tCallS (pSt K CX) (WE W) (tCons (tVar 1) tNil)) (tCallS (pE K C CX) (WE W) (tCons (tVar 1) tNil))))
theorem ghas_told (D : Def K mg "_law_told" sLawTold) (T : XcC P w K mg base "InvalidText" "value" CX) (gS : mg "StackError" = some (.ref S)) (ki : PySem.W.kitOne K (.ref CX) (.ref S) = some true)
    (GW : HasX P w K mg base "parse_word" 4 ["text"] [] (pW K CX)) (GS : HasX P w K mg base "parse_steps" 5 ["text"] [] (pSt K CX)) (GE : HasX P w K mg base "parse_effect" 8 ["text"] [] (pE K C CX)) (B : Blt mg) (mp : mg "repr" = none) : GHas P w K mg base "_law_told" 9 ["_law_door", "_law_what"] (spTold K C) := by
  refine ghas_of D scTd (fun _ _ _ _ _ _ us hl => match us, hl with | [_, _], _ => rfl) (fun xs H Q E h => ?_) (fun f cv A out s H xs Q E hgu hr h => ?_)
  · obtain ⟨dr, v, d, rfl, _⟩ := h
    rfl
  · obtain ⟨dr, v, d, rfl, d3, hd, sd, hw, k⟩ := h
    have hr4 : Room 4 _ := hr.mono (by decide)
    have hr5 : Room 5 _ := hr.mono (by decide)
    refine ⟨_, pss_one (ps_try_as (i := 2) (tb := tbTd K C CX) (ts := tsTd K CX S) (Wout := fun _ _ _ _ => False) rfl rfl scTd.nd rfl rfl ⟨rfl, by decide, .inl T.gC⟩ takes0
        (fun W pn xe tk _ => pss_cons (ps_if (pt_cmpR op_eq (pv 0) pe_int (nomark _)) (pss_one (ps_ret (pe_hasS GW hr4 tk (pa_cons (pv 1) pa_nil)))) pss_nil)
          (pss_one (ps_ret (pe_ifExp (pt_cmpR op_eq (pv 0) pe_int (nomark _)) (pe_hasS GS hr5 tk (pa_cons (pv 1) pa_nil)) (pe_hasS GE hr tk (pa_cons (pv 1) pa_nil))))))
        (fun a oe cls d pn hz hf => pss_one (ps_ret (pe_lst (pa_cons pe_str (pa_cons (pe_callB (call_repX hgu hr.units) (by rfl) mp (by decide +kernel) (pa_cons (pe_xf T.xf T.noF hz hf (pv 2)) pa_nil)) (pa_cons (pe_callB (call_isX T hz hf) (by rfl) B.isi (by decide +kernel) (pa_cons (pv 2) (pa_cons (pe_glob (v := .ref S) rfl gS rfl) pa_nil))) pa_nil))))))), ?_⟩
    have caught : ∀ (D : Ends) (σ : L2.St), (∀ w H', Same H H' → refR H' w d → D.rt w H') → σ.length = 3 → bad CX H v (WE (wAs K (.ref CX) 2 (tsTd K CX S) (fun _ _ _ _ => False) D) σ) := by
      intro D σ k ls dd H' s' nd hx
      refine ⟨true, T.te, fun _ a na => ?_, fun z => Bool.noConfusion z⟩
      have g2 : (σ.set 2 (some (V.ref a)))[2]? = some (some (V.ref a)) := List.getElem?_set_self (by omega)
      refine ⟨_, g2, rfl, rfl, dd, _, v, rfl, hx, by simp [List.lookup], ?_⟩
      refine ⟨v, d, rfl, DpX.same s' _ _ hd, sd.1, sd.2.1, sd.2.2, ?_⟩
      refine ⟨_, g2, .ref S, .ref S, true, dd, _, rfl, rfl, fun u r => r, ki, rfl, hx, (by show 3 ≤ sizeLine; decide), fun L hL => ?_⟩
      exact k _ _ (s'.trans (Same.new hL)) ⟨L, rfl, upd_same⟩
    have go : ∀ (D : Ends), (∀ w H', Same H H' → ResR K C H' w d dr → D.rt w H') → tbTd K C CX (wAs K (.ref CX) 2 (tsTd K CX S) (fun _ _ _ _ => False) D) D [some (.int dr), some v, none] H := by
      intro D kk
      refine ⟨_, rfl, rfl, _, rfl, ?_⟩
      by_cases c0 : dr = 0
      · subst c0
        rw [decide_eq_true (by rfl)]
        refine iteT ⟨_, rfl, v, d, rfl, hd, ?_⟩
        rcases hw with (⟨z, rfl, tz, _⟩ | hn) | ⟨e, _⟩
        · exact .inl ⟨z, rfl, tz, fun o e w H' s' r => kk w H' s' (.inl ⟨z, o, rfl, e, r⟩), fun e => caught D _ (fun w H' s' r => kk w H' s' (.inr ⟨fun y ey => by cases ey; exact e, r⟩)) rfl⟩
        · exact .inr ⟨hn, caught D _ (fun w H' s' r => kk w H' s' (.inr ⟨fun y ey => (by subst ey; cases hn), r⟩)) rfl⟩
        · cases e
      rw [decide_eq_false (fun e => c0 (by have := V.int.inj e; omega))]
      refine iteF ?_
      refine ⟨_, rfl, rfl, _, rfl, ?_⟩
      by_cases c1 : dr = 1
      · subst c1
        rw [decide_eq_true (by rfl)]
        refine iteT ⟨_, rfl, v, d, rfl, hd, ?_⟩
        have go2 : ∀ z B, d = .str z → FitS B z → (∃ z, d = .str z ∧ (∃ B, FitS B z) ∧ (∀ o, stepsL z = some o → ∀ w H', Same H H' → StepsR K H' w (some o) → D.rt w H') ∧ (stepsL z = none → bad CX H v (WE (wAs K (.ref CX) 2 (tsTd K CX S) (fun _ _ _ _ => False) D) [some (.int (1 : Nat)), some v, none]))) := fun z B e tz =>
          ⟨z, e, ⟨B, tz⟩, fun o e2 w H' s' r => kk w H' s' (.inl ⟨z, o, e, e2, r⟩), fun e2 => caught D _ (fun w H' s' r => kk w H' s' (.inr ⟨fun y ey => by rw [e] at ey; cases ey; exact e2, r⟩)) rfl⟩
        rcases hw with (⟨z, e, tz, _⟩ | hn) | ⟨_, z, B, e, tz⟩
        · exact .inl (go2 z 200 e tz.fit)
        · exact .inr ⟨hn, caught D _ (fun w H' s' r => kk w H' s' (.inr ⟨fun y ey => (by subst ey; cases hn), r⟩)) rfl⟩
        · exact .inl (go2 z B e tz)
      rw [decide_eq_false (fun e => c1 (by have := V.int.inj e; omega))]
      obtain rfl : dr = 2 := by omega
      refine iteF ⟨_, rfl, v, d, rfl, hd, ?_⟩
      rcases hw with (⟨z, rfl, tz, ft⟩ | hn) | ⟨e, _⟩
      · exact .inl ⟨z, rfl, ⟨tz, ft⟩, fun o e w H' s' r => kk w H' s' (.inl ⟨z, o, rfl, e, r⟩), fun e => caught D _ (fun w H' s' r => kk w H' s' (.inr ⟨fun y ey => by cases ey; exact e, r⟩)) rfl⟩
      · exact .inr ⟨hn, caught D _ (fun w H' s' r => kk w H' s' (.inr ⟨fun y ey => (by subst ey; cases hn), r⟩)) rfl⟩
      · cases e
    exact go _ k
end
end SE
namespace SE
open PySem PySem.Spec PyProof.Rows L2 TL
theorem repr_sign {q c : Nat} (hq : q < 0x110000) (hc : c < 0x110000) : ∀ x ∈ Builtin.Str.reprChar q c, x < 0x110000 := by
  have hex : ∀ n : Nat, ∀ x ∈ List.replicate n 48 ++ (Nat.toDigits 16 c).map Char.toNat, x < 0x110000 := fun n x m => by
    rcases List.mem_append.mp m with m | m
    · rw [(List.mem_replicate.mp m).2]
      decide
    · obtain ⟨ch, _, rfl⟩ := List.mem_map.mp m
      have v := ch.valid
      show ch.val.toNat < 0x110000
      rcases v with v | ⟨_, v⟩
      · have : ch.val.toNat < 0xd800 := v
        omega
      · exact v
  intro x m
  unfold Builtin.Str.reprChar at m
  dsimp only at m
  split at m
  · simp only [List.mem_cons, List.not_mem_nil, or_false] at m
    rcases m with rfl | rfl
    · decide
    · exact hc
  split at m
  · simp only [List.mem_cons, List.not_mem_nil, or_false] at m
    rcases m with rfl | rfl <;> decide
  split at m
  · simp only [List.mem_cons, List.not_mem_nil, or_false] at m
    rcases m with rfl | rfl <;> decide
  split at m
  · simp only [List.mem_cons, List.not_mem_nil, or_false] at m
    rcases m with rfl | rfl <;> decide
  split at m
  · obtain rfl := List.mem_singleton.mp m
    exact hc
  split at m
  · rcases List.mem_append.mp m with m | m
    · simp only [List.mem_cons, List.not_mem_nil, or_false] at m
      rcases m with rfl | rfl <;> decide
    · exact hex _ x m
  split at m
  · rcases List.mem_append.mp m with m | m
    · simp only [List.mem_cons, List.not_mem_nil, or_false] at m
      rcases m with rfl | rfl <;> decide
    · exact hex _ x m
  · rcases List.mem_append.mp m with m | m
    · simp only [List.mem_cons, List.not_mem_nil, or_false] at m
      rcases m with rfl | rfl <;> decide
    · exact hex _ x m
theorem okA_repr {z : Str} (h : okA z = true) : okA (reprText z) = true := by
  have hq : reprQuote z < 0x110000 := by
    unfold reprQuote
    split <;> decide
  refine okA_mem.mpr fun x m => ?_
  have m : x ∈ ((z.cps.foldl (fun out c => out ++ (Builtin.Str.reprChar (reprQuote z) c).toArray) #[reprQuote z]).push (reprQuote z)).toList := m
  rw [Array.toList_push, ← Array.foldl_toList] at m
  have go : ∀ (l : List Nat) (acc : Array Nat), (∀ c ∈ l, c < 0x110000) → (∀ c ∈ acc.toList, c < 0x110000) → ∀ c ∈ (l.foldl (fun out c => out ++ (Builtin.Str.reprChar (reprQuote z) c).toArray) acc).toList, c < 0x110000 := fun l => by
    induction l with
    | nil => exact fun acc _ h => h
    | cons c r ih =>
      intro acc hl ha
      rw [List.foldl_cons]
      refine ih _ (fun d hd => hl d (List.mem_cons_of_mem _ hd)) fun d hd => ?_
      rw [Array.toList_append] at hd
      rcases List.mem_append.mp hd with hd | hd
      · exact ha d hd
      · exact repr_sign hq (hl c List.mem_cons_self) d hd
  rcases List.mem_append.mp m with m | m
  · exact go _ _ (okA_mem.mp h) (fun c mc => by
      have : c = reprQuote z := by simpa using mc
      rw [this]
      exact hq) x m
  · rw [List.mem_singleton.mp m]
    exact hq
/-- a value whose repr is short -/
def ShT (d : PyData) : Prop := ShD d ∧ okA d.shown = true ∧ d.shown.length ≤ 3000
theorem NX.shd {k B : Nat} {d : PyData} (h : NX k B d) (hk : k ≤ 20) (hB : B ≤ 2 ^ 20) : ShD d := ⟨h.sh, Nat.le_trans h.dep hk, h.shown (by omega) hB⟩
theorem TxS.sht {z : Str} (h : TxS 200 z) : ShT (.str z) := by
  refine ⟨h.nx.shd (by decide) (by decide), ?_, ?_⟩
  · simp only [PyData.shown]
    exact okA_repr h.ok
  · simp only [PyData.shown]
    have := StrLaws.reprText_len z fun c m => Nat.lt_trans (okA_mem.mp h.ok c m) (by decide)
    have := h.ln
    omega
def refD (d : PyData) : PyData := .list [.str "refused", .str d.shown, .bool true]
theorem shd_ref {d : PyData} (h : ShT d) : ShD (refD d) := by
  refine (nx_list (k := 0) (B := 3000) (ds := [.str "refused", .str d.shown, .bool true]) fun x m => ?_).shd (by decide) (by show 3 * (3000 + 1) ≤ 2 ^ 20; decide)
  rcases List.mem_cons.mp m with rfl | m
  · exact (TxS.nx (B := 3000) ⟨by decide +kernel, by decide +kernel⟩)
  · rcases List.mem_cons.mp m with rfl | m
    · exact TxS.nx ⟨h.2.1, h.2.2⟩
    · obtain rfl := List.mem_singleton.mp m
      exact ⟨rfl, by simp [PyData.depth], rfl, rfl, by simp [PyData.weight]⟩
theorem item_txs {x : Str} (h : Item x) : TxS 8 x := ⟨okA_mem.mpr fun c m => by have := h.low c m; omega, h.most⟩
section
variable {P : Program} {w : World} {K : PySem.W.Frag} {mg : Str → Option Value} {base : Heap} {C CX S : Addr}
theorem ref_sh {H : Hp} {w : V} {d : PyData} (h : ShT d) (r : refR H w d) : ShW K C H w (refD d).shown := by
  obtain ⟨L, rfl, e⟩ := r
  exact .inl ⟨refD d, .lst (.of e) (.cons (.str _) (.cons (.str _) (.cons (.bl _) .nil))), shd_ref h, rfl⟩
theorem word_sh {H : Hp} {w : V} {zs : List Str} (hI : ∀ x ∈ zs, Item x) (hl : zs.length ≤ 201) (r : WordR K H w (some zs)) : ShW K C H w (PyData.tuple (zs.map .str)).shown := by
  obtain ⟨a, rfl, q⟩ := r
  refine .inl ⟨_, .tup q (dps_strs zs), (nx_tuple (k := 0) (B := 8) fun d m => ?_).shd (by decide) ?_, rfl⟩
  · obtain ⟨x, mx, rfl⟩ := List.mem_map.mp m
    exact (item_txs (hI x mx)).nx
  · rw [List.length_map]
    have : zs.length * (8 + 1) ≤ 201 * (8 + 1) := Nat.mul_le_mul_right _ hl
    omega
theorem stepsL_len {z : Str} {ps : List Str} (e : stepsL z = some ps) : ps.length ≤ 1000 := by
  unfold stepsL at e
  split at e
  · cases e
    simp
  · split at e
    · rename_i q
      cases e
      exact of_decide_eq_true (Bool.and_eq_true_iff.mp q).1
    · cases e
theorem steps_sh {H : Hp} {w : V} {ps : List Str} (hl : ps.length ≤ 1000) (r : StepsR K H w (some ps)) : ShW K C H w (PyData.list (ps.map partD)).shown := by
  obtain ⟨a, us, rfl, q, hp, ha⟩ := r
  refine .inl ⟨_, .lst q (dpx_parts hp), (nx_list (k := 1) (B := 26) fun d m => ?_).shd (by decide) ?_, rfl⟩
  · obtain ⟨x, mx, rfl⟩ := List.mem_map.mp m
    have it : Item (restS x) := item_ok (Bool.and_eq_true_iff.mp (ha x mx)).2
    have := nx_tuple (k := 0) (B := 12) (ds := [actP x, .str (restS x)]) fun d m => by
      rcases List.mem_cons.mp m with rfl | m
      · exact nx_act (B := 8) x
      · obtain rfl := List.mem_singleton.mp m
        exact (item_txs it).nx.mono (Nat.le_refl _) (by decide)
    exact this
  · rw [List.length_map]
    have : ps.length * (26 + 1) ≤ 1000 * (26 + 1) := Nat.mul_le_mul_right _ hl
    omega
/-- what two parsers make of a value shows alike -/
theorem res_same {H1 H2 : Hp} {w1 w2 : V} {d : PyData} (hs : ShT d) (hd : OkW d) : ∀ j : Nat, ResR K C H1 w1 d j → ResR K C H2 w2 d j → ∃ t, ShW K C H1 w1 t ∧ ShW K C H2 w2 t := fun j r1 r2 => by
  have tz : ∀ z, d = .str z → TxS 200 z := fun z e => by
    rcases hd with ⟨y, e2, t, _⟩ | hn
    · rw [e] at e2
      cases e2
      exact t
    · rw [e] at hn
      cases hn
  match j, r1, r2 with
  | 0, r1, r2 =>
    rcases r1 with ⟨z, o, e, e1, q1⟩ | ⟨n1, q1⟩
    · rcases r2 with ⟨z2, o2, e', e2, q2⟩ | ⟨n2, _⟩
      · rw [e] at e'
        cases e'
        rw [e1] at e2
        cases e2
        obtain ⟨i, l⟩ := wordOf_ok (tz z e) e1
        exact ⟨_, word_sh i l q1, word_sh i l q2⟩
      · rw [n2 z e] at e1
        cases e1
    · rcases r2 with ⟨z2, o2, e', e2, q2⟩ | ⟨_, q2⟩
      · rw [n1 z2 e'] at e2
        cases e2
      · exact ⟨_, ref_sh hs q1, ref_sh hs q2⟩
  | 1, r1, r2 =>
    rcases r1 with ⟨z, o, e, e1, q1⟩ | ⟨n1, q1⟩
    · rcases r2 with ⟨z2, o2, e', e2, q2⟩ | ⟨n2, _⟩
      · rw [e] at e'
        cases e'
        rw [e1] at e2
        cases e2
        exact ⟨_, steps_sh (stepsL_len e1) q1, steps_sh (stepsL_len e1) q2⟩
      · rw [n2 z e] at e1
        cases e1
    · rcases r2 with ⟨z2, o2, e', e2, q2⟩ | ⟨_, q2⟩
      · rw [n1 z2 e'] at e2
        cases e2
      · exact ⟨_, ref_sh hs q1, ref_sh hs q2⟩
  | n + 2, r1, r2 =>
    rcases r1 with ⟨z, o, e, e1, q1⟩ | ⟨n1, q1⟩
    · rcases r2 with ⟨z2, o2, e', e2, q2⟩ | ⟨n2, _⟩
      · rw [e] at e'
        cases e'
        rw [e1] at e2
        cases e2
        obtain ⟨a, rfl, h1, ok⟩ := q1
        obtain ⟨b, rfl, h2, _⟩ := q2
        exact ⟨_, .inr ⟨a, o, rfl, h1, ok, rfl⟩, .inr ⟨b, o, rfl, h2, ok, rfl⟩⟩
      · rw [n2 z e] at e1
        cases e1
    · rcases r2 with ⟨z2, o2, e', e2, q2⟩ | ⟨_, q2⟩
      · rw [n1 z2 e'] at e2
        cases e2
      · exact ⟨_, ref_sh hs q1, ref_sh hs q2⟩
/-! ### _law_right -/
/-- what is due at a door: the law's own reading or none -/
def DueR (K : PySem.W.Frag) (C : Addr) (H : Hp) (u : V) (d : PyData) (j : Nat) : Prop := (u = .non ∧ ∀ w H', refR H' w d → ResR K C H' w d j) ∨ ((∃ a, u = .ref a) ∧ ∀ H', Same H H' → ResR K C H' u d j)
theorem due_none {H : Hp} {d : PyData} (h : isStr d = false) (j : Nat) : DueR K C H .non d j := .inl ⟨rfl, fun w H' r => by
  have q : ∀ {α : Type} {f : Str → Option α} (z : Str), d = .str z → f z = none := fun z e => by
    rw [e] at h
    cases h
  match j with
  | 0 => exact .inr ⟨q, r⟩
  | 1 => exact .inr ⟨q, r⟩
  | _ + 2 => exact .inr ⟨q, r⟩⟩
theorem due_word {H : Hp} {u : V} {z : Str} (r : WordR K H u (wordOf z)) : DueR K C H u (.str z) 0 := by
  cases e : wordOf z with
  | none =>
    rw [e] at r
    exact .inl ⟨r, fun w H' q => .inr ⟨fun y ey => by cases ey; exact e, q⟩⟩
  | some o =>
    rw [e] at r
    exact .inr ⟨⟨_, r.choose_spec.1⟩, fun H' s => .inl ⟨z, o, rfl, e, WordR.same s r⟩⟩
theorem due_steps {H : Hp} {u : V} {z : Str} (r : StepsR K H u (stepsL z)) : DueR K C H u (.str z) 1 := by
  cases e : stepsL z with
  | none =>
    rw [e] at r
    exact .inl ⟨r, fun w H' q => .inr ⟨fun y ey => by cases ey; exact e, q⟩⟩
  | some o =>
    rw [e] at r
    obtain ⟨a, us, rfl, q⟩ := id r
    exact .inr ⟨⟨_, rfl⟩, fun H' s => .inl ⟨z, o, rfl, e, StepsR.same s r⟩⟩
theorem due_eff {H : Hp} {u : V} {z : Str} (r : EffR K C H u (effOf z)) : DueR K C H u (.str z) 2 := by
  cases e : effOf z with
  | none =>
    rw [e] at r
    exact .inl ⟨r, fun w H' q => .inr ⟨fun y ey => by cases ey; exact e, q⟩⟩
  | some o =>
    rw [e] at r
    exact .inr ⟨⟨_, r.choose_spec.1⟩, fun H' s => .inl ⟨z, o, rfl, e, EffR.same s r⟩⟩
theorem DueR.same {H H' : Hp} {u : V} {d : PyData} {j : Nat} (s : Same H H') (h : DueR K C H u d j) : DueR K C H' u d j := by
  rcases h with h | ⟨h1, h2⟩
  · exact .inl h
  · exact .inr ⟨h1, fun H2 s2 => h2 H2 (s.trans s2)⟩
end
end SE
namespace SE
open PySem PySem.Spec PyProof.Rows L2 TL
section
variable {P : Program} {w : World} {K : PySem.W.Frag} {mg : Str → Option Value} {base : Heap} {C CX S : Addr}
def spRt (K : PySem.W.Frag) : Sp := fun xs H Q _ => ∃ (v : V) (d : PyData), xs = [v] ∧ DpX K H v d ∧ ShT d ∧ OkW d ∧ ∀ H', Same H H' → Q (.bl true) H'
abbrev nRt : List Str := ["_law_what", "_law_due", "_law_door", "_law_wanted"]
theorem scRt : FnScope nRt ["_law_what"] (defScope sRight) := ⟨rfl, rfl, rfl, by decide +kernel, rfl, by decide +kernel, by decide +kernel⟩
theorem has_right (D : Def K mg "_law_right" sRight) (RP : ReprHasM P w K mg base C) (GW : Has P w K mg base "_law_word_of" 2 ["_law_text"] [] (spWordT K)) (GS : Has P w K mg base "_law_steps_of" 2 ["_law_text"] [] (spLS K)) (GE : Has P w K mg base "_law_effect_of" 7 ["_law_text"] [] (spEffT K C))
    (GT : GHas P w K mg base "_law_told" 9 ["_law_door", "_law_what"] (spTold K C)) (B : Blt mg) (mr : mg "range" = none) (mp : mg "repr" = none) : GHas P w K mg base "_law_right" 10 ["_law_what"] (spRt K) := by
  refine ghas_of D scRt (fun _ _ _ _ _ _ us hl => match us, hl with | [_], _ => rfl) (fun xs H Q E h => ?_) (fun f cv A out s H xs Q E hgu hr h => ?_)
  · obtain ⟨v, d, rfl, _⟩ := h
    rfl
  · obtain ⟨v, d, rfl, hd, hs, hw, k⟩ := h
    have hr2 : Room 2 _ := hr.mono (by decide)
    have hr5 : Room 5 _ := hr.mono (by decide)
    have hr7 : Room 7 _ := hr.mono (by decide)
    refine ⟨_, pss_cons (ps_set (i := 1) scRt.nd rfl (.inl rfl) (pe_lst (pa_cons pe_non (pa_cons pe_non (pa_cons pe_non pa_nil)))))
      (Evl.pss_cut (ps_if (pt_val (pe_callB call_isi (by rfl) B.isi (by decide +kernel) (pa_cons (pv 0) (pa_cons (pe_bltn (v := .ty "str") (by rfl) B.str (by decide +kernel) rfl) pa_nil))))
        (pss_one (ps_set (i := 1) scRt.nd rfl (.inl rfl) (pe_lst (pa_cons (pe_has GW hr2 (pa_cons (pv 0) pa_nil)) (pa_cons (pe_has GS hr2 (pa_cons (pv 0) pa_nil)) (pa_cons (pe_has GE hr7 (pa_cons (pv 0) pa_nil)) pa_nil)))))) pss_nil)
      (pss_cons (ps_for PassesOwn.never rfl (pi_range1 (by rfl) mr (pa_cons pe_int pa_nil)) (pg_name (i := 2) scRt.nd rfl (.inl rfl))
        (pss_cons (ps_set (i := 3) scRt.nd rfl (.inl rfl) (pe_ifExp (pt_cmpR op_notN (pe_ix ix_list (pv 1) (pv 2) (fun _ _ => rfl)) pe_non (nomark _)) (pe_ix ix_list (pv 1) (pv 2) (fun _ _ => rfl)) (pe_lst (pa_cons pe_str (pa_cons (pe_callB (call_repX hgu hr.units) (by rfl) mp (by decide +kernel) (pa_cons (pv 0) pa_nil)) (pa_cons pe_bl pa_nil))))))
        (pss_one (ps_if (pt_cmpR op_ne (pe_callB (call_repW RP hgu hr5) (by rfl) mp (by decide +kernel) (pa_cons (pe_ghas GT hgu hr (pa_cons (pv 2) (pa_cons (pv 0) pa_nil))) pa_nil)) (pe_callB (call_repW RP hgu hr5) (by rfl) mp (by decide +kernel) (pa_cons (pv 3) pa_nil)) (nomark _)) (pss_one (ps_ret pe_bl)) pss_nil))))
      (pss_one (ps_ret pe_bl)))), ?_⟩
    refine ⟨by show 3 ≤ sizeLine; decide, fun L hL => ?_⟩
    have s1 := Same.new (o := .lst [.non, .non, .non]) hL
    have e1 := upd_same (H := H) (a := L) (o := .lst [.non, .non, .non])
    generalize upd H L (.lst [.non, .non, .non]) = H1 at s1 e1
    refine ⟨fun σ H2 => ∃ L u0 u1 u2 y2 y3, σ = [some v, some (.ref L), y2, y3] ∧ H2 L = some (.lst [u0, u1, u2]) ∧ DueR K C H2 u0 d 0 ∧ DueR K C H2 u1 d 1 ∧ DueR K C H2 u2 d 2 ∧ Same H H2, ?_, ?_⟩
    · have hd1 := DpX.same s1 _ _ hd
      refine ⟨_, rfl, _, .ty "str", .type (tyD d), .type "str", isStr d, rfl, .ty _, hd1.ty, kit_str d, _, rfl, ?_⟩
      rcases hw with ⟨z, rfl, tz, fz⟩ | hn
      · cases hd
        refine iteT ?_
        refine ⟨_, rfl, z, rfl, tz, fun u0 H2 s2 r0 => ⟨_, rfl, z, rfl, tz, fun u1 H3 s3 r1 => ⟨_, rfl, z, rfl, tz, fz, fun u2 H4 s4 r2 => ⟨by show 3 ≤ sizeLine; decide, fun M hM => ?_⟩⟩⟩⟩
        have s5 := Same.new (o := .lst [u0, u1, u2]) hM
        rw [← stepsL_of tz] at r1
        exact ⟨M, u0, u1, u2, _, _, rfl, upd_same, (due_word r0).same ((s3.trans s4).trans s5), (due_steps r1).same (s4.trans s5), (due_eff r2).same s5, (((s1.trans s2).trans s3).trans s4).trans s5⟩
      · rw [hn]
        exact iteF ⟨L, .non, .non, .non, _, _, rfl, e1, due_none hn 0, due_none hn 1, due_none hn 2, s1⟩
    rintro σ H2 ⟨L, u0, u1, u2, y2, y3, rfl, e2, d0, d1, d2, s2⟩
    refine ⟨3, rfl, by decide, by decide, for_range (lo := 0) (n := 3) (fun i σ H3 => ∃ y2 y3, σ = [some v, some (.ref L), y2, y3] ∧ Same H2 H3) ⟨_, _, rfl, Same.refl _⟩ ?_ ?_⟩
    · rintro i σ H3 hi ⟨y2, y3, rfl, s3⟩
      have e3 := s3 _ _ e2
      have hd3 := DpX.same (s2.trans s3) _ _ hd
      obtain ⟨u, hu, du⟩ : ∃ u, [u0, u1, u2][i]? = some u ∧ DueR K C H3 u d i := by
        match i, hi with
        | 0, _ => exact ⟨u0, rfl, d0.same s3⟩
        | 1, _ => exact ⟨u1, rfl, d1.same s3⟩
        | 2, _ => exact ⟨u2, rfl, d2.same s3⟩
      have at' : atI [u0, u1, u2] (0 + (i : Int)) = some u := at_of (j := i) (by omega) hu
      have fin : ∀ (wn : V) (H4 : Hp), Same H3 H4 → ResR K C H4 wn d i → tIfS (tTest (tOp rNe (tCB (rRepW K C) (tCons (tCall (spTold K C) [] E0 (tCons (tVar 2) (tCons (tVar 0) tNil))) tNil)) (tCB (rRepW K C) (tCons (tVar 3) tNil)))) (tRet (tC (.bl false))) tNext { nx := fun σ H5 => ∃ y2 y3, σ = [some v, some (.ref L), y2, y3] ∧ Same H2 H5, rt := Q } [some v, some (.ref L), some (.int (0 + (i : Int))), some wn] H4 := fun wn H4 s4 rw4 => by
        refine ⟨_, rfl, _, rfl, i, v, d, by rw [Int.zero_add]; rfl, hi, DpX.same s4 _ _ hd3, hs.1, .inl hw, fun tw H5 s5 r5 => ?_⟩
        have rw5 : ∃ t, ShW K C H5 tw t ∧ ShW K C H4 wn t := res_same hs hw i r5 rw4
        obtain ⟨t, h5, h4⟩ := rw5
        refine ⟨tw, t, rfl, h5, fun H6 s6 => ⟨_, rfl, wn, t, rfl, ShW.same s6 (ShW.same s5 h4), fun H7 s7 => ⟨rfl, _, rfl, ?_⟩⟩⟩
        rw [show (!decide (V.str t = V.str t)) = false from by simp]
        exact iteF ⟨_, _, rfl, s3.trans (s4.trans (s5.trans (s6.trans s7)))⟩
      refine ⟨_, rfl, _, rfl, L, _, _, u, rfl, rfl, .of e3, at', rfl, ?_⟩
      rcases du with ⟨rfl, r⟩ | ⟨⟨a, rfl⟩, r⟩
      · refine ⟨false, rfl, iteF ?_⟩
        refine ⟨_, rfl, v, d, rfl, hd3, hs.1.1, hs.1.2.1, hs.1.2.2, by show 3 ≤ sizeLine; decide, fun M hM => ?_⟩
        exact fin _ _ (Same.new hM) (r _ _ ⟨M, rfl, upd_same⟩)
      · refine ⟨true, rfl, iteT ?_⟩
        refine ⟨_, rfl, _, rfl, L, _, _, _, rfl, rfl, .of e3, at', ?_⟩
        exact fin _ _ (Same.refl _) (r _ (Same.refl _))
    · rintro σ H3 ⟨y2, y3, rfl, s3⟩
      exact k _ (s2.trans s3)
end
end SE
namespace SE
open PySem PySem.Spec PyProof.Rows L2 TL
/-! ### weights of texts -/
def wt (f : Nat → Nat) (L : List Nat) : Nat := (L.map f).sum
def mW (f : Nat → Nat) (z : Str) : Nat := wt f (tl z)
theorem wt_cons (f : Nat → Nat) (c : Nat) (L : List Nat) : wt f (c :: L) = f c + wt f L := by simp [wt]
theorem wt_app (f : Nat → Nat) (a b : List Nat) : wt f (a ++ b) = wt f a + wt f b := by simp [wt]
theorem wt_nil (f : Nat → Nat) : wt f [] = 0 := rfl
theorem spl_wt {s : Nat} (f : Nat → Nat) : ∀ (L acc : List Nat), ((spl [s] 0 acc L).map (wt f)).sum + (spl [s] 0 acc L).length * f s = wt f acc + wt f L + f s
  | [], acc => by
    rw [spl_nil, wt_nil]
    simp
  | c :: r, acc => by
    show ((if pre [s] (c :: r) = true then acc :: spl [s] 0 [] r else spl [s] 0 (acc ++ [c]) r).map (wt f)).sum + (if pre [s] (c :: r) = true then acc :: spl [s] 0 [] r else spl [s] 0 (acc ++ [c]) r).length * f s = _
    split
    · rename_i h
      have e : c = s := by
        have h : ((c :: r).take 1 == [s]) = true := h
        have := eq_of_beq h
        simpa using this
      subst e
      have ih := spl_wt (s := c) f r []
      rw [wt_nil] at ih
      rw [List.map_cons, List.sum_cons, List.length_cons, wt_cons, Nat.succ_mul]
      omega
    · have ih := spl_wt (s := s) f r (acc ++ [c])
      rw [wt_app, wt_cons, wt_nil] at ih
      rw [wt_cons]
      omega
theorem joinL_wt {s : Nat} (f : Nat → Nat) : ∀ ls : List (List Nat), ls ≠ [] → wt f (joinL [s] ls) + f s = (ls.map (wt f)).sum + ls.length * f s
  | [], h => absurd rfl h
  | [p], _ => by
    show wt f p + f s = _
    simp
  | p :: q :: r, _ => by
    have ih := joinL_wt (s := s) f (q :: r) (by simp)
    show wt f (p ++ ([s] ++ joinL [s] (q :: r))) + f s = _
    rw [wt_app, wt_app, List.map_cons, List.sum_cons, List.length_cons, Nat.succ_mul]
    have e : wt f [s] = f s := by simp [wt]
    omega
theorem split_wt (f : Nat → Nat) (z : Str) : ((Txt.split z sBlk).map (mW f)).sum + (Txt.split z sBlk).length * f 32 = mW f z + f 32 := by
  have e := split_spl z sBlk (by rw [tl_blk]; simp) (kind_ok (by decide +kernel))
  rw [tl_blk] at e
  have h := spl_wt (s := 32) f (tl z) []
  rw [← e, List.map_map, List.length_map, wt_nil] at h
  have e2 : (Txt.split z sBlk).map (mW f) = (Txt.split z sBlk).map (wt f ∘ tl) := rfl
  rw [e2]
  unfold mW
  omega
theorem join_wt (f : Nat → Nat) {ps : List Str} (h : ps ≠ []) : mW f (Txt.join sBlk ps) + f 32 = (ps.map (mW f)).sum + ps.length * f 32 := by
  have q := joinL_wt (s := 32) f (ps.map tl) (fun e => h (List.map_eq_nil_iff.mp e))
  rw [List.map_map, List.length_map] at q
  unfold mW
  rw [join_eq, tl_join, tl_blk, q]
  rfl
theorem mW_app (f : Nat → Nat) (a b : Str) : mW f (a ++ b) = mW f a + mW f b := by
  unfold mW
  rw [tl_append, wt_app]
theorem wt_len (L : List Nat) : wt (fun _ => 1) L = L.length := by
  induction L with
  | nil => rfl
  | cons c r ih => rw [wt_cons, ih, List.length_cons]; omega
theorem mW_len (z : Str) : mW (fun _ => 1) z = z.length := by
  rw [len_tl]
  exact wt_len _
def badC (c : Nat) : Nat := if c < 0x110000 then 0 else 1
theorem wt_bad : ∀ L : List Nat, wt badC L = 0 ↔ ∀ c ∈ L, c < 0x110000
  | [] => by simp [wt]
  | c :: r => by
    rw [wt_cons, Nat.add_eq_zero_iff, wt_bad r]
    constructor
    · rintro ⟨h1, h2⟩ d m
      rcases List.mem_cons.mp m with rfl | m
      · unfold badC at h1
        split at h1
        · assumption
        · cases h1
      · exact h2 d m
    · intro h
      exact ⟨if_pos (h c List.mem_cons_self), fun d m => h d (List.mem_cons_of_mem _ m)⟩
theorem mW_ok {z : Str} : okA z = true ↔ mW badC z = 0 := by
  rw [okA_mem]
  exact (wt_bad _).symm
def digC (c : Nat) : Nat := if digB c = true then 1 else 0
/-- z' is made of z by one bend -/
def BentR (z z' : Str) : Prop := (∃ sg : Str, sg.length ≤ 2 ∧ mW digC sg ≤ 1 ∧ okA sg = true ∧ ∀ f, mW f z' ≤ mW f z + mW f sg) ∨ (∃ q ∈ Txt.split z sBlk, ∀ f, mW f z' ≤ mW f z + mW f q + f 32)
theorem tl_cutTo {z : Str} {n : Nat} (h : n ≤ z.length) : tl (cutS z none (some (n : Int))) = (tl z).take n := by
  show ((tl z).drop (HT.sIx z.length 0 none)).take (HT.sIx z.length z.length (some (n : Int)) - HT.sIx z.length 0 none) = _
  rw [HT.sIx_nat, HT.sIx_none, Nat.min_eq_left h, List.drop_zero, Nat.sub_zero]
theorem tl_cutFrom {z : Str} (n : Nat) : tl (cutS z (some (n : Int)) none) = (tl z).drop n := by
  show ((tl z).drop (HT.sIx z.length 0 (some (n : Int)))).take (HT.sIx z.length z.length none - HT.sIx z.length 0 (some (n : Int))) = _
  rw [HT.sIx_nat, HT.sIx_none]
  have l : z.length = (tl z).length := len_tl z
  by_cases h : n ≤ z.length
  · rw [Nat.min_eq_left h]
    exact List.take_of_length_le (by rw [List.length_drop]; omega)
  · rw [Nat.min_eq_right (by omega), Nat.sub_self, List.take_zero]
    exact (List.drop_eq_nil_of_le (by omega)).symm
theorem bent_cut {z sg : Str} {n m : Nat} (h : n ≤ z.length) (hm : n ≤ m) (f : Nat → Nat) : mW f (cutS z none (some (n : Int)) ++ sg ++ cutS z (some (m : Int)) none) ≤ mW f z + mW f sg := by
  rw [mW_app, mW_app]
  unfold mW
  rw [tl_cutTo h, tl_cutFrom]
  have e : wt f (tl z) = wt f ((tl z).take n) + wt f ((tl z).drop n) := by rw [← wt_app, List.take_append_drop]
  have e2 : wt f ((tl z).drop m) ≤ wt f ((tl z).drop n) := by
    have : (tl z).drop m = ((tl z).drop n).drop (m - n) := by rw [List.drop_drop]; congr 1; omega
    rw [this]
    have q : wt f ((tl z).drop n) = wt f (((tl z).drop n).take (m - n)) + wt f (((tl z).drop n).drop (m - n)) := by rw [← wt_app, List.take_append_drop]
    omega
  omega
theorem bent_dup {z : Str} {k : Nat} {q : Str} (hq : (Txt.split z sBlk)[k]? = some q) (f : Nat → Nat) : mW f (Txt.join sBlk ((Txt.split z sBlk).take k ++ [q] ++ (Txt.split z sBlk).drop k)) ≤ mW f z + mW f q + f 32 := by
  have h1 := split_wt f z
  generalize Txt.split z sBlk = ps at hq h1
  have h2 := join_wt f (ps := ps.take k ++ [q] ++ ps.drop k) (by simp)
  have e1 : ((ps.take k ++ [q] ++ ps.drop k).map (mW f)).sum = (ps.map (mW f)).sum + mW f q := by
    rw [List.map_append, List.map_append, List.sum_append, List.sum_append, ← List.take_append_drop k ps, List.map_append, List.sum_append]
    simp only [List.take_append_drop, List.map_cons, List.map_nil, List.sum_cons, List.sum_nil]
    omega
  have e2 : (ps.take k ++ [q] ++ ps.drop k).length = ps.length + 1 := by
    simp only [List.length_append, List.length_take, List.length_drop, List.length_cons, List.length_nil]
    omega
  rw [e1, e2, Nat.succ_mul] at h2
  omega
theorem bent_del {z : Str} {k : Nat} {q : Str} (hq : (Txt.split z sBlk)[k]? = some q) (f : Nat → Nat) : mW f (Txt.join sBlk ((Txt.split z sBlk).take k ++ (Txt.split z sBlk).drop (k + 1))) ≤ mW f z := by
  have h1 := split_wt f z
  generalize Txt.split z sBlk = ps at hq h1
  by_cases hn : ps.take k ++ ps.drop (k + 1) = []
  · rw [hn]
    exact Nat.zero_le _
  have h2 := join_wt f hn
  have kl : k < ps.length := (List.getElem?_eq_some_iff.mp hq).1
  have e0 : ps = ps.take k ++ (ps[k] :: ps.drop (k + 1)) := by rw [List.getElem_cons_drop, List.take_append_drop]
  have e1 : (ps.map (mW f)).sum = ((ps.take k ++ ps.drop (k + 1)).map (mW f)).sum + mW f ps[k] := by
    conv => lhs; rw [e0]
    rw [List.map_append, List.map_append, List.sum_append, List.sum_append, List.map_cons, List.sum_cons]
    omega
  have e2 : ps.length = (ps.take k ++ ps.drop (k + 1)).length + 1 := by
    simp only [List.length_append, List.length_take, List.length_drop]
    omega
  rw [e1, e2, Nat.succ_mul] at h1
  omega
end SE
namespace SE
open PySem PySem.Spec PyProof.Rows L2 TL
theorem cutV_to {xs : List V} {k : Nat} (h : k ≤ xs.length) : cutV xs none (some (k : Int)) = xs.take k := by
  unfold cutV
  rw [HT.sIx_nat, HT.sIx_none, Nat.min_eq_left h, List.drop_zero, Nat.sub_zero]
theorem cutV_from {xs : List V} {k : Nat} (h : k ≤ xs.length) : cutV xs (some (k : Int)) none = xs.drop k := by
  unfold cutV
  rw [HT.sIx_nat, HT.sIx_none, Nat.min_eq_left h]
  exact List.take_of_length_le (by rw [List.length_drop]; omega)
theorem cutV_one {xs : List V} {k : Nat} {x : V} (h : xs[k]? = some x) : cutV xs (some (k : Int)) (some ((k + 1 : Nat) : Int)) = [x] := by
  have kl := (List.getElem?_eq_some_iff.mp h).1
  unfold cutV
  rw [HT.sIx_nat, HT.sIx_nat, Nat.min_eq_left (by omega), Nat.min_eq_left (by omega), Nat.add_sub_cancel_left]
  have e : xs.drop k = x :: xs.drop (k + 1) := by
    rw [← (List.getElem?_eq_some_iff.mp h).2]
    exact List.drop_eq_getElem_cons kl
  rw [e]
  rfl
def signs13 : List Str := ["a", ".", " ", "+", "-", "0", "1", "A", "^", ">", "\n", "zz", ""]
theorem signs_ok : ∀ s ∈ signs13, s.length ≤ 2 ∧ mW digC s ≤ 1 ∧ okA s = true := by decide +kernel
section
variable {P : Program} {w : World} {K : PySem.W.Frag} {mg : Str → Option Value} {base : Heap}
def spBt : Sp := fun xs H Q _ => ∃ (p : Addr) (z : Str), xs = [.ref p, .str z] ∧ Pool H p ∧ z.length ≤ 200 ∧ ∀ (z' : Str) (H' : Hp), But p H H' → Pool H' p → BentR z z' → Q (.str z') H'
abbrev nBt : List Str := ["_law_pool_here", "_law_text", "_law_at", "_law_way", "_law_sign", "_law_parts", "_law_spot"]
theorem scBt : FnScope nBt ["_law_pool_here", "_law_text"] (defScope sLawBent) := ⟨rfl, rfl, rfl, by decide +kernel, rfl, by decide +kernel, by decide +kernel⟩
theorem has_bent (D : Def K mg "_law_bent" sLawBent) (GT : Has P w K mg base "_law_take" 1 ["_law_pool_here", "_law_many"] [] spTake) (B : Blt mg) : Has P w K mg base "_law_bent" 2 ["_law_pool_here", "_law_text"] [] spBt := by
  refine has_of D scBt (fun _ _ _ _ _ _ us hl => match us, hl with | [_, _], _ => rfl) (fun xs H Q E h => ?_) (fun f cv A out s H xs Q E hr h => ?_)
  · obtain ⟨p, z, rfl, _⟩ := h
    rfl
  · obtain ⟨p, z, rfl, hp, lz, k⟩ := h
    refine ⟨_, pss_cons (ps_par (i := 2) (j := 3) (by rfl) scBt.nd rfl rfl (by decide) rfl rfl (pa_cons (pe_has GT hr (pa_cons (pv 0) (pa_cons (pe_op op_add (pe_callB call_len_str (by rfl) B.len PySem.boot_len (pa_cons (pv 1) pa_nil)) pe_int) pa_nil))) (pa_cons (pe_has GT hr (pa_cons (pv 0) (pa_cons pe_int pa_nil))) pa_nil)) (by rfl))
      (pss_cons (ps_set (i := 4) scBt.nd rfl (.inl rfl) (pe_ix ix_list (pe_lst (pa_cons pe_str (pa_cons pe_str (pa_cons pe_str (pa_cons pe_str (pa_cons pe_str (pa_cons pe_str (pa_cons pe_str (pa_cons pe_str (pa_cons pe_str (pa_cons pe_str (pa_cons pe_str (pa_cons pe_str (pa_cons pe_str pa_nil)))))))))))))) (pe_has GT hr (pa_cons (pv 0) (pa_cons pe_int pa_nil))) (fun _ _ => rfl)))
      (pss_cons (ps_if (pt_cmpR op_eq (pv 3) pe_int (nomark _)) (pss_one (ps_ret (pe_op op_add_str (pe_slice sl_str (pv 1) po_none (po_some (pv 2))) (pe_slice sl_str (pv 1) (po_some (pe_op op_add (pv 2) pe_int)) po_none)))) pss_nil)
      (pss_cons (ps_if (pt_cmpR op_eq (pv 3) pe_int (nomark _)) (pss_one (ps_ret (pe_op op_add_str (pe_op op_add_str (pe_slice sl_str (pv 1) po_none (po_some (pv 2))) (pv 4)) (pe_slice sl_str (pv 1) (po_some (pv 2)) po_none)))) pss_nil)
      (pss_cons (ps_if (pt_cmpR op_eq (pv 3) pe_int (nomark _)) (pss_one (ps_ret (pe_op op_add_str (pe_op op_add_str (pe_slice sl_str (pv 1) po_none (po_some (pv 2))) (pv 4)) (pe_slice sl_str (pv 1) (po_some (pe_op op_add (pv 2) pe_int)) po_none)))) pss_nil)
      (pss_cons (ps_set (i := 5) scBt.nd rfl (.inl rfl) (pe_split (pv 1) pe_str))
      (pss_cons (ps_set (i := 6) scBt.nd rfl (.inl rfl) (pe_has GT hr (pa_cons (pv 0) (pa_cons (pe_callB call_len_seq (by rfl) B.len PySem.boot_len (pa_cons (pv 5) pa_nil)) pa_nil))))
      (pss_cons (ps_if (pt_cmpR op_eq (pv 3) pe_int (nomark _)) (pss_one (ps_ret (pe_join pe_str (pe_op op_cat (pe_op op_cat (pe_slice sl_list (pv 5) po_none (po_some (pv 6))) (pe_slice sl_list (pv 5) (po_some (pv 6)) (po_some (pe_op op_add (pv 6) pe_int)))) (pe_slice sl_list (pv 5) (po_some (pv 6)) po_none))))) pss_nil)
      (pss_one (ps_ret (pe_join pe_str (pe_op op_cat (pe_slice sl_list (pv 5) po_none (po_some (pv 6))) (pe_slice sl_list (pv 5) (po_some (pe_op op_add (pv 6) pe_int)) po_none)))))))))))), ?_⟩
    have sz : ∀ {m : Nat}, m ≤ 5000 → m ≤ sizeLine := fun h => by rw [sizeLine_eq]; omega
    refine ⟨_, rfl, _, rfl, z, rfl, sz (by omega), _, _, rfl, rfl, p, _, rfl, hp, by omega, by omega, fun at_ H1 b1 p1 a0 a1 => ?_⟩
    refine ⟨_, rfl, p, 5, rfl, p1, by decide, by decide, fun way H2 b2 p2 w0 w1 => ⟨_, _, rfl, ?_⟩⟩
    obtain ⟨n, rfl⟩ : ∃ n : Nat, at_ = (n : Int) := ⟨at_.toNat, by omega⟩
    have nl : n ≤ z.length := by omega
    refine ⟨by show 13 ≤ sizeLine; decide, fun M hM => ?_⟩
    have s3 := Same.new (o := .lst (signs13.map V.str)) hM
    have e3 := upd_same (H := H2) (a := M) (o := .lst (signs13.map V.str))
    have p3 := p2.same s3
    have Mp : M ≠ p := p2.free hM
    refine ⟨_, rfl, p, 13, rfl, p3, by decide, by decide, fun r H3 b3 p3 r0 r1 => ?_⟩
    have e3 := b3 _ _ Mp e3
    have b03 := (((b1.trans b2).trans (But.of s3)).trans b3)
    obtain ⟨sg, hsg⟩ : ∃ sg, signs13[r.toNat]? = some sg := ⟨_, List.getElem?_eq_getElem (show r.toNat < 13 by omega)⟩
    obtain ⟨q1, q2, q3⟩ := signs_ok sg (List.mem_of_getElem? hsg)
    refine ⟨M, _, r, .str sg, rfl, rfl, .of e3, at_of (j := r.toNat) (by omega) (by rw [List.getElem?_map, hsg]; rfl), ?_⟩
    have c1 := cutS_length z none (some (n : Int))
    have c2 := cutS_length z (some (n : Int)) none
    have c3 := cutS_length z (some ((n + 1 : Nat) : Int)) none
    have n1 : (n : Int) + 1 = ((n + 1 : Nat) : Int) := by omega
    have len2 : (cutS z none (some (n : Int)) ++ sg).length = (cutS z none (some (n : Int))).length + sg.length := len_add _ _
    have e0 : ∀ f, mW f "" = 0 := fun f => rfl
    refine ⟨_, rfl, rfl, _, rfl, ?_⟩
    by_cases g0 : way = 0
    · rw [decide_eq_true (by rw [g0])]
      refine iteT ⟨_, rfl, _, rfl, n, rfl, z, rfl, sz (by omega), _, rfl, _, rfl, n, 1, rfl, rfl, _, rfl, z, rfl, sz (by omega), ?_⟩
      rw [n1]
      refine ⟨_, _, rfl, rfl, sz (by omega), k _ H3 b03 p3 (.inl ⟨"", by decide +kernel, by decide +kernel, by decide +kernel, fun f => ?_⟩)⟩
      have := bent_cut (sg := "") nl (Nat.le_succ n) f
      rw [mW_app, mW_app, e0] at this
      rw [mW_app, e0]
      exact this
    rw [decide_eq_false (fun e => g0 (V.int.inj e))]
    refine iteF ⟨_, rfl, rfl, _, rfl, ?_⟩
    by_cases g1 : way = 1
    · rw [decide_eq_true (by rw [g1])]
      refine iteT ⟨_, rfl, _, rfl, n, rfl, z, rfl, sz (by omega), _, rfl, _, _, rfl, rfl, sz (by omega), _, rfl, _, rfl, n, rfl, z, rfl, sz (by omega), _, _, rfl, rfl, sz (by omega), ?_⟩
      exact k _ H3 b03 p3 (.inl ⟨sg, q1, q2, q3, fun f => bent_cut nl (Nat.le_refl n) f⟩)
    rw [decide_eq_false (fun e => g1 (V.int.inj e))]
    refine iteF ⟨_, rfl, rfl, _, rfl, ?_⟩
    by_cases g2 : way = 2
    · rw [decide_eq_true (by rw [g2])]
      refine iteT ⟨_, rfl, _, rfl, n, rfl, z, rfl, sz (by omega), _, rfl, _, _, rfl, rfl, sz (by omega), _, rfl, _, rfl, n, 1, rfl, rfl, _, rfl, z, rfl, sz (by omega), ?_⟩
      rw [n1]
      exact ⟨_, _, rfl, rfl, sz (by omega), k _ H3 b03 p3 (.inl ⟨sg, q1, q2, q3, fun f => bent_cut nl (Nat.le_succ n) f⟩)⟩
    rw [decide_eq_false (fun e => g2 (V.int.inj e))]
    refine iteF ⟨_, rfl, ⟨_, rfl⟩, z, sBlk, rfl, rfl, (by decide +kernel), sz (by omega), fun L hL => ?_⟩
    obtain ⟨g3, g4, g5⟩ := split_ok tl_blk (by decide +kernel) z
    have dup := fun {m : Nat} {q : Str} (h : (Txt.split z sBlk)[m]? = some q) => bent_dup h
    have del := fun {m : Nat} {q : Str} (h : (Txt.split z sBlk)[m]? = some q) => bent_del h
    have br : ∀ z', ((∃ sg : Str, sg.length ≤ 2 ∧ mW digC sg ≤ 1 ∧ okA sg = true ∧ ∀ f, mW f z' ≤ mW f z + mW f sg) ∨ (∃ q ∈ Txt.split z sBlk, ∀ f, mW f z' ≤ mW f z + mW f q + f 32)) → BentR z z' := fun z' h => h
    generalize Txt.split z sBlk = ps at g3 g4 g5 dup del br
    have s4 := Same.new (o := .lst (ps.map V.str)) hL
    have e4 := upd_same (H := H3) (a := L) (o := .lst (ps.map V.str))
    have Lp : L ≠ p := p3.free hL
    have pl : 1 ≤ ps.length := List.length_pos_iff.mpr g5
    refine ⟨_, rfl, _, rfl, L, _, rfl, .inl (.of e4), p, _, rfl, p3.same s4, by rw [List.length_map]; omega, by rw [List.length_map]; omega, fun spot H5 b5 p5 t0 t1 => ?_⟩
    rw [List.length_map] at t1
    have e5 := b5 _ _ Lp e4
    have b05 := (b03.trans (But.of s4)).trans b5
    obtain ⟨m, rfl⟩ : ∃ m : Nat, spot = (m : Int) := ⟨spot.toNat, by omega⟩
    have ml : m < ps.length := by omega
    have hq : ps[m]? = some ps[m] := List.getElem?_eq_getElem ml
    have m1 : (m : Int) + 1 = ((m + 1 : Nat) : Int) := by omega
    have lm : (ps.map V.str).length = ps.length := List.length_map _
    have total : ∀ ys : List Str, (∀ y ∈ ys, y ∈ ps) → ys.length ≤ 500 → (ys.map (·.length)).sum + ys.length * sBlk.length ≤ 16777216 := fun ys h hl => by
      have a : (ys.map (·.length)).sum ≤ ys.length * 200 := by
        clear hl
        induction ys with
        | nil => exact Nat.zero_le _
        | cons y r ih =>
          have h1 := (g3 y (h y List.mem_cons_self)).2
          have h2 := ih fun x mx => h x (List.mem_cons_of_mem _ mx)
          rw [List.map_cons, List.sum_cons, List.length_cons, Nat.succ_mul]
          omega
      have b : sBlk.length = 1 := by decide +kernel
      rw [b]
      omega
    refine ⟨_, rfl, rfl, _, rfl, ?_⟩
    by_cases g6 : way = 3
    · rw [decide_eq_true (by rw [g6])]
      refine iteT ⟨⟨_, rfl⟩, _, rfl, _, rfl, m, rfl, L, _, rfl, .of e5, fun c1 h1 => ?_⟩
      have v1 := Same.new (o := .lst (cutV (ps.map V.str) none (some (m : Int)))) h1
      have w1 := upd_same (H := H5) (a := c1) (o := .lst (cutV (ps.map V.str) none (some (m : Int))))
      refine ⟨_, rfl, _, rfl, m, rfl, _, rfl, m, 1, rfl, rfl, _, rfl, L, _, rfl, .of (v1 _ _ e5), fun c2 h2 => ?_⟩
      rw [m1]
      have v2 := Same.new (o := .lst (cutV (ps.map V.str) (some (m : Int)) (some ((m + 1 : Nat) : Int)))) h2
      refine ⟨c1, c2, _, _, rfl, rfl, v2 _ _ w1, upd_same, ?_, fun c3 h3 => ?_⟩
      · have z1 := cutV_length (ps.map V.str) none (some (m : Int))
        have z2 := cutV_length (ps.map V.str) (some (m : Int)) (some ((m + 1 : Nat) : Int))
        exact sz (by omega)
      have v3 := Same.new (o := .lst (cutV (ps.map V.str) none (some (m : Int)) ++ cutV (ps.map V.str) (some (m : Int)) (some ((m + 1 : Nat) : Int)))) h3
      have w3 := upd_same (H := upd (upd H5 c1 (.lst (cutV (ps.map V.str) none (some (m : Int))))) c2 (.lst (cutV (ps.map V.str) (some (m : Int)) (some ((m + 1 : Nat) : Int))))) (a := c3) (o := .lst (cutV (ps.map V.str) none (some (m : Int)) ++ cutV (ps.map V.str) (some (m : Int)) (some ((m + 1 : Nat) : Int))))
      have v13 := v1.trans (v2.trans v3)
      refine ⟨_, rfl, _, rfl, m, rfl, L, _, rfl, .of (v13 _ _ e5), fun c4 h4 => ?_⟩
      have v4 := Same.new (o := .lst (cutV (ps.map V.str) (some (m : Int)) none)) h4
      refine ⟨c3, c4, _, _, rfl, rfl, v4 _ _ w3, upd_same, ?_, fun c5 h5 => ?_⟩
      · have z1 := cutV_length (ps.map V.str) none (some (m : Int))
        have z2 := cutV_length (ps.map V.str) (some (m : Int)) (some ((m + 1 : Nat) : Int))
        have z3 := cutV_length (ps.map V.str) (some (m : Int)) none
        rw [List.length_append]
        exact sz (by omega)
      have ey : cutV (ps.map V.str) none (some (m : Int)) ++ cutV (ps.map V.str) (some (m : Int)) (some ((m + 1 : Nat) : Int)) ++ cutV (ps.map V.str) (some (m : Int)) none = (ps.take m ++ [ps[m]] ++ ps.drop m).map V.str := by
        rw [cutV_to (by omega), cutV_from (by omega), cutV_one (x := .str ps[m]) (by rw [List.getElem?_map, hq]; rfl), List.map_append, List.map_append, List.map_take, List.map_drop]
        rfl
      rw [ey]
      have v5 := Same.new (o := .lst ((ps.take m ++ [ps[m]] ++ ps.drop m).map V.str)) h5
      refine ⟨sBlk, c5, ps.take m ++ [ps[m]] ++ ps.drop m, rfl, rfl, .inl (.of upd_same), total _ (fun y my => ?_) ?_, k _ _ (b05.trans (But.of (v13.trans (v4.trans v5)))) (p5.same (v13.trans (v4.trans v5))) (br _ (.inr ⟨ps[m], List.getElem_mem ml, fun f => dup hq f⟩))⟩
      · rcases List.mem_append.mp my with my | my
        · rcases List.mem_append.mp my with my | my
          · exact List.mem_of_mem_take my
          · rw [List.mem_singleton.mp my]
            exact List.getElem_mem ml
        · exact List.mem_of_mem_drop my
      · simp only [List.length_append, List.length_take, List.length_drop, List.length_cons, List.length_nil]
        omega
    rw [decide_eq_false (fun e => g6 (V.int.inj e))]
    refine iteF ⟨⟨_, rfl⟩, _, rfl, _, rfl, m, rfl, L, _, rfl, .of e5, fun c1 h1 => ?_⟩
    have v1 := Same.new (o := .lst (cutV (ps.map V.str) none (some (m : Int)))) h1
    have w1 := upd_same (H := H5) (a := c1) (o := .lst (cutV (ps.map V.str) none (some (m : Int))))
    refine ⟨_, rfl, _, rfl, m, 1, rfl, rfl, _, rfl, L, _, rfl, .of (v1 _ _ e5), fun c2 h2 => ?_⟩
    rw [m1]
    have v2 := Same.new (o := .lst (cutV (ps.map V.str) (some ((m + 1 : Nat) : Int)) none)) h2
    refine ⟨c1, c2, _, _, rfl, rfl, v2 _ _ w1, upd_same, ?_, fun c3 h3 => ?_⟩
    · have z1 := cutV_length (ps.map V.str) none (some (m : Int))
      have z2 := cutV_length (ps.map V.str) (some ((m + 1 : Nat) : Int)) none
      exact sz (by omega)
    have ey : cutV (ps.map V.str) none (some (m : Int)) ++ cutV (ps.map V.str) (some ((m + 1 : Nat) : Int)) none = (ps.take m ++ ps.drop (m + 1)).map V.str := by
      rw [cutV_to (by omega), cutV_from (by omega), List.map_append, List.map_take, List.map_drop]
    rw [ey]
    have v3 := Same.new (o := .lst ((ps.take m ++ ps.drop (m + 1)).map V.str)) h3
    refine ⟨sBlk, c3, ps.take m ++ ps.drop (m + 1), rfl, rfl, .inl (.of upd_same), total _ (fun y my => ?_) ?_, k _ _ (b05.trans (But.of (v1.trans (v2.trans v3)))) (p5.same (v1.trans (v2.trans v3))) (br _ (.inl ⟨"", by decide +kernel, by decide +kernel, by decide +kernel, fun f => del hq f⟩))⟩
    · rcases List.mem_append.mp my with my | my
      · exact List.mem_of_mem_take my
      · exact List.mem_of_mem_drop my
    · simp only [List.length_append, List.length_take, List.length_drop]
      omega
end
end SE
namespace SE
open PySem PySem.Spec PyProof.Rows L2 TL
/-! ### the texts that the law draws -/
/-- characters, at most n of them, at most m digits -/
structure GoodT (n m : Nat) (z : Str) : Prop where
  ok : okA z = true
  ln : z.length ≤ n
  dg : mW digC z ≤ m
theorem digV_lt : ∀ L : List Nat, (∀ c ∈ L, 48 ≤ c ∧ c ≤ 57) → digV L < 10 ^ L.length := by
  intro L
  have key : ∀ (L : List Nat) (n : Int), (∀ c ∈ L, 48 ≤ c ∧ c ≤ 57) → L.foldl (fun (n : Int) (c : Nat) => 10 * n + ((c : Int) - 48)) n < (n + 1) * 10 ^ L.length := by
    intro L
    induction L with
    | nil => intro n _; simp; omega
    | cons c r ih =>
      intro n h
      rw [List.foldl_cons, List.length_cons, Int.pow_succ]
      have hc := h c List.mem_cons_self
      have := ih (10 * n + ((c : Int) - 48)) fun d m => h d (List.mem_cons_of_mem _ m)
      have p : (0 : Int) < 10 ^ r.length := Int.pow_pos (by decide)
      have q : (10 * n + ((c : Int) - 48) + 1) * 10 ^ r.length ≤ (10 * (n + 1)) * 10 ^ r.length := Int.mul_le_mul_of_nonneg_right (by omega) (Int.le_of_lt p)
      have e : (10 * (n + 1)) * (10 : Int) ^ r.length = (n + 1) * ((10 : Int) ^ r.length * 10) := by
        rw [Int.mul_comm 10 (n + 1), Int.mul_assoc, Int.mul_comm 10]
      omega
  intro h
  have := key L 0 h
  rw [Int.zero_add, Int.one_mul] at this
  exact this
theorem dig_all : ∀ L : List Nat, (∀ c ∈ L, 48 ≤ c ∧ c ≤ 57) → wt digC L = L.length
  | [], _ => rfl
  | c :: r, h => by
    rw [wt_cons, dig_all r fun d m => h d (List.mem_cons_of_mem _ m), List.length_cons, show digC c = 1 from if_pos ((digB_iff c).mpr (h c List.mem_cons_self))]
    omega
theorem sum_mem {f : Str → Nat} {p : Str} : ∀ {ps : List Str}, p ∈ ps → f p ≤ (ps.map f).sum
  | q :: r, h => by
    rw [List.map_cons, List.sum_cons]
    rcases List.mem_cons.mp h with rfl | h
    · omega
    · have := sum_mem (f := f) h
      omega
theorem dig32 : digC 32 = 0 := by decide +kernel
theorem piece_dg {z p : Str} (h : p ∈ Txt.split z sBlk) : mW digC p ≤ mW digC z := by
  have h1 := split_wt digC z
  rw [dig32] at h1
  have := sum_mem (f := mW digC) h
  omega
theorem GoodT.fig {n m : Nat} {z : Str} (h : GoodT n m z) (hm : m ≤ 8) : FigS z := fun p hp x e => by
  obtain ⟨_, a, _, rfl, _⟩ := numOf_ok e
  have h1 := digV_lt (tl p) a
  have h2 : (tl p).length ≤ 8 := by
    have := piece_dg hp
    rw [show mW digC p = (tl p).length from dig_all _ a] at this
    have := h.dg
    omega
  have h3 : (10 : Int) ^ (tl p).length ≤ 10 ^ 8 := by
    have : (10 : Nat) ^ (tl p).length ≤ 10 ^ 8 := Nat.pow_le_pow_right (by decide) h2
    exact_mod_cast this
  have h4 : (10 : Int) ^ 8 ≤ 1000000000 := by decide
  omega
theorem GoodT.txs {m : Nat} {z : Str} (h : GoodT 200 m z) : TxS 200 z := ⟨h.ok, h.ln⟩
theorem GoodT.okw {z : Str} (h : GoodT 200 8 z) : OkW (.str z) := .inl ⟨z, rfl, h.txs, h.fig (by decide)⟩
theorem GoodT.mono {n n2 m m2 : Nat} {z : Str} (h : GoodT n m z) (a : n ≤ n2) (b : m ≤ m2) : GoodT n2 m2 z := ⟨h.ok, Nat.le_trans h.ln a, Nat.le_trans h.dg b⟩
/-- one bend: B bounds the pieces -/
theorem GoodT.bent {n m B : Nat} {z z' : Str} (h : GoodT n m z) (hB : ∀ q ∈ Txt.split z sBlk, q.length ≤ B) (b : BentR z z') : GoodT (n + B + 2) (m + m + 1) z' ∧ (mW digC z' ≤ m + 1 ∨ mW digC z' ≤ m + m) := by
  have b32 : badC 32 = 0 := by decide +kernel
  have hz : mW badC z = 0 := mW_ok.mp h.ok
  have h1 := h.ln
  have h2 := h.dg
  rcases b with ⟨sg, l2, d1, ok, k⟩ | ⟨q, mq, k⟩
  · have k1 := k (fun _ => 1)
    have k2 := k digC
    have k3 := k badC
    rw [mW_len, mW_len, mW_len] at k1
    rw [hz, mW_ok.mp ok] at k3
    exact ⟨⟨mW_ok.mpr (by omega), by omega, by omega⟩, .inl (by omega)⟩
  · have k1 := k (fun _ => 1)
    have k2 := k digC
    have k3 := k badC
    rw [mW_len, mW_len, mW_len] at k1
    rw [dig32] at k2
    have q1 := hB q mq
    have q2 := piece_dg mq
    have q3 : mW badC q = 0 := by
      have e := split_wt badC z
      rw [b32] at e
      have := sum_mem (f := mW badC) mq
      omega
    rw [hz, q3, b32] at k3
    exact ⟨⟨mW_ok.mpr (by omega), by omega, by omega⟩, .inr (by omega)⟩
theorem GoodT.bent1 {z z' : Str} (h : GoodT 64 2 z) (hB : ∀ q ∈ Txt.split z sBlk, q.length ≤ 28) (b : BentR z z') : GoodT 94 4 z' := by
  obtain ⟨⟨a, c, _⟩, d⟩ := h.bent hB b
  exact ⟨a, c, by omega⟩
theorem GoodT.bent2 {z z' : Str} (h : GoodT 94 4 z) (b : BentR z z') : GoodT 200 8 z' := by
  have hB : ∀ q ∈ Txt.split z sBlk, q.length ≤ 94 := fun q mq => Nat.le_trans ((split_ok tl_blk (by decide +kernel) z).1 q mq).2 h.ln
  obtain ⟨⟨a, c, _⟩, d⟩ := h.bent hB b
  exact ⟨a, Nat.le_trans c (by decide), by omega⟩
end SE
namespace SE
open PySem PySem.Spec PyProof.Rows L2 TL
/-! ### the long texts -/
abbrev sPa : Str := Str.ofString "+a"
def longT (n : Nat) : Str := Txt.join sBlk (List.replicate n sPa)
theorem split_long {n : Nat} (h : 1 ≤ n) : Txt.split (longT n) sBlk = List.replicate n sPa := by
  refine split_join tl_blk (by decide +kernel) (fun e => ?_) fun p m => ?_
  · have := congrArg List.length e
    rw [List.length_replicate] at this
    simp only [List.length_nil] at this
    omega
  · rw [(List.mem_replicate.mp m).2]
    decide +kernel
theorem sum_rep (f : Str → Nat) (x : Str) : ∀ n : Nat, ((List.replicate n x).map f).sum = n * f x
  | 0 => by simp
  | n + 1 => by
    rw [List.replicate_succ, List.map_cons, List.sum_cons, sum_rep f x n, Nat.succ_mul]
    omega
theorem long_w (f : Nat → Nat) {n : Nat} (h : 1 ≤ n) : mW f (longT n) + f 32 = n * mW f sPa + n * f 32 := by
  have q := join_wt f (ps := List.replicate n sPa) (fun e => by
    have := congrArg List.length e
    rw [List.length_replicate] at this
    simp only [List.length_nil] at this
    omega)
  rw [List.length_replicate, sum_rep] at q
  exact q
theorem long_tx {n : Nat} (h : 1 ≤ n) (hn : n ≤ 1001) : TxS 4000 (longT n) := by
  have b32 : badC 32 = 0 := by decide +kernel
  have bpa : mW badC sPa = 0 := by decide +kernel
  have h1 := long_w badC h
  have h2 := long_w (fun _ => 1) h
  rw [mW_len, mW_len] at h2
  have l2 : sPa.length = 2 := by decide +kernel
  rw [l2] at h2
  rw [b32, bpa] at h1
  exact ⟨mW_ok.mpr (by omega), by omega⟩
theorem long_fit {n : Nat} (h : 1 ≤ n) (hn : n ≤ 1001) : FitS 2 (longT n) := by
  refine ⟨long_tx h hn, fun p m => ?_, ?_⟩
  · rw [split_long h] at m
    rw [(List.mem_replicate.mp m).2]
    decide +kernel
  · rw [split_long h, List.length_replicate]
    omega
theorem long_ne {n : Nat} (h : 1 ≤ n) : longT n ≠ sDot := fun e => by
  have h1 := split_long h
  rw [e] at h1
  have h2 : Txt.split sDot sBlk = [sDot] := by decide +kernel
  rw [h2] at h1
  have h3 : sDot ∈ List.replicate n sPa := by rw [← h1]; exact List.mem_singleton.mpr rfl
  have := (List.mem_replicate.mp h3).2
  exact absurd this (by decide +kernel)
theorem long_steps : stepsL (longT 1000) = some (List.replicate 1000 sPa) := by
  unfold stepsL
  rw [if_neg (long_ne (by decide)), split_long (by decide), List.length_replicate]
  have : (List.replicate 1000 sPa).all partS = true := List.all_eq_true.mpr fun x m => by
    rw [(List.mem_replicate.mp m).2]
    decide +kernel
  rw [this]
  rfl
theorem long_none : stepsL (longT 1001) = none := by
  unfold stepsL
  rw [if_neg (long_ne (by decide)), split_long (by decide), List.length_replicate]
  rfl
theorem long_sht {n : Nat} (h : 1 ≤ n) (hn : n ≤ 1001) : ShD (.str (longT n)) := (long_tx h hn).nx.shd (by decide) (by decide)
/-! ### the known values -/
def knownS : List Str := ["", "-", ".", "+", "a", "+a", "-a", "--a", "+a  -b", " +a", "+a ", "a.", ".a", "a..b", "never", "never ", "a > b ^ 0", "a > b ^ 00", "a > b.c ^ 0", "a > b.c ^ 1", "a > b ^ -1", "a > b ^ +1", "a>b^0", "a > b ^", "- > - ^ 0", "A", "abcdefghi", "+a -", "a > b ^ 1_0"]
theorem known_good : ∀ z ∈ knownS, okA z = true ∧ z.length ≤ 200 ∧ mW digC z ≤ 8 := by decide +kernel
theorem known_ok {z : Str} (h : z ∈ knownS) : OkW (.str z) ∧ ShT (.str z) := by
  obtain ⟨h1, h2, h3⟩ := known_good z h
  have g : GoodT 200 8 z := ⟨h1, h2, h3⟩
  exact ⟨g.okw, g.txs.sht⟩
def knownD : List PyData := [.none, .bool true, .int 5, .list [], .tuple [.str "a"], .dict [], .list [.str "+a"]]
theorem knownD_ok : ∀ d ∈ knownD, isStr d = false ∧ d.showable = true ∧ d.depth ≤ 20 ∧ d.shown.length ≤ 3000 ∧ okA d.shown = true := by
  intro d m
  simp only [knownD, List.mem_cons, List.not_mem_nil, or_false] at m
  rcases m with rfl | rfl | rfl | rfl | rfl | rfl | rfl <;> exact ⟨by decide +kernel, by decide +kernel, by decide +kernel, by decide +kernel, by decide +kernel⟩
theorem knownD_sht {d : PyData} (h : d ∈ knownD) : OkW d ∧ ShT d := by
  obtain ⟨h1, h2, h3, h4, h5⟩ := knownD_ok d h
  exact ⟨.inr h1, ⟨h2, h3, by rw [sizeLine_eq]; omega⟩, h5, h4⟩
section
variable {P : Program} {w : World} {K : PySem.W.Frag} {mg : Str → Option Value} {base : Heap}
/-! ### parse_steps where nothing is refused -/
def spPS (K : PySem.W.Frag) : Sp := fun xs H Q _ => ∃ (z : Str) (B : Nat) (ps : List Str), xs = [.str z] ∧ FitS B z ∧ stepsL z = some ps ∧ ∀ w H', Same H H' → StepsR K H' w (some ps) → Q w H'
theorem scPS : FnScope ["text", "steps"] ["text"] (defScope sParseSteps) := ⟨rfl, rfl, rfl, by decide +kernel, rfl, by decide +kernel, by decide +kernel⟩
theorem has_ps (D : Def K mg "parse_steps" sParseSteps) (G : Has P w K mg base "steps_in" 4 ["text"] [] (spStepsT K)) (B : Blt mg) : Has P w K mg base "parse_steps" 5 ["text"] [] (spPS K) := by
  refine has_of D scPS (fun _ _ _ _ _ _ us hl => match us, hl with | [_], _ => rfl) (fun xs H Q E h => ?_) (fun f cv A out s H xs Q E hr h => ?_)
  · obtain ⟨z, Bn, ps, rfl, _⟩ := h
    rfl
  · obtain ⟨z, Bn, ps, rfl, hz, e, k⟩ := h
    refine ⟨_, pss_cons (ps_set (i := 1) scPS.nd rfl (.inl rfl) (pe_ifExp (pt_val (pe_callB call_isi (by rfl) B.isi (by decide +kernel) (pa_cons (pv 0) (pa_cons (pe_bltn (v := .ty "str") (by rfl) B.str (by decide +kernel) rfl) pa_nil)))) (pe_has G hr (pa_cons (pv 0) pa_nil)) pe_non))
      (pss_cons (ps_if (pt_cmpR op_isN (pv 1) pe_non (nomark _)) pss_never pss_nil)
      (pss_one (ps_ret (pv 1)))), ?_⟩
    refine ⟨_, rfl, _, .ty "str", .type "str", .type "str", true, rfl, .ty _, .base (.str _), kit_ty (by decide +kernel), true, rfl, iteT ?_⟩
    refine ⟨_, rfl, z, Bn, rfl, hz, fun v H1 s1 r => ?_⟩
    rw [e] at r
    have k1 := k v H1 s1 r
    obtain ⟨a, us, rfl, _⟩ := r
    exact ⟨_, rfl, rfl, false, rfl, iteF ⟨_, rfl, k1⟩⟩
end
end SE
namespace SE
open PySem PySem.Spec PyProof.Rows L2 TL
/-! ### the texts before they are bent -/
theorem wt_zero {f : Nat → Nat} : ∀ {L : List Nat}, (∀ c ∈ L, f c = 0) → wt f L = 0
  | [], _ => rfl
  | c :: r, h => by
    rw [wt_cons, h c List.mem_cons_self, wt_zero fun d m => h d (List.mem_cons_of_mem _ m)]
theorem dig_low {c : Nat} (h : ¬ (48 ≤ c ∧ c ≤ 57)) : digC c = 0 := if_neg fun e => h ((digB_iff c).mp e)
theorem word_dg {zs : List Str} (h : ∀ z ∈ zs, Item z) : mW digC (wordT zs) = 0 := wt_zero fun c m => dig_low (by have := wordT_in h m; omega)
theorem word_bad {zs : List Str} (h : ∀ z ∈ zs, Item z) : mW badC (wordT zs) = 0 := wt_zero fun c m => if_pos (by have := wordT_in h m; omega)
theorem good_word {zs : List Str} (h : ∀ z ∈ zs, Item z) (hl : zs.length ≤ 3) : GoodT 64 2 (wordT zs) ∧ ∀ q ∈ Txt.split (wordT zs) sBlk, q.length ≤ 28 := by
  have l := wordT_len h
  refine ⟨⟨mW_ok.mpr (word_bad h), by omega, by rw [word_dg h]; omega⟩, fun q m => ?_⟩
  have := ((split_ok tl_blk (by decide +kernel) (wordT zs)).1 q m).2
  omega
theorem step_w {f : Nat → Nat} (h43 : f 43 = 0) (h45 : f 45 = 0) (hl : ∀ c, 97 ≤ c ∧ c ≤ 122 → f c = 0) {s : Stp} (h : Item s.2) : mW f (stepT s) = 0 := by
  unfold mW
  rw [stepT_tl, wt_cons, wt_zero fun c m => hl c (h.tl m)]
  split
  · rw [h43]
  · rw [h45]
theorem sum_zero {f : Str → Nat} : ∀ {ps : List Str}, (∀ p ∈ ps, f p = 0) → (ps.map f).sum = 0
  | [], _ => rfl
  | p :: r, h => by
    rw [List.map_cons, List.sum_cons, h p List.mem_cons_self, sum_zero fun x m => h x (List.mem_cons_of_mem _ m)]
theorem good_steps {ss : List Stp} (h : ∀ s ∈ ss, Item s.2) (hn : ss ≠ []) (hl : ss.length ≤ 3) : GoodT 64 2 (stepsT ss) ∧ ∀ q ∈ Txt.split (stepsT ss) sBlk, q.length ≤ 28 := by
  have l := stepsT_len h
  have e : stepsT ss = Txt.join sBlk (ss.map stepT) := if_neg hn
  have w : ∀ f : Nat → Nat, f 43 = 0 → f 45 = 0 → f 32 = 0 → (∀ c, 97 ≤ c ∧ c ≤ 122 → f c = 0) → mW f (stepsT ss) = 0 := fun f h1 h2 h3 h4 => by
    have q := join_wt f (ps := ss.map stepT) (fun e => hn (List.map_eq_nil_iff.mp e))
    rw [sum_zero fun p m => by
      obtain ⟨s, ms, rfl⟩ := List.mem_map.mp m
      exact step_w h1 h2 h4 (h s ms), h3, ← e] at q
    simpa using q
  refine ⟨⟨mW_ok.mpr (w badC (by decide +kernel) (by decide +kernel) (by decide +kernel) fun c hc => if_pos (by omega)), by omega, by rw [w digC (by decide +kernel) (by decide +kernel) dig32 fun c hc => dig_low (by omega)]; omega⟩, fun q m => ?_⟩
  rw [split_steps h hn] at m
  obtain ⟨s, ms, rfl⟩ := List.mem_map.mp m
  exact Nat.le_trans (stepT_len (h s ms)) (by decide)
theorem good_eff {xs ys : List Str} {r : Int} (h1 : ∀ z ∈ xs, Item z) (h2 : ∀ z ∈ ys, Item z) (l1 : xs.length ≤ 3) (l2 : ys.length ≤ 3) (r0 : 0 ≤ r) (r1 : r < 12) : GoodT 64 2 (effT (some (xs, ys, r))) ∧ ∀ q ∈ Txt.split (effT (some (xs, ys, r))) sBlk, q.length ≤ 28 := by
  have a := wordT_len h1
  have b := wordT_len h2
  have n := numOk r0 (show r < 100 by omega)
  have c := n.len
  have e : effT (some (xs, ys, r)) = Txt.join sBlk (fiveT xs ys r) := rfl
  have w := fun f : Nat → Nat => join_wt f (ps := fiveT xs ys r) (by unfold fiveT; simp)
  rw [← e] at w
  have s5 : ∀ f : Nat → Nat, ((fiveT xs ys r).map (mW f)).sum = mW f (wordT xs) + (mW f (Str.ofString ">") + (mW f (wordT ys) + (mW f (Str.ofString "^") + mW f (toString r : Str)))) := fun f => by
    unfold fiveT
    simp only [List.map_cons, List.map_nil, List.sum_cons, List.sum_nil, Nat.add_zero]
  have w1 := w fun _ => 1
  have w2 := w digC
  have w3 := w badC
  rw [s5] at w1 w2 w3
  have e5 : (fiveT xs ys r).length = 5 := rfl
  rw [e5] at w1 w2 w3
  simp only [mW_len] at w1
  have g1 : (Str.ofString ">").length = 1 := by decide +kernel
  have g2 : (Str.ofString "^").length = 1 := by decide +kernel
  have g3 : mW digC (Str.ofString ">") = 0 := by decide +kernel
  have g4 : mW digC (Str.ofString "^") = 0 := by decide +kernel
  have g5 : mW badC (Str.ofString ">") = 0 := by decide +kernel
  have g6 : mW badC (Str.ofString "^") = 0 := by decide +kernel
  have g7 : mW digC (toString r : Str) = (toString r : Str).length := by
    rw [len_tl]
    exact dig_all _ n.all
  have g8 : mW badC (toString r : Str) = 0 := wt_zero fun c m => if_pos (by have := n.all c m; omega)
  have b32 : badC 32 = 0 := by decide +kernel
  rw [word_dg h1, word_dg h2, g3, g4, g7, dig32] at w2
  rw [word_bad h1, word_bad h2, g5, g6, g8, b32] at w3
  refine ⟨⟨mW_ok.mpr (by omega), by omega, by omega⟩, fun q m => ?_⟩
  rw [split_eff h1 h2 r0] at m
  unfold fiveT at m
  simp only [List.mem_cons, List.not_mem_nil, or_false] at m
  rcases m with rfl | rfl | rfl | rfl | rfl <;> omega
end SE
namespace SE
open PySem PySem.Spec PyProof.Rows L2
/-! ### a dict of the module with two keys -/
def TwoKeys (p q : Str) : List DictEntry → Prop
  | [] => True
  | e :: r => (∃ x t, e.key = .str x t ∧ (x = p ∨ x = q)) ∧ TwoKeys p q r
theorem two_none {p q z : Str} (h1 : z ≠ p) (h2 : z ≠ q) : ∀ {l : List DictEntry}, TwoKeys p q l → l.find? (fun e => e.key.isStr z) = none ∧ l.any (fun e => e.refKey) = false
  | [], _ => ⟨rfl, rfl⟩
  | e :: r, ⟨⟨x, t, hk, hx⟩, qq⟩ => by
    obtain ⟨q1, q2⟩ := two_none h1 h2 qq
    have e1 : e.key.isStr z = false := by
      rw [hk]
      have ne : x ≠ z := by
        rcases hx with hx | hx
        · rw [hx]; exact fun w => h1 w.symm
        · rw [hx]; exact fun w => h2 w.symm
      simpa [Value.isStr] using ne
    have e2 : e.refKey = false := by
      unfold DictEntry.refKey
      rw [hk]
    rw [List.find?_cons, e1, List.any_cons, e2]
    exact ⟨q1, q2⟩
theorem two_ns {K : PySem.W.Frag} {w : World} {d : Addr} {es : Array DictEntry} {n : Nat} {p q : Str} (KD : KDict K w d es n) (ok : TwoKeys p q es.toList) (z : Str) (h1 : z ≠ p) (h2 : z ≠ q) : PySem.W.nsIn K d z = some none := by
  obtain ⟨q1, q2⟩ := two_none h1 h2 ok
  unfold PySem.W.nsIn
  rw [KD.at_]
  dsimp only
  rw [q1]
  dsimp only
  rw [q2]
  rfl
end SE
namespace SE
open PySem PySem.Spec PyProof.Rows L2 TL
/-! ### the parts of the law's turn -/
theorem five_tl (xs ys : List Str) (p : Int) : TL.tl (effT (some (xs, ys, p))) = TL.tl (wordT xs) ++ ([32] ++ ([62] ++ ([32] ++ (TL.tl (wordT ys) ++ ([32] ++ ([94] ++ ([32] ++ TL.tl (toString p : Str)))))))) := by
  unfold effT fiveT
  dsimp only
  rw [join_eq, tl_join, tl_blk]
  have a : TL.tl (Str.ofString ">") = [62] := by decide +kernel
  have b : TL.tl (Str.ofString "^") = [94] := by decide +kernel
  show TL.tl (wordT xs) ++ ([32] ++ (TL.tl (Str.ofString ">") ++ ([32] ++ (TL.tl (wordT ys) ++ ([32] ++ (TL.tl (Str.ofString "^") ++ ([32] ++ TL.tl (toString p : Str)))))))) = _
  rw [a, b]
theorem join5 (xs ys : List Str) (p : Int) : wordT xs ++ Str.ofString " > " ++ wordT ys ++ Str.ofString " ^ " ++ (toString p : Str) = effT (some (xs, ys, p)) := by
  refine ext_tl ?_
  have a : TL.tl (Str.ofString " > ") = [32, 62, 32] := by decide +kernel
  have b : TL.tl (Str.ofString " ^ ") = [32, 94, 32] := by decide +kernel
  rw [five_tl, tl_append, tl_append, tl_append, tl_append, a, b]
  simp [List.append_assoc]
theorem join_pos {us : List Str} (h : ∀ z ∈ us, Item z) (hn : us ≠ []) : (Txt.join sDot us).length ≠ 0 := by
  cases us with
  | nil => exact absurd rfl hn
  | cons z r =>
    rw [len_tl, join_eq, tl_join, List.map_cons]
    obtain ⟨c, t, h1, _⟩ := item_head (h z (List.mem_cons_self ..))
    rw [h1]
    obtain ⟨u, hu⟩ := joinL_head (S := TL.tl sDot) (c := c) (t := t) (r := r.map TL.tl)
    rw [hu]
    simp
/-- the truth of the joined text -/
theorem or_word {us : List Str} (h : ∀ z ∈ us, Item z) : (if (((Txt.join sDot us).length : Int) != 0) = true then Txt.join sDot us else sDash) = wordT us := by
  by_cases e : us = []
  · subst e
    decide +kernel
  · have := join_pos h e
    rw [if_pos (by rw [bne_iff_ne]; omega)]
    unfold wordT
    rw [if_neg e]
theorem join_fit {us : List Str} (h : ∀ z ∈ us, Item z) (l : us.length ≤ 3) (d : Str) (hd : d.length = 1) : (us.map (·.length)).sum + us.length * d.length ≤ 16777216 := by
  have b := sum_lens (B := 8) (ts := us) fun t m => (h t m).most
  rw [hd]
  omega
theorem pick2 {zs : List Str} (l : zs.length = 2) {r : Int} (r0 : 0 ≤ r) (r1 : r < 2) : ∃ z, z ∈ zs ∧ atI (zs.map V.str) r = some (.str z) := pick_str r0 (by omega)
theorem sign2 {r : Int} (r0 : 0 ≤ r) (r1 : r < 2) : ∃ b : Bool, atI [V.str "+", V.str "-"] r = some (.str (if b = true then sPlus else sDash)) := by
  by_cases e : r = 0
  · subst e
    exact ⟨true, at_of (j := 0) rfl rfl⟩
  · exact ⟨false, at_of (j := 1) (by omega) rfl⟩
theorem Same.but3 {H H3 H4 : Hp} {p : Addr} (s : Same H H3) (hp : H p = none) (b : But p H3 H4) : Same H H4 := fun c o e => b c o (ne_of_none e hp) (s c o e)
end SE
namespace SE
open PySem PySem.Spec PyProof.Rows L2 TL
abbrev rCatS0 : R2 := fun x y H Q => ∃ i j, x = .str i ∧ y = .str j ∧ i.length + j.length ≤ sizeLine ∧ Q (.str (i ++ j)) H
section
variable {P : Program} {w : World} {K : PySem.W.Frag} {mg : Str → Option Value} {base : Heap} {C : Addr}
def spLaw (K : PySem.W.Frag) : Sp := fun xs H Q _ => ∃ (a : Addr) (ns : List Int), xs = [.ref a] ∧ SqL K H a (ns.map V.int) ∧ ns.length ≤ 63 ∧ ∀ H', Q (.bl true) H'
abbrev nLaw : List Str := ["_law_script", "_law_known", "_law_what", "_law_k", "_law_pool_here", "_law_items_here", "_law_turn", "_law_one", "_law_other", "_law_steps_here", "_law_text", "_law_bent_here"]
theorem scLaw : FnScope nLaw ["_law_script"] (defScope sLaw) := ⟨rfl, rfl, rfl, by decide +kernel, rfl, by decide +kernel, by decide +kernel⟩
theorem ok_law {f : Addr} {fd : FuncData} (F : Fun K "law" "law" sLaw f fd) (GPl : Has P w K mg base "_law_pool" 1 ["_law_script", "_law_k"] [] (spPool K)) (GT : Has P w K mg base "_law_take" 1 ["_law_pool_here", "_law_many"] [] spTake) (GIt : Has P w K mg base "_law_items" 3 ["_law_pool_here", "_law_many"] [] spItems)
    (GW : Has P w K mg base "_law_word" 2 ["_law_pool_here", "_law_items_here", "_law_most"] [] spWord) (GB : Has P w K mg base "_law_bent" 2 ["_law_pool_here", "_law_text"] [] spBt) (GP : Has P w K mg base "parse_steps" 5 ["text"] [] (spPS K)) (GTo : GHas P w K mg base "_law_told" 9 ["_law_door", "_law_what"] (spTold K C)) (GR : GHas P w K mg base "_law_right" 10 ["_law_what"] (spRt K))
    (B : Blt mg) (mr : mg "range" = none) (mx : mg "max" = none) (mn : mg "min" = none) (mst : mg "str" = none) : GOk P w K mg base 11 f fd ["_law_script"] (spLaw K) := by
  refine gok_mk F scLaw (fun xs H Q E h => ?_) (fun cv A out s H xs Q E hgu hr h => ?_)
  · obtain ⟨a, ns, rfl, _⟩ := h
    rfl
  · obtain ⟨a, ns, rfl, hS, hlen, k⟩ := h
    have hr1 : Room 1 _ := hr.mono (by decide)
    have hr2 : Room 2 _ := hr.mono (by decide)
    have hr3 : Room 3 _ := hr.mono (by decide)
    have hr5 : Room 5 _ := hr.mono (by decide)
    have hr9 : Room 9 _ := hr.mono (by decide)
    refine ⟨_, (pss_cons (ps_set (i := 1) scLaw.nd rfl (.inl rfl) (pe_lst (pa_cons pe_str (pa_cons pe_str (pa_cons pe_str (pa_cons pe_str (pa_cons pe_str (pa_cons pe_str (pa_cons pe_str (pa_cons pe_str (pa_cons pe_str (pa_cons pe_str (pa_cons pe_str (pa_cons pe_str (pa_cons pe_str (pa_cons pe_str (pa_cons pe_str (pa_cons pe_str pa_nil))))))))))))))))))
      (pss_cons (ps_set (i := 1) scLaw.nd rfl (.inl rfl) (pe_op op_cat (pv 1) (pe_lst (pa_cons pe_str (pa_cons pe_str (pa_cons pe_str (pa_cons pe_str (pa_cons pe_str (pa_cons pe_str (pa_cons pe_str pa_nil))))))))))
      (pss_cons (ps_expr (pe_bm PySem.F.plainAttrs_list PySem.F.slot_list_append PySem.F.type_list_append mt_append (pv 1) (pa_cons pe_str pa_nil)))
      (pss_cons (ps_for PassesOwn.never rfl (pi_list (pe_op op_cat (pv 1) (pe_lst (pa_cons pe_non (pa_cons pe_bl (pa_cons pe_int (pa_cons (pe_lst pa_nil) (pa_cons (pe_tup (pa_cons pe_str pa_nil)) (pa_cons pe_dnewK (pa_cons (pe_lst (pa_cons pe_str pa_nil)) (pa_cons pe_str (pa_cons pe_str (pa_cons pe_str (pa_cons pe_str (pa_cons pe_str pa_nil))))))))))))))) (pg_name (i := 2) scLaw.nd rfl (.inl rfl)) (pss_one (ps_if (pt_not (pt_val (pe_ghas GR hgu hr (pa_cons (pv 2) pa_nil)))) (pss_one (ps_ret pe_bl)) pss_nil)))
      (pss_cons (ps_for PassesOwn.never rfl (pi_range1 (by rfl) mr (pa_cons (pe_callB (call_max2 rfl) (by rfl) mx (by decide +kernel) (pa_cons pe_int (pa_cons (pe_callB (call_min2 rfl) (by rfl) mn (by decide +kernel) (pa_cons (pe_callB call_len_seq (by rfl) B.len PySem.boot_len (pa_cons (pv 0) pa_nil)) (pa_cons pe_int pa_nil))) pa_nil))) pa_nil)) (pg_name (i := 3) scLaw.nd rfl (.inl rfl))
        (pss_cons (ps_set (i := 4) scLaw.nd rfl (.inr rfl) (pe_has GPl hr1 (pa_cons (pv 0) (pa_cons (pv 3) pa_nil))))
        (pss_cons (ps_set (i := 5) scLaw.nd rfl (.inr rfl) (pe_has GIt hr3 (pa_cons (pv 4) (pa_cons pe_int pa_nil))))
        (pss_cons (ps_asg (pe_lc (own := [("_law_turn", 6)]) (g := gName 6) (tt := tYes) (te := tOrT K (tM1 (fun x xs H Q => ∃ a p, ∃ ys : List Str, x = .str a ∧ xs = [.ref p] ∧ (SqL K H p (ys.map V.str) ∨ SqT K H p (ys.map V.str)) ∧ (ys.map (·.length)).sum + ys.length * a.length ≤ 16777216 ∧ Q (.str (Txt.join a ys)) H) (tC (.str ".")) (tCall spWord [] E0 (tCons (tVar 4) (tCons (tVar 5) (tCons (tC (.int 3)) tNil))))) (tC (.str "-"))) rfl scLaw.nd (pi_range1 (by rfl) mr (pa_cons pe_int pa_nil)) (blkOk_by (own := [("_law_turn", 6)]) (N := nLaw) (sc := defScope sLaw) (by decide +kernel)) (fun _ _ _ _ _ => pg_name (i := 6) scLaw.nd rfl (.inl rfl)) (fun _ _ _ _ _ => pts_nil) (fun _ _ _ _ _ => (pe_orT (pe_join pe_str (pe_has GW hr2 (pa_cons (pv 4) (pa_cons (pv 5) (pa_cons pe_int pa_nil))))) (pe_one pe_str)))) (pg_lst rfl (pgs_cons (pg_name (i := 7) scLaw.nd rfl (.inl rfl)) (pgs_cons (pg_name (i := 8) scLaw.nd rfl (.inl rfl)) pgs_nil))))
        (pss_cons (ps_set (i := 9) scLaw.nd rfl (.inl rfl) (pe_join pe_str (pe_lc (own := [("_law_turn", 6)]) (g := gName 6) (tt := tYes) (te := tOp rCatS0 (tOp (rIxL K) (tLst (tCons (tC (.str "+")) (tCons (tC (.str "-")) tNil))) (tCall spTake [] E0 (tCons (tVar 4) (tCons (tC (.int 2)) tNil)))) (tOp (rIxL K) (tVar 5) (tCall spTake [] E0 (tCons (tVar 4) (tCons (tC (.int 2)) tNil))))) rfl scLaw.nd (pi_range1 (by rfl) mr (pa_cons pe_int pa_nil)) (blkOk_by (own := [("_law_turn", 6)]) (N := nLaw) (sc := defScope sLaw) (by decide +kernel)) (fun _ _ _ _ _ => pg_name (i := 6) scLaw.nd rfl (.inl rfl)) (fun _ _ _ _ _ => pts_nil) (fun _ _ _ _ _ => pe_op op_add_str (pe_ix ix_list (pe_lst (pa_cons pe_str (pa_cons pe_str pa_nil))) (pe_has GT hr1 (pa_cons (pv 4) (pa_cons pe_int pa_nil))) (fun _ _ => rfl)) (pe_ix ix_list (pv 5) (pe_has GT hr1 (pa_cons (pv 4) (pa_cons pe_int pa_nil))) (fun _ _ => rfl))))))
        (pss_one (ps_for PassesOwn.never rfl (pi_list (pe_lst (pa_cons (pv 7) (pa_cons (pv 9) (pa_cons (pe_op op_add_str (pe_op op_add_str (pe_op op_add_str (pe_op op_add_str (pv 7) pe_str) (pv 8)) pe_str) (pe_callTy call_str_int (by rfl) mst (by decide +kernel) (pa_cons (pe_has GT hr1 (pa_cons (pv 4) (pa_cons pe_int pa_nil))) pa_nil))) pa_nil))))) (pg_name (i := 10) scLaw.nd rfl (.inl rfl)) (pss_one (ps_for PassesOwn.never rfl (pi_range1 (by rfl) mr (pa_cons pe_int pa_nil)) (pg_name (i := 6) scLaw.nd rfl (.inl rfl)) (pss_cons (ps_set (i := 11) scLaw.nd rfl (.inl rfl) (pe_has GB hr2 (pa_cons (pv 4) (pa_cons (pv 10) pa_nil)))) (pss_one (ps_if (PW.pt (pw_or (pt_not (pt_val (pe_ghas GR hgu hr (pa_cons (pv 10) pa_nil)))) (pw_or (pt_not (pt_val (pe_ghas GR hgu hr (pa_cons (pv 11) pa_nil)))) (pw_or1 (pt_not (pt_val (pe_ghas GR hgu hr (pa_cons (pe_has GB hr2 (pa_cons (pv 4) (pa_cons (pv 11) pa_nil))) pa_nil)))))))) (pss_one (ps_ret pe_bl)) pss_nil))))))))))))
      (pss_cons (ps_if (pt_cmpR op_ne (pe_callB call_len_seq (by rfl) B.len PySem.boot_len (pa_cons (pe_has GP hr5 (pa_cons (pe_join pe_str (pe_op op_rep (pe_lst (pa_cons pe_str pa_nil)) pe_int)) pa_nil)) pa_nil)) pe_int (nomark _)) (pss_one (ps_ret pe_bl)) pss_nil)
      (pss_one (ps_ret (pe_cmpR (op_eqD hr.units) (pe_slice sl_list (pe_ghas GTo hgu hr9 (pa_cons pe_int (pa_cons (pe_join pe_str (pe_op op_rep (pe_lst (pa_cons pe_str pa_nil)) pe_int)) pa_nil))) po_none (po_some pe_int)) (pe_lst (pa_cons pe_str pa_nil)) (nomark _)))))))))), ?_⟩
    refine ⟨by show 16 ≤ sizeLine; decide, fun L1 n1 => ?_⟩
    refine ⟨_, rfl, by show 7 ≤ sizeLine; decide, fun L2 n2 => ⟨L1, L2, _, _, rfl, rfl, (Same.new n2) _ _ upd_same, upd_same, by show 23 ≤ sizeLine; decide, fun A nA => ?_⟩⟩
    have nHA : H A = none := ((Same.new n1).trans (Same.new n2)).free nA
    refine ⟨_, rfl, .inl ⟨rfl, _, .of upd_same⟩, A, _, _, rfl, rfl, upd_same, by show 23 < sizeLine; decide, ?_⟩
    have s3 : Same H (upd (upd (upd (upd H L1 (.lst [V.str "", V.str "-", V.str ".", V.str "+", V.str "a", V.str "+a", V.str "-a", V.str "--a", V.str "+a  -b", V.str " +a", V.str "+a ", V.str "a.", V.str ".a", V.str "a..b", V.str "never", V.str "never "])) L2 (.lst [V.str "a > b ^ 0", V.str "a > b ^ 00", V.str "a > b.c ^ 0", V.str "a > b.c ^ 1", V.str "a > b ^ -1", V.str "a > b ^ +1", V.str "a>b^0"])) A (.lst ([V.str "", V.str "-", V.str ".", V.str "+", V.str "a", V.str "+a", V.str "-a", V.str "--a", V.str "+a  -b", V.str " +a", V.str "+a ", V.str "a.", V.str ".a", V.str "a..b", V.str "never", V.str "never "] ++ [V.str "a > b ^ 0", V.str "a > b ^ 00", V.str "a > b.c ^ 0", V.str "a > b.c ^ 1", V.str "a > b ^ -1", V.str "a > b ^ +1", V.str "a>b^0"]))) A (.lst ([V.str "", V.str "-", V.str ".", V.str "+", V.str "a", V.str "+a", V.str "-a", V.str "--a", V.str "+a  -b", V.str " +a", V.str "+a ", V.str "a.", V.str ".a", V.str "a..b", V.str "never", V.str "never "] ++ [V.str "a > b ^ 0", V.str "a > b ^ 00", V.str "a > b.c ^ 0", V.str "a > b.c ^ 1", V.str "a > b ^ -1", V.str "a > b ^ +1", V.str "a>b^0"] ++ [V.str "a > b ^"]))) := Same.free2 (((Same.new n1).trans (Same.new n2)).trans (Same.new nA)) nHA
    have e3 : (upd (upd (upd (upd H L1 (.lst [V.str "", V.str "-", V.str ".", V.str "+", V.str "a", V.str "+a", V.str "-a", V.str "--a", V.str "+a  -b", V.str " +a", V.str "+a ", V.str "a.", V.str ".a", V.str "a..b", V.str "never", V.str "never "])) L2 (.lst [V.str "a > b ^ 0", V.str "a > b ^ 00", V.str "a > b.c ^ 0", V.str "a > b.c ^ 1", V.str "a > b ^ -1", V.str "a > b ^ +1", V.str "a>b^0"])) A (.lst ([V.str "", V.str "-", V.str ".", V.str "+", V.str "a", V.str "+a", V.str "-a", V.str "--a", V.str "+a  -b", V.str " +a", V.str "+a ", V.str "a.", V.str ".a", V.str "a..b", V.str "never", V.str "never "] ++ [V.str "a > b ^ 0", V.str "a > b ^ 00", V.str "a > b.c ^ 0", V.str "a > b.c ^ 1", V.str "a > b ^ -1", V.str "a > b ^ +1", V.str "a>b^0"]))) A (.lst ([V.str "", V.str "-", V.str ".", V.str "+", V.str "a", V.str "+a", V.str "-a", V.str "--a", V.str "+a  -b", V.str " +a", V.str "+a ", V.str "a.", V.str ".a", V.str "a..b", V.str "never", V.str "never "] ++ [V.str "a > b ^ 0", V.str "a > b ^ 00", V.str "a > b.c ^ 0", V.str "a > b.c ^ 1", V.str "a > b ^ -1", V.str "a > b ^ +1", V.str "a>b^0"] ++ [V.str "a > b ^"]))) A = some (.lst ((knownS.take 24).map V.str)) := upd_same
    generalize upd (upd (upd (upd H L1 (.lst [V.str "", V.str "-", V.str ".", V.str "+", V.str "a", V.str "+a", V.str "-a", V.str "--a", V.str "+a  -b", V.str " +a", V.str "+a ", V.str "a.", V.str ".a", V.str "a..b", V.str "never", V.str "never "])) L2 (.lst [V.str "a > b ^ 0", V.str "a > b ^ 00", V.str "a > b.c ^ 0", V.str "a > b.c ^ 1", V.str "a > b ^ -1", V.str "a > b ^ +1", V.str "a>b^0"])) A (.lst ([V.str "", V.str "-", V.str ".", V.str "+", V.str "a", V.str "+a", V.str "-a", V.str "--a", V.str "+a  -b", V.str " +a", V.str "+a ", V.str "a.", V.str ".a", V.str "a..b", V.str "never", V.str "never "] ++ [V.str "a > b ^ 0", V.str "a > b ^ 00", V.str "a > b.c ^ 0", V.str "a > b.c ^ 1", V.str "a > b ^ -1", V.str "a > b ^ +1", V.str "a>b^0"]))) A (.lst ([V.str "", V.str "-", V.str ".", V.str "+", V.str "a", V.str "+a", V.str "-a", V.str "--a", V.str "+a  -b", V.str " +a", V.str "+a ", V.str "a.", V.str ".a", V.str "a..b", V.str "never", V.str "never "] ++ [V.str "a > b ^ 0", V.str "a > b ^ 00", V.str "a > b.c ^ 0", V.str "a > b.c ^ 1", V.str "a > b ^ -1", V.str "a > b ^ +1", V.str "a>b^0"] ++ [V.str "a > b ^"])) = H3 at s3 e3 ⊢
    refine ⟨_, rfl, Nat.zero_le _, fun p1 h1 => ⟨by show 1 ≤ sizeLine; decide, fun p2 h2 p3 h3 => ⟨by show 1 ≤ sizeLine; decide, fun p4 h4 => ⟨by show 12 ≤ sizeLine; decide, fun p5 h5 => ?_⟩⟩⟩⟩
    have u1 := Same.new (o := .lst []) h1
    have u2 := Same.new (o := .tup [.str "a"]) h2
    have u3 := Same.new (o := .dK []) h3
    have u4 := Same.new (o := .lst [.str "+a"]) h4
    have u5 := Same.new (o := .lst [V.non, V.bl true, V.int 5, V.ref p1, V.ref p2, V.ref p3, V.ref p4, V.str "- > - ^ 0", V.str "A", V.str "abcdefghi", V.str "+a -", V.str "a > b ^ 1_0"]) h5
    refine ⟨A, p5, _, _, rfl, rfl, u5 _ _ (u4 _ _ (u3 _ _ (u2 _ _ (u1 _ _ e3)))), upd_same, by show 36 ≤ sizeLine; decide, fun p6 h6 => ?_⟩
    have u6 := Same.new (o := .lst ((knownS.take 24).map V.str ++ [V.non, V.bl true, V.int 5, V.ref p1, V.ref p2, V.ref p3, V.ref p4, V.str "- > - ^ 0", V.str "A", V.str "abcdefghi", V.str "+a -", V.str "a > b ^ 1_0"])) h6
    have q1 := u6 _ _ (u5 _ _ (u4 _ _ (u3 _ _ (u2 _ _ (upd_same (H := H3) (a := p1) (o := .lst []))))))
    have q2 := u6 _ _ (u5 _ _ (u4 _ _ (u3 _ _ (upd_same (H := upd H3 p1 (.lst [])) (a := p2) (o := .tup [.str "a"])))))
    have q3 := u6 _ _ (u5 _ _ (u4 _ _ (upd_same (H := upd (upd H3 p1 (.lst [])) p2 (.tup [.str "a"])) (a := p3) (o := .dK []))))
    have q4 := u6 _ _ (u5 _ _ (upd_same (H := upd (upd (upd H3 p1 (.lst [])) p2 (.tup [.str "a"])) p3 (.dK [])) (a := p4) (o := .lst [.str "+a"])))
    have q6 := upd_same (H := upd (upd (upd (upd (upd H3 p1 (.lst [])) p2 (.tup [.str "a"])) p3 (.dK [])) p4 (.lst [.str "+a"])) p5 (.lst [V.non, V.bl true, V.int 5, V.ref p1, V.ref p2, V.ref p3, V.ref p4, V.str "- > - ^ 0", V.str "A", V.str "abcdefghi", V.str "+a -", V.str "a > b ^ 1_0"])) (a := p6) (o := .lst ((knownS.take 24).map V.str ++ [V.non, V.bl true, V.int 5, V.ref p1, V.ref p2, V.ref p3, V.ref p4, V.str "- > - ^ 0", V.str "A", V.str "abcdefghi", V.str "+a -", V.str "a > b ^ 1_0"]))
    have s6 := s3.trans (u1.trans (u2.trans (u3.trans (u4.trans (u5.trans u6)))))
    generalize upd (upd (upd (upd (upd (upd H3 p1 (.lst [])) p2 (.tup [.str "a"])) p3 (.dK [])) p4 (.lst [.str "+a"])) p5 (.lst [V.non, V.bl true, V.int 5, V.ref p1, V.ref p2, V.ref p3, V.ref p4, V.str "- > - ^ 0", V.str "A", V.str "abcdefghi", V.str "+a -", V.str "a > b ^ 1_0"])) p6 (.lst ((knownS.take 24).map V.str ++ [V.non, V.bl true, V.int 5, V.ref p1, V.ref p2, V.ref p3, V.ref p4, V.str "- > - ^ 0", V.str "A", V.str "abcdefghi", V.str "+a -", V.str "a > b ^ 1_0"])) = G at s6 q1 q2 q3 q4 q6 ⊢
    clear u1 u2 u3 u4 u5 u6 h1 h2 h3 h4 h5 h6
    have one : ∀ x ∈ (knownS.take 24).map V.str ++ [V.non, V.bl true, V.int 5, V.ref p1, V.ref p2, V.ref p3, V.ref p4, V.str "- > - ^ 0", V.str "A", V.str "abcdefghi", V.str "+a -", V.str "a > b ^ 1_0"], ∃ d, DpX K G x d ∧ OkW d ∧ ShT d := fun x mx => by
      rcases List.mem_append.mp mx with mx | mx
      · obtain ⟨z, mz, rfl⟩ := List.mem_map.mp mx
        exact ⟨.str z, .str z, known_ok (List.mem_of_mem_take mz)⟩
      · simp only [List.mem_cons, List.not_mem_nil, or_false] at mx
        rcases mx with rfl | rfl | rfl | rfl | rfl | rfl | rfl | rfl | rfl | rfl | rfl | rfl
        · exact ⟨_, .non, knownD_sht (by simp [knownD])⟩
        · exact ⟨_, .bl true, knownD_sht (by simp [knownD])⟩
        · exact ⟨_, .int 5, knownD_sht (by simp [knownD])⟩
        · exact ⟨.list [], .lst (.of q1) .nil, knownD_sht (by simp [knownD])⟩
        · exact ⟨.tuple [.str "a"], .tup (.of q2) (.cons (.str _) .nil), knownD_sht (by simp [knownD])⟩
        · exact ⟨.dict [], .emp q3, knownD_sht (by simp [knownD])⟩
        · exact ⟨.list [.str "+a"], .lst (.of q4) (.cons (.str _) .nil), knownD_sht (by simp [knownD])⟩
        all_goals exact ⟨.str _, .str _, known_ok (by decide +kernel)⟩
    refine ⟨p6, rfl, ⟨_, .of q6⟩, for_list (K := K) (a := p6) (xs := (knownS.take 24).map V.str ++ [V.non, V.bl true, V.int 5, V.ref p1, V.ref p2, V.ref p3, V.ref p4, V.str "- > - ^ 0", V.str "A", V.str "abcdefghi", V.str "+a -", V.str "a > b ^ 1_0"]) (fun i σ H7 => ∃ y2 y3 y4 y5 y6 y7 y8 y9 y10 y11, σ = [some (.ref a), some (.ref A), y2, y3, y4, y5, y6, y7, y8, y9, y10, y11] ∧ Same G H7) ⟨_, _, _, _, _, _, _, _, _, _, rfl, Same.refl _⟩ (fun i σ H7 _ q => ?_) ?_ ?_⟩
    · obtain ⟨_, _, _, _, _, _, _, _, _, _, _, q⟩ := q
      exact .of (q _ _ q6)
    · rintro i x σ H7 hi ⟨y2, y3, y4, y5, y6, y7, y8, y9, y10, y11, rfl, s7⟩
      obtain ⟨d, hd, ok, sh⟩ := one x (List.mem_of_getElem? hi)
      exact ⟨_, rfl, x, d, rfl, DpX.same s7 _ _ hd, sh, ok, fun H8 s8 => ⟨true, rfl, iteF ⟨_, _, _, _, _, _, _, _, _, _, rfl, s7.trans s8⟩⟩⟩
    rintro σ H7 ⟨y2, y3, y4, y5, y6, y7, y8, y9, y10, y11, rfl, s7⟩
    refine ⟨_, rfl, a, _, rfl, .inl (Same.seq (s6.trans s7) hS), _, 8, rfl, 1, _, rfl, ?_⟩
    have hN : ∀ n : Nat, (1 : Int) ≤ (if (if (8 : Int) < (n : Int) then 8 else (n : Int)) > 1 then (if (8 : Int) < (n : Int) then 8 else (n : Int)) else 1) ∧ (if (if (8 : Int) < (n : Int) then 8 else (n : Int)) > 1 then (if (8 : Int) < (n : Int) then 8 else (n : Int)) else 1) ≤ 8 := by
      intro n
      split <;> split <;> omega
    have hN1 := hN (ns.map V.int).length
    generalize hM : (if (if (8 : Int) < ((ns.map V.int).length : Int) then 8 else ((ns.map V.int).length : Int)) > 1 then (if (8 : Int) < ((ns.map V.int).length : Int) then 8 else ((ns.map V.int).length : Int)) else 1) = N at hN1
    refine ⟨N, by rw [← hM], by omega, by omega, for_range (lo := 0) (n := N.toNat) (fun i σ H8 => ∃ y2 y3 y4 y5 y6 y7 y8 y9 y10 y11, σ = [some (.ref a), some (.ref A), y2, y3, y4, y5, y6, y7, y8, y9, y10, y11] ∧ Same G H8) ⟨_, _, _, _, _, _, _, _, _, _, rfl, s7⟩ ?_ ?_⟩
    · rintro i σ H8 hi ⟨y2, y3, y4, y5, y6, y7, y8, y9, y10, y11, rfl, s8⟩
      refine ⟨_, rfl, _, rfl, a, ns, 0 + i, rfl, Same.seq (s6.trans s8) hS, by omega, by omega, fun p H9 s9 hp p9 => ?_⟩
      have gp : G p = none := s8.free hp
      refine ⟨_, rfl, p, 2, rfl, p9, by decide, by decide, fun l zs H10 b10 p10 hl lp' hl10 lz iz => ?_⟩
      have zl : zs.length = 2 := lz
      have zne : zs ≠ [] := fun e => by rw [e] at zl; cases zl
      have s10 : Same G H10 := SE.Same.but3 (s8.trans s9) gp b10
      refine ⟨2, rfl, by decide, by decide, fun D hD => ?_⟩
      have Dp : D ≠ p := p10.free hD
      have Dl : l ≠ D := ne_of_none hl10 hD
      have gD : G D = none := s10.free hD
      refine lc_range (lo := 0) (n := 2) (fun i H2 => ∃ ws : List Str, H2 D = some (.lst (ws.map V.str)) ∧ ws.length = i ∧ (∀ z ∈ ws, ∃ us : List Str, z = wordT us ∧ (∀ u ∈ us, Item u) ∧ us.length ≤ 3) ∧ Same G H2 ∧ Pool H2 p ∧ H2 l = some (.lst (zs.map V.str))) ?_ ?_ ?_
      · exact ⟨[], upd_same, rfl, fun z q => (by cases q), s10.trans (Same.new hD), p10.upd Dp, by rw [upd_ne Dl]; exact hl10⟩
      · rintro j H2 hj ⟨ws, hw, wl, wz, s2, p2, hl2⟩
        refine ⟨rfl, yes_in ⟨⟨_, rfl⟩, _, rfl, _, rfl, p, l, 3, zs, rfl, p2, lp', hl2, zne, by omega, by decide, by decide, fun t us H3 b3 p3 t0 ht lw hw' => ?_⟩⟩
        have iu : ∀ z ∈ us, Item z := fun z m => iz z (hw' z m)
        have lu : us.length ≤ 3 := by omega
        have hD3 := b3 _ _ Dp hw
        have hl3 := b3 _ _ lp' hl2
        have jl : (Txt.join sDot us).length ≤ sizeLine := by
          have a := join_len sDot us
          have b := join_fit iu lu sDot (by decide +kernel)
          rw [sizeLine_eq]
          omega
        have s3 : Same G H3 := SE.Same.but3 s2 gp b3
        have fin : ∀ z : Str, z = wordT us → ∃ acc, H3 D = some (HO.lst acc) ∧ acc.length < sizeLine ∧ ∃ ws' : List Str, upd H3 D (HO.lst (acc ++ [V.str z])) D = some (.lst (ws'.map V.str)) ∧ ws'.length = j + 1 ∧ (∀ x ∈ ws', ∃ us : List Str, x = wordT us ∧ (∀ u ∈ us, Item u) ∧ us.length ≤ 3) ∧ Same G (upd H3 D (HO.lst (acc ++ [V.str z]))) ∧ Pool (upd H3 D (HO.lst (acc ++ [V.str z]))) p ∧ upd H3 D (HO.lst (acc ++ [V.str z])) l = some (.lst (zs.map V.str)) := by
          rintro z rfl
          refine ⟨_, hD3, by rw [List.length_map]; exact small1000 (by omega), ws ++ [wordT us], by rw [upd_same, List.map_append]; rfl, by rw [List.length_append, wl]; rfl, ?_, Same.free2 s3 gD, p3.upd Dp, by rw [upd_ne Dl]; exact hl3⟩
          intro x mx
          rcases List.mem_append.mp mx with m | m
          · exact wz x m
          · rw [List.mem_singleton.mp m]
            exact ⟨us, rfl, iu, lu⟩
        refine ⟨sDot, t, us, rfl, rfl, .inr (.of ht), join_fit iu lu sDot (by decide +kernel), _, ⟨jl, rfl⟩, ?_⟩
        have e := or_word iu
        by_cases c : (((Txt.join sDot us).length : Int) != 0) = true
        · rw [if_pos c] at e ⊢
          exact fin _ e
        · rw [if_neg c] at e ⊢
          exact fin _ e
      · rintro H2 ⟨ws, hw, wl, wz, s2, p2, hl2⟩
        obtain ⟨w1, w2, rfl⟩ : ∃ w1 w2, ws = [w1, w2] := by
          match ws, wl with
          | [w1, w2], _ => exact ⟨w1, w2, rfl⟩
        obtain ⟨u1, rfl, i1, l1⟩ := wz w1 (by simp)
        obtain ⟨u2, rfl, i2, l2⟩ := wz w2 (by simp)
        refine ⟨D, _, rfl, .of hw, rfl, ?_⟩
        refine ⟨_, _, rfl, _, _, rfl, rfl, ?_⟩
        refine ⟨⟨_, rfl⟩, 3, rfl, by decide, by decide, fun D2 hD2 => ?_⟩
        have D2p : D2 ≠ p := p2.free hD2
        have D2l : l ≠ D2 := ne_of_none hl2 hD2
        have gD2 : G D2 = none := s2.free hD2
        refine lc_range (lo := 0) (n := 3) (fun i H2 => ∃ ss : List Stp, H2 D2 = some (.lst ((ss.map stepT).map V.str)) ∧ ss.length = i ∧ (∀ s ∈ ss, Item s.2) ∧ Same G H2 ∧ Pool H2 p ∧ H2 l = some (.lst (zs.map V.str))) ?_ ?_ ?_
        · exact ⟨[], upd_same, rfl, fun z q => (by cases q), s2.trans (Same.new hD2), p2.upd D2p, by rw [upd_ne D2l]; exact hl2⟩
        · rintro j H3 hj ⟨ss, hw3, sl, si, s3, p3, hl3⟩
          refine ⟨rfl, yes_in ⟨by show 2 ≤ sizeLine; decide, fun M hM => ?_⟩⟩
          have Mp : M ≠ p := p3.free hM
          have sM := Same.new (o := .lst [V.str "+", V.str "-"]) hM
          have eM := upd_same (H := H3) (a := M) (o := .lst [V.str "+", V.str "-"])
          refine ⟨_, rfl, p, 2, rfl, p3.same sM, by decide, by decide, fun r1 H4 b4 p4 r10 r11 => ?_⟩
          obtain ⟨sg, hsg⟩ := sign2 r10 r11
          refine ⟨M, _, r1, _, rfl, rfl, .of (b4 _ _ Mp eM), hsg, ?_⟩
          refine ⟨_, rfl, _, rfl, p, 2, rfl, p4, by decide, by decide, fun r2 H5 b5 p5 r20 r21 => ?_⟩
          obtain ⟨z, mz, hz⟩ := pick2 zl r20 r21
          have hl5 := b5 _ _ lp' (b4 _ _ lp' (sM _ _ hl3))
          have hD5 := b5 _ _ D2p (b4 _ _ D2p (sM _ _ hw3))
          have s5 : Same G H5 := SE.Same.but3 (SE.Same.but3 (s3.trans sM) gp b4) gp b5
          have iz' := iz z mz
          refine ⟨l, _, r2, _, rfl, rfl, .of hl5, hz, _, _, rfl, rfl, ?_, ?_⟩
          · have := stepT_len (s := (sg, z)) iz'
            unfold stepT at this
            rw [len_add] at this
            rw [sizeLine_eq]
            dsimp only at this
            omega
          refine ⟨_, hD5, by rw [List.length_map, List.length_map]; exact small1000 (by omega), ss ++ [(sg, z)], by rw [upd_same, List.map_append, List.map_append]; rfl, by rw [List.length_append, sl]; rfl, ?_, Same.free2 s5 gD2, p5.upd D2p, by rw [upd_ne D2l]; exact hl5⟩
          intro x mx
          rcases List.mem_append.mp mx with m | m
          · exact si x m
          · rw [List.mem_singleton.mp m]
            exact iz'
        · rintro H3 ⟨ss, hw3, sl, si, s3, p3, hl3⟩
          refine ⟨sBlk, D2, ss.map stepT, rfl, rfl, .inl (.of hw3), ?_, ?_⟩
          · have b := sum_lens (B := 9) (ts := ss.map stepT) fun t m => by
              obtain ⟨s, ms, rfl⟩ := List.mem_map.mp m
              exact stepT_len (si s ms)
            rw [List.length_map] at b ⊢
            rw [show sBlk.length = 1 by decide +kernel]
            omega
          have sn : ss ≠ [] := fun e => by rw [e] at sl; cases sl
          have es : Txt.join sBlk (ss.map stepT) = stepsT ss := (if_neg sn).symm
          rw [es]
          have g1 := good_word i1 l1
          have g2 := good_word i2 l2
          have g3 := good_steps si sn (by omega)
          have q1 := g1.1.ln
          have q2 := g2.1.ln
          have c1 : (Str.ofString " > ").length = 3 := by decide +kernel
          have c2 : (Str.ofString " ^ ").length = 3 := by decide +kernel
          have sz : ∀ {m : Nat}, m ≤ 5000 → m ≤ sizeLine := fun h => by rw [sizeLine_eq]; omega
          refine ⟨_, rfl, _, rfl, _, rfl, _, _, rfl, rfl, sz (by omega), _, rfl, _, _, rfl, rfl, sz (by rw [len_add]; omega), _, _, rfl, rfl, sz (by rw [len_add, len_add]; omega), _, rfl, p, 12, rfl, p3, by decide, by decide, fun r H4 b4 p4 r0 r1 => ?_⟩
          have nk := numOk r0 (show r < 100 by omega)
          have nl := nk.len
          refine ⟨r, rfl, Nat.lt_of_le_of_lt (Nat.log2_le_self _) (by omega), _, _, rfl, rfl, sz (by rw [len_add, len_add, len_add]; omega), by show 3 ≤ sizeLine; decide, fun M hM => ?_⟩
          rw [show wordT u1 ++ Str.ofString " > " ++ wordT u2 ++ Str.ofString " ^ " ++ Str.ofString (toString r) = effT (some (u1, u2, r)) from join5 u1 u2 r]
          have g4 := good_eff i1 i2 l1 l2 r0 r1
          have s4 : Same G H4 := SE.Same.but3 s3 gp b4
          have Mp : M ≠ p := p4.free hM
          have gM : G M = none := s4.free hM
          have sM : Same H4 (upd H4 M (.lst [V.str (wordT u1), .str (stepsT ss), .str (effT (some (u1, u2, r)))])) := Same.new hM
          have eM : upd H4 M (.lst [V.str (wordT u1), .str (stepsT ss), .str (effT (some (u1, u2, r)))]) M = _ := upd_same
          have pM := p4.same sM
          generalize upd H4 M (.lst [V.str (wordT u1), .str (stepsT ss), .str (effT (some (u1, u2, r)))]) = HL at sM eM pM ⊢
          have good : ∀ x ∈ [V.str (wordT u1), .str (stepsT ss), .str (effT (some (u1, u2, r)))], ∃ z : Str, x = .str z ∧ GoodT 64 2 z ∧ ∀ q ∈ Txt.split z sBlk, q.length ≤ 28 := by
            intro x mx
            simp only [List.mem_cons, List.not_mem_nil, or_false] at mx
            rcases mx with rfl | rfl | rfl
            · exact ⟨_, rfl, g1⟩
            · exact ⟨_, rfl, g3⟩
            · exact ⟨_, rfl, g4⟩
          refine ⟨M, rfl, ⟨_, .of eM⟩, for_list (K := K) (a := M) (xs := [V.str (wordT u1), .str (stepsT ss), .str (effT (some (u1, u2, r)))]) (fun q σ H => ∃ y6 y10 y11, σ = [some (.ref a), some (.ref A), y2, some (.int (0 + (i : Nat))), some (.ref p), some (.ref l), y6, some (.str (wordT u1)), some (.str (wordT u2)), some (.str (stepsT ss)), y10, y11] ∧ Same G H ∧ Pool H p ∧ H M = some (.lst [V.str (wordT u1), .str (stepsT ss), .str (effT (some (u1, u2, r)))])) ⟨_, _, _, rfl, s4.trans sM, pM, eM⟩ (fun q σ H _ h => ?_) ?_ ?_⟩
          · obtain ⟨_, _, _, _, _, _, h⟩ := h
            exact .of h
          · rintro q x σ H5 hq ⟨y6, y10, y11, rfl, s5, p5, e5⟩
            obtain ⟨z, rfl, gz, bz⟩ := good x (List.mem_of_getElem? hq)
            have gzw : GoodT 200 8 z := gz.mono (by decide) (by decide)
            have lz2 := gz.ln
            refine ⟨4, rfl, by decide, by decide, for_range (lo := 0) (n := 4) (fun q σ H => ∃ y6 y11, σ = [some (.ref a), some (.ref A), y2, some (.int (0 + (i : Nat))), some (.ref p), some (.ref l), y6, some (.str (wordT u1)), some (.str (wordT u2)), some (.str (stepsT ss)), some (.str z), y11] ∧ Same G H ∧ Pool H p ∧ H M = some (.lst [V.str (wordT u1), .str (stepsT ss), .str (effT (some (u1, u2, r)))])) ⟨_, _, rfl, s5, p5, e5⟩ ?_ ?_⟩
            · rintro k2 σ H6 hk ⟨y6, y11, rfl, s6', p6, e6⟩
              refine ⟨_, rfl, _, rfl, p, z, rfl, p6, by omega, fun z1 H7 b7 p7 bt1 => ?_⟩
              have gz1 := gz.bent1 bz bt1
              have gz1w : GoodT 200 8 z1 := gz1.mono (by decide) (by decide)
              have lz1 := gz1.ln
              refine ⟨_, rfl, _, _, rfl, .str z, gzw.txs.sht, gzw.okw, fun H8 s8' => ⟨true, rfl, iteF ?_⟩⟩
              refine ⟨_, rfl, _, _, rfl, .str z1, gz1w.txs.sht, gz1w.okw, fun H9 s9' => ⟨true, rfl, iteF ?_⟩⟩
              have p9 := p7.same (s8'.trans s9')
              refine ⟨_, rfl, _, rfl, p, z1, rfl, p9, by omega, fun z2 H10 b10 p10 bt2 => ?_⟩
              have gz2 := gz1.bent2 bt2
              refine ⟨_, _, rfl, .str z2, gz2.txs.sht, gz2.okw, fun H11 s11 => ⟨true, rfl, iteF ?_⟩⟩
              exact ⟨_, _, rfl, (SE.Same.but3 ((SE.Same.but3 s6' gp b7).trans (s8'.trans s9')) gp b10).trans s11, p10.same s11, s11 _ _ (b10 _ _ Mp ((s8'.trans s9') _ _ (b7 _ _ Mp e6)))⟩
            · rintro σ H6 ⟨y6, y11, rfl, s6', p6, e6⟩
              exact ⟨_, _, _, rfl, s6', p6, e6⟩
          · rintro σ H5 ⟨y6, y10, y11, rfl, s5, p5, e5⟩
            exact ⟨_, _, _, _, _, _, _, _, _, _, rfl, s5⟩
    rintro σ H8 ⟨y2, y3, y4, y5, y6, y7, y8, y9, y10, y11, rfl, s8⟩
    have flat : ∀ n : Nat, (List.replicate n [V.str "+a"]).flatten = (List.replicate n sPa).map V.str := fun n => by
      rw [List.map_replicate]
      simp
    have jn : ∀ n : Nat, n ≤ 1001 → ((List.replicate n sPa).map (·.length)).sum + (List.replicate n sPa).length * sBlk.length ≤ 16777216 := fun n hn => by
      rw [sum_rep, List.length_replicate, show sPa.length = 2 by decide +kernel, show sBlk.length = 1 by decide +kernel]
      omega
    refine ⟨⟨_, rfl⟩, by show 1 ≤ sizeLine; decide, fun r1 h1 => ⟨r1, 1000, _, rfl, rfl, upd_same, by decide, by decide, by show 1000 ≤ sizeLine; decide, fun r2 h2 => ?_⟩⟩
    rw [show ((1000 : Int).toNat) = 1000 from rfl, flat]
    refine ⟨sBlk, r2, List.replicate 1000 sPa, rfl, rfl, .inl (.of upd_same), jn 1000 (by decide), longT 1000, 2, _, rfl, long_fit (by decide) (by decide), long_steps, fun w1 H9 s9 rw1 => ?_⟩
    obtain ⟨b1, us, rfl, hus, hpu, _⟩ := rw1
    have lus := Paired.length hpu
    rw [List.length_replicate] at lus
    refine ⟨b1, us, rfl, .inl hus, rfl, _, rfl, ?_⟩
    rw [lus]
    refine iteNS rfl ?_
    refine ⟨⟨_, rfl⟩, by show 1 ≤ sizeLine; decide, fun r3 h3 => ⟨r3, 1001, _, rfl, rfl, upd_same, by decide, by decide, by show 1001 ≤ sizeLine; decide, fun r4 h4 => ?_⟩⟩
    rw [show ((1001 : Int).toNat) = 1001 from rfl, flat]
    refine ⟨sBlk, r4, List.replicate 1001 sPa, rfl, rfl, .inl (.of upd_same), jn 1001 (by decide), 1, .str (longT 1001), .str (longT 1001), rfl, by decide, .str _, long_sht (by decide) (by decide), .inr ⟨rfl, longT 1001, 2, rfl, long_fit (by decide) (by decide)⟩, fun w2 H10 s10 rw2 => ?_⟩
    rcases rw2 with ⟨z, o, ez, e1, _⟩ | ⟨_, L, rfl, eL⟩
    · cases ez
      rw [long_none] at e1
      cases e1
    refine ⟨1, rfl, L, _, rfl, .of eL, fun c1 hc1 => ⟨by show 1 ≤ sizeLine; decide, fun m1 hm1 => ?_⟩⟩
    have w1 := upd_same (H := H10) (a := c1) (o := .lst (cutV [.str "refused", .str (PyData.str (longT 1001)).shown, .bl true] none (some 1)))
    have w2 := (Same.new (o := .lst [.str "refused"]) hm1) _ _ w1
    refine ⟨.list [.str "refused"], .list [.str "refused"], .lst (.of w2) (.cons (.str _) .nil), .lst (.of upd_same) (.cons (.str _) .nil), by decide +kernel, by decide +kernel, ?_⟩
    rw [SeqAt.eqv_refl _ (by decide +kernel)]
    exact k _
end
end SE
namespace SE
open PySem PySem.Spec PyProof.Rows L2
section
/-! ### what the top has left -/
theorem scI_InvalidText : FnScope ["self", "value"] ["self", "value"] (defScope (inClass sInvalidtext 0)) := ⟨rfl, rfl, rfl, by decide +kernel, rfl, by decide +kernel, by decide +kernel⟩
theorem kit_below {K : PySem.W.Frag} {C S : Addr} (h1 : PySem.W.subIn K (.ref C) (.ref S) = some true) (h2 : PySem.W.typeIn K (.ref S) = some (.type "type")) (h3 : PySem.W.hasDictIn K S = true) : PySem.W.kitOne K (.ref C) (.ref S) = some true := by
  obtain ⟨cd, hc, _⟩ := PySem.W.any_some h3
  unfold PySem.W.kitOne
  split
  · rfl
  · show (if ((PySem.W.clsIn K S).isSome && PySem.W.typeIn K (.ref S) == some (.type "type")) = true then PySem.W.subIn K (.ref C) (.ref S) else none) = some true
    rw [if_pos (by rw [hc, h2]; rfl)]
    exact h1
theorem def_mk {K : PySem.W.Frag} {h : Heap} {mg : Str → Option Value} {x : Str} {st : Stmt} {f : Addr} {oc : Value} {od an : Option Addr} {osl : Array (Option Value)} {kV doc pm cdv ct : Value} (X : K.In h) (G : h.Ns mainGlobals mg)
    (a : PySem.W.nsIn K mainGlobals x = some (some (.ref f))) (l : K.lookup f = some ⟨oc, od, .func (PySem.W.fnOf x x (defArgs st) (defBody st) (defScope st) .none kV doc pm an cdv ct), osl⟩)
    (c : PySem.W.codeIn K cdv x = true) (k : PySem.W.keepIn K (.ref f) = true) : Def K mg x st := ⟨f, _, fun_mk l c k, PySem.W.mg_of X G a⟩
theorem defk_mk {K : PySem.W.Frag} {h : Heap} {mg : Str → Option Value} {x y : Str} {st : Stmt} {f d : Addr} {oc : Value} {od an : Option Addr} {osl : Array (Option Value)} {doc pm cdv ct : Value} (X : K.In h) (G : h.Ns mainGlobals mg)
    (a : PySem.W.nsIn K mainGlobals x = some (some (.ref f))) (l : K.lookup f = some ⟨oc, od, .func (PySem.W.fnOf x x (defArgs st) (defBody st) (defScope st) .none (.ref d) doc pm an cdv ct), osl⟩)
    (c : PySem.W.codeIn K cdv x = true) (k : PySem.W.keepIn K (.ref f) = true) (n : PySem.W.nsIn K d y = some (some .none)) : DefK K mg x st [(y, .non)] := by
  refine ⟨f, _, fun_mk l c k, ⟨⟨oc, od, .none, .ref d, doc, pm, an, cdv, ct, osl, rfl, l, c, .inl ⟨rfl, rfl⟩, .inr ⟨d, rfl, fun q hq => ?_⟩⟩, k⟩, PySem.W.mg_of X G a⟩
  rw [List.mem_singleton.mp hq]
  exact ⟨.none, n, rfl⟩
theorem init_mk {K : PySem.W.Frag} {x q y : Str} {st : Stmt} {f d : Addr} {oc : Value} {od an : Option Addr} {osl : Array (Option Value)} {doc pm cdv ct : Value}
    (l : K.lookup f = some ⟨oc, od, .func (PySem.W.fnOf x q (defArgs st) (defBody st) (defScope st) .none (.ref d) doc pm an cdv ct), osl⟩) (c : PySem.W.codeIn K cdv q = true) (k : PySem.W.keepIn K (.ref f) = true) (n : PySem.W.nsIn K d y = some (some .none)) :
    FunD K x q (defArgs st) (defBody st) (defScope st) [] [(y, .non)] f (PySem.W.fnOf x q (defArgs st) (defBody st) (defScope st) .none (.ref d) doc pm an cdv ct) := by
  refine ⟨⟨oc, od, .none, .ref d, doc, pm, an, cdv, ct, osl, rfl, l, c, .inl ⟨rfl, rfl⟩, .inr ⟨d, rfl, fun z hz => ?_⟩⟩, k⟩
  rw [List.mem_singleton.mp hz]
  exact ⟨.none, n, rfl⟩
theorem all_mk {l : PySem.W.OpenLaw} {w : World} {K : PySem.W.Frag} {h : Heap} {mg : Str → Option Value} {fa gI dI C D fL gM0 qM0 gR DA S CX0 gX0 NX0 : Addr} {tk1 tk2 tk3 tk4 tk6 tk7 tk8 : Tok} (X : K.In h) (G : h.Ns mainGlobals mg) (hfa : mg "law" = some (.ref fa))
    {odI anI : Option Addr} {slI : Array (Option Value)} {ocI dcI pmI cdI ctI : Value}
    {odM0 anM0 : Option Addr} {slM0 : Array (Option Value)} {ocM0 kVM0 dcM0 pmM0 cdM0 ctM0 : Value}
    {rM0 : List Value}
    {odR anR : Option Addr} {slR : Array (Option Value)} {ocR kVR dcR pmR cdR ctR : Value}
    {esA : Array DictEntry} {nA : Nat} {uA vA : Value}
    {nmX0 qX0 : Str} {bsX0 : List Value} {snX0 : List Str} {subX0 : List Value} {abX0 : Bool} {colX0 : Option Bool} {ddX0 odX0 anX0 : Option Addr} {m0X0 m1X0 m2X0 m3X0 m5X0 : Option Value} {slX0 : Array (Option Value)} {ocX0 kVX0 dcX0 pmX0 cdX0 ctX0 : Value}
    {odL anL : Option Addr} {slL : Array (Option Value)} {ocL kVL dcL pmL cdL ctL : Value} {es : Array DictEntry} {n : Nat} {uP uQ : Value}
    (d_is_whole : Def K mg "is_whole" sIsWhole)
    (d_is_item : Def K mg "is_item" sIsItem)
    (d_is_word : Def K mg "is_word" sIsWord)
    (d_is_step : Def K mg "is_step" sIsStep)
    (d_may_hold_steps : Def K mg "may_hold_steps" sMayHold)
    (d_is_sequence : Def K mg "is_sequence" sIsSeq)
    (d_check_word : Def K mg "check_word" sChkWord)
    (d_least_peak : Def K mg "least_peak" sLeastPeak)
    (d_word_in : Def K mg "word_in" sWordIn)
    (d_steps_in : Def K mg "steps_in" sStepsIn)
    (d_number_in : Def K mg "number_in" sNumberIn)
    (d_effect_in : Def K mg "effect_in" sEffectIn)
    (d_parse_word : Def K mg "parse_word" sParseWord)
    (d_parse_steps : Def K mg "parse_steps" sParseSteps)
    (d_parse_effect : Def K mg "parse_effect" sParseEffect)
    (d__law_pool : Def K mg "_law_pool" sPool)
    (d__law_take : Def K mg "_law_take" sTake)
    (d__law_name : Def K mg "_law_name" sName)
    (d__law_items : Def K mg "_law_items" sItems)
    (d__law_word : Def K mg "_law_word" sWord)
    (d__law_is_item : Def K mg "_law_is_item" sLawIsItem)
    (d__law_word_of : Def K mg "_law_word_of" sLawWordOf)
    (d__law_steps_of : Def K mg "_law_steps_of" sLawStepsOf)
    (d__law_effect_of : Def K mg "_law_effect_of" sLawEffectOf)
    (d__law_told : Def K mg "_law_told" sLawTold)
    (d__law_right : Def K mg "_law_right" sRight)
    (d__law_bent : Def K mg "_law_bent" sLawBent)
    (z_isinstance : PySem.W.nsIn K mainGlobals "isinstance" = some none)
    (z_str : PySem.W.nsIn K mainGlobals "str" = some none)
    (z_len : PySem.W.nsIn K mainGlobals "len" = some none)
    (z_all : PySem.W.nsIn K mainGlobals "all" = some none)
    (z_tuple : PySem.W.nsIn K mainGlobals "tuple" = some none)
    (z_list : PySem.W.nsIn K mainGlobals "list" = some none)
    (z_enumerate : PySem.W.nsIn K mainGlobals "enumerate" = some none)
    (z_range : PySem.W.nsIn K mainGlobals "range" = some none)
    (z_abs : PySem.W.nsIn K mainGlobals "abs" = some none)
    (z_int : PySem.W.nsIn K mainGlobals "int" = some none)
    (z_bool : PySem.W.nsIn K mainGlobals "bool" = some none)
    (z_max : PySem.W.nsIn K mainGlobals "max" = some none)
    (z_min : PySem.W.nsIn K mainGlobals "min" = some none)
    (z_repr : PySem.W.nsIn K mainGlobals "repr" = some none)
    (cL : PySem.W.nsIn K mainGlobals "LETTERS" = some (some (.str abc tk1)))
    (cM : PySem.W.nsIn K mainGlobals "MOST_LETTERS" = some (some (.int 8 tk2)))
    (cS : PySem.W.nsIn K mainGlobals "MOST_STEPS" = some (some (.int 1000 tk3)))
    (c1 : PySem.W.nsIn K mainGlobals "DIGITS" = some (some (.str "0123456789" tk4)))
    (c3 : PySem.W.nsIn K mainGlobals "EMPTY_WORD" = some (some (.str sDash tk6)))
    (c4 : PySem.W.nsIn K mainGlobals "EMPTY_SEQUENCE" = some (some (.str sDot tk7)))
    (c5 : PySem.W.nsIn K mainGlobals "NEVER" = some (some (.str "never" tk8)))
    (cO : PySem.W.nsIn K mainGlobals "OPPOSITES" = some (some (.ref D)))
    (lO : K.lookup D = some ⟨.type "dict", none, .dict es n, #[]⟩)
    (kO : PySem.W.KeysLit w.params es.toList)
    (wO : (D == sysModules) = false)
    (pO : PySem.W.nsIn K D "push" = some (some uP))
    (qO : PySem.W.nsIn K D "pop" = some (some uQ))
    (rP : RelV (.str "pop") uP)
    (rQ : RelV (.str "push") uQ)
    (aC : PySem.W.nsIn K mainGlobals "Effect" = some (some (.ref C)))
    (pg : PySem.W.plainGet K C Str.empty = true)
    (hd : PySem.W.hasDictIn K C = true)
    (po : PySem.W.plainOver K C = true)
    (sa : PySem.W.findIn K (.ref C) "__setattr__" = some (some (.builtin "object.__setattr__")))
    (nN : PySem.W.findIn K (.ref C) "needs" = some none)
    (nL : PySem.W.findIn K (.ref C) "leaves" = some none)
    (nH : PySem.W.findIn K (.ref C) "highest" = some none)
    (mkC : PySem.W.makesIn K C = true)
    (keC : PySem.W.keepIn K (.ref C) = true)
    (aI : PySem.W.findIn K (.ref C) "__init__" = some (some (.ref gI)))
    (iI : PySem.W.isFn K (.ref gI) = true)
    (lI : K.lookup gI = some ⟨ocI, odI, .func (PySem.W.fnOf "__init__" "Effect.__init__" (defArgs sInit) (defBody sInit) (defScope sInit) .none (.ref dI) dcI pmI anI cdI ctI), slI⟩)
    (cI : PySem.W.codeIn K cdI "Effect.__init__" = true)
    (kI : PySem.W.keepIn K (.ref gI) = true)
    (nI : PySem.W.nsIn K dI "peak" = some (some .none))
    (rdC : PySem.W.readsIn K C (.type "type") = true)
    (gaC : PySem.W.specialIn K (.ref C) "__getattribute__" = some (some (.builtin "type.__getattribute__")))
    (aM0 : PySem.W.findCls K (.ref C) (.type "type") "never" = some (.get (.builtin "classmethod.__get__") (.ref qM0) .none (.ref C)))
    (uM0 : PySem.W.recIn K qM0 "classmethod" = some (.ref gM0 :: rM0))
    (fM0 : PySem.W.fnIn K gM0 = true)
    (lM0 : K.lookup gM0 = some ⟨ocM0, odM0, .func (PySem.W.fnOf "never" "Effect.never" (defArgs sNever) (defBody sNever) (defScope sNever) .none kVM0 dcM0 pmM0 anM0 cdM0 ctM0), slM0⟩)
    (cM0 : PySem.W.codeIn K cdM0 "Effect.never" = true)
    (kM0 : PySem.W.keepIn K (.ref gM0) = true)
    (aR : PySem.W.findIn K (.ref C) "__repr__" = some (some (.ref gR)))
    (iR : PySem.W.isFn K (.ref gR) = true)
    (lR : K.lookup gR = some ⟨ocR, odR, .func (PySem.W.fnOf "__repr__" "Effect.__repr__" (defArgs sRepr) (defBody sRepr) (defScope sRepr) .none kVR dcR pmR anR cdR ctR), slR⟩)
    (cR : PySem.W.codeIn K cdR "Effect.__repr__" = true)
    (kR : PySem.W.keepIn K (.ref gR) = true)
    (cDA : PySem.W.nsIn K mainGlobals "ACTIONS" = some (some (.ref DA)))
    (lDA : K.lookup DA = some ⟨.type "dict", none, .dict esA nA, #[]⟩)
    (kDA : PySem.W.KeysLit w.params esA.toList)
    (wDA : (DA == sysModules) = false)
    (p1A : PySem.W.nsIn K DA "+" = some (some uA))
    (p2A : PySem.W.nsIn K DA "-" = some (some vA))
    (r1A : RelV (.str "push") uA)
    (r2A : RelV (.str "pop") vA)
    (t2A : TwoKeys "+" "-" esA.toList)
    (oK2 : OppKeys es.toList)
    (aS : PySem.W.nsIn K mainGlobals "StackError" = some (some (.ref S)))
    (tS : PySem.W.typeIn K (.ref S) = some (.type "type"))
    (hS : PySem.W.hasDictIn K S = true)
    (cg : PySem.W.specialIn K (.builtin "object.__class__") "__get__" = some (some (.builtin "getset_descriptor.__get__")))
    (ct : PySem.W.takesIn K (.builtin "object.__class__") = some true)
    (aX0 : PySem.W.nsIn K mainGlobals "InvalidText" = some (some (.ref CX0)))
    (xX0 : K.lookup CX0 = some (excClassObj nmX0 qX0 CX0 NX0 bsX0 [.ref S, .type "ValueError", .type "Exception", .type "BaseException", .type "object"] true snX0 subX0 abX0 colX0 ddX0 m0X0 m1X0 m2X0 m3X0 m5X0 "ValueError.__new__"))
    (saX0 : PySem.W.findIn K (.ref CX0) "__setattr__" = some (some (.builtin "object.__setattr__")))
    (gaX0 : PySem.W.findIn K (.ref CX0) "__getattribute__" = some (some (.builtin "BaseException.__getattribute__")))
    (ggX0 : PySem.W.findIn K (.ref CX0) "__getattr__" = some none)
    (nfX0 : PySem.W.findIn K (.ref CX0) "value" = some none)
    (iiX0 : PySem.W.findIn K (.ref CX0) "__init__" = some (some (.ref gX0)))
    (tiX0 : PySem.W.typeIn K (.ref gX0) = some (.type "function"))
    (lX0 : K.lookup gX0 = some ⟨ocX0, odX0, .func (PySem.W.fnOf "__init__" "InvalidText.__init__" (defArgs (inClass sInvalidtext 0)) (defBody (inClass sInvalidtext 0)) (defScope (inClass sInvalidtext 0)) .none kVX0 dcX0 pmX0 anX0 cdX0 ctX0), slX0⟩)
    (cX0 : PySem.W.codeIn K cdX0 "InvalidText.__init__" = true)
    (kX0 : PySem.W.keepIn K (.ref gX0) = true)
    (kCX0 : PySem.W.keepIn K (.ref CX0) = true)
    (eCX0 : PySem.W.subIn K (.ref CX0) (.type "BaseException") = some true)
    (tCX0 : PySem.W.typeIn K (.ref CX0) = some (.type "type"))
    (hCX0 : PySem.W.hasDictIn K CX0 = true)
    (sCX0 : PySem.W.subIn K (.ref CX0) (.ref CX0) = some true)
    (sSX0 : PySem.W.subIn K (.ref CX0) (.ref S) = some true)
    (ccX0 : PySem.W.findIn K (.ref CX0) "__class__" = some (some (.builtin "object.__class__")))
    (moX0 : PySem.W.mroIn K CX0 (.type "object") = some true)
    (aL : PySem.W.nsIn K mainGlobals "law" = some (some (.ref fL)))
    (lL : K.lookup fL = some ⟨ocL, odL, .func (PySem.W.fnOf "law" "law" (defArgs sLaw) (defBody sLaw) (defScope sLaw) .none kVL dcL pmL anL cdL ctL), slL⟩)
    (ckL : PySem.W.codeIn K cdL "law" = true)
    (kL : PySem.W.keepIn K (.ref fL) = true) :
    ∃ fd : FuncData, (∀ (s : Shared) (v : Value), BindsTo s fd ⟨[v], []⟩ [("_law_script", v)]) ∧ ∀ base : Heap, K.In base → base.Ns mainGlobals mg → GOk l.prog w K mg base 11 fa fd ["_law_script"] (spLaw K) := by
  have e := hfa.symm.trans (PySem.W.mg_of X G aL)
  cases e
  have F := fun_mk (st := sLaw) lL ckL kL
  have m_isinstance : mg "isinstance" = none := PySem.W.mg_none_of X G z_isinstance
  have m_str : mg "str" = none := PySem.W.mg_none_of X G z_str
  have m_len : mg "len" = none := PySem.W.mg_none_of X G z_len
  have m_all : mg "all" = none := PySem.W.mg_none_of X G z_all
  have m_tuple : mg "tuple" = none := PySem.W.mg_none_of X G z_tuple
  have m_list : mg "list" = none := PySem.W.mg_none_of X G z_list
  have m_enumerate : mg "enumerate" = none := PySem.W.mg_none_of X G z_enumerate
  have m_range : mg "range" = none := PySem.W.mg_none_of X G z_range
  have m_abs : mg "abs" = none := PySem.W.mg_none_of X G z_abs
  have m_int : mg "int" = none := PySem.W.mg_none_of X G z_int
  have m_bool : mg "bool" = none := PySem.W.mg_none_of X G z_bool
  have m_max : mg "max" = none := PySem.W.mg_none_of X G z_max
  have m_min : mg "min" = none := PySem.W.mg_none_of X G z_min
  have m_repr : mg "repr" = none := PySem.W.mg_none_of X G z_repr
  have B : Blt mg := ⟨m_isinstance, m_str, m_len, m_all, m_tuple, m_list, m_enumerate⟩
  have Co : Cons K w mg := ⟨⟨_, PySem.W.mg_of X G cL⟩, ⟨_, PySem.W.mg_of X G cM⟩, ⟨_, PySem.W.mg_of X G cS⟩, ⟨D, es, n, uP, uQ, PySem.W.mg_of X G cO, ⟨lO, kO, wO⟩, pO, rP, qO, rQ⟩⟩
  have T : EC K mg C := ⟨⟨pg, hd, po, sa⟩, nN, nL, nH, PySem.W.mg_of X G aC⟩
  refine ⟨PySem.W.fnOf "law" "law" (defArgs sLaw) (defBody sLaw) (defScope sLaw) .none kVL dcL pmL anL cdL ctL, fun s v => .of_eq rfl, fun base _ _ => ?_⟩
  have TC := (⟨⟨_, PySem.W.mg_of X G c1⟩, ⟨_, PySem.W.mg_of X G c3⟩, ⟨_, PySem.W.mg_of X G c4⟩, ⟨_, PySem.W.mg_of X G c5⟩, ⟨DA, esA, nA, uA, vA, PySem.W.mg_of X G cDA, ⟨lDA, kDA, wDA⟩, p1A, r1A, p2A, r2A, two_ns ⟨lDA, kDA, wDA⟩ t2A⟩⟩ : TCon K w mg)
  have O2 := (⟨D, es, n, uP, uQ, PySem.W.mg_of X G cO, ⟨lO, kO, wO⟩, pO, qO, oK2⟩ : Opp2 K w mg)
  have gTake := has_take (P := l.prog) (w := w) (base := base) d__law_take
  have gPool := has_pool (P := l.prog) (w := w) (base := base) d__law_pool m_len m_abs m_int
  have gName := has_name d__law_name gTake m_range
  have gItems := has_items d__law_items gName m_range
  have gWord := has_word d__law_word gTake m_range m_len m_tuple
  have gItem := has_isItem (P := l.prog) (w := w) (base := base) d_is_item B Co
  have gIsWord := has_isWord d_is_word gItem B
  have gCw := has_chkWord d_check_word gIsWord
  have gWh := has_whole (P := l.prog) (w := w) (base := base) d_is_whole B m_int m_bool
  have gLe := has_least (P := l.prog) (w := w) (base := base) d_least_peak B m_max
  have gM := (⟨gI, _, ⟨mkC, aI, iI, keC⟩, ok_init (fun_mk lI cI kI) T gCw gLe gWh, init_mk lI cI kI nI⟩ : Makes l.prog w K mg base C)
  have fNe := ok_never (fun_mk lM0 cM0 kM0) T gM
  have bNe := (fun_mk (st := sNever) lM0 cM0 kM0).binds (ps := ["cls"]) fun _ _ _ _ _ _ us hl => match us, hl with | [_], _ => rfl
  have gNe := (⟨.type "type", qM0, gM0, ⟨rdC, gaC⟩, ⟨aM0, ⟨_, uM0⟩, fM0⟩, (fNe.raw bNe .nil).imp fun vs H Q E h => by rw [List.append_nil]; exact h⟩ : NeverHas l.prog w K mg base C)
  have gRp := (⟨gR, _, fun g => ok_reprM (fun_mk lR cR kR) T, fun g => ok_reprH (fun_mk lR cR kR) T, aR, iR, (fun_mk lR cR kR).binds (ps := ["self"]) fun _ _ _ _ _ _ us hl => match us, hl with | [_], _ => rfl⟩ : ReprHasM l.prog w K mg base C)
  have gS := PySem.W.mg_of X G aS
  have oeX0 := (⟨⟨_, _, _, _, _, _, _, _, _, _, _, _, _, _, _, xX0, rfl⟩, saX0, eCX0, tCX0, kCX0⟩ : OexC K CX0)
  have FX0 := fun_mk (st := inClass sInvalidtext 0) lX0 cX0 kX0
  have TX0 := (⟨oeX0, PySem.W.mg_of X G aX0, ⟨gX0, _, iiX0, tiX0, init_ok FX0 scI_InvalidText oeX0 nfX0 rfl (.inl rfl) (.inl rfl) (by decide) (by decide), FX0.binds (ps := ["self", "value"]) fun _ _ _ _ _ _ us hl => match us, hl with | [_, _], _ => rfl⟩, ⟨gaX0, ggX0, eCX0, hCX0⟩, nfX0, ccX0, cg, ct, moX0, PySem.W.exm_ref eCX0 hCX0 tCX0 sCX0⟩ : XcC l.prog w K mg base "InvalidText" "value" CX0)
  have kiX0 := kit_below sSX0 tS hS
  have gItX := has_itemX (P := l.prog) (w := w) (base := base) d_is_item B Co
  have gWoX := has_wordX d_is_word gItX B
  have gStX := has_stepX d_is_step gItX B O2
  have gMyX := has_mayX (P := l.prog) (w := w) (base := base) d_may_hold_steps B Co
  have gSqX := has_seqX d_is_sequence gMyX gStX B
  have gWi := has_wordT d_word_in gWoX B TC
  have gSi := has_stepsT d_steps_in gSqX TC
  have gNi := has_numZ (P := l.prog) (w := w) (base := base) d_number_in B TC
  have gEi := has_effT d_effect_in T gM gNe gWi gNi gLe B TC
  have gPw := hasX_pword d_parse_word gWi TX0 B
  have gPsX := hasX_psteps d_parse_steps gSi TX0 B
  have gPe := hasX_peffect d_parse_effect gEi TX0 B
  have gLi := has_lItem (P := l.prog) (w := w) (base := base) d__law_is_item B
  have gLw := has_lWord d__law_word_of gLi B
  have gLs := has_lSteps d__law_steps_of gLi m_int
  have gLe2 := has_lEff d__law_effect_of T gM gNe gLw B m_int m_max
  have gTo := ghas_told d__law_told TX0 gS kiX0 gPw gPsX gPe B m_repr
  have gRt := has_right d__law_right gRp gLw gLs gLe2 gTo B m_range m_repr
  have gBe := has_bent d__law_bent gTake B
  have gPs := has_ps d_parse_steps gSi B
  exact ok_law F gPool gTake gItems gWord gBe gPs gTo gRt B m_range m_max m_min m_str
end
end SE
open PySem PySem.W PyProof.Rows
set_option maxHeartbeats 0 in
theorem PySem.Challenge.cw_stackeffect_k71_texts_refused_holds : PySem.Challenge.rw_stackeffect_k71_texts_refused.Holds := by
  w_on; o_law; k_head; (case hw => w_witness2)
  k_fill
  refine SE.walkG (l := PySem.Challenge.rw_stackeffect_k71_texts_refused) (n := 63) (k := 11) (x := "_law_script") (sp := SE.spLaw) rfl (by decide) rfl ⟨rfl, by decide, by decide⟩ (fun w h Y => PySem.W.kIn_of Y) ?F (fun _ _ a ns hl hS => ⟨a, ns, rfl, hS, hl, fun _ => rfl⟩)
  case F =>
    intro w mg fa h KX G hmg
    refine' SE.all_mk KX G hmg ?d_is_whole ?d_is_item ?d_is_word ?d_is_step ?d_may_hold_steps ?d_is_sequence ?d_check_word ?d_least_peak ?d_word_in ?d_steps_in ?d_number_in ?d_effect_in ?d_parse_word ?d_parse_steps ?d_parse_effect ?d__law_pool ?d__law_take ?d__law_name ?d__law_items ?d__law_word ?d__law_is_item ?d__law_word_of ?d__law_steps_of ?d__law_effect_of ?d__law_told ?d__law_right ?d__law_bent ?z_isinstance ?z_str ?z_len ?z_all ?z_tuple ?z_list ?z_enumerate ?z_range ?z_abs ?z_int ?z_bool ?z_max ?z_min ?z_repr ?cL ?cM ?cS ?c1 ?c3 ?c4 ?c5 ?cO ?lO ?kO ?wO ?pO ?qO ?rP ?rQ ?aC ?pg ?hd ?po ?sa ?nN ?nL ?nH ?mkC ?keC ?aI ?iI ?lI ?cI ?kI ?nI ?rdC ?gaC ?aM0 ?uM0 ?fM0 ?lM0 ?cM0 ?kM0 ?aR ?iR ?lR ?cR ?kR ?cDA ?lDA ?kDA ?wDA ?p1A ?p2A ?r1A ?r2A ?t2A ?oK2 ?aS ?tS ?hS ?cg ?ct ?aX0 ?xX0 ?saX0 ?gaX0 ?ggX0 ?nfX0 ?iiX0 ?tiX0 ?lX0 ?cX0 ?kX0 ?kCX0 ?eCX0 ?tCX0 ?hCX0 ?sCX0 ?sSX0 ?ccX0 ?moX0 ?aL ?lL ?ckL ?kL
    (case d_is_whole => refine' SE.def_mk KX G ?a ?l ?c ?k; (case a => k_is); (case l => k_is); (case c => k_is); (case k => k_is))
    (case d_is_item => refine' SE.def_mk KX G ?a ?l ?c ?k; (case a => k_is); (case l => k_is); (case c => k_is); (case k => k_is))
    (case d_is_word => refine' SE.def_mk KX G ?a ?l ?c ?k; (case a => k_is); (case l => k_is); (case c => k_is); (case k => k_is))
    (case d_is_step => refine' SE.def_mk KX G ?a ?l ?c ?k; (case a => k_is); (case l => k_is); (case c => k_is); (case k => k_is))
    (case d_may_hold_steps => refine' SE.def_mk KX G ?a ?l ?c ?k; (case a => k_is); (case l => k_is); (case c => k_is); (case k => k_is))
    (case d_is_sequence => refine' SE.def_mk KX G ?a ?l ?c ?k; (case a => k_is); (case l => k_is); (case c => k_is); (case k => k_is))
    (case d_check_word => refine' SE.def_mk KX G ?a ?l ?c ?k; (case a => k_is); (case l => k_is); (case c => k_is); (case k => k_is))
    (case d_least_peak => refine' SE.def_mk KX G ?a ?l ?c ?k; (case a => k_is); (case l => k_is); (case c => k_is); (case k => k_is))
    (case d_word_in => refine' SE.def_mk KX G ?a ?l ?c ?k; (case a => k_is); (case l => k_is); (case c => k_is); (case k => k_is))
    (case d_steps_in => refine' SE.def_mk KX G ?a ?l ?c ?k; (case a => k_is); (case l => k_is); (case c => k_is); (case k => k_is))
    (case d_number_in => refine' SE.def_mk KX G ?a ?l ?c ?k; (case a => k_is); (case l => k_is); (case c => k_is); (case k => k_is))
    (case d_effect_in => refine' SE.def_mk KX G ?a ?l ?c ?k; (case a => k_is); (case l => k_is); (case c => k_is); (case k => k_is))
    (case d_parse_word => refine' SE.def_mk KX G ?a ?l ?c ?k; (case a => k_is); (case l => k_is); (case c => k_is); (case k => k_is))
    (case d_parse_steps => refine' SE.def_mk KX G ?a ?l ?c ?k; (case a => k_is); (case l => k_is); (case c => k_is); (case k => k_is))
    (case d_parse_effect => refine' SE.def_mk KX G ?a ?l ?c ?k; (case a => k_is); (case l => k_is); (case c => k_is); (case k => k_is))
    (case d__law_pool => refine' SE.def_mk KX G ?a ?l ?c ?k; (case a => k_is); (case l => k_is); (case c => k_is); (case k => k_is))
    (case d__law_take => refine' SE.def_mk KX G ?a ?l ?c ?k; (case a => k_is); (case l => k_is); (case c => k_is); (case k => k_is))
    (case d__law_name => refine' SE.def_mk KX G ?a ?l ?c ?k; (case a => k_is); (case l => k_is); (case c => k_is); (case k => k_is))
    (case d__law_items => refine' SE.def_mk KX G ?a ?l ?c ?k; (case a => k_is); (case l => k_is); (case c => k_is); (case k => k_is))
    (case d__law_word => refine' SE.def_mk KX G ?a ?l ?c ?k; (case a => k_is); (case l => k_is); (case c => k_is); (case k => k_is))
    (case d__law_is_item => refine' SE.def_mk KX G ?a ?l ?c ?k; (case a => k_is); (case l => k_is); (case c => k_is); (case k => k_is))
    (case d__law_word_of => refine' SE.def_mk KX G ?a ?l ?c ?k; (case a => k_is); (case l => k_is); (case c => k_is); (case k => k_is))
    (case d__law_steps_of => refine' SE.def_mk KX G ?a ?l ?c ?k; (case a => k_is); (case l => k_is); (case c => k_is); (case k => k_is))
    (case d__law_effect_of => refine' SE.def_mk KX G ?a ?l ?c ?k; (case a => k_is); (case l => k_is); (case c => k_is); (case k => k_is))
    (case d__law_told => refine' SE.def_mk KX G ?a ?l ?c ?k; (case a => k_is); (case l => k_is); (case c => k_is); (case k => k_is))
    (case d__law_right => refine' SE.def_mk KX G ?a ?l ?c ?k; (case a => k_is); (case l => k_is); (case c => k_is); (case k => k_is))
    (case d__law_bent => refine' SE.def_mk KX G ?a ?l ?c ?k; (case a => k_is); (case l => k_is); (case c => k_is); (case k => k_is))
    (case z_isinstance => k_is)
    (case z_str => k_is)
    (case z_len => k_is)
    (case z_all => k_is)
    (case z_tuple => k_is)
    (case z_list => k_is)
    (case z_enumerate => k_is)
    (case z_range => k_is)
    (case z_abs => k_is)
    (case z_int => k_is)
    (case z_bool => k_is)
    (case z_max => k_is)
    (case z_min => k_is)
    (case z_repr => k_is)
    (case cL => k_is)
    (case cM => k_is)
    (case cS => k_is)
    (case c1 => k_is)
    (case c3 => k_is)
    (case c4 => k_is)
    (case c5 => k_is)
    (case cO => k_is)
    (case lO => k_is)
    (case kO => exact ⟨⟨_, _, rfl, rfl⟩, ⟨_, _, rfl, rfl⟩, trivial⟩)
    (case wO => rfl)
    (case pO => k_is)
    (case qO => k_is)
    (case rP => exact ⟨_, rfl⟩)
    (case rQ => exact ⟨_, rfl⟩)
    (case aC => k_is)
    (case pg => k_is)
    (case hd => k_is)
    (case po => k_is)
    (case sa => k_is)
    (case nN => k_is)
    (case nL => k_is)
    (case nH => k_is)
    (case mkC => k_is)
    (case keC => k_is)
    (case aI => k_is)
    (case iI => k_is)
    (case lI => k_is)
    (case cI => k_is)
    (case kI => k_is)
    (case nI => k_is)
    (case rdC => k_is)
    (case gaC => k_is)
    (case aM0 => k_is)
    (case uM0 => k_is)
    (case fM0 => k_is)
    (case lM0 => k_is)
    (case cM0 => k_is)
    (case kM0 => k_is)
    (case aR => k_is)
    (case iR => k_is)
    (case lR => k_is)
    (case cR => k_is)
    (case kR => k_is)
    (case cDA => k_is)
    (case lDA => k_is)
    (case kDA => exact ⟨⟨_, _, rfl, rfl⟩, ⟨_, _, rfl, rfl⟩, trivial⟩)
    (case wDA => rfl)
    (case p1A => k_is)
    (case p2A => k_is)
    (case r1A => exact ⟨_, rfl⟩)
    (case r2A => exact ⟨_, rfl⟩)
    (case t2A => exact ⟨⟨_, _, rfl, .inl rfl⟩, ⟨_, _, rfl, .inr rfl⟩, trivial⟩)
    (case oK2 => exact ⟨⟨_, _, rfl, .inl rfl⟩, ⟨_, _, rfl, .inr rfl⟩, trivial⟩)
    (case aS => k_is)
    (case tS => k_is)
    (case hS => k_is)
    (case cg => k_is)
    (case ct => k_is)
    (case aX0 => k_is)
    (case xX0 => k_is)
    (case saX0 => k_is)
    (case gaX0 => k_is)
    (case ggX0 => k_is)
    (case nfX0 => k_is)
    (case iiX0 => k_is)
    (case tiX0 => k_is)
    (case lX0 => k_is)
    (case cX0 => k_is)
    (case kX0 => k_is)
    (case kCX0 => k_is)
    (case eCX0 => k_is)
    (case tCX0 => k_is)
    (case hCX0 => k_is)
    (case sCX0 => first | rfl | k_is)
    (case sSX0 => first | rfl | k_is)
    (case ccX0 => k_is)
    (case moX0 => k_is)
    (case aL => k_is)
    (case lL => k_is)
    (case ckL => k_is)
    (case kL => k_is)
