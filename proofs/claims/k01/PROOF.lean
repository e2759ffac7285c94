import PyProof.Rows.All
import Wide.All
import OpenK.AllK
import Wide.FinOn
import PyProof.EqAt
import PyProof.EqKinds
import PyProof.TupleCall
import HandS.Base
import HandS.Call
import HandS.List
import HandS.Ends
import HandS.Words
import HandS.Comp
import HandS.Dict
import HandS.Iter
import HandS.Text
import HandS.WordsList
import HandS.Defaults
import PyProof.EnumMake
import PyProof.Draws
import KE.GoesMore
import KE.KRevSl
import PyProof.ReprLen
import PyProof.ReprText
import HandS.More
import HandS.Evl
import HandS.Walk
import HandS.IsInst
import HandS.TupAny
import HandS.Style
import HandS.Deep
import PyProof.ReprRoads
import PyProof.ReprDict
import PyProof.CallFns
import PyProof.FactsAll.dict
import PyProof.StrLaws
import HandS.TupMul
import HandS.Strs
import HandS.Set
import PySem.Challenge.RW_stackeffect_k01_items_words_sequences
set_option Elab.async false
set_option linter.all false
set_option maxRecDepth 100000
set_option maxHeartbeats 4000000
/-! Defs called where no repr is under way: their promise (GOk), their call, the law's head, and repr of plain data. -/
namespace SE
open PySem PySem.Spec PyProof.Rows L2

/-- the promise of a def whose caller has no repr under way -/
structure GOk (P : Program) (w : World) (K : PySem.W.Frag) (mg : Str → Option Value) (base : Heap) (k : Nat) (f : Addr) (fd : FuncData) (ps : List Str) (sp : Sp) : Prop where
  len : ∀ xs H Q E, sp xs H Q E → xs.length = ps.length
  run : ∀ (A : Around) (out : List Env) (s : Shared) (H : Hp) (args : Args) (us : List Value) (xs : List V) (Q : VK) (E : XK), A.guards = some [] → Room k A → Env0 P w K mg base A out s H →
    BindsTo s fd args (ps.zip us) → Vals xs us → sp xs H Q E → codeAny (model P w) A (.call (.ref f) args) (CR (fun _ _ _ _ _ _ => False) out P w H s Q E) s

section
variable {P : Program} {w : World} {K : PySem.W.Frag} {mg : Str → Option Value} {base : Heap}
theorem gok_of {k : Nat} {f : Addr} {nm ql : Str} {pars : Arguments} {bd : List Stmt} {sc : Scope} {dV kV doc pm cv ct oc : Value} {an od : Option Addr}
    {osl : Array (Option Value)} {N ps : List Str} {sp : Sp} (look : K.lookup f = some ⟨oc, od, .func (PySem.W.fnOf nm ql pars bd sc dV kV doc pm an cv ct), osl⟩) (hcode : PySem.W.codeIn K cv ql = true) (S : FnScope N ps sc)
    (len : ∀ xs H Q E, sp xs H Q E → xs.length = ps.length)
    (hbd : ∀ (A : Around) (out : List Env) (s : Shared) (H : Hp) (xs : List V) (Q : VK) (E : XK), A.guards = some [] → Room k (A.deeper (envOfC ql sc s.heap.objs.size f cv)) → sp xs H Q E →
      ∃ t, PSs (cxOf (fun _ _ _ _ _ _ => False) P w K mg base N ql sc f cv A out s H E) bd t ∧ t { nx := fun _ H2 => Q .non H2, rt := Q } (start N xs) H) :
    GOk P w K mg base (k + 1) f (PySem.W.fnOf nm ql pars bd sc dV kV doc pm an cv ct) ps sp := by
  constructor
  · exact len
  intro A out s H args us xs Q E hgu hroom env hbind hvals hpre
  have hlen := len _ _ _ _ hpre
  have kin : K.In s.heap := env.mod.kin.keeps fun b o z => (env.bs b o z).1
  have nolim : s.heap.NoLimit := env.mod.nolimit.keeps fun b o z => (env.bs b o z).1
  have kinds : ∀ y ∈ ps.zip us, sc.names.lookup y.1 = some .local ∨ (sc.names.lookup y.1 = some .cell ∧ ((cellsFrom (s.heap.objs.size + 1) sc.names []).lookup y.1).isSome = true) := by
    rintro ⟨n, v⟩ hy
    rcases S.par n (List.of_mem_zip hy).1 with q | q
    · exact .inl q
    · exact .inr ⟨q, PySem.W.cellsFrom_some _ _ _ (.inl q)⟩
  apply codeAny_call_function hroom.depth (kin _ _ look) rfl S.co S.gen rfl (PySem.W.codeRec_of kin hcode)
  apply hbind
  refine wpAny_newFunctionEnv_cells S.kind kinds fun ev hev s2 inc => ?_
  subst hev
  refine ⟨nolim.keeps inc.toInCall.keep, codeAny_func ?_⟩
  obtain ⟨t, der, rd⟩ := hbd A out s H xs Q E hgu (hroom.deeper _) hpre
  have J0 : Inv (cxOf (fun _ _ _ _ _ _ => False) P w K mg base N ql sc f cv A out s H E) [] (start N xs) H s2 := inv_start S hroom.hd env hlen hvals inc
  refine wpAny_mono (der.run [] s2 (start N xs) H _ J0 rd) (fun fl s3 hs => ?_) fun e s3 hs => hs
  cases fl with
  | ret u =>
    obtain ⟨v, σ3, H3, J, rv, q⟩ := hs
    exact ⟨v, H3, J.os, J.bare, J.base, J.hok, rv, q⟩
  | next =>
    obtain ⟨σ3, H3, J, q⟩ := hs
    exact ⟨V.non, H3, J.os, J.bare, J.base, J.hok, rfl, q⟩
  | brk => exact hs.elim fun _ z => z.elim fun _ z => z.2.elim
  | cont => exact hs.elim fun _ z => z.elim fun _ z => z.2.elim
theorem gok_mk {x ql : Str} {st : Stmt} {f : Addr} {fd : FuncData} {N ps : List Str} {k : Nat} {sp : Sp} (F : Fun K x ql st f fd) (S : FnScope N ps (defScope st)) (len : ∀ xs H Q E, sp xs H Q E → xs.length = ps.length)
    (hbd : ∀ (cv : Value) (A : Around) (out : List Env) (s : Shared) (H : Hp) (xs : List V) (Q : VK) (E : XK), A.guards = some [] → Room k (A.deeper (envOfC ql (defScope st) s.heap.objs.size f cv)) → sp xs H Q E →
      ∃ t, PSs (cxOf CX0 P w K mg base N ql (defScope st) f cv A out s H E).nox (defBody st) t ∧ t { nx := fun _ H2 => Q .non H2, rt := Q } (start N xs) H) : GOk P w K mg base (k + 1) f fd ps sp := by
  obtain ⟨oc, od, kV, doc, pm, an, cv, ct, osl, rfl, look, hcode⟩ := F.ex
  refine gok_of look hcode S len fun A out s H xs Q E hgu hr hpre => ?_
  obtain ⟨t, a, b⟩ := hbd cv A out s H xs Q E hgu hr hpre
  exact ⟨t, a.nox, b⟩
end

section
variable {X : Cx} {k : Nat} {f : Addr} {fd : FuncData} {ps : List Str} {sp : Sp} {x : Str} {p pos : Pos} {e : Expr} {es : List Expr} {t : TA}
theorem pe_callG (F : GOk X.prog X.w X.K X.mg X.base k f fd ps sp) (hgu : X.A.guards = some []) (hr : Room k X.A) (hg : Gl X x) (hm : X.mg x = some (.ref f)) (hk : PySem.W.keepIn X.K (.ref f) = true) (hb : Binds X.K fd ps [])
    (ha : PA X (e :: es) t) (hdb : (x == ("__debug__" : Str)) = false := by decide) (he : starEach (e :: es) X.env = (false, eval e X.env) :: starEach es X.env := by rfl) (hpl : (backTo pos (starEach es X.env)).any (·.1) = false := by rfl) :
    PE X (.Call (.Name x p) (e :: es) [] pos) (tCall sp [] (fun _ _ _ => False) t) := by
  constructor
  intro pins s σ H Q I h
  apply wpAny_Call_Name_kw
  apply ld_glob I hg hm _ hdb
  refine PySem.W.callWith_K (h₀ := X.base) I.ok.mod.kin hk (thn (ha.run pos pins s σ H _ I h) fun us s1 hh => ?_) he hpl
  obtain ⟨xs, H1, I1, r, q⟩ := hh
  refine ⟨I1.kIn, ?_⟩
  have q' : sp xs H1 Q (fun _ _ _ => False) := by rw [List.append_nil] at q; exact q
  have hl : us.length = ps.length := by rw [← r.length]; exact F.len _ _ _ _ q'
  have hb' := hb s1 us I1.kIn (by rw [List.append_nil]; exact hl)
  rw [List.append_nil] at hb'
  refine wpAny_call (codeAny_mono (F.run X.A X.stack s1 H1 ⟨us, []⟩ us xs Q _ hgu hr I1.env0 hb' r q') fun r2 s2 hq => ?_)
  cases r2 with
  | error _ => exact hq.elim
  | ok fl =>
    cases fl with
    | ret _ => exact I1.after hq
    | next => exact hq.elim
    | brk => exact hq.elim
    | cont => exact hq.elim
end

section
variable {X : Cx}
/-- repr(x), x plain data -/
def rRep (K : PySem.W.Frag) : List V → Hp → VK → Prop := fun xs H Q => ∃ (x : V) (d : PyData), xs = [x] ∧ Dp K H x d ∧ (∃ a, x = .ref a) ∧ d.showable = true ∧ d.hasDict = false ∧ d.depth ≤ 20 ∧ d.shown.length ≤ sizeLine ∧ Q (.str d.shown) H
theorem call_rep (hgu : X.A.guards = some []) (hu : X.A.units + 64 < cLine) : CallR X (.builtin "repr") (rRep X.K) := by
  intro pins s σ H xs us Q I r h
  obtain ⟨x, d, rfl, hd, ⟨a, rfl⟩, hs, hn, hdep, hz, q⟩ := h
  cases r with
  | cons r1 r2 =>
    cases r2
    cases r1
    obtain ⟨as, rd⟩ := Dp.reads I d (.ref a) (.ref a) hd rfl
    refine repr_of_reads' rd hs (PyData.noDict_hsm hn) hgu (by omega) (fun _ _ z => z) (fun h' u tk hk => ?_) hz
    exact ⟨.str d.shown, H, I.kept (t' := tk) hk, ⟨_, rfl⟩, q⟩
end
/-! ### the law's head -/
theorem lawG {P : Program} {w : World} {K : PySem.W.Frag} {mg mb : Str → Option Value} {k : Nat} {fa a : Addr} {fd : FuncData} {x : Str} {sp : Sp} {s1 : Shared} {vs : List Value} {ns : List Int}
    (kin : K.In s1.heap) (hns : s1.heap.Ns mainGlobals mg) (hbn : s1.heap.Ns builtinsNs mb) (hbb : ∀ x : Str, x ≠ "__name__" → mb x = bootBuiltins x) (nolim : s1.heap.NoLimit) (hg : s1.gens = #[])
    (hobj : s1.heap.get? a = some { cls := .type "list", data := .seq vs.toArray }) (hi : IntsAre vs ns) (hz : ns.length ≤ sizeLine) (hr : Room k callerA)
    (F : ∀ base : Heap, K.In base → base.Ns mainGlobals mg → GOk P w K mg base k fa fd [x] sp) (hbind : ∀ (s : Shared) (u : Value), BindsTo s fd ⟨[u], []⟩ [(x, u)])
    (hsp : ∀ H : Hp, SqL K H a (ns.map V.int) → sp [.ref a] H (fun v _ => v = .bl true) fun _ _ _ => False) :
    codeAny (model P w) callerA (.call (.ref fa) ⟨[.ref a], []⟩) (fun r s2 => r = .ok (.ret (.bool true)) ∧ OldK s1.heap s2.heap ∧ s2.os = s1.os ∧ AllBare s2.gens) s1 := by
  have rel := vals_ints hi
  have same := hi.length
  have go : ∀ H : Hp, (∀ b u, H b = some u → b = a ∧ K.lookup a = none ∧ ∃ o xs, u = .frz o (.lst xs)) → SqL K H a (ns.map V.int) → HOk P w H s1.heap →
      codeAny (model P w) callerA (.call (.ref fa) ⟨[.ref a], []⟩) (fun r s2 => r = .ok (.ret (.bool true)) ∧ OldK s1.heap s2.heap ∧ s2.os = s1.os ∧ AllBare s2.gens) s1 := by
    intro H only hS hok
    have free : ∀ {b : Addr}, b ≠ a → H b = none := fun {b} hb => by
      cases q : H b with
      | none => rfl
      | some u => exact absurd (only b u q).1 hb
    have freeD : ∀ {b : Addr} {o : Obj} {es : Array DictEntry} {ep : Nat}, s1.heap.get? b = some o → o.data = .dict es ep → H b = none := fun {b o es ep} e d => by
      by_cases hb : b = a
      · subst hb
        rw [hobj] at e
        cases e
        cases d
      · exact free hb
    have ns2 : ∀ {b : Addr} {m : Str → Option Value}, s1.heap.Ns b m → (hidT s1.heap H).Ns b m := by
      rintro b m ⟨o, es, ep, e, d, r⟩
      exact ⟨o, es, ep, hidT_get e (freeD e d), d, r⟩
    have kin2 : K.In (hidT s1.heap H) := by
      intro b o e
      refine hidT_get (kin b o e) ?_
      cases q : H b with
      | none => rfl
      | some u =>
        obtain ⟨eb, nk, _⟩ := only b u q
        subst eb
        rw [nk] at e
        cases e
    have mod : Mod K mg (hidT s1.heap H) := by
      refine ⟨kin2, ns2 hns, ⟨mb, ns2 hbn, hbb⟩, ?_⟩
      obtain ⟨mc, h1, h2⟩ := nolim
      exact ⟨mc, ns2 h1, h2⟩
    have env : Env0 P w K mg (hidT s1.heap H) callerA [] s1 H :=
      ⟨rfl, mod, fun b o e => of_hidT e, Nat.le_of_eq (hidT_size _ _), trivial, fun b hb => (by cases (show b ∈ ([] : List Addr) from hb)), hok, .of_eq hg⟩
    have runs := (F _ kin2 (ns2 hns)).run callerA [] s1 H ⟨[.ref a], []⟩ [.ref a] [.ref a] (fun v _ => v = .bl true) (fun _ _ _ => False) rfl hr env (hbind s1 (.ref a)) (.cons rfl .nil) (hsp H hS)
    refine codeAny_mono runs fun r s2 h => ?_
    cases r with
    | error _ => exact h.elim
    | ok fl =>
      cases fl with
      | next => exact h.elim
      | brk => exact h.elim
      | cont => exact h.elim
      | ret u =>
        obtain ⟨v, H2, os, bare, un, hok2, r2, q⟩ := h
        have q2 : v = .bl true := q
        subst q2
        obtain rfl : u = Value.bool true := r2
        refine ⟨rfl, OldK.of_keep fun b o e => ?_, os, bare⟩
        cases z : H b with
        | none => exact un.keep b o e z (fun m => by cases (show b ∈ ([] : List Addr) from m)) (fun m => by cases m)
        | some u2 =>
          obtain ⟨_, _, ob, ys, eu⟩ := only b u2 z
          subst eu
          obtain ⟨e1, _⟩ := hok b _ z
          obtain ⟨e2, _⟩ := hok2 b _ (un.frzs b ob _ z)
          rw [e] at e1
          cases e1
          exact e2
  cases hk : K.lookup a with
  | some o =>
    have e := kin a o hk
    rw [hobj] at e
    cases e
    refine go (fun _ => none) (fun b u z => nomatch z) (.inr ⟨_, vs.toArray, _, hk, rfl, rfl, rfl, by rw [List.size_toArray, same]; exact hz, by simpa using rel⟩) (fun b u z => nomatch z)
  | none =>
    have at1 : ∀ {b : Addr} {u : HO}, (if b = a then some (HO.frz { cls := .type "list", data := .seq vs.toArray } (.lst (ns.map V.int))) else none) = some u → b = a ∧ u = .frz { cls := .type "list", data := .seq vs.toArray } (.lst (ns.map V.int)) := fun {b u} z => by
      by_cases hb : b = a
      · rw [if_pos hb] at z
        cases z
        exact ⟨hb, rfl⟩
      · rw [if_neg hb] at z
        cases z
    refine go (fun b => if b = a then some (.frz { cls := .type "list", data := .seq vs.toArray } (.lst (ns.map V.int))) else none) (fun b u z => ?_) (.inl (.inr ⟨{ cls := .type "list", data := .seq vs.toArray }, if_pos rfl⟩)) (fun b u z => ?_)
    · obtain ⟨e1, e2⟩ := at1 z
      exact ⟨e1, hk, _, _, e2⟩
    · obtain ⟨e1, e2⟩ := at1 z
      subst e1
      subst e2
      exact ⟨hobj, by rw [List.length_map]; exact hz, vs, _, rel, hobj⟩
theorem walkG {l : PySem.W.OpenLaw} {n k : Nat} {q : Program} {loose : List Str} {XP : (Str → Option Value) → Heap → Prop} {YP : World → Heap → Prop} {d : DefRec} {K : Params → PySem.W.Frag} {sp : PySem.W.Frag → Sp} {x : Str}
    (hn : l.most = some n) (hn2 : n ≤ sizeLine) (hdf : d.params.defaults = []) (hr : Room k callerA) (hY : ∀ (w : World) (h : Heap), YP w h → (K w.params).In h)
    (F : ∀ (w : World) (mg : Str → Option Value) (fa : Addr) (h : Heap), (K w.params).In h → h.Ns mainGlobals mg → mg d.name = some (.ref fa) →
      ∃ fd : FuncData, (∀ (s : Shared) (u : Value), BindsTo s fd ⟨[u], []⟩ [(x, u)]) ∧ ∀ base : Heap, (K w.params).In base → base.Ns mainGlobals mg → GOk l.prog w (K w.params) mg base k fa fd [x] (sp (K w.params)))
    (hsp : ∀ (K : PySem.W.Frag) (H : Hp) (a : Addr) (ns : List Int), ns.length ≤ n → SqL K H a (ns.map V.int) → sp K [.ref a] H (fun v _ => v = .bl true) fun _ _ _ => False) :
    PySem.W.WalkO q loose XP YP l.row.toRowW d [] (fun f vs => PySem.call f vs) := by
  apply Att.attach_call hn hdf
  intro w s0 s1 mg mb fa o pm cd doc a vs ns G Y ho hd hcd hmg hobj hints hlen hg
  have kin := hY w _ Y
  obtain ⟨fd, hb, hF⟩ := F w mg fa _ kin G.T.g hmg
  exact lawG kin G.T.g G.T.b G.T.builtins G.T.nolimit hg hobj hints (Nat.le_trans hlen hn2) hr hF hb fun H hS => hsp _ H a ns hlen hS
end SE
/-! Defs by their names. -/
namespace SE
open PySem PySem.Spec PyProof.Rows L2
section
variable {P : Program} {w : World} {K : PySem.W.Frag} {mg : Str → Option Value} {base : Heap}
/-- the def st stands under its name -/
def Def (K : PySem.W.Frag) (mg : Str → Option Value) (x : Str) (st : Stmt) : Prop := ∃ f fd, Fun K x x st f fd ∧ mg x = some (.ref f)
/-- a def that keeps the promise sp stands under the name x; dvs: the values of its defaults -/
def Has (P : Program) (w : World) (K : PySem.W.Frag) (mg : Str → Option Value) (base : Heap) (x : Str) (k : Nat) (ps : List Str) (dvs : List V) (sp : Sp) : Prop :=
  ∃ f fd ds, FnOk P w K mg base CX0 k f fd ps sp ∧ mg x = some (.ref f) ∧ PySem.W.keepIn K (.ref f) = true ∧ Binds K fd ps ds ∧ Vals dvs ds ∧ ∃ st, Fun K x x st f fd
def GHas (P : Program) (w : World) (K : PySem.W.Frag) (mg : Str → Option Value) (base : Heap) (x : Str) (k : Nat) (ps : List Str) (sp : Sp) : Prop :=
  ∃ f fd, GOk P w K mg base k f fd ps sp ∧ mg x = some (.ref f) ∧ PySem.W.keepIn K (.ref f) = true ∧ Binds K fd ps []
abbrev Bx (P : Program) (w : World) (K : PySem.W.Frag) (mg : Str → Option Value) (base : Heap) (N : List Str) (x : Str) (st : Stmt) (f : Addr) (cv : Value) (A : Around) (out : List Env) (s : Shared) (H : Hp) (E : XK) : Cx :=
  (cxOf CX0 P w K mg base N x (defScope st) f cv A out s H E).nox
theorem has_of {x : Str} {st : Stmt} {N ps : List Str} {k : Nat} {sp : Sp} (D : Def K mg x st) (S : FnScope N ps (defScope st))
    (hb : ∀ (kV doc pm : Value) (an : Option Addr) (cv ct : Value) (us : List Value), us.length = ps.length → bindArgs (PySem.W.fnOf x x (defArgs st) (defBody st) (defScope st) .none kV doc pm an cv ct) ⟨us, []⟩ = pure (ps.zip us))
    (len : ∀ xs H Q E, sp xs H Q E → xs.length = ps.length)
    (hbd : ∀ (f : Addr) (cv : Value) (A : Around) (out : List Env) (s : Shared) (H : Hp) (xs : List V) (Q : VK) (E : XK), Room k (A.deeper (envOfC x (defScope st) s.heap.objs.size f cv)) → sp xs H Q E →
      ∃ t, PSs (Bx P w K mg base N x st f cv A out s H E) (defBody st) t ∧ t { nx := fun _ H2 => Q .non H2, rt := Q } (start N xs) H) : Has P w K mg base x (k + 1) ps [] sp := by
  obtain ⟨f, fd, F, hm⟩ := D
  exact ⟨f, fd, [], F.ok S len fun cv A out s H xs Q E hr h => hbd f cv A out s H xs Q E hr h, hm, F.kp, F.binds hb, .nil, st, F⟩
theorem ghas_of {x : Str} {st : Stmt} {N ps : List Str} {k : Nat} {sp : Sp} (D : Def K mg x st) (S : FnScope N ps (defScope st))
    (hb : ∀ (kV doc pm : Value) (an : Option Addr) (cv ct : Value) (us : List Value), us.length = ps.length → bindArgs (PySem.W.fnOf x x (defArgs st) (defBody st) (defScope st) .none kV doc pm an cv ct) ⟨us, []⟩ = pure (ps.zip us))
    (len : ∀ xs H Q E, sp xs H Q E → xs.length = ps.length)
    (hbd : ∀ (f : Addr) (cv : Value) (A : Around) (out : List Env) (s : Shared) (H : Hp) (xs : List V) (Q : VK) (E : XK), A.guards = some [] → Room k (A.deeper (envOfC x (defScope st) s.heap.objs.size f cv)) → sp xs H Q E →
      ∃ t, PSs (Bx P w K mg base N x st f cv A out s H E) (defBody st) t ∧ t { nx := fun _ H2 => Q .non H2, rt := Q } (start N xs) H) : GHas P w K mg base x (k + 1) ps sp := by
  obtain ⟨f, fd, F, hm⟩ := D
  exact ⟨f, fd, gok_mk F S len fun cv A out s H xs Q E hg hr h => hbd f cv A out s H xs Q E hg hr h, hm, F.kp, F.binds hb⟩
theorem Has.mono {x : Str} {j k : Nat} {ps : List Str} {dvs : List V} {sp : Sp} (h : Has P w K mg base x j ps dvs sp) (hk : j ≤ k) : Has P w K mg base x k ps dvs sp := by
  obtain ⟨f, fd, ds, F, r⟩ := h
  exact ⟨f, fd, ds, F.mono hk, r⟩
theorem Has.fun {x : Str} {k : Nat} {ps : List Str} {dvs : List V} {sp : Sp} {st : Stmt} (h : Has P w K mg base x k ps dvs sp) (D : Def K mg x st) : ∃ f fd, FnOk P w K mg base CX0 k f fd ps sp ∧ mg x = some (.ref f) ∧ PySem.W.keepIn K (.ref f) = true ∧ Fun K x x st f fd := by
  obtain ⟨f, fd, ds, G, hm, hk, hb, hd, st2, F2⟩ := h
  obtain ⟨g, fe, F, hg⟩ := D
  have e : f = g := by
    rw [hm] at hg
    cases hg
    rfl
  subst e
  have e2 : fd = fe := by
    obtain ⟨_, _, _, _, _, _, _, _, _, _, l1, _⟩ := F.ex
    obtain ⟨_, _, _, _, _, _, _, _, _, _, l2, _⟩ := F2.ex
    rw [l1] at l2
    cases l2
    rfl
  subst e2
  exact ⟨f, fd, G, hm, hk, F⟩
end
section
variable {X : Cx} {k : Nat} {ps : List Str} {sp : Sp} {x : Str} {p pos : Pos} {e : Expr} {es : List Expr} {t : TA} {dvs : List V}
theorem pe_has (h : Has X.prog X.w X.K X.mg X.base x k ps dvs sp) (hr : Room k X.A) (ha : PA X (e :: es) t) (hg : Gl X x := by rfl) (hdb : (x == ("__debug__" : Str)) = false := by decide)
    (he : starEach (e :: es) X.env = (false, eval e X.env) :: starEach es X.env := by rfl) (hpl : (backTo pos (starEach es X.env)).any (·.1) = false := by rfl) : PE X (.Call (.Name x p) (e :: es) [] pos) (tCall sp dvs E0 t) := by
  obtain ⟨f, fd, ds, F, hm, hk, hb, hd, _⟩ := h
  exact pe_call F hr hg hm hk hb hd pass0 ha hdb he hpl
theorem pe_ghas (h : GHas X.prog X.w X.K X.mg X.base x k ps sp) (hgu : X.A.guards = some []) (hr : Room k X.A) (ha : PA X (e :: es) t) (hg : Gl X x := by rfl) (hdb : (x == ("__debug__" : Str)) = false := by decide)
    (he : starEach (e :: es) X.env = (false, eval e X.env) :: starEach es X.env := by rfl) (hpl : (backTo pos (starEach es X.env)).any (·.1) = false := by rfl) : PE X (.Call (.Name x p) (e :: es) [] pos) (tCall sp [] E0 t) := by
  obtain ⟨f, fd, F, hm, hk, hb⟩ := h
  exact pe_callG F hgu hr hg hm hk hb ha hdb he hpl
end
/-! ### heaps -/
theorem Same.tup {K : PySem.W.Frag} {H H' : Hp} {a : Addr} {xs : List V} (e : Same H H') (h : SqT K H a xs) : SqT K H' a xs := by
  rcases h with (h | ⟨o, h⟩) | h
  · exact .inl (.inl (e _ _ h))
  · exact .inl (.inr ⟨o, e _ _ h⟩)
  · exact .inr h
theorem Same.new {H : Hp} {p : Addr} {o : HO} (h : H p = none) : Same H (upd H p o) := fun b u z => by
  rw [upd_ne (ne_of_none z h)]
  exact z
/-- all but what stands at p -/
def But (p : Addr) (H H' : Hp) : Prop := ∀ b o, b ≠ p → H b = some o → H' b = some o
theorem But.refl (p : Addr) (H : Hp) : But p H H := fun _ _ _ h => h
theorem But.trans {p : Addr} {H H1 H2 : Hp} (a : But p H H1) (b : But p H1 H2) : But p H H2 := fun c o n h => b c o n (a c o n h)
theorem But.of {p : Addr} {H H1 : Hp} (a : Same H H1) : But p H H1 := fun c o _ h => a c o h
theorem But.at {p : Addr} {H : Hp} {o : HO} : But p H (upd H p o) := fun c u n h => by
  rw [upd_ne n]
  exact h
/-- what H does not know may change -/
theorem But.free {p q : Addr} {H H1 : Hp} {o : HO} (a : But p H H1) (h : H q = none) : But p H (upd H1 q o) := fun c u n z => by
  rw [upd_ne (ne_of_none z h)]
  exact a c u n z
theorem Same.free2 {q : Addr} {H H1 : Hp} {o : HO} (a : Same H H1) (h : H q = none) : Same H (upd H1 q o) := fun c u z => by
  rw [upd_ne (ne_of_none z h)]
  exact a c u z
theorem But.none {p q : Addr} {H H1 : Hp} (a : But p H H1) (n : q ≠ p) (h : H1 q = Option.none) : H q = Option.none := by
  cases z : H q with
  | none => rfl
  | some o =>
    rw [a q o n z] at h
    cases h
/-! ### the drawn numbers -/
/-- a pool: two numbers -/
structure Pool (H : Hp) (p : Addr) : Prop where
  ex : ∃ m s : Int, H p = some (.lst [.int m, .int s]) ∧ 0 ≤ m ∧ 0 ≤ s ∧ s < 2147483647
theorem Pool.ne {H : Hp} {p t : Addr} {xs : List V} (h : Pool H p) (ht : H t = some (.tup xs)) : t ≠ p := by
  obtain ⟨m, s, e, _⟩ := h.ex
  intro z
  rw [z, e] at ht
  cases ht
theorem Pool.free {H : Hp} {p q : Addr} (h : Pool H p) (hq : H q = none) : q ≠ p := by
  obtain ⟨m, s, e, _⟩ := h.ex
  intro z
  rw [z, e] at hq
  cases hq
theorem Pool.same {H H' : Hp} {p : Addr} (h : Pool H p) (s : Same H H') : Pool H' p := by
  obtain ⟨m, n, e, r⟩ := h.ex
  exact ⟨m, n, s _ _ e, r⟩
theorem Pool.upd {H : Hp} {p q : Addr} {o : HO} (h : Pool H p) (n : q ≠ p) : Pool (L2.upd H q o) p := by
  obtain ⟨m, k, e, r⟩ := h.ex
  exact ⟨m, k, by rw [upd_ne (Ne.symm n)]; exact e, r⟩
end SE
/-! enumerate(t) and t[::-1] of a tuple. -/
namespace SE
open PySem PySem.Spec PyProof.Rows L2
section
open Sem (wp)
open AutoSeq1 (wpAny_loadPart')
theorem meets_enum_newT (t : Addr) (items : Array Value) (n : Nat) (dct : Option Addr) (sl : Array (Option Value)) :
    Meets (Builtin.«enumerate.__new__» ⟨[.type "enumerate", .ref t], []⟩) (fun _ R s => s.heap.get? t = some { cls := .type "tuple", dict := dct, data := .seq items n, slots := sl } ∧
      R (.ok (.ret (.ref (s.heap.push { cls := .type "tuple_iterator", data := .fields #[.ref t, .int 0 0] }).objs.size)))
        { s with heap := (s.heap.push { cls := .type "tuple_iterator", data := .fields #[.ref t, .int 0 0] }).push { cls := .type "enumerate", data := .fields #[.none, .bool false, .ref s.heap.objs.size, rawInt 0, .none, .none] } }) := by
  refine .of_wp fun prog w A R s h => ?_
  obtain ⟨hp, g, d, tk, os⟩ := s
  obtain ⟨ht, h⟩ := h
  have hsub := sub_enumerate
  have hT : Heap.IsTuple (Shared.heap ⟨hp, g, d, tk, os⟩) t items := ⟨_, ht, rfl, n, rfl⟩
  wp_walk using wpAny_loadPart' ht
  refine wpAny_stack_any fun st => wpAny_pure ?_
  split
  · rename_i c _ _ _ _ _
    cases (c == Value.type "enumerate")
    · wp_walk using wpAny_loadPart' ht, wpAny_pyIter_tuple hT
      exact ⟨_, rfl, h⟩
    · wp_walk using wpAny_loadPart' ht, wpAny_pyIter_tuple hT
      exact ⟨_, rfl, h⟩
  · wp_walk using wpAny_loadPart' ht, wpAny_pyIter_tuple hT
    exact ⟨_, rfl, h⟩
end
section
variable {prog : Program} {w : World} {A : Around} {E : Value → Shared → Prop} {s : Shared}
theorem call_enumT {t : Addr} {items : Array Value} {Q : Value → Shared → Prop} (hT : s.heap.IsTuple t items)
    (h : ∀ h', IsEnum h' (s.heap.objs.size + 1) s.heap.objs.size 0 .none → h'.IsTupleIter s.heap.objs.size t 0 → (∀ b o, s.heap.get? b = some o → h'.get? b = some o) → Q (.ref (s.heap.objs.size + 1)) { s with heap := h' }) :
    wpAny (model prog w) A (call (.type "enumerate") [.ref t]) Q E s := by
  obtain ⟨⟨c, dct, dt, sl⟩, ht, hc, n, hd⟩ := hT
  simp only at hc hd
  subst hc hd
  refine callType_new F.called_enumerate (by decide) (F.typeCall_enumerate_1 _) (F.newCall_enumerate_1 _) (fun obj => F.args_object_init_2 obj _) F.entry_enumerate_new (meets_enum_newT t items n dct sl) ⟨ht, ?_⟩
  have hz : (s.heap.push { cls := .type "tuple_iterator", data := .fields #[.ref t, .int 0 0] }).objs.size = s.heap.objs.size + 1 := Heap.size_push ..
  show _ ∧ _
  rw [hz]
  have he : IsEnum ((s.heap.push { cls := .type "tuple_iterator", data := .fields #[.ref t, .int 0 0] }).push
      { cls := .type "enumerate", data := .fields #[.none, .bool false, .ref s.heap.objs.size, rawInt 0, .none, .none] }) (s.heap.objs.size + 1) s.heap.objs.size 0 .none := by
    have z := Heap.get?_push_size (s.heap.push { cls := .type "tuple_iterator", data := .fields #[.ref t, .int 0 0] })
      (o := { cls := .type "enumerate", data := .fields #[.none, .bool false, .ref s.heap.objs.size, rawInt 0, .none, .none] }) rfl
    rw [hz] at z
    exact z
  exact ⟨⟨_, he, rfl⟩, h _ he ⟨_, Heap.get?_push_of_some _ (Heap.get?_push_size _ rfl), rfl, rfl⟩ fun b o x => Heap.get?_push_of_some _ (Heap.get?_push_of_some _ x)⟩
end
/-- the tuple at a, each item in a new pair -/
def ItE (K : PySem.W.Frag) (a : Addr) : It :=
  ⟨fun i H => ∃ (xs : List V) (x : V), SqT K H a xs ∧ xs[i]? = some x, fun i H v H' => ∃ T x, v = .ref T ∧ H T = none ∧ H' = upd H T (.tup [.int (i : Nat), x]) ∧ ∀ xs, SqT K H a xs → xs[i]? = some x, fun i H => ∃ xs : List V, SqT K H a xs ∧ xs.length ≤ i⟩
theorem turn_enumT {P : Program} {w : World} {K : PySem.W.Frag} {elts : List Expr} {kk : Nat} {tpos : Pos} (a e it : Addr) :
    Turn P w K (.Tuple elts kk tpos) (ItE K a) [e, it] e (fun i h => (∃ old, IsEnum h e it ((i : Nat) : Int) old) ∧ h.IsTupleIter it a i ∧ e ≠ it ∧ a ≠ it ∧ a ≠ e) where
  mem := by simp
  obj := fun i h st b hb => by
    obtain ⟨⟨old, he⟩, ⟨o, ho, hc, hd⟩, _⟩ := st
    have ee : b = e ∨ b = it := by simpa using hb
    rcases ee with z | z
    · rw [z]
      exact ⟨_, he, fun v q => nomatch q⟩
    · rw [z]
      exact ⟨o, ho, fun v q => by rw [hd] at q; cases q⟩
  keep := fun i h h' st k => by
    obtain ⟨⟨old, he⟩, hi, hne⟩ := st
    exact ⟨⟨old, k e (by simp) _ he⟩, (let ⟨o, ho, r⟩ := hi; ⟨o, k it (by simp) o ho, r⟩), hne⟩
  item := by
    intro X hP hw hK hc i pins s σ H E I hf st hg
    subst hP hw hK
    obtain ⟨⟨old, he⟩, hit, hne, hai, hae⟩ := st
    obtain ⟨xs, x, hq, hx⟩ := hg
    obtain ⟨its, rv, p, hz⟩ := I.tuple hq
    obtain ⟨u, hu, ru⟩ := rv.get hx
    have hel : e < s.heap.objs.size := Heap.lt_size he
    have hil : it < s.heap.objs.size := by
      obtain ⟨_, q, _⟩ := hit
      exact Heap.lt_size q
    have hlt : i < its.toArray.size := by
      rw [List.size_toArray, ← rv.length]
      exact (List.getElem?_eq_some_iff.mp hx).1
    have D : Draws X.prog X.w X.A.in1 it [it, a] its.toArray.size (fun j v => its.toArray[j]? = some v) (fun j h => h.IsTupleIter it a j ∧ h.IsTuple a its.toArray) := Draws.tuple (A := X.A.in1) (I.ok.hd hc) it a hai its.toArray
    refine wpAny_pyNext_enum_itemD D he ⟨hit, p⟩ hlt hne (by simp [Ne.symm hae, hne]) fun v h1 tk hv ho hit1 hT hsz hk => ?_
    have ev : v = u := by
      have z : some v = some u := by rw [← hv]; simpa using hu
      exact Option.some.inj z
    subst ev
    refine ⟨_, rfl, wpAny_letOwnedTupleGo_enum (s := { s with heap := h1, toks := tk + 1 }) ho fun h2 he2 sb => ?_⟩
    have hT2 : h2.get? s.heap.objs.size = some { cls := .type "tuple", data := .seq #[.int i tk, v] } := (sb.2 _ (Nat.ne_of_gt hel)).trans hT
    have new : ObjOk X.prog X.w (upd H s.heap.objs.size (.tup [.int (i : Nat), x])) h2 s.heap.objs.size (.tup [.int (i : Nat), x]) :=
      ⟨by show 2 ≤ sizeLine; decide, [.int i tk, v], .cons ⟨_, rfl⟩ (.cons ru .nil), ⟨_, hT2, rfl, _, rfl⟩⟩
    have J : Inv X pins σ (upd H s.heap.objs.size (.tup [.int (i : Nat), x])) { s with heap := h2, toks := tk + 1 } :=
      I.turnedNew (ch := [e, it]) (fun b ob hb q => (sb.2 b (fun z => hb (by simp [z]))).trans (hk b ob (fun z => hb (by simp [z])) (fun z => hb (by simp [z])) q)) hf (Nat.le_refl _) new
    refine ⟨.ref s.heap.objs.size, _, J, rfl, ⟨_, x, rfl, I.hok.fresh (Nat.le_refl _), rfl, fun ys hy => by rw [I.tuple_inj hy hq]; exact hx⟩, ⟨⟨v, ?_⟩, ?_, hne, hai, hae⟩, fun b hb => ?_⟩
    · have e1 : ((i + 1 : Nat) : Int) = (i : Int) + 1 := by omega
      rw [e1]
      exact he2
    · obtain ⟨o, ho2, r⟩ := hit1.1
      exact ⟨o, (sb.2 it (Ne.symm hne)).trans ho2, r⟩
    · have hb2 : b < s.heap.objs.size := by
        have ee : b = e ∨ b = it := by simpa using hb
        rcases ee with z | z
        · rw [z]; exact hel
        · rw [z]; exact hil
      rw [upd_ne (Nat.ne_of_lt hb2)]
      exact (hf b hb).1
  done := by
    intro X hP hw hK hc i pins s σ H E I hf st hg
    subst hP hw hK
    obtain ⟨⟨old, he⟩, hit, hne, hai, hae⟩ := st
    obtain ⟨xs, hq, hx⟩ := hg
    obtain ⟨its, rv, p, hz⟩ := I.tuple hq
    obtain ⟨f0, f1, f2, f3, f4, f5⟩ := hf it (by simp)
    have hl := rv.length
    have D : Draws X.prog X.w X.A.in1 it [it, a] i (fun j v => its.toArray[j]? = some v) (fun j h => j = i ∧ h.IsTupleIter it a i ∧ h.IsTuple a its.toArray ∧ its.toArray.size ≤ i) := by
      have D0 := Draws.tuple (prog := X.prog) (w := X.w) (A := X.A.in1) (I.ok.hd hc) it a hai its.toArray
      refine ⟨fun j h z => D0.live i h ⟨z.2.1, z.2.2.1⟩, fun j h h' z k => ⟨z.1, (D0.frame i h h' ⟨z.2.1, z.2.2.1⟩ k).1, (D0.frame i h h' ⟨z.2.1, z.2.2.1⟩ k).2, z.2.2.2⟩, fun j s Q E hj z k => ?_, fun s Q E z k => ?_⟩
      · exact absurd z.1 (Nat.ne_of_lt hj)
      · exact wpAny_nextOf_tuple_end (I.ok.hd hc) z.2.1 z.2.2.1 (Array.getElem?_eq_none z.2.2.2) k
    exact wpAny_pyNext_enum_endD D he ⟨rfl, hit, p, by rw [List.size_toArray]; omega⟩ fun h' eb => ⟨rfl, I.turned (t' := s.toks) (fun b o hb q => eb b o hb q) f0 f1 f3 f4 f5⟩
  self := fun A i s Q E st h => let ⟨⟨_, he⟩, _⟩ := st; wpAny_pyIter_enum he h
def iEnumT (K : PySem.W.Frag) (ta : TA) : TI := fun σ H R => ta σ H fun vs H1 => ∃ a xs, vs = [.ref a] ∧ SqT K H1 a xs ∧ R (ItE K a) H1
theorem pi_enumT {X : Cx} {e : Expr} {ta : TA} {p pos tpos : Pos} {elts : List Expr} {kk : Nat} (hg : Gl X "enumerate") (hm : X.mg "enumerate" = none) (ha : PA X [e] ta) (hs : starEach [e] X.env = [(false, eval e X.env)] := by rfl) :
    PI X (.Tuple elts kk tpos) (.Call (.Name "enumerate" p) [e] [] pos) (iEnumT X.K ta) := by
  constructor
  intro pins s σ H R I h
  refine Call_ (ld_blt I hg hm boot_enumerate (PyProof.Rows.callWith_type1 (thn (ha.run pos pins s σ H _ I h) fun us s1 hh => ?_) hs rfl))
  obtain ⟨vs, H1, I1, r1, a, xs, ex, hq, q⟩ := hh
  subst ex
  cases r1 with
  | cons r rr =>
    cases rr
    cases r
    obtain ⟨its, rv, p2, hz⟩ := I1.tuple hq
    refine call_enumT p2 fun h2 he hit hk => wpAny_pyIter_enum he ?_
    have I2 : Inv X pins σ H1 { s1 with heap := h2 } := I1.kept (t' := s1.toks) hk
    have hlt : a < s1.heap.objs.size := p2.lt
    refine ⟨s1.heap.objs.size + 1, [s1.heap.objs.size + 1, s1.heap.objs.size], _, _, H1, rfl, I2, turn_enumT a (s1.heap.objs.size + 1) s1.heap.objs.size, ⟨⟨.none, he⟩, hit, Nat.succ_ne_self _, Nat.ne_of_lt hlt, Nat.ne_of_lt (Nat.lt_succ_of_lt hlt)⟩, fun b hb => ?_, q⟩
    have ee : b = s1.heap.objs.size + 1 ∨ b = s1.heap.objs.size := by simpa using hb
    have hle : s1.heap.objs.size ≤ b := by
      rcases ee with z | z
      · rw [z]; exact Nat.le_add_right _ _
      · rw [z]; exact Nat.le_refl _
    exact I1.fpOk hle (I1.hok.fresh hle)
/-! ### t[::-1] -/
section
variable {prog : Program} {w : World} {A : Around} {E : Value → Shared → Prop} {s : Shared}
theorem back_pick (xs : Array Value) (n : Nat) (hn : n = xs.size) : (List.range n).filterMap (fun (m : Nat) => xs[(((n : Int) - 1) + (m : Int) * (-1)).toNat]?) = xs.toList.reverse := by
  subst hn
  have e : (fun (m : Nat) => xs[(((xs.size : Nat) : Int) - 1 + (m : Int) * (-1)).toNat]?) = fun m => xs[xs.size - 1 - m]? := by
    funext m
    have z : (((xs.size : Nat) : Int) - 1 + (m : Int) * (-1)).toNat = xs.size - 1 - m := by omega
    rw [z]
  rw [e]
  have a := PySem.W.krv_pick xs
  have b : PySem.slicePick xs none none (some (-1)) = ((List.range xs.size).filterMap fun m => xs[xs.size - 1 - m]?).toArray := by
    unfold PySem.slicePick
    rw [PySem.W.krv_bounds]
    show ((PySem.sliceRange ((xs.size : Int) - 1) (-1) (-1)).filterMap (xs[·]?)).toArray = _
    rw [PySem.W.krv_sliceRange, List.filterMap_map]
    rfl
  have c := a.symm.trans b
  have d := congrArg Array.toList c
  exact d.symm
theorem applied_back {sl : Addr} {vs : Value} {n : Nat} {Q : Int × Int × Nat → Shared → Prop} (hs : s.heap.IsSliceOf sl .none .none vs) (pv : IsPart vs (some (-1)))
    (h : Q ((n : Int) - 1, -1, n) s) : wpAny (model prog w) A (Builtin.Slice.sliceApplied (.ref sl) (pure (n : Int))) Q E s := by
  obtain ⟨os, hos, hcs, hds⟩ := id hs
  unfold Builtin.Slice.sliceApplied Builtin.Slice.sliceFields
  refine wpAny_bind (wpAny_bind (wpAny_field hos hds (x := .none) rfl (wpAny_bind (wpAny_field hos hds (x := .none) rfl (wpAny_bind (wpAny_field hos hds (x := vs) rfl (wpAny_pure ?_)))))))
  refine wpAny_bind (HT.slicePart_ pv ?_)
  show wpAny _ _ (if ((-1 : Int) == 0) = true then _ else _) _ _ s
  rw [if_neg (by decide)]
  refine wpAny_bind (HT.slicePart_ .none (wpAny_bind (HT.slicePart_ .none (wpAny_bind (wpAny_pure ?_)))))
  show wpAny _ _ (pure ((n : Int) - 1, (-1 : Int), Builtin.Slice.slicePlaces ((n : Int) - 1) (-1) (-1))) _ _ s
  have e : Builtin.Slice.slicePlaces ((n : Int) - 1) (-1) (-1) = n := by
    unfold Builtin.Slice.slicePlaces
    rw [if_neg (by decide)]
    by_cases hn : (n : Int) - 1 > -1
    · rw [if_pos hn, show (- -1 : Int) = 1 by decide, Int.ediv_one]
      omega
    · rw [if_neg hn]
      omega
  rw [e]
  exact wpAny_pure h
theorem item_back {t sl : Addr} {items : Array Value} {vs : Value} {Q : Value → Shared → Prop} (ht : IsTup s.heap t items) (hs : s.heap.IsSliceOf sl .none .none vs) (pv : IsPart vs (some (-1)))
    (h : Q (.ref s.heap.objs.size) { s with heap := s.heap.push { cls := .type "tuple", data := .seq items.toList.reverse.toArray } }) (hsz : items.size ≤ sizeLine) : wpAny (model prog w) A (getItem (.ref t) (.ref sl)) Q E s := by
  have hok : sizeOk (.seq items.toList.reverse.toArray) := by
    show items.toList.reverse.toArray.size ≤ sizeLine
    rw [List.size_toArray, List.length_reverse, Array.length_toList]
    exact hsz
  obtain ⟨os, hos, hcs, hds⟩ := id hs
  have hTs : s.TypeIs (.ref sl) "slice" := ⟨os, hos, hcs⟩
  unfold getItem
  try with_reducible refine wpAny_holding ?_
  first | refine wpAny_bind (wpAny_pure ?_) | skip
  refine wpAny_bind (wpAny_sequenceKey ht.typeIs (by decide) ?_)
  refine wpAny_bind (wpAny_callSpecial?_slot (name := Str.ofString "__getitem__") ht.typeIs PyProof.Rows.slot_tuple_getitem (wpAny_call_entry PyProof.Rows.slot_tuple_getitem ht.typeIs entry_tuple_getitem ?_ (args_tuple_getitem _ _)))
  show wpAny _ _ (Builtin.Tuple.tupleItemsOf (.ref t) >>= _) _ _ s
  refine wpAny_bind (tupleItemsOf_ ht ?_)
  refine wpAny_bind (wpAny_typeOf hTs ?_)
  rw [if_pos (by decide)]
  refine wpAny_bind (applied_back hs pv ?_)
  have hno : ¬ ((((items.size : Int) - 1) == 0 && (-1 : Int) == 1 && items.size == items.size) = true) := by
    intro q
    rw [Bool.and_eq_true, Bool.and_eq_true] at q
    exact absurd q.1.2 (by decide)
  show wpAny _ _ (if (((items.size : Int) - 1) == 0 && (-1 : Int) == 1 && items.size == items.size) = true then _ else _) _ _ s
  rw [if_neg hno, back_pick items items.size rfl]
  first
    | exact wpAny_bind (m := Builtin.Tuple.tupleExact _) (wpAny_newObj_type (wpAny_pure ⟨_, rfl, wpAny_pure h⟩) hok)
    | exact wpAny_bind (m := Builtin.Tuple.tupleExact _) (wpAny_newObj_type (wpAny_bind (wpAny_pure (wpAny_pure ⟨_, rfl, wpAny_pure h⟩))) hok)
    | exact wpAny_bind (wpAny_bind (m := Builtin.Tuple.tupleExact _) (wpAny_newObj_type (wpAny_pure (wpAny_pure ⟨_, rfl, wpAny_pure h⟩)) hok))
    | exact wpAny_bind (wpAny_bind (m := Builtin.Tuple.tupleExact _) (wpAny_newObj_type (wpAny_pure ⟨_, rfl, wpAny_pure h⟩) hok))
end
def tRevT (K : PySem.W.Frag) (te : TE) : TE := fun σ H Q => te σ H fun x H1 => ∃ a xs, x = .ref a ∧ SqT K H1 a xs ∧ ∀ p, H1 p = none → Q (.ref p) (upd H1 p (.tup xs.reverse))
theorem pe_revT {X : Cx} {e : Expr} {te : TE} {k : Nat} {p1 p2 p3 pos : Pos} (he : PE X e te) : PE X (.Subscript e (.Slice none none (some (.UnaryOp .USub (.Constant (.int 1) k p1) p2)) p3) pos) (tRevT X.K te) := by
  constructor
  intro pins s σ H Q I h
  refine Subscript_ (thn (he.run pins s σ H _ I h) fun v s1 hh => ?_)
  obtain ⟨x, H1, I1, r1, a, xs, ex, hx, q⟩ := hh
  subst ex
  cases r1
  have hst : PO X (some (.UnaryOp .USub (.Constant (.int 1) k p1) p2)) (tPart (tUn (rU fun i => .int (-i)) (tC (.int 1)))) := po_some (pe_un un_neg pe_int)
  refine wpAny_Slice (thn (po_none.run pins s1 σ H1 (fun o H2 => o = none ∧ H2 = H1) I1 ⟨rfl, rfl⟩) fun vl s2 hl => ?_)
  obtain ⟨l, H2, I2, pl, el, e2⟩ := hl
  subst el e2
  refine thn (po_none.run pins s2 σ H2 (fun o H3 => o = none ∧ H3 = H2) I2 ⟨rfl, rfl⟩) fun vu s3 hu => ?_
  obtain ⟨u, H3, I3, pu, eu, e3⟩ := hu
  subst eu e3
  refine thn (hst.run pins s3 σ H3 (fun o H4 => o = some (-1) ∧ H4 = H3) I3 ⟨1, rfl, -1, rfl, rfl, rfl⟩) fun vs s4 ho => ?_
  obtain ⟨o, H4, I4, ps, eo, e4⟩ := ho
  subst eo e4
  cases pl
  cases pu
  have I5 : Inv X pins σ H4 { s4 with heap := s4.heap.push { cls := .type "slice", data := .fields #[.none, .none, vs] } } := I4.kept (t' := s4.toks) fun b ob q => Heap.get?_push_of_some _ q
  obtain ⟨its, r, ht, hz⟩ := I5.tuple hx
  have hlen := r.length
  show wpAny (model X.prog X.w) X.A (subscriptTail e (.Slice none none (some (.UnaryOp .USub (.Constant (.int 1) k p1) p2)) p3) (.ref a) (.ref s4.heap.objs.size)) (EP X pins σ Q) X.xe { s4 with heap := s4.heap.push { cls := .type "slice", data := .fields #[.none, .none, vs] } }
  refine tail_any (ops := [.ref a, .ref s4.heap.objs.size]) ht.typeIs (PyProof.Rows.slot_tuple_getitem.lookup) ?_ (by with_unfolding_all rfl)
  refine item_back ht (Heap.IsSliceOf.new _ .none .none vs) ps ?_ (by rw [List.size_toArray]; omega)
  refine ⟨.ref _, _, I5.laid (t' := s4.toks) (o := .tup xs.reverse) (fun b ob q => Heap.get?_push_of_some _ q) (Nat.le_refl _) ?_, rfl, q _ (I5.hok.fresh (Nat.le_refl _))⟩
  exact ⟨by rw [List.length_reverse]; exact hz, _, r.reverse, IsTup.new _ _⟩
end SE
/-! Plain data: texts, steps; when they are equal, how they are shown. -/
namespace SE
open PySem PySem.Spec PyProof.Rows L2
/-- a text that is an item -/
structure Item (z : Str) : Prop where
  pos : 1 ≤ z.length
  most : z.length ≤ 8
  low : ∀ c ∈ z.cps.toList, 97 ≤ c ∧ c ≤ 122
/-- data that may be compared and shown: its depth, its weight -/
structure Nice (k B : Nat) (d : PyData) : Prop where
  lay : d.canLay0 = true
  dep : d.depth ≤ k
  sh : d.showable = true
  nd : d.hasDict = false
  ish : d.intsShort 13 = true
  wt : d.weight ≤ B
theorem Nice.mono {k j B C : Nat} {d : PyData} (h : Nice k B d) (hk : k ≤ j) (hB : B ≤ C) : Nice j C d := ⟨h.lay, Nat.le_trans h.dep hk, h.sh, h.nd, h.ish, Nat.le_trans h.wt hB⟩
theorem nice_str {z : Str} {B : Nat} (hc : ∀ c ∈ z.cps.toList, c < 0x110000) (hB : z.length ≤ B) : Nice 0 B (.str z) := by
  refine ⟨?_, ?_, ?_, ?_, ?_, ?_⟩
  · simp only [PyData.canLay0, PyData.strOk]
    rw [← Array.all_toList, List.all_eq_true]
    intro c h
    exact decide_eq_true (hc c h)
  · simp only [PyData.depth]
    exact Nat.le_refl _
  · simp only [PyData.showable]
  · simp only [PyData.hasDict]
  · simp only [PyData.intsShort]
  · simp only [PyData.weight]
    exact hB
theorem Item.nice {z : Str} (h : Item z) : Nice 0 8 (.str z) := nice_str (fun c hc => by have := (h.low c hc).2; omega) h.most
theorem nice_all {k B : Nat} : ∀ {ds : List PyData}, (∀ d ∈ ds, Nice k B d) → PyData.canLayAll0 ds = true ∧ PyData.depthAll ds ≤ k ∧ PyData.showableAll ds = true ∧ PyData.hasDictAll ds = false ∧ PyData.intsShortAll 13 ds = true ∧ PyData.weightAll ds ≤ ds.length * (B + 1)
  | [], _ => by
    refine ⟨?_, ?_, ?_, ?_, ?_, ?_⟩
    · simp only [PyData.canLayAll0]
    · simp only [PyData.depthAll]
      exact Nat.zero_le _
    · simp only [PyData.showableAll]
    · simp only [PyData.hasDictAll]
    · simp only [PyData.intsShortAll]
    · simp only [PyData.weightAll]
      exact Nat.zero_le _
  | d :: ds, h => by
    obtain ⟨a1, a2, a3, a4, a5, a6⟩ := nice_all (ds := ds) fun x hx => h x (List.mem_cons_of_mem _ hx)
    have q := h d List.mem_cons_self
    refine ⟨?_, ?_, ?_, ?_, ?_, ?_⟩
    · simp only [PyData.canLayAll0, q.lay, a1, Bool.and_self]
    · simp only [PyData.depthAll]
      exact Nat.max_le.mpr ⟨q.dep, a2⟩
    · simp only [PyData.showableAll, q.sh, a3, Bool.and_self]
    · simp only [PyData.hasDictAll, q.nd, a4, Bool.or_self]
    · simp only [PyData.intsShortAll, q.ish, a5, Bool.and_self]
    · simp only [PyData.weightAll, List.length_cons]
      have := q.wt
      rw [Nat.add_mul]
      omega
theorem nice_list {k B : Nat} {ds : List PyData} (h : ∀ d ∈ ds, Nice k B d) : Nice (k + 1) (ds.length * (B + 1)) (.list ds) := by
  obtain ⟨a1, a2, a3, a4, a5, a6⟩ := nice_all h
  exact ⟨by simp only [PyData.canLay0]; exact a1, by simp only [PyData.depth]; omega, by simp only [PyData.showable]; exact a3, by simp only [PyData.hasDict]; exact a4, by simp only [PyData.intsShort]; exact a5, by simp only [PyData.weight]; exact a6⟩
theorem nice_tuple {k B : Nat} {ds : List PyData} (h : ∀ d ∈ ds, Nice k B d) : Nice (k + 1) (ds.length * (B + 1)) (.tuple ds) := by
  obtain ⟨a1, a2, a3, a4, a5, a6⟩ := nice_all h
  exact ⟨by simp only [PyData.canLay0]; exact a1, by simp only [PyData.depth]; omega, by simp only [PyData.showable]; exact a3, by simp only [PyData.hasDict]; exact a4, by simp only [PyData.intsShort]; exact a5, by simp only [PyData.weight]; exact a6⟩
theorem Nice.shaped {k B : Nat} {d : PyData} (h : Nice k B d) (hk : k ≤ 64) : SeqAt.shaped d = true := by
  unfold SeqAt.shaped
  rw [h.lay, Bool.true_and]
  exact decide_eq_true (Nat.le_trans h.dep hk)
theorem Nice.shown {k B : Nat} {d : PyData} (h : Nice k B d) (hk : k ≤ 64) (hB : B ≤ 2 ^ 20) : d.shown.length ≤ sizeLine := by
  refine PyData.shown_fits_of_layable0 (B := 13) (by decide) (by decide) ?_ h.ish
  unfold PyData.layable0
  rw [h.lay, Bool.true_and, Bool.and_eq_true]
  exact ⟨decide_eq_true (Nat.le_trans h.dep hk), decide_eq_true (Nat.le_trans h.wt hB)⟩
theorem Nice.eqv {k B : Nat} {d : PyData} (h : Nice k B d) : PyData.eqv d d = true := SeqAt.eqv_refl d h.lay
/-! ### texts -/
theorem dp_strs {K : PySem.W.Frag} {H : Hp} : ∀ zs : List Str, DpAll K H (zs.map V.str) (zs.map PyData.str)
  | [] => .nil
  | z :: zs => .cons (.str z) (dp_strs zs)
theorem eqvAll_strs : ∀ a b : List Str, PyData.eqvAll (a.map .str) (b.map .str) = decide (a = b)
  | [], [] => by simp [PyData.eqvAll]
  | [], y :: b => by simp [PyData.eqvAll]
  | x :: a, [] => by simp [PyData.eqvAll]
  | x :: a, y :: b => by
    rw [List.map_cons, List.map_cons]
    unfold PyData.eqvAll
    rw [eqvAll_strs a b]
    unfold PyData.eqv
    by_cases e : x = y
    · subst e
      simp
    · simp [e]
theorem eqv_listS (a b : List Str) : PyData.eqv (.list (a.map .str)) (.list (b.map .str)) = decide (a = b) := by
  unfold PyData.eqv
  exact eqvAll_strs a b
theorem eqv_tupS (a b : List Str) : PyData.eqv (.tuple (a.map .str)) (.tuple (b.map .str)) = decide (a = b) := by
  unfold PyData.eqv
  exact eqvAll_strs a b
theorem nice_strs {zs : List Str} (h : ∀ z ∈ zs, Item z) : ∀ d ∈ zs.map PyData.str, Nice 0 8 d := by
  intro d hd
  obtain ⟨z, hz, rfl⟩ := List.mem_map.mp hd
  exact (h z hz).nice
/-! ### steps -/
abbrev Stp := Bool × Str
def act (b : Bool) : Str := if b then "push" else "pop"
theorem act_nice (b : Bool) : Nice 0 8 (.str (act b)) := by
  cases b
  · exact nice_str (by decide +kernel) (by decide +kernel)
  · exact nice_str (by decide +kernel) (by decide +kernel)
def stepD (s : Stp) : PyData := .tuple [.str (act s.1), .str s.2]
theorem stepD_nice {s : Stp} (h : Item s.2) : Nice 1 18 (stepD s) := by
  refine (nice_tuple (k := 0) (B := 8) (ds := [.str (act s.1), .str s.2]) ?_).mono (Nat.le_refl _) (by show 2 * 9 ≤ 18; decide)
  intro d hd
  rcases List.mem_cons.mp hd with q | q
  · rw [q]
    exact act_nice _
  · rw [List.mem_singleton.mp q]
    exact h.nice
/-- a step -/
def StepV (K : PySem.W.Frag) (H : Hp) (v : V) (s : Stp) : Prop := ∃ t, v = .ref t ∧ SqT K H t [.str (act s.1), .str s.2]
abbrev StepsV (K : PySem.W.Frag) (H : Hp) : List V → List Stp → Prop := Paired (StepV K H)
theorem StepV.same {K : PySem.W.Frag} {H H' : Hp} {v : V} {s : Stp} (h : StepV K H v s) (e : Same H H') : StepV K H' v s := by
  obtain ⟨t, rfl, q⟩ := h
  exact ⟨t, rfl, Same.tup e q⟩
theorem StepsV.same {K : PySem.W.Frag} {H H' : Hp} {xs : List V} {ss : List Stp} (h : StepsV K H xs ss) (e : Same H H') : StepsV K H' xs ss := Paired.mapP h fun _ _ q => q.same e
theorem StepsV.at {K : PySem.W.Frag} {H : Hp} : ∀ {xs : List V} {ss : List Stp} {i : Nat} {v : V}, StepsV K H xs ss → xs[i]? = some v → ∃ s, ss[i]? = some s ∧ StepV K H v s
  | _, _, _, _, .nil, h => by simp at h
  | _, _, 0, _, .cons a _, h => by
    have e := Option.some.inj h
    subst e
    exact ⟨_, rfl, a⟩
  | _, _, i + 1, _, .cons _ r, h => StepsV.at (i := i) r h
theorem dp_steps {K : PySem.W.Frag} {H : Hp} : ∀ {xs : List V} {ss : List Stp}, StepsV K H xs ss → DpAll K H xs (ss.map stepD)
  | _, _, .nil => .nil
  | _, _, .cons a r => by
    obtain ⟨t, rfl, q⟩ := a
    exact .cons (.tup q (.cons (.str _) (.cons (.str _) .nil))) (dp_steps r)
theorem nice_steps {ss : List Stp} (h : ∀ s ∈ ss, Item s.2) : ∀ d ∈ ss.map stepD, Nice 1 18 d := by
  intro d hd
  obtain ⟨s, hs, rfl⟩ := List.mem_map.mp hd
  exact stepD_nice (h s hs)
theorem StepsV.rev {K : PySem.W.Frag} {H : Hp} : ∀ {xs : List V} {ss : List Stp}, StepsV K H xs ss → StepsV K H xs.reverse ss.reverse
  | _, _, .nil => .nil
  | _, _, .cons a r => by
    rw [List.reverse_cons, List.reverse_cons]
    exact (StepsV.rev r).snoc a
/-- the exchange of push and pop -/
def flip1 (s : Stp) : Stp := (!s.1, s.2)
def revM (ss : List Stp) : List Stp := ss.reverse.map flip1
/-- what a step makes of a stack -/
def stepM (s : Stp) (zs : List Str) : Option (List Str) := if s.1 then some (s.2 :: zs) else match zs with
  | [] => none
  | z :: r => if z = s.2 then some r else none
def runM : List Stp → List Str → Option (List Str)
  | [], zs => some zs
  | s :: ss, zs => match stepM s zs with
    | none => none
    | some ws => runM ss ws
theorem runM_append : ∀ (a b : List Stp) (zs : List Str), runM (a ++ b) zs = (runM a zs).bind (runM b)
  | [], b, zs => rfl
  | s :: a, b, zs => by
    show (match stepM s zs with | none => none | some ws => runM (a ++ b) ws) = (match stepM s zs with | none => none | some ws => runM a ws).bind (runM b)
    cases stepM s zs with
    | none => rfl
    | some ws => exact runM_append a b ws
theorem stepM_flip {s : Stp} {zs ws : List Str} (h : stepM s zs = some ws) : stepM (flip1 s) ws = some zs := by
  obtain ⟨b, x⟩ := s
  cases b with
  | true =>
    have e : x :: zs = ws := by
      have q : some (x :: zs) = some ws := h
      exact Option.some.inj q
    subst e
    show (if x = x then some zs else none) = some zs
    rw [if_pos rfl]
  | false =>
    cases zs with
    | nil => exact absurd h (by intro q; cases q)
    | cons z r =>
      have q : (if z = x then some r else none) = some ws := h
      by_cases e : z = x
      · rw [if_pos e] at q
        have e2 := Option.some.inj q
        subst e2
        subst e
        rfl
      · rw [if_neg e] at q
        cases q
theorem runM_rev : ∀ (ss : List Stp) (zs ws : List Str), runM ss zs = some ws → runM (revM ss) ws = some zs
  | [], zs, ws, h => by
    have e : zs = ws := Option.some.inj h
    subst e
    rfl
  | s :: ss, zs, ws, h => by
    have h' : (match stepM s zs with | none => none | some ys => runM ss ys) = some ws := h
    cases e : stepM s zs with
    | none =>
      rw [e] at h'
      cases h'
    | some ys =>
      rw [e] at h'
      have ih := runM_rev ss ys ws h'
      show runM ((s :: ss).reverse.map flip1) ws = some zs
      rw [List.reverse_cons, List.map_append, runM_append]
      have ih' : runM (ss.reverse.map flip1) ws = some ys := ih
      rw [ih']
      show (match stepM (flip1 s) ys with | none => none | some ws => runM [] ws) = some zs
      rw [stepM_flip e]
      rfl
theorem revM_revM (ss : List Stp) : revM (revM ss) = ss := by
  unfold revM
  rw [← List.map_reverse, List.reverse_reverse, List.map_map]
  have e : flip1 ∘ flip1 = id := by
    funext s
    obtain ⟨b, x⟩ := s
    cases b <;> rfl
  rw [e, List.map_id]
theorem revM_items {ss : List Stp} (h : ∀ s ∈ ss, Item s.2) : ∀ s ∈ revM ss, Item s.2 := by
  intro s hs
  obtain ⟨t, ht, rfl⟩ := List.mem_map.mp hs
  exact h t (List.mem_reverse.mp ht)
theorem stepM_items {s : Stp} {zs ws : List Str} (h : stepM s zs = some ws) (hs : Item s.2) (hz : ∀ z ∈ zs, Item z) : ∀ z ∈ ws, Item z := by
  obtain ⟨b, x⟩ := s
  cases b with
  | true =>
    have e : x :: zs = ws := Option.some.inj (show some (x :: zs) = some ws from h)
    subst e
    intro z m
    rcases List.mem_cons.mp m with q | q
    · rw [q]
      exact hs
    · exact hz z q
  | false =>
    cases zs with
    | nil => exact absurd h (by intro q; cases q)
    | cons y r =>
      have q : (if y = x then some r else none) = some ws := h
      by_cases e : y = x
      · rw [if_pos e] at q
        have e2 := Option.some.inj q
        subst e2
        exact fun z m => hz z (List.mem_cons_of_mem _ m)
      · rw [if_neg e] at q
        cases q
theorem stepM_len {s : Stp} {zs ws : List Str} (h : stepM s zs = some ws) : ws.length ≤ zs.length + 1 := by
  obtain ⟨b, x⟩ := s
  cases b with
  | true =>
    have e : x :: zs = ws := Option.some.inj (show some (x :: zs) = some ws from h)
    subst e
    exact Nat.le_refl _
  | false =>
    cases zs with
    | nil => exact absurd h (by intro q; cases q)
    | cons y r =>
      have q : (if y = x then some r else none) = some ws := h
      by_cases e : y = x
      · rw [if_pos e] at q
        have e2 := Option.some.inj q
        subst e2
        rw [List.length_cons]
        omega
      · rw [if_neg e] at q
        cases q
end SE
namespace SE
open PySem PySem.Spec PyProof.Rows L2
def topS (i : Nat) : Stmt := PySem.Challenge.pw_stackeffect_k01_items_words_sequences.main.body.getD i (.Pass ⟨0, 0, 0, 0⟩)
abbrev sIsItem : Stmt := topS 5
abbrev sIsWord : Stmt := topS 6
abbrev sIsStep : Stmt := topS 7
abbrev sMayHold : Stmt := topS 8
abbrev sIsSeq : Stmt := topS 9
abbrev sPool : Stmt := topS 11
abbrev sTake : Stmt := topS 12
abbrev sName : Stmt := topS 13
abbrev sItems : Stmt := topS 14
abbrev sSteps : Stmt := topS 15
abbrev sWord : Stmt := topS 16
abbrev sLawOdd : Stmt := topS 17
abbrev sLawIsItem : Stmt := topS 18
abbrev sLawIsWord : Stmt := topS 19
abbrev sLawIsStep : Stmt := topS 20
abbrev sLawIsSequence : Stmt := topS 21
abbrev sRight : Stmt := topS 22
abbrev sLawBentSteps : Stmt := topS 23
abbrev sLaw : Stmt := topS 24
end SE
namespace SE
open PySem PySem.Spec PyProof.Rows L2
section
variable {P : Program} {w : World} {K : PySem.W.Frag} {mg : Str → Option Value} {base : Heap}
/-! ### _law_take -/
def spTake : Sp := fun xs H Q _ => ∃ (p : Addr) (n : Int), xs = [.ref p, .int n] ∧ Pool H p ∧ 1 ≤ n ∧ n ≤ 100000 ∧
  ∀ (r : Int) (H' : Hp), But p H H' → Pool H' p → 0 ≤ r → r < n → Q (.int r) H'
theorem scTake : FnScope ["_law_pool_here", "_law_many", "_law_found"] ["_law_pool_here", "_law_many"] (defScope sTake) := ⟨rfl, rfl, rfl, by decide +kernel, rfl, by decide +kernel, by decide +kernel⟩
theorem has_take (D : Def K mg "_law_take" sTake) : Has P w K mg base "_law_take" 1 ["_law_pool_here", "_law_many"] [] spTake := by
  refine has_of D scTake (fun _ _ _ _ _ _ us hl => match us, hl with | [_, _], _ => rfl) (fun xs H Q E h => ?_) (fun f cv A out s H xs Q E hr h => ?_)
  · obtain ⟨p, n, rfl, _⟩ := h
    rfl
  · obtain ⟨p, n, rfl, hp, h1, h2, k⟩ := h
    obtain ⟨m, z, e, hm, hz0, hz1⟩ := hp.ex
    have a0 : atI [V.int m, V.int z] 0 = some (.int m) := atI_nat (j := 0) rfl
    refine ⟨_, pss_cons (ps_if (pt_cmpR op_gt (pe_ix ix_list (pv 0) pe_int (fun _ _ => rfl)) pe_int (nomark _))
        (pss_cons (ps_set (i := 2) scTake.nd rfl (.inl rfl) (pe_op op_modN (pe_ix ix_list (pv 0) pe_int (fun _ _ => rfl)) (pv 1)))
        (pss_cons (ps_asg (pe_op op_fdivN (pe_ix ix_list (pv 0) pe_int (fun _ _ => rfl)) (pv 1)) (pg_sub (pv 0) pe_int set_list))
        (pss_one (ps_ret (pv 2))))) pss_nil)
      (pss_cons (ps_asg (pe_op op_mod (pe_op op_add (pe_op op_mul (pe_ix ix_list (pv 0) pe_int (fun _ _ => rfl)) pe_int) pe_int) pe_int) (pg_sub (pv 0) pe_int set_list))
      (pss_one (ps_ret (pe_op op_modN (pe_op op_fdiv (pe_op op_mod (pe_op op_mul (pe_ix ix_list (pv 0) pe_int (fun _ _ => rfl)) (pe_ix ix_list (pv 0) pe_int (fun _ _ => rfl))) pe_int) pe_int) (pv 1))))), ?_⟩
    refine ⟨.ref p, rfl, p, _, 0, _, rfl, rfl, .of e, a0, m, 0, rfl, rfl, _, rfl, ite2 (fun c => ?_) (fun c => ?_)⟩
    · refine ⟨.ref p, rfl, p, _, 0, _, rfl, rfl, .of e, a0, .int n, rfl, m, n, rfl, rfl, (by omega), ?_⟩
      refine ⟨.ref p, rfl, p, _, 0, _, rfl, rfl, .of e, a0, .int n, rfl, m, n, rfl, rfl, ⟨by omega, by omega⟩, .ref p, rfl, p, _, 0, 0, rfl, rfl, e, rfl, ?_⟩
      refine ⟨_, rfl, k _ _ .at ⟨m.fdiv n, z, upd_same, ?_, hz0, hz1⟩ ?_ ?_⟩
      · rw [Int.fdiv_eq_ediv_of_nonneg _ (by omega)]
        exact Int.ediv_nonneg hm (by omega)
      · rw [Int.fmod_eq_emod_of_nonneg _ (by omega)]
        exact Int.emod_nonneg _ (by omega)
      · rw [Int.fmod_eq_emod_of_nonneg _ (by omega)]
        exact Int.emod_lt_of_pos _ (by omega)
    · have a1 : atI [V.int m, V.int z] 1 = some (.int z) := atI_nat (j := 1) rfl
      refine ⟨.ref p, rfl, p, _, 1, _, rfl, rfl, .of e, a1, z, 48271, rfl, rfl, .inl ⟨by omega, by omega⟩, _, 11, rfl, rfl, _, 2147483647, rfl, rfl, (by show (0 : Int) < 2147483647; decide), .ref p, rfl, p, _, 1, 1, rfl, rfl, e, rfl, ?_⟩
      have q0 : 0 ≤ (z * 48271 + 11) % 2147483647 := Int.emod_nonneg _ (by omega)
      have q1 : (z * 48271 + 11) % 2147483647 < 2147483647 := Int.emod_lt_of_pos _ (by omega)
      have e' : (upd H p (.lst ([V.int m, V.int z].set 1 (.int ((z * 48271 + 11) % 2147483647))))) p = some (.lst [V.int m, .int ((z * 48271 + 11) % 2147483647)]) := upd_same
      have a1' : atI [V.int m, V.int ((z * 48271 + 11) % 2147483647)] 1 = some (.int ((z * 48271 + 11) % 2147483647)) := atI_nat (j := 1) rfl
      refine ⟨.ref p, rfl, p, _, 1, _, rfl, rfl, .of e', a1', .ref p, rfl, p, _, 1, _, rfl, rfl, .of e', a1', ((z * 48271 + 11) % 2147483647), ((z * 48271 + 11) % 2147483647), rfl, rfl, .inl ⟨by omega, by omega⟩, _, 2147483629, rfl, rfl, (by show (0 : Int) < 2147483629; decide), _, 64, rfl, rfl, ⟨by decide, by decide⟩, .int n, rfl, _, n, rfl, rfl, (by omega), ?_⟩
      refine k _ _ .at ⟨m, ((z * 48271 + 11) % 2147483647), upd_same, hm, q0, q1⟩ ?_ ?_
      · rw [Int.fmod_eq_emod_of_nonneg _ (by omega)]
        exact Int.emod_nonneg _ (by omega)
      · rw [Int.fmod_eq_emod_of_nonneg _ (by omega)]
        exact Int.emod_lt_of_pos _ (by omega)
/-! ### _law_pool -/
def spPool (K : PySem.W.Frag) : Sp := fun xs H Q _ => ∃ (a : Addr) (ns : List Int) (i : Int), xs = [.ref a, .int i] ∧ SqL K H a (ns.map V.int) ∧ 0 ≤ i ∧ i ≤ 63 ∧
  ∀ (p : Addr) (H' : Hp), Same H H' → H p = none → Pool H' p → Q (.ref p) H'
theorem scPool : FnScope ["_law_script", "_law_k", "_law_cell", "_law_size", "_law_seed"] ["_law_script", "_law_k"] (defScope sPool) := ⟨rfl, rfl, rfl, by decide +kernel, rfl, by decide +kernel, by decide +kernel⟩
theorem has_pool (D : Def K mg "_law_pool" sPool) (ml : mg "len" = none) (ma : mg "abs" = none) (mi : mg "int" = none) : Has P w K mg base "_law_pool" 1 ["_law_script", "_law_k"] [] (spPool K) := by
  refine has_of D scPool (fun _ _ _ _ _ _ us hl => match us, hl with | [_, _], _ => rfl) (fun xs H Q E h => ?_) (fun f cv A out s H xs Q E hr h => ?_)
  · obtain ⟨a, ns, i, rfl, _⟩ := h
    rfl
  · obtain ⟨a, ns, i, rfl, hS, h0, h1, k⟩ := h
    refine ⟨_, pss_cons (ps_set (i := 2) scPool.nd rfl (.inl rfl) pe_int)
      (Evl.pss_cut (ps_if (pt_cmpR op_lt (pv 1) (pe_callB call_len_seq (by rfl) ml PySem.boot_len (pa_cons (pv 0) pa_nil)) (nomark _))
        (pss_one (ps_set (i := 2) scPool.nd rfl (.inl rfl) (pe_ix ix_list (pv 0) (pv 1) (fun _ _ => rfl)))) pss_nil)
      (pss_cons (ps_set (i := 3) scPool.nd rfl (.inl rfl) (pe_callB call_abs (by rfl) ma (by decide +kernel) (pa_cons (pv 2) pa_nil)))
      (pss_cons (ps_set (i := 4) scPool.nd rfl (.inl rfl) (pe_op op_mod (pe_op op_pow (pe_op op_add (pe_op op_add (pe_op op_add (pe_op op_mod (pv 2) pe_int) (pe_op op_mul (pe_op op_mul pe_int (pv 1)) (pv 1))) (pe_op op_mul pe_int (pv 1))) pe_int) pe_int) pe_int))
      (pss_one (ps_ret (pe_lst (pa_cons (pe_op op_mul (pv 3) (pe_callTy call_int1 (by rfl) mi (by decide +kernel) (pa_cons (pe_cmpR op_ge (pv 3) (pe_op op_pow pe_int pe_int) (nomark _)) pa_nil))) (pa_cons (pv 4) pa_nil)))))))), ?_⟩
    refine ⟨fun σ H2 => H2 = H ∧ ∃ c : Int, σ = [some (.ref a), some (.int i), some (.int c), none, none], ?_, ?_⟩
    · refine ⟨_, rfl, .ref a, rfl, a, _, rfl, .inl hS, i, _, rfl, rfl, _, rfl, ite2 (fun c => ?_) (fun c => ?_)⟩
      · have hi : i < ((ns.map V.int).length : Int) := of_decide_eq_true c
        rw [List.length_map] at hi
        have hj : i.toNat < ns.length := by omega
        refine ⟨.ref a, rfl, .int i, rfl, a, _, i, .int ns[i.toNat], rfl, rfl, hS, at_of (j := i.toNat) (by omega) ?_, rfl, ns[i.toNat], rfl⟩
        rw [List.getElem?_map, List.getElem?_eq_getElem hj]
        rfl
      · exact ⟨rfl, 0, rfl⟩
    · rintro σ H2 ⟨rfl, c, rfl⟩
      refine ⟨_, rfl, c, rfl, ?_⟩
      refine ⟨_, rfl, c, 2147483629, rfl, rfl, (by show (0 : Int) < 2147483629; decide), _, rfl, 104729, i, rfl, rfl, .inl ⟨by decide, by decide⟩, _, rfl, _, i, rfl, rfl, .inr ⟨by omega, by omega⟩, _, _, rfl, rfl, _, rfl, 7919, i, rfl, rfl, .inl ⟨by decide, by decide⟩, _, _, rfl, rfl, _, 11, rfl, rfl, _, 3, rfl, rfl, ⟨by decide, by decide, ?_⟩, _, 2147483647, rfl, rfl, (by show (0 : Int) < 2147483647; decide), ?_⟩
      · have b0 : 0 ≤ c % 2147483629 := Int.emod_nonneg _ (by omega)
        have b1 : c % 2147483629 < 2147483629 := Int.emod_lt_of_pos _ (by omega)
        have b2 : 0 ≤ 104729 * i * i := Int.mul_nonneg (by omega) h0
        have b3 : 104729 * i * i ≤ 104729 * 63 * 63 := Int.mul_le_mul (by omega) h1 h0 (by omega)
        omega
      · have t0 : ∀ y : Int, 0 ≤ y ^ 3 % 2147483647 ∧ y ^ 3 % 2147483647 < 2147483647 := fun y => ⟨Int.emod_nonneg _ (by omega), Int.emod_lt_of_pos _ (by omega)⟩
        have u0 : 0 ≤ (if c < 0 then -c else c) := by
          split <;> omega
        refine ⟨_, rfl, _, rfl, 10, 18, rfl, rfl, ⟨by decide, by decide, by decide⟩, _, _, rfl, rfl, .inr ⟨_, rfl, ?_⟩⟩
        have b01 : ∀ b : Bool, (0 : Int) ≤ (if b = true then 1 else 0) ∧ (if b = true then (1 : Int) else 0) ≤ 1 := fun b => by cases b <;> decide
        have g := b01 (decide (10 ^ Int.toNat 18 ≤ if c < 0 then -c else c))
        refine ⟨_, _, rfl, rfl, .inr ⟨by omega, by omega⟩, _, rfl, (by show 2 ≤ sizeLine; decide), fun p hp => k p _ (Same.new hp) hp ⟨_, _, upd_same, Int.mul_nonneg u0 g.1, (t0 _).1, (t0 _).2⟩⟩
end
end SE
namespace SE
open PySem PySem.Spec PyProof.Rows L2
theorem len_add (x y : Str) : (x ++ y).length = x.length + y.length := by
  show (x.cps ++ y.cps).size = _
  rw [Array.size_append]
  rfl
theorem cps_add (x y : Str) : (x ++ y).cps.toList = x.cps.toList ++ y.cps.toList := by
  show (x.cps ++ y.cps).toList = _
  exact Array.toList_append
abbrev abc : Str := Str.ofString "abcdefghijklmnopqrstuvwxyz"
theorem abc_len : abc.length = 26 := by decide +kernel
theorem abc_at (i : Nat) (h : i < 26) : ∃ c, abc.cps[i]? = some c ∧ 97 ≤ c ∧ c ≤ 122 := by
  have q : ∀ j : Fin 26, (abc.cps[j.1]?).any (fun c => decide (97 ≤ c) && decide (c ≤ 122)) = true := by decide +kernel
  have z := q ⟨i, h⟩
  simp only [Option.any_eq_true, Bool.and_eq_true, decide_eq_true_eq] at z
  obtain ⟨c, h1, h2, h3⟩ := z
  exact ⟨c, h1, h2, h3⟩
section
variable {P : Program} {w : World} {K : PySem.W.Frag} {mg : Str → Option Value} {base : Heap}
/-! ### _law_name -/
def spName : Sp := fun xs H Q _ => ∃ (p : Addr), xs = [.ref p] ∧ Pool H p ∧ ∀ (z : Str) (H' : Hp), But p H H' → Pool H' p → Item z → Q (.str z) H'
theorem scName : FnScope ["_law_pool_here", "_law_letters", "_law_found", "_law_turn"] ["_law_pool_here"] (defScope sName) := ⟨rfl, rfl, rfl, by decide +kernel, rfl, by decide +kernel, by decide +kernel⟩
theorem has_name (D : Def K mg "_law_name" sName) (GT : Has P w K mg base "_law_take" 1 ["_law_pool_here", "_law_many"] [] spTake) (mr : mg "range" = none) : Has P w K mg base "_law_name" 2 ["_law_pool_here"] [] spName := by
  refine has_of D scName (fun _ _ _ _ _ _ us hl => match us, hl with | [_], _ => rfl) (fun xs H Q E h => ?_) (fun f cv A out s H xs Q E hr h => ?_)
  · obtain ⟨p, rfl, _⟩ := h
    rfl
  · obtain ⟨p, rfl, hp, k⟩ := h
    refine ⟨_, pss_cons (ps_set (i := 1) scName.nd rfl (.inl rfl) pe_str)
      (pss_cons (ps_set (i := 2) scName.nd rfl (.inl rfl) (pe_item_str (pv 1) (pe_has GT hr (pa_cons (pv 0) (pa_cons pe_int pa_nil))) (fun _ _ => rfl)))
      (pss_cons (ps_for PassesOwn.never rfl (pi_range1 (by rfl) mr (pa_cons (pe_has GT hr (pa_cons (pv 0) (pa_cons pe_int pa_nil))) pa_nil)) (pg_name (i := 3) scName.nd rfl (.inl rfl))
        (pss_one (ps_set (i := 2) scName.nd rfl (.inl rfl) (pe_op op_add_str (pv 2) (pe_item_str (pv 1) (pe_has GT hr (pa_cons (pv 0) (pa_cons pe_int pa_nil))) (fun _ _ => rfl))))))
      (pss_one (ps_ret (pv 2))))), ?_⟩
    refine ⟨_, rfl, _, rfl, p, 26, rfl, hp, by decide, by decide, fun r H1 b1 p1 r0 r1 => ?_⟩
    obtain ⟨c, hc, c0, c1⟩ := abc_at r.toNat (by omega)
    refine ⟨abc, r, c, rfl, rfl, r0, by omega, ?_, hc, ?_⟩
    · have := abc_len
      rw [this]
      omega
    refine ⟨_, rfl, p, 8, rfl, p1, by decide, by decide, fun n H2 b2 p2 n0 n1 => ?_⟩
    refine ⟨n, rfl, by omega, by omega, for_range (lo := 0) (n := n.toNat) (fun i σ H3 => ∃ (z : Str) (y : Option V), σ = [some (.ref p), some (.str abc), some (.str z), y] ∧ But p H H3 ∧ Pool H3 p ∧ z.length = i + 1 ∧ ∀ c ∈ z.cps.toList, 97 ≤ c ∧ c ≤ 122) ?_ ?_ ?_⟩
    · refine ⟨⟨#[c]⟩, none, rfl, b1.trans b2, p2, rfl, fun d hd => ?_⟩
      obtain rfl : d = c := by simpa using hd
      exact ⟨c0, c1⟩
    · rintro i σ H3 hi ⟨z, y, rfl, b3, p3, hz, hl⟩
      refine ⟨_, rfl, _, rfl, _, rfl, p, 26, rfl, p3, by decide, by decide, fun r2 H4 b4 p4 s0 s1 => ?_⟩
      obtain ⟨d, hd, d0, d1⟩ := abc_at r2.toNat (by omega)
      refine ⟨abc, r2, d, rfl, rfl, s0, by omega, ?_, hd, z, ⟨#[d]⟩, rfl, rfl, ?_, z ++ ⟨#[d]⟩, _, rfl, b3.trans b4, p4, ?_, fun e he => ?_⟩
      · have := abc_len
        rw [this]
        omega
      · rw [hz]
        exact Nat.le_of_lt (small1000 (show i + 1 + 1 ≤ 1000 by omega))
      · rw [len_add, hz]
        rfl
      · rw [cps_add] at he
        rcases List.mem_append.mp he with q | q
        · exact hl e q
        · obtain rfl : e = d := by simpa using q
          exact ⟨d0, d1⟩
    · rintro σ H3 ⟨z, y, rfl, b3, p3, hz, hl⟩
      exact ⟨_, rfl, k z H3 b3 p3 ⟨by omega, by omega, hl⟩⟩
end
end SE
namespace SE
open PySem PySem.Spec PyProof.Rows L2
theorem nodup_le {α : Type} [DecidableEq α] : ∀ {ys zs : List α}, ys.Nodup → (∀ y ∈ ys, y ∈ zs) → ys.length ≤ zs.length
  | [], _, _, _ => Nat.zero_le _
  | y :: ys, zs, nd, h => by
    obtain ⟨n1, n2⟩ := List.nodup_cons.mp nd
    have hy : y ∈ zs := h y List.mem_cons_self
    have ih := nodup_le (zs := zs.erase y) n2 fun x hx => (List.mem_erase_of_ne (fun e => n1 (by rw [← e]; exact hx))).mpr (h x (List.mem_cons_of_mem _ hx))
    rw [List.length_erase_of_mem hy] at ih
    have : 0 < zs.length := List.length_pos_of_mem hy
    rw [List.length_cons]
    omega
theorem yes_in {σ : L2.St} {H : Hp} {F G : Hp → Prop} (h : F H) : tYes σ H (fun b H3 => if b = true then F H3 else G H3) := by
  show if true = true then F H else G H
  exact iteT h
theorem eqV_str (a b : Str) : eqV (.str a) (.str b) = (a == b) := by
  unfold eqV
  rfl
theorem inV_str (z : Str) : ∀ zs : List Str, inV (.str z) (zs.map V.str) = decide (z ∈ zs)
  | [] => by simp [inV]
  | y :: zs => by
    have ih := inV_str z zs
    unfold inV at ih ⊢
    rw [List.map_cons, List.any_cons, ih, eqV_str]
    by_cases e : y = z
    · subst e
      simp
    · have e2 : ¬ z = y := fun q => e q.symm
      simp [e, e2]
theorem flat_strs : ∀ zs : List Str, (zs.map V.str).all flatV = true
  | [] => rfl
  | y :: zs => by
    rw [List.map_cons, List.all_cons, flat_strs zs]
    rfl
/-- the names that are taken where one is drawn twice -/
def spare : List Str := abc.cps.toList.map fun c => (⟨#[c]⟩ : Str) ++ "zz"
theorem spare_len : spare.length = 26 := by decide +kernel
theorem spare_nd : spare.Nodup := by decide +kernel
theorem spare_item {z : Str} (h : z ∈ spare) : Item z := by
  have q : ∀ y ∈ spare, (decide (1 ≤ y.length) && decide (y.length ≤ 8) && y.cps.toList.all fun c => decide (97 ≤ c) && decide (c ≤ 122)) = true := by decide +kernel
  have e := q z h
  simp only [Bool.and_eq_true, decide_eq_true_eq, List.all_eq_true] at e
  exact ⟨e.1.1, e.1.2, e.2⟩
theorem spare_at {i c : Nat} (h : abc.cps[i]? = some c) : spare[i]? = some ((⟨#[c]⟩ : Str) ++ "zz") := by
  unfold spare
  rw [List.getElem?_map, Array.getElem?_toList, h]
  rfl
theorem abc_size : abc.cps.size = 26 := by decide +kernel
section
variable {P : Program} {w : World} {K : PySem.W.Frag} {mg : Str → Option Value} {base : Heap}
/-! ### _law_items -/
def spItems : Sp := fun xs H Q _ => ∃ (p : Addr) (n : Int), xs = [.ref p, .int n] ∧ Pool H p ∧ 0 ≤ n ∧ n ≤ 20 ∧
  ∀ (l : Addr) (zs : List Str) (H' : Hp), But p H H' → Pool H' p → H l = none → l ≠ p → H' l = some (.lst (zs.map V.str)) → zs.length = n.toNat → (∀ z ∈ zs, Item z) → Q (.ref l) H'
theorem scItems : FnScope ["_law_pool_here", "_law_many", "_law_found", "_law_at", "_law_name_here", "_law_some", "_law_one"] ["_law_pool_here", "_law_many"] (defScope sItems) := ⟨rfl, rfl, rfl, by decide +kernel, rfl, by decide +kernel, by decide +kernel⟩
abbrev nItems : List Str := ["_law_pool_here", "_law_many", "_law_found", "_law_at", "_law_name_here", "_law_some", "_law_one"]
theorem has_items (D : Def K mg "_law_items" sItems) (GN : Has P w K mg base "_law_name" 2 ["_law_pool_here"] [] spName) (mr : mg "range" = none) : Has P w K mg base "_law_items" 3 ["_law_pool_here", "_law_many"] [] spItems := by
  refine has_of D scItems (fun _ _ _ _ _ _ us hl => match us, hl with | [_, _], _ => rfl) (fun xs H Q E h => ?_) (fun f cv A out s H xs Q E hr h => ?_)
  · obtain ⟨p, n, rfl, _⟩ := h
    rfl
  · obtain ⟨p, n, rfl, hp, h0, h1, k⟩ := h
    refine ⟨_, pss_cons (ps_set (i := 2) scItems.nd rfl (.inr rfl) (pe_lst pa_nil))
      (pss_cons (ps_for PassesOwn.never rfl (pi_range1 (by rfl) mr (pa_cons (pv 1) pa_nil)) (pg_name (i := 3) scItems.nd rfl (.inl rfl))
        (pss_cons (ps_set (i := 4) scItems.nd rfl (.inl rfl) (pe_has GN hr (pa_cons (pv 0) pa_nil)))
        (Evl.pss_cut (ps_if (pt_cmpR op_in_seq (pv 4) (pv 2) (by rfl))
          (pss_cons (ps_setLc (i := 5) (own := [("_law_one", 6)]) (g := gName 6) (tt := tYes) rfl scItems.nd rfl rfl (sw_true rfl rfl rfl (by decide +kernel)) (pi_str pe_str) (blkOk_by (own := [("_law_one", 6)]) (N := nItems) (sc := defScope sItems) (by decide +kernel))
              (fun _ _ _ _ _ => pg_name (i := 6) scItems.nd rfl (.inl rfl)) (fun _ _ _ _ _ => pts_nil) (fun _ _ _ _ _ => pe_op op_add_str (pv 6) pe_str))
          (pss_one (ps_set (i := 4) scItems.nd rfl (.inl rfl) (pe_ix ix_list (pe_lc (own := [("_law_one", 6)]) (g := gName 6) (tt := tTest (tOp (rIn K true) (tVar 6) (tVar 2))) (te := tVar 6) rfl scItems.nd (pi_list (pv 5)) (blkOk_by (own := [("_law_one", 6)]) (N := nItems) (sc := defScope sItems) (by decide +kernel))
              (fun _ _ _ _ _ => pg_name (i := 6) scItems.nd rfl (.inl rfl)) (fun _ _ _ _ _ => pts_one (pt_cmpR op_notIn_seq (pv 6) (pv 2) (by rfl))) (fun _ _ _ _ _ => pv 6)) pe_int (fun _ _ => rfl))))) pss_nil)
        (pss_one (ps_expr (pe_bm PySem.F.plainAttrs_list PySem.F.slot_list_append PySem.F.type_list_append mt_append (pv 2) (pa_cons (pv 4) pa_nil)))))))
      (pss_one (ps_ret (pv 2)))), ?_⟩
    refine ⟨Nat.zero_le _, fun l hl => ?_⟩
    have lp : l ≠ p := hp.free hl
    refine ⟨_, rfl, n, rfl, by omega, by omega, for_range (lo := 0) (n := n.toNat) (fun i σ H3 => ∃ (zs : List Str) (y3 y4 y5 y6 : Option V), σ = [some (.ref p), some (.int n), some (.ref l), y3, y4, y5, y6] ∧ But p H H3 ∧ Pool H3 p ∧ H3 l = some (.lst (zs.map V.str)) ∧ zs.length = i ∧ ∀ z ∈ zs, Item z) ?_ ?_ ?_⟩
    · exact ⟨[], none, none, none, none, rfl, .of (Same.new hl), hp.upd lp, upd_same, rfl, fun z h => nomatch h⟩
    · rintro i σ H3 hi ⟨zs, y3, y4, y5, y6, rfl, b3, p3, hl3, hz, hI⟩
      refine ⟨_, rfl, p, rfl, p3, fun z H4 b4 p4 iz => ?_⟩
      have hl4 : H4 l = some (.lst (zs.map V.str)) := b4 l _ lp hl3
      have bb := b3.trans b4
      refine ⟨fun σ H5 => ∃ (z : Str) (y5 y6 : Option V), σ = [some (.ref p), some (.int n), some (.ref l), some (.int (0 + i)), some (.str z), y5, y6] ∧ But p H H5 ∧ Pool H5 p ∧ H5 l = some (.lst (zs.map V.str)) ∧ Item z, ?_, ?_⟩
      · refine ⟨_, rfl, _, rfl, l, _, rfl, .inl (.of hl4), rfl, flat_strs _, _, rfl, ite2 (fun c => ?_) (fun c => ?_)⟩
        · refine ⟨abc, rfl, fun D hD => lc_it walk_str (fun j H5 => H5 D = some (.lst ((spare.take j).map V.str)) ∧ But p H H5 ∧ Pool H5 p ∧ H5 l = some (.lst (zs.map V.str))) ?_ (fun _ _ _ _ => trivial) ?_ ?_⟩
          · have Dp : D ≠ p := p4.free hD
            exact ⟨upd_same, bb.free (bb.none Dp hD), p4.upd Dp, by rw [upd_ne (ne_of_none hl4 hD)]; exact hl4⟩
          · rintro j x H5 H6 hj ⟨hD5, b5, p5, hl5⟩ ⟨rfl, d, hd, rfl⟩
            have Dp : D ≠ p := p4.free hD
            refine ⟨rfl, yes_in ⟨_, rfl, ⟨#[d]⟩, "zz", rfl, rfl, (by show 1 + 2 ≤ sizeLine; decide), _, hD5, ?_, ?_, b5.free (bb.none Dp hD), p5.upd Dp, ?_⟩⟩
            · rw [List.length_map, List.length_take, spare_len]
              exact small1000 (by omega)
            · rw [upd_same, List.take_add_one, spare_at hd, List.map_append]
              rfl
            · rw [upd_ne (ne_of_none hl4 hD)]
              exact hl5
          · rintro H5 ⟨hD5, b5, p5, hl5⟩
            have full : spare.take abc.cps.size = spare := List.take_of_length_le (by rw [spare_len, abc_size]; omega)
            rw [full] at hD5
            have Dp : D ≠ p := p4.free hD
            have Dl : l ≠ D := ne_of_none hl4 hD
            refine ⟨_, rfl, D, rfl, ⟨_, .of hD5⟩, fun E2 hE => lc_list (K := K) (a := D) (xs := spare.map V.str) (fun j H6 => H6 D = some (.lst (spare.map V.str)) ∧ H6 E2 = some (.lst (((spare.take j).filter fun y => !decide (y ∈ zs)).map V.str)) ∧ But p H H6 ∧ Pool H6 p ∧ H6 l = some (.lst (zs.map V.str))) ?_ (fun _ _ _ q => .of q.1) ?_ ?_⟩
            · have Ep : E2 ≠ p := p5.free hE
              refine ⟨?_, upd_same, b5.free (b5.none Ep hE), p5.upd Ep, ?_⟩
              · rw [upd_ne (ne_of_none hD5 hE)]
                exact hD5
              · rw [upd_ne (ne_of_none hl5 hE)]
                exact hl5
            · rintro j x H6 hj ⟨hD6, hE6, b6, p6, hl6⟩
              have Ep : E2 ≠ p := p5.free hE
              rw [List.getElem?_map] at hj
              obtain ⟨y, hy, rfl⟩ : ∃ y, spare[j]? = some y ∧ V.str y = x := by
                cases e : spare[j]? with
                | none => rw [e] at hj; cases hj
                | some y => rw [e] at hj; exact ⟨y, rfl, Option.some.inj hj⟩
              have tk : spare.take (j + 1) = spare.take j ++ [y] := by
                rw [List.take_add_one, hy]
                rfl
              refine ⟨rfl, _, rfl, _, rfl, l, _, rfl, .inl (.of hl6), rfl, flat_strs _, _, rfl, ?_⟩
              rw [if_pos rfl, inV_str]
              by_cases m : y ∈ zs
              · rw [decide_eq_true m]
                refine iteF ⟨hD6, ?_, b6, p6, hl6⟩
                rw [tk, List.filter_append, List.filter_cons_of_neg (by simp [m]), List.filter_nil, List.append_nil]
                exact hE6
              · rw [decide_eq_false m]
                refine iteT ⟨_, rfl, _, hE6, ?_, ?_, ?_, b6.free (b5.none Ep hE), p6.upd Ep, ?_⟩
                · rw [List.length_map]
                  have z1 := List.length_filter_le (fun y => !decide (y ∈ zs)) (spare.take j)
                  have z2 : (spare.take j).length ≤ 26 := by
                    rw [List.length_take, spare_len]
                    omega
                  exact small1000 (by omega)
                · rw [upd_ne (ne_of_none hD5 hE)]
                  exact hD6
                · rw [upd_same, tk, List.filter_append, List.filter_cons_of_pos (by simp [m]), List.filter_nil, List.map_append]
                  rfl
                · rw [upd_ne (ne_of_none hl5 hE)]
                  exact hl6
            · rintro H6 ⟨hD6, hE6, b6, p6, hl6⟩
              rw [List.length_map, List.take_length] at hE6
              have some1 : ∃ y0 r, (spare.filter fun y => !decide (y ∈ zs)) = y0 :: r := by
                cases e : spare.filter fun y => !decide (y ∈ zs) with
                | cons y0 r => exact ⟨y0, r, rfl⟩
                | nil =>
                  have all : ∀ y ∈ spare, y ∈ zs := fun y hy => by
                    by_cases m : y ∈ zs
                    · exact m
                    · have q : y ∈ spare.filter fun y => !decide (y ∈ zs) := List.mem_filter.mpr ⟨hy, by simp [m]⟩
                      rw [e] at q
                      cases q
                  have q := nodup_le spare_nd all
                  rw [spare_len] at q
                  omega
              obtain ⟨y0, r, e0⟩ := some1
              have y0s : y0 ∈ spare := (List.mem_filter.mp (show y0 ∈ spare.filter fun y => !decide (y ∈ zs) by rw [e0]; exact List.mem_cons_self)).1
              rw [e0] at hE6
              exact ⟨E2, _, 0, .str y0, rfl, rfl, .of hE6, atI_nat (j := 0) rfl, y0, _, _, rfl, b6, p6, hl6, spare_item y0s⟩
        · exact ⟨z, _, _, rfl, bb, p4, hl4, iz⟩
      · rintro σ H5 ⟨z, y5, y6, rfl, b5, p5, hl5, iz⟩
        refine ⟨.ref l, rfl, .inl ⟨rfl, _, .inl (.inl hl5)⟩, _, rfl, l, _, _, rfl, rfl, hl5, ?_, zs ++ [z], _, _, _, _, rfl, b5.free hl, p5.upd lp, ?_, ?_, ?_⟩
        · rw [List.length_map, hz]
          exact small1000 (by omega)
        · rw [upd_same, List.map_append]
          rfl
        · rw [List.length_append, hz]
          rfl
        · intro y hy
          rcases List.mem_append.mp hy with q | q
          · exact hI y q
          · rw [List.mem_singleton.mp q]
            exact iz
    · rintro σ H3 ⟨zs, y3, y4, y5, y6, rfl, b3, p3, hl3, hz, hI⟩
      exact ⟨_, rfl, k l zs H3 b3 p3 hl lp hl3 hz hI⟩
end
end SE
namespace SE
open PySem PySem.Spec PyProof.Rows L2
section
variable {P : Program} {w : World} {K : PySem.W.Frag} {mg : Str → Option Value} {base : Heap}
/-! ### _law_word -/
def spWord : Sp := fun xs H Q _ => ∃ (p l : Addr) (m : Int) (zs : List Str), xs = [.ref p, .ref l, .int m] ∧ Pool H p ∧ l ≠ p ∧ H l = some (.lst (zs.map V.str)) ∧ zs ≠ [] ∧ zs.length ≤ 100 ∧ 0 ≤ m ∧ m ≤ 900 ∧
  ∀ (t : Addr) (ws : List Str) (H' : Hp), But p H H' → Pool H' p → H t = none → H' t = some (.tup (ws.map V.str)) → (ws.length : Int) ≤ m → (∀ z ∈ ws, z ∈ zs) → Q (.ref t) H'
abbrev nWord : List Str := ["_law_pool_here", "_law_items_here", "_law_most", "_law_turn"]
theorem scWord : FnScope nWord ["_law_pool_here", "_law_items_here", "_law_most"] (defScope sWord) := ⟨rfl, rfl, rfl, by decide +kernel, rfl, by decide +kernel, by decide +kernel⟩
theorem pick_str {zs : List Str} {r : Int} (h0 : 0 ≤ r) (h1 : r < (zs.length : Int)) : ∃ z, z ∈ zs ∧ atI (zs.map V.str) r = some (.str z) := by
  have hj : r.toNat < zs.length := by omega
  refine ⟨zs[r.toNat], List.getElem_mem hj, at_of (j := r.toNat) (by omega) ?_⟩
  rw [List.getElem?_map, List.getElem?_eq_getElem hj]
  rfl
theorem has_word (D : Def K mg "_law_word" sWord) (GT : Has P w K mg base "_law_take" 1 ["_law_pool_here", "_law_many"] [] spTake) (mr : mg "range" = none) (ml : mg "len" = none) (mt : mg "tuple" = none) : Has P w K mg base "_law_word" 2 ["_law_pool_here", "_law_items_here", "_law_most"] [] spWord := by
  refine has_of D scWord (fun _ _ _ _ _ _ us hl => match us, hl with | [_, _, _], _ => rfl) (fun xs H Q E h => ?_) (fun f cv A out s H xs Q E hr h => ?_)
  · obtain ⟨p, l, m, zs, rfl, _⟩ := h
    rfl
  · obtain ⟨p, l, m, zs, rfl, hp, lp, hl, hne, hz, h0, h1, k⟩ := h
    refine ⟨_, pss_one (ps_ret (pe_callTy call_tuple_of (by rfl) mt (by decide +kernel) (pa_cons
      (pe_lc (own := [("_law_turn", 3)]) (g := gName 3) (tt := tYes) (te := tOp (rIxL K) (tVar 1) (tCall spTake [] E0 (tCons (tVar 0) (tCons (tCB (Evl.rLenS K) (tCons (tVar 1) tNil)) tNil)))) rfl scWord.nd
        (pi_range1 (by rfl) mr (pa_cons (pe_has GT hr (pa_cons (pv 0) (pa_cons (pe_op op_add (pv 2) pe_int) pa_nil))) pa_nil)) (blkOk_by (own := [("_law_turn", 3)]) (N := nWord) (sc := defScope sWord) (by decide +kernel))
        (fun _ _ _ _ _ => pg_name (i := 3) scWord.nd rfl (.inl rfl)) (fun _ _ _ _ _ => pts_nil)
        (fun _ _ _ _ _ => pe_ix ix_list (pv 1) (pe_has GT hr (pa_cons (pv 0) (pa_cons (pe_callB call_len_seq (by rfl) ml PySem.boot_len (pa_cons (pv 1) pa_nil)) pa_nil))) (fun _ _ => rfl))) pa_nil))), ?_⟩
    refine ⟨_, rfl, _, rfl, m, 1, rfl, rfl, p, m + 1, rfl, hp, by omega, by omega, fun n H1 b1 p1 n0 n1 => ?_⟩
    have hl1 : H1 l = some (.lst (zs.map V.str)) := b1 l _ lp hl
    refine ⟨n, rfl, by omega, by omega, fun D hD => lc_range (lo := 0) (n := n.toNat) (fun i H2 => ∃ ws : List Str, H2 D = some (.lst (ws.map V.str)) ∧ ws.length = i ∧ (∀ z ∈ ws, z ∈ zs) ∧ But p H H2 ∧ Pool H2 p ∧ H2 l = some (.lst (zs.map V.str))) ?_ ?_ ?_⟩
    · have Dp : D ≠ p := p1.free hD
      exact ⟨[], upd_same, rfl, fun z q => (by cases q), b1.free (b1.none Dp hD), p1.upd Dp, by rw [upd_ne (ne_of_none hl1 hD)]; exact hl1⟩
    · rintro i H2 hi ⟨ws, hw, wl, wz, b2, p2, hl2⟩
      have Dp : D ≠ p := p1.free hD
      have Dl : l ≠ D := ne_of_none hl1 hD
      have hzp : 0 < zs.length := List.length_pos_iff.mpr hne
      refine ⟨rfl, yes_in ⟨_, rfl, _, rfl, _, rfl, l, _, rfl, .inl (.of hl2), p, _, rfl, p2, ?_, ?_, fun r H3 b3 p3 r0 r1 => ?_⟩⟩
      · rw [List.length_map]
        omega
      · rw [List.length_map]
        omega
      · rw [List.length_map] at r1
        obtain ⟨z, zm, az⟩ := pick_str r0 r1
        have hl3 : H3 l = some (.lst (zs.map V.str)) := b3 l _ lp hl2
        have hD3 : H3 D = some (.lst (ws.map V.str)) := b3 D _ Dp hw
        refine ⟨l, _, r, _, rfl, rfl, .of hl3, az, _, hD3, ?_, ws ++ [z], ?_, ?_, ?_, (b2.trans b3).free (b1.none Dp hD), p3.upd Dp, ?_⟩
        · rw [List.length_map, wl]
          exact small1000 (by omega)
        · rw [upd_same, List.map_append]
          rfl
        · rw [List.length_append, wl]
          rfl
        · intro y hy
          rcases List.mem_append.mp hy with q | q
          · exact wz y q
          · rw [List.mem_singleton.mp q]
            exact zm
        · rw [upd_ne Dl]
          exact hl3
    · rintro H2 ⟨ws, hw, wl, wz, b2, p2, hl2⟩
      refine ⟨D, _, rfl, .inl ⟨.of hw, fun t ht => ?_⟩⟩
      have tp : t ≠ p := p2.free ht
      refine k t ws _ (b2.free (b2.none tp ht)) (p2.upd tp) (b2.none tp ht) upd_same ?_ wz
      omega
end
end SE
namespace SE
open PySem PySem.Spec PyProof.Rows L2
/-- a test whose ways meet -/
def tCutT (t : TT) : TT := fun σ H Q => ∃ M : Bool → Hp → Prop, t σ H M ∧ ∀ b H2, M b H2 → Q b H2
theorem pt_cut {X : Cx} {e : Expr} {t : TT} (h : PT X e t) : PT X e (tCutT t) := ⟨fun pins s σ H Q I hw => by
  obtain ⟨M, h1, h2⟩ := hw
  refine thn (h.run pins s σ H M I h1) fun b s2 z => ?_
  obtain ⟨H2, I2, q⟩ := z
  exact ⟨H2, I2, h2 b H2 q⟩⟩
theorem cut_map {α : Type} (f : α → V) (hs : List α) (lo hi : Option Int) : cutV (hs.map f) lo hi = ((hs.drop (HT.sIx hs.length 0 lo)).take (HT.sIx hs.length hs.length hi - HT.sIx hs.length 0 lo)).map f := by
  unfold cutV
  rw [List.length_map, List.map_take, List.map_drop]
theorem cut_mem {α : Type} {x : α} {hs : List α} {a b : Nat} (h : x ∈ (hs.drop a).take b) : x ∈ hs := List.mem_of_mem_drop (List.mem_of_mem_take h)
/-- steps whose tuples stand in the heap -/
abbrev StepsH (H : Hp) : List V → List Stp → Prop := Paired fun v s => ∃ t, v = .ref t ∧ H t = some (.tup [.str (act s.1), .str s.2])
theorem StepsH.v {K : PySem.W.Frag} {H : Hp} {xs : List V} {ss : List Stp} (h : StepsH H xs ss) : StepsV K H xs ss := Paired.mapP h fun _ _ q => by
  obtain ⟨t, e, z⟩ := q
  exact ⟨t, e, .of z⟩
theorem StepsH.but {H H' : Hp} {p : Addr} {xs : List V} {ss : List Stp} (h : StepsH H xs ss) (hp : Pool H p) (b : But p H H') : StepsH H' xs ss := Paired.mapP h fun _ _ q => by
  obtain ⟨t, e, z⟩ := q
  exact ⟨t, e, b t _ (hp.ne z) z⟩
theorem StepsH.upd {H : Hp} {q : Addr} {o : HO} {xs : List V} {ss : List Stp} (h : StepsH H xs ss) (hq : ∀ ys, H q ≠ some (.tup ys)) : StepsH (upd H q o) xs ss := Paired.mapP h fun _ _ r => by
  obtain ⟨t, e, z⟩ := r
  refine ⟨t, e, ?_⟩
  rw [upd_ne (fun w => hq _ (by rw [← w]; exact z))]
  exact z
structure SI (p l f h : Addr) (zs : List Str) (H H3 : Hp) (xs : List V) (ss : List Stp) (hs : List Str) : Prop where
  b : But p H H3
  pl : Pool H3 p
  it : H3 l = some (.lst (zs.map V.str))
  fl : H3 f = some (.lst xs)
  st : StepsH H3 xs ss
  sz : ∀ s ∈ ss, s.2 ∈ zs
  hl : H3 h = some (.lst (hs.map V.str))
  hz : ∀ z ∈ hs, z ∈ zs
  lp : l ≠ p
  fp : f ≠ p
  fn : H f = none
  hp : h ≠ p
  hn : H h = none
  hf : h ≠ f
  hnl : h ≠ l
  lf : l ≠ f
section
variable {p l f h : Addr} {zs : List Str} {H H3 : Hp} {xs : List V} {ss : List Stp} {hs : List Str}
theorem SI.new (a : SI p l f h zs H H3 xs ss hs) {q : Addr} {o : HO} (hq : H3 q = none) : SI p l f h zs H (upd H3 q o) xs ss hs := by
  have qp : q ≠ p := a.pl.free hq
  exact ⟨a.b.free (a.b.none qp hq), a.pl.upd qp, by rw [upd_ne (ne_of_none a.it hq)]; exact a.it, by rw [upd_ne (ne_of_none a.fl hq)]; exact a.fl, a.st.upd (fun ys z => by rw [hq] at z; cases z), a.sz,
    by rw [upd_ne (ne_of_none a.hl hq)]; exact a.hl, a.hz, a.lp, a.fp, a.fn, a.hp, a.hn, a.hf, a.hnl, a.lf⟩
theorem SI.draw (a : SI p l f h zs H H3 xs ss hs) {H4 : Hp} (b : But p H3 H4) (q : Pool H4 p) : SI p l f h zs H H4 xs ss hs :=
  ⟨a.b.trans b, q, b _ _ a.lp a.it, b _ _ a.fp a.fl, a.st.but a.pl b, a.sz, b _ _ a.hp a.hl, a.hz, a.lp, a.fp, a.fn, a.hp, a.hn, a.hf, a.hnl, a.lf⟩
theorem SI.app (a : SI p l f h zs H H3 xs ss hs) {t : Addr} {c : Bool} {z : Str} (ht : H3 t = some (.tup [.str (act c), .str z])) (hz : z ∈ zs) : SI p l f h zs H (upd H3 f (.lst (xs ++ [.ref t]))) (xs ++ [.ref t]) (ss ++ [(c, z)]) hs := by
  have tf : t ≠ f := ne_of ht a.fl (by intro w; cases w)
  refine ⟨a.b.free a.fn, a.pl.upd a.fp, by rw [upd_ne a.lf]; exact a.it, upd_same, (a.st.upd (fun ys w => by rw [a.fl] at w; cases w)).snoc ⟨t, rfl, by rw [upd_ne tf]; exact ht⟩, fun s hs' => ?_, by rw [upd_ne a.hf]; exact a.hl, a.hz, a.lp, a.fp, a.fn, a.hp, a.hn, a.hf, a.hnl, a.lf⟩
  rcases List.mem_append.mp hs' with q | q
  · exact a.sz s q
  · rw [List.mem_singleton.mp q]
    exact hz
theorem SI.hset (a : SI p l f h zs H H3 xs ss hs) {ys : List Str} (hy : ∀ z ∈ ys, z ∈ zs) : SI p l f h zs H (upd H3 h (.lst (ys.map V.str))) xs ss ys :=
  ⟨a.b.free a.hn, a.pl.upd a.hp, by rw [upd_ne (Ne.symm a.hnl)]; exact a.it, by rw [upd_ne (Ne.symm a.hf)]; exact a.fl, a.st.upd (fun us w => by rw [a.hl] at w; cases w), a.sz, upd_same, hy, a.lp, a.fp, a.fn, a.hp, a.hn, a.hf, a.hnl, a.lf⟩
theorem SI.hnew (a : SI p l f h zs H H3 xs ss hs) {q : Addr} {ys : List Str} (hq : H3 q = none) (hy : ∀ z ∈ ys, z ∈ zs) : SI p l f q zs H (upd H3 q (.lst (ys.map V.str))) xs ss ys := by
  have b := a.new (o := .lst (ys.map V.str)) hq
  have qp : q ≠ p := a.pl.free hq
  exact ⟨b.b, b.pl, b.it, b.fl, b.st, b.sz, upd_same, hy, a.lp, a.fp, a.fn, qp, a.b.none qp hq, Ne.symm (ne_of_none a.fl hq), Ne.symm (ne_of_none a.it hq), a.lf⟩
end
section
variable {P : Program} {w : World} {K : PySem.W.Frag} {mg : Str → Option Value} {base : Heap}
/-! ### _law_steps -/
def spSteps : Sp := fun xs H Q _ => ∃ (p l : Addr) (m : Int) (zs : List Str), xs = [.ref p, .ref l, .int m] ∧ Pool H p ∧ l ≠ p ∧ H l = some (.lst (zs.map V.str)) ∧ zs ≠ [] ∧ zs.length ≤ 100 ∧ (∀ z ∈ zs, Item z) ∧ 0 ≤ m ∧ m ≤ 100 ∧
  ∀ (t : Addr) (us : List V) (ss : List Stp) (H' : Hp), But p H H' → Pool H' p → H t = none → H' t = some (.lst us) → StepsH H' us ss → ss.length = m.toNat → (∀ s ∈ ss, s.2 ∈ zs) → Q (.ref t) H'
abbrev nSteps : List Str := ["_law_pool_here", "_law_items_here", "_law_many", "_law_found", "_law_held", "_law_turn", "_law_way", "_law_item"]
theorem scSteps : FnScope nSteps ["_law_pool_here", "_law_items_here", "_law_many"] (defScope sSteps) := ⟨rfl, rfl, rfl, by decide +kernel, rfl, by decide +kernel, by decide +kernel⟩
theorem has_steps (D : Def K mg "_law_steps" sSteps) (GT : Has P w K mg base "_law_take" 1 ["_law_pool_here", "_law_many"] [] spTake) (mr : mg "range" = none) (ml : mg "len" = none) : Has P w K mg base "_law_steps" 2 ["_law_pool_here", "_law_items_here", "_law_many"] [] spSteps := by
  refine has_of D scSteps (fun _ _ _ _ _ _ us hl => match us, hl with | [_, _, _], _ => rfl) (fun xs H Q E h => ?_) (fun f cv A out s H xs Q E hr h => ?_)
  · obtain ⟨p, l, m, zs, rfl, _⟩ := h
    rfl
  · obtain ⟨p, l, m, zs, rfl, hp, lp, hl, hne, hz, hI, h0, h1, k⟩ := h
    refine ⟨_, pss_cons (ps_par (i := 3) (j := 4) (by rfl) scSteps.nd rfl rfl (by decide) rfl rfl (pa_cons (pe_lst pa_nil) (pa_cons (pe_lst pa_nil) pa_nil)) (by rfl))
      (pss_cons (ps_for PassesOwn.never rfl (pi_range1 (by rfl) mr (pa_cons (pv 2) pa_nil)) (pg_name (i := 5) scSteps.nd rfl (.inl rfl))
        (pss_cons (ps_set (i := 6) scSteps.nd rfl (.inl rfl) (pe_has GT hr (pa_cons (pv 0) (pa_cons pe_int pa_nil))))
        (pss_cons (ps_set (i := 7) scSteps.nd rfl (.inl rfl) (pe_ix ix_list (pv 1) (pe_has GT hr (pa_cons (pv 0) (pa_cons (pe_callB call_len_seq (by rfl) ml PySem.boot_len (pa_cons (pv 1) pa_nil)) pa_nil))) (fun _ _ => rfl)))
        (pss_one (ps_if (pt_cut (PW.pt (pw_and (pt_cmpR op_lt (pv 6) pe_int (nomark _)) (pw_and1 (pt_cmpR (op_neD hr.units) (pv 4) (pe_lst pa_nil) (nomark _))))))
          (pss_cons (ps_set (i := 7) scSteps.nd rfl (.inl rfl) (pe_bm0 PySem.F.plainAttrs_list PySem.F.slot_list_pop PySem.F.type_list_pop mt_pop (pv 4)))
          (pss_one (ps_expr (pe_bm PySem.F.plainAttrs_list PySem.F.slot_list_append PySem.F.type_list_append mt_append (pv 3) (pa_cons (pe_tup (pa_cons pe_str (pa_cons (pv 7) pa_nil))) pa_nil)))))
          (pss_one (ps_if (pt_cut (PW.pt (pw_or (pt_cmpR op_eq (pv 6) pe_int (nomark _)) (pw_or1 (PW.pt (pw_and (pt_cmpR op_eq (pv 6) pe_int (nomark _)) (pw_and1 (pt_cmpR (op_eqD hr.units) (pv 4) (pe_lst pa_nil) (nomark _)))))))))
            (pss_cons (ps_expr (pe_bm PySem.F.plainAttrs_list PySem.F.slot_list_append PySem.F.type_list_append mt_append (pv 3) (pa_cons (pe_tup (pa_cons pe_str (pa_cons (pv 7) pa_nil))) pa_nil)))
            (pss_one (ps_set (i := 4) scSteps.nd rfl (.inl rfl) (pe_ifExp (pt_cut (pt_cmpR (op_eqD hr.units) (pe_slice sl_list (pv 4) (po_some (pe_un un_neg pe_int)) po_none) (pe_lst (pa_cons (pv 7) pa_nil)) (nomark _))) (pe_slice sl_list (pv 4) po_none (po_some (pe_un un_neg pe_int))) (pv 4)))))
            (pss_cons (ps_expr (pe_bm PySem.F.plainAttrs_list PySem.F.slot_list_append PySem.F.type_list_append mt_append (pv 3) (pa_cons (pe_tup (pa_cons pe_str (pa_cons (pv 7) pa_nil))) pa_nil)))
            (pss_one (ps_expr (pe_bm PySem.F.plainAttrs_list PySem.F.slot_list_append PySem.F.type_list_append mt_append (pv 4) (pa_cons (pv 7) pa_nil)))))))))))
      ) (pss_one (ps_ret (pv 3)))), ?_⟩
    refine ⟨Nat.zero_le _, fun g hg => ⟨Nat.zero_le _, fun h0' hh => ⟨_, _, rfl, ?_⟩⟩⟩
    have gp : g ≠ p := hp.free hg
    have hh0 : H h0' = none := (Same.new hg).free hh
    have hgne : g ≠ h0' := ne_of_none upd_same hh
    have ofz : ∀ {hs : List Str}, (∀ z ∈ hs, z ∈ zs) → SeqAt.shaped (.list (hs.map PyData.str)) = true := fun {hs} q => (nice_list (nice_strs fun z m => hI z (q z m))).shaped (by decide)
    refine ⟨_, rfl, m, rfl, by omega, by omega, for_range (lo := 0) (n := m.toNat) (fun i σ H3 => ∃ (h : Addr) (xs : List V) (ss : List Stp) (hs : List Str) (y5 y6 y7 : Option V), σ = [some (.ref p), some (.ref l), some (.int m), some (.ref g), some (.ref h), y5, y6, y7] ∧ SI p l g h zs H H3 xs ss hs ∧ ss.length = i ∧ xs.length = i ∧ hs.length ≤ i) ?_ ?_ ?_⟩
    · refine ⟨h0', [], [], [], none, none, none, rfl, ⟨(But.of (Same.new hg)).free hh0, (hp.upd gp).upd (hp.free hh0), ?_, ?_, .nil, fun s q => (by cases q), upd_same, fun z q => (by cases q), lp, gp, hg, hp.free hh0, hh0, Ne.symm hgne, Ne.symm (ne_of_none hl hh0), ne_of_none hl hg⟩, rfl, rfl, Nat.le_refl _⟩
      · rw [upd_ne (ne_of_none hl hh0), upd_ne (ne_of_none hl hg)]
        exact hl
      · rw [upd_ne hgne]
        exact upd_same
    · rintro i σ H3 hi ⟨h, xs, ss, hs, y5, y6, y7, rfl, a, hsl, hxl, hhl⟩
      refine ⟨_, rfl, p, 8, rfl, a.pl, by decide, by decide, fun r H4 b4 p4 r0 r1 => ?_⟩
      have a4 := a.draw b4 p4
      have hzp : 0 < zs.length := List.length_pos_iff.mpr hne
      refine ⟨_, rfl, _, rfl, _, rfl, l, _, rfl, .inl (.of a4.it), p, _, rfl, a4.pl, ?_, ?_, fun r2 H5 b5 p5 s0 s1 => ?_⟩
      · rw [List.length_map]
        omega
      · rw [List.length_map]
        omega
      rw [List.length_map] at s1
      obtain ⟨z, zm, az⟩ := pick_str s0 s1
      have a5 := a4.draw b5 p5
      refine ⟨l, _, r2, _, rfl, rfl, .of a5.it, az, ?_⟩
      -- way < 3 and held != []
      refine ⟨fun b H6 => SI p l g h zs H H6 xs ss hs ∧ (b = true → hs ≠ []), ?_, ?_⟩
      · refine ⟨_, rfl, r, 3, rfl, rfl, _, rfl, ite2 (fun c => ?_) (fun c => ?_)⟩
        · refine ⟨_, rfl, Nat.zero_le _, fun q hq => ⟨.list (hs.map .str), .list (([] : List Str).map .str), .lst (.of (a5.new hq).hl) (dp_strs hs), .lst (.of upd_same) .nil, ofz a5.hz, ofz (fun z w => (by cases w)), _, rfl, a5.new hq, fun e => ?_⟩⟩
          rw [eqv_listS] at e
          intro z
          rw [z] at e
          exact absurd e (by decide)
        · exact ⟨a5, fun e => (by cases e)⟩
      rintro b H6 ⟨a6, hb⟩
      cases b with
      | true =>
        have hs0 : hs ≠ [] := hb rfl
        refine iteT ?_
        have hlast : (hs.map V.str)[(hs.map V.str).length - 1]? = some (.str (hs.getLast hs0)) := by
          rw [List.length_map, List.getElem?_map, ← List.getLast?_eq_getElem?, List.getLast?_eq_getLast hs0]
          rfl
        have hmem : hs.getLast hs0 ∈ zs := a6.hz _ (List.getLast_mem hs0)
        have a7 : SI p l g h zs H (upd H6 h (.lst (hs.dropLast.map V.str))) xs ss hs.dropLast := a6.hset fun z m => a6.hz z ((List.dropLast_sublist hs).subset m)
        refine ⟨.ref h, rfl, .inl ⟨rfl, _, .of a6.hl⟩, h, _, _, rfl, rfl, a6.hl, hlast, ?_⟩
        rw [← List.map_dropLast]
        refine ⟨.ref g, rfl, .inl ⟨rfl, _, .of a7.fl⟩, _, rfl, (by show 2 ≤ sizeLine; decide), fun t ht => ⟨g, _, _, rfl, rfl, (a7.new ht).fl, ?_, ?_⟩⟩
        · rw [hxl]
          exact small1000 (by omega)
        · refine ⟨h, _, ss ++ [(false, hs.getLast hs0)], _, _, _, _, rfl, (a7.new ht).app (c := false) upd_same hmem, ?_, ?_, ?_⟩
          · rw [List.length_append, hsl]
            rfl
          · rw [List.length_append, hxl]
            rfl
          · rw [List.length_dropLast]
            omega
      | false =>
        refine iteF ?_
        -- the other ways
        refine ⟨fun b H7 => SI p l g h zs H H7 xs ss hs, ?_, ?_⟩
        · refine ⟨_, rfl, rfl, _, rfl, ite2 (fun c => ?_) (fun c => ?_)⟩
          · exact a6
          · refine ⟨_, rfl, rfl, _, rfl, ite2 (fun c2 => ?_) (fun c2 => ?_)⟩
            · exact ⟨_, rfl, Nat.zero_le _, fun q hq => ⟨.list (hs.map .str), .list (([] : List Str).map .str), .lst (.of (a6.new hq).hl) (dp_strs hs), .lst (.of upd_same) .nil, ofz a6.hz, ofz (fun z w => (by cases w)), _, rfl, a6.new hq⟩⟩
            · exact a6
        rintro b H7 a7
        cases b with
        | true =>
          refine iteT ?_
          refine ⟨.ref g, rfl, .inl ⟨rfl, _, .of a7.fl⟩, _, rfl, (by show 2 ≤ sizeLine; decide), fun t ht => ⟨g, _, _, rfl, rfl, (a7.new ht).fl, ?_, ?_⟩⟩
          · rw [hxl]
            exact small1000 (by omega)
          have a8 := (a7.new ht).app (c := false) upd_same zm
          have fin : ∀ (v : Addr) (H9 : Hp) (ks : List Str), SI p l g v zs H H9 (xs ++ [.ref t]) (ss ++ [(false, z)]) ks → ks.length ≤ i → ∃ (h : Addr) (xs : List V) (ss : List Stp) (hs : List Str) (y5 y6 y7 : Option V), [some (.ref p), some (.ref l), some (.int m), some (.ref g), some (.ref v), some (.int (0 + i)), some (.int r), some (.str z)] = [some (V.ref p), some (.ref l), some (.int m), some (.ref g), some (.ref h), y5, y6, y7] ∧ SI p l g h zs H H9 xs ss hs ∧ ss.length = i + 1 ∧ xs.length = i + 1 ∧ hs.length ≤ i + 1 := by
            intro v H9 ks a9 kl
            refine ⟨v, _, _, ks, _, _, _, rfl, a9, ?_, ?_, by omega⟩
            · rw [List.length_append, hsl]
              rfl
            · rw [List.length_append, hxl]
              rfl
          refine ⟨fun b H8 => SI p l g h zs H H8 (xs ++ [.ref t]) (ss ++ [(false, z)]) hs, ?_, ?_⟩
          · refine ⟨_, rfl, 1, rfl, -1, rfl, h, _, rfl, .of a8.hl, fun q hq => ⟨_, rfl, (by show 1 ≤ sizeLine; decide), fun q2 hq2 => ?_⟩⟩
            have a9 := (a8.new hq (o := .lst (cutV (hs.map V.str) (some (-1)) none))).new hq2 (o := .lst [.str z])
            have ne2 : q ≠ q2 := ne_of_none upd_same hq2
            refine ⟨.list (((hs.drop (HT.sIx hs.length 0 (some (-1)))).take (HT.sIx hs.length hs.length none - HT.sIx hs.length 0 (some (-1)))).map .str), .list ([z].map .str), .lst (.of ?_) (dp_strs _), .lst (.of upd_same) (dp_strs [z]), ofz (fun y m => a8.hz y (cut_mem m)), ofz (fun y m => (by rw [List.mem_singleton.mp m]; exact zm)), _, rfl, a9⟩
            rw [upd_ne ne2, upd_same, cut_map]
          rintro b H8 a9
          cases b with
          | true =>
            refine iteT ?_
            refine ⟨_, rfl, 1, rfl, -1, rfl, h, _, rfl, .of a9.hl, fun q hq => ?_⟩
            rw [cut_map]
            refine fin q _ _ (a9.hnew hq fun y m => a9.hz y (cut_mem m)) ?_
            rw [List.length_take, List.length_drop]
            omega
          | false =>
            refine iteF ?_
            exact ⟨_, rfl, fin h H8 hs a9 hhl⟩
        | false =>
          refine iteF ?_
          refine ⟨.ref g, rfl, .inl ⟨rfl, _, .of a7.fl⟩, _, rfl, (by show 2 ≤ sizeLine; decide), fun t ht => ⟨g, _, _, rfl, rfl, (a7.new ht).fl, ?_, ?_⟩⟩
          · rw [hxl]
            exact small1000 (by omega)
          have a8 := (a7.new ht).app (c := true) upd_same zm
          refine ⟨.ref h, rfl, .inl ⟨rfl, _, .of a8.hl⟩, _, rfl, h, _, _, rfl, rfl, a8.hl, ?_, ?_⟩
          · rw [List.length_map]
            exact small1000 (by omega)
          · have a9 : SI p l g h zs H (upd _ h (.lst ((hs ++ [z]).map V.str))) (xs ++ [.ref t]) (ss ++ [(true, z)]) (hs ++ [z]) := a8.hset fun y m => by
              rcases List.mem_append.mp m with q | q
              · exact a8.hz y q
              · rw [List.mem_singleton.mp q]
                exact zm
            rw [List.map_append] at a9
            refine ⟨h, _, _, _, _, _, _, rfl, a9, ?_, ?_, ?_⟩
            · rw [List.length_append, hsl]
              rfl
            · rw [List.length_append, hxl]
              rfl
            · rw [List.length_append]
              show hs.length + 1 ≤ i + 1
              omega
    · rintro σ H3 ⟨h, xs, ss, hs, y5, y6, y7, rfl, a, hsl, hxl, hhl⟩
      exact ⟨_, rfl, k g xs ss H3 a.b a.pl hg a.fl a.st hsl a.sz⟩
end
end SE
namespace SE
open PySem PySem.Spec PyProof.Rows L2
/-! ### what is never reached; types -/
theorem pe_never {X : Cx} {e : Expr} : PE X e (fun _ _ _ => False) := ⟨fun _ _ _ _ _ _ h => h.elim⟩
theorem ty_tup {K : PySem.W.Frag} {H : Hp} {a : Addr} {xs : List V} (h : SqT K H a xs) : TyX K H (.ref a) (.type "tuple") := by
  rcases h with (h | ⟨o, h⟩) | ⟨o, its, n, h1, h2, _⟩
  · exact .base (.tup h)
  · exact .fTuple h
  · exact .kTuple h1 h2
theorem ty_lst {K : PySem.W.Frag} {H : Hp} {a : Addr} {xs : List V} (h : SqL K H a xs) : TyX K H (.ref a) (.type "list") := by
  rcases h with (h | ⟨o, h⟩) | ⟨o, its, n, h1, h2, _⟩
  · exact .base (.lst h)
  · exact .base (.frz h)
  · exact .kList h1 h2
theorem bl_snoc (n : Nat) : (List.replicate n true).map V.bl ++ [V.bl true] = (List.replicate (n + 1) true).map V.bl := by
  rw [List.replicate_succ', List.map_append]
  rfl
theorem all_true (n : Nat) : (List.replicate n true).all id = true := by
  rw [List.all_eq_true]
  intro b hb
  rw [(List.mem_replicate.mp hb).2]
  rfl
theorem abc_has {c : Nat} (h : 97 ≤ c ∧ c ≤ 122) : c ∈ abc.cps.toList := by
  have q : ∀ j : Fin 26, (97 + j.1) ∈ abc.cps.toList := by decide +kernel
  have z := q ⟨c - 97, by omega⟩
  have e : 97 + (c - 97) = c := by omega
  rw [← e]
  exact z
/-- the module's constants -/
structure Cons (K : PySem.W.Frag) (w : World) (mg : Str → Option Value) : Prop where
  let_ : ∃ t, mg "LETTERS" = some (.str abc t)
  ml : ∃ t, mg "MOST_LETTERS" = some (.int 8 t)
  ms : ∃ t, mg "MOST_STEPS" = some (.int 1000 t)
  opp : ∃ (d : Addr) (es : Array DictEntry) (n : Nat) (u v : Value), mg "OPPOSITES" = some (.ref d) ∧ KDict K w d es n ∧ PySem.W.nsIn K d "push" = some (some u) ∧ RelV (.str "pop") u ∧ PySem.W.nsIn K d "pop" = some (some v) ∧ RelV (.str "push") v
/-- built-in names that the module leaves as they are -/
structure Blt (mg : Str → Option Value) : Prop where
  isi : mg "isinstance" = none
  str : mg "str" = none
  len : mg "len" = none
  all : mg "all" = none
  tup : mg "tuple" = none
  lst : mg "list" = none
  enu : mg "enumerate" = none
section
variable {P : Program} {w : World} {K : PySem.W.Frag} {mg : Str → Option Value} {base : Heap}
/-! ### is_item -/
def spIsItem : Sp := fun xs H Q _ => ∃ (z : Str), xs = [.str z] ∧ Item z ∧ ∀ H', Same H H' → Q (.bl true) H'
theorem scIsItem : FnScope ["value", "letter"] ["value"] (defScope sIsItem) := ⟨rfl, rfl, rfl, by decide +kernel, rfl, by decide +kernel, by decide +kernel⟩
theorem has_isItem (D : Def K mg "is_item" sIsItem) (B : Blt mg) (C : Cons K w mg) : Has P w K mg base "is_item" 1 ["value"] [] spIsItem := by
  obtain ⟨tl, hL⟩ := C.let_
  obtain ⟨tm, hM⟩ := C.ml
  refine has_of D scIsItem (fun _ _ _ _ _ _ us hl => match us, hl with | [_], _ => rfl) (fun xs H Q E h => ?_) (fun f cv A out s H xs Q E hr h => ?_)
  · obtain ⟨z, rfl, _⟩ := h
    rfl
  · obtain ⟨z, rfl, iz, k⟩ := h
    refine ⟨_, pss_cons (ps_if (PW.pt (pw_or (pt_not (pt_val (pe_callB call_isi (by rfl) B.isi (by decide +kernel) (pa_cons (pv 0) (pa_cons (pe_bltn (v := .ty "str") (by rfl) B.str (by decide +kernel) rfl) pa_nil)))))
        (pw_or1 (pt_not (pt_chain op_le op_le pe_int (pe_callB call_len_str (by rfl) B.len PySem.boot_len (pa_cons (pv 0) pa_nil)) (pe_glob (v := .int 8) rfl hM ⟨_, rfl⟩)))))) (pss_one (ps_ret pe_bl)) pss_nil)
      (pss_one (ps_ret (pe_callB (cr_all rfl) (by rfl) B.all (by decide +kernel) (pa_cons
        (pe_lc (own := [("letter", 1)]) (g := gName 1) (tt := tYes) rfl scIsItem.nd (pi_str (pv 0)) (blkOk_by (own := [("letter", 1)]) (N := ["value", "letter"]) (sc := defScope sIsItem) (by decide +kernel))
          (fun _ _ _ _ _ => pg_name (i := 1) scIsItem.nd rfl (.inl rfl)) (fun _ _ _ _ _ => pts_nil) (fun _ _ _ _ _ => pe_cmpR op_in_sign (pv 1) (pe_glob (v := .str abc) rfl hL ⟨_, rfl⟩) (by rfl))) pa_nil)))), ?_⟩
    refine ⟨_, rfl, _, .ty "str", .type "str", .type "str", true, rfl, .ty _, .base (.str z), kit_ty (by decide +kernel), true, rfl, iteF ?_⟩
    have p1 : (1 : Int) ≤ (z.length : Int) := by have := iz.pos; omega
    have p2 : (z.length : Int) ≤ 8 := by have := iz.most; omega
    refine ⟨_, rfl, z, rfl, Nat.le_of_lt (small1000 (by have := iz.most; omega)), 1, _, rfl, rfl, true, congrArg V.bl (decide_eq_true p1), iteT ⟨_, 8, rfl, rfl, true, congrArg V.bl (decide_eq_true p2), iteF ?_⟩⟩
    refine ⟨_, rfl, z, rfl, fun D hD => lc_it walk_str (fun j H2 => H2 D = some (.lst ((List.replicate j true).map V.bl)) ∧ Same H H2) ⟨upd_same, Same.new hD⟩ (fun _ _ _ _ => trivial) ?_ ?_⟩
    · rintro j x H2 H3 hj ⟨h2, s2⟩ ⟨rfl, c, hc, rfl⟩
      refine ⟨rfl, yes_in ⟨_, rfl, c, abc, rfl, rfl, _, h2, ?_, ?_, ?_⟩⟩
      · rw [List.length_map, List.length_replicate]
        have : j < z.length := hj
        have := iz.most
        exact small1000 (by omega)
      · have cm : c ∈ z.cps.toList := by
          have q : z.cps.toList[j]? = some c := by rw [Array.getElem?_toList]; exact hc
          exact List.mem_of_getElem? q
        rw [upd_same, decide_eq_true (abc_has (iz.low c cm)), bl_snoc]
      · exact Same.free2 s2 hD
    · rintro H2 ⟨h2, s2⟩
      refine ⟨D, _, rfl, .of h2, ?_⟩
      rw [all_true]
      exact k H2 s2
/-! ### is_word -/
def spIsWord (K : PySem.W.Frag) : Sp := fun xs H Q _ => ∃ (a : Addr) (zs : List Str), xs = [.ref a] ∧ SqT K H a (zs.map V.str) ∧ zs.length ≤ 5000 ∧ (∀ z ∈ zs, Item z) ∧ ∀ H', Same H H' → Q (.bl true) H'
theorem scIsWord : FnScope ["value", "item"] ["value"] (defScope sIsWord) := ⟨rfl, rfl, rfl, by decide +kernel, rfl, by decide +kernel, by decide +kernel⟩
theorem has_isWord (D : Def K mg "is_word" sIsWord) (G : Has P w K mg base "is_item" 1 ["value"] [] spIsItem) (B : Blt mg) : Has P w K mg base "is_word" 2 ["value"] [] (spIsWord K) := by
  refine has_of D scIsWord (fun _ _ _ _ _ _ us hl => match us, hl with | [_], _ => rfl) (fun xs H Q E h => ?_) (fun f cv A out s H xs Q E hr h => ?_)
  · obtain ⟨a, zs, rfl, _⟩ := h
    rfl
  · obtain ⟨a, zs, rfl, hT, hz, hI, k⟩ := h
    refine ⟨_, pss_one (ps_ret (pe_and (pe_callB call_isi (by rfl) B.isi (by decide +kernel) (pa_cons (pv 0) (pa_cons (pe_bltn (v := .ty "tuple") (by rfl) B.tup (by decide +kernel) rfl) pa_nil)))
      (pe_one (pe_callB (cr_all rfl) (by rfl) B.all (by decide +kernel) (pa_cons
        (pe_lc (own := [("item", 1)]) (g := gName 1) (tt := tYes) (te := tCall spIsItem [] E0 (tCons (tVar 1) tNil)) rfl scIsWord.nd (pi_tup (pv 0)) (blkOk_by (own := [("item", 1)]) (N := ["value", "item"]) (sc := defScope sIsWord) (by decide +kernel))
          (fun _ _ _ _ _ => pg_name (i := 1) scIsWord.nd rfl (.inl rfl)) (fun _ _ _ _ _ => pts_nil) (fun _ _ _ _ _ => pe_has G hr (pa_cons (pv 1) pa_nil))) pa_nil))))), ?_⟩
    refine ⟨_, rfl, _, .ty "tuple", .type "tuple", .type "tuple", true, rfl, .ty _, ty_tup hT, kit_ty (by decide +kernel), true, rfl, iteT ?_⟩
    refine ⟨_, rfl, a, rfl, ⟨_, hT⟩, fun D hD => lc_tup (K := K) (a := a) (xs := zs.map V.str) (fun j H2 => H2 D = some (.lst ((List.replicate j true).map V.bl)) ∧ Same H H2) ⟨upd_same, Same.new hD⟩ (fun _ _ _ q => Same.tup q.2 hT) ?_ ?_⟩
    · rintro j x H2 hj ⟨h2, s2⟩
      have jl : j < zs.length := by
        have := (List.getElem?_eq_some_iff.mp hj).1
        rwa [List.length_map] at this
      rw [List.getElem?_map, List.getElem?_eq_getElem jl] at hj
      have e := Option.some.inj hj
      subst e
      refine ⟨rfl, yes_in ⟨_, rfl, zs[j], rfl, hI _ (List.getElem_mem jl), fun H3 s3 => ⟨_, s3 _ _ h2, ?_, ?_, ?_⟩⟩⟩
      · rw [List.length_map, List.length_replicate]
        exact Nat.lt_of_lt_of_le jl (Nat.le_trans hz (by decide))
      · rw [upd_same, bl_snoc]
      · exact Same.free2 (s2.trans s3) hD
    · rintro H2 ⟨h2, s2⟩
      refine ⟨D, _, rfl, .of h2, ?_⟩
      rw [all_true]
      exact k H2 s2
/-! ### is_step -/
def spIsStep (K : PySem.W.Frag) : Sp := fun xs H Q _ => ∃ (v : V) (s : Stp), xs = [v] ∧ StepV K H v s ∧ Item s.2 ∧ ∀ H', Same H H' → Q (.bl true) H'
theorem scIsStep : FnScope ["value", "action", "item"] ["value"] (defScope sIsStep) := ⟨rfl, rfl, rfl, by decide +kernel, rfl, by decide +kernel, by decide +kernel⟩
theorem has_isStep (D : Def K mg "is_step" sIsStep) (G : Has P w K mg base "is_item" 1 ["value"] [] spIsItem) (B : Blt mg) (C : Cons K w mg) : Has P w K mg base "is_step" 2 ["value"] [] (spIsStep K) := by
  obtain ⟨d, es, n, u1, u2, hO, KD, n1, r1, n2, r2⟩ := C.opp
  refine has_of D scIsStep (fun _ _ _ _ _ _ us hl => match us, hl with | [_], _ => rfl) (fun xs H Q E h => ?_) (fun f cv A out s H xs Q E hr h => ?_)
  · obtain ⟨v, st, rfl, _⟩ := h
    rfl
  · obtain ⟨v, st, rfl, ⟨t, rfl, hT⟩, iz, k⟩ := h
    refine ⟨_, pss_cons (ps_if (PW.pt (pw_or (pt_not (pt_val (pe_callB call_isi (by rfl) B.isi (by decide +kernel) (pa_cons (pv 0) (pa_cons (pe_bltn (v := .ty "tuple") (by rfl) B.tup (by decide +kernel) rfl) pa_nil)))))
        (pw_or1 (pt_cmpR op_ne (pe_callB call_len_seq (by rfl) B.len PySem.boot_len (pa_cons (pv 0) pa_nil)) pe_int (nomark _))))) (pss_one (ps_ret pe_bl)) pss_nil)
      (pss_cons (ps_asg (pv 0) (pg_tup (by rfl) (pgs_cons (pg_name (i := 1) scIsStep.nd rfl (.inl rfl)) (pgs_cons (pg_name (i := 2) scIsStep.nd rfl (.inl rfl)) pgs_nil))))
      (pss_one (ps_ret (pe_and (pe_callB call_isi (by rfl) B.isi (by decide +kernel) (pa_cons (pv 1) (pa_cons (pe_bltn (v := .ty "str") (by rfl) B.str (by decide +kernel) rfl) pa_nil)))
        (pe_and (pe_cmpR (op_in_kd KD) (pv 1) (pe_glob (v := .ref d) rfl hO rfl) (by rfl)) (pe_one (pe_has G hr (pa_cons (pv 2) pa_nil)))))))), ?_⟩
    refine ⟨_, rfl, _, .ty "tuple", .type "tuple", .type "tuple", true, rfl, .ty _, ty_tup hT, kit_ty (by decide +kernel), true, rfl, iteF ?_⟩
    refine ⟨_, rfl, t, _, rfl, .inr hT, rfl, _, rfl, iteF ?_⟩
    refine ⟨_, rfl, t, _, rfl, hT, rfl, _, _, rfl, _, _, rfl, rfl, ?_⟩
    refine ⟨_, rfl, _, .ty "str", .type "str", .type "str", true, rfl, .ty _, .base (.str _), kit_ty (by decide +kernel), true, rfl, iteT ?_⟩
    have inO : ∃ r, PySem.W.nsIn K d (act st.1) = some r ∧ r.isSome = true := by
      cases e : st.1 with
      | true => exact ⟨some u1, n1, rfl⟩
      | false => exact ⟨some u2, n2, rfl⟩
    obtain ⟨r, hr1, hr2⟩ := inO
    refine ⟨_, rfl, act st.1, r, rfl, rfl, hr1, r.isSome, rfl, ?_⟩
    rw [hr2]
    exact iteT ⟨_, rfl, st.2, rfl, iz, k⟩
end
end SE
namespace SE
open PySem PySem.Spec PyProof.Rows L2
theorem scMay : FnScope ["value"] ["value"] (defScope sMayHold) := ⟨rfl, rfl, rfl, by decide +kernel, rfl, by decide +kernel, by decide +kernel⟩
end SE
/-! Plain data in which empty dicts may stand: its kinds, ==, in, and repr of every kind. -/
namespace SE
open PySem PySem.Spec PyProof.Rows L2
mutual
inductive DpX (K : PySem.W.Frag) (H : Hp) : V → PyData → Prop
  | non : DpX K H .non .none
  | bl (b : Bool) : DpX K H (.bl b) (.bool b)
  | int (i : Int) : DpX K H (.int i) (.int i)
  | str (x : Str) : DpX K H (.str x) (.str x)
  | lst {a : Addr} {xs : List V} {ds : List PyData} : SqL K H a xs → DpXs K H xs ds → DpX K H (.ref a) (.list ds)
  | tup {a : Addr} {xs : List V} {ds : List PyData} : SqT K H a xs → DpXs K H xs ds → DpX K H (.ref a) (.tuple ds)
  | emp {a : Addr} : H a = some (.dK []) → DpX K H (.ref a) (.dict [])
inductive DpXs (K : PySem.W.Frag) (H : Hp) : List V → List PyData → Prop
  | nil : DpXs K H [] []
  | cons {v : V} {vs : List V} {d : PyData} {ds : List PyData} : DpX K H v d → DpXs K H vs ds → DpXs K H (v :: vs) (d :: ds)
end
section
variable {K : PySem.W.Frag} {H H' : Hp}
mutual
theorem DpX.same (s : Same H H') : ∀ (d : PyData) (v : V), DpX K H v d → DpX K H' v d
  | .none, _, h => by cases h; exact .non
  | .bool b, _, h => by cases h; exact .bl b
  | .int i, _, h => by cases h; exact .int i
  | .str x, _, h => by cases h; exact .str x
  | .list ds, _, h => by
    cases h with
    | lst a b => exact .lst (Same.seq s a) (DpXs.same s ds _ b)
  | .tuple ds, _, h => by
    cases h with
    | tup a b => exact .tup (Same.tup s a) (DpXs.same s ds _ b)
  | .dict kvs, _, h => by
    cases h with
    | emp a => exact .emp (s _ _ a)
theorem DpXs.same (s : Same H H') : ∀ (ds : List PyData) (vs : List V), DpXs K H vs ds → DpXs K H' vs ds
  | [], _, h => by cases h; exact .nil
  | d :: ds, _, h => by
    cases h with
    | cons a b => exact .cons (DpX.same s d _ a) (DpXs.same s ds _ b)
end
theorem DpXs.at : ∀ {vs : List V} {ds : List PyData} {i : Nat} {v : V}, DpXs K H vs ds → vs[i]? = some v → ∃ d, ds[i]? = some d ∧ DpX K H v d
  | _, _, 0, v, .cons a b, h => by cases h; exact ⟨_, rfl, a⟩
  | _, _, i + 1, v, .cons a b, h => by
    obtain ⟨d, h1, h2⟩ := DpXs.at b h
    exact ⟨d, h1, h2⟩
theorem DpXs.len : ∀ {vs : List V} {ds : List PyData}, DpXs K H vs ds → vs.length = ds.length
  | _, _, .nil => rfl
  | _, _, .cons a b => by rw [List.length_cons, List.length_cons, DpXs.len b]
end
section
variable {X : Cx} {pins : List (Addr × Obj)} {σ : L2.St} {H : Hp} {s : Shared}
theorem emp_obj (I : Inv X pins σ H s) {a : Addr} (e : H a = some (.dK [])) : (a == sysModules) = false ∧ ∃ o n, s.heap.get? a = some o ∧ o.cls = .type "dict" ∧ o.data = .dict #[] n := by
  obtain ⟨_, hd, vs, rel, o, es, ep, h1, h2, h3, h4, h5, h6⟩ := dk_of I.hok e
  cases rel
  have : es = #[] := by
    have q : es.toList = [] := by
      cases hq : es.toList with
      | nil => rfl
      | cons x r => rw [hq] at h5; cases h5
    exact Array.toList_eq_nil_iff.mp q
  subst this
  exact ⟨hd, o, ep, h1, h2.1, h3⟩
mutual
theorem DpX.reads (I : Inv X pins σ H s) : ∀ (d : PyData) (v : V) (u : Value), DpX X.K H v d → RelV v u → ∃ as, Reads s.heap u d as
  | .none, _, _, h, r => by
    cases h
    cases r
    exact ⟨_, Reads.none⟩
  | .bool b, _, _, h, r => by
    cases h
    cases r
    exact ⟨_, Reads.bool b⟩
  | .int i, _, _, h, r => by
    cases h
    obtain ⟨t, rfl⟩ := r
    exact ⟨_, Reads.int i t⟩
  | .str x, _, _, h, r => by
    cases h
    obtain ⟨t, rfl⟩ := r
    exact ⟨_, Reads.str x t⟩
  | .list ds, _, _, h, r => by
    cases h with
    | lst hs ha =>
      cases r
      obtain ⟨its, rv, ⟨o, n, ho, hc, _, hd⟩, _⟩ := I.list hs
      obtain ⟨as, hr⟩ := DpXs.reads I ds _ its ha rv
      exact ⟨_, Reads.list ho hc hd hr⟩
  | .tuple ds, _, _, h, r => by
    cases h with
    | tup hs ha =>
      cases r
      obtain ⟨its, rv, ⟨o, ho, hc, n, hd⟩, _⟩ := I.tuple hs
      obtain ⟨as, hr⟩ := DpXs.reads I ds _ its ha rv
      exact ⟨_, Reads.tuple ho hc hd hr⟩
  | .dict _, _, _, h, r => by
    cases h with
    | emp e =>
      cases r
      obtain ⟨_, o, n, h1, h2, h3⟩ := emp_obj I e
      exact ⟨_, Reads.dict (kvs := []) h1 h2 h3 .nil .nil⟩
theorem DpXs.reads (I : Inv X pins σ H s) : ∀ (ds : List PyData) (vs : List V) (us : List Value), DpXs X.K H vs ds → Vals vs us → ∃ as, ReadsAll s.heap us ds as
  | [], _, _, h, r => by
    cases h
    cases r
    exact ⟨_, ReadsAll.nil⟩
  | d :: ds, _, _, h, r => by
    cases h with
    | cons h1 h2 =>
      cases r with
      | cons r1 r2 =>
        obtain ⟨as, q1⟩ := DpX.reads I d _ _ h1 r1
        obtain ⟨bs, q2⟩ := DpXs.reads I ds _ _ h2 r2
        exact ⟨_, ReadsAll.cons q1 q2⟩
end
mutual
theorem DpX.reprK (I : Inv X pins σ H s) : ∀ (d : PyData) (v : V) (u : Value), DpX X.K H v d → RelV v u → d.showable = true → d.shown.length ≤ sizeLine → ∃ bs, ReadAtMost s.heap d.depth bs ∧ ReprK X.prog X.w bs s.heap d.depth u d.shown
  | .none, _, _, h, r, _, _ => by
    cases h
    cases r
    exact ⟨[], (fun _ h => nomatch h), by simp only [PyData.shown]; exact .of_is ReprIs.none _ _ _⟩
  | .bool b, _, _, h, r, _, _ => by
    cases h
    cases r
    exact ⟨[], (fun _ h => nomatch h), by simp only [PyData.shown]; exact .of_is (ReprIs.bool b) _ _ _⟩
  | .int i, _, _, h, r, hs, _ => by
    cases h
    obtain ⟨t, rfl⟩ := r
    exact ⟨[], (fun _ h => nomatch h), by simp only [PyData.shown]; exact .of_is (ReprIs.int t (by simpa [PyData.showable] using hs)) _ _ _⟩
  | .str x, _, _, h, r, _, hz => by
    cases h
    obtain ⟨t, rfl⟩ := r
    exact ⟨[], (fun _ h => nomatch h), by simp only [PyData.shown]; exact .of_is (ReprIs.str x t (by simpa only [PyData.shown] using hz)) _ _ _⟩
  | .list ds, _, _, h, r, hs, hz => by
    cases h with
    | @lst a xs _ hs' ha =>
      cases r
      obtain ⟨its, rv, ⟨o, n, ho, hc, _, hd⟩, _⟩ := I.list hs'
      obtain ⟨as, hr⟩ := DpXs.reads I ds _ its ha rv
      have hz' : (listText (PyData.shownAll ds)).length ≤ sizeLine := by simpa only [PyData.shown] using hz
      obtain ⟨bs, hb, hk⟩ := DpXs.reprK I ds _ its ha rv (by simpa [PyData.showable] using hs) (fun t ht => Nat.le_trans (listText_mem_le ht) hz')
      have rr : Reads s.heap (.ref a) (.list ds) _ := .list ho hc hd hr
      have hna : a ∉ bs := not_mem_of_deeper rr (by simp only [PyData.depth]; omega) hb
      refine ⟨a :: bs, ReadAtMost.cons rr (by simp only [PyData.depth]; omega) hb, ?_⟩
      simp only [PyData.depth, PyData.shown]
      cases its with
      | nil =>
        cases hr
        simp only [PyData.shownAll, listText_nil]
        exact ReprK.listEmpty ho hc hd
      | cons x l => exact ReprK.list ho hc hd hna (by simpa using hk.length_eq) (fun i y e => hk.item i y (by simpa using e))
  | .tuple ds, _, _, h, r, hs, hz => by
    cases h with
    | @tup a xs _ hs' ha =>
      cases r
      obtain ⟨its, rv, ⟨o, ho, hc, n, hd⟩, _⟩ := I.tuple hs'
      obtain ⟨as, hr⟩ := DpXs.reads I ds _ its ha rv
      have hz' : (tupleText (PyData.shownAll ds)).length ≤ sizeLine := by simpa only [PyData.shown] using hz
      obtain ⟨bs, hb, hk⟩ := DpXs.reprK I ds _ its ha rv (by simpa [PyData.showable] using hs) (fun t ht => Nat.le_trans (tupleText_mem_le ht) hz')
      have rr : Reads s.heap (.ref a) (.tuple ds) _ := .tuple ho hc hd hr
      have hna : a ∉ bs := not_mem_of_deeper rr (by simp only [PyData.depth]; omega) hb
      refine ⟨a :: bs, ReadAtMost.cons rr (by simp only [PyData.depth]; omega) hb, ?_⟩
      simp only [PyData.depth, PyData.shown]
      exact ReprK.tuple ho hc hd hna hk
  | .dict _, _, _, h, r, _, hz => by
    cases h with
    | @emp a e =>
      cases r
      obtain ⟨hsys, o, n, h1, h2, h3⟩ := emp_obj I e
      have rr : Reads s.heap (.ref a) (.dict []) _ := .dict (kvs := []) h1 h2 h3 .nil .nil
      have h0 : ReadAtMost s.heap 0 [] := fun _ h => nomatch h
      refine ⟨[a], ReadAtMost.cons rr (by simp only [PyData.depth]; omega) h0, ?_⟩
      simp only [PyData.depth, PyData.shown, PyData.depthKv, PyData.shownKv]
      exact ReprK.dict h1 h2 h3 hsys (by simp) .nil
theorem DpXs.reprK (I : Inv X pins σ H s) : ∀ (ds : List PyData) (vs : List V) (us : List Value), DpXs X.K H vs ds → Vals vs us → PyData.showableAll ds = true → (∀ t ∈ PyData.shownAll ds, t.length ≤ sizeLine) →
    ∃ bs, ReadAtMost s.heap (PyData.depthAll ds) bs ∧ ReprAllK X.prog X.w bs s.heap (PyData.depthAll ds) us (PyData.shownAll ds)
  | [], _, _, h, r, _, _ => by
    cases h
    cases r
    exact ⟨[], (fun _ h => nomatch h), by simp only [PyData.shownAll]; exact .nil⟩
  | d :: ds, _, _, h, r, hs, hz => by
    cases h with
    | cons h1 h2 =>
      cases r with
      | cons r1 r2 =>
        have hs' : d.showable = true ∧ PyData.showableAll ds = true := by simpa [PyData.showableAll] using hs
        obtain ⟨b1, hb1, k1⟩ := DpX.reprK I d _ _ h1 r1 hs'.1 (hz _ (by simp only [PyData.shownAll]; exact List.mem_cons_self ..))
        obtain ⟨b2, hb2, k2⟩ := DpXs.reprK I ds _ _ h2 r2 hs'.2 (fun t ht => hz t (by simp only [PyData.shownAll]; exact List.mem_cons_of_mem _ ht))
        refine ⟨b1 ++ b2, ?_, ?_⟩
        · intro b hm
          simp only [PyData.depthAll]
          rcases List.mem_append.mp hm with hm | hm
          · obtain ⟨d', as', r', hd'⟩ := hb1 b hm
            exact ⟨d', as', r', Nat.le_trans hd' (Nat.le_max_left _ _)⟩
          · obtain ⟨d', as', r', hd'⟩ := hb2 b hm
            exact ⟨d', as', r', Nat.le_trans hd' (Nat.le_max_right _ _)⟩
        · simp only [PyData.depthAll, PyData.shownAll]
          exact .cons ((k1.more fun b hb => List.mem_append_left _ hb).level_le (Nat.le_max_left _ _)) (k2.more_le (fun b hb => List.mem_append_right _ hb) (Nat.le_max_right _ _))
end
end
section
variable {X : Cx}
def rEqX (K : PySem.W.Frag) : R2 := fun x y H Q => ∃ d e, DpX K H x d ∧ DpX K H y e ∧ SeqAt.shaped d = true ∧ SeqAt.shaped e = true ∧ Q (.bl (PyData.eqv d e)) H
def rNeX (K : PySem.W.Frag) : R2 := fun x y H Q => ∃ d e, DpX K H x d ∧ DpX K H y e ∧ SeqAt.shaped d = true ∧ SeqAt.shaped e = true ∧ Q (.bl (!PyData.eqv d e)) H
def rInX (K : PySem.W.Frag) : R2 := fun x y H Q => ∃ d ds, DpX K H x d ∧ DpX K H y (.list ds) ∧ SeqAt.shaped d = true ∧ SeqAt.shaped (.list ds) = true ∧ Q (.bl (ds.any fun z => PyData.eqv z d)) H
theorem op_eqX (hu : X.A.units + 64 < cLine) : OpR X (compareOp .Eq) (rEqX X.K) := by
  intro pins s σ H x y v u Q I rx ry h
  obtain ⟨d, e, hd, he, sd, se, q⟩ := h
  obtain ⟨as, r1⟩ := DpX.reads I d x v hd rx
  obtain ⟨bs, r2⟩ := DpX.reads I e y u he ry
  exact SeqAt.compareEq_shaped r1 r2 sd se hu ⟨.bl _, H, I, rfl, q⟩
theorem op_neX (hu : X.A.units + 64 < cLine) : OpR X (compareOp .NotEq) (rNeX X.K) := by
  intro pins s σ H x y v u Q I rx ry h
  obtain ⟨d, e, hd, he, sd, se, q⟩ := h
  obtain ⟨as, r1⟩ := DpX.reads I d x v hd rx
  obtain ⟨bs, r2⟩ := DpX.reads I e y u he ry
  exact SeqAt.compareNe_shaped r1 r2 sd se hu ⟨.bl _, H, I, rfl, q⟩
theorem op_inX (hu : X.A.units + 65 < cLine) : OpR X (compareOp .In) (rInX X.K) := by
  intro pins s σ H x y v u Q I rx ry h
  obtain ⟨d, ds, hd, he, sd, se, q⟩ := h
  obtain ⟨as, r1⟩ := DpX.reads I d x v hd rx
  obtain ⟨bs, r2⟩ := DpX.reads I (.list ds) y u he ry
  exact SeqAt.in_list_reads r2 r1 (SeqAt.canLay_of_shaped se) (SeqAt.canLay_of_shaped sd) (room_in_shaped sd hu) ⟨.bl _, H, I, rfl, q⟩
/-- the kind of such data -/
def tyD : PyData → String
  | .none => "NoneType"
  | .bool _ => "bool"
  | .int _ => "int"
  | .str _ => "str"
  | .list _ => "list"
  | .tuple _ => "tuple"
  | .dict _ => "dict"
theorem DpX.ty {K : PySem.W.Frag} {H : Hp} {v : V} {d : PyData} (h : DpX K H v d) : TyX K H v (.type (tyD d)) := by
  cases h with
  | non => exact .base .non
  | bl b => exact .base (.bl b)
  | int i => exact .base (.int i)
  | str x => exact .base (.str x)
  | lst h _ =>
    rcases h with (h | ⟨o, h⟩) | ⟨o, its, n, h1, h2, _⟩
    · exact .base (.lst h)
    · exact .base (.frz h)
    · exact .kList h1 h2
  | tup h _ =>
    rcases h with (h | ⟨o, h⟩) | ⟨o, its, n, h1, h2, _⟩
    · exact .base (.tup h)
    · exact .fTuple h
    · exact .kTuple h1 h2
  | emp h => exact .base (.dK h)
def isStr : PyData → Bool
  | .str _ => true
  | _ => false
def isTup : PyData → Bool
  | .tuple _ => true
  | _ => false
def isLst : PyData → Bool
  | .list _ => true
  | _ => false
theorem kit_str {K : PySem.W.Frag} : ∀ d : PyData, PySem.W.kitOne K (.type (tyD d)) (.type "str") = some (isStr d)
  | .none => kit_ty (show kitB "NoneType" "str" = some false by decide +kernel)
  | .bool _ => kit_ty (show kitB "bool" "str" = some false by decide +kernel)
  | .int _ => kit_ty (show kitB "int" "str" = some false by decide +kernel)
  | .str _ => kit_ty (show kitB "str" "str" = some true by decide +kernel)
  | .list _ => kit_ty (show kitB "list" "str" = some false by decide +kernel)
  | .tuple _ => kit_ty (show kitB "tuple" "str" = some false by decide +kernel)
  | .dict _ => kit_ty (show kitB "dict" "str" = some false by decide +kernel)
theorem kit_tup {K : PySem.W.Frag} : ∀ d : PyData, PySem.W.kitOne K (.type (tyD d)) (.type "tuple") = some (isTup d)
  | .none => kit_ty (show kitB "NoneType" "tuple" = some false by decide +kernel)
  | .bool _ => kit_ty (show kitB "bool" "tuple" = some false by decide +kernel)
  | .int _ => kit_ty (show kitB "int" "tuple" = some false by decide +kernel)
  | .str _ => kit_ty (show kitB "str" "tuple" = some false by decide +kernel)
  | .list _ => kit_ty (show kitB "list" "tuple" = some false by decide +kernel)
  | .tuple _ => kit_ty (show kitB "tuple" "tuple" = some true by decide +kernel)
  | .dict _ => kit_ty (show kitB "dict" "tuple" = some false by decide +kernel)
theorem kit_lst {K : PySem.W.Frag} : ∀ d : PyData, PySem.W.kitOne K (.type (tyD d)) (.type "list") = some (isLst d)
  | .none => kit_ty (show kitB "NoneType" "list" = some false by decide +kernel)
  | .bool _ => kit_ty (show kitB "bool" "list" = some false by decide +kernel)
  | .int _ => kit_ty (show kitB "int" "list" = some false by decide +kernel)
  | .str _ => kit_ty (show kitB "str" "list" = some false by decide +kernel)
  | .list _ => kit_ty (show kitB "list" "list" = some true by decide +kernel)
  | .tuple _ => kit_ty (show kitB "tuple" "list" = some false by decide +kernel)
  | .dict _ => kit_ty (show kitB "dict" "list" = some false by decide +kernel)
/-- repr(x), x such data of any kind -/
def rRepX (K : PySem.W.Frag) : List V → Hp → VK → Prop := fun xs H Q => ∃ (x : V) (d : PyData), xs = [x] ∧ DpX K H x d ∧ d.showable = true ∧ d.depth ≤ 20 ∧ d.shown.length ≤ sizeLine ∧ Q (.str d.shown) H
theorem call_repX (hgu : X.A.guards = some []) (hu : X.A.units + 64 < cLine) : CallR X (.builtin "repr") (rRepX X.K) := by
  intro pins s σ H xs us Q I r h
  obtain ⟨x, d, rfl, hd, hs, hdep, hz, q⟩ := h
  cases r with
  | cons r1 r2 =>
    cases r2
    rename_i u
    cases hd with
    | non =>
      cases r1
      simp only [PyData.shown] at q
      exact PySem.P.repr_of_none ⟨.str _, H, I.tok _, ⟨_, rfl⟩, q⟩
    | bl b =>
      cases r1
      simp only [PyData.shown] at q
      exact PySem.P.repr_of_bool ⟨.str _, H, I.tok _, ⟨_, rfl⟩, q⟩
    | int i =>
      obtain ⟨t, rfl⟩ := r1
      simp only [PyData.shown] at q
      exact PySem.P.repr_of_int (by simpa [PyData.showable] using hs) ⟨.str _, H, I.tok _, ⟨_, rfl⟩, q⟩
    | str z =>
      obtain ⟨t, rfl⟩ := r1
      simp only [PyData.shown] at q hz
      exact PySem.P.repr_of_str ⟨.str _, H, I.tok _, ⟨_, rfl⟩, q⟩ hz
    | @lst a xs ds hs' ha =>
      cases r1
      obtain ⟨its, rv, ⟨o, n, ho, hc, _, hdd⟩, _⟩ := I.list hs'
      obtain ⟨as, hr⟩ := DpXs.reads I ds _ its ha rv
      have hz' : (listText (PyData.shownAll ds)).length ≤ sizeLine := by simpa only [PyData.shown] using hz
      obtain ⟨bs, hb, hk⟩ := DpXs.reprK I ds _ its ha rv (by simpa [PyData.showable] using hs) (fun t ht => Nat.le_trans (listText_mem_le ht) hz')
      have rr : Reads s.heap (.ref a) (.list ds) _ := .list ho hc hdd hr
      have hna : a ∉ bs := not_mem_of_deeper rr (by simp only [PyData.depth]; omega) hb
      simp only [PyData.depth] at hdep
      simp only [PyData.shown] at q
      refine call_repr_slot (T := "list") (by omega) ⟨o, ho, hc⟩ PySem.F.slot_list_repr.toG ?_
      cases its with
      | nil =>
        cases hr
        simp only [PyData.shownAll, listText_nil] at q
        exact call_list_repr_empty ⟨o, ho, hc⟩ ho hdd ⟨_, _, rfl, .str _, H, I.tok _, ⟨_, rfl⟩, q⟩
      | cons y l =>
        exact call_list_reprK ho hc hdd hna (by simpa using hk.length_eq) (fun i y e => hk.item i y (by simpa using e)) (A := X.A.in1) hgu (fun b _ => Clear.nil b) (by show X.A.units + 1 + _ < cLine; omega) (fun _ _ z => z) (fun h' u tk keep => ⟨_, _, rfl, .str _, H, I.kept (t' := tk) keep, ⟨_, rfl⟩, q⟩) hz'
    | @tup a xs ds hs' ha =>
      cases r1
      obtain ⟨its, rv, ⟨o, ho, hc, n, hdd⟩, _⟩ := I.tuple hs'
      obtain ⟨as, hr⟩ := DpXs.reads I ds _ its ha rv
      have hz' : (tupleText (PyData.shownAll ds)).length ≤ sizeLine := by simpa only [PyData.shown] using hz
      obtain ⟨bs, hb, hk⟩ := DpXs.reprK I ds _ its ha rv (by simpa [PyData.showable] using hs) (fun t ht => Nat.le_trans (tupleText_mem_le ht) hz')
      have rr : Reads s.heap (.ref a) (.tuple ds) _ := .tuple ho hc hdd hr
      have hna : a ∉ bs := not_mem_of_deeper rr (by simp only [PyData.depth]; omega) hb
      simp only [PyData.depth] at hdep
      simp only [PyData.shown] at q
      refine call_repr_slot (T := "tuple") (by omega) ⟨o, ho, hc⟩ PySem.F.slot_tuple_repr ?_
      exact call_tuple_reprK ho hc hdd hna hk (A := X.A.in1) hgu (fun b _ => Clear.nil b) (by show X.A.units + 1 + _ < cLine; omega) (fun _ _ z => z) (fun h' u tk keep => ⟨_, _, rfl, .str _, H, I.kept (t' := tk) keep, ⟨_, rfl⟩, q⟩) hz'
    | @emp a e =>
      cases r1
      obtain ⟨hsys, o, n, h1, h2, h3⟩ := emp_obj I e
      have hz' : (dictText []).length ≤ sizeLine := by simpa only [PyData.shown, PyData.shownKv] using hz
      simp only [PyData.shown, PyData.shownKv] at q
      refine call_repr_slot (T := "dict") (by omega) ⟨o, h1, h2⟩ PySem.F.slot_dict_repr ?_
      exact call_dict_reprK (as := []) (d := 0) h1 h2 h3 hsys (by simp) .nil (A := X.A.in1) hgu (fun b _ => Clear.nil b) (by show X.A.units + 1 + _ < cLine; omega) (fun _ _ z => z) (fun h' u tk keep => ⟨_, _, rfl, .str _, H, I.kept (t' := tk) keep, ⟨_, rfl⟩, q⟩) hz'
end
end SE
/-! == and in where empty dicts may stand: a list beside [], a value in a list of texts. -/
namespace PySem.SeqAt
open AutoSeq1 (wpAny_loadPart')
open MeetsSeq
theorem str_eq_declines_dict (b : Str) (u : Tok) (l : Addr) (c : Value) (es : Array DictEntry) (n : Nat) (dd : Option Addr) (sl : Array (Option Value)) :
    Meets (Builtin.«str.__eq__» ⟨[.str b u, .ref l], []⟩) (fun _ R s => s.heap.get? l = some { cls := c, dict := dd, data := .dict es n, slots := sl } ∧ R (.ok (.ret .notImplemented)) s) :=
  .of_wp fun prog w A R s h => by obtain ⟨hp, g, d, tk, os⟩ := s; obtain ⟨hl, h⟩ := h; wp_walk using wpAny_loadPart' hl, wpAny_load hl; exact ⟨_, rfl, h⟩
theorem dict_eq_declines_str (l : Addr) (es : Array DictEntry) (n : Nat) (dd : Option Addr) (sl : Array (Option Value)) (b : Str) (u : Tok) :
    Meets (Builtin.«dict.__eq__» ⟨[.ref l, .str b u], []⟩) (fun _ R s => s.heap.get? l = some { cls := .type "dict", dict := dd, data := .dict es n, slots := sl } ∧ R (.ok (.ret .notImplemented)) s) :=
  .of_wp fun prog w A R s h => by obtain ⟨hp, g, d, tk, os⟩ := s; obtain ⟨hl, h⟩ := h; have f1 := F.sub_str_dict; wp_walk using wpAny_loadPart' hl; exact ⟨_, rfl, h⟩
section
variable {A : Around} {s : Shared}
theorem RcAt.str_dictX {l : Addr} {o : Obj} {es : Array DictEntry} {n : Nat} (b : Str) (u : Tok) (h1 : s.heap.get? l = some o) (h2 : o.cls = .type "dict") (h3 : o.data = .dict es n) (hu : A.units < cLine) : RcAt A s (.str b u) (.ref l) false := fun prog w E Q h => by
  obtain ⟨cls, dd, data, sl⟩ := o
  simp only at h2 h3
  subst h2 h3
  exact rc_eq_decline_or (k := false) (typeIs_str s b u) ⟨_, h1, rfl⟩ (by decide) F.sub_dict_str F.slot_str_eq F.slot_dict_eq_refl
    (fun _ hq => call_meets F.slot_str_eq (typeIs_str s b u) F.entry_str_eq (F.args_str_eq_2 _ _) (str_eq_declines_dict b u l (.type "dict") es n dd sl) ⟨h1, hq⟩)
    (fun _ hq => call_meets F.slot_dict_eq_refl ⟨_, h1, rfl⟩ F.entry_dict_eq (F.args_dict_eq_2 _ _) (dict_eq_declines_str l es n dd sl b u) ⟨h1, hq⟩)
    (fun _ hq => wpAny_of_eq (rfl : isSame (.str b u) (.ref l) = pure false) hq) (.inr hu) h
theorem EqAt.str_dictX {l : Addr} {o : Obj} {es : Array DictEntry} {n : Nat} (b : Str) (u : Tok) (h1 : s.heap.get? l = some o) (h2 : o.cls = .type "dict") (h3 : o.data = .dict es n) (hu : A.units < cLine) : EqAt A s (.str b u) (.ref l) false := fun prog w E Q h => by
  unfold eqBool
  refine wpAny_holding ?_
  refine wpAny_ite_split (fun hab => absurd (eq_of_beq hab) nofun) (fun _ => ?_)
  exact wpAny_bind (RcAt.str_dictX b u h1 h2 h3 hu prog w E _ (wpAny_truthy_bool h))
end
end PySem.SeqAt
namespace SE
open PySem PySem.Spec PyProof.Rows L2
theorem eqAt_strD {A : Around} {s : Shared} {b : Str} {u : Tok} {x : Value} {d : PyData} {as : List Addr} (r : Reads s.heap x d as) (hu : A.units < cLine) : SeqAt.EqAt A s (.str b u) x (PyData.eqv (.str b) d) := by
  cases r with
  | none => exact SeqAt.EqAt.str_none b u
  | bool y => exact SeqAt.EqAt.str_bool b u y
  | int y t => exact SeqAt.EqAt.str_int b u y t
  | str y t => exact SeqAt.EqAt.str_str b u y t
  | list k1 k2 k3 k4 => exact SeqAt.EqAt.str_list b u ⟨_, k1, k2, _, k3⟩ hu
  | tuple k1 k2 k3 k4 => exact SeqAt.EqAt.str_tuple b u ⟨_, k1, k2, _, k3⟩ hu
  | dict k1 k2 k3 k4 k5 => exact SeqAt.EqAt.str_dictX b u k1 k2 k3 hu
section
variable {X : Cx}
def rEqE (K : PySem.W.Frag) : R2 := fun x y H Q => ∃ ds, DpX K H x (.list ds) ∧ DpX K H y (.list []) ∧ Q (.bl (PyData.eqv (.list ds) (.list []))) H
def valStr (d : PyData) : Value → Bool
  | .str b _ => PyData.eqv (.str b) d
  | _ => false
def rInE (K : PySem.W.Frag) : R2 := fun x y H Q => ∃ (d : PyData) (ss : List Str), DpX K H x d ∧ DpX K H y (.list (ss.map .str)) ∧ Q (.bl ((ss.map PyData.str).any fun z => PyData.eqv z d)) H
theorem op_eqE (hu : X.A.units + 64 < cLine) : OpR X (compareOp .Eq) (rEqE X.K) := by
  intro pins s σ H x y v u Q I rx ry h
  obtain ⟨ds, hd, he, q⟩ := h
  obtain ⟨as, r1⟩ := DpX.reads I (.list ds) x v hd rx
  obtain ⟨bs, r2⟩ := DpX.reads I (.list []) y u he ry
  cases r1 with
  | @list l o vs n _ as₁ h1 h2 h3 h4 =>
    cases r2 with
    | @list l' o' vs' n' ys bs₁ k1 k2 k3 k4 =>
      have hl : s.heap.IsList l vs := ⟨_, h1, h2, _, h3⟩
      have hl' : s.heap.IsList l' vs' := ⟨_, k1, k2, _, k3⟩
      have n1 : vs.size = ds.length := by simpa using SeqAt.ReadsAll.length _ _ _ h4
      have n2 : vs'.size = 0 := by simpa using SeqAt.ReadsAll.length _ _ _ k4
      have q' : ∃ v' H', Inv X pins σ H' s ∧ RelV v' (Value.bool (PyData.eqvAll ds [])) ∧ Q v' H' := ⟨.bl _, H, I, rfl, q⟩
      by_cases hsz : vs.size = vs'.size
      · have e : ds = [] := by
          rw [n2, n1] at hsz
          exact List.length_eq_zero_iff.mp hsz
        subst e
        refine SeqAt.RcAt.lists (e := fun _ => true) hl hl' hsz (by omega) (fun j j1 j2 => absurd j2 (by omega)) X.prog X.w X.xe _ ?_
        rw [n1]
        exact q'
      · refine SeqAt.RcAt.lists_lengths hl hl' (by simpa using hsz) (by omega) X.prog X.w X.xe _ ?_
        rw [← SeqAt.eqvAll_other_length (xs := ds) (ys := []) (by rw [List.length_nil, ← n1, ← n2]; exact hsz)]
        exact q'
theorem strs_reads {h : Heap} : ∀ {ss : List Str} {vs : List Value} {as : List Addr}, ReadsAll h vs (ss.map PyData.str) as → (∀ v ∈ vs, ∃ b u, v = Value.str b u) ∧ ∀ d, vs.any (valStr d) = (ss.map PyData.str).any fun z => PyData.eqv z d
  | [], _, _, r => by
    cases r
    exact ⟨fun v m => (by cases m), fun _ => rfl⟩
  | a :: ss, _, _, r => by
    cases r with
    | cons r1 r2 =>
      cases r1 with
      | str x t =>
        obtain ⟨p, q⟩ := strs_reads r2
        refine ⟨fun v m => ?_, fun d => ?_⟩
        · rcases List.mem_cons.mp m with e | e
          · exact ⟨_, _, e⟩
          · exact p v e
        · rw [List.any_cons, List.map_cons, List.any_cons, q d]
          rfl
theorem op_inE (hu : X.A.units + 65 < cLine) : OpR X (compareOp .In) (rInE X.K) := by
  intro pins s σ H x y v u Q I rx ry h
  obtain ⟨d, ss, hd, he, q⟩ := h
  obtain ⟨as, r1⟩ := DpX.reads I d x v hd rx
  obtain ⟨bs, r2⟩ := DpX.reads I (.list (ss.map .str)) y u he ry
  cases r2 with
  | @list l o vs n _ as₁ h1 h2 h3 h4 =>
    obtain ⟨a1, a2⟩ := strs_reads h4
    refine SeqAt.in_listAt (valStr d) ⟨_, h1, h2, _, h3⟩ (fun z hz => ?_) ?_
    · obtain ⟨b, t, e⟩ := a1 z (by simpa using hz)
      rw [e]
      exact eqAt_strD r1 (by show X.A.units + 1 < cLine; omega)
    · refine ⟨.bl _, H, I, ?_, q⟩
      rw [← a2 d, ← Array.any_toList]
      exact rfl
end
end SE
namespace SE
open PySem PySem.Spec PyProof.Rows L2
/-! ### data whose dicts are empty -/
mutual
def layE : PyData → Bool
  | .none | .bool _ | .int _ => true
  | .str x => PyData.strOk x
  | .list xs | .tuple xs => layEAll xs
  | .dict kvs => kvs.isEmpty
def layEAll : List PyData → Bool
  | [] => true
  | x :: xs => layE x && layEAll xs
end
mutual
theorem layE_of : ∀ d : PyData, d.canLay0 = true → layE d = true
  | .none, _ => by simp only [layE]
  | .bool _, _ => by simp only [layE]
  | .int _, _ => by simp only [layE]
  | .str x, h => by simpa only [layE, PyData.canLay0] using h
  | .list xs, h => by
    simp only [layE]
    exact layEAll_of xs (by simpa only [PyData.canLay0] using h)
  | .tuple xs, h => by
    simp only [layE]
    exact layEAll_of xs (by simpa only [PyData.canLay0] using h)
  | .dict _, h => by simp only [PyData.canLay0] at h; exact nomatch h
theorem layEAll_of : ∀ xs : List PyData, PyData.canLayAll0 xs = true → layEAll xs = true
  | [], _ => by simp only [layEAll]
  | x :: xs, h => by
    have h' : x.canLay0 = true ∧ PyData.canLayAll0 xs = true := by simpa only [PyData.canLayAll0, Bool.and_eq_true] using h
    simp only [layEAll, Bool.and_eq_true]
    exact ⟨layE_of x h'.1, layEAll_of xs h'.2⟩
end
mutual
theorem leavesShort_of_layE : ∀ d : PyData, layE d = true → d.intsShort 13 = true → d.leavesShort 13 = true
  | .none, _, _ => rfl
  | .bool _, _, _ => rfl
  | .int i, _, h => by simpa only [PyData.leavesShort, PyData.intsShort] using h
  | .str x, hc, _ => PyData.leavesShort_of_canLay0 13 (.str x) (by simpa only [layE, PyData.canLay0] using hc) rfl
  | .list xs, hc, h => by
    simp only [PyData.leavesShort]
    exact leavesShortAll_of_layE xs (by simpa only [layE] using hc) (by simpa only [PyData.intsShort] using h)
  | .tuple xs, hc, h => by
    simp only [PyData.leavesShort]
    exact leavesShortAll_of_layE xs (by simpa only [layE] using hc) (by simpa only [PyData.intsShort] using h)
  | .dict kvs, hc, _ => by
    simp only [layE, List.isEmpty_iff] at hc
    rw [hc]
    rfl
theorem leavesShortAll_of_layE : ∀ xs : List PyData, layEAll xs = true → PyData.intsShortAll 13 xs = true → PyData.leavesShortAll 13 xs = true
  | [], _, _ => rfl
  | x :: xs, hc, h => by
    have hc' : layE x = true ∧ layEAll xs = true := by simpa only [layEAll, Bool.and_eq_true] using hc
    have h' : x.intsShort 13 = true ∧ PyData.intsShortAll 13 xs = true := by simpa only [PyData.intsShortAll, Bool.and_eq_true] using h
    simp only [PyData.leavesShortAll, Bool.and_eq_true]
    exact ⟨leavesShort_of_layE x hc'.1 h'.1, leavesShortAll_of_layE xs hc'.2 h'.2⟩
end
/-! ### small data -/
structure NX (k B : Nat) (d : PyData) : Prop where
  lay : layE d = true
  dep : d.depth ≤ k
  sh : d.showable = true
  ish : d.intsShort 13 = true
  wt : d.weight ≤ B
theorem NX.mono {k j B C : Nat} {d : PyData} (h : NX k B d) (hk : k ≤ j) (hB : B ≤ C) : NX j C d := ⟨h.lay, Nat.le_trans h.dep hk, h.sh, h.ish, Nat.le_trans h.wt hB⟩
theorem Nice.nx {k B : Nat} {d : PyData} (h : Nice k B d) : NX k B d := ⟨layE_of _ h.lay, h.dep, h.sh, h.ish, h.wt⟩
theorem nx_all {k B : Nat} : ∀ {ds : List PyData}, (∀ d ∈ ds, NX k B d) → layEAll ds = true ∧ PyData.depthAll ds ≤ k ∧ PyData.showableAll ds = true ∧ PyData.intsShortAll 13 ds = true ∧ PyData.weightAll ds ≤ ds.length * (B + 1)
  | [], _ => by
    refine ⟨?_, ?_, ?_, ?_, ?_⟩
    · simp only [layEAll]
    · simp only [PyData.depthAll]
      exact Nat.zero_le _
    · simp only [PyData.showableAll]
    · simp only [PyData.intsShortAll]
    · simp only [PyData.weightAll]
      exact Nat.zero_le _
  | d :: ds, h => by
    obtain ⟨a1, a2, a3, a5, a6⟩ := nx_all (ds := ds) fun x hx => h x (List.mem_cons_of_mem _ hx)
    have q := h d List.mem_cons_self
    refine ⟨?_, ?_, ?_, ?_, ?_⟩
    · simp only [layEAll, q.lay, a1, Bool.and_self]
    · simp only [PyData.depthAll]
      exact Nat.max_le.mpr ⟨q.dep, a2⟩
    · simp only [PyData.showableAll, q.sh, a3, Bool.and_self]
    · simp only [PyData.intsShortAll, q.ish, a5, Bool.and_self]
    · simp only [PyData.weightAll, List.length_cons]
      have := q.wt
      rw [Nat.add_mul]
      omega
theorem nx_list {k B : Nat} {ds : List PyData} (h : ∀ d ∈ ds, NX k B d) : NX (k + 1) (ds.length * (B + 1)) (.list ds) := by
  obtain ⟨a1, a2, a3, a5, a6⟩ := nx_all h
  exact ⟨by simp only [layE]; exact a1, by simp only [PyData.depth]; omega, by simp only [PyData.showable]; exact a3, by simp only [PyData.intsShort]; exact a5, by simp only [PyData.weight]; exact a6⟩
theorem nx_tuple {k B : Nat} {ds : List PyData} (h : ∀ d ∈ ds, NX k B d) : NX (k + 1) (ds.length * (B + 1)) (.tuple ds) := by
  obtain ⟨a1, a2, a3, a5, a6⟩ := nx_all h
  exact ⟨by simp only [layE]; exact a1, by simp only [PyData.depth]; omega, by simp only [PyData.showable]; exact a3, by simp only [PyData.intsShort]; exact a5, by simp only [PyData.weight]; exact a6⟩
theorem all_elem {k B : Nat} : ∀ {ds : List PyData}, layEAll ds = true → PyData.depthAll ds ≤ k → PyData.showableAll ds = true → PyData.intsShortAll 13 ds = true → PyData.weightAll ds ≤ B → (∀ d ∈ ds, NX k B d) ∧ ds.length ≤ B
  | [], _, _, _, _, _ => ⟨fun d m => (by cases m), Nat.zero_le _⟩
  | d :: ds, h1, h2, h3, h4, h5 => by
    simp only [layEAll, Bool.and_eq_true] at h1
    simp only [PyData.depthAll] at h2
    simp only [PyData.showableAll, Bool.and_eq_true] at h3
    simp only [PyData.intsShortAll, Bool.and_eq_true] at h4
    simp only [PyData.weightAll] at h5
    have m2 := Nat.max_le.mp h2
    obtain ⟨q1, q2⟩ := all_elem (k := k) (B := B - 1) h1.2 m2.2 h3.2 h4.2 (by omega)
    refine ⟨fun x m => ?_, by rw [List.length_cons]; omega⟩
    rcases List.mem_cons.mp m with e | e
    · rw [e]
      exact ⟨h1.1, m2.1, h3.1, h4.1, by omega⟩
    · exact (q1 x e).mono (Nat.le_refl _) (by omega)
theorem NX.list {k B : Nat} {ds : List PyData} (h : NX k B (.list ds)) : (∀ d ∈ ds, NX k B d) ∧ ds.length ≤ B := by
  obtain ⟨a, b, c, d, e⟩ := h
  simp only [layE] at a
  simp only [PyData.depth] at b
  simp only [PyData.showable] at c
  simp only [PyData.intsShort] at d
  simp only [PyData.weight] at e
  exact all_elem a (by omega) c d e
theorem NX.tuple {k B : Nat} {ds : List PyData} (h : NX k B (.tuple ds)) : (∀ d ∈ ds, NX k B d) ∧ ds.length ≤ B := by
  obtain ⟨a, b, c, d, e⟩ := h
  simp only [layE] at a
  simp only [PyData.depth] at b
  simp only [PyData.showable] at c
  simp only [PyData.intsShort] at d
  simp only [PyData.weight] at e
  exact all_elem a (by omega) c d e
theorem NX.str {k B : Nat} {z : Str} (h : NX k B (.str z)) : z.length ≤ B := by
  have := h.wt
  simp only [PyData.weight] at this
  exact this
theorem NX.shown {k B : Nat} {d : PyData} (h : NX k B d) (hk : k ≤ 64) (hB : B ≤ 2 ^ 20) : d.shown.length ≤ sizeLine :=
  PyData.shown_fits (B := 13) (by decide) (by decide) (leavesShort_of_layE d h.lay h.ish) (Nat.le_trans h.wt hB)
/-- the data that the functions are asked about -/
abbrev OkD (d : PyData) : Prop := NX 20 100000 d
theorem big100 {n : Nat} (h : n ≤ 100001) : n ≤ sizeLine := by
  rw [sizeLine_eq]
  omega
/-! ### what the functions answer -/
def itemD : PyData → Bool
  | .str z => decide (1 ≤ z.length ∧ z.length ≤ 8) && (z.cps.toList.map fun c => decide (c ∈ abc.cps.toList)).all id
  | _ => false
def wordD : PyData → Bool
  | .tuple ds => (ds.map itemD).all id
  | _ => false
def actD : PyData → Bool
  | .str z => decide (z = "push" ∨ z = "pop")
  | _ => false
def stpD : PyData → Bool
  | .tuple [a, b] => actD a && itemD b
  | _ => false
def seqD : PyData → Bool
  | .list ds => decide (ds.length ≤ 1000) && (ds.map stpD).all id
  | .tuple ds => decide (ds.length ≤ 1000) && (ds.map stpD).all id
  | _ => false
end SE
namespace SE
open PySem PySem.Spec PyProof.Rows L2
theorem bl_take {α : Type} {f : α → Bool} {l : List α} {j : Nat} {x : α} (h : l[j]? = some x) : ((l.take j).map f).map V.bl ++ [V.bl (f x)] = ((l.take (j + 1)).map f).map V.bl := by
  rw [List.take_add_one, h, List.map_append, List.map_append]
  rfl
theorem itemD_str (z : Str) : itemD (.str z) = (decide (1 ≤ z.length ∧ z.length ≤ 8) && (z.cps.toList.map fun c => decide (c ∈ abc.cps.toList)).all id) := rfl
section
variable {P : Program} {w : World} {K : PySem.W.Frag} {mg : Str → Option Value} {base : Heap}
/-! ### is_item, is_word -/
def spX (K : PySem.W.Frag) (f : PyData → Bool) : Sp := fun xs H Q _ => ∃ (v : V) (d : PyData), xs = [v] ∧ DpX K H v d ∧ OkD d ∧ ∀ H', Same H H' → Q (.bl (f d)) H'
theorem has_itemX (D : Def K mg "is_item" sIsItem) (B : Blt mg) (C : Cons K w mg) : Has P w K mg base "is_item" 1 ["value"] [] (spX K itemD) := by
  obtain ⟨tl, hL⟩ := C.let_
  obtain ⟨tm, hM⟩ := C.ml
  refine has_of D scIsItem (fun _ _ _ _ _ _ us hl => match us, hl with | [_], _ => rfl) (fun xs H Q E h => ?_) (fun f cv A out s H xs Q E hr h => ?_)
  · obtain ⟨v, d, rfl, _⟩ := h
    rfl
  · obtain ⟨v, d, rfl, hd, ok, k⟩ := h
    refine ⟨_, pss_cons (ps_if (PW.pt (pw_or (pt_not (pt_val (pe_callB call_isi (by rfl) B.isi (by decide +kernel) (pa_cons (pv 0) (pa_cons (pe_bltn (v := .ty "str") (by rfl) B.str (by decide +kernel) rfl) pa_nil)))))
        (pw_or1 (pt_not (pt_chain op_le op_le pe_int (pe_callB call_len_str (by rfl) B.len PySem.boot_len (pa_cons (pv 0) pa_nil)) (pe_glob (v := .int 8) rfl hM ⟨_, rfl⟩)))))) (pss_one (ps_ret pe_bl)) pss_nil)
      (pss_one (ps_ret (pe_callB (cr_all rfl) (by rfl) B.all (by decide +kernel) (pa_cons
        (pe_lc (own := [("letter", 1)]) (g := gName 1) (tt := tYes) rfl scIsItem.nd (pi_str (pv 0)) (blkOk_by (own := [("letter", 1)]) (N := ["value", "letter"]) (sc := defScope sIsItem) (by decide +kernel))
          (fun _ _ _ _ _ => pg_name (i := 1) scIsItem.nd rfl (.inl rfl)) (fun _ _ _ _ _ => pts_nil) (fun _ _ _ _ _ => pe_cmpR op_in_sign (pv 1) (pe_glob (v := .str abc) rfl hL ⟨_, rfl⟩) (by rfl))) pa_nil)))), ?_⟩
    refine ⟨_, rfl, _, .ty "str", .type (tyD d), .type "str", isStr d, rfl, .ty _, hd.ty, kit_str d, _, rfl, ?_⟩
    cases hd with
    | non => exact iteT (iteT (k H (Same.refl H)))
    | bl b => exact iteT (iteT (k H (Same.refl H)))
    | int i => exact iteT (iteT (k H (Same.refl H)))
    | lst _ _ => exact iteT (iteT (k H (Same.refl H)))
    | tup _ _ => exact iteT (iteT (k H (Same.refl H)))
    | emp _ => exact iteT (iteT (k H (Same.refl H)))
    | str z =>
      refine iteF ?_
      have zl : z.length ≤ 100000 := ok.str
      refine ⟨_, rfl, z, rfl, big100 (by omega), 1, _, rfl, rfl, _, rfl, ?_⟩
      by_cases p1 : 1 ≤ z.length
      · have e1 : decide ((1 : Int) ≤ (z.length : Int)) = true := decide_eq_true (by omega)
        rw [e1]
        refine iteT ⟨_, 8, rfl, rfl, _, rfl, ?_⟩
        by_cases p2 : z.length ≤ 8
        · have e2 : decide ((z.length : Int) ≤ 8) = true := decide_eq_true (by omega)
          rw [e2]
          refine iteF ?_
          have e3 : itemD (.str z) = (z.cps.toList.map fun c => decide (c ∈ abc.cps.toList)).all id := by
            rw [itemD_str, decide_eq_true ⟨p1, p2⟩, Bool.true_and]
          rw [e3] at k
          refine ⟨_, rfl, z, rfl, fun D hD => lc_it walk_str (fun j H2 => H2 D = some (.lst (((z.cps.toList.take j).map fun c => decide (c ∈ abc.cps.toList)).map V.bl)) ∧ Same H H2) ⟨upd_same, Same.new hD⟩ (fun _ _ _ _ => trivial) ?_ ?_⟩
          · rintro j x H2 H3 hj ⟨h2, s2⟩ ⟨rfl, c, hc, rfl⟩
            have q : z.cps.toList[j]? = some c := by rw [Array.getElem?_toList]; exact hc
            refine ⟨rfl, yes_in ⟨_, rfl, c, abc, rfl, rfl, _, h2, ?_, ?_, Same.free2 s2 hD⟩⟩
            · rw [List.length_map, List.length_map, List.length_take]
              exact small1000 (by have : j < z.length := hj; omega)
            · rw [upd_same, bl_take (f := fun c => decide (c ∈ abc.cps.toList)) q]
          · rintro H2 ⟨h2, s2⟩
            rw [List.take_of_length_le (by rw [Array.length_toList]; exact Nat.le_refl _)] at h2
            exact ⟨D, _, rfl, .of h2, k H2 s2⟩
        · have e2 : decide ((z.length : Int) ≤ 8) = false := decide_eq_false (by omega)
          rw [e2]
          have e3 : itemD (.str z) = false := by
            rw [itemD_str, decide_eq_false (fun q => p2 q.2), Bool.false_and]
          rw [e3] at k
          exact iteT (k H (Same.refl H))
      · have e1 : decide ((1 : Int) ≤ (z.length : Int)) = false := decide_eq_false (by omega)
        rw [e1]
        have e3 : itemD (.str z) = false := by
          rw [itemD_str, decide_eq_false (fun q => p1 q.1), Bool.false_and]
        rw [e3] at k
        exact iteF ⟨false, rfl, iteT (k H (Same.refl H))⟩
theorem has_wordX (D : Def K mg "is_word" sIsWord) (G : Has P w K mg base "is_item" 1 ["value"] [] (spX K itemD)) (B : Blt mg) : Has P w K mg base "is_word" 2 ["value"] [] (spX K wordD) := by
  refine has_of D scIsWord (fun _ _ _ _ _ _ us hl => match us, hl with | [_], _ => rfl) (fun xs H Q E h => ?_) (fun f cv A out s H xs Q E hr h => ?_)
  · obtain ⟨v, d, rfl, _⟩ := h
    rfl
  · obtain ⟨v, d, rfl, hd, ok, k⟩ := h
    refine ⟨_, pss_one (ps_ret (pe_and (pe_callB call_isi (by rfl) B.isi (by decide +kernel) (pa_cons (pv 0) (pa_cons (pe_bltn (v := .ty "tuple") (by rfl) B.tup (by decide +kernel) rfl) pa_nil)))
      (pe_one (pe_callB (cr_all rfl) (by rfl) B.all (by decide +kernel) (pa_cons
        (pe_lc (own := [("item", 1)]) (g := gName 1) (tt := tYes) (te := tCall (spX K itemD) [] E0 (tCons (tVar 1) tNil)) rfl scIsWord.nd (pi_tup (pv 0)) (blkOk_by (own := [("item", 1)]) (N := ["value", "item"]) (sc := defScope sIsWord) (by decide +kernel))
          (fun _ _ _ _ _ => pg_name (i := 1) scIsWord.nd rfl (.inl rfl)) (fun _ _ _ _ _ => pts_nil) (fun _ _ _ _ _ => pe_has G hr (pa_cons (pv 1) pa_nil))) pa_nil))))), ?_⟩
    refine ⟨_, rfl, _, .ty "tuple", .type (tyD d), .type "tuple", isTup d, rfl, .ty _, hd.ty, kit_tup d, _, rfl, ?_⟩
    cases hd with
    | non => exact iteF (k H (Same.refl H))
    | bl b => exact iteF (k H (Same.refl H))
    | int i => exact iteF (k H (Same.refl H))
    | str z => exact iteF (k H (Same.refl H))
    | lst _ _ => exact iteF (k H (Same.refl H))
    | emp _ => exact iteF (k H (Same.refl H))
    | @tup a xs ds hT ha =>
      refine iteT ?_
      obtain ⟨oks, ln⟩ := ok.tuple
      have le := ha.len
      refine ⟨_, rfl, a, rfl, ⟨_, hT⟩, fun D hD => lc_tup (K := K) (a := a) (xs := xs) (fun j H2 => H2 D = some (.lst (((ds.take j).map itemD).map V.bl)) ∧ Same H H2) ⟨upd_same, Same.new hD⟩ (fun _ _ _ q => Same.tup q.2 hT) ?_ ?_⟩
      · rintro j x H2 hj ⟨h2, s2⟩
        obtain ⟨e, he, hx⟩ := ha.at hj
        refine ⟨rfl, yes_in ⟨_, rfl, x, e, rfl, DpX.same s2 e x hx, oks e (List.mem_of_getElem? he), fun H3 s3 => ⟨_, s3 _ _ h2, ?_, ?_, Same.free2 (s2.trans s3) hD⟩⟩⟩
        · rw [List.length_map, List.length_map, List.length_take, sizeLine_eq]
          omega
        · rw [upd_same, bl_take he]
      · rintro H2 ⟨h2, s2⟩
        rw [le, List.take_length] at h2
        exact ⟨D, _, rfl, .of h2, k H2 s2⟩
end
end SE
namespace SE
open PySem PySem.Spec PyProof.Rows L2
def OppKeys : List DictEntry → Prop
  | [] => True
  | e :: r => (∃ x t, e.key = .str x t ∧ (x = ("push" : Str) ∨ x = ("pop" : Str))) ∧ OppKeys r
theorem opp_none {z : Str} (h1 : z ≠ "push") (h2 : z ≠ "pop") : ∀ {l : List DictEntry}, OppKeys l → l.find? (fun e => e.key.isStr z) = none ∧ l.any (fun e => e.refKey) = false
  | [], _ => ⟨rfl, rfl⟩
  | e :: r, ⟨⟨x, t, hk, hx⟩, q⟩ => by
    obtain ⟨q1, q2⟩ := opp_none h1 h2 q
    have e1 : e.key.isStr z = false := by
      rw [hk]
      have ne : x ≠ z := by
        rcases hx with hx | hx
        · rw [hx]; exact fun w => h1 w.symm
        · rw [hx]; exact fun w => h2 w.symm
      simpa [Value.isStr] using ne
    have e2 : e.refKey = false := by
      unfold DictEntry.refKey
      rw [hk]
    rw [List.find?_cons, e1, List.any_cons, e2]
    exact ⟨q1, q2⟩
/-- OPPOSITES and all its keys -/
def Opp2 (K : PySem.W.Frag) (w : World) (mg : Str → Option Value) : Prop := ∃ (d : Addr) (es : Array DictEntry) (n : Nat) (u v : Value), mg "OPPOSITES" = some (.ref d) ∧ KDict K w d es n ∧ PySem.W.nsIn K d "push" = some (some u) ∧ PySem.W.nsIn K d "pop" = some (some v) ∧ OppKeys es.toList
theorem opp_in {K : PySem.W.Frag} {w : World} {d : Addr} {es : Array DictEntry} {n : Nat} {u v : Value} (KD : KDict K w d es n) (n1 : PySem.W.nsIn K d "push" = some (some u)) (n2 : PySem.W.nsIn K d "pop" = some (some v)) (ok : OppKeys es.toList) (z : Str) :
    ∃ r, PySem.W.nsIn K d z = some r ∧ r.isSome = actD (.str z) := by
  by_cases h1 : z = "push"
  · subst h1
    exact ⟨_, n1, show true = actD (.str "push") by decide +kernel⟩
  by_cases h2 : z = "pop"
  · subst h2
    exact ⟨_, n2, show true = actD (.str "pop") by decide +kernel⟩
  obtain ⟨q1, q2⟩ := opp_none h1 h2 ok
  refine ⟨none, ?_, ?_⟩
  · unfold PySem.W.nsIn
    rw [KD.at_]
    dsimp only
    rw [q1]
    dsimp only
    rw [q2]
    rfl
  · show false = decide (z = "push" ∨ z = "pop")
    rw [decide_eq_false (fun q => q.elim h1 h2)]
section
variable {P : Program} {w : World} {K : PySem.W.Frag} {mg : Str → Option Value} {base : Heap}
/-! ### is_step -/
theorem has_stepX (D : Def K mg "is_step" sIsStep) (G : Has P w K mg base "is_item" 1 ["value"] [] (spX K itemD)) (B : Blt mg) (C : Opp2 K w mg) : Has P w K mg base "is_step" 2 ["value"] [] (spX K stpD) := by
  obtain ⟨d, es, n, u1, u2, hO, KD, n1, n2, okO⟩ := C
  refine has_of D scIsStep (fun _ _ _ _ _ _ us hl => match us, hl with | [_], _ => rfl) (fun xs H Q E h => ?_) (fun f cv A out s H xs Q E hr h => ?_)
  · obtain ⟨v, dd, rfl, _⟩ := h
    rfl
  · obtain ⟨v, dd, rfl, hd, ok, k⟩ := h
    refine ⟨_, pss_cons (ps_if (PW.pt (pw_or (pt_not (pt_val (pe_callB call_isi (by rfl) B.isi (by decide +kernel) (pa_cons (pv 0) (pa_cons (pe_bltn (v := .ty "tuple") (by rfl) B.tup (by decide +kernel) rfl) pa_nil)))))
        (pw_or1 (pt_cmpR op_ne (pe_callB call_len_seq (by rfl) B.len PySem.boot_len (pa_cons (pv 0) pa_nil)) pe_int (nomark _))))) (pss_one (ps_ret pe_bl)) pss_nil)
      (pss_cons (ps_asg (pv 0) (pg_tup (by rfl) (pgs_cons (pg_name (i := 1) scIsStep.nd rfl (.inl rfl)) (pgs_cons (pg_name (i := 2) scIsStep.nd rfl (.inl rfl)) pgs_nil))))
      (pss_one (ps_ret (pe_and (pe_callB call_isi (by rfl) B.isi (by decide +kernel) (pa_cons (pv 1) (pa_cons (pe_bltn (v := .ty "str") (by rfl) B.str (by decide +kernel) rfl) pa_nil)))
        (pe_and (pe_cmpR (op_in_kd KD) (pv 1) (pe_glob (v := .ref d) rfl hO rfl) (by rfl)) (pe_one (pe_has G hr (pa_cons (pv 2) pa_nil)))))))), ?_⟩
    refine ⟨_, rfl, _, .ty "tuple", .type (tyD dd), .type "tuple", isTup dd, rfl, .ty _, hd.ty, kit_tup dd, _, rfl, ?_⟩
    cases hd with
    | non => exact iteT (iteT (k H (Same.refl H)))
    | bl b => exact iteT (iteT (k H (Same.refl H)))
    | int i => exact iteT (iteT (k H (Same.refl H)))
    | str z => exact iteT (iteT (k H (Same.refl H)))
    | lst _ _ => exact iteT (iteT (k H (Same.refl H)))
    | emp _ => exact iteT (iteT (k H (Same.refl H)))
    | @tup t xs ds hT ha =>
      refine iteF ?_
      obtain ⟨oks, ln⟩ := ok.tuple
      have le := ha.len
      refine ⟨_, rfl, t, _, rfl, .inr hT, rfl, _, rfl, ?_⟩
      match ds, xs, ha, le, oks, k, hT with
      | [], _, .nil, _, _, k, _ => exact iteT (k H (Same.refl H))
      | [_], _, .cons _ .nil, _, _, k, _ => exact iteT (k H (Same.refl H))
      | [e1, e2], [x1, x2], .cons h1 (.cons h2 .nil), _, oks, k, hT =>
        refine iteF ?_
        refine ⟨_, rfl, t, _, rfl, hT, rfl, _, _, rfl, _, _, rfl, rfl, ?_⟩
        refine ⟨_, rfl, _, .ty "str", .type (tyD e1), .type "str", isStr e1, rfl, .ty _, h1.ty, kit_str e1, _, rfl, ?_⟩
        have k' : ∀ H', Same H H' → Q (.bl (actD e1 && itemD e2)) H' := k
        cases h1 with
        | non => exact iteF (k' H (Same.refl H))
        | bl b => exact iteF (k' H (Same.refl H))
        | int i => exact iteF (k' H (Same.refl H))
        | lst _ _ => exact iteF (k' H (Same.refl H))
        | tup _ _ => exact iteF (k' H (Same.refl H))
        | emp _ => exact iteF (k' H (Same.refl H))
        | str z =>
          refine iteT ?_
          obtain ⟨r, hr1, hr2⟩ := opp_in KD n1 n2 okO z
          refine ⟨_, rfl, z, r, rfl, rfl, hr1, r.isSome, rfl, ?_⟩
          rw [hr2]
          cases hz : actD (.str z) with
          | false =>
            rw [hz] at k'
            exact iteF (k' H (Same.refl H))
          | true =>
            rw [hz] at k'
            exact iteT ⟨_, rfl, x2, e2, rfl, h2, oks e2 (by simp), fun H' s' => k' H' s'⟩
      | _ :: _ :: _ :: ds, x1 :: x2 :: x3 :: xs, .cons _ (.cons _ (.cons _ _)), _, _, k, _ =>
        have hne : decide (V.int (((x1 :: x2 :: x3 :: xs).length : Nat) : Int) = V.int 2) = false := decide_eq_false (by
          intro q
          have q2 := V.int.inj q
          simp only [List.length_cons] at q2
          omega)
        rw [hne]
        exact iteT (k H (Same.refl H))
/-! ### may_hold_steps, is_sequence -/
def mayD : PyData → Bool
  | .list ds => decide (ds.length ≤ 1000)
  | .tuple ds => decide (ds.length ≤ 1000)
  | _ => false
theorem kit_lt {K : PySem.W.Frag} (d : PyData) : PySem.W.kitAny K (.type (tyD d)) [.type "list", .type "tuple"] = some (isLst d || isTup d) := by
  have a := kit_lst (K := K) d
  have b := kit_tup (K := K) d
  cases d with
  | list ds => exact kitAny_cons (b := true) a (fun z => (by cases z)) (fun _ => rfl)
  | tuple ds => exact kitAny_cons (b := false) a (fun _ => kitAny_cons (b := true) b (fun z => (by cases z)) (fun _ => rfl)) (fun z => (by cases z))
  | _ => exact kitAny_cons (b := false) a (fun _ => kitAny_cons (b := false) b (fun _ => rfl) (fun z => (by cases z))) (fun z => (by cases z))
theorem has_mayX (D : Def K mg "may_hold_steps" sMayHold) (B : Blt mg) (C : Cons K w mg) : Has P w K mg base "may_hold_steps" 1 ["value"] [] (spX K mayD) := by
  obtain ⟨tm, hM⟩ := C.ms
  refine has_of D scMay (fun _ _ _ _ _ _ us hl => match us, hl with | [_], _ => rfl) (fun xs H Q E h => ?_) (fun f cv A out s H xs Q E hr h => ?_)
  · obtain ⟨v, d, rfl, _⟩ := h
    rfl
  · obtain ⟨v, d, rfl, hd, ok, k⟩ := h
    refine ⟨_, pss_one (ps_ret (pe_and (pe_callB call_isiT (by rfl) B.isi (by decide +kernel) (pa_cons (pv 0) (pa_cons (pe_tup (pa_cons (pe_bltn (v := .ty "list") (by rfl) B.lst (by decide +kernel) rfl) (pa_cons (pe_bltn (v := .ty "tuple") (by rfl) B.tup (by decide +kernel) rfl) pa_nil))) pa_nil)))
      (pe_one (pe_cmpR op_le (pe_callB call_len_seq (by rfl) B.len PySem.boot_len (pa_cons (pv 0) pa_nil)) (pe_glob (v := .int 1000) rfl hM ⟨_, rfl⟩) (nomark _))))), ?_⟩
    refine ⟨_, rfl, (by show 2 ≤ sizeLine; decide), fun t ht => ?_⟩
    have s1 : Same H (upd H t (.tup [.ty "list", .ty "tuple"])) := Same.new ht
    have hd1 := DpX.same s1 d v hd
    refine ⟨_, t, _, .type (tyD d), _, isLst d || isTup d, rfl, upd_same, .cons (.ty _) (.cons (.ty _) .nil), hd1.ty, kit_lt d, _, rfl, ?_⟩
    have fin : ∀ (n : Nat), (V.bl (decide ((n : Int) ≤ 1000)) : V) = V.bl (decide (n ≤ 1000)) := fun n => by
      by_cases q : n ≤ 1000
      · rw [decide_eq_true q, decide_eq_true (by omega)]
      · rw [decide_eq_false q, decide_eq_false (by omega)]
    cases hd with
    | non => exact iteF (k _ s1)
    | bl b => exact iteF (k _ s1)
    | int i => exact iteF (k _ s1)
    | str z => exact iteF (k _ s1)
    | emp _ => exact iteF (k _ s1)
    | @tup a xs ds hT ha =>
      refine iteT ⟨_, rfl, a, xs, rfl, .inr (Same.tup s1 hT), _, 1000, rfl, rfl, ?_⟩
      show Q (V.bl (decide ((xs.length : Int) ≤ 1000))) _
      rw [fin, ha.len]
      exact k _ s1
    | @lst a xs ds hT ha =>
      refine iteT ⟨_, rfl, a, xs, rfl, .inl (Same.seq s1 hT), _, 1000, rfl, rfl, ?_⟩
      show Q (V.bl (decide ((xs.length : Int) ≤ 1000))) _
      rw [fin, ha.len]
      exact k _ s1
end
end SE
namespace SE
open PySem PySem.Spec PyProof.Rows L2
theorem all_id_map {α : Type} (f : α → Bool) (l : List α) : (l.map f).all id = l.all f := by
  induction l with
  | nil => rfl
  | cons a r ih => rw [List.map_cons, List.all_cons, List.all_cons, ih]; rfl
/-- none is left over where all are right -/
theorem none_left {α : Type} [DecidableEq α] (f : α → Bool) : ∀ l : List α, decide (l.filter (fun x => !f x) = []) = l.all f
  | [] => rfl
  | a :: r => by
    rw [List.filter_cons, List.all_cons, ← none_left f r]
    cases h : f a with
    | true => rfl
    | false => rfl
theorem abc_low : ∀ c ∈ abc.cps.toList, 97 ≤ c ∧ c ≤ 122 := by decide +kernel
theorem abc_iff (c : Nat) : decide (c ∈ abc.cps.toList) = (!decide (([c] : List Nat) < [97]) && !decide (([122] : List Nat) < [c])) := by
  have e1 : (([c] : List Nat) < [97]) ↔ c < 97 := by
    rw [List.cons_lt_cons_iff]
    simp
  have e2 : (([122] : List Nat) < [c]) ↔ 122 < c := by
    rw [List.cons_lt_cons_iff]
    simp
  by_cases h : c ∈ abc.cps.toList
  · have := abc_low c h
    rw [decide_eq_true h, decide_eq_false (by rw [e1]; omega), decide_eq_false (by rw [e2]; omega)]
    rfl
  · have hn : ¬ (97 ≤ c ∧ c ≤ 122) := fun q => h (abc_has q)
    rw [decide_eq_false h]
    by_cases q : c < 97
    · rw [decide_eq_true (e1.mpr q)]
      rfl
    · rw [decide_eq_true (e2.mpr (by omega))]
      simp
section
variable {P : Program} {w : World} {K : PySem.W.Frag} {mg : Str → Option Value} {base : Heap}
/-! ### is_sequence -/
theorem scIsSeqX : FnScope ["value", "step"] ["value"] (defScope sIsSeq) := ⟨rfl, rfl, rfl, by decide +kernel, rfl, by decide +kernel, by decide +kernel⟩
theorem has_seqX (D : Def K mg "is_sequence" sIsSeq) (GM : Has P w K mg base "may_hold_steps" 1 ["value"] [] (spX K mayD)) (GS : Has P w K mg base "is_step" 2 ["value"] [] (spX K stpD)) (B : Blt mg) : Has P w K mg base "is_sequence" 3 ["value"] [] (spX K seqD) := by
  refine has_of D scIsSeqX (fun _ _ _ _ _ _ us hl => match us, hl with | [_], _ => rfl) (fun xs H Q E h => ?_) (fun f cv A out s H xs Q E hr h => ?_)
  · obtain ⟨v, d, rfl, _⟩ := h
    rfl
  · obtain ⟨v, d, rfl, hd, ok, k⟩ := h
    have hr1 : Room 1 _ := hr.mono (by decide)
    have no : seqD d = false → mayD d = false → ∃ t, PSs (Bx P w K mg base ["value", "step"] "is_sequence" sIsSeq f cv A out s H E) (defBody sIsSeq) t ∧ t { nx := fun _ H2 => Q .non H2, rt := Q } (start ["value", "step"] [v]) H := fun e1 e2 => by
      refine ⟨_, pss_one (ps_ret (pe_and (pe_has GM hr1 (pa_cons (pv 0) pa_nil)) pe_never)), ?_⟩
      refine ⟨_, rfl, v, d, rfl, hd, ok, fun H1 s1 => ⟨false, by rw [e2], iteF ?_⟩⟩
      rw [e1] at k
      exact k H1 s1
    cases hd with
    | non => exact no rfl rfl
    | bl b => exact no rfl rfl
    | int i => exact no rfl rfl
    | str z => exact no rfl rfl
    | emp _ => exact no rfl rfl
    | @tup a xs ds hT ha =>
      clear no
      refine ⟨_, pss_one (ps_ret (pe_and (pe_has GM hr1 (pa_cons (pv 0) pa_nil)) (pe_one (pe_callB (cr_all rfl) (by rfl) B.all (by decide +kernel) (pa_cons
        (pe_lc (own := [("step", 1)]) (g := gName 1) (tt := tYes) (te := tCall (spX K stpD) [] E0 (tCons (tVar 1) tNil)) rfl scIsSeqX.nd (pi_tup (pv 0)) (blkOk_by (own := [("step", 1)]) (N := ["value", "step"]) (sc := defScope sIsSeq) (by decide +kernel))
          (fun _ _ _ _ _ => pg_name (i := 1) scIsSeqX.nd rfl (.inl rfl)) (fun _ _ _ _ _ => pts_nil) (fun _ _ _ _ _ => pe_has GS hr (pa_cons (pv 1) pa_nil))) pa_nil))))), ?_⟩
      refine ⟨_, rfl, _, _, rfl, .tup hT ha, ok, fun H1 s1 => ⟨_, rfl, ?_⟩⟩
      have k' : ∀ H', Same H H' → Q (.bl (decide (ds.length ≤ 1000) && (ds.map stpD).all id)) H' := k
      show if decide (ds.length ≤ 1000) = true then _ else _
      cases hc : decide (ds.length ≤ 1000) with
      | false =>
        rw [hc] at k'
        exact iteF (k' H1 s1)
      | true =>
        rw [hc] at k'
        refine iteT ?_
        obtain ⟨oks, ln⟩ := ok.tuple
        have le := ha.len
        have hT1 := Same.tup s1 hT
        refine ⟨_, rfl, a, rfl, ⟨_, hT1⟩, fun D hD => lc_tup (K := K) (a := a) (xs := xs) (fun j H2 => H2 D = some (.lst (((ds.take j).map stpD).map V.bl)) ∧ Same H1 H2) ⟨upd_same, Same.new hD⟩ (fun _ _ _ q => Same.tup q.2 hT1) ?_ ?_⟩
        · rintro j x H2 hj ⟨h2, s2⟩
          obtain ⟨e, he, hx⟩ := ha.at hj
          refine ⟨rfl, yes_in ⟨_, rfl, x, e, rfl, DpX.same (s1.trans s2) e x hx, oks e (List.mem_of_getElem? he), fun H3 s3 => ⟨_, s3 _ _ h2, ?_, ?_, Same.free2 (s2.trans s3) hD⟩⟩⟩
          · rw [List.length_map, List.length_map, List.length_take, sizeLine_eq]
            omega
          · rw [upd_same, bl_take he]
        · rintro H2 ⟨h2, s2⟩
          rw [le, List.take_length] at h2
          exact ⟨D, _, rfl, .of h2, k' H2 (s1.trans s2)⟩
    | @lst a xs ds hT ha =>
      clear no
      refine ⟨_, pss_one (ps_ret (pe_and (pe_has GM hr1 (pa_cons (pv 0) pa_nil)) (pe_one (pe_callB (cr_all rfl) (by rfl) B.all (by decide +kernel) (pa_cons
        (pe_lc (own := [("step", 1)]) (g := gName 1) (tt := tYes) (te := tCall (spX K stpD) [] E0 (tCons (tVar 1) tNil)) rfl scIsSeqX.nd (pi_list (pv 0)) (blkOk_by (own := [("step", 1)]) (N := ["value", "step"]) (sc := defScope sIsSeq) (by decide +kernel))
          (fun _ _ _ _ _ => pg_name (i := 1) scIsSeqX.nd rfl (.inl rfl)) (fun _ _ _ _ _ => pts_nil) (fun _ _ _ _ _ => pe_has GS hr (pa_cons (pv 1) pa_nil))) pa_nil))))), ?_⟩
      refine ⟨_, rfl, _, _, rfl, .lst hT ha, ok, fun H1 s1 => ⟨_, rfl, ?_⟩⟩
      have k' : ∀ H', Same H H' → Q (.bl (decide (ds.length ≤ 1000) && (ds.map stpD).all id)) H' := k
      show if decide (ds.length ≤ 1000) = true then _ else _
      cases hc : decide (ds.length ≤ 1000) with
      | false =>
        rw [hc] at k'
        exact iteF (k' H1 s1)
      | true =>
        rw [hc] at k'
        refine iteT ?_
        obtain ⟨oks, ln⟩ := ok.list
        have le := ha.len
        have hT1 := Same.seq s1 hT
        refine ⟨_, rfl, a, rfl, ⟨_, hT1⟩, fun D hD => lc_list (K := K) (a := a) (xs := xs) (fun j H2 => H2 D = some (.lst (((ds.take j).map stpD).map V.bl)) ∧ Same H1 H2) ⟨upd_same, Same.new hD⟩ (fun _ _ _ q => Same.seq q.2 hT1) ?_ ?_⟩
        · rintro j x H2 hj ⟨h2, s2⟩
          obtain ⟨e, he, hx⟩ := ha.at hj
          refine ⟨rfl, yes_in ⟨_, rfl, x, e, rfl, DpX.same (s1.trans s2) e x hx, oks e (List.mem_of_getElem? he), fun H3 s3 => ⟨_, s3 _ _ h2, ?_, ?_, Same.free2 (s2.trans s3) hD⟩⟩⟩
          · rw [List.length_map, List.length_map, List.length_take, sizeLine_eq]
            omega
          · rw [upd_same, bl_take he]
        · rintro H2 ⟨h2, s2⟩
          rw [le, List.take_length] at h2
          exact ⟨D, _, rfl, .of h2, k' H2 (s1.trans s2)⟩
/-! ### _law_is_item -/
abbrev nLi : List Str := ["_law_what", "_law_sign"]
theorem scLi : FnScope nLi ["_law_what"] (defScope sLawIsItem) := ⟨rfl, rfl, rfl, by decide +kernel, rfl, by decide +kernel, by decide +kernel⟩
theorem has_lItem (D : Def K mg "_law_is_item" sLawIsItem) (B : Blt mg) : Has P w K mg base "_law_is_item" 1 ["_law_what"] [] (spX K itemD) := by
  refine has_of D scLi (fun _ _ _ _ _ _ us hl => match us, hl with | [_], _ => rfl) (fun xs H Q E h => ?_) (fun f cv A out s H xs Q E hr h => ?_)
  · obtain ⟨v, d, rfl, _⟩ := h
    rfl
  · obtain ⟨v, d, rfl, hd, ok, k⟩ := h
    refine ⟨_, pss_cons (ps_if (PW.pt (pw_or (pt_not (pt_val (pe_callB call_isi (by rfl) B.isi (by decide +kernel) (pa_cons (pv 0) (pa_cons (pe_bltn (v := .ty "str") (by rfl) B.str (by decide +kernel) rfl) pa_nil)))))
        (pw_or1 (pt_not (pt_chain op_le op_le pe_int (pe_callB call_len_str (by rfl) B.len PySem.boot_len (pa_cons (pv 0) pa_nil)) pe_int))))) (pss_one (ps_ret pe_bl)) pss_nil)
      (pss_one (ps_ret (pe_cmpR (op_eqD hr.units)
        (pe_lc (own := [("_law_sign", 1)]) (g := gName 1) (te := tVar 1) rfl scLi.nd (pi_str (pv 0)) (blkOk_by (own := [("_law_sign", 1)]) (N := nLi) (sc := defScope sLawIsItem) (by decide +kernel))
          (fun _ _ _ _ _ => pg_name (i := 1) scLi.nd rfl (.inl rfl)) (fun _ _ _ _ _ => pts_one (pt_not (pt_chain op_le_str op_le_str pe_str (pv 1) pe_str))) (fun _ _ _ _ _ => pv 1)) (pe_lst pa_nil) (nomark _)))), ?_⟩
    refine ⟨_, rfl, _, .ty "str", .type (tyD d), .type "str", isStr d, rfl, .ty _, hd.ty, kit_str d, _, rfl, ?_⟩
    cases hd with
    | non => exact iteT (iteT (k H (Same.refl H)))
    | bl b => exact iteT (iteT (k H (Same.refl H)))
    | int i => exact iteT (iteT (k H (Same.refl H)))
    | lst _ _ => exact iteT (iteT (k H (Same.refl H)))
    | tup _ _ => exact iteT (iteT (k H (Same.refl H)))
    | emp _ => exact iteT (iteT (k H (Same.refl H)))
    | str z =>
      refine iteF ?_
      have zl : z.length ≤ 100000 := ok.str
      have chars : ∀ c ∈ z.cps.toList, c < 0x110000 := fun c mc => by
        have q := ok.lay
        simp only [layE, PyData.strOk] at q
        rw [← Array.all_toList, List.all_eq_true] at q
        exact of_decide_eq_true (q c mc)
      have e97 : ("a" : Str).cps.toList = [97] := by decide +kernel
      have e122 : ("z" : Str).cps.toList = [122] := by decide +kernel
      refine ⟨_, rfl, z, rfl, big100 (by omega), 1, _, rfl, rfl, _, rfl, ?_⟩
      by_cases p1 : 1 ≤ z.length
      · have e1 : decide ((1 : Int) ≤ (z.length : Int)) = true := decide_eq_true (by omega)
        rw [e1]
        refine iteT ⟨_, 8, rfl, rfl, _, rfl, ?_⟩
        by_cases p2 : z.length ≤ 8
        · have e2 : decide ((z.length : Int) ≤ 8) = true := decide_eq_true (by omega)
          rw [e2]
          refine iteF ?_
          have e3 : itemD (.str z) = decide ((z.cps.toList.filter fun c => !decide (c ∈ abc.cps.toList)) = []) := by
            rw [itemD_str, decide_eq_true ⟨p1, p2⟩, Bool.true_and, all_id_map, none_left (fun c => decide (c ∈ abc.cps.toList))]
          rw [e3] at k
          refine ⟨_, rfl, z, rfl, fun D hD => lc_it walk_str (fun j H2 => H2 D = some (.lst ((((z.cps.toList.take j).filter fun c => !decide (c ∈ abc.cps.toList)).map fun c => (⟨#[c]⟩ : Str)).map V.str)) ∧ Same H H2) ⟨upd_same, Same.new hD⟩ (fun _ _ _ _ => trivial) ?_ ?_⟩
          · rintro j x H2 H3 hj ⟨h2, s2⟩ ⟨rfl, c, hc, rfl⟩
            have q : z.cps.toList[j]? = some c := by rw [Array.getElem?_toList]; exact hc
            have ai := abc_iff c
            have cr : c < 0x110000 := chars c (List.mem_of_getElem? q)
            have app : decide (c ∈ abc.cps.toList) = false → ∃ acc, H3 D = some (.lst acc) ∧ acc.length < sizeLine ∧ (upd H3 D (.lst (acc ++ [V.str ⟨#[c]⟩]))) D = some (.lst ((((z.cps.toList.take (j + 1)).filter fun c => !decide (c ∈ abc.cps.toList)).map fun c => (⟨#[c]⟩ : Str)).map V.str)) ∧ Same H (upd H3 D (.lst (acc ++ [V.str ⟨#[c]⟩]))) := fun hf => by
              refine ⟨_, h2, ?_, ?_, Same.free2 s2 hD⟩
              · rw [List.length_map, List.length_map]
                have l1 := List.length_filter_le (fun c => !decide (c ∈ abc.cps.toList)) (z.cps.toList.take j)
                rw [List.length_take] at l1
                exact small1000 (by have : j < z.length := hj; omega)
              · rw [upd_same, List.take_add_one, q, List.filter_append, List.map_append, List.map_append]
                simp only [Option.toList, List.filter_cons, hf, Bool.not_false, if_true, List.filter_nil]
                rfl
            have skip : decide (c ∈ abc.cps.toList) = true → H3 D = some (.lst ((((z.cps.toList.take (j + 1)).filter fun c => !decide (c ∈ abc.cps.toList)).map fun c => (⟨#[c]⟩ : Str)).map V.str)) ∧ Same H H3 := fun hf => by
              refine ⟨?_, s2⟩
              rw [h2, List.take_add_one, q, List.filter_append]
              simp only [Option.toList, List.filter_cons, hf, Bool.not_true, List.filter_nil]
              simp
            refine ⟨rfl, _, rfl, _, _, rfl, rfl, _, rfl, ?_⟩
            rw [show (!decide ((⟨#[c]⟩ : Str).cps.toList < ("a" : Str).cps.toList)) = (!decide (([c] : List Nat) < [97])) by rw [e97]]
            cases hb1 : decide (([c] : List Nat) < [97]) with
            | true =>
              rw [hb1] at ai
              exact iteF ⟨false, rfl, iteT ⟨_, rfl, app (by rw [ai]; rfl)⟩⟩
            | false =>
              rw [hb1] at ai
              refine iteT ⟨_, _, rfl, rfl, _, rfl, ?_⟩
              rw [show (!decide (("z" : Str).cps.toList < (⟨#[c]⟩ : Str).cps.toList)) = (!decide (([122] : List Nat) < [c])) by rw [e122]]
              cases hb2 : decide (([122] : List Nat) < [c]) with
              | true =>
                rw [hb2] at ai
                exact iteT ⟨_, rfl, app (by rw [ai]; rfl)⟩
              | false =>
                rw [hb2] at ai
                exact iteF (skip (by rw [ai]; rfl))
          · rintro H2 ⟨h2, s2⟩
            rw [List.take_of_length_le (by rw [Array.length_toList]; exact Nat.le_refl _)] at h2
            have nn : ∀ d ∈ ((z.cps.toList.filter fun c => !decide (c ∈ abc.cps.toList)).map fun c => (⟨#[c]⟩ : Str)).map PyData.str, Nice 0 8 d := fun d md => by
              obtain ⟨y, my, rfl⟩ := List.mem_map.mp md
              obtain ⟨c, mc, rfl⟩ := List.mem_map.mp my
              refine nice_str (fun c2 m2 => ?_) (by show 1 ≤ 8; decide)
              have : c2 = c := by simpa using m2
              rw [this]
              exact chars c (List.mem_filter.mp mc).1
            refine ⟨Nat.zero_le _, fun M hM => ⟨.list (((z.cps.toList.filter fun c => !decide (c ∈ abc.cps.toList)).map fun c => (⟨#[c]⟩ : Str)).map PyData.str), .list (([] : List Str).map PyData.str), .lst (.of (by rw [upd_ne (ne_of_none h2 hM)]; exact h2)) (dp_strs _), .lst (.of upd_same) .nil, (nice_list nn).shaped (by decide), by decide, ?_⟩⟩
            rw [eqv_listS]
            have e4 : decide ((z.cps.toList.filter fun c => !decide (c ∈ abc.cps.toList)).map (fun c => (⟨#[c]⟩ : Str)) = []) = decide ((z.cps.toList.filter fun c => !decide (c ∈ abc.cps.toList)) = []) := decide_eq_decide.mpr List.map_eq_nil_iff
            rw [e4]
            exact k _ (s2.trans (Same.new hM))
        · have e2 : decide ((z.length : Int) ≤ 8) = false := decide_eq_false (by omega)
          rw [e2]
          have e3 : itemD (.str z) = false := by
            rw [itemD_str, decide_eq_false (fun q => p2 q.2), Bool.false_and]
          rw [e3] at k
          exact iteT (k H (Same.refl H))
      · have e1 : decide ((1 : Int) ≤ (z.length : Int)) = false := decide_eq_false (by omega)
        rw [e1]
        have e3 : itemD (.str z) = false := by
          rw [itemD_str, decide_eq_false (fun q => p1 q.1), Bool.false_and]
        rw [e3] at k
        exact iteF ⟨false, rfl, iteT (k H (Same.refl H))⟩
end
end SE
namespace SE
open PySem PySem.Spec PyProof.Rows L2
theorem DpXs.snoc {K : PySem.W.Frag} {H : Hp} : ∀ {vs : List V} {ds : List PyData} {v : V} {d : PyData}, DpXs K H vs ds → DpX K H v d → DpXs K H (vs ++ [v]) (ds ++ [d])
  | _, _, _, _, .nil, h => .cons h .nil
  | _, _, _, _, .cons a r, h => .cons a (DpXs.snoc r h)
theorem eqv_nil (ds : List PyData) : PyData.eqv (.list ds) (.list []) = ds.isEmpty := by
  cases ds with
  | nil => simp [PyData.eqv, PyData.eqvAll]
  | cons a r => simp [PyData.eqv, PyData.eqvAll]
theorem empty_left {α : Type} (f : α → Bool) : ∀ l : List α, (l.filter (fun x => !f x)).isEmpty = (l.map f).all id
  | [] => rfl
  | a :: r => by
    rw [List.filter_cons, List.map_cons, List.all_cons, ← empty_left f r]
    cases h : f a with
    | true => rfl
    | false => rfl
theorem any_act (d : PyData) : ([PyData.str "push", PyData.str "pop"].any fun z => PyData.eqv z d) = actD d := by
  cases d with
  | str z =>
    show (PyData.eqv (.str "push") (.str z) || (PyData.eqv (.str "pop") (.str z) || false)) = decide (z = "push" ∨ z = "pop")
    by_cases h1 : z = "push"
    · subst h1
      simp [PyData.eqv]
    · by_cases h2 : z = "pop"
      · subst h2
        simp [PyData.eqv]
      · have h1' : ¬ ("push" : Str) = z := fun q => h1 q.symm
        have h2' : ¬ ("pop" : Str) = z := fun q => h2 q.symm
        simp [PyData.eqv, h1, h2, h1', h2']
  | _ => simp [PyData.eqv, actD]
section
variable {P : Program} {w : World} {K : PySem.W.Frag} {mg : Str → Option Value} {base : Heap}
/-- one turn of [x for x in xs if not f(x)] -/
theorem left_turn {D : Addr} {H H2 : Hp} {xs : List V} {ds : List PyData} {f : PyData → Bool} {j : Nat} {x : V} (ha : DpXs K H xs ds) (ln : ds.length ≤ 100000) (hD : H D = none) (hx : xs[j]? = some x) (hW : ∃ ws, H2 D = some (.lst ws) ∧ DpXs K H ws ((ds.take j).filter fun d => !f d) ∧ Same H H2) :
    ∃ d, DpX K H2 x d ∧ d ∈ ds ∧ ∀ H3, Same H2 H3 → (f d = false → ∃ acc, H3 D = some (.lst acc) ∧ acc.length < sizeLine ∧ ∃ ws, (upd H3 D (.lst (acc ++ [x]))) D = some (.lst ws) ∧ DpXs K H ws ((ds.take (j + 1)).filter fun d => !f d) ∧ Same H (upd H3 D (.lst (acc ++ [x])))) ∧
      (f d = true → ∃ ws, H3 D = some (.lst ws) ∧ DpXs K H ws ((ds.take (j + 1)).filter fun d => !f d) ∧ Same H H3) := by
  obtain ⟨ws, hw, hP, s2⟩ := hW
  obtain ⟨d, hd, hv⟩ := ha.at hx
  refine ⟨d, DpX.same s2 d x hv, List.mem_of_getElem? hd, fun H3 s3 => ⟨fun hf => ⟨ws, s3 _ _ hw, ?_, ws ++ [x], upd_same, ?_, Same.free2 (s2.trans s3) hD⟩, fun hf => ⟨ws, s3 _ _ hw, ?_, s2.trans s3⟩⟩⟩
  · have l1 := hP.len
    have l2 := List.length_filter_le (fun d => !f d) (ds.take j)
    rw [List.length_take] at l2
    rw [sizeLine_eq]
    omega
  · rw [List.take_add_one, hd, List.filter_append]
    simp only [Option.toList, List.filter_cons, hf, Bool.not_false, if_true, List.filter_nil]
    exact hP.snoc hv
  · rw [List.take_add_one, hd, List.filter_append]
    simp only [Option.toList, List.filter_cons, hf, Bool.not_true, List.filter_nil]
    simpa using hP
/-! ### _law_is_word -/
abbrev nLw : List Str := ["_law_what", "_law_item"]
theorem scLw : FnScope nLw ["_law_what"] (defScope sLawIsWord) := ⟨rfl, rfl, rfl, by decide +kernel, rfl, by decide +kernel, by decide +kernel⟩
theorem has_lWord (D : Def K mg "_law_is_word" sLawIsWord) (G : Has P w K mg base "_law_is_item" 1 ["_law_what"] [] (spX K itemD)) (B : Blt mg) : Has P w K mg base "_law_is_word" 2 ["_law_what"] [] (spX K wordD) := by
  refine has_of D scLw (fun _ _ _ _ _ _ us hl => match us, hl with | [_], _ => rfl) (fun xs H Q E h => ?_) (fun f cv A out s H xs Q E hr h => ?_)
  · obtain ⟨v, d, rfl, _⟩ := h
    rfl
  · obtain ⟨v, d, rfl, hd, ok, k⟩ := h
    refine ⟨_, pss_one (ps_ret (pe_and (pe_callB call_isi (by rfl) B.isi (by decide +kernel) (pa_cons (pv 0) (pa_cons (pe_bltn (v := .ty "tuple") (by rfl) B.tup (by decide +kernel) rfl) pa_nil)))
      (pe_one (pe_cmpR (op_eqE hr.units)
        (pe_lc (own := [("_law_item", 1)]) (g := gName 1) (tt := tNot (tB (tCall (spX K itemD) [] E0 (tCons (tVar 1) tNil)))) (te := tVar 1) rfl scLw.nd (pi_tup (pv 0)) (blkOk_by (own := [("_law_item", 1)]) (N := nLw) (sc := defScope sLawIsWord) (by decide +kernel))
          (fun _ _ _ _ _ => pg_name (i := 1) scLw.nd rfl (.inl rfl)) (fun _ _ _ _ _ => pts_one (pt_not (pt_val (pe_has G hr (pa_cons (pv 1) pa_nil))))) (fun _ _ _ _ _ => pv 1)) (pe_lst pa_nil) (nomark _))))), ?_⟩
    refine ⟨_, rfl, _, .ty "tuple", .type (tyD d), .type "tuple", isTup d, rfl, .ty _, hd.ty, kit_tup d, _, rfl, ?_⟩
    cases hd with
    | non => exact iteF (k H (Same.refl H))
    | bl b => exact iteF (k H (Same.refl H))
    | int i => exact iteF (k H (Same.refl H))
    | str z => exact iteF (k H (Same.refl H))
    | lst _ _ => exact iteF (k H (Same.refl H))
    | emp _ => exact iteF (k H (Same.refl H))
    | @tup a xs ds hT ha =>
      refine iteT ?_
      obtain ⟨oks, ln⟩ := ok.tuple
      have le := ha.len
      refine ⟨_, rfl, a, rfl, ⟨_, hT⟩, fun D hD => lc_tup (K := K) (a := a) (xs := xs) (fun j H2 => ∃ ws, H2 D = some (.lst ws) ∧ DpXs K H ws ((ds.take j).filter fun d => !itemD d) ∧ Same H H2) ⟨[], upd_same, .nil, Same.new hD⟩ (fun j H2 _ q => ?_) (fun j x H2 hx hW => ?_) (fun H2 hW => ?_)⟩
      · obtain ⟨_, _, _, s2⟩ := q
        exact Same.tup s2 hT
      · obtain ⟨e, he, me, go⟩ := left_turn ha ln hD hx hW
        refine ⟨rfl, _, rfl, x, e, rfl, he, oks e me, fun H3 s3 => ⟨_, rfl, ?_⟩⟩
        obtain ⟨g1, g2⟩ := go H3 s3
        cases hc : itemD e with
        | true => exact iteF (g2 hc)
        | false => exact iteT ⟨_, rfl, g1 hc⟩
      · obtain ⟨ws, hw, hP, s2⟩ := hW
        rw [le, List.take_length] at hP
        refine ⟨Nat.zero_le _, fun M hM => ⟨_, .lst (.of (by rw [upd_ne (ne_of_none hw hM)]; exact hw)) (DpXs.same (s2.trans (Same.new hM)) _ _ hP), .lst (.of upd_same) .nil, ?_⟩⟩
        rw [eqv_nil, empty_left]
        exact k _ (s2.trans (Same.new hM))
end
end SE
namespace SE
open PySem PySem.Spec PyProof.Rows L2
theorem in_room {Y : Around} {k : Nat} (h : Room k Y) : Y.units + 65 < cLine := by
  have := h.un
  omega
section
variable {P : Program} {w : World} {K : PySem.W.Frag} {mg : Str → Option Value} {base : Heap}
/-! ### _law_is_step -/
theorem scLs : FnScope ["_law_what"] ["_law_what"] (defScope sLawIsStep) := ⟨rfl, rfl, rfl, by decide +kernel, rfl, by decide +kernel, by decide +kernel⟩
theorem has_lStep (D : Def K mg "_law_is_step" sLawIsStep) (G : Has P w K mg base "_law_is_item" 1 ["_law_what"] [] (spX K itemD)) (B : Blt mg) : Has P w K mg base "_law_is_step" 2 ["_law_what"] [] (spX K stpD) := by
  refine has_of D scLs (fun _ _ _ _ _ _ us hl => match us, hl with | [_], _ => rfl) (fun xs H Q E h => ?_) (fun f cv A out s H xs Q E hr h => ?_)
  · obtain ⟨v, dd, rfl, _⟩ := h
    rfl
  · obtain ⟨v, dd, rfl, hd, ok, k⟩ := h
    refine ⟨_, pss_cons (ps_if (PW.pt (pw_or (pt_not (pt_val (pe_callB call_isi (by rfl) B.isi (by decide +kernel) (pa_cons (pv 0) (pa_cons (pe_bltn (v := .ty "tuple") (by rfl) B.tup (by decide +kernel) rfl) pa_nil)))))
        (pw_or1 (pt_cmpR op_ne (pe_callB call_len_seq (by rfl) B.len PySem.boot_len (pa_cons (pv 0) pa_nil)) pe_int (nomark _))))) (pss_one (ps_ret pe_bl)) pss_nil)
      (pss_one (ps_ret (pe_and (pe_cmpR (op_inE (in_room hr)) (pe_ix ix_tup (pv 0) pe_int (fun _ _ => rfl)) (pe_lst (pa_cons pe_str (pa_cons pe_str pa_nil))) (by rfl)) (pe_one (pe_has G hr (pa_cons (pe_ix ix_tup (pv 0) pe_int (fun _ _ => rfl)) pa_nil)))))), ?_⟩
    refine ⟨_, rfl, _, .ty "tuple", .type (tyD dd), .type "tuple", isTup dd, rfl, .ty _, hd.ty, kit_tup dd, _, rfl, ?_⟩
    cases hd with
    | non => exact iteT (iteT (k H (Same.refl H)))
    | bl b => exact iteT (iteT (k H (Same.refl H)))
    | int i => exact iteT (iteT (k H (Same.refl H)))
    | str z => exact iteT (iteT (k H (Same.refl H)))
    | lst _ _ => exact iteT (iteT (k H (Same.refl H)))
    | emp _ => exact iteT (iteT (k H (Same.refl H)))
    | @tup t xs ds hT ha =>
      refine iteF ?_
      obtain ⟨oks, ln⟩ := ok.tuple
      refine ⟨_, rfl, t, _, rfl, .inr hT, rfl, _, rfl, ?_⟩
      have le := ha.len
      by_cases h2 : ds.length = 2
      · have hx2 : decide (V.int ((xs.length : Nat) : Int) = V.int 2) = true := decide_eq_true (by rw [le, h2]; rfl)
        rw [hx2]
        refine iteF ?_
        obtain ⟨e1, e2, rfl⟩ : ∃ e1 e2, ds = [e1, e2] := by
          cases ds with
          | nil => cases h2
          | cons e1 r =>
            cases r with
            | nil => cases h2
            | cons e2 r =>
              cases r with
              | nil => exact ⟨e1, e2, rfl⟩
              | cons e3 r => simp at h2
        cases ha with
        | cons h1 hb =>
          cases hb with
          | cons h2' hc =>
            cases hc
            rename_i x1 x2
            have k' : ∀ H', Same H H' → Q (.bl (actD e1 && itemD e2)) H' := k
            refine ⟨_, rfl, t, [x1, x2], 0, x1, rfl, rfl, hT, rfl, (by show 2 ≤ sizeLine; decide), fun M hM => ?_⟩
            have sM := Same.new (o := .lst [.str "push", .str "pop"]) hM
            refine ⟨e1, ["push", "pop"], DpX.same sM e1 x1 h1, .lst (.of upd_same) (.cons (.str _) (.cons (.str _) .nil)), _, rfl, ?_⟩
            simp only [List.map_cons, List.map_nil]
            rw [any_act]
            cases hz : actD e1 with
            | false =>
              rw [hz] at k'
              exact iteF (k' _ sM)
            | true =>
              rw [hz] at k'
              exact iteT ⟨_, rfl, t, [x1, x2], 1, x2, rfl, rfl, Same.tup sM hT, rfl, x2, e2, rfl, DpX.same sM e2 x2 h2', oks e2 (by simp), fun H' s' => k' H' (sM.trans s')⟩
      · have hx2 : decide (V.int ((xs.length : Nat) : Int) = V.int 2) = false := decide_eq_false (by
          intro q
          have q2 := V.int.inj q
          omega)
        rw [hx2]
        have hk : stpD (.tuple ds) = false := by
          cases ds with
          | nil => rfl
          | cons e1 r =>
            cases r with
            | nil => rfl
            | cons e2 r =>
              cases r with
              | nil => exact absurd rfl h2
              | cons e3 r => rfl
        rw [hk] at k
        exact iteT (k H (Same.refl H))
/-! ### _law_is_sequence -/
abbrev nLq : List Str := ["_law_what", "_law_step"]
theorem scLq : FnScope nLq ["_law_what"] (defScope sLawIsSequence) := ⟨rfl, rfl, rfl, by decide +kernel, rfl, by decide +kernel, by decide +kernel⟩
theorem has_lSeq (D : Def K mg "_law_is_sequence" sLawIsSequence) (G : Has P w K mg base "_law_is_step" 2 ["_law_what"] [] (spX K stpD)) (B : Blt mg) : Has P w K mg base "_law_is_sequence" 3 ["_law_what"] [] (spX K seqD) := by
  refine has_of D scLq (fun _ _ _ _ _ _ us hl => match us, hl with | [_], _ => rfl) (fun xs H Q E h => ?_) (fun f cv A out s H xs Q E hr h => ?_)
  · obtain ⟨v, d, rfl, _⟩ := h
    rfl
  · obtain ⟨v, d, rfl, hd, ok, k⟩ := h
    have no : isLst d = false → isTup d = false → seqD d = false → ∃ t, PSs (Bx P w K mg base nLq "_law_is_sequence" sLawIsSequence f cv A out s H E) (defBody sLawIsSequence) t ∧ t { nx := fun _ H2 => Q .non H2, rt := Q } (start nLq [v]) H := fun e1 e2 e3 => by
      refine ⟨_, pss_cons (ps_if (PW.pt (pw_or (pt_not (pt_val (pe_callB call_isiT (by rfl) B.isi (by decide +kernel) (pa_cons (pv 0) (pa_cons (pe_tup (pa_cons (pe_bltn (v := .ty "list") (by rfl) B.lst (by decide +kernel) rfl) (pa_cons (pe_bltn (v := .ty "tuple") (by rfl) B.tup (by decide +kernel) rfl) pa_nil))) pa_nil)))))
        (pw_or1 (pt_cmpR op_gt (pe_callB call_len_seq (by rfl) B.len PySem.boot_len (pa_cons (pv 0) pa_nil)) pe_int (nomark _))))) (pss_one (ps_ret pe_bl)) pss_nil) pss_never, ?_⟩
      refine ⟨_, rfl, (by show 2 ≤ sizeLine; decide), fun t ht => ?_⟩
      have s1 : Same H (upd H t (.tup [.ty "list", .ty "tuple"])) := Same.new ht
      refine ⟨_, t, _, .type (tyD d), _, isLst d || isTup d, rfl, upd_same, .cons (.ty _) (.cons (.ty _) .nil), (DpX.same s1 d v hd).ty, kit_lt d, _, rfl, ?_⟩
      rw [e1, e2]
      rw [e3] at k
      exact iteT (iteT (k _ s1))
    cases hd with
    | non => exact no rfl rfl rfl
    | bl b => exact no rfl rfl rfl
    | int i => exact no rfl rfl rfl
    | str z => exact no rfl rfl rfl
    | emp _ => exact no rfl rfl rfl
    | @tup a xs ds hT ha =>
      clear no
      refine ⟨_, pss_cons (ps_if (PW.pt (pw_or (pt_not (pt_val (pe_callB call_isiT (by rfl) B.isi (by decide +kernel) (pa_cons (pv 0) (pa_cons (pe_tup (pa_cons (pe_bltn (v := .ty "list") (by rfl) B.lst (by decide +kernel) rfl) (pa_cons (pe_bltn (v := .ty "tuple") (by rfl) B.tup (by decide +kernel) rfl) pa_nil))) pa_nil)))))
        (pw_or1 (pt_cmpR op_gt (pe_callB call_len_seq (by rfl) B.len PySem.boot_len (pa_cons (pv 0) pa_nil)) pe_int (nomark _))))) (pss_one (ps_ret pe_bl)) pss_nil)
        (pss_one (ps_ret (pe_cmpR (op_eqE hr.units)
          (pe_lc (own := [("_law_step", 1)]) (g := gName 1) (tt := tNot (tB (tCall (spX K stpD) [] E0 (tCons (tVar 1) tNil)))) (te := tVar 1) rfl scLq.nd (pi_tup (pv 0)) (blkOk_by (own := [("_law_step", 1)]) (N := nLq) (sc := defScope sLawIsSequence) (by decide +kernel))
            (fun _ _ _ _ _ => pg_name (i := 1) scLq.nd rfl (.inl rfl)) (fun _ _ _ _ _ => pts_one (pt_not (pt_val (pe_has G hr (pa_cons (pv 1) pa_nil))))) (fun _ _ _ _ _ => pv 1)) (pe_lst pa_nil) (nomark _)))), ?_⟩
      refine ⟨_, rfl, (by show 2 ≤ sizeLine; decide), fun t ht => ?_⟩
      have s1 : Same H (upd H t (.tup [.ty "list", .ty "tuple"])) := Same.new ht
      have hT1 := Same.tup s1 hT
      refine ⟨_, t, _, .type "tuple", _, true, rfl, upd_same, .cons (.ty _) (.cons (.ty _) .nil), ty_tup hT1, kit_lt (.tuple ds), _, rfl, iteF ?_⟩
      refine ⟨_, rfl, a, xs, rfl, .inr hT1, _, 1000, rfl, rfl, _, rfl, ?_⟩
      have k' : ∀ H', Same H H' → Q (.bl (decide (ds.length ≤ 1000) && (ds.map stpD).all id)) H' := k
      obtain ⟨oks, ln⟩ := ok.tuple
      have le := ha.len
      by_cases hc : ds.length ≤ 1000
      · have e1 : decide ((1000 : Int) < (xs.length : Int)) = false := decide_eq_false (by omega)
        rw [e1]
        rw [decide_eq_true hc, Bool.true_and] at k'
        refine iteF ?_
        have ha1 := DpXs.same s1 _ _ ha
        refine ⟨_, rfl, a, rfl, ⟨_, hT1⟩, fun D hD => lc_tup (K := K) (a := a) (xs := xs) (fun j H2 => ∃ ws, H2 D = some (.lst ws) ∧ DpXs K (upd H t (.tup [.ty "list", .ty "tuple"])) ws ((ds.take j).filter fun d => !stpD d) ∧ Same (upd H t (.tup [.ty "list", .ty "tuple"])) H2) ⟨[], upd_same, .nil, Same.new hD⟩ (fun j H2 _ q => ?_) (fun j x H2 hx hW => ?_) (fun H2 hW => ?_)⟩
        · obtain ⟨_, _, _, s2⟩ := q
          exact Same.tup s2 hT1
        · obtain ⟨e, he, me, go⟩ := left_turn ha1 ln hD hx hW
          refine ⟨rfl, _, rfl, x, e, rfl, he, oks e me, fun H3 s3 => ⟨_, rfl, ?_⟩⟩
          obtain ⟨g1, g2⟩ := go H3 s3
          cases hc : stpD e with
          | true => exact iteF (g2 hc)
          | false => exact iteT ⟨_, rfl, g1 hc⟩
        · obtain ⟨ws, hw, hP, s2⟩ := hW
          rw [le, List.take_length] at hP
          refine ⟨Nat.zero_le _, fun M hM => ⟨_, .lst (.of (by rw [upd_ne (ne_of_none hw hM)]; exact hw)) (DpXs.same (s2.trans (Same.new hM)) _ _ hP), .lst (.of upd_same) .nil, ?_⟩⟩
          rw [eqv_nil, empty_left]
          exact k' _ ((s1.trans s2).trans (Same.new hM))
      · have e1 : decide ((1000 : Int) < (xs.length : Int)) = true := decide_eq_true (by omega)
        rw [e1]
        rw [decide_eq_false hc, Bool.false_and] at k'
        exact iteT (k' _ s1)
    | @lst a xs ds hT ha =>
      clear no
      refine ⟨_, pss_cons (ps_if (PW.pt (pw_or (pt_not (pt_val (pe_callB call_isiT (by rfl) B.isi (by decide +kernel) (pa_cons (pv 0) (pa_cons (pe_tup (pa_cons (pe_bltn (v := .ty "list") (by rfl) B.lst (by decide +kernel) rfl) (pa_cons (pe_bltn (v := .ty "tuple") (by rfl) B.tup (by decide +kernel) rfl) pa_nil))) pa_nil)))))
        (pw_or1 (pt_cmpR op_gt (pe_callB call_len_seq (by rfl) B.len PySem.boot_len (pa_cons (pv 0) pa_nil)) pe_int (nomark _))))) (pss_one (ps_ret pe_bl)) pss_nil)
        (pss_one (ps_ret (pe_cmpR (op_eqE hr.units)
          (pe_lc (own := [("_law_step", 1)]) (g := gName 1) (tt := tNot (tB (tCall (spX K stpD) [] E0 (tCons (tVar 1) tNil)))) (te := tVar 1) rfl scLq.nd (pi_list (pv 0)) (blkOk_by (own := [("_law_step", 1)]) (N := nLq) (sc := defScope sLawIsSequence) (by decide +kernel))
            (fun _ _ _ _ _ => pg_name (i := 1) scLq.nd rfl (.inl rfl)) (fun _ _ _ _ _ => pts_one (pt_not (pt_val (pe_has G hr (pa_cons (pv 1) pa_nil))))) (fun _ _ _ _ _ => pv 1)) (pe_lst pa_nil) (nomark _)))), ?_⟩
      refine ⟨_, rfl, (by show 2 ≤ sizeLine; decide), fun t ht => ?_⟩
      have s1 : Same H (upd H t (.tup [.ty "list", .ty "tuple"])) := Same.new ht
      have hT1 := Same.seq s1 hT
      refine ⟨_, t, _, .type "list", _, true, rfl, upd_same, .cons (.ty _) (.cons (.ty _) .nil), ty_lst hT1, kit_lt (.list ds), _, rfl, iteF ?_⟩
      refine ⟨_, rfl, a, xs, rfl, .inl hT1, _, 1000, rfl, rfl, _, rfl, ?_⟩
      have k' : ∀ H', Same H H' → Q (.bl (decide (ds.length ≤ 1000) && (ds.map stpD).all id)) H' := k
      obtain ⟨oks, ln⟩ := ok.list
      have le := ha.len
      by_cases hc : ds.length ≤ 1000
      · have e1 : decide ((1000 : Int) < (xs.length : Int)) = false := decide_eq_false (by omega)
        rw [e1]
        rw [decide_eq_true hc, Bool.true_and] at k'
        refine iteF ?_
        have ha1 := DpXs.same s1 _ _ ha
        refine ⟨_, rfl, a, rfl, ⟨_, hT1⟩, fun D hD => lc_list (K := K) (a := a) (xs := xs) (fun j H2 => ∃ ws, H2 D = some (.lst ws) ∧ DpXs K (upd H t (.tup [.ty "list", .ty "tuple"])) ws ((ds.take j).filter fun d => !stpD d) ∧ Same (upd H t (.tup [.ty "list", .ty "tuple"])) H2) ⟨[], upd_same, .nil, Same.new hD⟩ (fun j H2 _ q => ?_) (fun j x H2 hx hW => ?_) (fun H2 hW => ?_)⟩
        · obtain ⟨_, _, _, s2⟩ := q
          exact Same.seq s2 hT1
        · obtain ⟨e, he, me, go⟩ := left_turn ha1 ln hD hx hW
          refine ⟨rfl, _, rfl, x, e, rfl, he, oks e me, fun H3 s3 => ⟨_, rfl, ?_⟩⟩
          obtain ⟨g1, g2⟩ := go H3 s3
          cases hc : stpD e with
          | true => exact iteF (g2 hc)
          | false => exact iteT ⟨_, rfl, g1 hc⟩
        · obtain ⟨ws, hw, hP, s2⟩ := hW
          rw [le, List.take_length] at hP
          refine ⟨Nat.zero_le _, fun M hM => ⟨_, .lst (.of (by rw [upd_ne (ne_of_none hw hM)]; exact hw)) (DpXs.same (s2.trans (Same.new hM)) _ _ hP), .lst (.of upd_same) .nil, ?_⟩⟩
          rw [eqv_nil, empty_left]
          exact k' _ ((s1.trans s2).trans (Same.new hM))
      · have e1 : decide ((1000 : Int) < (xs.length : Int)) = true := decide_eq_true (by omega)
        rw [e1]
        rw [decide_eq_false hc, Bool.false_and] at k'
        exact iteT (k' _ s1)
end
end SE
namespace SE
open PySem PySem.Spec PyProof.Rows L2
theorem nx_bool (b : Bool) : NX 0 8 (.bool b) := by
  refine ⟨?_, ?_, ?_, ?_, ?_⟩
  · simp only [layE]
  · simp only [PyData.depth]; exact Nat.le_refl _
  · simp only [PyData.showable]
  · simp only [PyData.intsShort]
  · simp only [PyData.weight]; decide
theorem nx_three (a b c : Bool) : OkD (.list [.bool a, .bool b, .bool c]) := by
  refine (nx_list (k := 0) (B := 8) fun d m => ?_).mono (by decide) (by show 3 * 9 ≤ 100000; decide)
  simp only [List.mem_cons, List.not_mem_nil, or_false] at m
  rcases m with e | e | e <;> rw [e] <;> exact nx_bool _
section
variable {P : Program} {w : World} {K : PySem.W.Frag} {mg : Str → Option Value} {base : Heap}
/-! ### _law_right -/
def spRt (K : PySem.W.Frag) : Sp := fun xs H Q _ => ∃ (v : V) (d : PyData), xs = [v] ∧ DpX K H v d ∧ OkD d ∧ ∀ H', Same H H' → Q (.bl true) H'
abbrev nRt : List Str := ["_law_what", "_law_kept", "_law_told"]
theorem scRt : FnScope nRt ["_law_what"] (defScope sRight) := ⟨rfl, rfl, rfl, by decide +kernel, rfl, by decide +kernel, by decide +kernel⟩
theorem has_rt (D : Def K mg "_law_right" sRight) (GI : Has P w K mg base "is_item" 1 ["value"] [] (spX K itemD)) (GW : Has P w K mg base "is_word" 2 ["value"] [] (spX K wordD)) (GS : Has P w K mg base "is_sequence" 3 ["value"] [] (spX K seqD))
    (LI : Has P w K mg base "_law_is_item" 1 ["_law_what"] [] (spX K itemD)) (LW : Has P w K mg base "_law_is_word" 2 ["_law_what"] [] (spX K wordD)) (LS : Has P w K mg base "_law_is_sequence" 3 ["_law_what"] [] (spX K seqD)) (mp : mg "repr" = none) :
    GHas P w K mg base "_law_right" 4 ["_law_what"] (spRt K) := by
  refine ghas_of D scRt (fun _ _ _ _ _ _ us hl => match us, hl with | [_], _ => rfl) (fun xs H Q E h => ?_) (fun f cv A out s H xs Q E hgu hr h => ?_)
  · obtain ⟨v, d, rfl, _⟩ := h
    rfl
  · obtain ⟨v, d, rfl, hd, ok, k⟩ := h
    have hr1 : Room 1 _ := hr.mono (by decide)
    have hr2 : Room 2 _ := hr.mono (by decide)
    refine ⟨_, pss_cons (ps_set (i := 1) scRt.nd rfl (.inl rfl) (pe_callB (call_repX hgu hr.units) (by rfl) mp (by decide +kernel) (pa_cons (pv 0) pa_nil)))
      (pss_cons (ps_set (i := 2) scRt.nd rfl (.inl rfl) (pe_lst (pa_cons (pe_has GI hr1 (pa_cons (pv 0) pa_nil)) (pa_cons (pe_has GW hr2 (pa_cons (pv 0) pa_nil)) (pa_cons (pe_has GS hr (pa_cons (pv 0) pa_nil)) pa_nil)))))
      (pss_one (ps_ret (pe_and (pe_cmpR op_eq (pe_callB (call_repX hgu hr.units) (by rfl) mp (by decide +kernel) (pa_cons (pv 2) pa_nil)) (pe_callB (call_repX hgu hr.units) (by rfl) mp (by decide +kernel) (pa_cons (pe_lst (pa_cons (pe_has LI hr1 (pa_cons (pv 0) pa_nil)) (pa_cons (pe_has LW hr2 (pa_cons (pv 0) pa_nil)) (pa_cons (pe_has LS hr (pa_cons (pv 0) pa_nil)) pa_nil)))) pa_nil)) (nomark _))
        (pe_one (pe_cmpR op_eq (pe_callB (call_repX hgu hr.units) (by rfl) mp (by decide +kernel) (pa_cons (pv 0) pa_nil)) (pv 1) (nomark _))))))), ?_⟩
    have okT := nx_three (itemD d) (wordD d) (seqD d)
    refine ⟨_, rfl, v, d, rfl, hd, ok.sh, ok.dep, ok.shown (by decide) (by decide), ?_⟩
    refine ⟨_, rfl, v, d, rfl, hd, ok, fun H1 s1 => ⟨_, rfl, v, d, rfl, DpX.same s1 d v hd, ok, fun H2 s2 => ⟨_, rfl, v, d, rfl, DpX.same (s1.trans s2) d v hd, ok, fun H3 s3 => ?_⟩⟩⟩
    have s13 := (s1.trans s2).trans s3
    refine ⟨by show 3 ≤ sizeLine; decide, fun L hL => ?_⟩
    have sL := Same.new (o := .lst [.bl (itemD d), .bl (wordD d), .bl (seqD d)]) hL
    have s4 := s13.trans sL
    refine ⟨_, rfl, _, _, rfl, .lst (.of upd_same) (.cons (.bl _) (.cons (.bl _) (.cons (.bl _) .nil))), okT.sh, okT.dep, okT.shown (by decide) (by decide), ?_⟩
    refine ⟨_, rfl, v, d, rfl, DpX.same s4 d v hd, ok, fun H5 s5 => ⟨_, rfl, v, d, rfl, DpX.same (s4.trans s5) d v hd, ok, fun H6 s6 => ⟨_, rfl, v, d, rfl, DpX.same ((s4.trans s5).trans s6) d v hd, ok, fun H7 s7 => ?_⟩⟩⟩
    have s47 := ((s4.trans s5).trans s6).trans s7
    refine ⟨by show 3 ≤ sizeLine; decide, fun M hM => ?_⟩
    have s8 := s47.trans (Same.new (o := .lst [.bl (itemD d), .bl (wordD d), .bl (seqD d)]) hM)
    refine ⟨_, _, rfl, .lst (.of upd_same) (.cons (.bl _) (.cons (.bl _) (.cons (.bl _) .nil))), okT.sh, okT.dep, okT.shown (by decide) (by decide), rfl, true, congrArg V.bl (decide_eq_true rfl), iteT ?_⟩
    refine ⟨_, rfl, v, d, rfl, DpX.same s8 d v hd, ok.sh, ok.dep, ok.shown (by decide) (by decide), _, rfl, rfl, ?_⟩
    rw [decide_eq_true rfl]
    exact k _ s8
end
end SE
namespace SE
open PySem PySem.Spec PyProof.Rows L2
/-! ### a heap without the pool -/
def hide (p : Addr) (H : Hp) : Hp := fun b => if b = p then none else H b
theorem hide_ne {p b : Addr} {H : Hp} (h : b ≠ p) : hide p H b = H b := if_neg h
theorem hide_same (p : Addr) (H : Hp) : Same (hide p H) H := fun b o h => by
  unfold hide at h
  by_cases c : b = p
  · rw [if_pos c] at h
    cases h
  · rw [if_neg c] at h
    exact h
theorem hide_but {p : Addr} {H H' : Hp} (h : But p H H') : Same (hide p H) (hide p H') := fun b o q => by
  unfold hide at q ⊢
  by_cases c : b = p
  · rw [if_pos c] at q
    cases q
  · rw [if_neg c] at q ⊢
    exact h b o c q
theorem hide_of {p : Addr} {H H' : Hp} (h : Same H H') : Same (hide p H) (hide p H') := hide_but (But.of h)
theorem DpX.out {K : PySem.W.Frag} {p : Addr} {H : Hp} {v : V} {d : PyData} (h : DpX K (hide p H) v d) : DpX K H v d := DpX.same (hide_same p H) d v h
theorem DpX.but {K : PySem.W.Frag} {p : Addr} {H H' : Hp} {v : V} {d : PyData} (h : DpX K (hide p H) v d) (b : But p H H') : DpX K (hide p H') v d := DpX.same (hide_but b) d v h
def low (z : Str) : Bool := z.cps.toList.all fun c => decide (c < 1114112)
theorem nx_str {z : Str} (h : low z = true) (hB : z.length ≤ 16) : NX 0 16 (.str z) :=
  (nice_str (fun c hc => of_decide_eq_true (List.all_eq_true.mp h c hc)) hB).nx
theorem item_low {z : Str} (h : Item z) : low z = true := List.all_eq_true.mpr fun c hc => decide_eq_true (by have := (h.low c hc).2; omega)
theorem item_more {z : Str} (h : Item z) : NX 0 16 (.str (z ++ Str.ofString "abcdefgh")) := by
  refine nx_str ?_ ?_
  · unfold low
    rw [cps_add, List.all_append, Bool.and_eq_true]
    exact ⟨item_low h, by decide +kernel⟩
  · rw [len_add]
    have := h.most
    have e : (Str.ofString "abcdefgh").length = 8 := by decide +kernel
    omega
/-- the values of other kinds -/
def odds (z : Str) : List PyData := [.none, .bool true, .int 0, .str "", .str "A", .str "a1", .str "a b", .str "abcdefghi", .tuple [.str z], .list [.str z], .dict [], .str (z ++ "abcdefgh"), .str "a\n", .str "`", .str "{a"]
theorem odd_nx {z : Str} (h : Item z) : ∀ d ∈ odds z, NX 1 32 d := by
  intro d m
  have k0 : ∀ s : Str, low s = true → s.length ≤ 16 → NX 1 32 (.str s) := fun s a b => (nx_str a b).mono (by decide) (by decide)
  have kz : NX 0 16 (.str z) := (nx_str (item_low h) (by have := h.most; omega))
  have one : ∀ e ∈ [PyData.str z], NX 0 16 e := fun e m => by rw [List.mem_singleton.mp m]; exact kz
  unfold odds at m
  simp only [List.mem_cons, List.not_mem_nil, or_false] at m
  rcases m with e | e | e | e | e | e | e | e | e | e | e | e | e | e | e <;> rw [e]
  · exact ⟨by simp only [layE], by simp only [PyData.depth]; decide, by simp only [PyData.showable], by simp only [PyData.intsShort], by simp only [PyData.weight]; decide⟩
  · exact (nx_bool true).mono (by decide) (by decide)
  · exact ⟨by simp only [layE], by simp only [PyData.depth]; decide, by simp only [PyData.showable]; decide, by simp only [PyData.intsShort]; decide, by simp only [PyData.weight]; decide⟩
  · exact k0 _ (by decide +kernel) (by decide +kernel)
  · exact k0 _ (by decide +kernel) (by decide +kernel)
  · exact k0 _ (by decide +kernel) (by decide +kernel)
  · exact k0 _ (by decide +kernel) (by decide +kernel)
  · exact k0 _ (by decide +kernel) (by decide +kernel)
  · exact (nx_tuple one).mono (by decide) (by show 1 * 17 ≤ 32; decide)
  · exact (nx_list one).mono (by decide) (by show 1 * 17 ≤ 32; decide)
  · exact ⟨by simp only [layE]; rfl, by simp only [PyData.depth, PyData.depthKv]; decide, by simp only [PyData.showable, PyData.showableKv], by simp only [PyData.intsShort], by simp only [PyData.weight, PyData.weightKv]; decide⟩
  · exact (item_more h).mono (by decide) (by decide)
  · exact k0 _ (by decide +kernel) (by decide +kernel)
  · exact k0 _ (by decide +kernel) (by decide +kernel)
  · exact k0 _ (by decide +kernel) (by decide +kernel)
section
variable {P : Program} {w : World} {K : PySem.W.Frag} {mg : Str → Option Value} {base : Heap}
/-! ### _law_odd -/
def spOdd (K : PySem.W.Frag) : Sp := fun xs H Q _ => ∃ (p : Addr) (z : Str), xs = [.ref p, .str z] ∧ Pool H p ∧ Item z ∧
  ∀ (v : V) (d : PyData) (H' : Hp), But p H H' → Pool H' p → DpX K (hide p H') v d → NX 1 32 d → Q v H'
abbrev nOdd : List Str := ["_law_pool_here", "_law_item", "_law_some"]
theorem scOdd : FnScope nOdd ["_law_pool_here", "_law_item"] (defScope sLawOdd) := ⟨rfl, rfl, rfl, by decide +kernel, rfl, by decide +kernel, by decide +kernel⟩
theorem has_odd (D : Def K mg "_law_odd" sLawOdd) (GT : Has P w K mg base "_law_take" 1 ["_law_pool_here", "_law_many"] [] spTake) (ml : mg "len" = none) :
    Has P w K mg base "_law_odd" 2 ["_law_pool_here", "_law_item"] [] (spOdd K) := by
  refine has_of D scOdd (fun _ _ _ _ _ _ us hl => match us, hl with | [_, _], _ => rfl) (fun xs H Q E h => ?_) (fun f cv A out s H xs Q E hr h => ?_)
  · obtain ⟨p, z, rfl, _⟩ := h
    rfl
  · obtain ⟨p, z, rfl, hp, iz, k⟩ := h
    refine ⟨_, pss_cons (ps_set (i := 2) scOdd.nd rfl (.inl rfl) (pe_lst (pa_cons pe_non (pa_cons pe_bl (pa_cons pe_int (pa_cons pe_str (pa_cons pe_str (pa_cons pe_str (pa_cons pe_str (pa_cons pe_str
        (pa_cons (pe_tup (pa_cons (pv 1) pa_nil)) (pa_cons (pe_lst (pa_cons (pv 1) pa_nil)) (pa_cons pe_dnewK (pa_cons (pe_op op_add_str (pv 1) pe_str) (pa_cons pe_str (pa_cons pe_str (pa_cons pe_str pa_nil)))))))))))))))))
      (pss_one (ps_ret (pe_ix ix_list (pv 2) (pe_has GT hr (pa_cons (pv 0) (pa_cons (pe_callB call_len_seq (by rfl) ml PySem.boot_len (pa_cons (pv 2) pa_nil)) pa_nil))) (fun _ _ => rfl)))), ?_⟩
    refine ⟨_, rfl, (by show 1 ≤ sizeLine; decide), fun t ht => ?_⟩
    refine ⟨_, rfl, (by show 1 ≤ sizeLine; decide), fun l hl => fun e he => ?_⟩
    have e8 : (Str.ofString "abcdefgh").length = 8 := by decide +kernel
    refine ⟨_, rfl, z, _, rfl, rfl, ?_, (by show 15 ≤ sizeLine; decide), fun M hM => ?_⟩
    · rw [e8]
      have := iz.most
      exact Nat.le_of_lt (small1000 (by omega))
    have s1 := Same.new (o := .tup [.str z]) ht
    have s2 := Same.new (o := .lst [.str z]) hl
    have s3 := Same.new (o := .dK []) he
    have p1 := hp.same s1
    have p2 := p1.same s2
    have p3 := p2.same s3
    have tp : t ≠ p := hp.free ht
    have lp : l ≠ p := p1.free hl
    have ep : e ≠ p := p2.free he
    have Mp : M ≠ p := p3.free hM
    refine ⟨_, rfl, _, rfl, _, rfl, M, _, rfl, .inl (.of upd_same), p, _, rfl, p3.upd Mp, (by show (1 : Int) ≤ 15; decide), (by show (15 : Int) ≤ 100000; decide), fun r H5 b5 p5 r0 r1 => ?_⟩
    have s4 := Same.new (o := .lst [.non, .bl true, .int 0, .str "", .str "A", .str "a1", .str "a b", .str "abcdefghi", .ref t, .ref l, .ref e, .str (z ++ "abcdefgh"), .str "a\n", .str "`", .str "{a"]) hM
    have dps := DpXs.same (K := K) (hide_but b5) (odds z) [.non, .bl true, .int 0, .str "", .str "A", .str "a1", .str "a b", .str "abcdefghi", .ref t, .ref l, .ref e, .str (z ++ "abcdefgh"), .str "a\n", .str "`", .str "{a"]
      (.cons .non (.cons (.bl _) (.cons (.int _) (.cons (.str _) (.cons (.str _) (.cons (.str _) (.cons (.str _) (.cons (.str _)
        (.cons (.tup (.of (by rw [hide_ne tp]; exact (s2.trans (s3.trans s4)) _ _ upd_same)) (.cons (.str _) .nil))
        (.cons (.lst (.of (by rw [hide_ne lp]; exact (s3.trans s4) _ _ upd_same)) (.cons (.str _) .nil))
        (.cons (.emp (by rw [hide_ne ep]; exact s4 _ _ upd_same))
        (.cons (.str _) (.cons (.str _) (.cons (.str _) (.cons (.str _) .nil)))))))))))))))
    have r2 : r < 15 := r1
    have rl : r.toNat < 15 := by omega
    obtain ⟨v, hv⟩ : ∃ v, [V.non, .bl true, .int 0, .str "", .str "A", .str "a1", .str "a b", .str "abcdefghi", .ref t, .ref l, .ref e, .str (z ++ "abcdefgh"), .str "a\n", .str "`", .str "{a"][r.toNat]? = some v := ⟨_, List.getElem?_eq_getElem rl⟩
    obtain ⟨d, hd, dp⟩ := dps.at hv
    refine ⟨M, _, r, v, rfl, rfl, .of (b5 M _ Mp upd_same), at_of (j := r.toNat) (by omega) hv, ?_⟩
    exact k v d H5 ((But.of (((s1.trans s2).trans s3).trans s4)).trans b5) p5 dp (odd_nx iz d (List.mem_of_getElem? hd))
end
end SE
namespace SE
open PySem PySem.Spec PyProof.Rows L2
section
variable {K : PySem.W.Frag} {H : Hp}
theorem DpXs.app : ∀ {xs ys : List V} {ds es : List PyData}, DpXs K H xs ds → DpXs K H ys es → DpXs K H (xs ++ ys) (ds ++ es)
  | _, _, _, _, .nil, h => h
  | _, _, _, _, .cons a b, h => .cons a (DpXs.app b h)
theorem DpXs.take : ∀ {xs : List V} {ds : List PyData} (n : Nat), DpXs K H xs ds → DpXs K H (xs.take n) (ds.take n)
  | _, _, 0, h => by
    rw [List.take_zero, List.take_zero]
    exact .nil
  | _, _, n + 1, .nil => .nil
  | _, _, n + 1, .cons a b => .cons a (DpXs.take n b)
theorem DpXs.drop : ∀ {xs : List V} {ds : List PyData} (n : Nat), DpXs K H xs ds → DpXs K H (xs.drop n) (ds.drop n)
  | _, _, 0, h => h
  | _, _, n + 1, .nil => .nil
  | _, _, n + 1, .cons a b => DpXs.drop n b
theorem DpXs.cut {xs : List V} {ds : List PyData} (h : DpXs K H xs ds) (lo hi : Option Int) : ∃ es, DpXs K H (cutV xs lo hi) es ∧ ∀ x ∈ es, x ∈ ds :=
  ⟨_, (h.drop _).take _, fun _ m => List.mem_of_mem_drop (List.mem_of_mem_take m)⟩
end
theorem nx_some {ds : List PyData} (h : ∀ d ∈ ds, NX 2 100 d) (hl : ds.length ≤ 400) : OkD (.list ds) ∧ OkD (.tuple ds) := by
  have e : ds.length * 101 ≤ 100000 := by omega
  exact ⟨(nx_list h).mono (by decide) e, (nx_tuple h).mono (by decide) e⟩
/-- what is no step -/
def bents (d : PyData) : List PyData := [d, .tuple [d, .str "a"], .tuple [.str "push", d], .tuple [.str "pop"], .tuple [.str "push", .str "a", .str "a"], .list [.str "push", .str "a"], .tuple [.str "Push", .str "a"], .tuple [.str "poppush", .str "a"]]
theorem bent_nx {d : PyData} (h : NX 1 32 d) : ∀ x ∈ bents d, NX 2 100 x := by
  have k0 : ∀ s : Str, low s = true → s.length ≤ 16 → NX 1 32 (.str s) := fun s a b => (nx_str a b).mono (by decide) (by decide)
  have ka : NX 1 32 (.str "a") := k0 _ (by decide +kernel) (by decide +kernel)
  have kp : NX 1 32 (.str "push") := k0 _ (by decide +kernel) (by decide +kernel)
  have ko : NX 1 32 (.str "pop") := k0 _ (by decide +kernel) (by decide +kernel)
  have kP : NX 1 32 (.str "Push") := k0 _ (by decide +kernel) (by decide +kernel)
  have kq : NX 1 32 (.str "poppush") := k0 _ (by decide +kernel) (by decide +kernel)
  have two : ∀ {a b : PyData}, NX 1 32 a → NX 1 32 b → ∀ e ∈ [a, b], NX 1 32 e := fun {a b} ha hb e m => by
    simp only [List.mem_cons, List.not_mem_nil, or_false] at m
    rcases m with e | e <;> rw [e] <;> assumption
  intro x m
  unfold bents at m
  simp only [List.mem_cons, List.not_mem_nil, or_false] at m
  rcases m with e | e | e | e | e | e | e | e <;> rw [e]
  · exact h.mono (by decide) (by decide)
  · exact (nx_tuple (two h ka)).mono (by decide) (by show 2 * 33 ≤ 100; decide)
  · exact (nx_tuple (two kp h)).mono (by decide) (by show 2 * 33 ≤ 100; decide)
  · exact (nx_tuple (k := 1) (B := 32) fun e m => by rw [List.mem_singleton.mp m]; exact ko).mono (by decide) (by show 1 * 33 ≤ 100; decide)
  · exact (nx_tuple (k := 1) (B := 32) fun e m => by
      simp only [List.mem_cons, List.not_mem_nil, or_false] at m
      rcases m with e | e | e <;> rw [e] <;> assumption).mono (by decide) (by show 3 * 33 ≤ 100; decide)
  · exact (nx_list (two kp ka)).mono (by decide) (by show 2 * 33 ≤ 100; decide)
  · exact (nx_tuple (two kP ka)).mono (by decide) (by show 2 * 33 ≤ 100; decide)
  · exact (nx_tuple (two kq ka)).mono (by decide) (by show 2 * 33 ≤ 100; decide)
section
variable {P : Program} {w : World} {K : PySem.W.Frag} {mg : Str → Option Value} {base : Heap}
/-! ### _law_bent_steps -/
def spBent (K : PySem.W.Frag) : Sp := fun xs H Q _ => ∃ (p a : Addr) (o : V) (us : List V) (ds : List PyData) (d : PyData), xs = [.ref p, .ref a, o] ∧ Pool H p ∧ a ≠ p ∧ H a = some (.lst us) ∧ us.length ≤ 100 ∧
  DpXs K (hide p H) us ds ∧ (∀ x ∈ ds, NX 1 32 x) ∧ DpX K (hide p H) o d ∧ NX 1 32 d ∧
  ∀ (R : Addr) (vs : List V) (es : List PyData) (H' : Hp), But p H H' → Pool H' p → H' R = some (.lst vs) → DpXs K (hide p H') vs es → vs.length = 3 → (∀ x ∈ es, OkD x) → Q (.ref R) H'
abbrev nBent : List Str := ["_law_pool_here", "_law_steps_here", "_law_odd_here", "_law_at", "_law_step", "_law_some", "_law_wrong"]
theorem scBent : FnScope nBent ["_law_pool_here", "_law_steps_here", "_law_odd_here"] (defScope sLawBentSteps) := ⟨rfl, rfl, rfl, by decide +kernel, rfl, by decide +kernel, by decide +kernel⟩
theorem has_bent (D : Def K mg "_law_bent_steps" sLawBentSteps) (GT : Has P w K mg base "_law_take" 1 ["_law_pool_here", "_law_many"] [] spTake) (ml : mg "len" = none) (mt : mg "tuple" = none) :
    Has P w K mg base "_law_bent_steps" 2 ["_law_pool_here", "_law_steps_here", "_law_odd_here"] [] (spBent K) := by
  refine has_of D scBent (fun _ _ _ _ _ _ us hl => match us, hl with | [_, _, _], _ => rfl) (fun xs H Q E h => ?_) (fun f cv A out s H xs Q E hr h => ?_)
  · obtain ⟨p, a, o, us, ds, d, rfl, _⟩ := h
    rfl
  · obtain ⟨p, a, o, us, ds, d, rfl, hp, ap, ha, hn, dps, dn, dpo, don, k⟩ := h
    refine ⟨_, pss_cons (ps_set (i := 3) scBent.nd rfl (.inl rfl) (pe_has GT hr (pa_cons (pv 0) (pa_cons (pe_op op_add (pe_callB call_len_seq (by rfl) ml PySem.boot_len (pa_cons (pv 1) pa_nil)) pe_int) pa_nil))))
      (pss_cons (ps_set (i := 4) scBent.nd rfl (.inl rfl) (pe_tup (pa_cons pe_str (pa_cons pe_str pa_nil))))
      (pss_cons (ps_set (i := 5) scBent.nd rfl (.inl rfl) (pe_lst (pa_cons (pv 2) (pa_cons (pe_tup (pa_cons (pv 2) (pa_cons pe_str pa_nil))) (pa_cons (pe_tup (pa_cons pe_str (pa_cons (pv 2) pa_nil))) (pa_cons (pe_tup (pa_cons pe_str pa_nil))
        (pa_cons (pe_tup (pa_cons pe_str (pa_cons pe_str (pa_cons pe_str pa_nil)))) (pa_cons (pe_lst (pa_cons pe_str (pa_cons pe_str pa_nil))) (pa_cons (pe_tup (pa_cons pe_str (pa_cons pe_str pa_nil))) pa_nil)))))))))
      (pss_cons (ps_expr (pe_bm PySem.F.plainAttrs_list PySem.F.slot_list_append PySem.F.type_list_append mt_append (pv 5) (pa_cons (pe_tup (pa_cons pe_str (pa_cons pe_str pa_nil))) pa_nil)))
      (pss_cons (ps_set (i := 6) scBent.nd rfl (.inl rfl) (pe_ix ix_list (pv 5) (pe_has GT hr (pa_cons (pv 0) (pa_cons (pe_callB call_len_seq (by rfl) ml PySem.boot_len (pa_cons (pv 5) pa_nil)) pa_nil))) (fun _ _ => rfl)))
      (pss_one (ps_ret (pe_lst (pa_cons (pe_op op_cat (pe_op op_cat (pe_slice sl_list (pv 1) po_none (po_some (pv 3))) (pe_lst (pa_cons (pv 6) pa_nil))) (pe_slice sl_list (pv 1) (po_some (pv 3)) po_none))
        (pa_cons (pe_callTy call_tuple_of (by rfl) mt (by decide +kernel) (pa_cons (pe_op op_cat (pe_slice sl_list (pv 1) po_none (po_some (pv 3))) (pe_lst (pa_cons (pv 6) pa_nil))) pa_nil))
        (pa_cons (pe_op op_cat (pv 1) (pe_lst (pa_cons (pv 4) (pa_cons (pv 6) pa_nil)))) pa_nil)))))))))), ?_⟩
    refine ⟨_, rfl, _, rfl, a, us, rfl, .inl (.of ha), _, 1, rfl, rfl, p, _, rfl, hp, by omega, by omega, fun at_ H1 b1 p1 t0 t1 => ?_⟩
    refine ⟨by show 2 ≤ sizeLine; decide, fun st hst => ?_⟩
    have sA := Same.new (o := .tup [.str "push", .str "a"]) hst
    refine ⟨_, rfl, _, rfl, by show 2 ≤ sizeLine; decide, fun u1 h1 => ?_⟩
    have sB := Same.new (o := .tup [o, .str "a"]) h1
    refine ⟨_, rfl, by show 2 ≤ sizeLine; decide, fun u2 h2 => ?_⟩
    have sC := Same.new (o := .tup [.str "push", o]) h2
    refine ⟨by show 1 ≤ sizeLine; decide, fun u3 h3 => ⟨by show 3 ≤ sizeLine; decide, fun u4 h4 => ⟨by show 2 ≤ sizeLine; decide, fun u5 h5 => ⟨by show 2 ≤ sizeLine; decide, fun u6 h6 => ⟨by show 7 ≤ sizeLine; decide, fun S hS => ?_⟩⟩⟩⟩⟩
    have sD := Same.new (o := .tup [.str "pop"]) h3
    have sE := Same.new (o := .tup [.str "push", .str "a", .str "a"]) h4
    have sF := Same.new (o := .lst [.str "push", .str "a"]) h5
    have sG := Same.new (o := .tup [.str "Push", .str "a"]) h6
    have sS := Same.new (o := .lst [o, .ref u1, .ref u2, .ref u3, .ref u4, .ref u5, .ref u6]) hS
    refine ⟨.ref S, rfl, .inl ⟨rfl, _, .of upd_same⟩, by show 2 ≤ sizeLine; decide, fun u7 h7 => ?_⟩
    have s7 := Same.new (o := .tup [.str "poppush", .str "a"]) h7
    have S7 : S ≠ u7 := ne_of_none upd_same h7
    refine ⟨S, _, _, rfl, rfl, (by rw [upd_ne S7]; exact upd_same), by show 7 < sizeLine; decide, ?_⟩
    have pA := p1.same sA
    have pB := pA.same sB
    have pC := pB.same sC
    have pD := pC.same sD
    have pE := pD.same sE
    have pF := pE.same sF
    have pG := pF.same sG
    have pS := pG.same sS
    have p7 := pS.same s7
    have Sp : S ≠ p := pG.free hS
    have sZ := Same.free2 (o := .lst [o, .ref u1, .ref u2, .ref u3, .ref u4, .ref u5, .ref u6, .ref u7]) (sS.trans s7) hS
    refine ⟨_, rfl, _, rfl, _, rfl, S, _, rfl, .inl (.of upd_same), p, _, rfl, p7.upd Sp, by show (1 : Int) ≤ 8; decide, by show (8 : Int) ≤ 100000; decide, fun r H2 b2 p2 r0 r1 => ?_⟩
    have cG := sG.trans sZ
    have cF := sF.trans cG
    have cE := sE.trans cF
    have cD := sD.trans cE
    have cC := sC.trans cD
    have cB := sB.trans cC
    have cA := sA.trans cB
    have b02 := (b1.trans (But.of cA)).trans b2
    have dps2 := DpXs.same (hide_but b02) ds us dps
    have dpo2 := DpX.same (hide_but b02) d o dpo
    have ha2 := b02 a _ ap ha
    have stp : st ≠ p := p1.free hst
    have n1 : u1 ≠ p := pA.free h1
    have n2 : u2 ≠ p := pB.free h2
    have n3 : u3 ≠ p := pC.free h3
    have n4 : u4 ≠ p := pD.free h4
    have n5 : u5 ≠ p := pE.free h5
    have n6 : u6 ≠ p := pF.free h6
    have n7 : u7 ≠ p := pS.free h7
    have dst : DpX K (hide p H2) (.ref st) (.tuple [.str "push", .str "a"]) := .tup (.of (by rw [hide_ne stp]; exact b2 _ _ stp (cB _ _ upd_same))) (.cons (.str _) (.cons (.str _) .nil))
    have d8 : DpXs K (hide p H2) [o, .ref u1, .ref u2, .ref u3, .ref u4, .ref u5, .ref u6, .ref u7] (bents d) :=
      .cons dpo2 (.cons (.tup (.of (by rw [hide_ne n1]; exact b2 _ _ n1 (cC _ _ upd_same))) (.cons dpo2 (.cons (.str _) .nil)))
      (.cons (.tup (.of (by rw [hide_ne n2]; exact b2 _ _ n2 (cD _ _ upd_same))) (.cons (.str _) (.cons dpo2 .nil)))
      (.cons (.tup (.of (by rw [hide_ne n3]; exact b2 _ _ n3 (cE _ _ upd_same))) (.cons (.str _) .nil))
      (.cons (.tup (.of (by rw [hide_ne n4]; exact b2 _ _ n4 (cF _ _ upd_same))) (.cons (.str _) (.cons (.str _) (.cons (.str _) .nil))))
      (.cons (.lst (.of (by rw [hide_ne n5]; exact b2 _ _ n5 (cG _ _ upd_same))) (.cons (.str _) (.cons (.str _) .nil)))
      (.cons (.tup (.of (by rw [hide_ne n6]; exact b2 _ _ n6 (sZ _ _ upd_same))) (.cons (.str _) (.cons (.str _) .nil)))
      (.cons (.tup (.of (by rw [hide_ne n7]; exact b2 _ _ n7 (by rw [upd_ne (Ne.symm S7)]; exact upd_same))) (.cons (.str _) (.cons (.str _) .nil))) .nil)))))))
    have r2 : r < 8 := r1
    have rl : r.toNat < 8 := by omega
    obtain ⟨v, hv⟩ : ∃ v, [o, V.ref u1, .ref u2, .ref u3, .ref u4, .ref u5, .ref u6, .ref u7][r.toNat]? = some v := ⟨_, List.getElem?_eq_getElem rl⟩
    obtain ⟨dv, hd, dp⟩ := d8.at hv
    have vn := bent_nx don dv (List.mem_of_getElem? hd)
    refine ⟨S, _, r, v, rfl, rfl, .of (b2 S _ Sp upd_same), at_of (j := r.toNat) (by omega) hv, ?_⟩
    clear d8 hv hd r0 r1 r2 rl sA sB sC sD sE sF sG sS s7 sZ cA cB cC cD cE cF cG pA pB pC pD pE pF pG pS p7
    obtain ⟨es1, f1, g1⟩ := dps2.cut none (some at_)
    obtain ⟨es2, f2, g2⟩ := dps2.cut (some at_) none
    have l1 := cutV_length us none (some at_)
    have l2 := cutV_length us (some at_) none
    refine ⟨_, rfl, _, rfl, at_, rfl, a, us, rfl, .of ha2, fun c1 k1 => ?_⟩
    have e1 := Same.new (o := .lst (cutV us none (some at_))) k1
    refine ⟨_, rfl, by show 1 ≤ sizeLine; decide, fun w1 m1 => ?_⟩
    have e2 := Same.new (o := .lst [v]) m1
    refine ⟨c1, w1, _, _, rfl, rfl, e2 _ _ upd_same, upd_same, ?_, fun q1 o1 => ?_⟩
    · exact Nat.le_of_lt (small1000 (show (cutV us none (some at_)).length + 1 ≤ 1000 by omega))
    have e3 := Same.new (o := .lst (cutV us none (some at_) ++ [v])) o1
    refine ⟨_, rfl, _, rfl, at_, rfl, a, us, rfl, .of (e3 _ _ (e2 _ _ (e1 _ _ ha2))), fun c2 k2 => ?_⟩
    have e4 := Same.new (o := .lst (cutV us (some at_) none)) k2
    refine ⟨q1, c2, _, _, rfl, rfl, e4 _ _ upd_same, upd_same, ?_, fun q2 o2 => ?_⟩
    · rw [List.length_append]
      exact Nat.le_of_lt (small1000 (show (cutV us none (some at_)).length + 1 + (cutV us (some at_) none).length ≤ 1000 by omega))
    have e5 := Same.new (o := .lst (cutV us none (some at_) ++ [v] ++ cutV us (some at_) none)) o2
    have e15 := (((e1.trans e2).trans e3).trans e4).trans e5
    refine ⟨_, rfl, _, rfl, at_, rfl, a, us, rfl, .of (e15 _ _ ha2), fun c3 k3 => ?_⟩
    have e6 := Same.new (o := .lst (cutV us none (some at_))) k3
    refine ⟨_, rfl, by show 1 ≤ sizeLine; decide, fun w3 m3 => ?_⟩
    have e7 := Same.new (o := .lst [v]) m3
    refine ⟨c3, w3, _, _, rfl, rfl, e7 _ _ upd_same, upd_same, ?_, fun q3 o3 => ?_⟩
    · exact Nat.le_of_lt (small1000 (show (cutV us none (some at_)).length + 1 ≤ 1000 by omega))
    have e8 := Same.new (o := .lst (cutV us none (some at_) ++ [v])) o3
    refine ⟨q3, _, rfl, .inl ⟨.of upd_same, fun T kT => ?_⟩⟩
    have e9 := Same.new (o := .tup (cutV us none (some at_) ++ [v])) kT
    have e69 := ((e6.trans e7).trans e8).trans e9
    refine ⟨_, rfl, _, rfl, _, rfl, by show 2 ≤ sizeLine; decide, fun w4 m4 => ?_⟩
    have e10 := Same.new (o := .lst [.ref st, v]) m4
    refine ⟨a, w4, _, _, rfl, rfl, e10 _ _ (e69 _ _ (e15 _ _ ha2)), upd_same, ?_, fun q4 o4 => ?_⟩
    · exact Nat.le_of_lt (small1000 (show us.length + 2 ≤ 1000 by omega))
    have e11 := Same.new (o := .lst (us ++ [.ref st, v])) o4
    refine ⟨by show 3 ≤ sizeLine; decide, fun R kR => ?_⟩
    have e12 := Same.new (o := .lst [.ref q2, .ref T, .ref q4]) kR
    have e1a := ((e15.trans e69).trans e10).trans (e11.trans e12)
    have p5 := p2.same ((((e1.trans e2).trans e3).trans e4))
    have q2p : q2 ≠ p := p5.free o2
    have Tp : T ≠ p := (p2.same (((e15.trans e6).trans e7).trans e8)).free kT
    have q4p : q4 ≠ p := (p2.same ((e15.trans e69).trans e10)).free o4
    have hs := hide_of (p := p) e1a
    have dv' := DpX.same hs dv v dp
    have h1' := DpXs.same hs es1 _ f1
    have h2' := DpXs.same hs es2 _ f2
    have hu' := DpXs.same hs ds _ dps2
    have st' := DpX.same hs _ _ dst
    have z1 := f1.len
    have z2 := f2.len
    have z3 := dps.len
    have w1' : ∀ x ∈ es1, NX 2 100 x := fun x m => (dn x (g1 x m)).mono (by decide) (by decide)
    have w2' : ∀ x ∈ es2, NX 2 100 x := fun x m => (dn x (g2 x m)).mono (by decide) (by decide)
    have w3' : ∀ x ∈ ds, NX 2 100 x := fun x m => (dn x m).mono (by decide) (by decide)
    refine k R _ [.list (es1 ++ [dv] ++ es2), .tuple (es1 ++ [dv]), .list (ds ++ [.tuple [.str "push", .str "a"], dv])] _ (b02.trans (But.of e1a)) (p2.same e1a) upd_same
      (.cons (.lst (.of (by rw [hide_ne q2p]; exact ((e69.trans e10).trans (e11.trans e12)) _ _ upd_same)) ((h1'.app (.cons dv' .nil)).app h2'))
      (.cons (.tup (.of (by rw [hide_ne Tp]; exact (e10.trans (e11.trans e12)) _ _ upd_same)) (h1'.app (.cons dv' .nil)))
      (.cons (.lst (.of (by rw [hide_ne q4p]; exact e12 _ _ upd_same)) (hu'.app (.cons st' (.cons dv' .nil)))) .nil))) rfl ?_
    have stn : NX 2 100 (.tuple [.str "push", .str "a"]) := by
      have k0 : ∀ s : Str, low s = true → s.length ≤ 16 → NX 1 32 (.str s) := fun s a b => (nx_str a b).mono (by decide) (by decide)
      refine (nx_tuple (k := 1) (B := 32) fun e m => ?_).mono (by decide) (by show 2 * 33 ≤ 100; decide)
      simp only [List.mem_cons, List.not_mem_nil, or_false] at m
      rcases m with e | e <;> rw [e] <;> exact k0 _ (by decide +kernel) (by decide +kernel)
    intro x m
    simp only [List.mem_cons, List.not_mem_nil, or_false] at m
    rcases m with e | e | e <;> rw [e]
    · refine (nx_some (fun y my => ?_) ?_).1
      · rcases List.mem_append.mp my with my | my
        · rcases List.mem_append.mp my with my | my
          · exact w1' y my
          · rw [List.mem_singleton.mp my]
            exact vn
        · exact w2' y my
      · rw [List.length_append, List.length_append]
        show es1.length + 1 + es2.length ≤ 400
        omega
    · refine (nx_some (fun y my => ?_) ?_).2
      · rcases List.mem_append.mp my with my | my
        · exact w1' y my
        · rw [List.mem_singleton.mp my]
          exact vn
      · rw [List.length_append]
        show es1.length + 1 ≤ 400
        omega
    · refine (nx_some (fun y my => ?_) ?_).1
      · rcases List.mem_append.mp my with my | my
        · exact w3' y my
        · simp only [List.mem_cons, List.not_mem_nil, or_false] at my
          rcases my with e | e <;> rw [e] <;> assumption
      · rw [List.length_append]
        show ds.length + 2 ≤ 400
        omega
end
end SE
namespace SE
open PySem PySem.Spec PyProof.Rows L2
theorem join_low : ∀ zs : List Str, (∀ z ∈ zs, Item z) → (∀ c ∈ (Str.join "" zs).cps.toList, c < 1114112) ∧ (Str.join "" zs).length ≤ 8 * zs.length
  | [], _ => by decide +kernel
  | [x], h => by
    have i := h x List.mem_cons_self
    exact ⟨fun c m => by have := (i.low c m).2; omega, by show x.length ≤ 8 * 1; have := i.most; omega⟩
  | x :: y :: r, h => by
    have i := h x List.mem_cons_self
    obtain ⟨a, b⟩ := join_low (y :: r) fun z m => h z (List.mem_cons_of_mem _ m)
    have e : Str.join "" (x :: y :: r) = x ++ "" ++ Str.join "" (y :: r) := rfl
    have z0 : (Str.ofString "").cps.toList = [] := by decide +kernel
    have z1 : (Str.ofString "").length = 0 := by decide +kernel
    rw [e]
    refine ⟨fun c m => ?_, ?_⟩
    · rw [cps_add, cps_add, z0, List.append_nil] at m
      rcases List.mem_append.mp m with m | m
      · have := (i.low c m).2
        omega
      · exact a c m
    · rw [len_add, len_add, z1]
      have := i.most
      simp only [List.length_cons] at b ⊢
      omega
theorem sum_items : ∀ zs : List Str, (∀ z ∈ zs, Item z) → (zs.map (·.length)).sum ≤ 8 * zs.length
  | [], _ => Nat.le_refl _
  | x :: r, h => by
    have i := (h x List.mem_cons_self).most
    have b := sum_items r fun z m => h z (List.mem_cons_of_mem _ m)
    rw [List.map_cons, List.sum_cons, List.length_cons]
    omega
theorem join_same (zs : List Str) : Txt.join "" zs = Str.join "" zs := by
  cases zs with
  | nil => rfl
  | cons x r => exact StrLaws.glued_cons "" r x
theorem join_nx {zs : List Str} (h : ∀ z ∈ zs, Item z) (hl : zs.length ≤ 100) : OkD (.str (Txt.join "" zs)) := by
  rw [join_same]
  obtain ⟨a, b⟩ := join_low zs h
  exact (nice_str (B := 1000) a (by omega)).nx.mono (by decide) (by decide)
theorem hide_tup {K : PySem.W.Frag} {H : Hp} {p a : Addr} {xs : List V} (hp : Pool H p) (h : SqT K H a xs) : SqT K (hide p H) a xs := by
  rcases h with (h | ⟨o, h⟩) | h
  · exact .inl (.inl (by rw [hide_ne (hp.ne h)]; exact h))
  · refine .inl (.inr ⟨o, ?_⟩)
    rw [hide_ne (fun e => ?_)]
    · exact h
    · obtain ⟨m, s, q, _⟩ := hp.ex
      rw [e, q] at h
      cases h
  · exact .inr h
theorem dpx_strs {K : PySem.W.Frag} {H : Hp} : ∀ zs : List Str, DpXs K H (zs.map V.str) (zs.map PyData.str)
  | [] => .nil
  | z :: zs => .cons (.str z) (dpx_strs zs)
theorem dpx_steps {K : PySem.W.Frag} {H : Hp} {p : Addr} (hp : Pool H p) {xs : List V} {ss : List Stp} (h : StepsH H xs ss) : DpXs K (hide p H) xs (ss.map stepD) := by
  induction h with
  | nil => exact .nil
  | cons a b ih =>
    obtain ⟨t, e, z⟩ := a
    rw [e]
    exact .cons (.tup (.of (by rw [hide_ne (hp.ne z)]; exact z)) (.cons (.str _) (.cons (.str _) .nil))) ih
theorem Same.but2 {H H2 H3 : Hp} {p : Addr} (a : Same H H2) (hp : H p = none) (b : But p H2 H3) : Same H H3 := fun c o h => b c o (ne_of_none h hp) (a c o h)
theorem word_ok {ds : List PyData} (h : ∀ d ∈ ds, NX 1 32 d) (hl : ds.length ≤ 3000) : OkD (.list ds) ∧ OkD (.tuple ds) := by
  have e : ds.length * 33 ≤ 100000 := by omega
  exact ⟨(nx_list h).mono (by decide) e, (nx_tuple h).mono (by decide) e⟩
theorem dpx_rep {K : PySem.W.Frag} {H : Hp} {v : V} {d : PyData} (h : DpX K H v d) : ∀ n, DpXs K H (List.replicate n v) (List.replicate n d)
  | 0 => .nil
  | n + 1 => .cons h (dpx_rep h n)
theorem flat_rep {v : V} : ∀ n, (List.replicate n [v]).flatten = List.replicate n v
  | 0 => rfl
  | n + 1 => by
    rw [List.replicate_succ, List.flatten_cons, flat_rep n, List.replicate_succ]
    rfl
def paD : PyData := .tuple [.str "push", .str "a"]
theorem paD_stp : stpD paD = true := by decide +kernel
theorem a_item : itemD (.str "a") = true := by decide +kernel
theorem seq_few {ds : List PyData} (h : ∀ d ∈ ds, d = paD) (hl : ds.length ≤ 1000) : seqD (.list ds) = true := by
  show (decide (ds.length ≤ 1000) && (ds.map stpD).all id) = true
  rw [decide_eq_true hl, Bool.true_and, List.all_eq_true]
  intro b m
  obtain ⟨d, md, rfl⟩ := List.mem_map.mp m
  rw [h d md]
  exact paD_stp
theorem seq_many {ds : List PyData} (hl : 1000 < ds.length) : seqD (.list ds) = false := by
  show (decide (ds.length ≤ 1000) && (ds.map stpD).all id) = false
  rw [decide_eq_false (by omega), Bool.false_and]
theorem word_rep (n : Nat) : wordD (.tuple (List.replicate n (.str "a"))) = true := by
  show ((List.replicate n (PyData.str "a")).map itemD).all id = true
  rw [List.all_eq_true]
  intro b m
  obtain ⟨d, md, rfl⟩ := List.mem_map.mp m
  rw [(List.mem_replicate.mp md).2]
  exact a_item
theorem paD_nx : NX 1 32 paD := by
  have k0 : ∀ s : Str, low s = true → s.length ≤ 15 → NX 0 15 (.str s) := fun s a b => (nice_str (fun c hc => of_decide_eq_true (List.all_eq_true.mp a c hc)) b).nx
  refine (nx_tuple (k := 0) (B := 15) fun e m => ?_).mono (by decide) (by show 2 * 16 ≤ 32; decide)
  simp only [List.mem_cons, List.not_mem_nil, or_false] at m
  rcases m with e | e <;> rw [e] <;> exact k0 _ (by decide +kernel) (by decide +kernel)
theorem a_nx : NX 1 32 (.str "a") := (nx_str (by decide +kernel) (by decide +kernel)).mono (by decide) (by decide)
theorem cut_one (v : V) : (cutV (List.replicate 1000 v) none (some 1)).length = 1 := by
  unfold cutV
  rw [List.length_take, List.length_drop, List.length_replicate]
  decide +kernel
theorem strs_nx {zs : List Str} (h : ∀ z ∈ zs, Item z) : ∀ d ∈ zs.map PyData.str, NX 1 32 d := fun d m => (nice_strs h d m).nx.mono (by decide) (by decide)
theorem steps_nx {ss : List Stp} (h : ∀ s ∈ ss, Item s.2) : ∀ d ∈ ss.map stepD, NX 1 32 d := fun d m => (nice_steps h d m).nx.mono (by decide) (by decide)
end SE
/-! (x,) * n for n up to 5000. -/
namespace SE
open PySem PySem.Spec PyProof.Rows L2
def rRepB (K : PySem.W.Frag) : R2 := fun x y H Q => ∃ (l : Addr) (k : Int) (v : V), x = .ref l ∧ y = .int k ∧ SqT K H l [v] ∧ 2 ≤ k ∧ k ≤ 5000 ∧ ∀ p, H p = none → Q (.ref p) (upd H p (.tup (List.replicate k.toNat v)))
theorem op_repB {X : Cx} : OpR X (binaryOp .Mult) (rRepB X.K) := by
  intro pins s σ H x y a u Q I rx ry h
  obtain ⟨l, k, v, rfl, rfl, hT, h1, h2, q⟩ := h
  cases rx
  obtain ⟨t, rfl⟩ := ry
  obtain ⟨its, r, ⟨⟨cls, dd, data, sl⟩, ho, hc, n, hd⟩, hs⟩ := I.tuple hT
  simp only at hc hd
  subst hc hd
  obtain ⟨w, rfl⟩ : ∃ w, its = [w] := by
    cases r with
    | cons r1 r2 =>
      cases r2
      exact ⟨_, rfl⟩
  have sz : (([w] : List Value).toArray.size : Int) * k = k := by
    show ((1 : Nat) : Int) * k = k
    omega
  have rep : ∀ {α : Type} (z : α), (List.replicate k.toNat [z]).flatten = List.replicate k.toNat z := fun z => List.flatten_replicate_singleton
  have big : k.toNat ≤ sizeLine := by
    rw [sizeLine_eq]
    omega
  refine wpAny_binaryOp_repeat_ref (T := "tuple") (U := "int") (by decide) ⟨_, ho, rfl⟩ (fun s2 => typeIs_int s2 k t) noFill_tuple_mul F.fills_int_mul F.slot_int_rmul repeat_tuple F.slot_int_index.lookup ?_
  refine call_meets F.slot_int_rmul (typeIs_int s k t) F.entry_int_rmul (F.args_int_rmul_2 _ _) (int_rmul_tuple k t l _ n dd sl) ⟨ho, rfl, ⟨_, ho, rfl⟩, ?_⟩
  refine call_meets F.slot_tuple_mul ⟨_, ho, rfl⟩ F.entry_tuple_mul (F.args_tuple_mul_2 _ _) (tuple_mulW l _ n dd sl k t ?_ ?_ ?_ ?_ ?_ ?_) ⟨ho, ?_⟩
  · rw [decide_eq_false (by omega), decide_eq_false (by omega)]
    rfl
  · show (false || k == 1) = false
    rw [Bool.false_or]
    exact beq_eq_false_iff_ne.mpr (by omega)
  · show (decide (k ≤ 0) || false) = false
    rw [Bool.or_false]
    exact decide_eq_false (by omega)
  · rw [sz]
    omega
  · rw [sz]
    unfold Builtin.Tuple.tupleTooMany
    rw [sizeLine_eq]
    exact decide_eq_false (by omega)
  · rw [size_rep, List.size_toArray, rep, List.length_replicate]
    exact big
  · rw [size_rep, rep]
    refine ⟨.ref s.heap.objs.size, _, I.laid (t' := s.toks) (o := .tup (List.replicate k.toNat v)) (fun b ob e => Heap.get?_push_of_some _ e) (Nat.le_refl _) ?_, rfl, q _ (I.hok.fresh (Nat.le_refl _))⟩
    refine ⟨by rw [List.length_replicate]; exact big, _, ?_, IsTup.new _ _⟩
    have z := r.rep k.toNat
    rw [rep, rep] at z
    exact z
end SE
/-! Tuples: t * n, t + u, t[a:b] whichever object comes out; len(set(t)) of texts. -/
namespace SE
open PySem PySem.Spec PyProof.Rows L2
section
variable {X : Cx}
theorem tmul_one (l : Addr) (w : Value) (n : Nat) (dd : Option Addr) (sl : Array (Option Value)) (u : Tok) :
    Meets (Builtin.«tuple.__mul__» ⟨[.ref l, .int 1 u], []⟩) (fun _ R s => s.heap.get? l = some { cls := .type "tuple", dict := dd, data := .seq #[w] n, slots := sl } ∧ R (.ok (.ret (Value.ref l))) s) :=
  .of_wp fun prog wd A R s h => by
    obtain ⟨hp, g, d, tk, os⟩ := s
    obtain ⟨hl, h⟩ := h
    have f1 := AutoSeq1.idx_int
    wp_walk using AutoSeq1.wpAny_loadPart' hl
    exact ⟨_, rfl, h⟩
theorem tmul_none (l : Addr) (w : Value) (n : Nat) (dd : Option Addr) (sl : Array (Option Value)) (k : Int) (u : Tok) (h0 : -1000000 ≤ k) (h1 : k ≤ 0) :
    Meets (Builtin.«tuple.__mul__» ⟨[.ref l, .int k u], []⟩) (fun _ R s => s.heap.get? l = some { cls := .type "tuple", dict := dd, data := .seq #[w] n, slots := sl } ∧
      R (.ok (.ret (Value.ref s.heap.objs.size))) { s with heap := s.heap.push { cls := .type "tuple", data := .seq #[] } }) :=
  .of_wp fun prog wd A R s h => by
    obtain ⟨hp, g, d, tk, os⟩ := s
    obtain ⟨hl, h⟩ := h
    have f1 := AutoSeq1.idx_int
    have c0 : (decide (k < -(2 ^ 63)) || decide (k ≥ 2 ^ 63)) = false := by
      rw [decide_eq_false (by omega), decide_eq_false (by omega)]
      rfl
    have c1 : ((#[w] : Array Value).isEmpty || k == 1) = false := by
      show (false || k == 1) = false
      rw [Bool.false_or]
      exact beq_eq_false_iff_ne.mpr (by omega)
    have c2 : (decide (k ≤ 0) || (#[w] : Array Value).isEmpty) = true := by
      rw [decide_eq_true h1]
      rfl
    wp_walk using AutoSeq1.wpAny_loadPart' hl
    repeat (first
      | (refine wpAny_ite_false (decide_eq_false (by rw [c0]; exact Bool.false_ne_true)) ?_; wp_walk using AutoSeq1.wpAny_loadPart' hl)
      | (refine wpAny_ite_false (decide_eq_false (by rw [c1]; exact Bool.false_ne_true)) ?_; wp_walk using AutoSeq1.wpAny_loadPart' hl)
      | (refine wpAny_ite_true (decide_eq_true (by rw [c2])) ?_; wp_walk using AutoSeq1.wpAny_loadPart' hl))
    exact ⟨_, rfl, h⟩
/-- (x,) * k, any k -/
def rRepS (K : PySem.W.Frag) : R2 := fun x y H Q => ∃ (l : Addr) (k : Int) (v : V), x = .ref l ∧ y = .int k ∧ SqT K H l [v] ∧ -1000000 ≤ k ∧ k ≤ 5000 ∧ ∀ (p : Addr) (H' : Hp), Same H H' → SqT K H' p (List.replicate k.toNat v) → Q (.ref p) H'
theorem op_repS : OpR X (binaryOp .Mult) (rRepS X.K) := by
  intro pins s σ H x y a u Q I rx ry h
  obtain ⟨l, k, v, rfl, rfl, hT, h1, h2, q⟩ := h
  by_cases c : 2 ≤ k
  · exact op_repB pins s σ H _ _ a u Q I rx ry ⟨l, k, v, rfl, rfl, hT, c, h2, fun p hp => q p _ (Same.new hp) (.of upd_same)⟩
  cases rx
  obtain ⟨t, rfl⟩ := ry
  obtain ⟨its, r, ⟨⟨cls, dd, data, sl⟩, ho, hc, n, hd⟩, hs⟩ := I.tuple hT
  simp only at hc hd
  subst hc hd
  obtain ⟨w, rfl⟩ : ∃ w, its = [w] := by
    cases r with
    | cons r1 r2 =>
      cases r2
      exact ⟨_, rfl⟩
  refine wpAny_binaryOp_repeat_ref (T := "tuple") (U := "int") (by decide) ⟨_, ho, rfl⟩ (fun s2 => typeIs_int s2 k t) noFill_tuple_mul F.fills_int_mul F.slot_int_rmul repeat_tuple F.slot_int_index.lookup ?_
  refine call_meets F.slot_int_rmul (typeIs_int s k t) F.entry_int_rmul (F.args_int_rmul_2 _ _) (int_rmul_tuple k t l _ n dd sl) ⟨ho, rfl, ⟨_, ho, rfl⟩, ?_⟩
  by_cases c1 : k = 1
  · subst c1
    refine call_meets F.slot_tuple_mul ⟨_, ho, rfl⟩ F.entry_tuple_mul (F.args_tuple_mul_2 _ _) (tmul_one l w n dd sl t) ⟨ho, ?_⟩
    exact ⟨.ref l, H, I, rfl, q l H (Same.refl H) hT⟩
  · have k0 : k ≤ 0 := by omega
    refine call_meets F.slot_tuple_mul ⟨_, ho, rfl⟩ F.entry_tuple_mul (F.args_tuple_mul_2 _ _) (tmul_none l w n dd sl k t h1 k0) ⟨ho, ?_⟩
    refine ⟨.ref s.heap.objs.size, _, I.laid (t' := s.toks) (o := .tup []) (fun b ob e => Heap.get?_push_of_some _ e) (Nat.le_refl _) ?_, rfl, q _ _ (Same.new (I.hok.fresh (Nat.le_refl _))) ?_⟩
    · exact ⟨Nat.zero_le _, [], .nil, IsTup.new _ _⟩
    · rw [show k.toNat = 0 by omega]
      exact .of upd_same
/-- t + u -/
def rCatS (K : PySem.W.Frag) : R2 := fun x y H Q => ∃ (a b : Addr) (xs ys : List V), x = .ref a ∧ y = .ref b ∧ SqT K H a xs ∧ SqT K H b ys ∧ xs.length + ys.length ≤ sizeLine ∧ ∀ (p : Addr) (H' : Hp), Same H H' → SqT K H' p (xs ++ ys) → Q (.ref p) H'
theorem op_catS : OpR X (binaryOp .Add) (rCatS X.K) := by
  intro pins s σ H x y v u Q I rx ry h
  obtain ⟨a, b, xs, ys, rfl, rfl, ha, hb, hz, q⟩ := h
  refine op_catA pins s σ H _ _ v u Q I rx ry ⟨a, b, xs, ys, rfl, rfl, ha, hb, hz, fun e => ?_, fun _ e => ?_, fun _ _ p hp => q p _ (Same.new hp) (.of upd_same)⟩
  · subst e
    exact q b H (Same.refl H) hb
  · subst e
    exact q a H (Same.refl H) (by rw [List.append_nil]; exact ha)
/-- t[lo:hi] -/
def rSlS (K : PySem.W.Frag) : V → Option Int → Option Int → Hp → VK → Prop := fun x lo hi H Q => ∃ (a : Addr) (xs : List V), x = .ref a ∧ SqT K H a xs ∧ ∀ (p : Addr) (H' : Hp), Same H H' → SqT K H' p (cutV xs lo hi) → Q (.ref p) H'
theorem sl_tupS : SlR X (rSlS X.K) := by
  intro pins s σ H x v vl vu lo hi sl Q I rx hs pl pu h
  obtain ⟨a, xs, rfl, hx, q⟩ := h
  refine sl_tupA pins s σ H _ v vl vu lo hi sl Q I rx hs pl pu ⟨a, xs, rfl, hx, fun e => q a H (Same.refl H) ?_, fun _ p hp => q p _ (Same.new hp) (.of upd_same)⟩
  have e2 : cutV xs lo hi = xs := by
    unfold cutV
    rw [e.1, e.2, List.drop_zero, Nat.sub_zero, List.take_length]
  rw [e2]
  exact hx
end
end SE
namespace SE
open PySem PySem.Spec PyProof.Rows L2
section
variable {P : Program} {w : World} {K : PySem.W.Frag} {mg : Str → Option Value} {base : Heap}
/-! ### law -/
def spLaw (K : PySem.W.Frag) : Sp := fun xs H Q _ => ∃ (a : Addr) (ns : List Int), xs = [.ref a] ∧ SqL K H a (ns.map V.int) ∧ ns.length ≤ 63 ∧ ∀ H', Q (.bl true) H'
abbrev nLaw : List Str := ["_law_script", "_law_k", "_law_pool_here", "_law_items_here", "_law_word_here", "_law_steps_here", "_law_odd_here", "_law_at", "_law_things", "_law_thing", "_law_long"]
theorem scLaw : FnScope nLaw ["_law_script"] (defScope sLaw) := ⟨rfl, rfl, rfl, by decide +kernel, rfl, by decide +kernel, by decide +kernel⟩
theorem ok_law {f : Addr} {fd : FuncData} (F : Fun K "law" "law" sLaw f fd) (GP : Has P w K mg base "_law_pool" 1 ["_law_script", "_law_k"] [] (spPool K)) (GT : Has P w K mg base "_law_take" 1 ["_law_pool_here", "_law_many"] [] spTake)
    (GI : Has P w K mg base "_law_items" 3 ["_law_pool_here", "_law_many"] [] spItems) (GS : Has P w K mg base "_law_steps" 2 ["_law_pool_here", "_law_items_here", "_law_many"] [] spSteps) (GW : Has P w K mg base "_law_word" 2 ["_law_pool_here", "_law_items_here", "_law_most"] [] spWord)
    (GO : Has P w K mg base "_law_odd" 2 ["_law_pool_here", "_law_item"] [] (spOdd K)) (GB : Has P w K mg base "_law_bent_steps" 2 ["_law_pool_here", "_law_steps_here", "_law_odd_here"] [] (spBent K)) (GR : GHas P w K mg base "_law_right" 4 ["_law_what"] (spRt K))
    (Gw : Has P w K mg base "is_word" 2 ["value"] [] (spX K wordD)) (Gs : Has P w K mg base "is_sequence" 3 ["value"] [] (spX K seqD))
    (B : Blt mg) (mr : mg "range" = none) (mx : mg "max" = none) (mn : mg "min" = none) : GOk P w K mg base 5 f fd ["_law_script"] (spLaw K) := by
  refine gok_mk F scLaw (fun xs H Q E h => ?_) (fun cv A out s H xs Q E hgu hr h => ?_)
  · obtain ⟨a, ns, rfl, _⟩ := h
    rfl
  · obtain ⟨a, ns, rfl, hS, hlen, k⟩ := h
    have hr1 : Room 1 _ := hr.mono (by decide)
    have hr2 : Room 2 _ := hr.mono (by decide)
    have hr3 : Room 3 _ := hr.mono (by decide)
    have hr4 : Room 4 _ := hr.mono (by decide)
    refine ⟨_, pss_cons (ps_for PassesOwn.never rfl (pi_range1 (by rfl) mr (pa_cons (pe_callB (call_max2 rfl) (by rfl) mx (by decide +kernel) (pa_cons pe_int (pa_cons (pe_callB (call_min2 rfl) (by rfl) mn (by decide +kernel) (pa_cons (pe_callB call_len_seq (by rfl) B.len PySem.boot_len (pa_cons (pv 0) pa_nil)) (pa_cons pe_int pa_nil))) pa_nil))) pa_nil)) (pg_name (i := 1) scLaw.nd rfl (.inl rfl))
        (pss_cons (ps_set (i := 2) scLaw.nd rfl (.inl rfl) (pe_has GP hr1 (pa_cons (pv 0) (pa_cons (pv 1) pa_nil))))
        (pss_cons (ps_set (i := 3) scLaw.nd rfl (.inl rfl) (pe_has GI hr3 (pa_cons (pv 2) (pa_cons (pe_op op_add pe_int (pe_has GT hr1 (pa_cons (pv 2) (pa_cons pe_int pa_nil)))) pa_nil))))
        (pss_cons (ps_par (i := 4) (j := 5) (by rfl) scLaw.nd rfl rfl (by decide) rfl rfl (pa_cons (pe_has GW hr2 (pa_cons (pv 2) (pa_cons (pv 3) (pa_cons pe_int pa_nil)))) (pa_cons (pe_has GS hr2 (pa_cons (pv 2) (pa_cons (pv 3) (pa_cons (pe_has GT hr1 (pa_cons (pv 2) (pa_cons pe_int pa_nil))) pa_nil)))) pa_nil)) (by rfl))
        (pss_cons (ps_par (i := 6) (j := 7) (by rfl) scLaw.nd rfl rfl (by decide) rfl rfl (pa_cons (pe_has GO hr2 (pa_cons (pv 2) (pa_cons (pe_ix ix_list (pv 3) pe_int (fun _ _ => rfl)) pa_nil))) (pa_cons (pe_has GT hr1 (pa_cons (pv 2) (pa_cons (pe_op op_add (pe_callB call_len_seq (by rfl) B.len PySem.boot_len (pa_cons (pv 4) pa_nil)) pe_int) pa_nil))) pa_nil)) (by rfl))
        (pss_cons (ps_set (i := 8) scLaw.nd rfl (.inl rfl) (pe_op op_cat (pv 3) (pe_lst (pa_cons (pv 4) (pa_cons (pe_callTy call_list_of (by rfl) B.lst (by decide +kernel) (pa_cons (pv 4) pa_nil)) (pa_cons (pv 5) (pa_cons (pe_callTy call_tuple_of (by rfl) B.tup (by decide +kernel) (pa_cons (pv 5) pa_nil)) (pa_cons (pv 6)
          (pa_cons (pe_op op_catS (pe_op op_catS (pe_slice sl_tupS (pv 4) po_none (po_some (pv 7))) (pe_tup (pa_cons (pv 6) pa_nil))) (pe_slice sl_tupS (pv 4) (po_some (pv 7)) po_none)) (pa_cons (pe_join pe_str (pv 3)) pa_nil))))))))))
        (pss_one (ps_for PassesOwn.never rfl (pi_list (pe_op op_cat (pv 8) (pe_has GB hr2 (pa_cons (pv 2) (pa_cons (pv 5) (pa_cons (pv 6) pa_nil)))))) (pg_name (i := 9) scLaw.nd rfl (.inl rfl))
          (pss_one (ps_if (pt_not (pt_val (pe_ghas GR hgu hr4 (pa_cons (pv 9) pa_nil)))) (pss_one (ps_ret pe_bl)) pss_nil))))))))))
      (pss_cons (ps_set (i := 10) scLaw.nd rfl (.inl rfl) (pe_op op_rep (pe_lst (pa_cons (pe_tup (pa_cons pe_str (pa_cons pe_str pa_nil))) pa_nil)) pe_int))
      (pss_one (ps_ret (pe_and (pe_cmpR op_isBl (pe_has Gs hr3 (pa_cons (pv 10) pa_nil)) pe_bl (nomark _)) (pe_and (pe_cmpR op_isBl (pe_has Gs hr3 (pa_cons (pe_op op_cat (pv 10) (pe_slice sl_list (pv 10) po_none (po_some pe_int))) pa_nil)) pe_bl (nomark _))
        (pe_one (pe_cmpR op_isBl (pe_has Gw hr2 (pa_cons (pe_op op_repB (pe_tup (pa_cons pe_str pa_nil)) pe_int) pa_nil)) pe_bl (nomark _)))))))), ?_⟩
    refine ⟨_, rfl, a, _, rfl, .inl hS, _, 8, rfl, 1, _, rfl, ?_⟩
    have hN : ∀ n : Nat, (1 : Int) ≤ (if (if (8 : Int) < (n : Int) then 8 else (n : Int)) > 1 then (if (8 : Int) < (n : Int) then 8 else (n : Int)) else 1) ∧ (if (if (8 : Int) < (n : Int) then 8 else (n : Int)) > 1 then (if (8 : Int) < (n : Int) then 8 else (n : Int)) else 1) ≤ 8 := by
      intro n
      split <;> split <;> omega
    have hN1 := hN (ns.map V.int).length
    generalize hM : (if (if (8 : Int) < ((ns.map V.int).length : Int) then 8 else ((ns.map V.int).length : Int)) > 1 then (if (8 : Int) < ((ns.map V.int).length : Int) then 8 else ((ns.map V.int).length : Int)) else 1) = M at hN1
    refine ⟨M, by rw [← hM], by omega, by omega, for_range (lo := 0) (n := M.toNat) (fun i σ H2 => ∃ (y1 y2 y3 y4 y5 y6 y7 y8 y9 : Option V), σ = [some (.ref a), y1, y2, y3, y4, y5, y6, y7, y8, y9, none] ∧ Same H H2) ⟨_, _, _, _, _, _, _, _, _, rfl, Same.refl H⟩ ?_ ?_⟩
    · rintro i σ H2 hi ⟨y1, y2, y3, y4, y5, y6, y7, y8, y9, rfl, s2⟩
      refine ⟨_, rfl, _, rfl, a, ns, 0 + i, rfl, Same.seq s2 hS, by omega, by omega, fun p H3 s3 hp p3 => ?_⟩
      have hpn : H p = none := s2.free hp
      refine ⟨_, rfl, _, rfl, p, 4, rfl, p3, by decide, by decide, fun r H4 b4 p4 r0 r1 => ?_⟩
      refine ⟨1, r, rfl, rfl, p, _, rfl, p4, by omega, by omega, fun l zs H5 b5 p5 hl lp hl5 lz iz => ?_⟩
      have zl : zs.length ≤ 4 ∧ 1 ≤ zs.length := by omega
      have zne : zs ≠ [] := fun e => by
        rw [e] at zl
        exact absurd zl.2 (by decide)
      refine ⟨_, rfl, _, rfl, p, l, 6, zs, rfl, p5, lp, hl5, zne, by omega, by decide, by decide, fun q ws H6 b6 p6 hq hq6 lw wz => ?_⟩
      have hl6 := b6 _ _ lp hl5
      refine ⟨_, rfl, _, rfl, _, rfl, p, 12, rfl, p6, by decide, by decide, fun m H7 b7 p7 m0 m1 => ?_⟩
      have hl7 := b7 _ _ lp hl6
      refine ⟨p, l, m, zs, rfl, p7, lp, hl7, zne, by omega, iz, m0, by omega, fun g us ss H8 b8 p8 hg hg8 hst8 lss hsz => ⟨_, _, rfl, ?_⟩⟩
      have hl8 := b8 _ _ lp hl7
      have qp : q ≠ p := p6.ne hq6
      have hq8 := b8 _ _ qp (b7 _ _ qp hq6)
      have gp : g ≠ p := p7.free hg
      have z0 : ∃ z, z ∈ zs ∧ atI (zs.map V.str) 0 = some (.str z) := pick_str (by decide) (by omega)
      obtain ⟨z, zm, az⟩ := z0
      refine ⟨_, rfl, _, rfl, l, _, 0, _, rfl, rfl, .of hl8, az, p, z, rfl, p8, iz z zm, fun o d H9 b9 p9 dpo don => ?_⟩
      have hq9 := b9 _ _ qp hq8
      refine ⟨_, rfl, _, rfl, q, _, rfl, .inr (.of hq9), _, 1, rfl, rfl, p, _, rfl, p9, by omega, ?_, fun at_ H10 b10 p10 t0 t1 => ⟨_, _, rfl, ?_⟩⟩
      · rw [List.length_map]
        omega
      have hl10 := b10 _ _ lp (b9 _ _ lp hl8)
      have hq10 := b10 _ _ qp hq9
      have hg10 := b10 _ _ gp (b9 _ _ gp hg8)
      have hst10 := (hst8.but p8 b9).but p9 b10
      have dpo10 := dpo.but b10
      have iw : ∀ z ∈ ws, Item z := fun z m => iz z (wz z m)
      have iss : ∀ s ∈ ss, Item s.2 := fun s m => iz _ (hsz s m)
      have lus := hst8.length
      have l1 := cutV_length (ws.map V.str) none (some at_)
      have l2 := cutV_length (ws.map V.str) (some at_) none
      rw [List.length_map] at l1 l2
      refine ⟨_, rfl, _, rfl, _, rfl, q, _, rfl, .inr (.of hq10), fun Lw kLw => ?_⟩
      have e11 := Same.new (o := .lst (ws.map V.str)) kLw
      refine ⟨_, rfl, _, rfl, g, _, rfl, .inl ⟨.of (e11 _ _ hg10), fun T kT => ?_⟩⟩
      have e12 := Same.new (o := .tup us) kT
      refine ⟨_, rfl, _, rfl, _, rfl, at_, rfl, q, _, rfl, .of (e12 _ _ (e11 _ _ hq10)), fun c1 H13 e13 hc1 => ?_⟩
      refine ⟨_, rfl, by show 1 ≤ sizeLine; decide, fun w1 kw1 => ?_⟩
      have e14 := Same.new (o := .tup [o]) kw1
      refine ⟨c1, w1, _, _, rfl, rfl, Same.tup e14 hc1, .of upd_same, ?_, fun c2 H15 e15 hc2 => ?_⟩
      · exact Nat.le_of_lt (small1000 (show (cutV (ws.map V.str) none (some at_)).length + 1 ≤ 1000 by omega))
      have e115 := (((e11.trans e12).trans e13).trans e14).trans e15
      refine ⟨_, rfl, _, rfl, at_, rfl, q, _, rfl, .of (e115 _ _ hq10), fun c3 H16 e16 hc3 => ?_⟩
      refine ⟨c2, c3, _, _, rfl, rfl, Same.tup e16 hc2, hc3, ?_, fun W H17 e17 hW => ?_⟩
      · rw [List.length_append]
        exact Nat.le_of_lt (small1000 (show (cutV (ws.map V.str) none (some at_)).length + 1 + (cutV (ws.map V.str) (some at_) none).length ≤ 1000 by omega))
      have e117 := (e115.trans e16).trans e17
      refine ⟨⟨_, rfl⟩, _, rfl, "", l, zs, rfl, rfl, .inl (.of (e117 _ _ hl10)), ?_, by show 7 ≤ sizeLine; decide, fun TL kTL => ?_⟩
      · have z1 : (Str.ofString "").length = 0 := by decide +kernel
        have := sum_items zs iz
        rw [z1, Nat.mul_zero]
        omega
      have e18 := Same.new (o := .lst [.ref q, .ref Lw, .ref g, .ref T, o, .ref W, .str (Txt.join "" zs)]) kTL
      refine ⟨l, TL, _, _, rfl, rfl, e18 _ _ (e117 _ _ hl10), upd_same, ?_, fun Th kTh => ?_⟩
      · rw [List.length_map]
        exact Nat.le_of_lt (small1000 (show zs.length + 7 ≤ 1000 by omega))
      have e19 := Same.new (o := .lst (zs.map V.str ++ [.ref q, .ref Lw, .ref g, .ref T, o, .ref W, .str (Txt.join "" zs)])) kTh
      have e119 := (e117.trans e18).trans e19
      have p19 := p10.same e119
      have Thp : Th ≠ p := (p10.same (e117.trans e18)).free kTh
      have hst19 : StepsH _ us ss := hst10.but p10 (But.of e119)
      have hg19 := e119 _ _ hg10
      have dpo19 := DpX.same (hide_of (p := p) e119) d o dpo10
      have Lwp : Lw ≠ p := p10.free kLw
      have Tp : T ≠ p := (p10.same e11).free kT
      have w1p : w1 ≠ p := (p10.same ((e11.trans e12).trans e13)).free kw1
      refine ⟨_, rfl, _, rfl, _, rfl, _, rfl, p, g, o, us, ss.map stepD, d, rfl, p19, gp, hg19, by omega, dpx_steps p19 hst19, steps_nx iss, dpo19, don, fun R vs es H20 b20 p20 hR dR lR okR => ?_⟩
      obtain ⟨es1, f1, g1⟩ := (dpx_strs (K := K) (H := hide p H20) ws).cut none (some at_)
      obtain ⟨es2, f2, g2⟩ := (dpx_strs (K := K) (H := hide p H20) ws).cut (some at_) none
      have hTh20 := b20 _ _ Thp upd_same
      refine ⟨Th, R, _, _, rfl, rfl, hTh20, hR, ?_, fun I kI => ?_⟩
      · rw [List.length_append, List.length_map, lR]
        exact Nat.le_of_lt (small1000 (show zs.length + 7 + 3 ≤ 1000 by omega))
      have e21 := Same.new (o := .lst ((zs.map V.str ++ [.ref q, .ref Lw, .ref g, .ref T, o, .ref W, .str (Txt.join "" zs)]) ++ vs)) kI
      have sAll : Same H (upd H20 I (.lst ((zs.map V.str ++ [.ref q, .ref Lw, .ref g, .ref T, o, .ref W, .str (Txt.join "" zs)]) ++ vs))) := by
        have c4 := Same.but2 (s2.trans s3) hpn b4
        have c5 := Same.but2 c4 hpn b5
        have c6 := Same.but2 c5 hpn b6
        have c7 := Same.but2 c6 hpn b7
        have c8 := Same.but2 c7 hpn b8
        have c9 := Same.but2 c8 hpn b9
        have c10 := Same.but2 c9 hpn b10
        exact (Same.but2 (c10.trans e119) hpn b20).trans e21
      have hq20 := b20 _ _ qp (e119 _ _ hq10)
      have hg20 := b20 _ _ gp hg19
      have hst20 := hst19.but p19 b20
      have hLw20 := b20 _ _ Lwp ((((((e12.trans e13).trans e14).trans e15).trans e16).trans e17).trans (e18.trans e19) _ _ upd_same)
      have hT20 := b20 _ _ Tp ((((((e13.trans e14).trans e15).trans e16).trans e17).trans (e18.trans e19)) _ _ upd_same)
      have hW20 := Same.tup (hide_but b20) (hide_tup p19 (Same.tup (e18.trans e19) hW))
      have dpo20 := dpo19.but b20
      have dW : DpXs K (hide p H20) ((cutV (ws.map V.str) none (some at_) ++ [o]) ++ cutV (ws.map V.str) (some at_) none) ((es1 ++ [d]) ++ es2) := (f1.app (.cons dpo20 .nil)).app f2
      have dAll : DpXs K (upd H20 I (.lst ((zs.map V.str ++ [.ref q, .ref Lw, .ref g, .ref T, o, .ref W, .str (Txt.join "" zs)]) ++ vs))) ((zs.map V.str ++ [.ref q, .ref Lw, .ref g, .ref T, o, .ref W, .str (Txt.join "" zs)]) ++ vs)
          ((zs.map PyData.str ++ [.tuple (ws.map .str), .list (ws.map .str), .list (ss.map stepD), .tuple (ss.map stepD), d, .tuple ((es1 ++ [d]) ++ es2), .str (Txt.join "" zs)]) ++ es) :=
        DpXs.same e21 _ _ (((dpx_strs zs).app (.cons (.tup (.of hq20) (dpx_strs ws)) (.cons (.lst (.of hLw20) (dpx_strs ws)) (.cons (.lst (.of hg20) (DpXs.same (hide_same p H20) _ _ (dpx_steps p20 hst20)))
          (.cons (.tup (.of hT20) (DpXs.same (hide_same p H20) _ _ (dpx_steps p20 hst20))) (.cons dpo20.out (.cons (DpX.out (.tup hW20 dW)) (.cons (.str _) .nil)))))))).app (DpXs.same (hide_same p H20) _ _ dR))
      have okAll : ∀ x ∈ ((zs.map PyData.str ++ [.tuple (ws.map .str), .list (ws.map .str), .list (ss.map stepD), .tuple (ss.map stepD), d, .tuple ((es1 ++ [d]) ++ es2), .str (Txt.join "" zs)]) ++ es), OkD x := by
        have z1 := f1.len
        have z2 := f2.len
        intro x m
        rcases List.mem_append.mp m with m | m
        · rcases List.mem_append.mp m with m | m
          · exact (strs_nx iz x m).mono (by decide) (by decide)
          · simp only [List.mem_cons, List.not_mem_nil, or_false] at m
            have ow := word_ok (strs_nx iw) (by rw [List.length_map]; omega)
            have os := word_ok (steps_nx iss) (by rw [List.length_map]; omega)
            rcases m with e | e | e | e | e | e | e <;> rw [e]
            · exact ow.2
            · exact ow.1
            · exact os.1
            · exact os.2
            · exact don.mono (by decide) (by decide)
            · refine (word_ok (fun y my => ?_) ?_).2
              · rcases List.mem_append.mp my with my | my
                · rcases List.mem_append.mp my with my | my
                  · exact strs_nx iw y (g1 y my)
                  · rw [List.mem_singleton.mp my]
                    exact don
                · exact strs_nx iw y (g2 y my)
              · rw [List.length_append, List.length_append]
                show es1.length + 1 + es2.length ≤ 3000
                omega
            · exact join_nx iz (by omega)
        · exact okR x m
      refine ⟨I, rfl, ⟨_, .of upd_same⟩, for_list (K := K) (a := I) (xs := (zs.map V.str ++ [.ref q, .ref Lw, .ref g, .ref T, o, .ref W, .str (Txt.join "" zs)]) ++ vs)
        (fun j σ H22 => ∃ y9 : Option V, σ = [some (.ref a), some (.int (0 + i)), some (.ref p), some (.ref l), some (.ref q), some (.ref g), some o, some (.int at_), some (.ref Th), y9, none] ∧ Same (upd H20 I (.lst ((zs.map V.str ++ [.ref q, .ref Lw, .ref g, .ref T, o, .ref W, .str (Txt.join "" zs)]) ++ vs))) H22)
        ⟨_, rfl, Same.refl _⟩ ?_ ?_ ?_⟩
      · rintro j σ H22 _ ⟨_, _, s22⟩
        exact .of (s22 _ _ upd_same)
      · rintro j x σ H22 hx ⟨y9', rfl, s22⟩
        obtain ⟨dx, hdx, dpx⟩ := dAll.at hx
        exact ⟨_, rfl, x, dx, rfl, DpX.same s22 dx x dpx, okAll dx (List.mem_of_getElem? hdx), fun H23 s23 => ⟨true, rfl, iteF ⟨_, rfl, s22.trans s23⟩⟩⟩
      · rintro σ H22 ⟨y9', rfl, s22⟩
        exact ⟨_, _, _, _, _, _, _, _, _, rfl, sAll.trans s22⟩
    · rintro σ H2 ⟨y1, y2, y3, y4, y5, y6, y7, y8, y9, rfl, s2⟩
      refine ⟨by show 2 ≤ sizeLine; decide, fun t kt => ⟨by show 1 ≤ sizeLine; decide, fun L kL => ⟨L, 1000, _, rfl, rfl, upd_same, by decide, by decide, ?_, fun M kM => ?_⟩⟩⟩
      · show 1 * 1000 ≤ sizeLine
        exact Nat.le_of_lt (small1000 (by decide))
      have eF : (List.replicate (1000 : Int).toNat [V.ref t]).flatten = List.replicate 1000 (V.ref t) := flat_rep 1000
      rw [eF]
      have e1 := Same.new (o := .tup [.str "push", .str "a"]) kt
      have e2 := Same.new (o := .lst [.ref t]) kL
      have e3 := Same.new (o := .lst (List.replicate 1000 (V.ref t))) kM
      have dt : DpX K (upd (upd (upd H2 t (.tup [.str "push", .str "a"])) L (.lst [.ref t])) M (.lst (List.replicate 1000 (V.ref t)))) (.ref t) paD := .tup (.of ((e2.trans e3) _ _ upd_same)) (.cons (.str _) (.cons (.str _) .nil))
      have dl := dpx_rep dt 1000
      have nr : ∀ d ∈ List.replicate 1000 paD, NX 1 32 d := fun d m => by
        rw [(List.mem_replicate.mp m).2]
        exact paD_nx
      refine ⟨_, rfl, .ref M, .list (List.replicate 1000 paD), rfl, .lst (.of upd_same) dl, (word_ok nr (by rw [List.length_replicate]; decide)).1, fun H3 s3 => ?_⟩
      rw [seq_few (fun d m => (List.mem_replicate.mp m).2) (by rw [List.length_replicate]; decide)]
      refine ⟨true, true, rfl, rfl, true, congrArg V.bl (decide_eq_true rfl), iteT ?_⟩
      refine ⟨_, rfl, _, rfl, 1, rfl, M, _, rfl, .of (s3 _ _ upd_same), fun c kc => ?_⟩
      have e4 := Same.new (o := .lst (cutV (List.replicate 1000 (V.ref t)) none (some 1))) kc
      refine ⟨M, c, _, _, rfl, rfl, e4 _ _ (s3 _ _ upd_same), upd_same, ?_, fun N kN => ?_⟩
      · rw [List.length_replicate, cut_one]
        decide
      have e5 := Same.new (o := .lst (List.replicate 1000 (V.ref t) ++ cutV (List.replicate 1000 (V.ref t)) none (some 1))) kN
      have dl5 := DpXs.same ((s3.trans e4).trans e5) _ _ dl
      obtain ⟨es, fe, ge⟩ := dl5.cut none (some 1)
      have el : es.length = 1 := by rw [← fe.len]; exact cut_one _
      have nx5 : ∀ d ∈ List.replicate 1000 paD ++ es, NX 1 32 d := fun d m => by
        rcases List.mem_append.mp m with m | m
        · exact nr d m
        · exact nr d (ge d m)
      have ll : (List.replicate 1000 paD ++ es).length = 1001 := by rw [List.length_append, List.length_replicate, el]
      refine ⟨.ref N, .list (List.replicate 1000 paD ++ es), rfl, .lst (.of upd_same) (dl5.app fe), (word_ok nx5 (by rw [ll]; decide)).1, fun H6 s6 => ?_⟩
      rw [seq_many (by rw [ll]; decide)]
      refine ⟨false, false, rfl, rfl, true, congrArg V.bl (decide_eq_true rfl), iteT ?_⟩
      refine ⟨by show 1 ≤ sizeLine; decide, fun u ku => ⟨u, 1500, _, rfl, rfl, .of upd_same, by decide, by decide, fun Wd kW => ?_⟩⟩
      refine ⟨.ref Wd, .tuple (List.replicate 1500 (.str "a")), rfl, .tup (.of upd_same) (dpx_rep (.str "a") 1500), (word_ok (fun d m => ?_) (by rw [List.length_replicate]; decide)).2, fun H8 s8 => ?_⟩
      · rw [(List.mem_replicate.mp m).2]
        exact a_nx
      rw [word_rep]
      exact ⟨true, true, rfl, rfl, k _⟩
end
end SE
namespace SE
open PySem PySem.Spec PyProof.Rows L2
section
/-! ### what the top has left -/
theorem def_mk {K : PySem.W.Frag} {h : Heap} {mg : Str → Option Value} {x : Str} {st : Stmt} {f : Addr} {oc : Value} {od an : Option Addr} {osl : Array (Option Value)} {kV doc pm cdv ct : Value} (X : K.In h) (G : h.Ns mainGlobals mg)
    (a : PySem.W.nsIn K mainGlobals x = some (some (.ref f))) (l : K.lookup f = some ⟨oc, od, .func (PySem.W.fnOf x x (defArgs st) (defBody st) (defScope st) .none kV doc pm an cdv ct), osl⟩)
    (c : PySem.W.codeIn K cdv x = true) (k : PySem.W.keepIn K (.ref f) = true) : Def K mg x st := ⟨f, _, fun_mk l c k, PySem.W.mg_of X G a⟩
theorem all_mk {l : PySem.W.OpenLaw} {w : World} {K : PySem.W.Frag} {h : Heap} {mg : Str → Option Value} {fa fL D : Addr} {tl t8 t1000 : Tok} (X : K.In h) (G : h.Ns mainGlobals mg) (hfa : mg "law" = some (.ref fa))
    {odL anL : Option Addr} {slL : Array (Option Value)} {ocL kVL dcL pmL cdL ctL : Value} {es : Array DictEntry} {n : Nat} {uP uQ : Value}
    (d_is_item : Def K mg "is_item" sIsItem)
    (d_is_word : Def K mg "is_word" sIsWord)
    (d_is_step : Def K mg "is_step" sIsStep)
    (d_may_hold_steps : Def K mg "may_hold_steps" sMayHold)
    (d_is_sequence : Def K mg "is_sequence" sIsSeq)
    (d__law_pool : Def K mg "_law_pool" sPool)
    (d__law_take : Def K mg "_law_take" sTake)
    (d__law_name : Def K mg "_law_name" sName)
    (d__law_items : Def K mg "_law_items" sItems)
    (d__law_steps : Def K mg "_law_steps" sSteps)
    (d__law_word : Def K mg "_law_word" sWord)
    (d__law_odd : Def K mg "_law_odd" sLawOdd)
    (d__law_is_item : Def K mg "_law_is_item" sLawIsItem)
    (d__law_is_word : Def K mg "_law_is_word" sLawIsWord)
    (d__law_is_step : Def K mg "_law_is_step" sLawIsStep)
    (d__law_is_sequence : Def K mg "_law_is_sequence" sLawIsSequence)
    (d__law_right : Def K mg "_law_right" sRight)
    (d__law_bent_steps : Def K mg "_law_bent_steps" sLawBentSteps)
    (z_isinstance : PySem.W.nsIn K mainGlobals "isinstance" = some none)
    (z_str : PySem.W.nsIn K mainGlobals "str" = some none)
    (z_len : PySem.W.nsIn K mainGlobals "len" = some none)
    (z_all : PySem.W.nsIn K mainGlobals "all" = some none)
    (z_tuple : PySem.W.nsIn K mainGlobals "tuple" = some none)
    (z_list : PySem.W.nsIn K mainGlobals "list" = some none)
    (z_enumerate : PySem.W.nsIn K mainGlobals "enumerate" = some none)
    (z_range : PySem.W.nsIn K mainGlobals "range" = some none)
    (z_abs : PySem.W.nsIn K mainGlobals "abs" = some none)
    (z_int : PySem.W.nsIn K mainGlobals "int" = some none)
    (z_max : PySem.W.nsIn K mainGlobals "max" = some none)
    (z_min : PySem.W.nsIn K mainGlobals "min" = some none)
    (z_repr : PySem.W.nsIn K mainGlobals "repr" = some none)
    (cL : PySem.W.nsIn K mainGlobals "LETTERS" = some (some (.str abc tl))) (cM : PySem.W.nsIn K mainGlobals "MOST_LETTERS" = some (some (.int 8 t8))) (cS : PySem.W.nsIn K mainGlobals "MOST_STEPS" = some (some (.int 1000 t1000)))
    (cO : PySem.W.nsIn K mainGlobals "OPPOSITES" = some (some (.ref D))) (lO : K.lookup D = some ⟨.type "dict", none, .dict es n, #[]⟩) (kO : PySem.W.KeysLit w.params es.toList) (wO : (D == sysModules) = false)
    (pO : PySem.W.nsIn K D "push" = some (some uP)) (qO : PySem.W.nsIn K D "pop" = some (some uQ)) (rP : RelV (.str "pop") uP) (rQ : RelV (.str "push") uQ) (oK : OppKeys es.toList)
    (aL : PySem.W.nsIn K mainGlobals "law" = some (some (.ref fL))) (lL : K.lookup fL = some ⟨ocL, odL, .func (PySem.W.fnOf "law" "law" (defArgs sLaw) (defBody sLaw) (defScope sLaw) .none kVL dcL pmL anL cdL ctL), slL⟩) (ckL : PySem.W.codeIn K cdL "law" = true) (kL : PySem.W.keepIn K (.ref fL) = true) :
    ∃ fd : FuncData, (∀ (s : Shared) (v : Value), BindsTo s fd ⟨[v], []⟩ [("_law_script", v)]) ∧ ∀ base : Heap, K.In base → base.Ns mainGlobals mg → GOk l.prog w K mg base 5 fa fd ["_law_script"] (spLaw K) := by
  have e := hfa.symm.trans (PySem.W.mg_of X G aL)
  cases e
  have F := fun_mk (st := sLaw) lL ckL kL
  have m_isinstance : mg "isinstance" = none := PySem.W.mg_none_of X G z_isinstance
  have m_str : mg "str" = none := PySem.W.mg_none_of X G z_str
  have m_len : mg "len" = none := PySem.W.mg_none_of X G z_len
  have m_all : mg "all" = none := PySem.W.mg_none_of X G z_all
  have m_tuple : mg "tuple" = none := PySem.W.mg_none_of X G z_tuple
  have m_list : mg "list" = none := PySem.W.mg_none_of X G z_list
  have m_enumerate : mg "enumerate" = none := PySem.W.mg_none_of X G z_enumerate
  have m_range : mg "range" = none := PySem.W.mg_none_of X G z_range
  have m_abs : mg "abs" = none := PySem.W.mg_none_of X G z_abs
  have m_int : mg "int" = none := PySem.W.mg_none_of X G z_int
  have m_max : mg "max" = none := PySem.W.mg_none_of X G z_max
  have m_min : mg "min" = none := PySem.W.mg_none_of X G z_min
  have m_repr : mg "repr" = none := PySem.W.mg_none_of X G z_repr
  have B : Blt mg := ⟨m_isinstance, m_str, m_len, m_all, m_tuple, m_list, m_enumerate⟩
  have C : Cons K w mg := ⟨⟨_, PySem.W.mg_of X G cL⟩, ⟨_, PySem.W.mg_of X G cM⟩, ⟨_, PySem.W.mg_of X G cS⟩, ⟨D, es, n, uP, uQ, PySem.W.mg_of X G cO, ⟨lO, kO, wO⟩, pO, rP, qO, rQ⟩⟩
  refine ⟨PySem.W.fnOf "law" "law" (defArgs sLaw) (defBody sLaw) (defScope sLaw) .none kVL dcL pmL anL cdL ctL, fun s v => .of_eq rfl, fun base _ _ => ?_⟩
  have gTake := has_take (P := l.prog) (w := w) (base := base) d__law_take
  have gPool := has_pool (P := l.prog) (w := w) (base := base) d__law_pool m_len m_abs m_int
  have gName := has_name d__law_name gTake m_range
  have gItems := has_items d__law_items gName m_range
  have gWord := has_word d__law_word gTake m_range m_len m_tuple
  have gSteps := has_steps d__law_steps gTake m_range m_len
  have O2 : Opp2 K w mg := ⟨D, es, n, uP, uQ, PySem.W.mg_of X G cO, ⟨lO, kO, wO⟩, pO, qO, oK⟩
  have gIt := has_itemX (P := l.prog) (w := w) (base := base) d_is_item B C
  have gWo := has_wordX d_is_word gIt B
  have gSt := has_stepX d_is_step gIt B O2
  have gMy := has_mayX (P := l.prog) (w := w) (base := base) d_may_hold_steps B C
  have gSq := has_seqX d_is_sequence gMy gSt B
  have gLi := has_lItem (P := l.prog) (w := w) (base := base) d__law_is_item B
  have gLw := has_lWord d__law_is_word gLi B
  have gLs := has_lStep d__law_is_step gLi B
  have gLq := has_lSeq d__law_is_sequence gLs B
  have gRt := has_rt d__law_right gIt gWo gSq gLi gLw gLq m_repr
  have gOd := has_odd d__law_odd gTake m_len
  have gBe := has_bent d__law_bent_steps gTake m_len m_tuple
  exact ok_law F gPool gTake gItems gSteps gWord gOd gBe gRt gWo gSq B m_range m_max m_min
end
end SE
open PySem PySem.W PyProof.Rows
set_option maxHeartbeats 0 in
theorem PySem.Challenge.cw_stackeffect_k01_items_words_sequences_holds : PySem.Challenge.rw_stackeffect_k01_items_words_sequences.Holds := by
  w_on; o_law; k_head; (case hw => w_witness2)
  k_fill
  refine SE.walkG (l := PySem.Challenge.rw_stackeffect_k01_items_words_sequences) (n := 63) (k := 5) (x := "_law_script") (sp := SE.spLaw) rfl (by decide) rfl ⟨rfl, by decide, by decide⟩ (fun w h Y => PySem.W.kIn_of Y) ?F (fun _ _ a ns hl hS => ⟨a, ns, rfl, hS, hl, fun _ => rfl⟩)
  case F =>
    intro w mg fa h KX G hmg
    refine' SE.all_mk KX G hmg ?d_is_item ?d_is_word ?d_is_step ?d_may_hold_steps ?d_is_sequence ?d__law_pool ?d__law_take ?d__law_name ?d__law_items ?d__law_steps ?d__law_word ?d__law_odd ?d__law_is_item ?d__law_is_word ?d__law_is_step ?d__law_is_sequence ?d__law_right ?d__law_bent_steps ?z_isinstance ?z_str ?z_len ?z_all ?z_tuple ?z_list ?z_enumerate ?z_range ?z_abs ?z_int ?z_max ?z_min ?z_repr ?cL ?cM ?cS ?cO ?lO ?kO ?wO ?pO ?qO ?rP ?rQ ?oK ?aL ?lL ?ckL ?kL
    (case d_is_item => refine' SE.def_mk KX G ?a ?l ?c ?k; (case a => k_is); (case l => k_is); (case c => k_is); (case k => k_is))
    (case d_is_word => refine' SE.def_mk KX G ?a ?l ?c ?k; (case a => k_is); (case l => k_is); (case c => k_is); (case k => k_is))
    (case d_is_step => refine' SE.def_mk KX G ?a ?l ?c ?k; (case a => k_is); (case l => k_is); (case c => k_is); (case k => k_is))
    (case d_may_hold_steps => refine' SE.def_mk KX G ?a ?l ?c ?k; (case a => k_is); (case l => k_is); (case c => k_is); (case k => k_is))
    (case d_is_sequence => refine' SE.def_mk KX G ?a ?l ?c ?k; (case a => k_is); (case l => k_is); (case c => k_is); (case k => k_is))
    (case d__law_pool => refine' SE.def_mk KX G ?a ?l ?c ?k; (case a => k_is); (case l => k_is); (case c => k_is); (case k => k_is))
    (case d__law_take => refine' SE.def_mk KX G ?a ?l ?c ?k; (case a => k_is); (case l => k_is); (case c => k_is); (case k => k_is))
    (case d__law_name => refine' SE.def_mk KX G ?a ?l ?c ?k; (case a => k_is); (case l => k_is); (case c => k_is); (case k => k_is))
    (case d__law_items => refine' SE.def_mk KX G ?a ?l ?c ?k; (case a => k_is); (case l => k_is); (case c => k_is); (case k => k_is))
    (case d__law_steps => refine' SE.def_mk KX G ?a ?l ?c ?k; (case a => k_is); (case l => k_is); (case c => k_is); (case k => k_is))
    (case d__law_word => refine' SE.def_mk KX G ?a ?l ?c ?k; (case a => k_is); (case l => k_is); (case c => k_is); (case k => k_is))
    (case d__law_odd => refine' SE.def_mk KX G ?a ?l ?c ?k; (case a => k_is); (case l => k_is); (case c => k_is); (case k => k_is))
    (case d__law_is_item => refine' SE.def_mk KX G ?a ?l ?c ?k; (case a => k_is); (case l => k_is); (case c => k_is); (case k => k_is))
    (case d__law_is_word => refine' SE.def_mk KX G ?a ?l ?c ?k; (case a => k_is); (case l => k_is); (case c => k_is); (case k => k_is))
    (case d__law_is_step => refine' SE.def_mk KX G ?a ?l ?c ?k; (case a => k_is); (case l => k_is); (case c => k_is); (case k => k_is))
    (case d__law_is_sequence => refine' SE.def_mk KX G ?a ?l ?c ?k; (case a => k_is); (case l => k_is); (case c => k_is); (case k => k_is))
    (case d__law_right => refine' SE.def_mk KX G ?a ?l ?c ?k; (case a => k_is); (case l => k_is); (case c => k_is); (case k => k_is))
    (case d__law_bent_steps => refine' SE.def_mk KX G ?a ?l ?c ?k; (case a => k_is); (case l => k_is); (case c => k_is); (case k => k_is))
    (case z_isinstance => k_is)
    (case z_str => k_is)
    (case z_len => k_is)
    (case z_all => k_is)
    (case z_tuple => k_is)
    (case z_list => k_is)
    (case z_enumerate => k_is)
    (case z_range => k_is)
    (case z_abs => k_is)
    (case z_int => k_is)
    (case z_max => k_is)
    (case z_min => k_is)
    (case z_repr => k_is)
    (case cL => k_is); (case cM => k_is); (case cS => k_is); (case cO => k_is); (case lO => k_is)
    (case kO => exact ⟨⟨_, _, rfl, rfl⟩, ⟨_, _, rfl, rfl⟩, trivial⟩)
    (case wO => rfl)
    (case pO => k_is); (case qO => k_is); (case rP => exact ⟨_, rfl⟩); (case rQ => exact ⟨_, rfl⟩)
    (case oK => exact ⟨⟨_, _, rfl, .inl rfl⟩, ⟨_, _, rfl, .inr rfl⟩, trivial⟩)
    (case aL => k_is); (case lL => k_is); (case ckL => k_is); (case kL => k_is)
