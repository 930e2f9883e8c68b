import PyProof.Rows.All
import Wide.All
import OpenK.AllK
import Wide.FinOn
import PyProof.EqAt
import PyProof.EqKinds
import PyProof.TupleCall
import HandS.ForMost
import HandS.ForExc
import HandS.RaiseMore
import HandS.FStr
import HandS.IsInst
import HandS.ExcIs
import HandS.Wide
import HandS.Flow
import HandS.Conv
import HandS.Evl
import HandS.TupAny
import HandS.Style
import HandS.ExcCtx
import HandS.HotCalls
import HandS.AnyAll
import HandS.GenOver
import HandS.JoinGen
import HandS.Lambda
import HandS.EndOwn
import HandS.EndTab
import HandS.Walk
import HandS.Star
import HandS.Dict
import HandS.TupLen
import HandS.Defaults
import PySem.Challenge.RW_scanpages_k62_whole_merge_both_ways
set_option Elab.async false
set_option linter.all false
set_option maxRecDepth 100000
set_option maxHeartbeats 4000000
/-! Cm: what all our proofs share -/
namespace Cm
open PySem PySem.Spec PyProof.Rows L2

/-! ### defs of the module, and what they promise -/
/-- the def x stands at some address behind the top -/
def Dn (K : PySem.W.Frag) (mg : Str → Option Value) (x : Str) (st : Stmt) (ps : List Str) : Prop :=
  ∃ (f : Addr) (fd : FuncData), Fun K x x st f fd ∧ mg x = some (.ref f) ∧ Binds K fd ps []
/-- the def x keeps the promise sp -/
def Ok (P : Program) (w : World) (K : PySem.W.Frag) (mg : Str → Option Value) (base : Heap) (CX : CXT) (k : Nat) (x : Str) (ps : List Str) (sp : Sp) : Prop :=
  ∃ (f : Addr) (fd : FuncData), FnOk P w K mg base CX k f fd ps sp ∧ mg x = some (.ref f) ∧ PySem.W.keepIn K (.ref f) = true ∧ Binds K fd ps []
theorem ok_of {P : Program} {w : World} {K : PySem.W.Frag} {mg : Str → Option Value} {base : Heap} {CX : CXT} {k : Nat} {x : Str} {st : Stmt} {ps : List Str} {sp : Sp} (d : Dn K mg x st ps)
    (h : ∀ f fd, Fun K x x st f fd → FnOk P w K mg base CX k f fd ps sp) : Ok P w K mg base CX k x ps sp := by
  obtain ⟨f, fd, F, g, b⟩ := d
  exact ⟨f, fd, h f fd F, g, F.kp, b⟩
section
variable {X : Cx} {CX : CXT} {k : Nat} {ps : List Str} {sp : Sp} {E : XK} {x : Str} {p pos : Pos} {e : Expr} {es : List Expr} {t : TA}
theorem pe_callO (G : Ok X.prog X.w X.K X.mg X.base CX k x ps sp) (hr : Room k X.A) (hx : Passes CX X E) (ha : PA X (e :: es) t) (hg : Gl X x := by rfl)
    (hdb : (x == ("__debug__" : Str)) = false := by decide) (he : starEach (e :: es) X.env = (false, eval e X.env) :: starEach es X.env := by rfl) (hpl : (backTo pos (starEach es X.env)).any (·.1) = false := by rfl) :
    PE X (.Call (.Name x p) (e :: es) [] pos) (tCall sp [] E t) := by
  obtain ⟨f, fd, F, g, kp, b⟩ := G
  exact pe_call F hr hg g kp b .nil hx ha hdb he hpl
theorem pe_callO0 (G : Ok X.prog X.w X.K X.mg X.base CX k x ps sp) (hr : Room k X.A) (hx : Passes CX X E) (hg : Gl X x := by rfl) (hdb : (x == ("__debug__" : Str)) = false := by decide) :
    PE X (.Call (.Name x p) [] [] pos) (tCall sp [] E tNil) := by
  obtain ⟨f, fd, F, g, kp, b⟩ := G
  exact pe_call0 F hr hg g kp b .nil hx hdb
theorem pe_callT {Es : L2.St → XK} (G : Ok X.prog X.w X.K X.mg X.base CX k x ps sp) (hr : Room k X.A) (hx : ∀ σ, PassesAt CX X σ (Es σ)) (ha : PA X (e :: es) t) (hg : Gl X x := by rfl)
    (hdb : (x == ("__debug__" : Str)) = false := by decide) (he : starEach (e :: es) X.env = (false, eval e X.env) :: starEach es X.env := by rfl) (hpl : (backTo pos (starEach es X.env)).any (·.1) = false := by rfl) :
    PE X (.Call (.Name x p) (e :: es) [] pos) (tCallS sp Es t) := by
  obtain ⟨f, fd, F, g, kp, b⟩ := G
  exact pe_callS F hr hg g kp b hx ha hdb he hpl
end
/-! ### errors: raised where nothing is handled -/
/-- what leaves a def: L2N's way -/
abbrev CXN (P : Program) (w : World) : CXT := L2N.CX P w
theorem passN {X : Cx} : Passes (CXN X.prog X.w) X E0 := fun _ _ _ _ _ _ _ h => by
  obtain ⟨_, _, _, _, _, _, _, _, _, _, _, _, z⟩ := h
  exact z.elim
theorem takesN {X : Cx} : L2N.Takes X (fun _ _ _ _ => False) := fun _ _ x => by
  obtain ⟨_, _, _, _, _, _, _, _, _, _, _, _, _, _, _, _, z⟩ := x
  exact z.elim
theorem passX {X : Cx} {E E' : XK} (tk : L2N.Takes X (fun cls d _ H => E cls d H)) (h : ∀ cls d H, E' cls d H → E cls d H) : Passes (CXN X.prog X.w) X E' := fun pins σ H s e s' I c => tk e s' (L2N.XE.of_call I (fun cls d H' q => h cls d H' q) c)
theorem okN {P : Program} {w : World} {K : PySem.W.Frag} {mg : Str → Option Value} {base : Heap} {x qual : Str} {st : Stmt} {f : Addr} {fd : FuncData} {N ps : List Str} {k : Nat} {sp : Sp} (F : Fun K x qual st f fd) (S : FnScope N ps (defScope st)) (len : ∀ vs H Q E, sp vs H Q E → vs.length = ps.length)
    (hbody : ∀ (cdv : Value) (A : Around) (outer : List Env) (s : Shared) (H : Hp) (vs : List V) (Q : VK) (E : XK), Room k (A.deeper (envOfC qual (defScope st) s.heap.objs.size f cdv)) → sp vs H Q E →
      ∃ t, PSs (cxOf (CXN P w) P w K mg base N qual (defScope st) f cdv A outer s H E) (defBody st) t ∧ t { nx := fun _ H' => Q .non H', rt := Q } (L2.start N vs) H) : FnOk P w K mg base (CXN P w) (k + 1) f fd ps sp := by
  obtain ⟨oc, od, kV, doc, pm, an, cdv, ct, osl, rfl, lk, hcd⟩ := F.ex
  exact fn_of lk hcd S len fun A outer s H vs Q E hr hsp => hbody cdv A outer s H vs Q E hr hsp
section
variable {X : Cx}
/-- X(e) -/
theorem pmk_own1 {C : Addr} {bmB : List Value} {B newId initId : String} {x : Str} {e : Expr} {ta : TE} {p pos : Pos} (F : ExcBaseFacts B newId initId bmB) (q : PySem.W.excIn X.K C bmB newId = true) (gC : X.mg x = some (.ref C)) (kC : PySem.W.keepIn X.K (.ref C) = true) (r : Raises X (.ref C)) (hg : Gl X x)
    (he : PE X e ta) (hs : starEach [e] X.env = (false, eval e X.env) :: starEach [] X.env := by rfl) (hdb : (x == ("__debug__" : Str)) = false := by decide) :
    L2N.PMk X (.Call (.Name x p) [e] [] pos) (fun σ H Q => ta σ H fun _ H1 => Q (.ref C) none H1) := by
  intro pins s σ H Q I h
  refine wpAny_Call_Name_kw (ld_glob I hg gC ?_ hdb)
  refine PySem.W.callWith_K (h₀ := X.base) I.ok.mod.kin kC ?_ hs (by rfl)
  rw [hs]
  show wpAny _ _ (spliced ((false, eval e X.env) :: backTo pos (starEach [] X.env))) _ _ s
  refine Calls.spliced_cons (thn (he.run pins s σ H _ I h) fun u s1 ⟨v, H1, I1, r1, q1⟩ => ?_)
  refine Calls.spliced_nil ⟨I1.kIn, ?_⟩
  show wpAny _ _ (call (.ref C) [u]) _ _ _
  obtain ⟨bm, N, nm, qn, bs, hdct, sn, sub, ab, col, dd, k0, k1, k2, k3, k5, mN, hC, hN, hni, T⟩ := exc_obj I1.kIn q
  refine wpAny_call_exc_subT F T hC hN hni (fun h' e hm => ?_) (by show 1 ≤ sizeLine; rw [sizeLine_eq]; omega)
  exact L2N.mk_of I1 hm r q1 (I1.hok.gone hm.new)
end
/-! ### defs called within an except suite -/
def OkH (P : Program) (w : World) (K : PySem.W.Frag) (mg : Str → Option Value) (base : Heap) (CX : CXT) (k : Nat) (x : Str) (ps : List Str) (sp : Sp) : Prop :=
  ∃ (f : Addr) (fd : FuncData), L2H.FnH P w K mg base CX k f fd ps sp ∧ mg x = some (.ref f) ∧ PySem.W.keepIn K (.ref f) = true ∧ Binds K fd ps []
theorem okH_of {P : Program} {w : World} {K : PySem.W.Frag} {mg : Str → Option Value} {base : Heap} {k : Nat} {x : Str} {st : Stmt} {N ps : List Str} {sp : Sp} (d : Dn K mg x st ps) (S : FnScope N ps (defScope st)) (len : ∀ vs H Q E, sp vs H Q E → vs.length = ps.length)
    (hbody : ∀ (f : Addr) (cdv : Value) (A : Around) (outer : List Env) (s : Shared) (H : Hp) (vs : List V) (Q : VK) (E : XK) (p : Addr × Obj), L2H.Hot1 A p → L2H.RoomH k (A.deeper (envOfC x (defScope st) s.heap.objs.size f cdv)) → sp vs H Q E →
      ∃ t, PSs (L2H.cxH CX0 P w K mg base N x (defScope st) f cdv A outer s H E p) (defBody st) t ∧ t { nx := fun _ H' => Q .non H', rt := Q } (L2.start N vs) H) : OkH P w K mg base CX0 (k + 1) x ps sp := by
  obtain ⟨f, fd, F, g, b⟩ := d
  refine ⟨f, fd, ?_, g, F.kp, b⟩
  obtain ⟨oc, od, kV, doc, pm, an, cdv, ct, osl, rfl, lk, hcd⟩ := F.ex
  exact L2H.fn_ofH lk hcd S len fun A outer s H vs Q E p hot hr hsp => hbody f cdv A outer s H vs Q E p hot hr hsp
section
variable {X : Cx} {k : Nat} {ps : List Str} {sp : Sp} {x : Str} {p pos : Pos} {e : Expr} {es : List Expr} {t : TA}
theorem pe_callHO (G : OkH X.prog X.w X.K X.mg X.base CX0 k x ps sp) (hr : L2H.RoomH k X.A) (hc : L2H.HotC X) (ha : PA X (e :: es) t) (hg : Gl X x := by rfl)
    (hdb : (x == ("__debug__" : Str)) = false := by decide) (he : starEach (e :: es) X.env = (false, eval e X.env) :: starEach es X.env := by rfl) (hpl : (backTo pos (starEach es X.env)).any (·.1) = false := by rfl) :
    PE X (.Call (.Name x p) (e :: es) [] pos) (tCallS sp (fun _ => E0) t) := by
  obtain ⟨f, fd, F, g, kp, b⟩ := G
  exact L2H.pe_callH F hr hc hg g kp b (fun _ _ _ _ _ _ _ h => h.elim) ha hdb he hpl
theorem roomS {k j : Nat} {A : Around} {h : Option Value} (hr : Room k A) (hj : j ≤ k) : L2H.RoomH j (A.mark h) := L2H.RoomH.mono (k := k) ⟨hr.dp, hr.un⟩ hj
theorem hotS {a : Addr} {oe : Obj} {cls : Value} {d : Option Addr} {pn : List (Addr × Obj)} (hz : L2N.Zn cls d oe) (hf : ∃ vs, oe.data = .fields vs) : L2H.HotC (X.suite a ((a, oe) :: pn)) := by
  obtain ⟨vs, e⟩ := hf
  exact ⟨(a, oe), ⟨rfl, vs, e, hz.2.2 vs e⟩, List.mem_cons_self⟩
end
/-! ### names of the module -/
/-- the name x of the module holds v -/
def CV (mg : Str → Option Value) (x : Str) (v : V) : Prop := ∃ u, mg x = some u ∧ RelV v u
theorem pe_globC {X : Cx} {x : Str} {v : V} {pos : Pos} (hg : Gl X x) (h : CV X.mg x v) (hd : (x == ("__debug__" : Str)) = false := by decide) : PE X (.Name x pos) (tC v) := by
  obtain ⟨u, hm, r⟩ := h
  exact pe_glob hg hm r hd
theorem pe_globR {X : Cx} {x : Str} {a : Addr} {pos : Pos} (hg : Gl X x) (h : X.mg x = some (.ref a)) (hd : (x == ("__debug__" : Str)) = false := by decide) : PE X (.Name x pos) (tC (.ref a)) := pe_glob hg h rfl hd
/-! ### tests -/
theorem itd {p A B : Prop} [Decidable p] (h1 : p → A) (h2 : ¬ p → B) : if decide p = true then A else B := by
  by_cases h : p
  · rw [if_pos (decide_eq_true h)]
    exact h1 h
  · rw [if_neg (by simp [h])]
    exact h2 h
theorem itb {b : Bool} {A B : Prop} (h1 : b = true → A) (h2 : b = false → B) : if b = true then A else B := by
  cases b with
  | true => exact iteT (h1 rfl)
  | false => exact iteF (h2 rfl)
/-! ### error classes -/
/-- an error class that may have an own __init__ -/
structure XB (K : PySem.W.Frag) (mg : Str → Option Value) (x : Str) (C : Addr) : Prop where
  g : mg x = some (.ref C)
  k : PySem.W.keepIn K (.ref C) = true
  b : PySem.W.subIn K (.ref C) (.type "BaseException") = some true
  t : PySem.W.typeIn K (.ref C) = some (.type "type")
  d : PySem.W.hasDictIn K C = true
  i : PySem.W.isClsIn K C = true
/-- an error class without an own __init__ -/
structure XCl (K : PySem.W.Frag) (mg : Str → Option Value) (x : Str) (C : Addr) : Prop extends XB K mg x C where
  x : PySem.W.excIn K C [.type "ValueError", .type "Exception", .type "BaseException", .type "object"] "ValueError.__new__" = true
  e : ExcC K C
section
variable {K : PySem.W.Frag} {h : Heap} {mg : Str → Option Value} {x : Str} {C : Addr}
theorem xb_mk (X : K.In h) (G : h.Ns mainGlobals mg) (a : PySem.W.nsIn K mainGlobals x = some (some (.ref C))) (k : PySem.W.keepIn K (.ref C) = true) (b : PySem.W.subIn K (.ref C) (.type "BaseException") = some true)
    (t : PySem.W.typeIn K (.ref C) = some (.type "type")) (d : PySem.W.hasDictIn K C = true) (i : PySem.W.isClsIn K C = true) : XB K mg x C := ⟨PySem.W.mg_of X G a, k, b, t, d, i⟩
theorem xcl_mk (X : K.In h) (G : h.Ns mainGlobals mg) (a : PySem.W.nsIn K mainGlobals x = some (some (.ref C)))
    (q : PySem.W.excIn K C [.type "ValueError", .type "Exception", .type "BaseException", .type "object"] "ValueError.__new__" = true) (k : PySem.W.keepIn K (.ref C) = true)
    (b : PySem.W.subIn K (.ref C) (.type "BaseException") = some true) (t : PySem.W.typeIn K (.ref C) = some (.type "type"))
    (hg : PySem.W.findIn K (.ref C) "__getattribute__" = some (some (.builtin "BaseException.__getattribute__"))) (hk : PySem.W.findIn K (.ref C) "__getattr__" = some none) (hd : PySem.W.hasDictIn K C = true)
    (ha : PySem.W.findIn K (.ref C) "__class__" = some (some (.builtin "object.__class__"))) (hn : PySem.W.specialIn K (.builtin "object.__class__") "__get__" = some (some (.builtin "getset_descriptor.__get__")))
    (ht : PySem.W.takesIn K (.builtin "object.__class__") = some true) (hm : PySem.W.mroIn K C (.type "object") = some true) (i : PySem.W.isClsIn K C = true) : XCl K mg x C :=
  ⟨⟨PySem.W.mg_of X G a, k, b, t, hd, i⟩, q, ⟨hg, hk, b, hd, ha, hn, ht, hm⟩⟩
/-- isinstance of an own class -/
theorem kit_own {D : Addr} {r : Bool} (i : PySem.W.isClsIn K C = true) (t : PySem.W.typeIn K (.ref C) = some (.type "type")) (s : PySem.W.subIn K (.ref D) (.ref C) = some r) (hne : (Value.ref D == Value.ref C) = true → r = true) :
    PySem.W.kitOne K (.ref D) (.ref C) = some r := by
  unfold PySem.W.kitOne
  cases e : (Value.ref D == Value.ref C) with
  | true => rw [if_pos rfl, hne e]
  | false =>
    rw [if_neg Bool.false_ne_true]
    have h2 : ((PySem.W.clsIn K C).isSome && PySem.W.typeIn K (.ref C) == some (.type "type")) = true := by
      have h2' : (PySem.W.clsIn K C).isSome = true := i
      rw [h2', t] <;> rfl
    show (if ((PySem.W.clsIn K C).isSome && PySem.W.typeIn K (.ref C) == some (.type "type")) = true then PySem.W.subIn K (.ref D) (.ref C) else none) = some r
    rw [if_pos h2, s]
theorem kit_ve {D : Addr} (s : PySem.W.subIn K (.ref D) (.type "ValueError") = some true) : PySem.W.kitOne K (.ref D) (.type "ValueError") = some true := by
  have e : (Value.ref D == Value.type "ValueError") = false := rfl
  unfold PySem.W.kitOne
  rw [e, if_neg Bool.false_ne_true]
  show (if PySem.W.kitMeta "ValueError" = true then PySem.W.subIn K (.ref D) (.type "ValueError") else none) = some true
  rw [if_pos (by decide +kernel), s]
/-- except C takes an error of the class at D -/
theorem exm_own {D : Addr} {r : Bool} {y : Str} (c : XB K mg y C) (s : PySem.W.subIn K (.ref D) (.ref C) = some r) : PySem.W.exmOne K (.ref D) (.ref C) = some r := PySem.W.exm_ref c.b c.d c.t s
/-! ### the facts of the top -/
theorem dn_mk {st : Stmt} {ps : List Str} {f : Addr} {oc : Value} {od an : Option Addr} {osl : Array (Option Value)} {kV doc pm cdv ct : Value} (X : K.In h) (G : h.Ns mainGlobals mg) (a : PySem.W.nsIn K mainGlobals x = some (some (.ref f)))
    (l : K.lookup f = some ⟨oc, od, .func (PySem.W.fnOf x x (defArgs st) (defBody st) (defScope st) .none kV doc pm an cdv ct), osl⟩) (c : PySem.W.codeIn K cdv x = true) (k : PySem.W.keepIn K (.ref f) = true)
    (hb : ∀ (kV doc pm : Value) (an : Option Addr) (cdv ct : Value) (us : List Value), us.length = ps.length → bindArgs (PySem.W.fnOf x x (defArgs st) (defBody st) (defScope st) .none kV doc pm an cdv ct) ⟨us, []⟩ = pure (ps.zip us)) : Dn K mg x st ps :=
  ⟨f, _, fun_mk l c k, PySem.W.mg_of X G a, (fun_mk l c k).binds hb⟩
theorem cv_int {i : Int} {t : Tok} (X : K.In h) (G : h.Ns mainGlobals mg) (a : PySem.W.nsIn K mainGlobals x = some (some (.int i t))) : CV mg x (.int i) := ⟨_, PySem.W.mg_of X G a, _, rfl⟩
theorem cv_str {i : Str} {t : Tok} (X : K.In h) (G : h.Ns mainGlobals mg) (a : PySem.W.nsIn K mainGlobals x = some (some (.str i t))) : CV mg x (.str i) := ⟨_, PySem.W.mg_of X G a, _, rfl⟩
theorem cv_bl {i : Bool} (X : K.In h) (G : h.Ns mainGlobals mg) (a : PySem.W.nsIn K mainGlobals x = some (some (.bool i))) : CV mg x (.bl i) := ⟨_, PySem.W.mg_of X G a, rfl⟩
/-- the name x of the module holds a tuple of the written part -/
def CT (K : PySem.W.Frag) (mg : Str → Option Value) (x : Str) (xs : List V) : Prop := ∃ p, mg x = some (.ref p) ∧ ∀ H, SqT K H p xs
theorem ct_mk {p : Addr} {od : Option Addr} {its : Array Value} {n : Nat} {sl : Array (Option Value)} {xs : List V} (X : K.In h) (G : h.Ns mainGlobals mg) (a : PySem.W.nsIn K mainGlobals x = some (some (.ref p)))
    (l : K.lookup p = some ⟨.type "tuple", od, .seq its n, sl⟩) (hs : its.size ≤ sizeLine) (hv : Vals xs its.toList) : CT K mg x xs :=
  ⟨p, PySem.W.mg_of X G a, fun _ => .inr ⟨_, its, n, l, rfl, rfl, hs, hv⟩⟩
end
theorem pe_globT {X : Cx} {x : Str} {xs : List V} {pos : Pos} (hg : Gl X x) (h : CT X.K X.mg x xs) (hd : (x == ("__debug__" : Str)) = false := by decide) :
    PE X (.Name x pos) (fun _ H Q => ∀ p, (∀ H', SqT X.K H' p xs) → Q (.ref p) H) := by
  obtain ⟨p, hm, hs⟩ := h
  exact ⟨fun pins s σ H Q I h => (pe_glob hg hm (v := .ref p) rfl hd).run pins s σ H Q I (h p hs)⟩
/-! ### a suite that is read for known errors alone -/
theorem pss_guard {X : Cx} {st : List Stmt} {p : Prop} {t : TS} (h : p → PSs X st t) : PSs X st (fun D σ H => p ∧ t D σ H) :=
  ⟨fun pins s σ H D I q => (h q.1).run pins s σ H D I q.2⟩
theorem to_true {Q : VK} {b : Bool} {H : Hp} (h : b = true) (q : Q (.bl true) H) : Q (.bl b) H := h ▸ q
/-- a new object at p stays the only one that changes -/
theorem same_new {H H' : Hp} {p : Addr} {o : HO} (e : Same H H') (hp : H p = none) : Same H (upd H' p o) := Evl.Ex.mut e hp
theorem same_upd {H : Hp} {p : Addr} {o : HO} (hp : H p = none) : Same H (upd H p o) := Evl.Ex.new hp
theorem tyx_list {K : PySem.W.Frag} {H : Hp} {a : Addr} {xs : List V} (h : SqL K H a xs) : TyX K H (.ref a) (.type "list") := by
  rcases h with (h | ⟨o, h⟩) | ⟨o, its, n, h, hc, _⟩
  · exact .base (.lst h)
  · exact .base (.frz h)
  · exact .kList h hc
theorem tyx_tuple {K : PySem.W.Frag} {H : Hp} {a : Addr} {xs : List V} (h : SqT K H a xs) : TyX K H (.ref a) (.type "tuple") := by
  rcases h with (h | ⟨o, h⟩) | ⟨o, its, n, h, hc, _⟩
  · exact .base (.tup h)
  · exact .fTuple h
  · exact .kTuple h hc
theorem small {n : Nat} (h : n ≤ 100000) : n < sizeLine := Nat.lt_of_le_of_lt h (by decide)
theorem smallE {n : Nat} (h : n ≤ 100000) : n ≤ sizeLine := Nat.le_trans h (by decide)
/-- for .. in enumerate(list) -/
theorem for_enum {K : PySem.W.Frag} {a : Addr} {xs : List V} {g : TG} {tb : TS} {D : Ends} {σ : L2.St} {H : Hp} (Pv : Nat → L2.St → Hp → Prop) (h0 : Pv 0 σ H) (hl : ∀ i σ H, i ≤ xs.length → Pv i σ H → SqL K H a xs)
    (hs : ∀ i x T σ H, xs[i]? = some x → Pv i σ H → H T = none → g (.ref T) σ (upd H T (.tup [.int (i : Nat), x])) fun σ2 H2 => tb { D with nx := Pv (i + 1), ct := Pv (i + 1), bk := D.nx } σ2 H2) (hd : ∀ σ H, Pv xs.length σ H → D.nx σ H) :
    ∃ W : Nat → Nat → L2.St → Hp → Prop, (∃ m, W 0 m σ H) ∧ ∀ i m σ H, W i m σ H →
      ((Ite K a).stop i H ∧ D.nx σ H) ∨ ((Ite K a).go i H ∧ ∃ N : L2.St → Hp → Prop, (∀ σ' H', N σ' H' → ∃ m', m' < m ∧ W (i + 1) m' σ' H') ∧ ∀ x H', (Ite K a).yld i H x H' → g x σ H' fun σ2 H2 => tb { D with nx := N, ct := N, bk := D.nx } σ2 H2) := by
  refine ⟨fun i m σ H => m = xs.length - i ∧ i ≤ xs.length ∧ Pv i σ H, ⟨xs.length, by simp, Nat.zero_le _, h0⟩, ?_⟩
  rintro i m σ H ⟨rfl, hi, p⟩
  have q := hl i σ H hi p
  by_cases hlt : i < xs.length
  · refine .inr ⟨⟨xs, xs[i], q, by simp [hlt]⟩, Pv (i + 1), fun σ' H' p' => ⟨xs.length - (i + 1), by omega, rfl, hlt, p'⟩, fun x H' y => ?_⟩
    obtain ⟨T, z, rfl, hT, rfl, y⟩ := y
    exact hs i z T σ H (y xs q) p hT
  · have e : i = xs.length := by omega
    subst e
    exact .inl ⟨⟨xs, q, Nat.le_refl _⟩, hd σ H p⟩
/-- an item of a list by a number that is told -/
theorem at_nat {α : Type} {xs : List α} {i : Int} {j : Nat} {v : α} (e : i = (j : Int)) (h : xs[j]? = some v) : atI xs i = some v := e ▸ atI_nat h
theorem ix_nat {n j : Nat} {i : Int} (e : i = (j : Int)) (h : j < n) : ixN n i = some j := e ▸ Evl.ixN_nat h
/-! ### rules whose reading names the written part by itself (for the bodies and suites of a try) -/
def rLenK (K : PySem.W.Frag) : List V → Hp → VK → Prop := fun xs H Q => ∃ p ys, xs = [.ref p] ∧ (SqL K H p ys ∨ SqT K H p ys) ∧ Q (.int ys.length) H
theorem call_lenK {X : Cx} {K : PySem.W.Frag} (h : X.K = K := by rfl) : CallR X (.builtin "len") (rLenK K) := by
  subst h
  exact call_len_seq
theorem op_eqDK {X : Cx} {K : PySem.W.Frag} (hu : X.A.units + 64 < cLine) (h : X.K = K := by rfl) : OpR X (compareOp .Eq) (rEqD K) := by
  subst h
  exact op_eqD hu
theorem op_neDK {X : Cx} {K : PySem.W.Frag} (hu : X.A.units + 64 < cLine) (h : X.K = K := by rfl) : OpR X (compareOp .NotEq) (rNeD K) := by
  subst h
  exact op_neD hu
theorem call_isiK' {X : Cx} {K : PySem.W.Frag} (h : X.K = K := by rfl) : CallR X (.builtin "isinstance") (rIsi K) := by
  subst h
  exact call_isi
def rListK (K : PySem.W.Frag) : List V → Hp → VK → Prop := fun xs H Q => ∃ p ys, xs = [.ref p] ∧ (SqL K H p ys ∨ SqT K H p ys) ∧ ∀ l, H l = none → Q (.ref l) (upd H l (.lst ys))
theorem call_list_ofK {X : Cx} {K : PySem.W.Frag} (h : X.K = K := by rfl) : CallR X (.type "list") (rListK K) := by
  subst h
  exact call_list_of
theorem sl_listK {X : Cx} {K : PySem.W.Frag} (h : X.K = K := by rfl) : SlR X (rSlL K) := by
  subst h
  exact sl_list
/-! ### slices -/
theorem sIx_nat {n k : Nat} (d : Nat) (h : k ≤ n) : HT.sIx n d (some (k : Int)) = k := by
  simp only [HT.sIx]
  split <;> omega
theorem cut_to {xs : List V} {k : Nat} (h : k ≤ xs.length) : cutV xs none (some (k : Int)) = xs.take k := by
  unfold cutV
  rw [sIx_nat _ h]
  simp [HT.sIx]
theorem cut_from {xs : List V} {k : Nat} (h : k ≤ xs.length) : cutV xs (some (k : Int)) none = xs.drop k := by
  unfold cutV
  rw [sIx_nat _ h]
  simp only [HT.sIx]
  rw [List.take_of_length_le (by rw [List.length_drop]; omega)]
theorem cut_mid {xs : List V} {j k : Nat} (h1 : j ≤ k) (h : k ≤ xs.length) : cutV xs (some (j : Int)) (some (k : Int)) = (xs.drop j).take (k - j) := by
  unfold cutV
  rw [sIx_nat _ h, sIx_nat _ (Nat.le_trans h1 h)]
/-! ### data -/
mutual
theorem dp_mono {K : PySem.W.Frag} {H H' : Hp} (e : Same H H') : ∀ {d : PyData} {v : V}, Dp K H v d → Dp K H' v d
  | _, _, .non => .non
  | _, _, .bl b => .bl b
  | _, _, .int i => .int i
  | _, _, .str x => .str x
  | _, _, .lst h r => .lst (e.seq h) (dpAll_mono e r)
  | _, _, .tup h r => .tup (Evl.ex_t e h) (dpAll_mono e r)
theorem dpAll_mono {K : PySem.W.Frag} {H H' : Hp} (e : Same H H') : ∀ {ds : List PyData} {vs : List V}, DpAll K H vs ds → DpAll K H' vs ds
  | _, _, .nil => .nil
  | _, _, .cons h r => .cons (dp_mono e h) (dpAll_mono e r)
end
theorem dp_ints {K : PySem.W.Frag} {H : Hp} : ∀ (ns : List Int), DpAll K H (ns.map V.int) (ns.map PyData.int)
  | [] => .nil
  | n :: ns => .cons (.int n) (dp_ints ns)
theorem canLayAll_ints : ∀ (ns : List Int), PyData.canLayAll0 (ns.map PyData.int) = true
  | [] => rfl
  | n :: ns => by simp [PyData.canLayAll0, PyData.canLay0, canLayAll_ints ns]
theorem depthAll_ints : ∀ (ns : List Int), PyData.depthAll (ns.map PyData.int) = 0
  | [] => rfl
  | n :: ns => by simp [PyData.depthAll, PyData.depth, depthAll_ints ns]
theorem shaped_ints (ns : List Int) : SeqAt.shaped (.list (ns.map PyData.int)) = true := by
  simp [SeqAt.shaped, PyData.canLay0, PyData.depth, canLayAll_ints, depthAll_ints]
theorem eqvAll_ints : ∀ (ns ms : List Int), PyData.eqvAll (ns.map PyData.int) (ms.map PyData.int) = decide (ns = ms)
  | [], [] => by simp [PyData.eqvAll]
  | [], m :: ms => by simp [PyData.eqvAll]
  | n :: ns, [] => by simp [PyData.eqvAll]
  | n :: ns, m :: ms => by
    by_cases h : n = m <;> simp [PyData.eqvAll, PyData.eqv, eqvAll_ints ns ms, h]
theorem eqv_ints (ns ms : List Int) : PyData.eqv (.list (ns.map PyData.int)) (.list (ms.map PyData.int)) = decide (ns = ms) := by
  rw [PyData.eqv]
  exact eqvAll_ints ns ms
theorem shaped_pair (as bs : List Int) : SeqAt.shaped (.tuple [.list (as.map PyData.int), .list (bs.map PyData.int)]) = true := by
  simp [SeqAt.shaped, PyData.canLay0, PyData.canLayAll0, PyData.depth, PyData.depthAll, canLayAll_ints, depthAll_ints]
theorem eqv_refl' {d : PyData} (h : SeqAt.shaped d = true) : PyData.eqv d d = true := SeqAt.eqv_refl _ (SeqAt.canLay_of_shaped h)
theorem dp_list {K : PySem.W.Frag} {H : Hp} {a : Addr} {ns : List Int} (h : SqL K H a (ns.map V.int)) : Dp K H (.ref a) (.list (ns.map PyData.int)) := .lst h (dp_ints ns)
theorem get_ints {ns : List Int} {i : Nat} {y : V} (h : (ns.map V.int)[i]? = some y) : ∃ (hi : i < ns.length), y = V.int ns[i] := by
  rw [List.getElem?_map] at h
  by_cases hi : i < ns.length
  · rw [List.getElem?_eq_getElem hi] at h
    exact ⟨hi, (Option.some.inj h).symm⟩
  · rw [List.getElem?_eq_none (Nat.le_of_not_lt hi)] at h
    cases h
theorem take_snoc {α : Type} {l : List α} {i : Nat} (hi : i < l.length) : l.take (i + 1) = l.take i ++ [l[i]] := by
  rw [List.take_add_one, List.getElem?_eq_getElem hi]
  rfl
/-! ### the script's cells -/
def cell (ns : List Int) (k : Nat) : Int := ns.getD k 0
theorem cell_in {ns : List Int} {k : Nat} (hk : k < ns.length) : cell ns k = ns[k] := by simp [cell, List.getD_eq_getElem?_getD, List.getElem?_eq_getElem hk]
theorem cell_out {ns : List Int} {k : Nat} (hk : ¬ k < ns.length) : cell ns k = 0 := by simp [cell, List.getD_eq_getElem?_getD, List.getElem?_eq_none (Nat.le_of_not_lt hk)]
end Cm

/-! ### a generator expression that is used up at once: its body is read in a frame of its own, over the maker's abstract heap -/
namespace GX
open PySem PySem.Spec PyProof.Rows L2 Cm
open Sem (wp)
/-- the names of the generator's frame: the maker's slots, then more -/
abbrev gEnv (X : Cx) (scope : Scope) (C : Addr) (code : Value) : Env := genEnv scope (cloFrom X.env.cells scope.names []) C code builtinsNs X.env
/-- where the generator's body stands: entered at s4 -/
def gCx (X : Cx) (scope : Scope) (code : Value) (fp : List Addr) (s4 : Shared) (H4 : Hp) (B : Around) (ext : List Str) : Cx where
  prog := X.prog
  w := X.w
  K := X.K
  mg := X.mg
  base := X.base
  A := B
  N := X.N ++ ext
  s_0 := s4
  H_0 := H4
  env := gEnv X scope s4.heap.objs.size code
  outer := X.stack
  stack := gEnv X scope s4.heap.objs.size code :: X.stack
  ex := fp
  fn := fun _ => false
  calm := true
  pn := []
  xe := fun _ _ => False
/-- the slots that the body begins with -/
def gS (σ : L2.St) (own : List (Str × Nat)) (ext : List Str) : L2.St := wipe (σ ++ ext.map fun _ => none) (own.map (·.2))
/-- what the text of the expression has -/
structure GOk (N : List Str) (sc scope : Scope) (own : List (Str × Nat)) (ext : List Str) : Prop where
  nd : (N ++ ext).Nodup
  blk : BlkOk (N ++ ext) sc scope own
  co : scope.isCoroutine = false
  cell : ∀ y ∈ scope.names, y.2 ≠ .cell
  dot : scope.names.lookup (".0" : Str) = some NameKind.local
theorem wipe_keeps {σ : L2.St} : ∀ {vs : List Nat} {i : Nat} {v : V}, (wipe σ vs)[i]? = some (some v) → σ[i]? = some (some v) ∧ i ∉ vs
  | [], _, _, h => ⟨h, by simp⟩
  | j :: vs, i, v, h => by
    rw [wipe] at h
    by_cases e : j = i
    · subst e
      rw [List.getElem?_set_self'] at h
      cases q : (wipe σ vs)[j]? with
      | none => rw [q] at h; cases h
      | some u => rw [q] at h; cases h
    · rw [List.getElem?_set_ne e] at h
      obtain ⟨a, b⟩ := wipe_keeps h
      exact ⟨a, by simp only [List.mem_cons, not_or]; exact ⟨fun z => e z.symm, b⟩⟩
section
variable {X : Cx} {pins : List (Addr × Obj)} {σ : L2.St} {H4 H : Hp} {s4 s : Shared} {scope : Scope} {own : List (Str × Nat)} {ext : List Str} {code : Value} {fp : List Addr} {B : Around}
theorem cells_of (ok : ∀ y ∈ scope.names, y.2 = .free → ∃ c, X.env.cells.lookup y.1 = some c) {y : Str} {c : Addr} (e : (cloFrom X.env.cells scope.names []).lookup y = some c) : X.env.cells.lookup y = some c := by
  rcases cloFrom_mem (PySem.mem_of_lookup e) with q | ⟨q, r⟩
  · cases q
  · obtain ⟨c1, hc⟩ := ok _ q rfl
    have hc' : X.env.cells.lookup y = some c1 := hc
    rw [hc'] at r
    rw [hc', r]
    rfl
theorem cells_to {y : Str} (hl : scope.names.lookup y = some .free) : ∃ c, (cloFrom X.env.cells scope.names []).lookup y = some c :=
  mem_lookup (cloFrom_has (cells := X.env.cells) (acc := []) (PySem.mem_of_lookup hl))
theorem free_cells (I : Inv X pins σ H4 s4) (G : GOk X.N X.env.scope scope own ext) : ∀ y ∈ scope.names, y.2 = .free → ∃ c, X.env.cells.lookup y.1 = some c := fun y hy e => by
  rcases G.blk.free y hy e with k | k
  · exact I.ok.has _ (.inl k)
  · exact I.ok.has _ (.inr k)
/-- the body's frame over the maker's heap, at any later state -/
theorem gx_inv (I : Inv X pins σ H4 s4) (G : GOk X.N X.env.scope scope own ext) (hf : ∀ b ∈ fp, FpOk X pins H4 b) (hB : B.frames = some (gEnv X scope s4.heap.objs.size code :: X.stack)) (hh : B.handled = none)
    (os : s.os = s4.os) (bare : AllBare s.gens) (un : Un (frs X.stack) fp H4 H s4.heap s.heap) (hok : HOk X.prog X.w H s.heap) (hns : ∃ m, s.heap.Ns s4.heap.objs.size m) (hC : H s4.heap.objs.size = none) (lt : ∀ b ∈ fp, b < s4.heap.objs.size)
    {ps : List (Addr × Obj)} (hps : ∀ p ∈ ps, s.heap.get? p.1 = some p.2 ∧ H p.1 = none ∧ p.1 ≠ s4.heap.objs.size ∧ p.1 ∉ frs X.stack ∧ ∀ v, p.2.data ≠ .cell v) :
    Inv (gCx X scope code fp s4 H4 B ext) ps (gS σ own ext) H s := by
  have fc := free_cells I G
  have cm : ∀ {y c}, (cloFrom X.env.cells scope.names []).lookup y = some c → X.env.cells.lookup y = some c := fun {y c} e => cells_of fc e
  have e0 := I.env0
  have nfp : ∀ {y c}, X.env.cells.lookup y = some c → c ∉ fp := fun {y c} e z => (hf c z).2.2.2.2.1 y c e rfl
  have cellK : ∀ {y c v}, X.env.cells.lookup y = some c → s4.heap.IsCell c v → s.heap.IsCell c v := fun {y c v} e ⟨o, ho, hd⟩ => by
    obtain ⟨sl, q⟩ := un.any ho (I.freeC y c e) (nfp e)
    exact ⟨_, q, hd⟩
  have hfp : ∀ b ∈ fp, b ∉ frs X.stack := fun b hb z => by
    rcases List.mem_cons.mp (I.stkSub _ z) with e | e
    · exact (hf b hb).2.1 e
    · exact (hf b hb).2.2.1 e
  have hbase : ∀ b o, X.base.get? b = some o → b ∉ fp := fun b o e z => by
    rcases (hf b z).2.2.2.1 with q | q
    · exact I.ok.noex b o e q
    · exact absurd (Nat.lt_of_lt_of_le (Heap.lt_size e) (Nat.le_trans I.ok.bsz q)) (Nat.lt_irrefl _)
  obtain ⟨m, hm⟩ := hns
  refine ⟨⟨e0.mod, G.blk.kind, I.ok.glob, rfl, Nat.le_refl _, fun y z c e1 e2 => I.ok.inj y z c (cm e1) (cm e2), fun y hy => ?_, fun _ _ z _ => ?_, fun _ => hh, hB, .inr ⟨rfl, rfl⟩, fun b hb => ⟨Nat.ne_of_lt (lt b hb), fun y c e => fun z => nfp (cm e) (z ▸ hb)⟩, e0.bs, e0.bsz, hbase, hfp, e0.funs, e0.frf⟩,
    os, bare, un, ⟨m, hm, fun i y v e1 e2 e3 => ?_⟩, fun y c e => ?_, hC, fun y c e => ?_, fun q hq => ?_, hok, ?_⟩
  · have hy' : scope.names.lookup y = some .cell ∨ scope.names.lookup y = some .free := hy
    rcases hy' with hy' | hy'
    · exact absurd rfl (G.cell _ (PySem.mem_of_lookup hy'))
    · exact cells_to hy'
  · exact absurd (show false = true from z) (by decide)
  · have e1' : (X.N ++ ext)[i]? = some y := e1
    obtain ⟨q1, q2⟩ := wipe_keeps e2
    have e3' : Vis scope y := e3
    have own_no : scope.names.lookup y = some .local ∨ scope.names.lookup y = some .cell → False := fun k => by
      have hy : (y, NameKind.local) ∈ scope.names ∨ (y, NameKind.cell) ∈ scope.names := k.elim (fun k => .inl (PySem.mem_of_lookup k)) fun k => .inr (PySem.mem_of_lookup k)
      have own_or : y ∈ own.map (·.1) ∨ y ∉ X.N ++ ext := hy.elim (fun k => G.blk.own _ k (.inl rfl)) fun k => G.blk.own _ k (.inr rfl)
      rcases own_or with z | z
      · obtain ⟨p, hp, ep⟩ := List.mem_map.mp z
        have ei := G.blk.ix p hp
        rw [ep] at ei
        have : p.2 = i := nodup_ix G.nd ei e1'
        exact q2 (List.mem_map.mpr ⟨p, hp, this⟩)
      · exact z (List.mem_of_getElem? e1')
    have hfree : scope.names.lookup y = some .free := by
      rcases e3' with k | k | k
      · exact (own_no (.inl k)).elim
      · exact (own_no (.inr k)).elim
      · exact k
    have hi : i < σ.length := by
      by_cases hi : i < σ.length
      · exact hi
      · rw [List.getElem?_append_right (Nat.le_of_not_lt hi), List.getElem?_map] at q1
        cases q : ext[i - σ.length]? with
        | none => rw [q] at q1; cases q1
        | some u => rw [q] at q1; cases q1
    rw [List.getElem?_append_left hi] at q1
    rw [List.getElem?_append_left (by rw [← I.len]; exact hi)] at e1'
    have sck := G.blk.free _ (PySem.mem_of_lookup hfree) rfl
    obtain ⟨m2, _, hl⟩ := I.loc
    obtain ⟨u, ru, lk⟩ := hl i y v e1' q1 (sck.elim (fun k => .inr (.inl k)) fun k => .inr (.inr k))
    obtain ⟨c2, h2⟩ := cells_to (X := X) hfree
    refine ⟨u, ru, .inr ⟨.inr hfree, c2, h2, ?_⟩⟩
    rcases lk with ⟨k', _⟩ | ⟨_, c3, e', z⟩
    · have k' : X.env.scope.names.lookup y = some .local := k'
      rcases sck with k2 | k2 <;> rw [show X.env.scope.names.lookup y = _ from k2] at k' <;> cases k'
    · rw [cm h2] at e'
      cases e'
      exact cellK (cm h2) z
  · obtain ⟨v, z⟩ := I.cell y c (cm e)
    exact ⟨v, cellK (cm e) z⟩
  · obtain ⟨v, o, ho, hd⟩ := I.cell y c (cm e)
    exact un.free c o ho (I.freeC y c (cm e)) (nfp (cm e))
  · exact hps q (by simpa [gCx] using hq)
  · show (wipe _ _).length = _
    rw [wipe_length, List.length_append, List.length_map]
    show _ = (X.N ++ ext).length
    rw [List.length_append, I.len]
end
/-- what holds while the generator is awake or asleep; sx: what its consumer writes meanwhile -/
structure CO (X : Cx) (fp sx : List Addr) (s4 : Shared) (H4 H : Hp) (s : Shared) : Prop where
  os : s.os = s4.os
  bare : AllBare s.gens
  un : Un (frs X.stack) fp H4 H s4.heap s.heap
  hok : HOk X.prog X.w H s.heap
  ns : ∃ m, s.heap.Ns s4.heap.objs.size m
  free : H s4.heap.objs.size = none
  fr : ∀ b ∈ fp, H b = none
  sx : ∀ b ∈ sx, (∃ o, s.heap.get? b = some o ∧ ∀ v, o.data ≠ .cell v) ∧ H b = none ∧ b ≠ s4.heap.objs.size ∧ b ∉ frs X.stack ∧ b ∉ fp ∧ s4.heap.get? b = none
/-- what the consumer does while the generator sleeps -/
structure Kp (sx : List Addr) (s s' : Shared) : Prop where
  os : s'.os = s.os
  bare : AllBare s'.gens
  keep : ∀ b o, b ∉ sx → s.heap.get? b = some o → s'.heap.get? b = some o
  own : ∀ b ∈ sx, ∃ o, s'.heap.get? b = some o ∧ ∀ v, o.data ≠ .cell v
theorem CO.kp {X : Cx} {fp sx : List Addr} {s4 s s' : Shared} {H4 H : Hp} (h : CO X fp sx s4 H4 H s) (k : Kp sx s s') : CO X fp sx s4 H4 H s' := by
  have n4 : ∀ b o, s4.heap.get? b = some o → b ∉ sx := fun b o e z => by
    rw [(h.sx b z).2.2.2.2.2] at e
    cases e
  have nH : ∀ b u, H b = some u → b ∉ sx := fun b u e z => by
    rw [(h.sx b z).2.1] at e
    cases e
  refine ⟨k.os.trans h.os, k.bare, ⟨fun b o e n h1 h2 => k.keep b o (n4 b o e) (h.un.keep b o e n h1 h2), fun b o e n h1 h2 => ?_, h.un.free, fun b o e h2 => ?_, h.un.tups, h.un.frzs, h.un.tbls⟩, fun a o e => ?_, ?_, h.free, h.fr, fun b hb => ⟨k.own b hb, (h.sx b hb).2⟩⟩
  · obtain ⟨sl, q⟩ := h.un.slot b o e n h1 h2
    exact ⟨sl, k.keep b _ (n4 b o e) q⟩
  · obtain ⟨o', q⟩ := h.un.there b o e h2
    exact ⟨o', k.keep b _ (n4 b o e) q⟩
  · refine (h.hok a o e).stay (fun b u hb q => k.keep b u ?_ q) (fun _ z => z) fun _ _ z => z
    rcases hb with z | z
    · exact z ▸ nH a o e
    · exact nH b _ z
  · obtain ⟨m, o, es, ep, ho, r⟩ := h.ns
    exact ⟨m, o, es, ep, k.keep _ _ (fun z => (h.sx _ z).2.2.1 rfl) ho, r⟩
/-- all that does not change of a generator -/
structure GSt (X : Cx) (pins : List (Addr × Obj)) (σ : L2.St) (scope : Scope) (own : List (Str × Nat)) (ext : List Str) (tg : Expr) (code : Value) (H4 : Hp) (s4 : Shared) (J : It) (fp : List Addr) (it : Addr) (tn : Nat → Heap → Prop) : Prop where
  inv : Inv X pins σ H4 s4
  ok : GOk X.N X.env.scope scope own ext
  turn : Turn X.prog X.w X.K tg J fp it tn
  fpo : ∀ b ∈ fp, FpOk X pins H4 b
  lt : ∀ b ∈ fp, b < s4.heap.objs.size
section
variable {X : Cx} {pins : List (Addr × Obj)} {σ : L2.St} {H4 : Hp} {s4 : Shared} {scope : Scope} {own : List (Str × Nat)} {ext : List Str} {tg elt iter : Expr} {code : Value} {fp sx : List Addr} {J : It} {it : Addr} {tn : Nat → Heap → Prop} {pos : Pos}
/-- the loop's code -/
abbrev gLoop (X : Cx) (tg elt iter : Expr) (scope : Scope) (pos : Pos) (it : Addr) (s4 : Shared) (code : Value) : Code :=
  .compLoop (.GeneratorExp elt [⟨tg, iter, [], 0⟩] scope pos) 0 (.ref it) .none (gEnv X scope s4.heap.objs.size code)
abbrev gFirst (X : Cx) (tg elt iter : Expr) (scope : Scope) (pos : Pos) (it : Addr) (s4 : Shared) (code : Value) : Code :=
  .compStart (.GeneratorExp elt [⟨tg, iter, [], 0⟩] scope pos) 0 (.ref it) .none (gEnv X scope s4.heap.objs.size code)
def gY (X : Cx) (fp sx : List Addr) (s4 : Shared) (H4 : Hp) (tn : Nat → Heap → Prop) (W : Nat → Nat → Hp → Prop) (Yd : Nat → Nat → V → Hp → Prop) : Protocol := fun n s0 v s kap =>
  ∃ (y : V) (i m : Nat) (H : Hp), RelV y v ∧ Yd i m y H ∧ CO X fp sx s4 H4 H s ∧ tn (i + 1) s.heap ∧ (∀ b ∈ sx, s.heap.get? b = s0.heap.get? b) ∧ m ≤ n ∧ ∀ m' s', m' < m → W (i + 1) m' H → Kp sx s s' → kap (.send .none) s'
def gE (X : Cx) (fp sx : List Addr) (s4 : Shared) (H4 : Hp) (Dn : Hp → Prop) : Nat → Shared → Shared → Prop := fun _ s0 s => ∃ H, Dn H ∧ CO X fp sx s4 H4 H s ∧ ∀ b ∈ sx, s.heap.get? b = s0.heap.get? b
theorem CO.inv {H : Hp} {s : Shared} {B : Around} (S : GSt X pins σ scope own ext tg code H4 s4 J fp it tn) (h : CO X fp sx s4 H4 H s) (hB : B.frames = some (gEnv X scope s4.heap.objs.size code :: X.stack)) (hh : B.handled = none) :
    Inv (gCx X scope code fp s4 H4 B ext) (pinsAt sx s.heap) (gS σ own ext) H s := by
  refine gx_inv S.inv S.ok S.fpo hB hh h.os h.bare h.un h.hok h.ns h.free S.lt fun p hp => ?_
  obtain ⟨hb, e⟩ := of_pinsAt hp
  obtain ⟨⟨o, e', d⟩, h2, h3, h4, _⟩ := h.sx p.1 hb
  rw [e] at e'
  cases e'
  exact ⟨e, h2, h3, h4, d⟩
theorem CO.of_inv {H H' : Hp} {s s' : Shared} {B : Around} {σ' : L2.St} (h : CO X fp sx s4 H4 H s) (I : Inv (gCx X scope code fp s4 H4 B ext) (pinsAt sx s.heap) σ' H' s') (hf : ∀ b ∈ fp, H' b = none) : CO X fp sx s4 H4 H' s' ∧ ∀ b ∈ sx, s'.heap.get? b = s.heap.get? b := by
  have pin : ∀ b ∈ sx, ∀ o, s.heap.get? b = some o → s'.heap.get? b = some o ∧ H' b = none := fun b hb o e => by
    have z := I.pin (b, o) (List.mem_append_right _ (mem_pinsAt hb e))
    exact ⟨z.1, z.2.1⟩
  refine ⟨⟨I.os, I.bare, I.base, I.hok, ?_, I.free, hf, fun b hb => ?_⟩, fun b hb => ?_⟩
  · obtain ⟨m, hm, _⟩ := I.loc
    exact ⟨m, hm⟩
  · obtain ⟨⟨o, e, d⟩, h2, h3⟩ := h.sx b hb
    obtain ⟨p1, p2⟩ := pin b hb o e
    exact ⟨⟨o, p1, d⟩, p2, h3⟩
  · obtain ⟨⟨o, e, d⟩, _⟩ := h.sx b hb
    rw [e, (pin b hb o e).1]
theorem seg_loop {Ag : Around} (S : GSt X pins σ scope own ext tg code H4 s4 J fp it tn) (hfr : Ag.frames = some X.stack) (hh : Ag.handled = none) {g : TG} {te : TE}
    (hg : PG (gCx X scope code fp s4 H4 (Ag.over (gLoop X tg elt iter scope pos it s4 code) []) ext) tg g) (he : PE (gCx X scope code fp s4 H4 (Ag.over (gLoop X tg elt iter scope pos it s4 code) []) ext) elt te)
    (W : Nat → Nat → Hp → Prop) (Dn : Hp → Prop) (Yd : Nat → Nat → V → Hp → Prop)
    (turn : ∀ i m H, W i m H → (J.stop i H ∧ Dn H) ∨ (J.go i H ∧ ∃ Yn : V → Hp → Prop, (∀ v H3, Yn v H3 → Yd i m v H3) ∧ ∀ x H', J.yld i H x H' → g x (gS σ own ext) H' fun σ2 H2 => te σ2 H2 Yn)) :
    ∀ n i m H s, m < n → W i m H → CO X fp sx s4 H4 H s → tn i s.heap →
      Seg (model X.prog X.w) Ag (fun n s0 r s1 => r = .ok .next ∧ gE X fp sx s4 H4 Dn n s0 s1) (gY X fp sx s4 H4 tn W Yd) n s (gLoop X tg elt iter scope pos it s4 code) ((model X.prog X.w).den (gLoop X tg elt iter scope pos it s4 code)) [] s := by
  have hB : (Ag.over (gLoop X tg elt iter scope pos it s4 code) []).frames = some (gEnv X scope s4.heap.objs.size code :: X.stack) := by
    show pushEnvs [gEnv X scope s4.heap.objs.size code] (pushEnvs [] Ag.frames) = _
    rw [hfr]
    rfl
  have hBh : (Ag.over (gLoop X tg elt iter scope pos it s4 code) []).handled = none := hh
  intro n
  induction n with
  | zero => exact fun i m H s hm => absurd hm (Nat.not_lt_zero _)
  | succ n ih =>
    intro i m H s hm w0 h0 t0
    have I0 := CO.inv S h0 hB hBh
    have ff : ∀ {H' : Hp}, (∀ b ∈ fp, H' b = none) → ∀ b ∈ fp, FpOk (gCx X scope code fp s4 H4 (Ag.over (gLoop X tg elt iter scope pos it s4 code) []) ext) (pinsAt sx s.heap) H' b := fun hn b hb => by
      refine ⟨hn b hb, Nat.ne_of_lt (S.lt b hb), I0.ok.exfs b hb, .inl hb, (I0.ok.exf b hb).2, fun p hp z => ?_⟩
      have q := (of_pinsAt (show p ∈ pinsAt sx s.heap by simpa [gCx] using hp)).1
      exact (h0.sx p.1 q).2.2.2.2.1 (z ▸ hb)
    show Seg _ Ag _ _ _ s _ ((compTurn (.GeneratorExp elt [⟨tg, iter, [], 0⟩] scope pos) 0 (.ref it) .none (gEnv X scope s4.heap.objs.size code)).onRaise (leaving (gEnv X scope s4.heap.objs.size code))) [] s
    rw [compTurn_gen, Sem.onRaise_eq_wrap]
    refine seg_bind_wrap (wpAny_standAt ?_)
    rcases turn i m H w0 with ⟨stop, dn⟩ | ⟨go, Yn, hYn, step⟩
    · refine seg_bind_wrap (wpAny_mono (S.turn.done (gCx X scope code fp s4 H4 (Ag.over (gLoop X tg elt iter scope pos it s4 code) []) ext) rfl rfl rfl rfl i _ s _ H (fun _ _ => False) I0 (ff h0.fr) t0 stop) (fun r s1 hr => ?_) fun _ _ z => False.elim z)
      obtain ⟨rfl, I1⟩ := hr
      obtain ⟨c1, x1⟩ := h0.of_inv I1 h0.fr
      exact seg_end (.ok .next) ⟨rfl, H, dn, c1, x1⟩
    · refine seg_bind_wrap (wpAny_mono (S.turn.item (gCx X scope code fp s4 H4 (Ag.over (gLoop X tg elt iter scope pos it s4 code) []) ext) rfl rfl rfl rfl i _ s _ H (fun _ _ => False) I0 (ff h0.fr) t0 go) (fun r s1 hr => ?_) fun _ _ z => False.elim z)
      obtain ⟨u, rfl, h1⟩ := hr
      refine seg_bind_wrap (wpAny_mono h1 (fun _ s2 h2 => ?_) fun _ _ z => False.elim z)
      obtain ⟨x, H2, I2, rx, y2, t2, f2⟩ := h2
      have I2p := I2.pinned (ff f2) (S.turn.obj _ _ t2)
      refine seg_bind_wrap (wpAny_mono (hg.run _ s2 _ H2 x u _ I2p rx (step x H2 y2)) (fun _ s3 h3 => ?_) fun _ _ z => False.elim z)
      obtain ⟨σ3, H3, I3, q3⟩ := h3
      simp only [List.forIn_nil]
      refine seg_bind_wrap (wpAny_pure ?_)
      simp only [if_true]
      have hy : ∀ v, yieldOut (gEnv X scope s4.heap.objs.size code) v = yieldValue v := fun v => by
        have q : (gEnv X scope s4.heap.objs.size code).scope.isCoroutine = false := S.ok.co
        simp only [yieldOut, q, Bool.false_eq_true, if_false]
      simp only [hy]
      rw [Sem.bind_eq_wrap', Sem.bind_eq_wrap', Sem.wrap_wrap, Sem.wrap_wrap]
      refine seg_wrap (wpAny_mono (he.run _ s3 σ3 H3 _ I3 q3) (fun v s5 h5 => ?_) fun _ _ z => False.elim z)
      obtain ⟨y, H5, I5, ry, q5⟩ := h5
      have pf : ∀ b ∈ fp, ∀ o, s2.heap.get? b = some o → s5.heap.get? b = some o ∧ H5 b = none := fun b hb o e => by
        have z := I5.pin (b, o) (List.mem_append_right _ (List.mem_append_right _ (mem_pinsAt hb e)))
        exact ⟨z.1, z.2.1⟩
      have f5 : ∀ b ∈ fp, H5 b = none := fun b hb => by
        obtain ⟨o, e, _⟩ := S.turn.obj _ _ t2 b hb
        exact (pf b hb o e).2
      have t5 : tn (i + 1) s5.heap := S.turn.keep _ _ _ t2 fun b hb o e => (pf b hb o e).1
      obtain ⟨c5, x5⟩ := h0.of_inv I5.unpinned f5
      refine seg_at (seg_yield rfl rfl rfl ⟨y, i, m, H5, ry, hYn _ _ q5, c5, t5, x5, Nat.lt_succ_iff.mp hm, fun m' s' hm' w' kp => ?_⟩)
      refine seg_again rfl (ih (i + 1) m' H5 s' (Nat.lt_of_lt_of_le hm' (Nat.lt_succ_iff.mp hm)) w' (c5.kp kp) (S.turn.keep _ _ _ t5 fun b hb o e => kp.keep b o (fun z => (c5.sx b z).2.2.2.2.1 hb) e))
theorem seg_first {Ag : Around} (S : GSt X pins σ scope own ext tg code H4 s4 J fp it tn) (hh : Ag.handled = none) {R : GenEnd} {Y : Protocol} {n : Nat} {s0 s : Shared} (t0 : tn 0 s.heap)
    (loop : Seg (model X.prog X.w) Ag R Y n s0 (gLoop X tg elt iter scope pos it s4 code) ((model X.prog X.w).den (gLoop X tg elt iter scope pos it s4 code)) [] s) :
    Seg (model X.prog X.w) Ag R Y n s0 (gFirst X tg elt iter scope pos it s4 code) ((model X.prog X.w).den (gFirst X tg elt iter scope pos it s4 code)) [] s := by
  show Seg _ Ag _ _ _ s0 _ ((compStart (.GeneratorExp elt [⟨tg, iter, [], 0⟩] scope pos) 0 (.ref it) .none (gEnv X scope s4.heap.objs.size code)).onRaise (leaving (gEnv X scope s4.heap.objs.size code))) [] s
  unfold compStart
  rw [Sem.onRaise_eq_wrap]
  show Seg _ Ag _ _ _ s0 _ ((ask >>= _).wrap _ _ _ _) [] s
  refine seg_bind_wrap (wpAny_askSetting ?_)
  split
  · exact seg_again rfl loop
  · first
      | exact seg_bind_wrap (wpAny_rule (seg_bind_wrap (wpAny_standAt (seg_bind_wrap (S.turn.self _ 0 s _ _ t0 (seg_again rfl loop))))))
      | (refine seg_bind_wrap (wpAny_rule ?_); show Seg _ Ag _ _ _ s0 _ ((standAt iter.pos >>= _).wrap _ _ _ _) [] s; exact seg_bind_wrap (wpAny_standAt (seg_bind_wrap (S.turn.self _ 0 s _ _ t0 (seg_again rfl loop)))))
theorem lim_of {H : Hp} {s : Shared} (S : GSt X pins σ scope own ext tg code H4 s4 J fp it tn) (h : CO X fp sx s4 H4 H s) : s.heap.NoLimit := by
  refine S.inv.ok.mod.nolimit.keeps fun b o e => ?_
  obtain ⟨e1, e2⟩ := S.inv.bs b o e
  refine h.un.keep b o e1 e2 (fun z => ?_) fun z => ?_
  · have q := (S.inv.env0.funs.mem z).1
    rw [e] at q
    cases q
  · rcases (S.fpo b z).2.2.2.1 with q | q
    · exact S.inv.ok.noex b o e q
    · exact absurd (Nat.lt_of_lt_of_le (Heap.lt_size e) (Nat.le_trans S.inv.ok.bsz q)) (Nat.lt_irrefl _)
/-- the generator at ga, its state kept at gi, asleep; n: how often it may be woken -/
structure GA (X : Cx) (fp sx : List Addr) (s4 : Shared) (H4 : Hp) (tn : Nat → Heap → Prop) (W : Nat → Nat → Hp → Prop) (Dn : Hp → Prop) (Yd : Nat → Nat → V → Hp → Prop) (Ag : Around) (ga : Addr) (gi n : Nat) (s : Shared) : Prop where
  gen : s.heap.IsGen ga gi
  mem : ga ∈ sx
  co : ∃ H, CO X fp sx s4 H4 H s
  goes : ∃ gs, s.gens[gi]? = some gs ∧ ∀ s', Kp sx s s' → gs.Goes (model X.prog X.w) Ag (fun n s0 r s1 => r = .ok .next ∧ gE X fp sx s4 H4 Dn n s0 s1) (gY X fp sx s4 H4 tn W Yd) n (.send .none) s'
theorem AllBare.set {s : Shared} {g : Nat} {x : GenState} (h : AllBare s.gens) (hx : x.bare = true) : AllBare (s.setGen g x).gens := fun y hy => by
  obtain ⟨j, hj, e⟩ := Array.mem_iff_getElem.mp hy
  by_cases q : g = j
  · subst q
    simp [Shared.setGen] at e
    exact e ▸ hx
  · have hj' : j < s.gens.size := by simpa [Shared.setGen] using hj
    have e2 : y = s.gens[j] := by
      rw [← e]
      simp only [Shared.setGen]
      exact Array.getElem_setIfInBounds_ne hj' q
    rw [e2]
    exact h _ (Array.getElem_mem hj')
theorem CO.any {H : Hp} {s s' : Shared} (h : CO X fp sx s4 H4 H s) (os : s'.os = s.os) (bare : AllBare s'.gens) (k : ∀ b o, s.heap.get? b = some o → s'.heap.get? b = some o) : CO X fp sx s4 H4 H s' :=
  h.kp ⟨os, bare, fun b o _ e => k b o e, fun b hb => let ⟨⟨o, e, d⟩, _⟩ := h.sx b hb; ⟨o, k b o e, d⟩⟩
theorem gen_next {Ap : Around} {W : Nat → Nat → Hp → Prop} {Dn : Hp → Prop} {Yd : Nat → Nat → V → Hp → Prop} {ga : Addr} {gi n : Nat} {s : Shared} {E : Value → Shared → Prop} (S : GSt X pins σ scope own ext tg code H4 s4 J fp it tn) (hh : Ap.handled = none) (hd : Ap.depth < recursionLimit)
    (h : GA X fp sx s4 H4 tn W Dn Yd Ap.in1 ga gi (n + 1) s) :
    wpAny (model X.prog X.w) Ap (pyNext (.ref ga)) (fun r s1 => (r = none ∧ ∃ H, Dn H ∧ CO X fp sx s4 H4 H s1 ∧ ∀ b ∈ sx, s1.heap.get? b = s.heap.get? b) ∨
      ∃ v y i m H, r = some v ∧ RelV y v ∧ Yd i m y H ∧ CO X fp sx s4 H4 H s1 ∧ (∀ b ∈ sx, s1.heap.get? b = s.heap.get? b) ∧ m ≤ n ∧ ∀ m', m' < m → W (i + 1) m' H → GA X fp sx s4 H4 tn W Dn Yd Ap.in1 ga gi n s1) E s := by
  obtain ⟨hg, hm, ⟨H0, c0⟩, gs, hgs, hgo⟩ := h
  have hlt : gi + 1 ≤ s.gens.size := by
    by_cases q : gi < s.gens.size
    · exact q
    · rw [Array.getElem?_eq_none (Nat.le_of_not_lt q)] at hgs
      cases hgs
  refine GenW.wpAny_gsz hlt (wpAny_pyNext_genexpQ (P := gE X fp sx s4 H4 Dn) hh (lim_of S c0) hd hg hgs (hgo _ ⟨rfl, AllBare.set c0.bare rfl, fun _ _ _ e => e, fun b hb => (c0.sx b hb).1⟩) (fun v s1 gs' hb hy hsz => ?_) (fun s1 he h' hk _ => ?_))
  · obtain ⟨y, i, m, H, ry, yd, c1, t1, x1, hmn, hka⟩ := hy
    have c2 : CO X fp sx s4 H4 H (s1.setGen gi gs') := c1.any rfl (AllBare.set c1.bare hb) fun _ _ e => e
    refine .inr ⟨v, y, i, m, H, rfl, ry, yd, c2, x1, hmn, fun m' hm' w' => ⟨?_, hm, ⟨H, c2⟩, gs', ?_, fun s' kp => ?_⟩⟩
    · obtain ⟨o, nm, qn, ho, r⟩ := hg
      exact ⟨o, nm, qn, (x1 ga hm).trans ho, r⟩
    · have hsz2 : gi < s1.gens.size := by
        have q : (s1.setGen gi gs').gens.size = s1.gens.size := GenW.setGen_size _ _ _
        rw [q] at hsz
        exact hsz
      simp [Shared.setGen, hsz2]
    · exact hka m' s' hm' w' ⟨kp.os, kp.bare, kp.keep, kp.own⟩
  · obtain ⟨H, dn, c1, x1⟩ := he
    have c2 : CO X fp sx s4 H4 H { s1.setGen gi .finished with heap := h' } := c1.any rfl (AllBare.set c1.bare rfl) hk
    refine .inl ⟨rfl, H, dn, c2, fun b hb => ?_⟩
    obtain ⟨⟨o, e, _⟩, _⟩ := c1.sx b hb
    exact (hk b o e).trans (e.symm.trans (x1 b hb))
theorem any_walk {W : Nat → Nat → Hp → Prop} {QT QF : Hp → Prop} {ga : Addr} {gi : Nat} {R : Result → Shared → Prop} (S : GSt X pins σ scope own ext tg code H4 s4 J fp it tn) (hh : X.A.handled = none) (hd : X.A.depth < recursionLimit)
    (hR : ∀ (b : Bool) (H : Hp) (s' : Shared), (if b = true then QT H else QF H) → CO X fp sx s4 H4 H s' → R (.ok (.ret (.bool b))) s') :
    ∀ n s, GA X fp sx s4 H4 tn W QF (fun i m y H => ∃ b, y = V.bl b ∧ if b = true then QT H else ∃ m', m' < m ∧ W (i + 1) m' H) X.A.in1.in1 ga gi (n + 1) s → codeAny (model X.prog X.w) X.A (.builtin "any.loop" ⟨[.ref ga], []⟩) R s := by
  intro n
  induction n with
  | zero =>
    intro s h
    refine codeAny_builtin F.entry_any_loop ?_
    rw [Around.under_plainId F.plain_any_loop _]
    show wpAny _ X.A.in1 (pyNext (.ref ga) >>= _) _ _ s
    refine wpAny_bind (wpAny_mono (gen_next (E := fun _ _ => False) S hh hd h) (fun r s1 hr => ?_) fun _ _ z => False.elim z)
    rcases hr with ⟨rfl, H, dn, c1, _⟩ | ⟨v, y, i, m, H, rfl, ry, ⟨b, rfl, yd⟩, c1, _, hm, _⟩
    · exact wpAny_bind (wpAny_rule (wpAny_pure (hR false H s1 (iteF dn) c1)))
    · obtain rfl : v = Value.bool b := ry
      refine wpAny_bind (wpAny_holding (wpAny_truthy_bool (wpAny_bind (wpAny_letGo ?_))))
      cases b with
      | true => exact wpAny_bind (wpAny_rule (wpAny_pure (hR true H s1 yd c1)))
      | false =>
        obtain ⟨m', hm', _⟩ : ∃ m', m' < m ∧ W (i + 1) m' H := yd
        omega
  | succ n ih =>
    intro s h
    refine codeAny_builtin F.entry_any_loop ?_
    rw [Around.under_plainId F.plain_any_loop _]
    show wpAny _ X.A.in1 (pyNext (.ref ga) >>= _) _ _ s
    refine wpAny_bind (wpAny_mono (gen_next (E := fun _ _ => False) S hh hd h) (fun r s1 hr => ?_) fun _ _ z => False.elim z)
    rcases hr with ⟨rfl, H, dn, c1, _⟩ | ⟨v, y, i, m, H, rfl, ry, ⟨b, rfl, yd⟩, c1, _, hm, more⟩
    · exact wpAny_bind (wpAny_rule (wpAny_pure (hR false H s1 (iteF dn) c1)))
    · obtain rfl : v = Value.bool b := ry
      refine wpAny_bind (wpAny_holding (wpAny_truthy_bool (wpAny_bind (wpAny_letGo ?_))))
      cases b with
      | true => exact wpAny_bind (wpAny_rule (wpAny_pure (hR true H s1 yd c1)))
      | false =>
        obtain ⟨m', hm', w'⟩ : ∃ m', m' < m ∧ W (i + 1) m' H := yd
        exact wpAny_pure ⟨plainId_quiet F.plain_any_loop _, ih s1 (more m' hm' w')⟩
theorem all_walk {W : Nat → Nat → Hp → Prop} {QT QF : Hp → Prop} {ga : Addr} {gi : Nat} {R : Result → Shared → Prop} (S : GSt X pins σ scope own ext tg code H4 s4 J fp it tn) (hh : X.A.handled = none) (hd : X.A.depth < recursionLimit)
    (hR : ∀ (b : Bool) (H : Hp) (s' : Shared), (if b = true then QT H else QF H) → CO X fp sx s4 H4 H s' → R (.ok (.ret (.bool b))) s') :
    ∀ n s, GA X fp sx s4 H4 tn W QT (fun i m y H => ∃ b, y = V.bl b ∧ if b = false then QF H else ∃ m', m' < m ∧ W (i + 1) m' H) X.A.in1.in1 ga gi (n + 1) s → codeAny (model X.prog X.w) X.A (.builtin "all.loop" ⟨[.ref ga], []⟩) R s := by
  intro n
  induction n with
  | zero =>
    intro s h
    refine codeAny_builtin F.entry_all_loop ?_
    rw [Around.under_plainId F.plain_all_loop _]
    show wpAny _ X.A.in1 (pyNext (.ref ga) >>= _) _ _ s
    refine wpAny_bind (wpAny_mono (gen_next (E := fun _ _ => False) S hh hd h) (fun r s1 hr => ?_) fun _ _ z => False.elim z)
    rcases hr with ⟨rfl, H, dn, c1, _⟩ | ⟨v, y, i, m, H, rfl, ry, ⟨b, rfl, yd⟩, c1, _, hm, _⟩
    · exact wpAny_bind (wpAny_rule (wpAny_pure (hR true H s1 (iteT dn) c1)))
    · obtain rfl : v = Value.bool b := ry
      refine wpAny_bind (wpAny_holding (wpAny_truthy_bool (wpAny_bind (wpAny_letGo ?_))))
      cases b with
      | false => exact wpAny_bind (wpAny_rule (wpAny_pure (hR false H s1 yd c1)))
      | true =>
        obtain ⟨m', hm', _⟩ : ∃ m', m' < m ∧ W (i + 1) m' H := yd
        omega
  | succ n ih =>
    intro s h
    refine codeAny_builtin F.entry_all_loop ?_
    rw [Around.under_plainId F.plain_all_loop _]
    show wpAny _ X.A.in1 (pyNext (.ref ga) >>= _) _ _ s
    refine wpAny_bind (wpAny_mono (gen_next (E := fun _ _ => False) S hh hd h) (fun r s1 hr => ?_) fun _ _ z => False.elim z)
    rcases hr with ⟨rfl, H, dn, c1, _⟩ | ⟨v, y, i, m, H, rfl, ry, ⟨b, rfl, yd⟩, c1, _, hm, more⟩
    · exact wpAny_bind (wpAny_rule (wpAny_pure (hR true H s1 (iteT dn) c1)))
    · obtain rfl : v = Value.bool b := ry
      refine wpAny_bind (wpAny_holding (wpAny_truthy_bool (wpAny_bind (wpAny_letGo ?_))))
      cases b with
      | false => exact wpAny_bind (wpAny_rule (wpAny_pure (hR false H s1 yd c1)))
      | true =>
        obtain ⟨m', hm', w'⟩ : ∃ m', m' < m ∧ W (i + 1) m' H := yd
        exact wpAny_pure ⟨plainId_quiet F.plain_all_loop _, ih s1 (more m' hm' w')⟩
end
/-! ### made -/
section
variable {X : Cx} {pins : List (Addr × Obj)} {σ : L2.St} {H : Hp} {s : Shared} {scope : Scope} {own : List (Str × Nat)} {ext : List Str} {tg elt iter : Expr} {pos : Pos} {c P : Addr} {wi : TI} {k : Nat}
theorem gen_eval {R : It → Hp → Prop} {Q' : Value → Shared → Prop} (hr : Room k X.A) (TB : GxR.TabB X.base X.mg c P) (hcode : X.env.code = .ref c) (G : GOk X.N X.env.scope scope own ext) (hi : PI X tg iter wi) (hs : ∀ v, genFold iter X.env v = pure v)
    (I : Inv X pins σ H s) (h : wi σ H fun J H1 => GxR.TabG H1 P ∧ R J H1)
    (hQ : ∀ (J : It) (fp : List Addr) (it : Addr) (tn : Nat → Heap → Prop) (H1 H4 : Hp) (s4 s5 : Shared) (code : Value) (ga : Addr) (gi : Nat), R J H1 → GxR.Tabbed P H1 H4 → GSt X pins σ scope own ext tg code H4 s4 J fp it tn → tn 0 s5.heap → CO X fp [ga] s4 H4 H4 s5 →
      s5.heap.IsGen ga gi → s5.gens[gi]? = some (.fresh (gFirst X tg elt iter scope pos it s4 code)) → Q' (.ref ga) s5) :
    wpAny (model X.prog X.w) X.A (eval (.GeneratorExp elt [⟨tg, iter, [], 0⟩] scope pos) X.env) Q' X.xe s := by
  refine wpAny_GeneratorExp_make G.co (closure_ok (free_cells I G)) G.cell G.dot G.blk.kind hr.depth (thn (hi.run pins s σ H _ I h) fun xv s1 h1 => thn h1 fun itv s2 h2 => ?_) hs
  obtain ⟨it, fp, tn, J, H1, rfl, I2, T, t2, f2, ⟨ps, hP, ht⟩, q⟩ := h2
  have hPs : s2.heap.get? P = some { cls := .none, data := .fields ps } := I2.hok P _ hP
  have cd : PySem.W.CodeHd s2.heap c P := TB.code.keeps fun b u e => I2.bk b u e
  have nP : ∀ b ∈ fp, b ≠ P := fun b hb z => by
    have z2 := (f2 b hb).1
    rw [z, hP] at z2
    cases z2
  refine ⟨I2.nolimit, ?_⟩
  have cont : ∀ (code : Value) (h3 : Heap) (tk : Nat) (more : Array Value), Heap.ExtBut P s2.heap h3 → h3.get? P = some { cls := .none, data := .fields (ps ++ more) } → TriplesOk (ps ++ more).toList →
      wpAny (model X.prog X.w) X.A (builtinsFor X.env.globals X.env.builtins) (fun bi s₄ => ∀ h', h'.Ns s₄.heap.objs.size (fun y => if y = ".0" then some (.ref it) else none) → Heap.SameBut s₄.heap.objs.size (s₄.heap.push { cls := .type "frame", data := .dict #[] }) h' →
          Q' (.ref h'.objs.size) { s₄ with
            gens := s₄.gens.push (.fresh (.compStart (.GeneratorExp elt [⟨tg, iter, [], 0⟩] scope pos) 0 (.ref it) .none (genEnv scope (cloFrom X.env.cells scope.names []) s₄.heap.objs.size code bi X.env))),
            toks := s₄.toks + 1 + 1 + 1,
            heap := h'.push { cls := .type "generator", data := .fields #[.int s₄.gens.size 0, .str "<genexpr>" (s₄.toks + 1), .str (X.env.qual ++ "<genexpr>") (s₄.toks + 1 + 1)] } }) X.xe { s2 with heap := h3, toks := tk } := by
    intro code h3 tk more hx h3P ht3
    have I4 := GxR.inv_tab (more := more) (h' := h3) (g' := s2.gens) (d' := s2.drawn) (t' := tk) I2 hP (fun b u hb e => hx b u hb e) h3P I2.bare
    obtain ⟨bm, ob, e1, e2, e3, e4, e5, e6, e7, e8⟩ := TB.bm
    refine wpAny_builtinsFor (m := X.mg) (by rw [I4.ok.glob]; exact I4.mod.glob.keeps I4.bk) e1 e2 (I4.bk _ _ e5) e6 e7 e8 ?_
    intro h' hn' hs'
    have keep1 : ∀ b o, h3.get? b = some o → h'.get? b = some o := fun b o e => hs'.extBut b o (Nat.ne_of_lt (Heap.lt_size e)) (Heap.get?_push_of_some _ e)
    have sz' : h'.objs.size = h3.objs.size + 1 := by rw [hs'.1, Heap.size_push]
    have keep5 : ∀ b o, h3.get? b = some o → (h'.push { cls := .type "generator", data := .fields #[.int s2.gens.size 0, .str "<genexpr>" (tk + 1), .str (X.env.qual ++ "<genexpr>") (tk + 1 + 1)] }).get? b = some o := fun b o e => Heap.get?_push_of_some _ (keep1 b o e)
    have f4 : ∀ b ∈ fp, FpOk X pins (upd H1 P (.tbl (ps ++ more))) b := fun b hb => ⟨by rw [upd_ne (nP b hb)]; exact (f2 b hb).1, (f2 b hb).2⟩
    have t4 : tn 0 h3 := T.keep _ _ _ t2 fun b hb o e => hx b o (nP b hb) e
    have lt : ∀ b ∈ fp, b < h3.objs.size := fun b hb => by
      obtain ⟨o, e, _⟩ := T.obj _ _ t4 b hb
      exact Heap.lt_size e
    have S : GSt X pins σ scope own ext tg code (upd H1 P (.tbl (ps ++ more))) { s2 with heap := h3, toks := tk } J fp it tn := ⟨I4, G, T, f4, lt⟩
    have nga : ∀ b, h3.objs.size ≤ b → upd H1 P (.tbl (ps ++ more)) b = none := fun b hb => I4.hok.fresh hb
    refine hQ J fp it tn H1 _ { s2 with heap := h3, toks := tk } _ code h'.objs.size s2.gens.size q ⟨⟨_, upd_same, ht3⟩, fun b hb => upd_ne hb⟩ S (T.keep _ _ _ t4 fun b hb o e => keep5 b o e) ⟨rfl, AllBare.push I2.bare rfl, Un.kept keep5, I4.hok.kept keep5, ⟨_, hn'.push _⟩, nga _ (Nat.le_refl _), fun b hb => (f4 b hb).1, fun b hb => ?_⟩ ?_ ?_
    · obtain rfl : b = h'.objs.size := by simpa using hb
      refine ⟨⟨_, Heap.get?_push_size _ rfl, fun v z => by cases z⟩, nga _ (by omega), ?_, fun z => ?_, fun z => ?_, ?_⟩
      · show h'.objs.size ≠ h3.objs.size
        omega
      · rcases List.mem_cons.mp (I4.stkSub _ z) with e | e
        · have z2 := I4.lt
          rw [← e] at z2
          have z3 : h'.objs.size < h3.objs.size := z2
          omega
        · exact I4.nofs (show h3.objs.size ≤ h'.objs.size by omega) e
      · have q5 : (h'.objs.size : Nat) < h3.objs.size := lt _ z
        omega
      · show h3.get? h'.objs.size = none
        cases e : h3.get? h'.objs.size with
        | none => rfl
        | some o =>
          have q5 : (h'.objs.size : Nat) < h3.objs.size := Heap.lt_size e
          omega
    · exact ⟨_, _, _, Heap.get?_push_size _ rfl, rfl, rfl, rfl⟩
    · exact Array.getElem?_push_size ..
  cases hf : codeAmong pos ps.toList with
  | none =>
    refine wpAny_genexprCodeX hcode (cd.code hPs ht) (cd.tab hPs) hf fun c' h' tk hx hge hlt hco' _ htab' _ => ?_
    obtain ⟨o1, vs, f1, tf, fl, tg', inF, tx, tt, op, _, _, _, _, _, _, _, _, _, htr, _⟩ := hco'
    exact cont _ h' tk _ hx htab'.2 htr
  | some cv =>
    refine wpAny_genexprCode_hit hcode (cd.code hPs ht) hf ?_
    exact cont cv s2.heap s2.toks #[] (Heap.ExtBut.refl _ _) (by simpa using hPs) (by simpa using ht)
/-- any(..), all(..) of the expression; behind it the def's table may have grown -/
def tGen (P : Addr) (wi : TI) (g : TG) (te : TE) (own : List (Str × Nat)) (ext : List Str) (stopAt : Bool) : TE := fun σ H Q => wi σ H fun J H1 => GxR.TabG H1 P ∧ ∀ H2, GxR.Tabbed P H1 H2 → ∃ W : Nat → Nat → Hp → Prop, (∃ m, W 0 m H2) ∧
  ∀ i m H, W i m H → (J.stop i H ∧ Q (.bl (!stopAt)) H) ∨ (J.go i H ∧ ∃ N : Hp → Prop, (∀ H', N H' → ∃ m', m' < m ∧ W (i + 1) m' H') ∧ ∀ x H', J.yld i H x H' → g x (gS σ own ext) H' fun σ2 H2 => te σ2 H2 fun v H3 => ∃ b, v = V.bl b ∧ if b = stopAt then Q (.bl stopAt) H3 else N H3)
theorem turn_of {J : It} {g : TG} {te : TE} {σg : L2.St} {W : Nat → Nat → Hp → Prop} {Q : VK} {st : Bool} (turn : ∀ i m H, W i m H → (J.stop i H ∧ Q (.bl (!st)) H) ∨ (J.go i H ∧ ∃ N : Hp → Prop, (∀ H', N H' → ∃ m', m' < m ∧ W (i + 1) m' H') ∧
      ∀ x H', J.yld i H x H' → g x σg H' fun σ2 H2 => te σ2 H2 fun v H3 => ∃ b, v = V.bl b ∧ if b = st then Q (.bl st) H3 else N H3)) (i m : Nat) (H : Hp) (w : W i m H) :
    (J.stop i H ∧ Q (.bl (!st)) H) ∨ (J.go i H ∧ ∃ Yn : V → Hp → Prop, (∀ v H3, Yn v H3 → ∃ b, v = V.bl b ∧ if b = st then Q (.bl st) H3 else ∃ m', m' < m ∧ W (i + 1) m' H3) ∧ ∀ x H', J.yld i H x H' → g x σg H' fun σ2 H2 => te σ2 H2 Yn) := by
  rcases turn i m H w with z | ⟨go, N, hN, step⟩
  · exact .inl z
  · refine .inr ⟨go, _, fun v H3 ⟨b, e, q⟩ => ⟨b, e, ?_⟩, step⟩
    by_cases hb : b = st
    · rw [if_pos hb] at q ⊢
      exact q
    · rw [if_neg hb] at q ⊢
      exact hN _ q
theorem room_over {Ag : Around} {c : Code} (hr : Room (k + 1) Ag) (h1 : c.weight = 1) (h2 : c.cUnits = 3) : Room k (Ag.over c []) := by
  refine ⟨hr.hd, ?_, ?_⟩
  · have := hr.dp
    show Ag.depth + frameCount [] + c.weight + 3 * k + 5 < _
    rw [h1]
    show Ag.depth + 0 + 1 + 3 * k + 5 < _
    omega
  · have := hr.un
    show Ag.units + unitsOf [] + c.cUnits + 16 * k + 200 < _
    rw [h2]
    show Ag.units + 0 + 3 + 16 * k + 200 < _
    omega
theorem room_in1 {Ag : Around} (hr : Room (k + 1) Ag) : Room k Ag.in1.in1 := by
  refine ⟨hr.hd, ?_, ?_⟩
  · have := hr.dp
    show Ag.depth + 3 * k + 5 < _
    omega
  · have := hr.un
    show Ag.units + 1 + 1 + 16 * k + 200 < _
    omega
theorem EP_of {H4 H' : Hp} {s4 s' : Shared} {J : It} {fp sx : List Addr} {it : Addr} {tn : Nat → Heap → Prop} {code : Value} {Q : VK} {v : V} {u : Value} (S : GSt X pins σ scope own ext tg code H4 s4 J fp it tn) (h : CO X fp sx s4 H4 H' s') (r : RelV v u) (q : Q v H') : EP X pins σ Q u s' :=
  ⟨v, H', S.inv.call' h.os h.un h.hok h.bare fun b hb => ⟨(S.fpo b hb).2.2.2.1, (S.fpo b hb).2.1, (S.fpo b hb).2.2.2.2.1, (S.fpo b hb).2.2.2.2.2⟩, r, q⟩
section
variable {g : TG} {te : TE} {p cpos : Pos}
theorem pe_anyG (hr : Room (k + 2) X.A) (hg : Gl X "any") (hm : X.mg "any" = none) (TB : GxR.TabB X.base X.mg c P) (hcode : X.env.code = .ref c) (G : GOk X.N X.env.scope scope own ext) (hi : PI X tg iter wi)
    (ht : ∀ (code : Value) (fp : List Addr) (s4 : Shared) (H4 : Hp) (B : Around), PG (gCx X scope code fp s4 H4 B ext) tg g) (he : ∀ (code : Value) (fp : List Addr) (s4 : Shared) (H4 : Hp) (B : Around), Room k B → PE (gCx X scope code fp s4 H4 B ext) elt te)
    (hs : ∀ v, genFold iter X.env v = pure v := by intro _; rfl) (hst : starEach [.GeneratorExp elt [⟨tg, iter, [], 0⟩] scope pos] X.env = (false, eval (.GeneratorExp elt [⟨tg, iter, [], 0⟩] scope pos) X.env) :: starEach [] X.env := by rfl) :
    PE X (.Call (.Name "any" p) [.GeneratorExp elt [⟨tg, iter, [], 0⟩] scope pos] [] cpos) (tGen P wi g te own ext true) := by
  constructor
  intro pins s σ H Q I h
  refine wpAny_Call_Name_kw (ld_blt I hg hm boot_any (PyProof.Rows.callWith_builtin1 ?_ hst (by rfl)))
  rw [hst]
  show wpAny _ _ (spliced ((false, eval (.GeneratorExp elt [⟨tg, iter, [], 0⟩] scope pos) X.env) :: backTo cpos (starEach [] X.env))) _ _ s
  refine Calls.spliced_cons (gen_eval hr TB hcode G hi hs I h fun J fp it tn H1 H4 s4 s5 code ga gi q htab S t5 c5 hgen hgs => Calls.spliced_nil ?_)
  obtain ⟨W, ⟨m, w0⟩, turn⟩ := q H4 htab
  have rm : Room k (X.A.in1.in1.over (gLoop X tg elt iter scope pos it s4 code) []) := room_over (room_in1 hr) rfl rfl
  refine call_function_tree F.kind_any F.plain_any F.entry_any (F.args_any1 _) ?_
  unfold Builtin.«any»
  refine wpAny_bind (m := oneArg "any" _) (wpAny_pure (wpAny_bind (wpAny_pyIter_gen hgen ?_)))
  refine wpAny_pure ⟨plainId_quiet F.plain_any_loop _, any_walk (W := W) (QT := Q (.bl true)) (QF := Q (.bl false)) S hr.hd hr.depth (fun b H' s' hb hc => EP_of (v := .bl b) S hc rfl (by cases b <;> exact hb)) m s5 ⟨hgen, List.mem_cons_self, ⟨H4, c5⟩, _, hgs, fun s' kp => ⟨rfl, ?_⟩⟩⟩
  have t6 : tn 0 s'.heap := S.turn.keep _ _ _ t5 fun b hb o e => kp.keep b o (fun z => (c5.sx b z).2.2.2.2.1 hb) e
  exact seg_first (Ag := X.A.in1.in1) S hr.hd t6 (seg_loop (Ag := X.A.in1.in1) S S.inv.ok.frames hr.hd (ht ..) (he _ _ _ _ _ rm) W _ _ (turn_of (st := true) turn) (m + 1) 0 m H4 s' (Nat.lt_succ_self m) w0 (c5.kp kp) t6)
theorem pe_allG (hr : Room (k + 2) X.A) (hg : Gl X "all") (hm : X.mg "all" = none) (hb : bootBuiltins "all" = some (.builtin "all")) (TB : GxR.TabB X.base X.mg c P) (hcode : X.env.code = .ref c) (G : GOk X.N X.env.scope scope own ext) (hi : PI X tg iter wi)
    (ht : ∀ (code : Value) (fp : List Addr) (s4 : Shared) (H4 : Hp) (B : Around), PG (gCx X scope code fp s4 H4 B ext) tg g) (he : ∀ (code : Value) (fp : List Addr) (s4 : Shared) (H4 : Hp) (B : Around), Room k B → PE (gCx X scope code fp s4 H4 B ext) elt te)
    (hs : ∀ v, genFold iter X.env v = pure v := by intro _; rfl) (hst : starEach [.GeneratorExp elt [⟨tg, iter, [], 0⟩] scope pos] X.env = (false, eval (.GeneratorExp elt [⟨tg, iter, [], 0⟩] scope pos) X.env) :: starEach [] X.env := by rfl) :
    PE X (.Call (.Name "all" p) [.GeneratorExp elt [⟨tg, iter, [], 0⟩] scope pos] [] cpos) (tGen P wi g te own ext false) := by
  constructor
  intro pins s σ H Q I h
  refine wpAny_Call_Name_kw (ld_blt I hg hm hb (PyProof.Rows.callWith_builtin1 ?_ hst (by rfl)))
  rw [hst]
  show wpAny _ _ (spliced ((false, eval (.GeneratorExp elt [⟨tg, iter, [], 0⟩] scope pos) X.env) :: backTo cpos (starEach [] X.env))) _ _ s
  refine Calls.spliced_cons (gen_eval hr TB hcode G hi hs I h fun J fp it tn H1 H4 s4 s5 code ga gi q htab S t5 c5 hgen hgs => Calls.spliced_nil ?_)
  obtain ⟨W, ⟨m, w0⟩, turn⟩ := q H4 htab
  have rm : Room k (X.A.in1.in1.over (gLoop X tg elt iter scope pos it s4 code) []) := room_over (room_in1 hr) rfl rfl
  refine call_function_tree F.kind_all F.plain_all F.entry_all (F.args_all1 _) ?_
  unfold Builtin.«all»
  refine wpAny_bind (m := oneArg "all" _) (wpAny_pure (wpAny_bind (wpAny_pyIter_gen hgen ?_)))
  refine wpAny_pure ⟨plainId_quiet F.plain_all_loop _, all_walk (W := W) (QT := Q (.bl true)) (QF := Q (.bl false)) S hr.hd hr.depth (fun b H' s' hb hc => EP_of (v := .bl b) S hc rfl (by cases b <;> exact hb)) m s5 ⟨hgen, List.mem_cons_self, ⟨H4, c5⟩, _, hgs, fun s' kp => ⟨rfl, ?_⟩⟩⟩
  have t6 : tn 0 s'.heap := S.turn.keep _ _ _ t5 fun b hb o e => kp.keep b o (fun z => (c5.sx b z).2.2.2.2.1 hb) e
  exact seg_first (Ag := X.A.in1.in1) S hr.hd t6 (seg_loop (Ag := X.A.in1.in1) S S.inv.ok.frames hr.hd (ht ..) (he _ _ _ _ _ rm) W _ _ (turn_of (st := false) turn) (m + 1) 0 m H4 s' (Nat.lt_succ_self m) w0 (c5.kp kp) t6)
end
end
end GX

/-! ### defs that hold a generator expression: their code objects' tables, and the end of a law that calls them -/
namespace GX
open PySem PySem.Spec PyProof.Rows L2 Cm
/-- the def x stands at some address, its code object at c -/
structure FunC (K : PySem.W.Frag) (x : Str) (st : Stmt) (f : Addr) (fd : FuncData) (c : Addr) : Prop where
  ex : ∃ (oc : Value) (od : Option Addr) (kV doc pm : Value) (an : Option Addr) (ct : Value) (osl : Array (Option Value)),
    fd = PySem.W.fnOf x x (defArgs st) (defBody st) (defScope st) .none kV doc pm an (.ref c) ct ∧ K.lookup f = some ⟨oc, od, .func fd, osl⟩ ∧ PySem.W.codeIn K (.ref c) x = true
  kp : PySem.W.keepIn K (.ref f) = true
def DnC (K : PySem.W.Frag) (mg : Str → Option Value) (x : Str) (st : Stmt) (ps : List Str) (c : Addr) : Prop := ∃ (f : Addr) (fd : FuncData), FunC K x st f fd c ∧ mg x = some (.ref f) ∧ Binds K fd ps []
theorem dnc_mk {K : PySem.W.Frag} {h : Heap} {mg : Str → Option Value} {x : Str} {ps : List Str} {st : Stmt} {f c : Addr} {oc : Value} {od an : Option Addr} {osl : Array (Option Value)} {kV doc pm ct : Value} (X : K.In h) (G : h.Ns mainGlobals mg) (a : PySem.W.nsIn K mainGlobals x = some (some (.ref f)))
    (l : K.lookup f = some ⟨oc, od, .func (PySem.W.fnOf x x (defArgs st) (defBody st) (defScope st) .none kV doc pm an (.ref c) ct), osl⟩) (e : PySem.W.codeIn K (.ref c) x = true) (k : PySem.W.keepIn K (.ref f) = true)
    (hb : ∀ (kV doc pm : Value) (an : Option Addr) (cdv ct : Value) (us : List Value), us.length = ps.length → bindArgs (PySem.W.fnOf x x (defArgs st) (defBody st) (defScope st) .none kV doc pm an cdv ct) ⟨us, []⟩ = pure (ps.zip us)) : DnC K mg x st ps c :=
  ⟨f, _, ⟨⟨_, _, _, _, _, _, _, _, rfl, l, e⟩, k⟩, PySem.W.mg_of X G a, (fun_mk l e k).binds hb⟩
theorem okc_of {P : Program} {w : World} {K : PySem.W.Frag} {mg : Str → Option Value} {base : Heap} {CX : CXT} {k : Nat} {x : Str} {st : Stmt} {N ps : List Str} {sp : Sp} {c : Addr} (d : DnC K mg x st ps c) (S : FnScope N ps (defScope st)) (len : ∀ vs H Q E, sp vs H Q E → vs.length = ps.length)
    (hbody : ∀ (f : Addr) (A : Around) (outer : List Env) (s : Shared) (H : Hp) (vs : List V) (Q : VK) (E : XK), Room k (A.deeper (envOfC x (defScope st) s.heap.objs.size f (.ref c))) → sp vs H Q E →
      ∃ t, PSs (cxOf CX P w K mg base N x (defScope st) f (.ref c) A outer s H E) (defBody st) t ∧ t { nx := fun _ H' => Q .non H', rt := Q } (L2.start N vs) H) : Ok P w K mg base CX (k + 1) x ps sp := by
  obtain ⟨f, fd, ⟨⟨oc, od, kV, doc, pm, an, ct, osl, rfl, lk, hcd⟩, kp⟩, g, b⟩ := d
  exact ⟨f, _, fn_of lk hcd S len fun A outer s H vs Q E hr hsp => hbody f A outer s H vs Q E hr hsp, g, kp, b⟩
theorem tb_of {base : Heap} {mg : Str → Option Value} {c P : Addr} (h : LamX.TabB base mg c P) : GxR.TabB base mg c P := ⟨h.code, h.bm, h.gP⟩
/-- law's promise where tables may grow -/
def spLawT (K : PySem.W.Frag) (Ps : List Addr) : Sp := fun vs H Q _ => ∃ (a : Addr) (ns : List Int), vs = [.ref a] ∧ SqL K H a (ns.map V.int) ∧ ns.length ≤ 63 ∧ (∀ P ∈ Ps, GxR.TabG H P) ∧ ∀ H', Q (.bl true) H'
theorem no_tab {K : PySem.W.Frag} {h : Heap} {P : Addr} (X : K.In h) (n : PySem.W.noTabs K = true) (e : h.get? P = some (PySem.W.tabObj #[])) : K.lookup P = none := by
  cases q : K.lookup P with
  | none => rfl
  | some o =>
    have z := X P o q
    rw [e] at z
    cases z
    have z2 := List.all_eq_true.mp n (P, _) (PySem.W.mem_of_lookupK q)
    exact absurd (show false = true from z2) (by decide)
theorem tabIn_mk {K : PySem.W.Frag} {x : Str} {f c P : Addr} {oc cc : Value} {od ce : Option Addr} {fd : FuncData} {sl cg : Array (Option Value)} {vs : Array Value} (h1 : PySem.W.nsIn K mainGlobals x = some (some (.ref f)))
    (h2 : K.lookup f = some ⟨oc, od, .func fd, sl⟩) (h3 : fd.code = .ref c) (h4 : K.lookup c = some ⟨cc, ce, .fields vs, cg⟩) (h5 : vs[11]? = some (.ref P)) : PySem.W.tabIn K x = some (c, P) := by
  unfold PySem.W.tabIn
  simp only [h1, h2, h3, h4, h5]
theorem walk_gx {l : PySem.W.OpenLaw} {k : Nat} {q : Program} {loose : List Str} {XP : (Str → Option Value) → Heap → Prop} {YP : World → Heap → Prop} {d : DefRec} {K : Params → PySem.W.Frag} {names : List Str} (hn : l.most = some 63) (hdf : d.params.defaults = []) (hr : Room k callerA)
    (hY : ∀ (w : World) (h : Heap), YP w h → (K w.params).In h) (hnt : ∀ w : World, PySem.W.noTabs (K w.params) = true) (hrec : ∀ x ∈ names, ((PyProof.Rows.recsOf q).find? fun e => e.name == x).isSome = true)
    (F : ∀ (w : World) (mg : Str → Option Value) (fa : Addr) (h : Heap), (K w.params).In h → h.Ns mainGlobals mg → mg d.name = some (.ref fa) → ∃ (fd : FuncData) (cs : List (Str × Addr × Addr)), (∀ t ∈ cs, t.1 ∈ names ∧ PySem.W.tabIn (K w.params) t.1 = some t.2) ∧
      (∀ (s : Shared) (u : Value), BindsTo s fd ⟨[u], []⟩ [("script", u)]) ∧ ∀ base : Heap, (K w.params).In base → base.Ns mainGlobals mg → (∀ t ∈ cs, LamX.TabB base mg t.2.1 t.2.2) → FnOk l.prog w (K w.params) mg base CX0 k fa fd ["script"] (spLawT (K w.params) (cs.map (·.2.2)))) :
    PySem.W.WalkO q loose XP YP l.row.toRowW d [] (fun f vs => PySem.call f vs) := by
  refine Att.attach_callB hn hdf fun w s0 s1 mg mb fa o pm cd doc a vs ns G Y ho hd hcd hmg hobj hints hlen hbits hg => ?_
  have KX := hY w _ Y
  obtain ⟨fd, cs, hcs, hb, hF⟩ := F w mg fa _ KX G.T.g hmg
  have tab : ∀ t ∈ cs, PySem.W.CodeHd s1.heap t.2.1 t.2.2 ∧ s1.heap.get? t.2.2 = some (PySem.W.tabObj #[]) := fun t ht => by
    obtain ⟨h1, h2⟩ := hcs t ht
    obtain ⟨dr, hdr⟩ := Option.isSome_iff_exists.mp (hrec _ h1)
    exact PySem.W.tab_of G.T KX hdr h2
  have of2 : ∀ p ∈ cs.map (·.2), ∃ t ∈ cs, t.2 = p := fun p hp => List.mem_map.mp hp
  refine LamX.law_callTs (cs := cs.map (·.2)) (sp := spLawT (K w.params) (cs.map (·.2.2))) KX G.T.g G.T.b G.T.builtins G.T.nolimit hg (fun p hp => ?_) (fun p hp => ?_) (fun p hp => ?_) G.T.bmain hobj hints (Nat.le_trans hlen (by decide)) hr (fun base k1 k2 k3 => hF base k1 k2 fun t ht => k3 t.2 (List.mem_map.mpr ⟨t, ht, rfl⟩)) hb (fun H hH hS => ?_) (fun _ _ _ z => z)
  · obtain ⟨t, ht, rfl⟩ := of2 p hp
    exact (tab t ht).2
  · obtain ⟨t, ht, rfl⟩ := of2 p hp
    exact no_tab KX (hnt w) (tab t ht).2
  · obtain ⟨t, ht, rfl⟩ := of2 p hp
    exact (tab t ht).1
  · refine ⟨a, ns, rfl, hS, hlen, fun P hP => ?_, fun _ => rfl⟩
    obtain ⟨t, ht, rfl⟩ := List.mem_map.mp hP
    exact ⟨#[], hH t.2 (List.mem_map.mpr ⟨t, ht, rfl⟩), True.intro⟩
/-! ### heaps in which tables may have grown -/
/-- all but tables stays; tables stay tables -/
structure Sm (H H' : Hp) : Prop where
  keep : ∀ b o, H b = some o → (∀ ps, o ≠ .tbl ps) → H' b = some o
  tab : ∀ P, GxR.TabG H P → GxR.TabG H' P
theorem Sm.refl (H : Hp) : Sm H H := ⟨fun _ _ e _ => e, fun _ t => t⟩
theorem Sm.trans {H H1 H2 : Hp} (a : Sm H H1) (b : Sm H1 H2) : Sm H H2 := ⟨fun c o e n => b.keep c o (a.keep c o e n) n, fun P t => b.tab P (a.tab P t)⟩
theorem Sm.of {H H' : Hp} (e : Same H H') : Sm H H' := ⟨fun b o q _ => e b o q, fun P ⟨ps, q, t⟩ => ⟨ps, e _ _ q, t⟩⟩
theorem Sm.tabbed {H H' : Hp} {P : Addr} (h : GxR.TabG H P) (e : GxR.Tabbed P H H') : Sm H H' := by
  obtain ⟨ps, hP, _⟩ := h
  refine ⟨fun b o q n => ?_, fun P' t => ?_⟩
  · rw [e.2 b fun z => n ps (Option.some.inj (q.symm.trans (z ▸ hP)))]
    exact q
  · by_cases z : P' = P
    · rw [z]
      exact e.1
    · obtain ⟨ps', q, t'⟩ := t
      exact ⟨ps', by rw [e.2 _ z]; exact q, t'⟩
theorem Sm.l {H H' : Hp} (e : Sm H H') {a : Addr} {xs : List V} (h : H a = some (.lst xs)) : H' a = some (.lst xs) := e.keep _ _ h fun _ z => by cases z
theorem Sm.t {H H' : Hp} (e : Sm H H') {a : Addr} {xs : List V} (h : H a = some (.tup xs)) : H' a = some (.tup xs) := e.keep _ _ h fun _ z => by cases z
theorem Sm.seq {K : PySem.W.Frag} {H H' : Hp} (e : Sm H H') {a : Addr} {xs : List V} (h : SqL K H a xs) : SqL K H' a xs := by
  rcases h with (h | ⟨o, h⟩) | h
  · exact .inl (.inl (e.l h))
  · exact .inl (.inr ⟨o, e.keep _ _ h fun _ z => by cases z⟩)
  · exact .inr h
theorem Sm.tup {K : PySem.W.Frag} {H H' : Hp} (e : Sm H H') {a : Addr} {xs : List V} (h : SqT K H a xs) : SqT K H' a xs := by
  rcases h with (h | ⟨o, h⟩) | h
  · exact .inl (.inl (e.t h))
  · exact .inl (.inr ⟨o, e.keep _ _ h fun _ z => by cases z⟩)
  · exact .inr h
mutual
theorem Sm.dp {K : PySem.W.Frag} {H H' : Hp} (e : Sm H H') : ∀ {d : PyData} {v : V}, Dp K H v d → Dp K H' v d
  | _, _, .non => .non
  | _, _, .bl b => .bl b
  | _, _, .int i => .int i
  | _, _, .str x => .str x
  | _, _, .lst h r => .lst (e.seq h) (e.dpAll r)
  | _, _, .tup h r => .tup (e.tup h) (e.dpAll r)
theorem Sm.dpAll {K : PySem.W.Frag} {H H' : Hp} (e : Sm H H') : ∀ {ds : List PyData} {vs : List V}, DpAll K H vs ds → DpAll K H' vs ds
  | _, _, .nil => .nil
  | _, _, .cons h r => .cons (e.dp h) (e.dpAll r)
end
/-! ### the forms one uses -/
section
variable {K : PySem.W.Frag} {a : Addr} {xs : List V} {g : TG} {te : TE} {σg : L2.St} {H1 : Hp} {P : Addr} {Q : VK} {st : Bool}
/-- over a list -/
theorem gen_list (Pv : Nat → Hp → Prop) (h0 : ∀ H2, GxR.Tabbed P H1 H2 → Pv 0 H2) (hl : ∀ i H, i ≤ xs.length → Pv i H → SqL K H a xs)
    (hs : ∀ i x H, xs[i]? = some x → Pv i H → g x σg H fun σ2 H2 => te σ2 H2 fun v H3 => ∃ b, v = V.bl b ∧ if b = st then Q (.bl st) H3 else Pv (i + 1) H3) (hd : ∀ H, Pv xs.length H → Q (.bl (!st)) H) :
    ∀ H2, GxR.Tabbed P H1 H2 → ∃ W : Nat → Nat → Hp → Prop, (∃ m, W 0 m H2) ∧ ∀ i m H, W i m H → ((Itl K a).stop i H ∧ Q (.bl (!st)) H) ∨ ((Itl K a).go i H ∧ ∃ N : Hp → Prop, (∀ H', N H' → ∃ m', m' < m ∧ W (i + 1) m' H') ∧
      ∀ x H', (Itl K a).yld i H x H' → g x σg H' fun σ2 H2 => te σ2 H2 fun v H3 => ∃ b, v = V.bl b ∧ if b = st then Q (.bl st) H3 else N H3) := by
  intro H2 tb
  refine ⟨fun i m H => m = xs.length - i ∧ i ≤ xs.length ∧ Pv i H, ⟨xs.length, by simp, Nat.zero_le _, h0 H2 tb⟩, ?_⟩
  rintro i m H ⟨rfl, hi, p⟩
  have q := hl i H hi p
  by_cases hlt : i < xs.length
  · refine .inr ⟨⟨xs, xs[i], q, List.getElem?_eq_getElem hlt⟩, Pv (i + 1), fun H' p' => ⟨xs.length - (i + 1), by omega, rfl, hlt, p'⟩, fun x H' y => ?_⟩
    obtain ⟨rfl, y⟩ := y
    exact hs i x H' (y xs q) p
  · obtain rfl : i = xs.length := by omega
    exact .inl ⟨⟨xs, q, Nat.le_refl _⟩, hd H p⟩
/-- over a tuple -/
theorem gen_listQ {QF QT : Hp → Prop} (Pv : Nat → Hp → Prop) (h0 : ∀ H2, GxR.Tabbed P H1 H2 → Pv 0 H2) (hl : ∀ i H, i ≤ xs.length → Pv i H → SqL K H a xs)
    (hs : ∀ i x H, xs[i]? = some x → Pv i H → g x σg H fun σ2 H2 => te σ2 H2 fun v H3 => ∃ b, v = V.bl b ∧ if b = st then QF H3 else Pv (i + 1) H3) (hd : ∀ H, Pv xs.length H → QT H) :
    ∀ H2, GxR.Tabbed P H1 H2 → ∃ W : Nat → Nat → Hp → Prop, (∃ m, W 0 m H2) ∧ ∀ i m H, W i m H → ((Itl K a).stop i H ∧ QT H) ∨ ((Itl K a).go i H ∧ ∃ N : Hp → Prop, (∀ H', N H' → ∃ m', m' < m ∧ W (i + 1) m' H') ∧
      ∀ x H', (Itl K a).yld i H x H' → g x σg H' fun σ2 H2 => te σ2 H2 fun v H3 => ∃ b, v = V.bl b ∧ if b = st then QF H3 else N H3) := by
  intro H2 tb
  refine ⟨fun i m H => m = xs.length - i ∧ i ≤ xs.length ∧ Pv i H, ⟨xs.length, by simp, Nat.zero_le _, h0 H2 tb⟩, ?_⟩
  rintro i m H ⟨rfl, hi, p⟩
  have q := hl i H hi p
  by_cases hlt : i < xs.length
  · refine .inr ⟨⟨xs, xs[i], q, List.getElem?_eq_getElem hlt⟩, Pv (i + 1), fun H' p' => ⟨xs.length - (i + 1), by omega, rfl, hlt, p'⟩, fun x H' y => ?_⟩
    obtain ⟨rfl, y⟩ := y
    exact hs i x H' (y xs q) p
  · obtain rfl : i = xs.length := by omega
    exact .inl ⟨⟨xs, q, Nat.le_refl _⟩, hd H p⟩
/-- over a tuple -/
theorem gen_tup (Pv : Nat → Hp → Prop) (h0 : ∀ H2, GxR.Tabbed P H1 H2 → Pv 0 H2) (hl : ∀ i H, i ≤ xs.length → Pv i H → SqT K H a xs)
    (hs : ∀ i x H, xs[i]? = some x → Pv i H → g x σg H fun σ2 H2 => te σ2 H2 fun v H3 => ∃ b, v = V.bl b ∧ if b = st then Q (.bl st) H3 else Pv (i + 1) H3) (hd : ∀ H, Pv xs.length H → Q (.bl (!st)) H) :
    ∀ H2, GxR.Tabbed P H1 H2 → ∃ W : Nat → Nat → Hp → Prop, (∃ m, W 0 m H2) ∧ ∀ i m H, W i m H → ((Itt K a).stop i H ∧ Q (.bl (!st)) H) ∨ ((Itt K a).go i H ∧ ∃ N : Hp → Prop, (∀ H', N H' → ∃ m', m' < m ∧ W (i + 1) m' H') ∧
      ∀ x H', (Itt K a).yld i H x H' → g x σg H' fun σ2 H2 => te σ2 H2 fun v H3 => ∃ b, v = V.bl b ∧ if b = st then Q (.bl st) H3 else N H3) := by
  intro H2 tb
  refine ⟨fun i m H => m = xs.length - i ∧ i ≤ xs.length ∧ Pv i H, ⟨xs.length, by simp, Nat.zero_le _, h0 H2 tb⟩, ?_⟩
  rintro i m H ⟨rfl, hi, p⟩
  have q := hl i H hi p
  by_cases hlt : i < xs.length
  · refine .inr ⟨⟨xs, xs[i], q, List.getElem?_eq_getElem hlt⟩, Pv (i + 1), fun H' p' => ⟨xs.length - (i + 1), by omega, rfl, hlt, p'⟩, fun x H' y => ?_⟩
    obtain ⟨rfl, y⟩ := y
    exact hs i x H' (y xs q) p
  · obtain rfl : i = xs.length := by omega
    exact .inl ⟨⟨xs, q, Nat.le_refl _⟩, hd H p⟩
end
end GX

/-! ### sum of a generator expression -/
namespace GX
open PySem PySem.Spec PyProof.Rows L2 Cm
open Sem (wp)
theorem hu_rm {k : Nat} {A : Around} (hr : Room k A) : A.units + 64 < cLine := by
  have := hr.un
  omega
/-- the total stands in the list at SA -/
def TotAt (SA : Addr) (a : Int) (s : Shared) : Prop := ∃ (t : Tok) (c : Nat), s.heap.get? SA = some { cls := .type "list", dict := none, data := .seq #[.int a t] c, slots := #[] }
theorem TotAt.one {SA : Addr} {a b : Int} {s : Shared} (h : TotAt SA a s) (h2 : TotAt SA b s) : a = b := by
  obtain ⟨t, c, e⟩ := h
  obtain ⟨t2, c2, e2⟩ := h2
  rw [e] at e2
  injection e2 with e2
  injection e2 with _ _ e2 _
  injection e2 with e2 _
  have e3 := congrArg (fun (x : Array Value) => x[0]?) e2
  simp at e3
  exact e3.1
theorem TotAt.at {SA : Addr} {a : Int} {s s' : Shared} (h : TotAt SA a s) (e : s'.heap.get? SA = s.heap.get? SA) : TotAt SA a s' := by
  obtain ⟨t, c, q⟩ := h
  exact ⟨t, c, e.trans q⟩
section
variable {X : Cx} {pins : List (Addr × Obj)} {σ : L2.St} {H4 : Hp} {s4 : Shared} {scope : Scope} {own : List (Str × Nat)} {ext : List Str} {tg elt iter : Expr} {code : Value} {fp sx : List Addr} {J : It} {it : Addr} {tn : Nat → Heap → Prop} {pos : Pos}
def gYS (X : Cx) (fp sx : List Addr) (s4 : Shared) (H4 : Hp) (tn : Nat → Heap → Prop) (SA : Addr) (W : Nat → Nat → Int → Hp → Prop) (Yd : Nat → Nat → Int → V → Hp → Prop) : Protocol := fun n s0 v s kap =>
  ∃ (y : V) (i m : Nat) (a : Int) (H : Hp), TotAt SA a s0 ∧ RelV y v ∧ Yd i m a y H ∧ CO X fp sx s4 H4 H s ∧ tn (i + 1) s.heap ∧ (∀ b ∈ sx, s.heap.get? b = s0.heap.get? b) ∧ m ≤ n ∧ ∀ m' a' s', m' < m → W (i + 1) m' a' H → TotAt SA a' s' → Kp sx s s' → kap (.send .none) s'
def gES (X : Cx) (fp sx : List Addr) (s4 : Shared) (H4 : Hp) (SA : Addr) (Dn : Int → Hp → Prop) : Nat → Shared → Shared → Prop := fun _ s0 s => ∃ a H, TotAt SA a s0 ∧ Dn a H ∧ CO X fp sx s4 H4 H s ∧ ∀ b ∈ sx, s.heap.get? b = s0.heap.get? b
theorem seg_loopS {Ag : Around} {SA : Addr} (S : GSt X pins σ scope own ext tg code H4 s4 J fp it tn) (hfr : Ag.frames = some X.stack) (hh : Ag.handled = none) {g : TG} {te : TE}
    (hg : PG (gCx X scope code fp s4 H4 (Ag.over (gLoop X tg elt iter scope pos it s4 code) []) ext) tg g) (he : PE (gCx X scope code fp s4 H4 (Ag.over (gLoop X tg elt iter scope pos it s4 code) []) ext) elt te)
    (W : Nat → Nat → Int → Hp → Prop) (Dn : Int → Hp → Prop) (Yd : Nat → Nat → Int → V → Hp → Prop)
    (turn : ∀ i m a H, W i m a H → (J.stop i H ∧ Dn a H) ∨ (J.go i H ∧ ∃ Yn : V → Hp → Prop, (∀ v H3, Yn v H3 → Yd i m a v H3) ∧ ∀ x H', J.yld i H x H' → g x (gS σ own ext) H' fun σ2 H2 => te σ2 H2 Yn)) :
    ∀ n i m a H s, m < n → W i m a H → TotAt SA a s → CO X fp sx s4 H4 H s → tn i s.heap →
      Seg (model X.prog X.w) Ag (fun n s0 r s1 => r = .ok .next ∧ gES X fp sx s4 H4 SA Dn n s0 s1) (gYS X fp sx s4 H4 tn SA W Yd) n s (gLoop X tg elt iter scope pos it s4 code) ((model X.prog X.w).den (gLoop X tg elt iter scope pos it s4 code)) [] s := by
  have hB : (Ag.over (gLoop X tg elt iter scope pos it s4 code) []).frames = some (gEnv X scope s4.heap.objs.size code :: X.stack) := by
    show pushEnvs [gEnv X scope s4.heap.objs.size code] (pushEnvs [] Ag.frames) = _
    rw [hfr]
    rfl
  have hBh : (Ag.over (gLoop X tg elt iter scope pos it s4 code) []).handled = none := hh
  intro n
  induction n with
  | zero => exact fun i m a H s hm => absurd hm (Nat.not_lt_zero _)
  | succ n ih =>
    intro i m a H s hm w0 a0 h0 t0
    have I0 := CO.inv S h0 hB hBh
    have ff : ∀ {H' : Hp}, (∀ b ∈ fp, H' b = none) → ∀ b ∈ fp, FpOk (gCx X scope code fp s4 H4 (Ag.over (gLoop X tg elt iter scope pos it s4 code) []) ext) (pinsAt sx s.heap) H' b := fun hn b hb => by
      refine ⟨hn b hb, Nat.ne_of_lt (S.lt b hb), I0.ok.exfs b hb, .inl hb, (I0.ok.exf b hb).2, fun p hp z => ?_⟩
      have q := (of_pinsAt (show p ∈ pinsAt sx s.heap by simpa [gCx] using hp)).1
      exact (h0.sx p.1 q).2.2.2.2.1 (z ▸ hb)
    show Seg _ Ag _ _ _ s _ ((compTurn (.GeneratorExp elt [⟨tg, iter, [], 0⟩] scope pos) 0 (.ref it) .none (gEnv X scope s4.heap.objs.size code)).onRaise (leaving (gEnv X scope s4.heap.objs.size code))) [] s
    rw [compTurn_gen, Sem.onRaise_eq_wrap]
    refine seg_bind_wrap (wpAny_standAt ?_)
    rcases turn i m a H w0 with ⟨stop, dn⟩ | ⟨go, Yn, hYn, step⟩
    · refine seg_bind_wrap (wpAny_mono (S.turn.done (gCx X scope code fp s4 H4 (Ag.over (gLoop X tg elt iter scope pos it s4 code) []) ext) rfl rfl rfl rfl i _ s _ H (fun _ _ => False) I0 (ff h0.fr) t0 stop) (fun r s1 hr => ?_) fun _ _ z => False.elim z)
      obtain ⟨rfl, I1⟩ := hr
      obtain ⟨c1, x1⟩ := h0.of_inv I1 h0.fr
      exact seg_end (.ok .next) ⟨rfl, a, H, a0, dn, c1, x1⟩
    · refine seg_bind_wrap (wpAny_mono (S.turn.item (gCx X scope code fp s4 H4 (Ag.over (gLoop X tg elt iter scope pos it s4 code) []) ext) rfl rfl rfl rfl i _ s _ H (fun _ _ => False) I0 (ff h0.fr) t0 go) (fun r s1 hr => ?_) fun _ _ z => False.elim z)
      obtain ⟨u, rfl, h1⟩ := hr
      refine seg_bind_wrap (wpAny_mono h1 (fun _ s2 h2 => ?_) fun _ _ z => False.elim z)
      obtain ⟨x, H2, I2, rx, y2, t2, f2⟩ := h2
      have I2p := I2.pinned (ff f2) (S.turn.obj _ _ t2)
      refine seg_bind_wrap (wpAny_mono (hg.run _ s2 _ H2 x u _ I2p rx (step x H2 y2)) (fun _ s3 h3 => ?_) fun _ _ z => False.elim z)
      obtain ⟨σ3, H3, I3, q3⟩ := h3
      simp only [List.forIn_nil]
      refine seg_bind_wrap (wpAny_pure ?_)
      simp only [if_true]
      have hy : ∀ v, yieldOut (gEnv X scope s4.heap.objs.size code) v = yieldValue v := fun v => by
        have q : (gEnv X scope s4.heap.objs.size code).scope.isCoroutine = false := S.ok.co
        simp only [yieldOut, q, Bool.false_eq_true, if_false]
      simp only [hy]
      rw [Sem.bind_eq_wrap', Sem.bind_eq_wrap', Sem.wrap_wrap, Sem.wrap_wrap]
      refine seg_wrap (wpAny_mono (he.run _ s3 σ3 H3 _ I3 q3) (fun v s5 h5 => ?_) fun _ _ z => False.elim z)
      obtain ⟨y, H5, I5, ry, q5⟩ := h5
      have pf : ∀ b ∈ fp, ∀ o, s2.heap.get? b = some o → s5.heap.get? b = some o ∧ H5 b = none := fun b hb o e => by
        have z := I5.pin (b, o) (List.mem_append_right _ (List.mem_append_right _ (mem_pinsAt hb e)))
        exact ⟨z.1, z.2.1⟩
      have f5 : ∀ b ∈ fp, H5 b = none := fun b hb => by
        obtain ⟨o, e, _⟩ := S.turn.obj _ _ t2 b hb
        exact (pf b hb o e).2
      have t5 : tn (i + 1) s5.heap := S.turn.keep _ _ _ t2 fun b hb o e => (pf b hb o e).1
      obtain ⟨c5, x5⟩ := h0.of_inv I5.unpinned f5
      refine seg_at (seg_yield rfl rfl rfl ⟨y, i, m, a, H5, a0, ry, hYn _ _ q5, c5, t5, x5, Nat.lt_succ_iff.mp hm, fun m' a' s' hm' w' at' kp => ?_⟩)
      refine seg_again rfl (ih (i + 1) m' a' H5 s' (Nat.lt_of_lt_of_le hm' (Nat.lt_succ_iff.mp hm)) w' at' (c5.kp kp) (S.turn.keep _ _ _ t5 fun b hb o e => kp.keep b o (fun z => (c5.sx b z).2.2.2.2.1 hb) e))
/-- the generator at ga, asleep, the total a at SA -/
structure GAS (X : Cx) (fp sx : List Addr) (s4 : Shared) (H4 : Hp) (tn : Nat → Heap → Prop) (SA : Addr) (W : Nat → Nat → Int → Hp → Prop) (Dn : Int → Hp → Prop) (Yd : Nat → Nat → Int → V → Hp → Prop) (Ag : Around) (a : Int) (ga : Addr) (gi n : Nat) (s : Shared) : Prop where
  gen : s.heap.IsGen ga gi
  mem : ga ∈ sx
  mem2 : SA ∈ sx
  ne : ga ≠ SA
  co : ∃ H, CO X fp sx s4 H4 H s
  goes : ∃ gs, s.gens[gi]? = some gs ∧ ∀ s', TotAt SA a s' → Kp sx s s' → gs.Goes (model X.prog X.w) Ag (fun n s0 r s1 => r = .ok .next ∧ gES X fp sx s4 H4 SA Dn n s0 s1) (gYS X fp sx s4 H4 tn SA W Yd) n (.send .none) s'
theorem Kp.trans {s s' s'' : Shared} (a : Kp sx s s') (b : Kp sx s' s'') : Kp sx s s'' := ⟨b.os.trans a.os, b.bare, fun c o n e => b.keep c o n (a.keep c o n e), b.own⟩
theorem gen_nextS {Ap : Around} {SA : Addr} {a : Int} {W : Nat → Nat → Int → Hp → Prop} {Dn : Int → Hp → Prop} {Yd : Nat → Nat → Int → V → Hp → Prop} {ga : Addr} {gi n : Nat} {s : Shared} {E : Value → Shared → Prop} (S : GSt X pins σ scope own ext tg code H4 s4 J fp it tn) (hh : Ap.handled = none) (hd : Ap.depth < recursionLimit)
    (ha : TotAt SA a s) (h : GAS X fp sx s4 H4 tn SA W Dn Yd Ap.in1 a ga gi (n + 1) s) :
    wpAny (model X.prog X.w) Ap (pyNext (.ref ga)) (fun r s1 => (r = none ∧ ∃ H, Dn a H ∧ CO X fp sx s4 H4 H s1 ∧ TotAt SA a s1) ∨
      ∃ v y i m H, r = some v ∧ RelV y v ∧ Yd i m a y H ∧ CO X fp sx s4 H4 H s1 ∧ TotAt SA a s1 ∧ m ≤ n ∧ ∀ m' a' s', m' < m → W (i + 1) m' a' H → Kp sx s1 s' → s'.gens = s1.gens → s'.heap.get? ga = s1.heap.get? ga → GAS X fp sx s4 H4 tn SA W Dn Yd Ap.in1 a' ga gi n s') E s := by
  obtain ⟨hg, hm, hm2, hne, ⟨H0, c0⟩, gs, hgs, hgo⟩ := h
  have hlt : gi + 1 ≤ s.gens.size := by
    by_cases q : gi < s.gens.size
    · exact q
    · rw [Array.getElem?_eq_none (Nat.le_of_not_lt q)] at hgs
      cases hgs
  refine GenW.wpAny_gsz hlt (wpAny_pyNext_genexpQ (P := gES X fp sx s4 H4 SA Dn) hh (lim_of S c0) hd hg hgs (hgo _ ha ⟨rfl, AllBare.set c0.bare rfl, fun _ _ _ e => e, fun b hb => (c0.sx b hb).1⟩) (fun v s1 gs' hb hy hsz => ?_) (fun s1 he h' hk _ => ?_))
  · obtain ⟨y, i, m, a1, H, at1, ry, yd, c1, t1, x1, hmn, hka⟩ := hy
    obtain rfl : a1 = a := at1.one ha
    have c2 : CO X fp sx s4 H4 H (s1.setGen gi gs') := c1.any rfl (AllBare.set c1.bare hb) fun _ _ e => e
    have at2 : TotAt SA a1 (s1.setGen gi gs') := ha.at (x1 SA hm2)
    refine .inr ⟨v, y, i, m, H, rfl, ry, yd, c2, at2, hmn, fun m' a' s' hm' w' kp hgens hga => ⟨?_, hm, hm2, hne, ⟨H, c2.kp kp⟩, gs', ?_, fun s'' ta kp2 => ?_⟩⟩
    · obtain ⟨o, nm, qn, ho, r⟩ := hg
      exact ⟨o, nm, qn, hga.trans ((x1 ga hm).trans ho), r⟩
    · have hsz2 : gi < s1.gens.size := by
        have q : (s1.setGen gi gs').gens.size = s1.gens.size := GenW.setGen_size _ _ _
        rw [q] at hsz
        exact hsz
      rw [hgens]
      simp [Shared.setGen, hsz2]
    · have kk := kp.trans kp2
      exact hka m' a' s'' hm' w' ta ⟨kk.os, kk.bare, kk.keep, kk.own⟩
  · obtain ⟨a1, H, at1, dn, c1, x1⟩ := he
    obtain rfl : a1 = a := at1.one ha
    have c2 : CO X fp sx s4 H4 H { s1.setGen gi .finished with heap := h' } := c1.any rfl (AllBare.set c1.bare rfl) hk
    refine .inl ⟨rfl, H, dn, c2, ?_⟩
    obtain ⟨t, c, e⟩ := ha
    exact ⟨t, c, hk _ _ ((x1 SA hm2).trans e)⟩
theorem kp_upd {SA : Addr} {s : Shared} {o : Obj} {f : Obj → Obj} {t : Tok} {H : Hp} (c : CO X fp sx s4 H4 H s) (hm : SA ∈ sx) (hS : s.heap.get? SA = some o) (hf : s.heap.update SA f = s.heap.update SA f) (hd : ∃ o', (s.heap.update SA f).get? SA = some o' ∧ ∀ v, o'.data ≠ .cell v) :
    Kp sx s { s with heap := s.heap.update SA f, toks := t } := by
  refine ⟨rfl, c.bare, fun b o' n e => (Heap.get?_update_other _ _ (fun h : SA = b => n (h ▸ hm))).trans e, fun b hb => ?_⟩
  by_cases q : SA = b
  · subst q
    exact hd
  · obtain ⟨⟨o', e, d⟩, _⟩ := c.sx b hb
    exact ⟨o', (Heap.get?_update_other _ _ q).trans e, d⟩
theorem sum_walk {W : Nat → Nat → Int → Hp → Prop} {QD : Int → Hp → Prop} {SA ga : Addr} {gi : Nat} {R : Result → Shared → Prop} (S : GSt X pins σ scope own ext tg code H4 s4 J fp it tn) (hh : X.A.handled = none) (hd : X.A.depth < recursionLimit)
    (hR : ∀ (a : Int) (t : Tok) (H : Hp) (s' : Shared), QD a H → CO X fp sx s4 H4 H s' → R (.ok (.ret (.int a t))) s') :
    ∀ (n : Nat) (s : Shared) (a : Int) (st : Int), (st = 0 ∨ st = 2) → TotAt SA a s → GAS X fp sx s4 H4 tn SA W QD (fun i m a y H => ∃ b, y = V.int b ∧ ∃ m', m' < m ∧ W (i + 1) m' (a + b) H) X.A.in1.in1 a ga gi (n + 1) s →
      codeAny (model X.prog X.w) X.A (.builtin "sum.loop" ⟨[.ref ga, .ref SA, rawInt st, rawInt 0], []⟩) R s := by
  intro n
  induction n with
  | zero =>
    intro s a st hst hat h
    obtain ⟨tA, c0, hS⟩ := id hat
    refine codeAny_builtin F.entry_sum_loop ?_
    rw [Around.under_plainId F.plain_sum_loop _]
    show wpAny _ X.A.in1 (seqItems? (.ref SA) >>= _) _ _ s
    refine wpAny_bind (wpAny_seqItems hS rfl ?_)
    show wpAny _ X.A.in1 (tryCatch (pyNext (.ref ga)) _ >>= _) _ _ s
    refine wpAny_bind (wpAny_tryCatch (wpAny_mono (gen_nextS (E := fun _ _ => False) S hh hd hat h) (fun r s1 hr => ?_) fun _ _ z => False.elim z))
    rcases hr with ⟨rfl, H, dn, c1, _⟩ | ⟨v, y, i, m, H, rfl, ry, ⟨b, rfl, m', hm', w'⟩, c1, at1, hm, more⟩
    · exact wpAny_pure (hR a tA H s1 dn c1)
    · omega
  | succ n ih =>
    intro s a st hst hat h
    have gmem := h.mem2
    have gne := h.ne
    obtain ⟨tA, c0, hS⟩ := id hat
    refine codeAny_builtin F.entry_sum_loop ?_
    rw [Around.under_plainId F.plain_sum_loop _]
    show wpAny _ X.A.in1 (seqItems? (.ref SA) >>= _) _ _ s
    refine wpAny_bind (wpAny_seqItems hS rfl ?_)
    show wpAny _ X.A.in1 (tryCatch (pyNext (.ref ga)) _ >>= _) _ _ s
    refine wpAny_bind (wpAny_tryCatch (wpAny_mono (gen_nextS (E := fun _ _ => False) S hh hd hat h) (fun r s' hr => ?_) fun _ _ z => False.elim z))
    rcases hr with ⟨rfl, H, dn, c1, _⟩ | ⟨v, y, i, m, H, rfl, ry, ⟨b, rfl, m', hm', w'⟩, c1, at1, hm, more⟩
    · exact wpAny_pure (hR a tA H s' dn c1)
    obtain ⟨t, rfl⟩ : ∃ t, v = Value.int b t := ry
    obtain ⟨tB, c1', hS'⟩ := id at1
    have go : ∀ (s'' : Shared) (st' : Int), (st' = 0 ∨ st' = 2) → TotAt SA (a + b) s'' → Kp sx s' s'' → s''.gens = s'.gens → s''.heap.get? ga = s'.heap.get? ga → codeAny (model X.prog X.w) X.A (.builtin "sum.loop" ⟨[.ref ga, .ref SA, rawInt st', rawInt 0], []⟩) R s'' :=
      fun s'' st' h1 h2 h3 h4 h5 => ih s'' (a + b) st' h1 h2 (more m' (a + b) s'' hm' w' h3 h4 h5)
    rcases hst with rfl | rfl
    · show wpAny _ X.A.in1 (if (_ : Bool) = true then (mkInt (a + b) >>= _) else _) _ _ _
      split
      · refine wpAny_bind (wpAny_mkInt ?_)
        show wpAny _ X.A.in1 (updateSeq SA (fun _ => #[.int (a + b) s'.toks]) >>= _) _ _ _
        refine wpAny_bind ?_
        refine wpAny_updateSeq hS' rfl (wpAny_pure ⟨plainId_quiet F.plain_sum_loop _, go _ 0 (.inl rfl) ⟨_, _, Heap.get?_update_self _ hS' rfl⟩ (kp_upd c1 gmem hS' rfl ⟨_, Heap.get?_update_self _ hS' rfl, fun v z => by cases z⟩) rfl (Heap.get?_update_other _ _ gne.symm)⟩)
      · refine wpAny_bind (wpAny_rule ?_)
        refine wpAny_bind (wpAny_attempt (wpAny_holding (wpAny_add_int ?_)))
        show wpAny _ X.A.in1 (updateSeq SA (fun _ => #[.int (a + b) s'.toks]) >>= _) _ _ _
        refine wpAny_bind (wpAny_updateSeq hS' rfl ?_)
        have hS₂ := Heap.get?_update_self (Obj.mapSeq fun _ => #[Value.int (a + b) s'.toks]) hS' rfl
        refine wpAny_bind (wpAny_letGo ?_)
        have k1 : Kp sx s' { s' with heap := s'.heap.update SA (Obj.mapSeq fun _ => #[Value.int (a + b) s'.toks]), toks := s'.toks + 1 } := kp_upd c1 gmem hS' rfl ⟨_, hS₂, fun v z => by cases z⟩
        refine wpAny_bind (wpAny_updateSeq hS₂ rfl (wpAny_pure ⟨plainId_quiet F.plain_sum_loop _, go _ 2 (.inr rfl) ⟨_, _, Heap.get?_update_self _ hS₂ rfl⟩ (k1.trans (kp_upd (c1.kp k1) gmem hS₂ rfl ⟨_, Heap.get?_update_self _ hS₂ rfl, fun v z => by cases z⟩)) rfl ((Heap.get?_update_other _ _ gne.symm).trans (Heap.get?_update_other _ _ gne.symm))⟩))
    · show wpAny _ X.A.in1 ((holding [Value.int b t] (binaryOp .Add (.int a tA) (.int b t))).attempt >>= _) _ _ _
      refine wpAny_bind (wpAny_attempt (wpAny_holding (wpAny_add_int ?_)))
      show wpAny _ X.A.in1 (updateSeq SA (fun _ => #[.int (a + b) s'.toks]) >>= _) _ _ _
      refine wpAny_bind (wpAny_updateSeq hS' rfl ?_)
      have hS₂ := Heap.get?_update_self (Obj.mapSeq fun _ => #[Value.int (a + b) s'.toks]) hS' rfl
      refine wpAny_bind (wpAny_letGo ?_)
      have k1 : Kp sx s' { s' with heap := s'.heap.update SA (Obj.mapSeq fun _ => #[Value.int (a + b) s'.toks]), toks := s'.toks + 1 } := kp_upd c1 gmem hS' rfl ⟨_, hS₂, fun v z => by cases z⟩
      refine wpAny_bind (wpAny_updateSeq hS₂ rfl (wpAny_pure ⟨plainId_quiet F.plain_sum_loop _, go _ 2 (.inr rfl) ⟨_, _, Heap.get?_update_self _ hS₂ rfl⟩ (k1.trans (kp_upd (c1.kp k1) gmem hS₂ rfl ⟨_, Heap.get?_update_self _ hS₂ rfl, fun v z => by cases z⟩)) rfl ((Heap.get?_update_other _ _ gne.symm).trans (Heap.get?_update_other _ _ gne.symm))⟩))
/-- one more object of the consumer's own -/
theorem CO.more {H : Hp} {s s' : Shared} {o : Obj} (S : GSt X pins σ scope own ext tg code H4 s4 J fp it tn) (h : CO X fp sx s4 H4 H s) (os : s'.os = s.os) (bare : AllBare s'.gens) (hk : ∀ b u, s.heap.get? b = some u → s'.heap.get? b = some u) (hS : s'.heap.get? s.heap.objs.size = some o) (hd : ∀ v, o.data ≠ .cell v) : CO X fp (s.heap.objs.size :: sx) s4 H4 H s' := by
  have c := h.any os bare hk
  obtain ⟨m, ob, es, ep, ho, r⟩ := h.ns
  have l4 : s4.heap.objs.size < s.heap.objs.size := Heap.lt_size ho
  have new : ∀ b, s.heap.objs.size ≤ b → H b = none := fun b hb => h.hok.fresh hb
  refine ⟨c.os, c.bare, c.un, c.hok, c.ns, c.free, c.fr, fun b hb => ?_⟩
  rcases List.mem_cons.mp hb with e | e
  · rw [e]
    refine ⟨⟨o, hS, hd⟩, new _ (Nat.le_refl _), Nat.ne_of_gt l4, fun z => ?_, fun z => ?_, ?_⟩
    · rcases List.mem_cons.mp (S.inv.stkSub _ z) with e | e
      · have z2 := S.inv.lt
        rw [← e] at z2
        exact absurd (Nat.lt_trans l4 z2) (Nat.lt_irrefl _)
      · exact S.inv.nofs (Nat.le_of_lt l4) e
    · exact absurd (Nat.lt_trans l4 (S.lt _ z)) (Nat.lt_irrefl _)
    · cases q : s4.heap.get? s.heap.objs.size with
      | none => rfl
      | some u => exact absurd (Nat.lt_trans l4 (Heap.lt_size q)) (Nat.lt_irrefl _)
  · exact c.sx b e
end
section
variable {X : Cx} {pins : List (Addr × Obj)} {σ : L2.St} {H : Hp} {s : Shared} {scope : Scope} {own : List (Str × Nat)} {ext : List Str} {tg elt iter : Expr} {pos p cpos : Pos} {c P : Addr} {wi : TI} {k : Nat} {g : TG} {te : TE}
/-- sum(..) of the expression over ints -/
def tSumG (P : Addr) (wi : TI) (g : TG) (te : TE) (own : List (Str × Nat)) (ext : List Str) : TE := fun σ H Q => wi σ H fun J H1 => GxR.TabG H1 P ∧ ∀ H2, GxR.Tabbed P H1 H2 → ∃ W : Nat → Nat → Int → Hp → Prop, (∃ m, W 0 m 0 H2) ∧
  ∀ i m a H, W i m a H → (J.stop i H ∧ Q (.int a) H) ∨ (J.go i H ∧ ∃ N : Int → Hp → Prop, (∀ a' H', N a' H' → ∃ m', m' < m ∧ W (i + 1) m' a' H') ∧ ∀ x H', J.yld i H x H' → g x (gS σ own ext) H' fun σ2 H2 => te σ2 H2 fun v H3 => ∃ b, v = V.int b ∧ N (a + b) H3)
theorem pe_sumG (hr : Room (k + 2) X.A) (hg : Gl X "sum") (hm : X.mg "sum" = none) (TB : GxR.TabB X.base X.mg c P) (hcode : X.env.code = .ref c) (G : GOk X.N X.env.scope scope own ext) (hi : PI X tg iter wi)
    (ht : ∀ (code : Value) (fp : List Addr) (s4 : Shared) (H4 : Hp) (B : Around), PG (gCx X scope code fp s4 H4 B ext) tg g) (he : ∀ (code : Value) (fp : List Addr) (s4 : Shared) (H4 : Hp) (B : Around), Room k B → PE (gCx X scope code fp s4 H4 B ext) elt te)
    (hb : bootBuiltins "sum" = some (.builtin "sum") := by decide +kernel)
    (hs : ∀ v, genFold iter X.env v = pure v := by intro _; rfl) (hst : starEach [.GeneratorExp elt [⟨tg, iter, [], 0⟩] scope pos] X.env = (false, eval (.GeneratorExp elt [⟨tg, iter, [], 0⟩] scope pos) X.env) :: starEach [] X.env := by rfl) :
    PE X (.Call (.Name "sum" p) [.GeneratorExp elt [⟨tg, iter, [], 0⟩] scope pos] [] cpos) (tSumG P wi g te own ext) := by
  constructor
  intro pins s σ H Q I h
  refine wpAny_Call_Name_kw (ld_blt I hg hm hb (PyProof.Rows.callWith_builtin1 ?_ hst (by rfl)))
  rw [hst]
  show wpAny _ _ (spliced ((false, eval (.GeneratorExp elt [⟨tg, iter, [], 0⟩] scope pos) X.env) :: backTo cpos (starEach [] X.env))) _ _ s
  refine Calls.spliced_cons (gen_eval hr TB hcode G hi hs I h fun J fp it tn H1 H4 s4 s5 code ga gi q htab S t5 c5 hgen hgs => Calls.spliced_nil ?_)
  obtain ⟨W, ⟨m, w0⟩, turn⟩ := q H4 htab
  have rm : Room k (X.A.in1.in1.over (gLoop X tg elt iter scope pos it s4 code) []) := room_over (room_in1 hr) rfl rfl
  refine call_function_tree F.kind_sum F.plain_sum F.entry_sum (F.args_sum1 _) ?_
  unfold Builtin.«sum»
  simp only [List.length_cons, List.length_nil]
  rw [if_neg (by decide)]
  refine wpAny_bind (wpAny_of_eq (show Builtin.Builtins.bindParams "sum" ["start"] 0 { } = pure [none] from rfl) ?_)
  refine wpAny_bind (wpAny_pyIter_gen hgen ?_)
  refine wpAny_bind (wpAny_mkInt ?_)
  refine wpAny_bind (wpAny_pure ?_)
  simp only [List.forIn_cons, List.forIn_nil]
  refine wpAny_bind (wpAny_bind (wpAny_bind (wpAny_isInstance (T := "int") (b := false) (typeIs_int _ _ _) PySem.sub_int_str ?_)))
  simp only [Bool.false_eq_true, if_false]
  refine wpAny_pure (wpAny_bind (wpAny_bind (wpAny_isInstance (T := "int") (b := false) (typeIs_int _ _ _) PySem.sub_int_bytes ?_)))
  simp only [Bool.false_eq_true, if_false]
  refine wpAny_pure (wpAny_bind (wpAny_bind (wpAny_isInstance (T := "int") (b := false) (typeIs_int _ _ _) PySem.sub_int_bytearray ?_)))
  simp only [Bool.false_eq_true, if_false]
  refine wpAny_pure (wpAny_pure ?_)
  refine wpAny_bind (wpAny_newObj_type ?_)
  have gaS : ga < s5.heap.objs.size := by
    obtain ⟨o, nm, qn, ho, _⟩ := hgen
    exact Heap.lt_size ho
  refine wpAny_pure ⟨plainId_quiet F.plain_sum_loop _, ?_⟩
  have hk : ∀ (b : Addr) (u : Obj), s5.heap.get? b = some u → (s5.heap.push { cls := .type "list", data := .seq #[.int 0 s5.toks] }).get? b = some u := fun b u e => Heap.get?_push_of_some _ e
  have hS : (s5.heap.push { cls := .type "list", data := .seq #[.int 0 s5.toks] }).get? s5.heap.objs.size = some { cls := .type "list", data := .seq #[.int 0 s5.toks] } := Heap.get?_push_size _ rfl
  have c6 := CO.more (s' := { s5 with heap := s5.heap.push { cls := .type "list", data := .seq #[.int 0 s5.toks] }, toks := s5.toks + 1 }) S c5 rfl c5.bare hk hS (fun v z => by cases z)
  have t6 : tn 0 (s5.heap.push { cls := .type "list", data := .seq #[.int 0 s5.toks] }) := S.turn.keep _ _ _ t5 fun b hb o e => hk b o e
  have hat : TotAt s5.heap.objs.size 0 { s5 with heap := s5.heap.push { cls := .type "list", data := .seq #[.int 0 s5.toks] }, toks := s5.toks + 1 } := ⟨_, _, hS⟩
  refine sum_walk (W := W) (QD := fun a H' => Q (.int a) H') S hr.hd hr.depth (fun a t H' s' hb hc => EP_of (v := .int a) S hc ⟨t, rfl⟩ hb) m _ 0 0 (.inl rfl) hat ⟨?_, List.mem_cons_of_mem _ List.mem_cons_self, List.mem_cons_self, Nat.ne_of_lt gaS, ⟨H4, c6⟩, _, hgs, fun s' ta kp => ⟨rfl, ?_⟩⟩
  · obtain ⟨o, nm, qn, ho, r⟩ := hgen
    exact ⟨o, nm, qn, hk _ _ ho, r⟩
  have t7 : tn 0 s'.heap := S.turn.keep _ _ _ t6 fun b hb o e => kp.keep b o (fun z => (c6.sx b z).2.2.2.2.1 hb) e
  refine seg_first (Ag := X.A.in1.in1) S hr.hd t7 (seg_loopS (Ag := X.A.in1.in1) S S.inv.ok.frames hr.hd (ht ..) (he _ _ _ _ _ rm) W _ _ (fun i m a H w => ?_) (m + 1) 0 m 0 H4 s' (Nat.lt_succ_self m) w0 ta (c6.kp kp) t7)
  rcases turn i m a H w with z | ⟨go, N, hN, step⟩
  · exact .inl z
  · exact .inr ⟨go, _, fun v H3 ⟨b, e, q⟩ => ⟨b, e, hN _ _ q⟩, step⟩
end
/-! ### readings over any walk -/
section
variable {J : It} {n : Nat} {G : Hp → Prop} {Y : Nat → Hp → V → Hp → Prop} {g : TG} {te : TE} {σg : L2.St} {H1 : Hp} {P : Addr} {Q : VK} {st : Bool}
/-- any, all over any walk -/
theorem gen_it (w : Walk J n G Y) (Pv : Nat → Hp → Prop) (h0 : ∀ H2, GxR.Tabbed P H1 H2 → Pv 0 H2) (hG : ∀ i H, i ≤ n → Pv i H → G H)
    (hs : ∀ i x H H', i < n → Pv i H → Y i H x H' → g x σg H' fun σ2 H2 => te σ2 H2 fun v H3 => ∃ b, v = V.bl b ∧ if b = st then Q (.bl st) H3 else Pv (i + 1) H3) (hd : ∀ H, Pv n H → Q (.bl (!st)) H) :
    ∀ H2, GxR.Tabbed P H1 H2 → ∃ W : Nat → Nat → Hp → Prop, (∃ m, W 0 m H2) ∧ ∀ i m H, W i m H → (J.stop i H ∧ Q (.bl (!st)) H) ∨ (J.go i H ∧ ∃ N : Hp → Prop, (∀ H', N H' → ∃ m', m' < m ∧ W (i + 1) m' H') ∧
      ∀ x H', J.yld i H x H' → g x σg H' fun σ2 H2 => te σ2 H2 fun v H3 => ∃ b, v = V.bl b ∧ if b = st then Q (.bl st) H3 else N H3) := by
  intro H2 tb
  refine ⟨fun i m H => m = n - i ∧ i ≤ n ∧ Pv i H, ⟨n, by simp, Nat.zero_le _, h0 H2 tb⟩, ?_⟩
  rintro i m H ⟨rfl, hi, p⟩
  have q := hG i H hi p
  by_cases hlt : i < n
  · exact .inr ⟨w.goes i H hlt q, Pv (i + 1), fun H' p' => ⟨n - (i + 1), by omega, rfl, hlt, p'⟩, fun x H' y => hs i x H H' hlt p (w.yields i H x H' hlt q y)⟩
  · obtain rfl : i = n := by omega
    exact .inl ⟨w.stops H q, hd H p⟩
/-- sum over any walk: Pv also tells the total -/
theorem sum_it (w : Walk J n G Y) (Pv : Nat → Int → Hp → Prop) (h0 : ∀ H2, GxR.Tabbed P H1 H2 → Pv 0 0 H2) (hG : ∀ i a H, i ≤ n → Pv i a H → G H)
    (hs : ∀ i a x H H', i < n → Pv i a H → Y i H x H' → g x σg H' fun σ2 H2 => te σ2 H2 fun v H3 => ∃ b, v = V.int b ∧ Pv (i + 1) (a + b) H3) (hd : ∀ a H, Pv n a H → Q (.int a) H) :
    ∀ H2, GxR.Tabbed P H1 H2 → ∃ W : Nat → Nat → Int → Hp → Prop, (∃ m, W 0 m 0 H2) ∧ ∀ i m a H, W i m a H → (J.stop i H ∧ Q (.int a) H) ∨ (J.go i H ∧ ∃ N : Int → Hp → Prop, (∀ a' H', N a' H' → ∃ m', m' < m ∧ W (i + 1) m' a' H') ∧
      ∀ x H', J.yld i H x H' → g x σg H' fun σ2 H2 => te σ2 H2 fun v H3 => ∃ b, v = V.int b ∧ N (a + b) H3) := by
  intro H2 tb
  refine ⟨fun i m a H => m = n - i ∧ i ≤ n ∧ Pv i a H, ⟨n, by simp, Nat.zero_le _, h0 H2 tb⟩, ?_⟩
  rintro i m a H ⟨rfl, hi, p⟩
  have q := hG i a H hi p
  by_cases hlt : i < n
  · exact .inr ⟨w.goes i H hlt q, Pv (i + 1), fun a' H' p' => ⟨n - (i + 1), by omega, rfl, hlt, p'⟩, fun x H' y => hs i a x H H' hlt p (w.yields i H x H' hlt q y)⟩
  · obtain rfl : i = n := by omega
    exact .inl ⟨w.stops H q, hd a H p⟩
end
end GX

/-! ### xs.extend(a tuple) -/
namespace ET
open PySem PySem.Spec PyProof.Rows L2 Cm
set_option maxRecDepth 8000 in
theorem list_extend_tup (l : Addr) (items : Array Value) (n : Nat) (b : Addr) (items2 : Array Value) (n2 : Nat) (dd : Option Addr) (sl : Array (Option Value)) (hs0 : ¬(!items.isEmpty && Builtin.List.listTooLong (items.size + items2.size)) = true) (hs1 : items.size ≤ sizeLine) (hs2 : items.size + items2.size ≤ sizeLine + 1) :
    Meets (Builtin.«list.extend» ⟨[.ref l, .ref b], []⟩) (fun _ R s => s.heap.get? l = some { cls := .type "list", dict := none, data := .seq items n, slots := #[] } ∧ s.heap.get? b = some { cls := .type "tuple", dict := dd, data := .seq items2 n2, slots := sl } ∧ R (.ok (.ret Value.none)) { s with heap := s.heap.update l (Obj.mapSeq fun x => x ++ items2), toks := s.toks }) :=
  .of_wp fun prog w A R s h => by
    obtain ⟨hp, g, d, tk, os⟩ := s; obtain ⟨hl, hb, h⟩ := h; have f1 := AutoSeq1.idx_int; have f2 := AutoSeq1.sub_tuple_tuple; have f3 := AutoSeq1.sub_list_list; have f4 := AutoSeq1.sub_tuple_list; have f5 := AutoSeq1.sub_list_tuple;
    have hz' : (items ++ items2).size ≤ sizeLine + 1 := by rw [Array.size_append]; exact hs2
    wp_walk using (wpAny_updateSeq hl rfl (hz := hs1) (_hz' := hz')), AutoSeq1.wpAny_loadPart' hl, AutoSeq1.wpAny_loadPart' hb; exact ⟨_, rfl, h⟩
def rExtT (K : PySem.W.Frag) : V → List V → Hp → VK → Prop := fun x vs H Q => ∃ l b xs zs, x = .ref l ∧ vs = [.ref b] ∧ H l = some (.lst xs) ∧ SqT K H b zs ∧ xs.length + zs.length ≤ sizeLine ∧ Q .non (upd H l (.lst (xs ++ zs)))
theorem mt_extendT {X : Cx} : MtM X "list.extend" (rExtT X.K) := by
  intro pins s σ H x vs v us Q I rx rv h
  obtain ⟨l, b, xs, zs, rfl, rfl, hH, hB, hz, q⟩ := h
  cases rx
  obtain ⟨u, rfl, ru⟩ := rv.one
  cases ru
  obtain ⟨z, its, n, r, hl, e⟩ := I.lstM hH
  obtain ⟨its2, r2, ⟨o, e2, hc, n2, hd⟩, z2⟩ := I.tuple hB
  have hl2 := r2.length
  have hsz : its.toArray.size + its2.toArray.size ≤ sizeLine := by rw [List.size_toArray, List.size_toArray]; omega
  have hlong : ¬ (!its.toArray.isEmpty && Builtin.List.listTooLong (its.toArray.size + its2.toArray.size)) = true := by
    rw [notLongL hsz, Bool.and_false]
    exact Bool.false_ne_true
  have e3 : s.heap.get? b = some { cls := .type "tuple", dict := o.dict, data := .seq its2.toArray n2, slots := o.slots } := by
    obtain ⟨c, d, da, sl⟩ := o
    cases hc
    cases hd
    exact e2
  refine call_meets PySem.F.slot_list_extend ⟨_, e, rfl⟩ PySem.F.entry_list_extend (PySem.F.args_list_extend_2 _ _)
    (list_extend_tup l its.toArray n b its2.toArray n2 o.dict o.slots hlong (by rw [List.size_toArray]; omega) (by omega)) ⟨e, e3, ?_⟩
  refine ⟨.non, _, I.lset (its' := its ++ its2) hH e (by simp) (r.append r2) ?_, rfl, q⟩
  rw [List.length_append]
  omega
end ET

/-! ### a tuple target, the written part named -/
namespace TK
open PySem PySem.Spec PyProof.Rows L2 Cm
theorem pg_tupK {X : Cx} {K : PySem.W.Frag} {es : List Expr} {k : Nat} {pos : Pos} {t : TGs} {n : Nat} (hK : X.K = K) (hc : X.calm = true) (h : PGs X es t)
    (hn : (assignEach es X.env).length = n := by rfl) (hst : (assignEach es X.env).findIdx? (·.1) = none := by rfl) : PG X (.Tuple es k pos) (gTup K n t) := by
  subst hK
  exact pg_tup hc h hn hst
theorem op_notInK {X : Cx} {K : PySem.W.Frag} (h : X.K = K := by rfl) : OpR X (compareOp .NotIn) (rIn K true) := by
  subst h
  exact op_notIn_seq
theorem op_inK {X : Cx} {K : PySem.W.Frag} (h : X.K = K := by rfl) : OpR X (compareOp .In) (rIn K false) := by
  subst h
  exact op_in_seq
def rListOf (K : PySem.W.Frag) : List V → Hp → VK → Prop := fun xs H Q => ∃ p ys, xs = [.ref p] ∧ (SqL K H p ys ∨ SqT K H p ys) ∧ ∀ l, H l = none → Q (.ref l) (upd H l (.lst ys))
theorem call_list_ofK {X : Cx} {K : PySem.W.Frag} (h : X.K = K := by rfl) (hc : X.calm = true := by rfl) : CallR X (.type "list") (rListOf K) := by
  subst h
  exact call_list_of
theorem pi_listK {X : Cx} {K : PySem.W.Frag} {tg e : Expr} {te : TE} (he : PE X e te) (h : X.K = K := by rfl) : PI X tg e (iList K te) := by
  subst h
  exact pi_list he
end TK

/-! ### a def with one keyword-only parameter that has a default -/
namespace KD
open PySem PySem.Spec PyProof.Rows L2 Cm
def DnD (K : PySem.W.Frag) (mg : Str → Option Value) (x : Str) (st : Stmt) (ps : List Str) (n : Nat) (kw : Str) (dv : V) : Prop :=
  ∃ (f : Addr) (fd : FuncData), Fun K x x st f fd ∧ mg x = some (.ref f) ∧ (∃ ds, Vals [dv] ds ∧ Binds K fd ps ds) ∧ KBn K fd ps n [kw] (fun us ws => us ++ ws) (fun vs zs => vs ++ zs)
def OkD (P : Program) (w : World) (K : PySem.W.Frag) (mg : Str → Option Value) (base : Heap) (CX : CXT) (k : Nat) (x : Str) (ps : List Str) (n : Nat) (kw : Str) (dv : V) (sp : Sp) : Prop :=
  ∃ (f : Addr) (fd : FuncData), FnOk P w K mg base CX k f fd ps sp ∧ mg x = some (.ref f) ∧ PySem.W.keepIn K (.ref f) = true ∧ (∃ ds, Vals [dv] ds ∧ Binds K fd ps ds) ∧ KBn K fd ps n [kw] (fun us ws => us ++ ws) (fun vs zs => vs ++ zs)
theorem okD_of {P : Program} {w : World} {K : PySem.W.Frag} {mg : Str → Option Value} {base : Heap} {CX : CXT} {k : Nat} {x : Str} {st : Stmt} {ps : List Str} {n : Nat} {kw : Str} {dv : V} {sp : Sp} (d : DnD K mg x st ps n kw dv)
    (h : ∀ f fd, Fun K x x st f fd → FnOk P w K mg base CX k f fd ps sp) : OkD P w K mg base CX k x ps n kw dv sp := by
  obtain ⟨f, fd, F, g, b, c⟩ := d
  exact ⟨f, fd, h f fd F, g, F.kp, b, c⟩
section
variable {X : Cx} {CX : CXT} {k n : Nat} {ps : List Str} {kw : Str} {dv : V} {sp : Sp} {E : XK} {x : Str} {p pos : Pos} {e : Expr} {es : List Expr} {kws : List Keyword} {t tk : TA}
theorem pe_callD (G : OkD X.prog X.w X.K X.mg X.base CX k x ps n kw dv sp) (hr : Room k X.A) (hx : Passes CX X E) (ha : PA X (e :: es) t) (hg : Gl X x := by rfl)
    (hdb : (x == ("__debug__" : Str)) = false := by decide) (he : starEach (e :: es) X.env = (false, eval e X.env) :: starEach es X.env := by rfl) (hpl : (backTo pos (starEach es X.env)).any (·.1) = false := by rfl) :
    PE X (.Call (.Name x p) (e :: es) [] pos) (tCall sp [dv] E t) := by
  obtain ⟨f, fd, F, g, kp, ⟨ds, r, b⟩, _⟩ := G
  exact pe_call F hr hg g kp b r hx ha hdb he hpl
theorem pe_callK (G : OkD X.prog X.w X.K X.mg X.base CX k x ps n kw dv sp) (hr : Room k X.A) (hx : Passes CX X E) (ha : PA X (e :: es) t) (hkw : PK X kws tk) (hg : Gl X x := by rfl)
    (hall : (backToKw pos (keywordEach kws X.env)).all (·.1.isSome) = true := by rfl) (hks : (backToKw pos (keywordEach kws X.env)).filterMap (·.1) = [kw] := by rfl)
    (hdb : (x == ("__debug__" : Str)) = false := by decide) (he : starEach (e :: es) X.env = (false, eval e X.env) :: starEach es X.env := by rfl)
    (hpl : ((backTo pos (starEach (e :: es) X.env)).any (·.1) || (backToKw pos (keywordEach kws X.env)).any (·.1.isNone)) = false := by rfl) :
    PE X (.Call (.Name x p) (e :: es) kws pos) (tCallN n 1 sp (fun vs zs => vs ++ zs) E t tk) := by
  obtain ⟨f, fd, F, g, kp, _, c⟩ := G
  exact pe_callN F hr hg g kp c hx ha hkw hall hks hdb he hpl
end
theorem dnd_mk {K : PySem.W.Frag} {h : Heap} {mg : Str → Option Value} {x : Str} {st : Stmt} {ps : List Str} {n : Nat} {kw : Str} {dv : V} {u : Value} {f D : Addr} {oc : Value} {od an : Option Addr} {osl : Array (Option Value)} {doc pm cdv ct : Value} (X : K.In h) (G : h.Ns mainGlobals mg) (a : PySem.W.nsIn K mainGlobals x = some (some (.ref f)))
    (l : K.lookup f = some ⟨oc, od, .func (PySem.W.fnOf x x (defArgs st) (defBody st) (defScope st) .none (.ref D) doc pm an cdv ct), osl⟩) (c : PySem.W.codeIn K cdv x = true) (k : PySem.W.keepIn K (.ref f) = true)
    (hd : PySem.W.nsIn K D kw = some (some u)) (ru : RelV dv u) (hn : ps.length = n + 1)
    (hb0 : ∀ (doc pm : Value) (an : Option Addr) (cdv ct : Value) (us : List Value) (v : Value), us.length = n → KwChain D [(kw, v)] (bindArgs (PySem.W.fnOf x x (defArgs st) (defBody st) (defScope st) .none (.ref D) doc pm an cdv ct) ⟨us, []⟩) (ps.zip (us ++ [v])))
    (hb1 : ∀ (doc pm : Value) (an : Option Addr) (cdv ct : Value) (us : List Value) (v : Value), us.length = n → bindArgs (PySem.W.fnOf x x (defArgs st) (defBody st) (defScope st) .none (.ref D) doc pm an cdv ct) ⟨us, [(kw, v)]⟩ = pure (ps.zip (us ++ [v]))) : DnD K mg x st ps n kw dv := by
  refine ⟨f, _, fun_mk l c k, PySem.W.mg_of X G a, ⟨[u], .cons ru .nil, fun s us Y hl => ?_⟩, ⟨fun s us ws Y l1 l2 => ?_, fun r1 r2 => r1.append r2⟩⟩
  · refine BindsTo.of_looks fun M => KwChain.looks Y (l := [(kw, u)]) (fun q hq => ?_) (hb0 _ _ _ _ _ us u (by rw [List.length_append, List.length_singleton] at hl; omega))
    rw [List.mem_singleton.mp hq]
    exact hd
  · match ws, l2 with
    | [v], _ => exact .of_eq (hb1 _ _ _ _ _ us v l1)
end KD

namespace My
open PySem PySem.Spec PyProof.Rows L2 Cm 
def top (i : Nat) : Stmt := PySem.Challenge.pw_scanpages_k62_whole_merge_both_ways.main.body.getD i (.Pass ⟨0, 0, 0, 0⟩)
abbrev s_taken_items : Stmt := (top 4)
abbrev N_taken_items : List Str := ["script"]
theorem sc_taken_items : FnScope N_taken_items ["script"] (defScope s_taken_items) := ⟨rfl, rfl, rfl, by decide +kernel, rfl, by decide +kernel, by decide +kernel⟩
abbrev s__taken_by : Stmt := (top 5)
abbrev N__taken_by : List Str := ["step", "kind", "what"]
theorem sc__taken_by : FnScope N__taken_by ["step"] (defScope s__taken_by) := ⟨rfl, rfl, rfl, by decide +kernel, rfl, by decide +kernel, by decide +kernel⟩
abbrev s_check_fit : Stmt := (top 6)
abbrev N_check_fit : List Str := ["script", "length"]
theorem sc_check_fit : FnScope N_check_fit ["script", "length"] (defScope s_check_fit) := ⟨rfl, rfl, rfl, by decide +kernel, rfl, by decide +kernel, by decide +kernel⟩
abbrev s_normalized : Stmt := (top 7)
abbrev N_normalized : List Str := ["script", "normal", "kept", "dropped", "added", "kind", "what"]
theorem sc_normalized : FnScope N_normalized ["script"] (defScope s_normalized) := ⟨rfl, rfl, rfl, by decide +kernel, rfl, by decide +kernel, by decide +kernel⟩
abbrev s__steps : Stmt := (top 8)
abbrev N__steps : List Str := ["kept", "dropped", "added", "steps"]
theorem sc__steps : FnScope N__steps ["kept", "dropped", "added"] (defScope s__steps) := ⟨rfl, rfl, rfl, by decide +kernel, rfl, by decide +kernel, by decide +kernel⟩
abbrev s_merged : Stmt := (top 10)
abbrev N_merged : List Str := ["old", "first", "second", "kept", "added", "second_kept", "second_added", "steps", "conflicts", "gap", "own", "other"]
theorem sc_merged : FnScope N_merged ["old", "first", "second"] (defScope s_merged) := ⟨rfl, rfl, rfl, by decide +kernel, rfl, by decide +kernel, by decide +kernel⟩
abbrev s_rebased : Stmt := (top 11)
abbrev N_rebased : List Str := ["old", "script", "over", "later", "kept", "added", "over_kept", "over_added", "steps", "gap", "own", "other", "here"]
theorem sc_rebased : FnScope N_rebased ["old", "script", "over", "later"] (defScope s_rebased) := ⟨rfl, rfl, rfl, by decide +kernel, rfl, by decide +kernel, by decide +kernel⟩
abbrev s__keeps_and_adds : Stmt := (top 12)
abbrev N__keeps_and_adds : List Str := ["old", "script", "kept", "added", "kind", "what"]
theorem sc__keeps_and_adds : FnScope N__keeps_and_adds ["old", "script"] (defScope s__keeps_and_adds) := ⟨rfl, rfl, rfl, by decide +kernel, rfl, by decide +kernel, by decide +kernel⟩
abbrev s__adding : Stmt := (top 13)
abbrev N__adding : List Str := ["items"]
theorem sc__adding : FnScope N__adding ["items"] (defScope s__adding) := ⟨rfl, rfl, rfl, by decide +kernel, rfl, by decide +kernel, by decide +kernel⟩
abbrev s__law_cell : Stmt := (top 15)
abbrev N__law_cell : List Str := ["script", "k"]
theorem sc__law_cell : FnScope N__law_cell ["script", "k"] (defScope s__law_cell) := ⟨rfl, rfl, rfl, by decide +kernel, rfl, by decide +kernel, by decide +kernel⟩
abbrev s__law_mix : Stmt := (top 16)
abbrev N__law_mix : List Str := ["cell", "k", "number"]
theorem sc__law_mix : FnScope N__law_mix ["cell", "k"] (defScope s__law_mix) := ⟨rfl, rfl, rfl, by decide +kernel, rfl, by decide +kernel, by decide +kernel⟩
abbrev s__law_row : Stmt := (top 17)
abbrev N__law_row : List Str := ["cell", "count", "bound", "found", "rest", "k"]
theorem sc__law_row : FnScope N__law_row ["cell", "count", "bound"] (defScope s__law_row) := ⟨rfl, rfl, rfl, by decide +kernel, rfl, by decide +kernel, by decide +kernel⟩
abbrev s__law_is_int : Stmt := (top 18)
abbrev N__law_is_int : List Str := ["value"]
theorem sc__law_is_int : FnScope N__law_is_int ["value"] (defScope s__law_is_int) := ⟨rfl, rfl, rfl, by decide +kernel, rfl, by decide +kernel, by decide +kernel⟩
abbrev s__law_items : Stmt := (top 19)
abbrev N__law_items : List Str := ["cell", "size", "bound"]
theorem sc__law_items : FnScope N__law_items ["cell", "size"] (defScope s__law_items) := ⟨rfl, rfl, rfl, by decide +kernel, rfl, by decide +kernel, by decide +kernel⟩
abbrev s__law_script : Stmt := (top 20)
abbrev N__law_script : List Str := ["cells", "old", "steps", "left", "cell", "kind", "count"]
theorem sc__law_script : FnScope N__law_script ["cells", "old"] (defScope s__law_script) := ⟨rfl, rfl, rfl, by decide +kernel, rfl, by decide +kernel, by decide +kernel⟩
abbrev s__law_patch : Stmt := (top 21)
abbrev N__law_patch : List Str := ["old", "script", "new", "at", "kind", "part"]
theorem sc__law_patch : FnScope N__law_patch ["old", "script"] (defScope s__law_patch) := ⟨rfl, rfl, rfl, by decide +kernel, rfl, by decide +kernel, by decide +kernel⟩
abbrev s__law_is_normal : Stmt := (top 22)
abbrev N__law_is_normal : List Str := ["script", "before", "step"]
theorem sc__law_is_normal : FnScope N__law_is_normal ["script"] (defScope s__law_is_normal) := ⟨rfl, rfl, rfl, by decide +kernel, rfl, by decide +kernel, by decide +kernel⟩
abbrev s__law_close : Stmt := (top 23)
abbrev N__law_close : List Str := ["steps", "gap"]
theorem sc__law_close : FnScope N__law_close ["steps", "gap"] (defScope s__law_close) := ⟨rfl, rfl, rfl, by decide +kernel, rfl, by decide +kernel, by decide +kernel⟩
abbrev s__law_normal : Stmt := (top 24)
abbrev N__law_normal : List Str := ["script", "steps", "gap", "kind", "part"]
theorem sc__law_normal : FnScope N__law_normal ["script"] (defScope s__law_normal) := ⟨rfl, rfl, rfl, by decide +kernel, rfl, by decide +kernel, by decide +kernel⟩
abbrev s__law_outline : Stmt := (top 25)
abbrev N__law_outline : List Str := ["script", "kept", "gaps", "kind", "part"]
theorem sc__law_outline : FnScope N__law_outline ["script"] (defScope s__law_outline) := ⟨rfl, rfl, rfl, by decide +kernel, rfl, by decide +kernel, by decide +kernel⟩
abbrev s_law : Stmt := (top 26)
abbrev N_law : List Str := ["script", "old", "first", "second", "step", "rest", "copies", "after", "before", "due", "one", "other"]
theorem sc_law : FnScope N_law ["script"] (defScope s_law) := ⟨rfl, rfl, rfl, by decide +kernel, rfl, by decide +kernel, by decide +kernel⟩
structure Txt (K : PySem.W.Frag) (mg : Str → Option Value) (C_InvalidScript c_taken_items P_taken_items : Addr) : Prop where
  d_taken_items : GX.DnC K mg "taken_items" s_taken_items ["script"] c_taken_items
  d__taken_by : Dn K mg "_taken_by" s__taken_by ["step"]
  d_check_fit : Dn K mg "check_fit" s_check_fit ["script", "length"]
  d_normalized : Dn K mg "normalized" s_normalized ["script"]
  d__steps : Dn K mg "_steps" s__steps ["kept", "dropped", "added"]
  d_merged : Dn K mg "merged" s_merged ["old", "first", "second"]
  d_rebased : KD.DnD K mg "rebased" s_rebased ["old", "script", "over", "later"] 3 "later" (.bl true)
  d__keeps_and_adds : Dn K mg "_keeps_and_adds" s__keeps_and_adds ["old", "script"]
  d__adding : Dn K mg "_adding" s__adding ["items"]
  d__law_cell : Dn K mg "_law_cell" s__law_cell ["script", "k"]
  d__law_mix : Dn K mg "_law_mix" s__law_mix ["cell", "k"]
  d__law_row : Dn K mg "_law_row" s__law_row ["cell", "count", "bound"]
  d__law_is_int : Dn K mg "_law_is_int" s__law_is_int ["value"]
  d__law_items : Dn K mg "_law_items" s__law_items ["cell", "size"]
  d__law_script : Dn K mg "_law_script" s__law_script ["cells", "old"]
  d__law_patch : Dn K mg "_law_patch" s__law_patch ["old", "script"]
  d__law_is_normal : Dn K mg "_law_is_normal" s__law_is_normal ["script"]
  d__law_close : Dn K mg "_law_close" s__law_close ["steps", "gap"]
  d__law_normal : Dn K mg "_law_normal" s__law_normal ["script"]
  d__law_outline : Dn K mg "_law_outline" s__law_outline ["script"]
  d_law : Dn K mg "law" s_law ["script"]
  n_sum : mg "sum" = none
  n_tuple : mg "tuple" = none
  n_range : mg "range" = none
  n_len : mg "len" = none
  n_int : mg "int" = none
  n_abs : mg "abs" = none
  n_isinstance : mg "isinstance" = none
  n_bool : mg "bool" = none
  n_min : mg "min" = none
  n_list : mg "list" = none
  x_InvalidScript : XCl K mg "InvalidScript" C_InvalidScript
class Tbs (base : Heap) (mg : Str → Option Value) (c_taken_items P_taken_items : Addr) : Prop where
  t_taken_items : GxR.TabB base mg c_taken_items P_taken_items
section
variable {P : Program} {w : World} {K : PySem.W.Frag} {mg : Str → Option Value} {base : Heap} {C_InvalidScript c_taken_items P_taken_items : Addr} [TBS : Tbs base mg c_taken_items P_taken_items]
/-- the cell's promise -/
def spCell (K : PySem.W.Frag) : Sp := fun vs H Q _ => ∃ (l : Addr) (ns : List Int) (k : Nat), vs = [.ref l, .int (k : Int)] ∧ SqL K H l (ns.map V.int) ∧ Q (.int (cell ns k)) H
theorem ok__law_cell (T : Txt K mg C_InvalidScript c_taken_items P_taken_items) : Ok P w K mg base CX0 1 "_law_cell" ["script", "k"] (spCell K) := by
  refine ok_of T.d__law_cell fun f fd F => F.ok sc__law_cell (fun vs H Q E h => ?_) (fun cdv A outer s H vs Q E hr h => ?_)
  · obtain ⟨l, ns, k, rfl, _⟩ := h
    rfl
  · obtain ⟨l, ns, k, rfl, hs, q⟩ := h
    refine ⟨_,       (pss_cons (ps_if (pt_cmpR op_lt (pv 1) (pe_callB call_len_seq (by rfl) T.n_len PySem.boot_len (pa_cons (pv 0) pa_nil)) (nomark _))
        (pss_one (ps_ret (pe_callTy call_int1 (by rfl) T.n_int (by decide +kernel) (pa_cons (pe_ix ix_list (pv 0) (pv 1) (fun _ _ => rfl)) pa_nil)))) pss_nil)
      (pss_one (ps_ret pe_int))), ?_⟩
    refine ⟨_, rfl, _, rfl, l, _, rfl, .inl hs, _, _, rfl, rfl, _, rfl, itd (fun h => ?_) (fun h => ?_)⟩
    · have hk : k < ns.length := by
        rw [List.length_map] at h
        omega
      refine ⟨_, rfl, _, rfl, l, _, _, .int ns[k], rfl, rfl, hs, atI_nat (by rw [List.getElem?_map, List.getElem?_eq_getElem hk]; rfl), .inl ⟨_, rfl, ?_⟩⟩
      rw [Cm.cell_in hk] at q
      exact q
    · have hk : ¬ k < ns.length := by
        rw [List.length_map] at h
        omega
      rw [Cm.cell_out hk] at q
      exact q

def mixI (c k : Int) : Int := ((c * 48271 + k * 69621 + 12345) % 2147483647 * 16807 + k * 40692 + 777) % 2147483629 / 997
def spMix : Sp := fun vs H Q _ => ∃ c k : Int, vs = [.int c, .int k] ∧ Q (.int (mixI c k)) H
theorem ok__law_mix (T : Txt K mg C_InvalidScript c_taken_items P_taken_items) : Ok P w K mg base CX0 1 "_law_mix" ["cell", "k"] spMix := by
  refine ok_of T.d__law_mix fun f fd F => F.ok sc__law_mix (fun vs H Q E h => ?_) (fun cdv A outer s H vs Q E hr h => ?_)
  · obtain ⟨c, k, rfl, _⟩ := h
    rfl
  · obtain ⟨c, k, rfl, q⟩ := h
    have nd := sc__law_mix.nd
    refine ⟨_,       (pss_cons (ps_set (i := 2) nd rfl (Or.inl rfl) (pe_op op_mod (pe_callTy call_int1 (by rfl) T.n_int (by decide +kernel) (pa_cons (pe_op op_add (pe_op op_add (pe_op op_mul (pv 0) pe_int) (pe_op op_mul (pv 1) pe_int)) pe_int) pa_nil)) pe_int))
      (pss_cons (ps_set (i := 2) nd rfl (Or.inl rfl) (pe_op op_mod (pe_callTy call_int1 (by rfl) T.n_int (by decide +kernel) (pa_cons (pe_op op_add (pe_op op_add (pe_op op_mul (pv 2) pe_int) (pe_op op_mul (pv 1) pe_int)) pe_int) pa_nil)) pe_int))
      (pss_one (ps_ret (pe_op op_fdiv (pv 2) pe_int))))), ?_⟩
    refine ⟨_, rfl, _, _, rfl, rfl, .inr (by decide), _, rfl, _, _, rfl, rfl, .inr (by decide), _, _, rfl, rfl, _, _, rfl, rfl, .inl ⟨_, rfl, _, _, rfl, rfl, (by show (0 : Int) < 2147483647; decide), ?_⟩⟩
    refine ⟨_, rfl, _, _, rfl, rfl, .inr (by decide), _, rfl, _, _, rfl, rfl, .inr (by decide), _, _, rfl, rfl, _, _, rfl, rfl, .inl ⟨_, rfl, _, _, rfl, rfl, (by show (0 : Int) < 2147483629; decide), ?_⟩⟩
    exact ⟨_, rfl, _, _, rfl, rfl, ⟨by decide, by decide⟩, q⟩

def divs : Nat → Int → Int → Int
  | 0, x, _ => x
  | k + 1, x, b => divs k x b / b
def rowAt (c : Int) (b : Int) (k : Nat) : Int := if 1000000000000000000 ≤ (if c < 0 then -c else c) then divs k (if c < 0 then -c else c) b % b else mixI c k % b
/-- the digits of a cell, or its mixture -/
def rowL (c : Int) (n : Nat) (b : Int) : List Int := (List.range n).map (rowAt c b)
theorem rowL_len (c : Int) (n : Nat) (b : Int) : (rowL c n b).length = n := by simp [rowL]
theorem rowL_in {c : Int} {n : Nat} {b x : Int} (hb : 0 < b) (h : x ∈ rowL c n b) : 0 ≤ x ∧ x < b := by
  obtain ⟨k, _, rfl⟩ := List.mem_map.mp h
  have z : ∀ y : Int, 0 ≤ y % b ∧ y % b < b := fun y => ⟨Int.emod_nonneg _ (by omega), Int.emod_lt_of_pos _ hb⟩
  by_cases hc : 1000000000000000000 ≤ (if c < 0 then -c else c)
  · rw [rowAt, if_pos hc]
    exact z _
  · rw [rowAt, if_neg hc]
    exact z _
theorem rowL_succ (c : Int) (n : Nat) (b : Int) : rowL c (n + 1) b = rowL c n b ++ [rowAt c b n] := by simp [rowL, List.range_succ]
def spRow : Sp := fun vs H Q _ => ∃ (c : Int) (n : Nat) (b : Int), vs = [.int c, .int (n : Int), .int b] ∧ n ≤ 60000 ∧ 0 < b ∧ b < 1073741824 ∧ ∀ p H', H p = none → Same H H' → H' p = some (.lst ((rowL c n b).map V.int)) → Q (.ref p) H'
theorem ok__law_row (T : Txt K mg C_InvalidScript c_taken_items P_taken_items) : Ok P w K mg base CX0 2 "_law_row" ["cell", "count", "bound"] spRow := by
  have G__law_mix := ok__law_mix (P := P) (w := w) (base := base) T
  refine ok_of T.d__law_row fun f fd F => F.ok sc__law_row (fun vs H Q E h => ?_) (fun cdv A outer s H vs Q E hr h => ?_)
  · obtain ⟨c, n, b, rfl, _⟩ := h
    rfl
  · obtain ⟨c, n, b, rfl, hn, hb0, hb1, kQ⟩ := h
    have nd := sc__law_row.nd
    refine ⟨_,       (pss_cons (ps_set (i := 3) nd rfl (Or.inl rfl) (pe_lst pa_nil))
      (pss_cons (ps_set (i := 4) nd rfl (Or.inl rfl) (pe_callB call_abs (by rfl) T.n_abs (by decide +kernel) (pa_cons (pv 0) pa_nil)))
      (pss_cons (ps_for PassesOwn.never rfl (pi_range1 rfl T.n_range (pa_cons (pv 1) pa_nil)) (pg_name (i := 5) nd rfl (Or.inl rfl))
        (pss_one (ps_if (pt_cmpR op_ge (pe_callB call_abs (by rfl) T.n_abs (by decide +kernel) (pa_cons (pv 0) pa_nil)) pe_int (nomark _))
          (pss_cons (ps_expr (pe_bm PySem.F.plainAttrs_list PySem.F.slot_list_append PySem.F.type_list_append mt_append (pv 3) (pa_cons (pe_op op_mod (pe_callTy call_int1 (by rfl) T.n_int (by decide +kernel) (pa_cons (pv 4) pa_nil)) (pv 2)) pa_nil)))
          (pss_one (ps_set (i := 4) nd rfl (Or.inl rfl) (pe_op op_fdiv (pv 4) (pv 2)))))
          (pss_one (ps_expr (pe_bm PySem.F.plainAttrs_list PySem.F.slot_list_append PySem.F.type_list_append mt_append (pv 3) (pa_cons (pe_op op_mod (pe_callTy call_int1 (by rfl) T.n_int (by decide +kernel) (pa_cons (pe_callO G__law_mix (hr.mono (by decide)) pass0 (pa_cons (pv 0) (pa_cons (pv 5) pa_nil))) pa_nil)) (pv 2)) pa_nil)))))))
      (pss_one (ps_ret (pv 3)))))), ?_⟩
    refine ⟨by decide, fun p hp => ⟨_, rfl, _, rfl, ?_⟩⟩
    refine ⟨_, rfl, (n : Int), rfl, by omega, by omega, for_range (lo := 0) (n := (n : Int).toNat) (fun i σ H' => ∃ (r : Int) (v : Option V), (1000000000000000000 ≤ (if c < 0 then -c else c) → r = divs i (if c < 0 then -c else c) b) ∧ σ = [some (.int c), some (.int (n : Int)), some (.int b), some (.ref p), some (.int r), v] ∧ Same H H' ∧ H' p = some (.lst ((rowL c i b).map V.int))) ⟨_, none, fun _ => rfl, rfl, same_upd hp, upd_same⟩ ?_ ?_⟩
    · rintro i σ H' hi ⟨r, v, hr', rfl, e, hL⟩
      have ei : (0 : Int) + (i : Int) = (i : Int) := by omega
      have hsz : ((rowL c i b).map V.int).length < sizeLine := small (by rw [List.length_map, rowL_len]; omega)
      refine ⟨_, rfl, _, rfl, _, _, rfl, rfl, _, rfl, itd (fun h => ?_) (fun h => ?_)⟩
      · refine ⟨_, rfl, .inl ⟨rfl, _, SqL.of hL⟩, _, rfl, .inl ⟨_, rfl, _, rfl, _, _, rfl, rfl, hb0, p, _, _, rfl, rfl, hL, hsz, ?_⟩⟩
        refine ⟨_, rfl, _, rfl, _, _, rfl, rfl, ⟨hb0, hb1⟩, ?_⟩
        refine ⟨r / b, _, fun z => ?_, rfl, same_new e hp, ?_⟩
        · rw [hr' z]
          rfl
        · rw [upd_same, rowL_succ, rowAt, if_pos h, ← hr' h]
          simp
      · refine ⟨_, rfl, .inl ⟨rfl, _, SqL.of hL⟩, _, rfl, _, rfl, c, 0 + (i : Int), rfl, .inl ⟨_, rfl, _, rfl, _, _, rfl, rfl, hb0, p, _, _, rfl, rfl, hL, hsz, ?_⟩⟩
        refine ⟨r, _, fun z => absurd z h, rfl, same_new e hp, ?_⟩
        rw [upd_same, rowL_succ, rowAt, if_neg h, ei]
        simp
    · rintro σ H' ⟨r, v, _, rfl, e, hL⟩
      refine ⟨_, rfl, kQ p _ hp e ?_⟩
      rw [Int.toNat_natCast] at hL
      exact hL

/-! ### edit scripts: steps, and how they lie in the heap -/
inductive Step where
  | keep (n : Nat)
  | drop (n : Nat)
  | add (xs : List Int)
  deriving DecidableEq
def StepAt (K : PySem.W.Frag) (H : Hp) (v : V) : Step → Prop
  | .keep n => ∃ t, v = .ref t ∧ SqT K H t [.str "keep", .int (n : Int)]
  | .drop n => ∃ t, v = .ref t ∧ SqT K H t [.str "drop", .int (n : Int)]
  | .add xs => ∃ t u, v = .ref t ∧ SqT K H t [.str "add", .ref u] ∧ SqT K H u (xs.map V.int)
def ScrV (K : PySem.W.Frag) (H : Hp) (vs : List V) (ss : List Step) : Prop := Paired (StepAt K H) vs ss
def ScrAt (K : PySem.W.Frag) (H : Hp) (a : Addr) (ss : List Step) : Prop := ∃ vs, SqL K H a vs ∧ ScrV K H vs ss
theorem StepAt.keeps {K : PySem.W.Frag} {H H' : Hp} (e : ∀ t ys, SqT K H t ys → SqT K H' t ys) {v : V} : ∀ {s : Step}, StepAt K H v s → StepAt K H' v s
  | .keep _, ⟨t, h1, h2⟩ => ⟨t, h1, e _ _ h2⟩
  | .drop _, ⟨t, h1, h2⟩ => ⟨t, h1, e _ _ h2⟩
  | .add _, ⟨t, u, h1, h2, h3⟩ => ⟨t, u, h1, e _ _ h2, e _ _ h3⟩
theorem ScrV.keeps {K : PySem.W.Frag} {H H' : Hp} (e : ∀ t ys, SqT K H t ys → SqT K H' t ys) : ∀ {vs : List V} {ss : List Step}, ScrV K H vs ss → ScrV K H' vs ss
  | _, _, .nil => .nil
  | _, _, .cons h r => .cons (h.keeps e) (ScrV.keeps e r)
theorem itn {p A B : Prop} [Decidable p] (h1 : ¬ p → A) (h2 : p → B) : if (!decide p) = true then A else B := by
  by_cases h : p
  · rw [decide_eq_true h]
    exact iteF (h2 h)
  · rw [decide_eq_false h]
    exact iteT (h1 h)
theorem cut_fromG {xs : List V} {k : Nat} : cutV xs (some (k : Int)) none = xs.drop k := by
  unfold cutV
  have e : HT.sIx xs.length 0 (some (k : Int)) = min k xs.length := HT.sIx_nat _ _ k
  rw [e]
  simp only [HT.sIx]
  rw [List.take_of_length_le (by rw [List.length_drop]; exact Nat.le_refl _)]
  by_cases h : k ≤ xs.length
  · rw [Nat.min_eq_left h]
  · rw [Nat.min_eq_right (by omega), List.drop_of_length_le (Nat.le_refl _), List.drop_of_length_le (by omega)]
theorem sqT_same {K : PySem.W.Frag} {H H' : Hp} (e : Same H H') (t : Addr) (ys : List V) (h : SqT K H t ys) : SqT K H' t ys := Evl.ex_t e h
theorem sqT_sm {K : PySem.W.Frag} {H H' : Hp} (e : GX.Sm H H') (t : Addr) (ys : List V) (h : SqT K H t ys) : SqT K H' t ys := e.tup h
/-- a list that is rewritten moves no tuple -/
theorem sqT_lst {K : PySem.W.Frag} {H : Hp} {l : Addr} {xs ws : List V} (hl : H l = some (.lst xs)) (t : Addr) (ys : List V) (h : SqT K H t ys) : SqT K (upd H l (.lst ws)) t ys := by
  rcases h with (h | ⟨o, h⟩) | h
  · exact .inl (.inl (by rw [upd_ne (fun z => by rw [z, hl] at h; cases h)]; exact h))
  · exact .inl (.inr ⟨o, by rw [upd_ne (fun z => by rw [z, hl] at h; cases h)]; exact h⟩)
  · exact .inr h
theorem ScrV.length {K : PySem.W.Frag} {H : Hp} {vs : List V} {ss : List Step} (h : ScrV K H vs ss) : vs.length = ss.length := Paired.length h
def stepD : Step → PyData
  | .keep n => .tuple [.str "keep", .int (n : Int)]
  | .drop n => .tuple [.str "drop", .int (n : Int)]
  | .add xs => .tuple [.str "add", .tuple (xs.map PyData.int)]
theorem dp_step {K : PySem.W.Frag} {H : Hp} {v : V} : ∀ {s : Step}, StepAt K H v s → Dp K H v (stepD s)
  | .keep n, ⟨t, h1, h2⟩ => h1 ▸ .tup h2 (.cons (.str _) (.cons (.int _) .nil))
  | .drop n, ⟨t, h1, h2⟩ => h1 ▸ .tup h2 (.cons (.str _) (.cons (.int _) .nil))
  | .add xs, ⟨t, u, h1, h2, h3⟩ => h1 ▸ .tup h2 (.cons (.str _) (.cons (.tup h3 (dp_ints xs)) .nil))
theorem dp_steps {K : PySem.W.Frag} {H : Hp} : ∀ {vs : List V} {ss : List Step}, ScrV K H vs ss → DpAll K H vs (ss.map stepD)
  | _, _, .nil => .nil
  | _, _, .cons h r => .cons (dp_step h) (dp_steps r)
theorem dp_scr {K : PySem.W.Frag} {H : Hp} {a : Addr} {ss : List Step} (h : ScrAt K H a ss) : Dp K H (.ref a) (.list (ss.map stepD)) := by
  obtain ⟨vs, h1, h2⟩ := h
  exact .lst h1 (dp_steps h2)
theorem canLay_step (s : Step) : PyData.canLay0 (stepD s) = true := by
  cases s with
  | keep n => exact Bool.and_eq_true_iff.mpr ⟨by decide +kernel, by simp [PyData.canLayAll0, PyData.canLay0]⟩
  | drop n => exact Bool.and_eq_true_iff.mpr ⟨by decide +kernel, by simp [PyData.canLayAll0, PyData.canLay0]⟩
  | add xs =>
    refine Bool.and_eq_true_iff.mpr ⟨by decide +kernel, ?_⟩
    simp [PyData.canLayAll0, PyData.canLay0, Cm.canLayAll_ints]
theorem depth_step (s : Step) : PyData.depth (stepD s) ≤ 2 := by
  cases s with
  | keep n => simp [stepD, PyData.depth, PyData.depthAll]
  | drop n => simp [stepD, PyData.depth, PyData.depthAll]
  | add xs => simp [stepD, PyData.depth, PyData.depthAll, Cm.depthAll_ints]
theorem canLay_steps : ∀ ss : List Step, PyData.canLayAll0 (ss.map stepD) = true
  | [] => rfl
  | s :: ss => by
    show (PyData.canLay0 (stepD s) && PyData.canLayAll0 (ss.map stepD)) = true
    rw [canLay_step, canLay_steps ss]
    rfl
theorem depth_steps : ∀ ss : List Step, PyData.depthAll (ss.map stepD) ≤ 2
  | [] => by simp [PyData.depthAll]
  | s :: ss => by
    show max (PyData.depth (stepD s)) (PyData.depthAll (ss.map stepD)) ≤ 2
    have h1 := depth_step s
    have h2 := depth_steps ss
    omega
theorem shaped_steps (ss : List Step) : SeqAt.shaped (.list (ss.map stepD)) = true := by
  have h := depth_steps ss
  refine Bool.and_eq_true_iff.mpr ⟨canLay_steps ss, decide_eq_true ?_⟩
  show PyData.depthAll (ss.map stepD) + 1 ≤ 64
  omega
theorem shaped_old_steps (ns : List Int) (ss : List Step) : SeqAt.shaped (.tuple [.list (ns.map PyData.int), .list (ss.map stepD)]) = true := by
  have h := depth_steps ss
  refine Bool.and_eq_true_iff.mpr ⟨?_, decide_eq_true ?_⟩
  · show (PyData.canLayAll0 (ns.map PyData.int) && (PyData.canLayAll0 (ss.map stepD) && true)) = true
    rw [canLay_steps, Cm.canLayAll_ints]
    rfl
  · show max (PyData.depthAll (ns.map PyData.int) + 1) (max (PyData.depthAll (ss.map stepD) + 1) 0) + 1 ≤ 64
    rw [Cm.depthAll_ints]
    omega
theorem sm_put {H H2 : Hp} {l : Addr} {ws zs : List V} (e : GX.Sm H H2) (hl : H l = none) (h2 : H2 l = some (.lst ws)) : GX.Sm H (upd H2 l (.lst zs)) := by
  refine ⟨fun b o q n => ?_, fun P t => ?_⟩
  · rw [upd_ne (fun z => by rw [z, hl] at q; cases q)]
    exact e.keep _ _ q n
  · obtain ⟨ps, q, t2⟩ := e.tab _ t
    exact ⟨ps, by rw [upd_ne (fun z => by rw [z, h2] at q; cases q)]; exact q, t2⟩
theorem sm_mk {H H2 : Hp} {r : Addr} {o : HO} (e : GX.Sm H H2) (hr : H2 r = none) : GX.Sm H (upd H2 r o) := e.trans (GX.Sm.of (same_upd hr))
/-- how many old items a step takes, how many new items it makes -/
def Step.tk : Step → Nat
  | .keep n => n
  | .drop n => n
  | .add _ => 0
def Step.mk' : Step → Nat
  | .keep n => n
  | .drop _ => 0
  | .add xs => xs.length
def taken : List Step → Nat
  | [] => 0
  | s :: ss => s.tk + taken ss
theorem taken_app : ∀ (a b : List Step), taken (a ++ b) = taken a + taken b
  | [], b => by simp [taken]
  | s :: a, b => by
    show s.tk + taken (a ++ b) = s.tk + taken a + taken b
    rw [taken_app a b]
    omega
theorem taken_snoc (a : List Step) (s : Step) : taken (a ++ [s]) = taken a + s.tk := by
  rw [taken_app]
  rfl
theorem taken_take_le (ss : List Step) (i : Nat) : taken (ss.take i) ≤ taken ss := by
  have h := taken_app (ss.take i) (ss.drop i)
  rw [List.take_append_drop] at h
  omega
/-- what a step puts into the new list, the rest of the old one being o -/
def piece (o : List Int) : Step → List Int
  | .keep n => o.take n
  | .drop _ => []
  | .add xs => xs
def run (o : List Int) : List Step → List Int
  | [] => []
  | s :: ss => piece o s ++ run (o.drop s.tk) ss
theorem run_app : ∀ (a b : List Step) (o : List Int), run o (a ++ b) = run o a ++ run (o.drop (taken a)) b
  | [], b, o => by simp [run, taken]
  | s :: a, b, o => by
    show piece o s ++ run (o.drop s.tk) (a ++ b) = piece o s ++ run (o.drop s.tk) a ++ run (o.drop (s.tk + taken a)) b
    rw [run_app a b, List.drop_drop, List.append_assoc]
theorem run_snoc (a : List Step) (s : Step) (o : List Int) : run o (a ++ [s]) = run o a ++ piece (o.drop (taken a)) s := by
  rw [run_app]
  simp [run]
def Step.sz : Step → Nat
  | .keep n => n
  | .drop n => n
  | .add xs => xs.length
/-- what bounds a script -/
def Bd (m : Nat) (ss : List Step) : Prop := ∀ s ∈ ss, s.sz ≤ m
theorem piece_le (o : List Int) (s : Step) : (piece o s).length ≤ s.sz := by
  cases s with
  | keep n => simp only [piece, Step.sz, List.length_take]; omega
  | drop n => simp [piece]
  | add xs => simp [piece, Step.sz]
theorem run_le {m : Nat} : ∀ (ss : List Step) (o : List Int), Bd m ss → (run o ss).length ≤ ss.length * m
  | [], o, _ => by simp [run]
  | s :: ss, o, h => by
    have h1 := piece_le o s
    have h2 : s.sz ≤ m := h s List.mem_cons_self
    have h3 := run_le ss (o.drop s.tk) fun x hx => h x (List.mem_cons_of_mem _ hx)
    show (piece o s ++ run (o.drop s.tk) ss).length ≤ (ss.length + 1) * m
    rw [List.length_append, Nat.add_mul, Nat.one_mul]
    omega
theorem Bd.take {m : Nat} {ss : List Step} (h : Bd m ss) (i : Nat) : Bd m (ss.take i) := fun s hs => h s (List.mem_of_mem_take hs)
theorem Bd.drop {m : Nat} {ss : List Step} (h : Bd m ss) (i : Nat) : Bd m (ss.drop i) := fun s hs => h s (List.mem_of_mem_drop hs)
theorem Bd.app {m : Nat} {a b : List Step} (h1 : Bd m a) (h2 : Bd m b) : Bd m (a ++ b) := fun s hs => (List.mem_append.mp hs).elim (h1 s) (h2 s)
theorem Bd.one {m : Nat} {s : Step} (h : s.sz ≤ m) : Bd m [s] := fun x hx => by
  rw [List.mem_singleton.mp hx]
  exact h
theorem scr_get {K : PySem.W.Frag} {H : Hp} : ∀ {vs : List V} {ss : List Step} {i : Nat} {v : V}, ScrV K H vs ss → vs[i]? = some v → ∃ s, ss[i]? = some s ∧ StepAt K H v s
  | _, _, i, v, .nil, h => by simp at h
  | _, _, 0, v, .cons h r, e => by
    simp at e
    subst e
    exact ⟨_, rfl, h⟩
  | _, _, i + 1, v, .cons h r, e => by
    obtain ⟨s, h1, h2⟩ := scr_get r (by simpa using e)
    exact ⟨s, by simpa using h1, h2⟩
theorem ScrV.app {K : PySem.W.Frag} {H : Hp} : ∀ {a b : List V} {x y : List Step}, ScrV K H a x → ScrV K H b y → ScrV K H (a ++ b) (x ++ y)
  | _, _, _, _, .nil, h => h
  | _, _, _, _, .cons h r, h2 => .cons h (ScrV.app r h2)
theorem ScrV.take {K : PySem.W.Frag} {H : Hp} : ∀ {a : List V} {x : List Step} (i : Nat), ScrV K H a x → ScrV K H (a.take i) (x.take i)
  | _, _, 0, _ => by simp; exact Paired.nil
  | _, _, i + 1, .nil => by simp; exact Paired.nil
  | _, _, i + 1, .cons h r => .cons h (ScrV.take i r)
theorem ScrV.drop {K : PySem.W.Frag} {H : Hp} : ∀ {a : List V} {x : List Step} (i : Nat), ScrV K H a x → ScrV K H (a.drop i) (x.drop i)
  | _, _, 0, h => h
  | _, _, i + 1, .nil => by simp; exact Paired.nil
  | _, _, i + 1, .cons h r => ScrV.drop i r
theorem ScrV.set {K : PySem.W.Frag} {H : Hp} : ∀ {a : List V} {x : List Step} (i : Nat) {v : V} {s : Step}, ScrV K H a x → StepAt K H v s → ScrV K H (a.set i v) (x.set i s)
  | _, _, _, _, _, .nil, _ => by simp; exact Paired.nil
  | _, _, 0, _, _, .cons h r, h2 => .cons h2 r
  | _, _, i + 1, _, _, .cons h r, h2 => .cons h (ScrV.set i r h2)
theorem Bd.mono {m n : Nat} {ss : List Step} (h : Bd m ss) (le : m ≤ n) : Bd n ss := fun s hs => Nat.le_trans (h s hs) le
def tot : List Step → Nat
  | [] => 0
  | s :: ss => s.sz + tot ss
theorem tot_app : ∀ (a b : List Step), tot (a ++ b) = tot a + tot b
  | [], b => by simp [tot]
  | s :: a, b => by
    show s.sz + tot (a ++ b) = s.sz + tot a + tot b
    rw [tot_app a b]
    omega
theorem tot_snoc (a : List Step) (s : Step) : tot (a ++ [s]) = tot a + s.sz := by
  rw [tot_app]
  rfl
theorem tot_take_le (ss : List Step) (i : Nat) : tot (ss.take i) ≤ tot ss := by
  have h := tot_app (ss.take i) (ss.drop i)
  rw [List.take_append_drop] at h
  omega
theorem run_tot : ∀ (ss : List Step) (o : List Int), (run o ss).length ≤ tot ss
  | [], o => by simp [run, tot]
  | s :: ss, o => by
    have h1 := piece_le o s
    have h3 := run_tot ss (o.drop s.tk)
    show (piece o s ++ run (o.drop s.tk) ss).length ≤ s.sz + tot ss
    rw [List.length_append]
    omega
theorem tot_le {m : Nat} : ∀ {ss : List Step}, Bd m ss → tot ss ≤ ss.length * m
  | [], _ => by simp [tot]
  | s :: ss, h => by
    have h1 : s.sz ≤ m := h s List.mem_cons_self
    have h2 := tot_le (ss := ss) fun x hx => h x (List.mem_cons_of_mem _ hx)
    show s.sz + tot ss ≤ (ss.length + 1) * m
    rw [Nat.add_mul, Nat.one_mul]
    omega
def PosS (ss : List Step) : Prop := ∀ s ∈ ss, 0 < s.sz
theorem PosS.app {a b : List Step} (h1 : PosS a) (h2 : PosS b) : PosS (a ++ b) := fun s hs => (List.mem_append.mp hs).elim (h1 s) (h2 s)
theorem PosS.one {s : Step} (h : 0 < s.sz) : PosS [s] := fun x hx => by
  rw [List.mem_singleton.mp hx]
  exact h

theorem cut_midG {xs : List V} {j k : Nat} (h : j ≤ k) : cutV xs (some (j : Int)) (some (k : Int)) = (xs.drop j).take (k - j) := by
  unfold cutV
  have e1 : HT.sIx xs.length 0 (some (j : Int)) = min j xs.length := HT.sIx_nat _ _ j
  have e2 : HT.sIx xs.length xs.length (some (k : Int)) = min k xs.length := HT.sIx_nat _ _ k
  rw [e1, e2]
  by_cases h1 : j ≤ xs.length
  · rw [Nat.min_eq_left h1]
    by_cases h2 : k ≤ xs.length
    · rw [Nat.min_eq_left h2]
    · rw [Nat.min_eq_right (by omega), List.take_of_length_le (by rw [List.length_drop]; omega), List.take_of_length_le (by rw [List.length_drop]; omega)]
  · rw [List.drop_of_length_le (by omega), List.drop_of_length_le (by omega), List.take_nil, List.take_nil]
theorem cut_toG {xs : List V} {k : Nat} : cutV xs none (some (k : Int)) = xs.take k := by
  unfold cutV
  have e2 : HT.sIx xs.length xs.length (some (k : Int)) = min k xs.length := HT.sIx_nat _ _ k
  have e1 : HT.sIx xs.length 0 none = 0 := rfl
  rw [e1, e2, List.drop_zero, Nat.sub_zero]
  by_cases h2 : k ≤ xs.length
  · rw [Nat.min_eq_left h2]
  · rw [Nat.min_eq_right (by omega), List.take_of_length_le (Nat.le_refl _), List.take_of_length_le (by omega)]
theorem tru_l {K : PySem.W.Frag} {H : Hp} {p : Addr} {xs : List V} (h : SqL K H p xs) : TruV K (.ref p) H (!xs.isEmpty) := .inl ⟨xs, h, rfl⟩
theorem tru_t {K : PySem.W.Frag} {H : Hp} {p : Addr} {xs : List V} (h : SqT K H p xs) : TruV K (.ref p) H (!xs.isEmpty) := .inr (.inl ⟨xs, h, rfl⟩)
theorem ne_noG {d e : PyData} {A B : Prop} (h : PyData.eqv d e = true) (hb : B) : ∃ k, V.bl (!PyData.eqv d e) = V.bl k ∧ if k = true then A else B := ⟨_, rfl, by rw [h]; exact iteF hb⟩
theorem nm_noG {x y : V} {A B : Prop} (h : x = y) (hb : B) : ∃ k, V.bl (!decide (x = y)) = V.bl k ∧ if k = true then A else B := ⟨_, rfl, by rw [h]; simpa using hb⟩
theorem if_ff {A B : Prop} (h : B) : if (true = false) then A else B := by
  rw [if_neg (by decide)]
  exact h
theorem if_tf {A B : Prop} (h : A) : if (false = false) then A else B := by
  rw [if_pos rfl]
  exact h

def spTakenBy (K : PySem.W.Frag) : Sp := fun vs H Q _ => ∃ (v : V) (s : Step), vs = [v] ∧ StepAt K H v s ∧ Q (.int (s.tk : Int)) H
theorem ok__taken_by (T : Txt K mg C_InvalidScript c_taken_items P_taken_items) : Ok P w K mg base CX0 1 "_taken_by" ["step"] (spTakenBy K) := by
  refine ok_of T.d__taken_by fun f fd F => F.ok sc__taken_by (fun vs H Q E h => ?_) (fun cdv A outer s H vs Q E hr h => ?_)
  · obtain ⟨v, s, rfl, _⟩ := h
    rfl
  · obtain ⟨v, s, rfl, hs, q⟩ := h
    have nd := sc__taken_by.nd
    refine ⟨_,       (pss_cons (ps_asg (pv 0) (pg_tup rfl (pgs_cons (pg_name (i := 1) nd rfl (Or.inl rfl)) (pgs_cons (pg_name (i := 2) nd rfl (Or.inl rfl)) pgs_nil))))
      (pss_one (ps_ret (pe_ifExp (pt_cmpR op_eq (pv 1) pe_str (nomark _)) pe_int (pv 2))))), ?_⟩
    cases s with
    | keep n =>
      obtain ⟨t, rfl, hT⟩ := hs
      exact ⟨_, rfl, t, _, rfl, hT, rfl, _, _, rfl, _, _, rfl, rfl, _, rfl, rfl, _, rfl, itd (fun h => absurd h (by decide)) (fun _ => ⟨_, rfl, q⟩)⟩
    | drop n =>
      obtain ⟨t, rfl, hT⟩ := hs
      exact ⟨_, rfl, t, _, rfl, hT, rfl, _, _, rfl, _, _, rfl, rfl, _, rfl, rfl, _, rfl, itd (fun h => absurd h (by decide)) (fun _ => ⟨_, rfl, q⟩)⟩
    | add xs =>
      obtain ⟨t, u, rfl, hT, _⟩ := hs
      exact ⟨_, rfl, t, _, rfl, hT, rfl, _, _, rfl, _, _, rfl, rfl, _, rfl, rfl, _, rfl, itd (fun _ => q) (fun h => absurd rfl h)⟩
def spTaken (K : PySem.W.Frag) (P_ : Addr) : Sp := fun vs H Q _ => ∃ (a : Addr) (ss : List Step), vs = [.ref a] ∧ ScrAt K H a ss ∧ GxR.TabG H P_ ∧ ∀ H', GX.Sm H H' → Q (.int (taken ss : Int)) H'
theorem ok_taken_items (T : Txt K mg C_InvalidScript c_taken_items P_taken_items) : Ok P w K mg base CX0 4 "taken_items" ["script"] (spTaken K P_taken_items) := by
  have G__taken_by := ok__taken_by (P := P) (w := w) (base := base) T
  refine GX.okc_of T.d_taken_items sc_taken_items (fun vs H Q E h => ?_) (fun f A outer s H vs Q E hr h => ?_)
  · obtain ⟨a, ss, rfl, _⟩ := h
    rfl
  · obtain ⟨a, ss, rfl, ⟨vs, hL, hV⟩, tb, q⟩ := h
    have nd := sc_taken_items.nd
    refine ⟨_,       (pss_one (ps_ret (GX.pe_sumG (k := 1) (own := [("step", 1)]) (ext := (["step"] : List Str)) (hr.mono (by decide)) (by rfl) T.n_sum TBS.t_taken_items rfl ⟨by show (N_taken_items ++ (["step"] : List Str)).Nodup; decide +kernel, blkOk_by (N := N_taken_items ++ (["step"] : List Str)) (sc := defScope s_taken_items) (by decide +kernel), rfl, by decide +kernel, rfl⟩ (pi_list (pv 0)) (fun _ _ _ _ _ => (pg_name (i := 1) (show (N_taken_items ++ (["step"] : List Str)).Nodup by decide +kernel) rfl (Or.inl rfl))) (fun _ _ _ _ _ rm => (pe_callO G__taken_by (rm.mono (by decide)) pass0 (pa_cons (pv 1) pa_nil)))))), ?_⟩
    refine ⟨_, rfl, a, rfl, ⟨_, hL⟩, tb, GX.sum_it walk_list (fun i t H' => GX.Sm H H' ∧ t = (taken (ss.take i) : Int)) (fun H2 t2 => ⟨GX.Sm.tabbed tb t2, by simp [taken]⟩) (fun i t H' _ h => h.1.seq hL) ?_ ?_⟩
    · rintro i t x H1 H2 hi ⟨e1, rfl⟩ ⟨rfl, hx⟩
      obtain ⟨s, hs, hA⟩ := scr_get hV hx
      refine ⟨_, rfl, _, s, rfl, hA.keeps (sqT_sm e1), _, rfl, e1, ?_⟩
      obtain ⟨hlt, rfl⟩ := List.getElem?_eq_some_iff.mp hs
      rw [take_snoc hlt, taken_snoc]
      omega
    · rintro t H' ⟨e, rfl⟩
      rw [hV.length, List.take_length]
      exact q H' e
def spCheckFit (K : PySem.W.Frag) (P_ C : Addr) : Sp := fun vs H Q E => ∃ (a : Addr) (ss : List Step) (n : Nat), vs = [.ref a, .int (n : Int)] ∧ ScrAt K H a ss ∧ GxR.TabG H P_ ∧ (taken ss ≠ n → ∀ H', GX.Sm H H' → E (.ref C) none H') ∧ (taken ss = n → ∀ H', GX.Sm H H' → Q .non H')
theorem ok_check_fit (T : Txt K mg C_InvalidScript c_taken_items P_taken_items) : Ok P w K mg base (CXN P w) 5 "check_fit" ["script", "length"] (spCheckFit K P_taken_items C_InvalidScript) := by
  have G_taken_items := ok_taken_items (P := P) (w := w) (base := base) T
  refine ok_of T.d_check_fit fun f fd F => okN F sc_check_fit (fun vs H Q E h => ?_) (fun cdv A outer s H vs Q E hr h => ?_)
  · obtain ⟨a, ss, n, rfl, _⟩ := h
    rfl
  · obtain ⟨a, ss, n, rfl, hS, tb, kE, kQ⟩ := h
    have nd := sc_check_fit.nd
    refine ⟨_,       (pss_one (ps_if (pt_cmpR op_ne (pe_callO G_taken_items (hr.mono (by decide)) pass0 (pa_cons (pv 0) pa_nil)) (pv 1) (nomark _))
        (pss_one (L2N.ps_raise rfl (L2N.takes_of rfl rfl rfl rfl) (L2N.pmk_own PySem.F.excBase_ValueError T.x_InvalidScript.x T.x_InvalidScript.g T.x_InvalidScript.k (raises_own T.x_InvalidScript.b T.x_InvalidScript.t) rfl))) pss_nil)), ?_⟩
    refine ⟨_, rfl, a, ss, rfl, hS, tb, fun H' e => ⟨_, rfl, rfl, _, rfl, itn (fun h => kE (fun z => h (by rw [z])) H' e) (fun h => kQ (by injection h with h; omega) H' e)⟩⟩

-- @@CUT
def spItems : Sp := fun vs H Q _ => ∃ (c : Int) (n : Nat), vs = [.int c, .int (n : Int)] ∧ n ≤ 60000 ∧ ∀ p H' (xs : List Int), H p = none → Same H H' → H' p = some (.lst (xs.map V.int)) → xs.length = n → Q (.ref p) H'
theorem ok__law_items (T : Txt K mg C_InvalidScript c_taken_items P_taken_items) : Ok P w K mg base CX0 3 "_law_items" ["cell", "size"] spItems := by
  have G__law_row := ok__law_row (P := P) (w := w) (base := base) T
  refine ok_of T.d__law_items fun f fd F => F.ok sc__law_items (fun vs H Q E h => ?_) (fun cdv A outer s H vs Q E hr h => ?_)
  · obtain ⟨c, n, rfl, _⟩ := h
    rfl
  · obtain ⟨c, n, rfl, hn, kQ⟩ := h
    have nd := sc__law_items.nd
    refine ⟨_,       (pss_cons (ps_set (i := 2) nd rfl (Or.inl rfl) (pe_ix ix_tup (pe_tup (pa_cons pe_int (pa_cons pe_int (pa_cons pe_int pa_nil)))) (pe_op op_mod (pv 0) pe_int) (fun _ _ => rfl)))
      (pss_one (ps_ret (pe_callO G__law_row (hr.mono (by decide)) pass0 (pa_cons (pe_op op_fdiv (pv 0) pe_int) (pa_cons (pv 1) (pa_cons (pv 2) pa_nil))))))), ?_⟩
    refine ⟨(by show 3 ≤ sizeLine; decide), fun u hu => ?_⟩
    have z : c % 3 = 0 ∨ c % 3 = 1 ∨ c % 3 = 2 := by omega
    obtain ⟨b, hb0, hb1, hb⟩ : ∃ b : Int, 0 < b ∧ b < 1073741824 ∧ atI [V.int 2, V.int 3, V.int 256] (c % 3) = some (V.int b) := by
      rcases z with z | z | z
      · exact ⟨2, by decide, by decide, by rw [z]; rfl⟩
      · exact ⟨3, by decide, by decide, by rw [z]; rfl⟩
      · exact ⟨256, by decide, by decide, by rw [z]; rfl⟩
    refine ⟨_, rfl, _, _, rfl, rfl, (by show (0 : Int) < 3; decide), u, _, _, _, rfl, rfl, SqT.of upd_same, hb, ?_⟩
    refine ⟨_, rfl, _, _, rfl, rfl, ⟨by decide, by decide⟩, _, rfl, _, rfl, c / 3, n, b, rfl, hn, hb0, hb1, fun p H' hp e hL => ?_⟩
    exact kQ p H' _ (by
      cases q : H p with
      | none => rfl
      | some o =>
        have q2 := same_upd (o := .tup [V.int 2, V.int 3, V.int 256]) hu _ _ q
        rw [hp] at q2
        cases q2) ((same_upd hu).trans e) hL (rowL_len _ _ _)

def spScript (K : PySem.W.Frag) : Sp := fun vs H Q _ => ∃ (r b : Addr) (cs old : List Int), vs = [.ref r, .ref b] ∧ SqL K H r (cs.map V.int) ∧ SqL K H b (old.map V.int) ∧ cs.length ≤ 60 ∧ old.length ≤ 500 ∧
  ∀ c H' vs ss, H c = none → Same H H' → H' c = some (.lst vs) → ScrV K H' vs ss → ss.length ≤ cs.length + 1 → Bd 500 ss → taken ss = old.length → PosS ss → Q (.ref c) H'
theorem ok__law_script (T : Txt K mg C_InvalidScript c_taken_items P_taken_items) : Ok P w K mg base CX0 4 "_law_script" ["cells", "old"] (spScript K) := by
  have G__law_items := ok__law_items (P := P) (w := w) (base := base) T
  refine ok_of T.d__law_script fun f fd F => F.ok sc__law_script (fun vs H Q E h => ?_) (fun cdv A outer s H vs Q E hr h => ?_)
  · obtain ⟨r, b, cs, old, rfl, _⟩ := h
    rfl
  · obtain ⟨r, b, cs, old, rfl, hr1, hb, hc, ho, kQ⟩ := h
    have nd := sc__law_script.nd
    refine ⟨_,       (pss_cons (ps_set (i := 2) nd rfl (Or.inl rfl) (pe_lst pa_nil))
      (pss_cons (ps_set (i := 3) nd rfl (Or.inl rfl) (pe_callB call_len_seq (by rfl) T.n_len PySem.boot_len (pa_cons (pv 1) pa_nil)))
      (pss_cons (ps_for PassesOwn.never rfl (pi_list (pv 0)) (pg_name (i := 4) nd rfl (Or.inl rfl))
        (pss_cons (ps_set (i := 5) nd rfl (Or.inl rfl) (pe_op op_mod (pv 4) pe_int))
        (pss_one (ps_if (pt_cmpR op_eq (pv 5) pe_int (nomark _))
          (pss_one (ps_expr (pe_bm PySem.F.plainAttrs_list PySem.F.slot_list_append PySem.F.type_list_append mt_append (pv 2) (pa_cons (pe_tup (pa_cons pe_str (pa_cons (pe_callTy call_tuple_of (by rfl) T.n_tuple (by decide +kernel) (pa_cons (pe_callO G__law_items (hr.mono (by decide)) pass0 (pa_cons (pe_op op_fdiv (pv 4) pe_int) (pa_cons (pe_op op_add pe_int (pe_op op_mod (pe_op op_fdiv (pv 4) pe_int) pe_int)) pa_nil))) pa_nil)) pa_nil))) pa_nil))))
          (pss_one (ps_if (pt_cmpR op_gt (pv 3) pe_int (nomark _))
            (pss_cons (ps_set (i := 6) nd rfl (Or.inl rfl) (pe_op op_add pe_int (pe_op op_mod (pe_op op_fdiv (pv 4) pe_int) (pe_callB (call_min2 rfl) (by rfl) T.n_min (by decide +kernel) (pa_cons (pv 3) (pa_cons pe_int pa_nil))))))
            (pss_cons (ps_expr (pe_bm PySem.F.plainAttrs_list PySem.F.slot_list_append PySem.F.type_list_append mt_append (pv 2) (pa_cons (pe_tup (pa_cons (pe_ix ix_tup (pe_tup (pa_cons pe_str (pa_cons pe_str pa_nil))) (pv 5) (fun _ _ => rfl)) (pa_cons (pv 6) pa_nil))) pa_nil)))
            (pss_one (ps_set (i := 3) nd rfl (Or.inl rfl) (pe_op op_sub (pv 3) (pv 6)))))) pss_nil))))))
      (pss_cons (ps_if (pt_cmpR op_gt (pv 3) pe_int (nomark _))
        (pss_one (ps_expr (pe_bm PySem.F.plainAttrs_list PySem.F.slot_list_append PySem.F.type_list_append mt_append (pv 2) (pa_cons (pe_tup (pa_cons pe_str (pa_cons (pv 3) pa_nil))) pa_nil)))) pss_nil)
      (pss_one (ps_ret (pv 2))))))), ?_⟩
    refine ⟨by decide, fun l hl => ?_⟩
    refine ⟨_, rfl, b, _, rfl, .inl ((same_upd hl).seq hb), ?_⟩
    refine ⟨_, rfl, r, rfl, ⟨_, (same_upd hl).seq hr1⟩, for_list (K := K) (a := r) (xs := cs.map V.int) (fun i σ H' => ∃ (left : Nat) (ss : List Step) (ws : List V) (v4 v5 v6 : Option V), Same H H' ∧ H' l = some (.lst ws) ∧ ScrV K H' ws ss ∧ ss.length ≤ i ∧ (Bd 500 ss ∧ PosS ss) ∧ taken ss + left = old.length ∧ σ = [some (.ref r), some (.ref b), some (.ref l), some (.int (left : Int)), v4, v5, v6])
      ⟨old.length, [], [], none, none, none, same_upd hl, upd_same, .nil, Nat.le_refl _, ⟨fun _ h => (nomatch h), fun _ h => (nomatch h)⟩, by simp [taken], by rw [List.length_map]; rfl⟩ (fun i σ H' _ ⟨_, _, _, _, _, _, e, _⟩ => e.seq hr1) ?_ ?_⟩
    · rintro i x σ H1 hx ⟨left, ss, ws, v4, v5, v6, e1, hL, hV, hsl, hbd, htk, rfl⟩
      obtain ⟨hi, rfl⟩ := get_ints hx
      have hsz : ws.length < sizeLine := small (by rw [hV.length]; omega)
      refine ⟨_, rfl, _, _, rfl, rfl, (by show (0 : Int) < 3; decide), ?_⟩
      refine ⟨_, rfl, rfl, _, rfl, itd (fun hk => ?_) (fun hk => ?_)⟩
      · obtain ⟨n, hn, hn4, hn1⟩ : ∃ n : Nat, (1 : Int) + cs[i] / 9 % 4 = (n : Int) ∧ n ≤ 4 ∧ 1 ≤ n := ⟨((1 : Int) + cs[i] / 9 % 4).toNat, by omega, by omega, by omega⟩
        refine ⟨_, rfl, .inl ⟨rfl, _, SqL.of hL⟩, _, rfl, _, _, rfl, rfl, ⟨by decide, by decide⟩, _, rfl, _, _, rfl, rfl, ⟨by decide, by decide⟩, _, _, rfl, rfl, (by show (0 : Int) < 4; decide), _, _, rfl, rfl, cs[i] / 3, n, (by show [V.int (cs[i] / 3), V.int (1 + cs[i] / 9 % 4)] = _; rw [hn]), by omega, fun p H2 xs hp e2 hP hxs => ?_⟩
        refine ⟨p, _, rfl, .inl ⟨SqL.of hP, fun t ht => ?_⟩⟩
        have et := same_upd (o := .tup (xs.map V.int)) ht
        refine ⟨(by show 2 ≤ sizeLine; decide), fun u hu => ?_⟩
        have eu := same_upd (o := .tup [V.str "add", V.ref t]) hu
        have e3 := (e2.trans et).trans eu
        have hL3 := e3 _ _ hL
        have hT3 : SqT K (upd (upd H2 t (.tup (xs.map V.int))) u (.tup [V.str "add", V.ref t])) u [V.str "add", V.ref t] := SqT.of upd_same
        have hX3 : SqT K (upd (upd H2 t (.tup (xs.map V.int))) u (.tup [V.str "add", V.ref t])) t (xs.map V.int) := SqT.of (eu _ _ upd_same)
        refine ⟨l, _, _, rfl, rfl, hL3, hsz, left, ss ++ [.add xs], ws ++ [.ref u], some (.int cs[i]), some (.int (cs[i] % 3)), v6, same_new (e1.trans e3) hl, upd_same, ?_, ?_, ?_, ?_, rfl⟩
        · have hA : StepAt K (upd (upd H2 t (.tup (xs.map V.int))) u (.tup [V.str "add", V.ref t])) (.ref u) (.add xs) := ⟨u, t, rfl, hT3, hX3⟩
          exact (ScrV.app (hV.keeps (sqT_same e3)) (.cons hA .nil)).keeps (sqT_lst hL3)
        · rw [List.length_append, List.length_singleton]
          omega
        · exact ⟨hbd.1.app (Bd.one (by show xs.length ≤ 500; omega)), hbd.2.app (PosS.one (by show 0 < xs.length; omega))⟩
        · rw [taken_snoc]
          simp only [Step.tk]
          omega
      · refine ⟨_, rfl, _, _, rfl, rfl, _, rfl, itd (fun hp => ?_) (fun hp => ⟨left, ss, ws, _, _, _, e1, hL, hV, by omega, hbd, htk, rfl⟩)⟩
        have hmin : (if (5 : Int) < (left : Int) then (5 : Int) else (left : Int)) ≤ (left : Int) ∧ 0 < (if (5 : Int) < (left : Int) then (5 : Int) else (left : Int)) := by split <;> omega
        have hm1 := Int.emod_nonneg (cs[i] / 3) (b := (if (5 : Int) < (left : Int) then (5 : Int) else (left : Int))) (by omega)
        have hm2 := Int.emod_lt_of_pos (cs[i] / 3) hmin.2
        generalize hM : (if (5 : Int) < (left : Int) then (5 : Int) else (left : Int)) = M at hmin hm1 hm2
        obtain ⟨n, hn⟩ : ∃ n : Nat, 1 + cs[i] / 3 % M = (n : Int) := ⟨(1 + cs[i] / 3 % M).toNat, by omega⟩
        have z : cs[i] % 3 = 0 ∨ cs[i] % 3 = 1 := by
          have h2 : cs[i] % 3 ≠ 2 := fun z => hk (by show V.int (cs[i] % 3) = V.int 2; rw [z])
          omega
        refine ⟨_, rfl, _, _, rfl, rfl, ⟨by decide, by decide⟩, _, rfl, _, _, rfl, ?_⟩
        rw [hM]
        refine ⟨_, _, rfl, rfl, hmin.2, _, _, rfl, rfl, ?_⟩
        dsimp only
        rw [hn]
        refine ⟨_, rfl, .inl ⟨rfl, _, SqL.of hL⟩, (by show 2 ≤ sizeLine; decide), fun u hu => ?_⟩
        obtain ⟨wd, st, hwd, hst, hz⟩ : ∃ (wd : Str) (st : Step), atI [V.str "keep", V.str "drop"] (cs[i] % 3) = some (V.str wd) ∧ (st.tk = n ∧ st.sz = n) ∧ (∀ (H' : Hp) (t : Addr), SqT K H' t [V.str wd, V.int (n : Int)] → StepAt K H' (.ref t) st) := by
          rcases z with z | z
          · exact ⟨"keep", .keep n, by rw [z]; rfl, ⟨rfl, rfl⟩, fun H' t h => ⟨t, rfl, h⟩⟩
          · exact ⟨"drop", .drop n, by rw [z]; rfl, ⟨rfl, rfl⟩, fun H' t h => ⟨t, rfl, h⟩⟩
        refine ⟨_, rfl, u, _, _, _, rfl, rfl, SqT.of upd_same, hwd, _, rfl, (by show 2 ≤ sizeLine; decide), fun t ht => ?_⟩
        have e3 : Same H1 (upd (upd H1 u (.tup [V.str "keep", V.str "drop"])) t (.tup [V.str wd, V.int (n : Int)])) := (same_upd hu).trans (same_upd ht)
        have hL3 := e3 _ _ hL
        refine ⟨l, _, _, rfl, rfl, hL3, hsz, _, rfl, _, rfl, _, _, rfl, rfl, left - n, ss ++ [st], ws ++ [.ref t], some (.int cs[i]), some (.int (cs[i] % 3)), some (.int (n : Int)), same_new (e1.trans e3) hl, upd_same, ?_, ?_, ?_, ?_, ?_⟩
        · exact (ScrV.app (hV.keeps (sqT_same e3)) (.cons (hz _ _ (SqT.of upd_same)) .nil)).keeps (sqT_lst hL3)
        · rw [List.length_append, List.length_singleton]
          omega
        · exact ⟨hbd.1.app (Bd.one (by omega)), hbd.2.app (PosS.one (by omega))⟩
        · rw [taken_snoc]
          omega
        · show [_, _, _, some (V.int ((left : Int) - (n : Int))), _, _, _] = _
          rw [show ((left : Int) - (n : Int)) = ((left - n : Nat) : Int) by omega]
    · rintro σ H1 ⟨left, ss, ws, v4, v5, v6, e1, hL, hV, hsl, hbd, htk, rfl⟩
      rw [List.length_map] at hsl
      refine ⟨_, rfl, _, _, rfl, rfl, _, rfl, itd (fun hp => ?_) (fun hp => ?_)⟩
      · refine ⟨_, rfl, .inl ⟨rfl, _, SqL.of hL⟩, _, rfl, (by show 2 ≤ sizeLine; decide), fun t ht => ?_⟩
        have e3 := same_upd (o := .tup [V.str "keep", V.int (left : Int)]) ht
        have hL3 := e3 _ _ hL
        refine ⟨l, _, _, rfl, rfl, hL3, small (by rw [hV.length]; omega), ?_⟩
        refine ⟨_, rfl, kQ l _ _ (ss ++ [.keep left]) hl (same_new (e1.trans e3) hl) upd_same ?_ ?_ ?_ ?_ ?_⟩
        · have hA : StepAt K (upd H1 t (.tup [V.str "keep", V.int (left : Int)])) (.ref t) (.keep left) := ⟨t, rfl, SqT.of upd_same⟩
          exact (ScrV.app (hV.keeps (sqT_same e3)) (.cons hA .nil)).keeps (sqT_lst hL3)
        · rw [List.length_append, List.length_singleton]
          omega
        · exact hbd.1.app (Bd.one (by show left ≤ 500; omega))
        · rw [taken_snoc]
          exact htk
        · exact hbd.2.app (PosS.one (by show 0 < left; omega))
      · exact ⟨_, rfl, kQ l _ _ ss hl e1 hL hV (by omega) hbd.1 (by omega) hbd.2⟩

def spPatchL (K : PySem.W.Frag) : Sp := fun vs H Q _ => ∃ (b c : Addr) (old : List Int) (ss : List Step), vs = [.ref b, .ref c] ∧ SqL K H b (old.map V.int) ∧ ScrAt K H c ss ∧ tot ss ≤ 40000 ∧ (taken ss ≠ old.length → ∀ H', Same H H' → Q .non H') ∧
  (taken ss = old.length → ∀ p H', Same H H' → H' p = some (.lst ((run old ss).map V.int)) → Q (.ref p) H')
theorem ok__law_patch (T : Txt K mg C_InvalidScript c_taken_items P_taken_items) : Ok P w K mg base CX0 1 "_law_patch" ["old", "script"] (spPatchL K) := by
  refine ok_of T.d__law_patch fun f fd F => F.ok sc__law_patch (fun vs H Q E h => ?_) (fun cdv A outer s H vs Q E hr h => ?_)
  · obtain ⟨b, c, old, ss, rfl, _⟩ := h
    rfl
  · obtain ⟨b, c, old, ss, rfl, hb, ⟨vs, hcL, hcV⟩, htot, kN, kQ⟩ := h
    have nd := sc__law_patch.nd
    refine ⟨_,       (pss_cons (ps_set (i := 2) nd rfl (Or.inl rfl) (pe_lst pa_nil))
      (pss_cons (ps_set (i := 3) nd rfl (Or.inl rfl) pe_int)
      (pss_cons (ps_for PassesOwn.never rfl (pi_list (pv 1)) (pg_tup rfl (pgs_cons (pg_name (i := 4) nd rfl (Or.inl rfl)) (pgs_cons (pg_name (i := 5) nd rfl (Or.inl rfl)) pgs_nil)))
        (pss_one (ps_if (pt_cmpR op_eq (pv 4) pe_str (nomark _))
          (pss_one (ps_set (i := 2) nd rfl (Or.inl rfl) (pe_op op_cat (pv 2) (pe_callTy call_list_of (by rfl) T.n_list (by decide +kernel) (pa_cons (pv 5) pa_nil)))))
          (pss_cons (ps_if (pt_cmpR op_gt (pe_op op_add (pv 3) (pv 5)) (pe_callB call_len_seq (by rfl) T.n_len PySem.boot_len (pa_cons (pv 0) pa_nil)) (nomark _))
            (pss_one (ps_ret pe_non)) pss_nil)
          (pss_cons (ps_if (pt_cmpR op_eq (pv 4) pe_str (nomark _))
            (pss_one (ps_set (i := 2) nd rfl (Or.inl rfl) (pe_op op_cat (pv 2) (pe_slice sl_list (pv 0) (po_some (pv 3)) (po_some (pe_op op_add (pv 3) (pv 5))))))) pss_nil)
          (pss_one (ps_set (i := 3) nd rfl (Or.inl rfl) (pe_op op_add (pv 3) (pv 5)))))))))
      (pss_cons (ps_if (pt_cmpR op_lt (pv 3) (pe_callB call_len_seq (by rfl) T.n_len PySem.boot_len (pa_cons (pv 0) pa_nil)) (nomark _))
        (pss_one (ps_ret pe_non)) pss_nil)
      (pss_one (ps_ret (pv 2))))))), ?_⟩
    refine ⟨by decide, fun l0 hl0 => ?_⟩
    refine ⟨_, rfl, c, rfl, ⟨_, (same_upd hl0).seq hcL⟩, for_list (K := K) (a := c) (xs := vs) (fun i σ H' => ∃ (l : Addr) (v4 v5 : Option V), Same H H' ∧ taken (ss.take i) ≤ old.length ∧ H' l = some (.lst ((run old (ss.take i)).map V.int)) ∧ σ = [some (.ref b), some (.ref c), some (.ref l), some (.int (taken (ss.take i) : Int)), v4, v5]) ⟨l0, none, none, same_upd hl0, Nat.zero_le _, upd_same, rfl⟩ (fun i σ H' _ ⟨_, _, _, e, _⟩ => e.seq hcL) ?_ ?_⟩
    · rintro i x σ H2 hx ⟨l, v4, v5, e2, hle, h2, rfl⟩
      obtain ⟨st, hs, hA⟩ := scr_get hcV hx
      have hA2 := hA.keeps (sqT_same e2)
      obtain ⟨hlt, hst⟩ := List.getElem?_eq_some_iff.mp hs
      have hsz : (run old (ss.take i)).length + st.sz ≤ 40000 := by
        have h1 := run_tot (ss.take i) old
        have h2 := tot_take_le ss (i + 1)
        rw [take_snoc hlt, hst, tot_snoc] at h2
        omega
      have et : ss.take (i + 1) = ss.take i ++ [st] := by rw [take_snoc hlt, hst]
      have hb2 := e2.seq hb
      have over : ¬ taken (ss.take i) + st.tk ≤ old.length → taken ss ≠ old.length := fun h z => by
        have := taken_take_le ss (i + 1)
        rw [et, taken_snoc] at this
        omega
      cases st with
      | add xs =>
        obtain ⟨t, u, rfl, hT, hU⟩ := hA2
        refine ⟨t, _, rfl, hT, rfl, _, _, rfl, _, _, rfl, rfl, _, rfl, rfl, _, rfl, itd (fun _ => ?_) (fun h => absurd rfl h)⟩
        refine ⟨_, rfl, _, rfl, u, _, rfl, .inr hU, fun m hm => ?_⟩
        have e3 := same_upd (o := .lst (xs.map V.int)) hm
        refine ⟨l, m, _, _, rfl, rfl, e3 _ _ h2, upd_same, smallE ?_, fun r hr2 => ?_⟩
        · rw [List.length_map, List.length_map]
          simp only [Step.sz] at hsz
          omega
        refine ⟨r, some (.str "add"), some (.ref u), (e2.trans e3).trans (same_upd hr2), by rw [et, taken_snoc]; simp only [Step.tk]; omega, ?_, ?_⟩
        · rw [upd_same, ← List.map_append, et, run_snoc]
          rfl
        · rw [et, taken_snoc]
          rfl
      | keep n =>
        obtain ⟨t, rfl, hT⟩ := hA2
        refine ⟨t, _, rfl, hT, rfl, _, _, rfl, _, _, rfl, rfl, _, rfl, rfl, _, rfl, itd (fun h => absurd h (by decide)) (fun _ => ?_)⟩
        simp only [Step.tk] at over
        refine ⟨_, rfl, _, rfl, _, _, rfl, rfl, _, rfl, b, _, rfl, .inl hb2, _, _, rfl, rfl, _, rfl, itd (fun h => ?_) (fun h => ?_)⟩
        · rw [List.length_map] at h
          exact kN (over (by omega)) H2 e2
        rw [List.length_map] at h
        refine ⟨_, rfl, rfl, _, rfl, itd (fun _ => ?_) (fun h => absurd rfl h)⟩
        refine ⟨_, rfl, _, rfl, _, rfl, _, rfl, _, rfl, _, rfl, _, _, rfl, rfl, _, rfl, b, _, rfl, hb2, fun m hm => ?_⟩
        have e3 : cutV (old.map V.int) (some (taken (ss.take i) : Int)) (some ((taken (ss.take i) : Int) + (n : Int))) = ((old.drop (taken (ss.take i))).take n).map V.int := by
          have z : ((taken (ss.take i) : Int) + (n : Int)) = ((taken (ss.take i) + n : Nat) : Int) := by omega
          rw [z, cut_mid (by omega) (by rw [List.length_map]; omega), show taken (ss.take i) + n - taken (ss.take i) = n by omega, List.map_take, List.map_drop]
        rw [e3]
        have e4 := same_upd (o := .lst (((old.drop (taken (ss.take i))).take n).map V.int)) hm
        refine ⟨l, m, _, _, rfl, rfl, e4 _ _ h2, upd_same, smallE ?_, fun r hr2 => ?_⟩
        · rw [List.length_map, List.length_map, List.length_take]
          simp only [Step.sz] at hsz
          omega
        refine ⟨_, rfl, _, rfl, _, _, rfl, rfl, r, some (.str "keep"), some (.int (n : Int)), (e2.trans e4).trans (same_upd hr2), by rw [et, taken_snoc]; simp only [Step.tk]; omega, ?_, ?_⟩
        · rw [upd_same, ← List.map_append, et, run_snoc]
          rfl
        · rw [et, taken_snoc]
          show [_, _, _, some (V.int ((taken (ss.take i) : Int) + (n : Int))), _, _] = [_, _, _, some (V.int ((taken (ss.take i) + n : Nat) : Int)), _, _]
          rw [show ((taken (ss.take i) : Int) + (n : Int)) = ((taken (ss.take i) + n : Nat) : Int) by omega]
      | drop n =>
        obtain ⟨t, rfl, hT⟩ := hA2
        refine ⟨t, _, rfl, hT, rfl, _, _, rfl, _, _, rfl, rfl, _, rfl, rfl, _, rfl, itd (fun h => absurd h (by decide)) (fun _ => ?_)⟩
        simp only [Step.tk] at over
        refine ⟨_, rfl, _, rfl, _, _, rfl, rfl, _, rfl, b, _, rfl, .inl hb2, _, _, rfl, rfl, _, rfl, itd (fun h => ?_) (fun h => ?_)⟩
        · rw [List.length_map] at h
          exact kN (over (by omega)) H2 e2
        rw [List.length_map] at h
        refine ⟨_, rfl, rfl, _, rfl, itd (fun h => absurd h (by decide)) (fun _ => ?_)⟩
        refine ⟨_, rfl, _, rfl, _, _, rfl, rfl, l, some (.str "drop"), some (.int (n : Int)), e2, by rw [et, taken_snoc]; simp only [Step.tk]; omega, ?_, ?_⟩
        · rw [h2, et, run_snoc]
          simp [piece]
        · rw [et, taken_snoc]
          show [_, _, _, some (V.int ((taken (ss.take i) : Int) + (n : Int))), _, _] = [_, _, _, some (V.int ((taken (ss.take i) + n : Nat) : Int)), _, _]
          rw [show ((taken (ss.take i) : Int) + (n : Int)) = ((taken (ss.take i) + n : Nat) : Int) by omega]
    · rintro σ H2 ⟨l, v4, v5, e2, hle, h2, rfl⟩
      rw [hcV.length, List.take_length] at h2 hle
      rw [hcV.length, List.take_length]
      refine ⟨_, rfl, _, rfl, b, _, rfl, .inl (e2.seq hb), _, _, rfl, rfl, _, rfl, itd (fun h => ?_) (fun h => ?_)⟩
      · rw [List.length_map] at h
        exact kN (by omega) H2 e2
      · rw [List.length_map] at h
        exact ⟨_, rfl, kQ (by omega) l H2 e2 h2⟩

-- @@CUT
/-! ### normal forms of scripts -/
def kp (k : Nat) : List Step := if 0 < k then [.keep k] else []
def dr (d : Nat) : List Step := if 0 < d then [.drop d] else []
def ad (xs : List Int) : List Step := if xs.length ≠ 0 then [.add xs] else []
def blk (k d : Nat) (xs : List Int) : List Step := kp k ++ dr d ++ ad xs
/-- what is left to write, k kept, d dropped and xs added being held back -/
def nfS (k d : Nat) (xs : List Int) : List Step → List Step
  | [] => blk k d xs
  | .drop n :: r => nfS k (d + n) xs r
  | .add ys :: r => nfS k d (xs ++ ys) r
  | .keep n :: r => if 0 < d ∨ xs.length ≠ 0 then blk k d xs ++ nfS n 0 [] r else nfS (k + n) d xs r
def nf (ss : List Step) : List Step := nfS 0 0 [] ss
theorem kp0 : kp 0 = [] := rfl
theorem dr0 : dr 0 = [] := rfl
theorem ad0 : ad [] = [] := rfl
theorem kpP {k : Nat} (h : 0 < k) : kp k = [.keep k] := if_pos h
theorem drP {k : Nat} (h : 0 < k) : dr k = [.drop k] := if_pos h
theorem adP {xs : List Int} (h : xs.length ≠ 0) : ad xs = [.add xs] := if_pos h
theorem nfS_flush {k d n : Nat} {xs : List Int} {r : List Step} (h : 0 < d ∨ xs.length ≠ 0) : nfS k d xs (.keep n :: r) = blk k d xs ++ nfS n 0 [] r := if_pos h
theorem nfS_keep {k n : Nat} {r : List Step} : nfS k 0 [] (.keep n :: r) = nfS (k + n) 0 [] r := if_neg (by simp)
theorem gap_or (d : Nat) (xs : List Int) : (0 < d ∨ xs.length ≠ 0) ∨ (d = 0 ∧ xs = []) := by
  cases xs with
  | nil => cases d with
    | zero => exact .inr ⟨rfl, rfl⟩
    | succ n => exact .inl (.inl (by omega))
  | cons x xs => exact .inl (.inr (by simp))
/-- the kind of a step -/
def Step.kd : Step → Str
  | .keep _ => "keep"
  | .drop _ => "drop"
  | .add _ => "add"
/-- normal form, after a step of the kind b -/
def nfOk (b : Str) : List Step → Prop
  | [] => True
  | s :: r => s.kd ≠ b ∧ 0 < s.sz ∧ (s.kd = "drop" → b ≠ "add") ∧ nfOk s.kd r
theorem kd_keep_drop : (Str.ofString "keep") ≠ Str.ofString "drop" := by decide
theorem kd_keep_add : (Str.ofString "keep") ≠ Str.ofString "add" := by decide
theorem kd_keep_no : (Str.ofString "keep") ≠ Str.ofString "" := by decide
theorem kd_drop_keep : (Str.ofString "drop") ≠ Str.ofString "keep" := by decide
theorem kd_drop_add : (Str.ofString "drop") ≠ Str.ofString "add" := by decide
theorem kd_drop_no : (Str.ofString "drop") ≠ Str.ofString "" := by decide
theorem kd_add_keep : (Str.ofString "add") ≠ Str.ofString "keep" := by decide
theorem kd_add_drop : (Str.ofString "add") ≠ Str.ofString "drop" := by decide
theorem kd_add_no : (Str.ofString "add") ≠ Str.ofString "" := by decide
theorem kd_no_keep : (Str.ofString "") ≠ Str.ofString "keep" := by decide
theorem kd_no_drop : (Str.ofString "") ≠ Str.ofString "drop" := by decide
theorem kd_no_add : (Str.ofString "") ≠ Str.ofString "add" := by decide
theorem blk_ok {k d : Nat} {xs : List Int} {b : Str} (hb : b = "" ∨ b = "drop" ∨ b = "add") (hk : k = 0 → b = "") : nfOk b (blk k d xs) := by
  have k1 : (Str.ofString "keep") ≠ b := by rcases hb with rfl | rfl | rfl <;> decide
  unfold blk
  by_cases h1 : 0 < k
  · rw [kpP h1]
    by_cases h2 : 0 < d
    · rw [drP h2]
      by_cases h3 : xs.length ≠ 0
      · rw [adP h3]
        exact ⟨k1, h1, fun z => absurd z (by first | exact kd_keep_drop | exact kd_keep_add | exact kd_keep_no | exact kd_drop_keep | exact kd_drop_add | exact kd_drop_no | exact kd_add_keep | exact kd_add_drop | exact kd_add_no | exact kd_no_keep | exact kd_no_drop | exact kd_no_add), (by first | exact kd_keep_drop | exact kd_keep_add | exact kd_keep_no | exact kd_drop_keep | exact kd_drop_add | exact kd_drop_no | exact kd_add_keep | exact kd_add_drop | exact kd_add_no | exact kd_no_keep | exact kd_no_drop | exact kd_no_add), h2, fun _ => (by first | exact kd_keep_drop | exact kd_keep_add | exact kd_keep_no | exact kd_drop_keep | exact kd_drop_add | exact kd_drop_no | exact kd_add_keep | exact kd_add_drop | exact kd_add_no | exact kd_no_keep | exact kd_no_drop | exact kd_no_add), (by first | exact kd_keep_drop | exact kd_keep_add | exact kd_keep_no | exact kd_drop_keep | exact kd_drop_add | exact kd_drop_no | exact kd_add_keep | exact kd_add_drop | exact kd_add_no | exact kd_no_keep | exact kd_no_drop | exact kd_no_add), by show 0 < xs.length; omega, fun z => absurd z (by first | exact kd_keep_drop | exact kd_keep_add | exact kd_keep_no | exact kd_drop_keep | exact kd_drop_add | exact kd_drop_no | exact kd_add_keep | exact kd_add_drop | exact kd_add_no | exact kd_no_keep | exact kd_no_drop | exact kd_no_add), True.intro⟩
      · rw [ad, if_neg h3]
        exact ⟨k1, h1, fun z => absurd z (by first | exact kd_keep_drop | exact kd_keep_add | exact kd_keep_no | exact kd_drop_keep | exact kd_drop_add | exact kd_drop_no | exact kd_add_keep | exact kd_add_drop | exact kd_add_no | exact kd_no_keep | exact kd_no_drop | exact kd_no_add), (by first | exact kd_keep_drop | exact kd_keep_add | exact kd_keep_no | exact kd_drop_keep | exact kd_drop_add | exact kd_drop_no | exact kd_add_keep | exact kd_add_drop | exact kd_add_no | exact kd_no_keep | exact kd_no_drop | exact kd_no_add), h2, fun _ => (by first | exact kd_keep_drop | exact kd_keep_add | exact kd_keep_no | exact kd_drop_keep | exact kd_drop_add | exact kd_drop_no | exact kd_add_keep | exact kd_add_drop | exact kd_add_no | exact kd_no_keep | exact kd_no_drop | exact kd_no_add), True.intro⟩
    · rw [dr, if_neg h2]
      by_cases h3 : xs.length ≠ 0
      · rw [adP h3]
        exact ⟨k1, h1, fun z => absurd z (by first | exact kd_keep_drop | exact kd_keep_add | exact kd_keep_no | exact kd_drop_keep | exact kd_drop_add | exact kd_drop_no | exact kd_add_keep | exact kd_add_drop | exact kd_add_no | exact kd_no_keep | exact kd_no_drop | exact kd_no_add), (by first | exact kd_keep_drop | exact kd_keep_add | exact kd_keep_no | exact kd_drop_keep | exact kd_drop_add | exact kd_drop_no | exact kd_add_keep | exact kd_add_drop | exact kd_add_no | exact kd_no_keep | exact kd_no_drop | exact kd_no_add), by show 0 < xs.length; omega, fun z => absurd z (by first | exact kd_keep_drop | exact kd_keep_add | exact kd_keep_no | exact kd_drop_keep | exact kd_drop_add | exact kd_drop_no | exact kd_add_keep | exact kd_add_drop | exact kd_add_no | exact kd_no_keep | exact kd_no_drop | exact kd_no_add), True.intro⟩
      · rw [ad, if_neg h3]
        exact ⟨k1, h1, fun z => absurd z (by first | exact kd_keep_drop | exact kd_keep_add | exact kd_keep_no | exact kd_drop_keep | exact kd_drop_add | exact kd_drop_no | exact kd_add_keep | exact kd_add_drop | exact kd_add_no | exact kd_no_keep | exact kd_no_drop | exact kd_no_add), True.intro⟩
  · have b0 := hk (by omega)
    subst b0
    rw [kp, if_neg h1]
    by_cases h2 : 0 < d
    · rw [drP h2]
      by_cases h3 : xs.length ≠ 0
      · rw [adP h3]
        exact ⟨(by first | exact kd_keep_drop | exact kd_keep_add | exact kd_keep_no | exact kd_drop_keep | exact kd_drop_add | exact kd_drop_no | exact kd_add_keep | exact kd_add_drop | exact kd_add_no | exact kd_no_keep | exact kd_no_drop | exact kd_no_add), h2, fun _ => (by first | exact kd_keep_drop | exact kd_keep_add | exact kd_keep_no | exact kd_drop_keep | exact kd_drop_add | exact kd_drop_no | exact kd_add_keep | exact kd_add_drop | exact kd_add_no | exact kd_no_keep | exact kd_no_drop | exact kd_no_add), (by first | exact kd_keep_drop | exact kd_keep_add | exact kd_keep_no | exact kd_drop_keep | exact kd_drop_add | exact kd_drop_no | exact kd_add_keep | exact kd_add_drop | exact kd_add_no | exact kd_no_keep | exact kd_no_drop | exact kd_no_add), by show 0 < xs.length; omega, fun z => absurd z (by first | exact kd_keep_drop | exact kd_keep_add | exact kd_keep_no | exact kd_drop_keep | exact kd_drop_add | exact kd_drop_no | exact kd_add_keep | exact kd_add_drop | exact kd_add_no | exact kd_no_keep | exact kd_no_drop | exact kd_no_add), True.intro⟩
      · rw [ad, if_neg h3]
        exact ⟨(by first | exact kd_keep_drop | exact kd_keep_add | exact kd_keep_no | exact kd_drop_keep | exact kd_drop_add | exact kd_drop_no | exact kd_add_keep | exact kd_add_drop | exact kd_add_no | exact kd_no_keep | exact kd_no_drop | exact kd_no_add), h2, fun _ => (by first | exact kd_keep_drop | exact kd_keep_add | exact kd_keep_no | exact kd_drop_keep | exact kd_drop_add | exact kd_drop_no | exact kd_add_keep | exact kd_add_drop | exact kd_add_no | exact kd_no_keep | exact kd_no_drop | exact kd_no_add), True.intro⟩
    · rw [dr, if_neg h2]
      by_cases h3 : xs.length ≠ 0
      · rw [adP h3]
        exact ⟨(by first | exact kd_keep_drop | exact kd_keep_add | exact kd_keep_no | exact kd_drop_keep | exact kd_drop_add | exact kd_drop_no | exact kd_add_keep | exact kd_add_drop | exact kd_add_no | exact kd_no_keep | exact kd_no_drop | exact kd_no_add), by show 0 < xs.length; omega, fun z => absurd z (by first | exact kd_keep_drop | exact kd_keep_add | exact kd_keep_no | exact kd_drop_keep | exact kd_drop_add | exact kd_drop_no | exact kd_add_keep | exact kd_add_drop | exact kd_add_no | exact kd_no_keep | exact kd_no_drop | exact kd_no_add), True.intro⟩
      · rw [ad, if_neg h3]
        exact True.intro
/-- a block with a gap ends in a drop or an add -/
theorem blk_then {k d : Nat} {xs : List Int} {b : Str} {r : List Step} (g : 0 < d ∨ xs.length ≠ 0) (h : nfOk b (blk k d xs)) (h1 : nfOk "drop" r) (h2 : nfOk "add" r) : nfOk b (blk k d xs ++ r) := by
  unfold blk at h ⊢
  by_cases hk : 0 < k
  · rw [kpP hk] at h ⊢
    by_cases hd : 0 < d
    · rw [drP hd] at h ⊢
      by_cases hx : xs.length ≠ 0
      · rw [adP hx] at h ⊢
        exact ⟨h.1, h.2.1, h.2.2.1, h.2.2.2.1, h.2.2.2.2.1, h.2.2.2.2.2.1, h.2.2.2.2.2.2.1, h.2.2.2.2.2.2.2.1, h.2.2.2.2.2.2.2.2.1, h2⟩
      · rw [ad, if_neg hx] at h ⊢
        exact ⟨h.1, h.2.1, h.2.2.1, h.2.2.2.1, h.2.2.2.2.1, h.2.2.2.2.2.1, h1⟩
    · rw [dr, if_neg hd] at h ⊢
      rw [adP (g.resolve_left hd)] at h ⊢
      exact ⟨h.1, h.2.1, h.2.2.1, h.2.2.2.1, h.2.2.2.2.1, h.2.2.2.2.2.1, h2⟩
  · rw [kp, if_neg hk] at h ⊢
    by_cases hd : 0 < d
    · rw [drP hd] at h ⊢
      by_cases hx : xs.length ≠ 0
      · rw [adP hx] at h ⊢
        exact ⟨h.1, h.2.1, h.2.2.1, h.2.2.2.1, h.2.2.2.2.1, h.2.2.2.2.2.1, h2⟩
      · rw [ad, if_neg hx] at h ⊢
        exact ⟨h.1, h.2.1, h.2.2.1, h1⟩
    · rw [dr, if_neg hd] at h ⊢
      rw [adP (g.resolve_left hd)] at h ⊢
      exact ⟨h.1, h.2.1, h.2.2.1, h2⟩
theorem nfS_ok : ∀ (r : List Step) (k d : Nat) (xs : List Int) (b : Str), (∀ n, Step.keep n ∈ r → 0 < n) → (b = "" ∨ b = "drop" ∨ b = "add") → (k = 0 → b = "") → nfOk b (nfS k d xs r)
  | [], k, d, xs, b, _, hb, hk => blk_ok hb hk
  | .drop n :: r, k, d, xs, b, hp, hb, hk => nfS_ok r k (d + n) xs b (fun m h => hp m (List.mem_cons_of_mem _ h)) hb hk
  | .add ys :: r, k, d, xs, b, hp, hb, hk => nfS_ok r k d (xs ++ ys) b (fun m h => hp m (List.mem_cons_of_mem _ h)) hb hk
  | .keep n :: r, k, d, xs, b, hp, hb, hk => by
    have hp' : ∀ m, Step.keep m ∈ r → 0 < m := fun m h => hp m (List.mem_cons_of_mem _ h)
    have hn : 0 < n := hp n List.mem_cons_self
    rcases gap_or d xs with g | ⟨rfl, rfl⟩
    · rw [nfS_flush g]
      exact blk_then g (blk_ok hb hk) (nfS_ok r n 0 [] "drop" hp' (.inr (.inl rfl)) (fun z => by omega)) (nfS_ok r n 0 [] "add" hp' (.inr (.inr rfl)) (fun z => by omega))
    · rw [nfS_keep]
      exact nfS_ok r (k + n) 0 [] b hp' hb (fun z => hk (by omega))
theorem nf_ok {ss : List Step} (h : ∀ n, Step.keep n ∈ ss → 0 < n) : nfOk "" (nf ss) := nfS_ok ss 0 0 [] "" h (.inl rfl) fun _ => rfl
theorem nfS_same : ∀ (t : List Step), (∀ k, 0 < k → nfOk "keep" t → nfS k 0 [] t = .keep k :: t) ∧ (∀ k d, 0 < d → nfOk "drop" t → nfS k d [] t = kp k ++ .drop d :: t) ∧ (∀ k d xs, xs.length ≠ 0 → nfOk "add" t → nfS k d xs t = kp k ++ dr d ++ .add xs :: t)
  | [] => ⟨fun k h _ => by simp [nfS, blk, kpP h, dr0, ad0], fun k d h _ => by simp [nfS, blk, drP h, ad0], fun k d xs h _ => by simp [nfS, blk, adP h]⟩
  | .keep n :: r => by
    have ih := nfS_same r
    refine ⟨fun k h z => absurd rfl z.1, fun k d h z => ?_, fun k d xs h z => ?_⟩
    · rw [nfS_flush (.inl h), ih.1 n z.2.1 z.2.2.2]
      simp [blk, drP h, ad0]
    · rw [nfS_flush (.inr h), ih.1 n z.2.1 z.2.2.2]
      simp [blk, adP h]
  | .drop n :: r => by
    have ih := nfS_same r
    refine ⟨fun k h z => ?_, fun k d h z => absurd rfl z.1, fun k d xs h z => absurd rfl (z.2.2.1 rfl)⟩
    show nfS k (0 + n) [] r = _
    rw [Nat.zero_add, ih.2.1 k n z.2.1 z.2.2.2, kpP h]
    rfl
  | .add ys :: r => by
    have ih := nfS_same r
    have hy : ∀ z : 0 < (Step.add ys).sz, ys.length ≠ 0 := fun z => by
      have : 0 < ys.length := z
      omega
    refine ⟨fun k h z => ?_, fun k d h z => ?_, fun k d xs h z => absurd rfl z.1⟩
    · show nfS k 0 ([] ++ ys) r = _
      rw [List.nil_append, ih.2.2 k 0 ys (hy z.2.1) z.2.2.2, kpP h, dr0]
      rfl
    · show nfS k d ([] ++ ys) r = _
      rw [List.nil_append, ih.2.2 k d ys (hy z.2.1) z.2.2.2, drP h]
      simp
theorem nf_same {t : List Step} (h : nfOk "" t) : nf t = t := by
  cases t with
  | nil => rfl
  | cons s r =>
    have ih := nfS_same r
    cases s with
    | keep n =>
      show nfS 0 0 [] (.keep n :: r) = _
      rw [nfS_keep, Nat.zero_add]
      exact ih.1 n h.2.1 h.2.2.2
    | drop n =>
      show nfS 0 (0 + n) [] r = _
      rw [Nat.zero_add]
      exact ih.2.1 0 n h.2.1 h.2.2.2
    | add ys =>
      show nfS 0 0 ([] ++ ys) r = _
      rw [List.nil_append]
      exact ih.2.2 0 0 ys (by have : 0 < ys.length := h.2.1; omega) h.2.2.2
theorem run_blk (o : List Int) (k d : Nat) (xs : List Int) (r : List Step) : run o (blk k d xs ++ r) = o.take k ++ xs ++ run (o.drop (k + d)) r := by
  have e1 : ∀ (o : List Int) (r : List Step), run o (kp k ++ r) = o.take k ++ run (o.drop k) r := fun o r => by
    by_cases h : 0 < k
    · rw [kpP h]
      rfl
    · rw [kp, if_neg h, show k = 0 by omega]
      rfl
  have e2 : ∀ (o : List Int) (r : List Step), run o (dr d ++ r) = run (o.drop d) r := fun o r => by
    by_cases h : 0 < d
    · rw [drP h]
      rfl
    · rw [dr, if_neg h, show d = 0 by omega]
      rfl
  have e3 : ∀ (o : List Int) (r : List Step), run o (ad xs ++ r) = xs ++ run o r := fun o r => by
    by_cases h : xs.length ≠ 0
    · rw [adP h]
      rfl
    · rw [ad, if_neg h, List.eq_nil_of_length_eq_zero (show xs.length = 0 by omega)]
      rfl
  unfold blk
  rw [List.append_assoc, List.append_assoc, e1, e2, e3, List.drop_drop, List.append_assoc]
theorem run_nfS : ∀ (r : List Step) (o : List Int) (k d : Nat) (xs : List Int), run o (nfS k d xs r) = o.take k ++ xs ++ run (o.drop (k + d)) r
  | [], o, k, d, xs => by
    have := run_blk o k d xs []
    rw [List.append_nil] at this
    exact this
  | .drop n :: r, o, k, d, xs => by
    show run o (nfS k (d + n) xs r) = _
    rw [run_nfS r]
    show _ = o.take k ++ xs ++ ([] ++ run ((o.drop (k + d)).drop n) r)
    rw [List.drop_drop, Nat.add_assoc]
    rfl
  | .add ys :: r, o, k, d, xs => by
    show run o (nfS k d (xs ++ ys) r) = _
    rw [run_nfS r]
    show _ = o.take k ++ xs ++ (ys ++ run (o.drop (k + d)) r)
    simp only [List.append_assoc]
  | .keep n :: r, o, k, d, xs => by
    show _ = o.take k ++ xs ++ ((o.drop (k + d)).take n ++ run ((o.drop (k + d)).drop n) r)
    rcases gap_or d xs with g | ⟨rfl, rfl⟩
    · rw [nfS_flush g, run_blk, run_nfS r]
      simp
    · rw [nfS_keep, run_nfS r, Nat.add_zero, Nat.add_zero, List.drop_drop, List.take_add]
      simp
theorem run_nf (o : List Int) (ss : List Step) : run o (nf ss) = run o ss := by
  rw [nf, run_nfS]
  rfl
theorem sum_blk (f : Step → Nat) (F : List Step → Nat) (h0 : F [] = 0) (h1 : ∀ s r, F (s :: r) = f s + F r) (k d : Nat) (xs : List Int) (hk : f (.keep 0) = 0) (hd : f (.drop 0) = 0) (hx : f (.add []) = 0) (r : List Step) :
    F (blk k d xs ++ r) = f (.keep k) + f (.drop d) + f (.add xs) + F r := by
  have e1 : ∀ r, F (kp k ++ r) = f (.keep k) + F r := fun r => by
    by_cases h : 0 < k
    · rw [kpP h]
      exact h1 _ _
    · rw [kp, if_neg h, show k = 0 by omega, hk, Nat.zero_add]
      rfl
  have e2 : ∀ r, F (dr d ++ r) = f (.drop d) + F r := fun r => by
    by_cases h : 0 < d
    · rw [drP h]
      exact h1 _ _
    · rw [dr, if_neg h, show d = 0 by omega, hd, Nat.zero_add]
      rfl
  have e3 : ∀ r, F (ad xs ++ r) = f (.add xs) + F r := fun r => by
    by_cases h : xs.length ≠ 0
    · rw [adP h]
      exact h1 _ _
    · rw [ad, if_neg h, List.eq_nil_of_length_eq_zero (by omega : xs.length = 0), hx, Nat.zero_add]
      rfl
  unfold blk
  rw [List.append_assoc, List.append_assoc, e1, e2, e3]
  omega
/-- what is counted step by step stays in the normal form -/
theorem sum_nfS (f : Step → Nat) (F : List Step → Nat) (h0 : F [] = 0) (h1 : ∀ s r, F (s :: r) = f s + F r) (hk : ∀ a b, f (.keep (a + b)) = f (.keep a) + f (.keep b)) (hd : ∀ a b, f (.drop (a + b)) = f (.drop a) + f (.drop b))
    (hx : ∀ a b, f (.add (a ++ b)) = f (.add a) + f (.add b)) : ∀ (r : List Step) (k d : Nat) (xs : List Int), F (nfS k d xs r) = f (.keep k) + f (.drop d) + f (.add xs) + F r := by
  have k0 : f (.keep 0) = 0 := by have := hk 0 0; simp at this; omega
  have d0 : f (.drop 0) = 0 := by have := hd 0 0; simp at this; omega
  have x0 : f (.add []) = 0 := by have := hx [] []; simp at this; omega
  intro r
  induction r with
  | nil =>
    intro k d xs
    have := sum_blk f F h0 h1 k d xs k0 d0 x0 []
    rw [List.append_nil] at this
    exact this
  | cons s r ih =>
    intro k d xs
    rw [h1]
    cases s with
    | drop n =>
      show F (nfS k (d + n) xs r) = _
      rw [ih, hd]
      omega
    | add ys =>
      show F (nfS k d (xs ++ ys) r) = _
      rw [ih, hx]
      omega
    | keep n =>
      rcases gap_or d xs with g | ⟨rfl, rfl⟩
      · rw [nfS_flush g, sum_blk f F h0 h1 k d xs k0 d0 x0, ih, d0, x0]
        omega
      · rw [nfS_keep, ih, hk]
        omega
theorem tot_nf (ss : List Step) : tot (nf ss) = tot ss := by
  have := sum_nfS Step.sz tot rfl (fun _ _ => rfl) (fun _ _ => rfl) (fun _ _ => rfl) (fun a b => by simp [Step.sz]) ss 0 0 []
  simp [Step.sz] at this
  exact this
theorem taken_nf (ss : List Step) : taken (nf ss) = taken ss := by
  have := sum_nfS Step.tk taken rfl (fun _ _ => rfl) (fun _ _ => rfl) (fun _ _ => rfl) (fun a b => rfl) ss 0 0 []
  simp [Step.tk] at this
  exact this
theorem blk_len (k d : Nat) (xs : List Int) : (blk k d xs).length ≤ 3 := by
  unfold blk kp dr ad
  split <;> split <;> split <;> simp
theorem nfS_len : ∀ (r : List Step) (k d : Nat) (xs : List Int), (nfS k d xs r).length ≤ 3 * (r.length + 1)
  | [], k, d, xs => blk_len k d xs
  | .drop n :: r, k, d, xs => by
    have := nfS_len r k (d + n) xs
    show (nfS k (d + n) xs r).length ≤ 3 * (r.length + 1 + 1)
    omega
  | .add ys :: r, k, d, xs => by
    have := nfS_len r k d (xs ++ ys)
    show (nfS k d (xs ++ ys) r).length ≤ 3 * (r.length + 1 + 1)
    omega
  | .keep n :: r, k, d, xs => by
    show (nfS k d xs (.keep n :: r)).length ≤ 3 * (r.length + 1 + 1)
    rcases gap_or d xs with g | ⟨rfl, rfl⟩
    · rw [nfS_flush g, List.length_append]
      have h1 := blk_len k d xs
      have h2 := nfS_len r n 0 []
      omega
    · rw [nfS_keep]
      have h2 := nfS_len r (k + n) 0 []
      omega

def spSteps (K : PySem.W.Frag) : Sp := fun vs H Q _ => ∃ (k d : Nat) (a : Addr) (xs : List Int), vs = [.int (k : Int), .int (d : Int), .ref a] ∧ SqL K H a (xs.map V.int) ∧ ∀ p H' ws, H p = none → Same H H' → H' p = some (.lst ws) → ScrV K H' ws (blk k d xs) → Q (.ref p) H'
theorem ok__steps (T : Txt K mg C_InvalidScript c_taken_items P_taken_items) : Ok P w K mg base CX0 1 "_steps" ["kept", "dropped", "added"] (spSteps K) := by
  refine ok_of T.d__steps fun f fd F => F.ok sc__steps (fun vs H Q E h => ?_) (fun cdv A outer s H vs Q E hr h => ?_)
  · obtain ⟨k, d, a, xs, rfl, _⟩ := h
    rfl
  · obtain ⟨k, d, a, xs, rfl, hA, kQ⟩ := h
    have nd := sc__steps.nd
    refine ⟨_,       (pss_cons (ps_set (i := 3) nd rfl (Or.inl rfl) (pe_lst pa_nil))
      (Evl.pss_cut (ps_if (pt_cmpR op_gt (pv 0) pe_int (nomark _))
        (pss_one (ps_expr (pe_bm PySem.F.plainAttrs_list PySem.F.slot_list_append PySem.F.type_list_append mt_append (pv 3) (pa_cons (pe_tup (pa_cons pe_str (pa_cons (pv 0) pa_nil))) pa_nil)))) pss_nil)
      (Evl.pss_cut (ps_if (pt_cmpR op_gt (pv 1) pe_int (nomark _))
        (pss_one (ps_expr (pe_bm PySem.F.plainAttrs_list PySem.F.slot_list_append PySem.F.type_list_append mt_append (pv 3) (pa_cons (pe_tup (pa_cons pe_str (pa_cons (pv 1) pa_nil))) pa_nil)))) pss_nil)
      (Evl.pss_cut (ps_if (pt_truth (pv 2) (by intro _; rfl))
        (pss_one (ps_expr (pe_bm PySem.F.plainAttrs_list PySem.F.slot_list_append PySem.F.type_list_append mt_append (pv 3) (pa_cons (pe_tup (pa_cons pe_str (pa_cons (pe_callTy call_tuple_of (by rfl) T.n_tuple (by decide +kernel) (pa_cons (pv 2) pa_nil)) pa_nil))) pa_nil)))) pss_nil)
      (pss_one (ps_ret (pv 3))))))), ?_⟩
    refine ⟨by decide, fun l hl => ?_⟩
    have hl0 := same_upd (o := .lst []) hl
    refine ⟨fun σ' H' => Same H H' ∧ ∃ ws, H' l = some (.lst ws) ∧ ScrV K H' ws (kp k) ∧ ws.length ≤ 1 ∧ σ' = [some (.int (k : Int)), some (.int (d : Int)), some (.ref a), some (.ref l)], ?_, ?_⟩
    · refine ⟨_, rfl, _, _, rfl, rfl, _, rfl, itd (fun h => ?_) (fun h => ?_)⟩
      · refine ⟨_, rfl, .inl ⟨rfl, _, SqL.of upd_same⟩, _, rfl, (by show 2 ≤ sizeLine; decide), fun u hu => ?_⟩
        have e1 := same_upd (o := .tup [V.str "keep", V.int (k : Int)]) hu
        have hL := e1 _ _ (upd_same (H := H) (a := l) (o := .lst []))
        refine ⟨l, _, _, rfl, rfl, hL, small (by simp), same_new (hl0.trans e1) hl, [.ref u], upd_same, ?_, Nat.le_refl _, rfl⟩
        rw [kpP (by omega)]
        have hS : StepAt K (upd (upd H l (.lst [])) u (.tup [V.str "keep", V.int (k : Int)])) (.ref u) (.keep k) := ⟨u, rfl, SqT.of upd_same⟩
        exact (ScrV.keeps (sqT_lst hL) (.cons hS .nil))
      · refine ⟨hl0, [], upd_same, ?_, Nat.zero_le _, rfl⟩
        rw [kp, if_neg (by omega)]
        exact .nil
    rintro σ1 H1 ⟨e1, ws, hL, hV, hw, rfl⟩
    refine ⟨fun σ' H' => Same H H' ∧ ∃ ws, H' l = some (.lst ws) ∧ ScrV K H' ws (kp k ++ dr d) ∧ ws.length ≤ 2 ∧ σ' = [some (.int (k : Int)), some (.int (d : Int)), some (.ref a), some (.ref l)], ?_, ?_⟩
    · refine ⟨_, rfl, _, _, rfl, rfl, _, rfl, itd (fun h => ?_) (fun h => ?_)⟩
      · refine ⟨_, rfl, .inl ⟨rfl, _, SqL.of hL⟩, _, rfl, (by show 2 ≤ sizeLine; decide), fun u hu => ?_⟩
        have e2 := same_upd (o := .tup [V.str "drop", V.int (d : Int)]) hu
        have hL2 := e2 _ _ hL
        refine ⟨l, _, _, rfl, rfl, hL2, small (by omega), same_new (e1.trans e2) hl, ws ++ [.ref u], upd_same, ?_, by rw [List.length_append]; show ws.length + 1 ≤ 2; omega, rfl⟩
        rw [drP (by omega)]
        have hS : StepAt K (upd H1 u (.tup [V.str "drop", V.int (d : Int)])) (.ref u) (.drop d) := ⟨u, rfl, SqT.of upd_same⟩
        exact (ScrV.app (hV.keeps (sqT_same e2)) (.cons hS .nil)).keeps (sqT_lst hL2)
      · refine ⟨e1, ws, hL, ?_, by omega, rfl⟩
        rw [dr, if_neg (by omega), List.append_nil]
        exact hV
    clear hL hV hw
    rintro σ2 H2 ⟨e2, ws, hL, hV, hw, rfl⟩
    have hA2 := e2.seq hA
    refine ⟨fun σ' H' => Same H H' ∧ ∃ ws, H' l = some (.lst ws) ∧ ScrV K H' ws (blk k d xs) ∧ σ' = [some (.int (k : Int)), some (.int (d : Int)), some (.ref a), some (.ref l)], ?_, ?_⟩
    · refine ⟨_, rfl, _, tru_l hA2, itb (fun h => ?_) (fun h => ?_)⟩
      · have hx : xs.length ≠ 0 := by simpa using h
        refine ⟨_, rfl, .inl ⟨rfl, _, SqL.of hL⟩, _, rfl, a, _, rfl, .inl ⟨hA2, fun t ht => ⟨(by show 2 ≤ sizeLine; decide), fun u hu => ?_⟩⟩⟩
        have e3 := same_upd (o := .tup (xs.map V.int)) ht
        have e4 := same_upd (o := .tup [V.str "add", V.ref t]) hu
        have hL2 := e4 _ _ (e3 _ _ hL)
        refine ⟨l, _, _, rfl, rfl, hL2, small (by omega), same_new ((e2.trans e3).trans e4) hl, ws ++ [.ref u], upd_same, ?_, rfl⟩
        rw [blk, adP hx]
        have hS : StepAt K (upd (upd H2 t (.tup (xs.map V.int))) u (.tup [V.str "add", V.ref t])) (.ref u) (.add xs) := ⟨u, t, rfl, SqT.of upd_same, SqT.of (e4 _ _ upd_same)⟩
        exact (ScrV.app (hV.keeps (sqT_same (e3.trans e4))) (.cons hS .nil)).keeps (sqT_lst hL2)
      · have hx : ¬ xs.length ≠ 0 := by simpa using h
        refine ⟨e2, ws, hL, ?_, rfl⟩
        rw [blk, ad, if_neg hx, List.append_nil]
        exact hV
    · rintro σ3 H3 ⟨e3, ws, hL, hV, rfl⟩
      exact ⟨_, rfl, kQ l H3 ws hl e3 hL hV⟩

theorem fresh {H H' : Hp} {p : Addr} (e : Same H H') (h : H' p = none) : H p = none := by
  cases q : H p with
  | none => rfl
  | some o =>
    have := e _ _ q
    rw [h] at this
    cases this
theorem ne_of {H : Hp} {p q : Addr} {o : HO} (h1 : H p = some o) (h2 : H q = none) : q ≠ p := fun z => by
  rw [z, h1] at h2
  cases h2
theorem tot_get {ss : List Step} {i : Nat} (h : i < ss.length) : tot (ss.take (i + 1)) = tot (ss.take i) + ss[i].sz := by rw [take_snoc h, tot_snoc]
def spNorm (K : PySem.W.Frag) : Sp := fun vs H Q _ => ∃ (c : Addr) (ss : List Step), vs = [.ref c] ∧ ScrAt K H c ss ∧ ss.length ≤ 400 ∧ tot ss ≤ 40000 ∧ ∀ p H' ws, H p = none → Same H H' → H' p = some (.lst ws) → ScrV K H' ws (nf ss) → Q (.ref p) H'
theorem ok_normalized (T : Txt K mg C_InvalidScript c_taken_items P_taken_items) : Ok P w K mg base CX0 2 "normalized" ["script"] (spNorm K) := by
  have G__steps := ok__steps (P := P) (w := w) (base := base) T
  refine ok_of T.d_normalized fun f fd F => F.ok sc_normalized (fun vs H Q E h => ?_) (fun cdv A outer s H vs Q E hr h => ?_)
  · obtain ⟨c, ss, rfl, _⟩ := h
    rfl
  · obtain ⟨c, ss, rfl, ⟨vs, hcL, hcV⟩, hl, htot, kQ⟩ := h
    have nd := sc_normalized.nd
    refine ⟨_,       (pss_cons (ps_set (i := 1) nd rfl (Or.inl rfl) (pe_lst pa_nil))
      (pss_cons (ps_set (i := 2) nd rfl (Or.inl rfl) pe_int)
      (pss_cons (ps_set (i := 3) nd rfl (Or.inl rfl) pe_int)
      (pss_cons (ps_set (i := 4) nd rfl (Or.inl rfl) (pe_lst pa_nil))
      (pss_cons (ps_for PassesOwn.never rfl (pi_list (pv 0)) (pg_tup rfl (pgs_cons (pg_name (i := 5) nd rfl (Or.inl rfl)) (pgs_cons (pg_name (i := 6) nd rfl (Or.inl rfl)) pgs_nil)))
        (pss_one (ps_if (pt_cmpR op_eq (pv 5) pe_str (nomark _))
          (pss_one (ps_aug (i := 3) nd rfl (Or.inl rfl) (pv 6) ip_add))
          (pss_one (ps_if (pt_cmpR op_eq (pv 5) pe_str (nomark _))
            (pss_one (ps_expr (pe_bm PySem.F.plainAttrs_list PySem.F.slot_list_extend PySem.F.type_list_extend ET.mt_extendT (pv 4) (pa_cons (pv 6) pa_nil))))
            (pss_cons (ps_if (PW.pt (pw_or (pt_cmpR op_gt (pv 3) pe_int (nomark _)) (pw_or1 (pt_truth (pv 4) (by intro _; rfl)))))
              (pss_cons (ps_expr (pe_bm PySem.F.plainAttrs_list PySem.F.slot_list_extend PySem.F.type_list_extend mt_extend (pv 1) (pa_cons (pe_callO G__steps (hr.mono (by decide)) pass0 (pa_cons (pv 2) (pa_cons (pv 3) (pa_cons (pv 4) pa_nil)))) pa_nil)))
              (pss_cons (ps_set (i := 2) nd rfl (Or.inl rfl) pe_int)
              (pss_cons (ps_set (i := 3) nd rfl (Or.inl rfl) pe_int)
              (pss_one (ps_set (i := 4) nd rfl (Or.inl rfl) (pe_lst pa_nil)))))) pss_nil)
            (pss_one (ps_aug (i := 2) nd rfl (Or.inl rfl) (pv 6) ip_add))))))))
      (pss_one (ps_ret (pe_op op_cat (pv 1) (pe_callO G__steps (hr.mono (by decide)) pass0 (pa_cons (pv 2) (pa_cons (pv 3) (pa_cons (pv 4) pa_nil)))))))))))), ?_⟩
    refine ⟨by decide, fun l hl0 => ⟨by decide, fun al hal => ?_⟩⟩
    have f1 := same_upd (o := .lst []) hl0
    have f2 := same_upd (o := .lst []) hal
    have hal1 : al ≠ l := ne_of (upd_same (H := H) (a := l) (o := .lst [])) hal
    refine ⟨_, rfl, c, rfl, ⟨_, (f1.trans f2).seq hcL⟩, for_list (K := K) (a := c) (xs := vs) (fun i σ H' => ∃ (ws : List V) (em : List Step) (k d : Nat) (xs : List Int) (al : Addr) (v5 v6 : Option V), Same H H' ∧ H' l = some (.lst ws) ∧ ScrV K H' ws em ∧ H' al = some (.lst (xs.map V.int)) ∧ H al = none ∧ al ≠ l ∧
      em ++ nfS k d xs (ss.drop i) = nf ss ∧ em.length ≤ 3 * i ∧ xs.length ≤ tot (ss.take i) ∧ σ = [some (.ref c), some (.ref l), some (.int (k : Int)), some (.int (d : Int)), some (.ref al), v5, v6]) ⟨[], [], 0, 0, [], al, none, none, f1.trans f2, f2 _ _ upd_same, .nil, upd_same, fresh f1 hal, hal1, rfl, Nat.zero_le _, Nat.zero_le _, rfl⟩ (fun i σ H' _ ⟨_, _, _, _, _, _, _, _, e, _⟩ => e.seq hcL) ?_ ?_⟩
    · rintro i x σ H2 hx ⟨ws, em, k, d, xs, al, v5, v6, e2, hL, hV, hA, hn, hne, hem, hml, hxl, rfl⟩
      obtain ⟨st, hs, hS⟩ := scr_get hcV hx
      obtain ⟨hlt, hst⟩ := List.getElem?_eq_some_iff.mp hs
      have hS2 := hS.keeps (sqT_same e2)
      have hdr := List.drop_eq_getElem_cons hlt
      rw [hst] at hdr
      have htt := tot_get hlt
      rw [hst] at htt
      have htt2 := tot_take_le ss (i + 1)
      cases st with
      | drop n =>
        obtain ⟨t, rfl, hT⟩ := hS2
        refine ⟨t, _, rfl, hT, rfl, _, _, rfl, _, _, rfl, rfl, _, rfl, rfl, _, rfl, itd (fun _ => ?_) (fun h => absurd rfl h)⟩
        refine ⟨_, rfl, _, rfl, _, _, rfl, rfl, ws, em, k, d + n, xs, al, some (.str "drop"), some (.int (n : Int)), e2, hL, hV, hA, hn, hne, ?_, by omega, by omega, ?_⟩
        · rw [hdr] at hem
          exact hem
        · rw [show ((d + n : Nat) : Int) = (d : Int) + (n : Int) by omega]
          rfl
      | add ys =>
        obtain ⟨t, u, rfl, hT, hU⟩ := hS2
        refine ⟨t, _, rfl, hT, rfl, _, _, rfl, _, _, rfl, rfl, _, rfl, rfl, _, rfl, itd (fun h => absurd h (by decide)) (fun _ => ?_)⟩
        refine ⟨_, rfl, rfl, _, rfl, itd (fun _ => ?_) (fun h => absurd rfl h)⟩
        simp only [Step.sz] at htt
        refine ⟨_, rfl, .inl ⟨rfl, _, SqL.of hA⟩, _, rfl, al, u, _, _, rfl, rfl, hA, hU, smallE ?_, ws, em, k, d, xs ++ ys, al, some (.str "add"), some (.ref u), same_new e2 hn, ?_, hV.keeps (sqT_lst hA), ?_, hn, hne, ?_, by omega, ?_, rfl⟩
        · rw [List.length_map, List.length_map]
          omega
        · rw [upd_ne (Ne.symm hne)]
          exact hL
        · rw [upd_same, ← List.map_append]
        · rw [hdr] at hem
          exact hem
        · rw [List.length_append]
          omega
      | keep n =>
        obtain ⟨t, rfl, hT⟩ := hS2
        refine ⟨t, _, rfl, hT, rfl, _, _, rfl, _, _, rfl, rfl, _, rfl, rfl, _, rfl, itd (fun h => absurd h (by decide)) (fun _ => ?_)⟩
        refine ⟨_, rfl, rfl, _, rfl, itd (fun h => absurd h (by decide)) (fun _ => ?_)⟩
        refine ⟨_, rfl, _, _, rfl, rfl, _, rfl, itd (fun h => iteT ?b1) (fun h => ⟨_, rfl, _, tru_l (SqL.of hA), itb (fun h2 => ?b2) (fun h2 => ?b3)⟩)⟩
        case b1 | b2 =>
          have g : 0 < d ∨ xs.length ≠ 0 := by
            first
            | exact .inl (by omega)
            | exact .inr (by simpa using h2)
          refine ⟨_, rfl, .inl ⟨rfl, _, SqL.of hL⟩, _, rfl, _, rfl, _, rfl, k, d, al, xs, rfl, SqL.of hA, fun p H3 ws' hp e3 hp2 hV' => ?_⟩
          have hpl : p ≠ l := ne_of hL hp
          have hL3 := e3 _ _ hL
          have hbl : (blk k d xs).length ≤ 3 := blk_len k d xs
          refine ⟨l, p, _, _, rfl, rfl, hL3, hp2, smallE ?_, ?_⟩
          · rw [hV.length, hV'.length]
            omega
          refine ⟨by decide, fun al2 hal2 => ?_⟩
          have f4 := same_upd (o := .lst []) hal2
          have hal2l : al2 ≠ l := ne_of (upd_same (H := H3) (a := l) (o := .lst (ws ++ ws'))) hal2
          have eH := same_new (o := .lst (ws ++ ws')) (e2.trans e3) hl0
          refine ⟨_, rfl, _, rfl, _, _, rfl, rfl, ws ++ ws', em ++ blk k d xs, n, 0, [], al2, some (.str "keep"), some (.int (n : Int)), eH.trans f4, f4 _ _ upd_same, ?_, upd_same, fresh eH hal2, hal2l, ?_, ?_, Nat.zero_le _, ?_⟩
          · exact ((ScrV.app (hV.keeps (sqT_same e3)) hV').keeps (sqT_lst hL3)).keeps (sqT_same f4)
          · rw [hdr, nfS_flush g] at hem
            rw [List.append_assoc]
            exact hem
          · rw [List.length_append]
            omega
          · show [_, _, some (V.int ((0 : Int) + (n : Int))), _, _, _, _] = _
            rw [Int.zero_add]
            rfl
        have hd0 : d = 0 := by omega
        have hx0 : xs = [] := by simpa using h2
        subst hd0 hx0
        refine ⟨_, rfl, _, rfl, _, _, rfl, rfl, ws, em, k + n, 0, [], al, some (.str "keep"), some (.int (n : Int)), e2, hL, hV, hA, hn, hne, ?_, by omega, Nat.zero_le _, ?_⟩
        · rw [hdr, nfS_keep] at hem
          exact hem
        · rw [show ((k + n : Nat) : Int) = (k : Int) + (n : Int) by omega]
          rfl
    · rintro σ H2 ⟨ws, em, k, d, xs, al, v5, v6, e2, hL, hV, hA, hn, hne, hem, hml, hxl, rfl⟩
      rw [hcV.length, List.drop_length] at hem
      rw [hcV.length] at hml
      refine ⟨_, rfl, _, rfl, _, rfl, _, rfl, k, d, al, xs, rfl, SqL.of hA, fun p H3 ws' hp e3 hp2 hV' => ?_⟩
      have hbl : (blk k d xs).length ≤ 3 := blk_len k d xs
      refine ⟨l, p, _, _, rfl, rfl, e3 _ _ hL, hp2, smallE ?_, fun r hr2 => ?_⟩
      · rw [hV.length, hV'.length]
        omega
      have f4 := same_upd (o := .lst (ws ++ ws')) hr2
      refine kQ r _ (ws ++ ws') (fresh (e2.trans e3) hr2) ((e2.trans e3).trans f4) upd_same ?_
      rw [← hem]
      exact (ScrV.app (hV.keeps (sqT_same e3)) hV').keeps (sqT_same f4)

-- @@CUT
def Fr (p : Addr) (H H' : Hp) : Prop := ∀ b o, H b = some o → b ≠ p → H' b = some o
theorem Fr.refl (p : Addr) (H : Hp) : Fr p H H := fun _ _ e _ => e
theorem Fr.trans {p : Addr} {H H1 H2 : Hp} (a : Fr p H H1) (b : Fr p H1 H2) : Fr p H H2 := fun c o e n => b c o (a c o e n) n
theorem Fr.of {p : Addr} {H H' : Hp} (e : Same H H') : Fr p H H' := fun b o q _ => e b o q
theorem Fr.put {p : Addr} {H H' : Hp} {o : HO} (a : Fr p H H') : Fr p H (upd H' p o) := fun c u e n => by
  rw [upd_ne n]
  exact a c u e n
theorem Fr.same {p : Addr} {H0 H H' : Hp} (a : Fr p H H') (e : Same H0 H) (n : H0 p = none) : Same H0 H' := fun b o q => a b o (e b o q) fun z => by
  rw [z, n] at q
  cases q
theorem Fr.sqT {K : PySem.W.Frag} {p : Addr} {H H' : Hp} {ws : List V} (a : Fr p H H') (hp : H p = some (.lst ws)) (t : Addr) (ys : List V) (h : SqT K H t ys) : SqT K H' t ys := by
  rcases h with (h | ⟨o, h⟩) | h
  · exact .inl (.inl (a _ _ h (fun z => by rw [z, hp] at h; cases h)))
  · exact .inl (.inr ⟨o, a _ _ h (fun z => by rw [z, hp] at h; cases h)⟩)
  · exact .inr h
def GapAt (K : PySem.W.Frag) (H : Hp) (v : V) (d : Nat) (xs : List Int) : Prop := ∃ t u, v = .ref t ∧ SqT K H t [.int (d : Int), .ref u] ∧ SqT K H u (xs.map V.int)
theorem GapAt.keeps {K : PySem.W.Frag} {H H' : Hp} (e : ∀ t ys, SqT K H t ys → SqT K H' t ys) {v : V} {d : Nat} {xs : List Int} : GapAt K H v d xs → GapAt K H' v d xs
  | ⟨t, u, h1, h2, h3⟩ => ⟨t, u, h1, e _ _ h2, e _ _ h3⟩
def gapD (d : Nat) (xs : List Int) : PyData := .tuple [.int (d : Int), .tuple (xs.map PyData.int)]
theorem dp_gap {K : PySem.W.Frag} {H : Hp} {v : V} {d : Nat} {xs : List Int} : GapAt K H v d xs → Dp K H v (gapD d xs)
  | ⟨t, u, h1, h2, h3⟩ => h1 ▸ .tup h2 (.cons (.int _) (.cons (.tup h3 (dp_ints xs)) .nil))
theorem shaped_gap (d : Nat) (xs : List Int) : SeqAt.shaped (gapD d xs) = true := by
  refine Bool.and_eq_true_iff.mpr ⟨?_, decide_eq_true ?_⟩
  · show (true && (PyData.canLayAll0 (xs.map PyData.int) && true)) = true
    rw [Cm.canLayAll_ints]
    rfl
  · show max 0 (max (PyData.depthAll (xs.map PyData.int) + 1) 0) + 1 ≤ 64
    rw [Cm.depthAll_ints]
    omega
theorem eqv_gap0 (d : Nat) (xs : List Int) : PyData.eqv (gapD d xs) (gapD 0 []) = decide (d = 0 ∧ xs = []) := by
  cases xs with
  | nil =>
    simp [gapD, PyData.eqv, PyData.eqvAll]
    rw [Bool.eq_iff_iff]
    simp
  | cons x xs => simp [gapD, PyData.eqv, PyData.eqvAll]
theorem catA {K : PySem.W.Frag} {a b : Addr} {xs ys : List V} {H : Hp} {Q : VK} (hx : SqT K H a xs) (hy : SqT K H b ys) (hs : xs.length + ys.length ≤ sizeLine) (k : ∀ p H', Same H H' → SqT K H' p (xs ++ ys) → Q (.ref p) H') : rCatA K (.ref a) (.ref b) H Q :=
  ⟨a, b, xs, ys, rfl, rfl, hx, hy, hs, fun h => k b H (Same.refl H) (by rw [h]; exact hy), fun _ h => k a H (Same.refl H) (by rw [h, List.append_nil]; exact hx), fun _ _ p hp => k p _ (same_upd hp) (SqT.of upd_same)⟩
def spClose (K : PySem.W.Frag) : Sp := fun vs H Q _ => ∃ (p : Addr) (v : V) (ws : List V) (d : Nat) (xs : List Int), vs = [.ref p, v] ∧ H p = some (.lst ws) ∧ ws.length ≤ 10000 ∧ GapAt K H v d xs ∧
  ∀ H' ws', Fr p H H' → H' p = some (.lst (ws ++ ws')) → ScrV K H' ws' (dr d ++ ad xs) → Q .non H'
theorem ok__law_close (T : Txt K mg C_InvalidScript c_taken_items P_taken_items) : Ok P w K mg base CX0 1 "_law_close" ["steps", "gap"] (spClose K) := by
  refine ok_of T.d__law_close fun f fd F => F.ok sc__law_close (fun vs H Q E h => ?_) (fun cdv A outer s H vs Q E hr h => ?_)
  · obtain ⟨p, v, ws, d, xs, rfl, _⟩ := h
    rfl
  · obtain ⟨p, v, ws, d, xs, rfl, hp, hw, hG, kQ⟩ := h
    have nd := sc__law_close.nd
    refine ⟨_,       (Evl.pss_cut (ps_if (pt_cmpR op_gt (pe_ix ix_tup (pv 1) pe_int (fun _ _ => rfl)) pe_int (nomark _))
        (pss_one (ps_expr (pe_bm PySem.F.plainAttrs_list PySem.F.slot_list_append PySem.F.type_list_append mt_append (pv 0) (pa_cons (pe_tup (pa_cons pe_str (pa_cons (pe_ix ix_tup (pv 1) pe_int (fun _ _ => rfl)) pa_nil))) pa_nil)))) pss_nil)
      (pss_one (ps_if (pt_cmpR op_gt (pe_callB call_len_seq (by rfl) T.n_len PySem.boot_len (pa_cons (pe_ix ix_tup (pv 1) pe_int (fun _ _ => rfl)) pa_nil)) pe_int (nomark _))
        (pss_one (ps_expr (pe_bm PySem.F.plainAttrs_list PySem.F.slot_list_append PySem.F.type_list_append mt_append (pv 0) (pa_cons (pe_tup (pa_cons pe_str (pa_cons (pe_ix ix_tup (pv 1) pe_int (fun _ _ => rfl)) pa_nil))) pa_nil)))) pss_nil))), ?_⟩
    obtain ⟨t, u, rfl, hT, hU⟩ := id hG
    refine ⟨fun σ' H' => Fr p H H' ∧ ∃ ws', H' p = some (.lst (ws ++ ws')) ∧ ScrV K H' ws' (dr d) ∧ ws'.length ≤ 1 ∧ σ' = [some (.ref p), some (.ref t)], ?_, ?_⟩
    · refine ⟨_, rfl, t, _, _, .int (d : Int), rfl, rfl, hT, rfl, _, _, rfl, rfl, _, rfl, itd (fun h => ?_) (fun h => ?_)⟩
      · refine ⟨_, rfl, .inl ⟨rfl, _, SqL.of hp⟩, _, rfl, t, _, _, .int (d : Int), rfl, rfl, hT, rfl, (by show 2 ≤ sizeLine; decide), fun a ha => ?_⟩
        have e1 := same_upd (o := .tup [V.str "drop", V.int (d : Int)]) ha
        have hL := e1 _ _ hp
        refine ⟨p, _, _, rfl, rfl, hL, small (by omega), (Fr.of e1).put, [.ref a], upd_same, ?_, Nat.le_refl _, rfl⟩
        rw [drP (by omega)]
        have hS : StepAt K (upd H a (.tup [V.str "drop", V.int (d : Int)])) (.ref a) (.drop d) := ⟨a, rfl, SqT.of upd_same⟩
        exact ScrV.keeps (sqT_lst hL) (.cons hS .nil)
      · refine ⟨Fr.refl p H, [], by rw [List.append_nil]; exact hp, ?_, Nat.zero_le _, rfl⟩
        rw [dr, if_neg (by omega)]
        exact .nil
    rintro σ1 H1 ⟨e1, ws', hp1, hV1, hw1, rfl⟩
    have hT1 := e1.sqT hp _ _ hT
    have hU1 := e1.sqT hp _ _ hU
    refine ⟨_, rfl, t, _, _, .ref u, rfl, rfl, hT1, rfl, u, _, rfl, .inr hU1, _, _, rfl, rfl, _, rfl, itd (fun h => ?_) (fun h => ?_)⟩
    · rw [List.length_map] at h
      refine ⟨_, rfl, .inl ⟨rfl, _, SqL.of hp1⟩, _, rfl, t, _, _, .ref u, rfl, rfl, hT1, rfl, (by show 2 ≤ sizeLine; decide), fun a ha => ?_⟩
      have e2 := same_upd (o := .tup [V.str "add", V.ref u]) ha
      have hL := e2 _ _ hp1
      refine ⟨p, _, _, rfl, rfl, hL, small (by rw [List.length_append]; omega), ?_⟩
      refine kQ _ (ws' ++ [.ref a]) (e1.trans ((Fr.of e2).put)) (by rw [upd_same, List.append_assoc]) ?_
      rw [adP (by omega)]
      have hS : StepAt K (upd H1 a (.tup [V.str "add", V.ref u])) (.ref a) (.add xs) := ⟨a, u, rfl, SqT.of upd_same, sqT_same e2 _ _ hU1⟩
      exact (ScrV.app (hV1.keeps (sqT_same e2)) (.cons hS .nil)).keeps (sqT_lst hL)
    · rw [List.length_map] at h
      refine kQ _ ws' e1 hp1 ?_
      rw [ad, if_neg (by omega), List.append_nil]
      exact hV1
theorem ix_last {ws : List V} {n m : Nat} (h : ws.length = n + m) (hm : m = 1 := by rfl) : ixN ws.length (-1) = some n := by
  unfold ixN
  rw [if_neg (by decide), if_pos (by omega)]
  exact congrArg some (by omega)
theorem at_last {ws : List V} {n m : Nat} (h : ws.length = n + m) (hm : m = 1 := by rfl) (hn : n < ws.length := by omega) : atI ws (-1) = some ws[n] := by
  unfold atI
  rw [ix_last h hm]
  exact List.getElem?_eq_getElem hn
def PosK (ss : List Step) : Prop := ∀ n, Step.keep n ∈ ss → 0 < n
def spLNorm (K : PySem.W.Frag) : Sp := fun vs H Q _ => ∃ (c : Addr) (ss : List Step), vs = [.ref c] ∧ ScrAt K H c ss ∧ PosK ss ∧ ss.length ≤ 400 ∧ tot ss ≤ 40000 ∧ ∀ p H' ws, H p = none → Same H H' → H' p = some (.lst ws) → ScrV K H' ws (nf ss) → Q (.ref p) H'
theorem ok__law_normal (T : Txt K mg C_InvalidScript c_taken_items P_taken_items) : Ok P w K mg base CX0 2 "_law_normal" ["script"] (spLNorm K) := by
  have G__law_close := ok__law_close (P := P) (w := w) (base := base) T
  refine ok_of T.d__law_normal fun f fd F => F.ok sc__law_normal (fun vs H Q E h => ?_) (fun cdv A outer s H vs Q E hr h => ?_)
  · obtain ⟨c, ss, rfl, _⟩ := h
    rfl
  · obtain ⟨c, ss, rfl, ⟨vs, hcL, hcV⟩, hpos, hl, htot, kQ⟩ := h
    have nd := sc__law_normal.nd
    have hu64 : (A.deeper (envOfC "_law_normal" (defScope s__law_normal) s.heap.objs.size f cdv)).units + 64 < cLine := by
      have := hr.un
      omega
    refine ⟨_,       (pss_cons (ps_set (i := 1) nd rfl (Or.inl rfl) (pe_lst pa_nil))
      (pss_cons (ps_set (i := 2) nd rfl (Or.inl rfl) (pe_tup (pa_cons pe_int (pa_cons (pe_tup pa_nil) pa_nil))))
      (pss_cons (ps_for PassesOwn.never rfl (pi_list (pv 0)) (pg_tup rfl (pgs_cons (pg_name (i := 3) nd rfl (Or.inl rfl)) (pgs_cons (pg_name (i := 4) nd rfl (Or.inl rfl)) pgs_nil)))
        (pss_one (ps_if (pt_cmpR op_eq (pv 3) pe_str (nomark _))
          (pss_one (ps_set (i := 2) nd rfl (Or.inl rfl) (pe_tup (pa_cons (pe_op op_add (pe_ix ix_tup (pv 2) pe_int (fun _ _ => rfl)) (pv 4)) (pa_cons (pe_ix ix_tup (pv 2) pe_int (fun _ _ => rfl)) pa_nil)))))
          (pss_one (ps_if (pt_cmpR op_eq (pv 3) pe_str (nomark _))
            (pss_one (ps_set (i := 2) nd rfl (Or.inl rfl) (pe_tup (pa_cons (pe_ix ix_tup (pv 2) pe_int (fun _ _ => rfl)) (pa_cons (pe_op op_catA (pe_ix ix_tup (pv 2) pe_int (fun _ _ => rfl)) (pe_callTy call_tupleT (by rfl) T.n_tuple (by decide +kernel) (pa_cons (pv 4) pa_nil))) pa_nil)))))
            (pss_cons (ps_expr (pe_callO G__law_close (hr.mono (by decide)) pass0 (pa_cons (pv 1) (pa_cons (pv 2) pa_nil))))
            (pss_cons (ps_if (PW.pt (pw_and (pt_cmpR (op_eqD hu64) (pv 2) (pe_tup (pa_cons pe_int (pa_cons (pe_tup pa_nil) pa_nil))) (nomark _)) (pw_and1 (pt_cmpR op_gt (pe_callB call_len_seq (by rfl) T.n_len PySem.boot_len (pa_cons (pv 1) pa_nil)) pe_int (nomark _)))))
              (pss_one (ps_asg (pe_tup (pa_cons pe_str (pa_cons (pe_op op_add (pe_ix ix_tup (pe_ix ix_list (pv 1) (pe_un un_neg pe_int) (fun _ _ => rfl)) pe_int (fun _ _ => rfl)) (pv 4)) pa_nil))) (pg_sub (pv 1) (pe_un un_neg pe_int) set_list)))
              (pss_one (ps_expr (pe_bm PySem.F.plainAttrs_list PySem.F.slot_list_append PySem.F.type_list_append mt_append (pv 1) (pa_cons (pe_tup (pa_cons pe_str (pa_cons (pv 4) pa_nil))) pa_nil)))))
            (pss_one (ps_set (i := 2) nd rfl (Or.inl rfl) (pe_tup (pa_cons pe_int (pa_cons (pe_tup pa_nil) pa_nil))))))))))))
      (pss_cons (ps_expr (pe_callO G__law_close (hr.mono (by decide)) pass0 (pa_cons (pv 1) (pa_cons (pv 2) pa_nil))))
      (pss_one (ps_ret (pv 1))))))), ?_⟩
    refine ⟨by decide, fun l hl0 => ⟨(by show 0 ≤ sizeLine; decide), fun u hu => ⟨(by show 2 ≤ sizeLine; decide), fun g hg => ?_⟩⟩⟩
    have f1 := same_upd (o := .lst []) hl0
    have f2 := same_upd (o := .tup []) hu
    have f3 := same_upd (o := .tup [V.int 0, V.ref u]) hg
    have f13 := (f1.trans f2).trans f3
    refine ⟨_, rfl, c, rfl, ⟨_, f13.seq hcL⟩, for_list (K := K) (a := c) (xs := vs) (fun i σ H' => ∃ (ws : List V) (em : List Step) (k d : Nat) (xs : List Int) (g : V) (v3 v4 : Option V), Same H H' ∧ H' l = some (.lst ws) ∧ ScrV K H' ws (em ++ kp k) ∧ GapAt K H' g d xs ∧ (k = 0 → em = []) ∧
      em ++ nfS k d xs (ss.drop i) = nf ss ∧ em.length ≤ 3 * i ∧ xs.length ≤ tot (ss.take i) ∧ σ = [some (.ref c), some (.ref l), some g, v3, v4]) ⟨[], [], 0, 0, [], .ref g, none, none, f13, (f2.trans f3) _ _ upd_same, .nil, ⟨g, u, rfl, SqT.of upd_same, SqT.of (f3 _ _ upd_same)⟩, fun _ => rfl, rfl, Nat.zero_le _, Nat.zero_le _, rfl⟩ (fun i σ H' _ ⟨_, _, _, _, _, _, _, _, e, _⟩ => e.seq hcL) ?_ ?_⟩
    · rintro i x σ H2 hx ⟨ws, em, k, d, xs, g, v3, v4, e2, hL, hV, hG, hk0, hem, hml, hxl, rfl⟩
      obtain ⟨st, hs, hS⟩ := scr_get hcV hx
      obtain ⟨hlt, hst⟩ := List.getElem?_eq_some_iff.mp hs
      have hS2 := hS.keeps (sqT_same e2)
      have hdr := List.drop_eq_getElem_cons hlt
      rw [hst] at hdr
      have htt := tot_get hlt
      rw [hst] at htt
      have htt2 := tot_take_le ss (i + 1)
      have hwl : ws.length ≤ 1300 := by
        rw [hV.length, List.length_append]
        have : (kp k).length ≤ 1 := by unfold kp; split <;> simp
        omega
      cases st with
      | drop n =>
        obtain ⟨t, rfl, hT⟩ := hS2
        obtain ⟨g0, u0, rfl, hg0, hu0⟩ := hG
        refine ⟨t, _, rfl, hT, rfl, _, _, rfl, _, _, rfl, rfl, _, rfl, rfl, _, rfl, itd (fun _ => ?_) (fun h => absurd rfl h)⟩
        refine ⟨_, rfl, g0, _, _, .int (d : Int), rfl, rfl, hg0, rfl, _, rfl, _, _, rfl, rfl, _, rfl, g0, _, _, .ref u0, rfl, rfl, hg0, rfl, (by show 2 ≤ sizeLine; decide), fun g1 hg1 => ?_⟩
        have e3 := same_upd (o := .tup [V.int ((d : Int) + (n : Int)), V.ref u0]) hg1
        refine ⟨ws, em, k, d + n, xs, .ref g1, some (.str "drop"), some (.int (n : Int)), e2.trans e3, e3 _ _ hL, hV.keeps (sqT_same e3), ⟨g1, u0, rfl, ?_, sqT_same e3 _ _ hu0⟩, hk0, ?_, by omega, by omega, rfl⟩
        · rw [show ((d + n : Nat) : Int) = (d : Int) + (n : Int) by omega]
          exact SqT.of upd_same
        · rw [hdr] at hem
          exact hem
      | add ys =>
        obtain ⟨t, u1, rfl, hT, hU⟩ := hS2
        obtain ⟨g0, u0, rfl, hg0, hu0⟩ := hG
        simp only [Step.sz] at htt
        refine ⟨t, _, rfl, hT, rfl, _, _, rfl, _, _, rfl, rfl, _, rfl, rfl, _, rfl, itd (fun h => absurd h (by decide)) (fun _ => ?_)⟩
        refine ⟨_, rfl, rfl, _, rfl, itd (fun _ => ?_) (fun h => absurd rfl h)⟩
        refine ⟨_, rfl, g0, _, _, .int (d : Int), rfl, rfl, hg0, rfl, _, rfl, g0, _, _, .ref u0, rfl, rfl, hg0, rfl, _, rfl, u1, _, rfl, hU, catA hu0 hU (smallE (by rw [List.length_map, List.length_map]; omega)) fun p H3 e3 hP => ?_⟩
        refine ⟨(by show 2 ≤ sizeLine; decide), fun g1 hg1 => ?_⟩
        have e4 := same_upd (o := .tup [V.int (d : Int), V.ref p]) hg1
        rw [← List.map_append] at hP
        refine ⟨ws, em, k, d, xs ++ ys, .ref g1, some (.str "add"), some (.ref u1), (e2.trans e3).trans e4, (e3.trans e4) _ _ hL, hV.keeps (sqT_same (e3.trans e4)), ⟨g1, p, rfl, SqT.of upd_same, sqT_same e4 _ _ hP⟩, hk0, ?_, by omega, by rw [List.length_append]; omega, rfl⟩
        rw [hdr] at hem
        exact hem
      | keep n =>
        obtain ⟨t, rfl, hT⟩ := hS2
        have hn : 0 < n := hpos n (List.mem_of_getElem? hs)
        refine ⟨t, _, rfl, hT, rfl, _, _, rfl, _, _, rfl, rfl, _, rfl, rfl, _, rfl, itd (fun h => absurd h (by decide)) (fun _ => ?_)⟩
        refine ⟨_, rfl, rfl, _, rfl, itd (fun h => absurd h (by decide)) (fun _ => ?_)⟩
        refine ⟨_, rfl, _, rfl, l, g, ws, d, xs, rfl, hL, by omega, hG, fun H3 ws' fr hL3 hV' => ?_⟩
        have e3 := fr.same e2 hl0
        have hG3 := hG.keeps (fr.sqT hL)
        have hV3 := ScrV.app (hV.keeps (fr.sqT hL)) hV'
        have hwl2 : ws'.length ≤ 2 := by
          rw [hV'.length]
          unfold dr ad
          split <;> split <;> simp
        refine ⟨_, rfl, (by show 0 ≤ sizeLine; decide), fun u4 hu4 => ⟨(by show 2 ≤ sizeLine; decide), fun g4 hg4 => ?_⟩⟩
        have e4 := (same_upd (o := .tup []) hu4).trans (same_upd (o := .tup [V.int 0, V.ref u4]) hg4)
        have hG4 := hG3.keeps (sqT_same e4)
        have hV4 := hV3.keeps (sqT_same e4)
        have hL4 := e4 _ _ hL3
        have hZ : GapAt K (upd (upd H3 u4 (.tup [])) g4 (.tup [V.int 0, V.ref u4])) (.ref g4) 0 [] := ⟨g4, u4, rfl, SqT.of upd_same, SqT.of (same_upd hg4 _ _ upd_same)⟩
        generalize upd (upd H3 u4 (.tup [])) g4 (.tup [V.int 0, V.ref u4]) = H4 at e4 hG4 hV4 hL4 hZ ⊢
        refine ⟨_, _, dp_gap hG4, dp_gap hZ, shaped_gap _ _, shaped_gap _ _, _, rfl, ?_⟩
        rw [eqv_gap0]
        have hwlen : ws.length = em.length + (kp k).length := by rw [hV.length, List.length_append]
        refine itd (fun h => ⟨_, rfl, l, _, rfl, .inl (SqL.of hL4), _, _, rfl, rfl, _, rfl, itd (fun h2 => ?b1) (fun h2 => ?b2)⟩) (fun h => iteF ?b3)
        case b1 =>
          obtain ⟨rfl, rfl⟩ := h
          have hw0 : ws' = [] := List.eq_nil_of_length_eq_zero (by rw [hV'.length]; rfl)
          subst hw0
          rw [List.append_nil] at h2 hL4 hV4
          have hk : 0 < k := by
            rcases Nat.eq_zero_or_pos k with z | z
            · subst z
              rw [hk0 rfl] at hwlen
              rw [hwlen] at h2
              exact absurd h2 (by decide)
            · exact z
          rw [kpP hk] at hwlen hV4
          have hwl1 : em.length < ws.length := by
            rw [hwlen]
            exact Nat.lt_succ_self _
          obtain ⟨s0, hs0, hS0⟩ := scr_get hV4 (List.getElem?_eq_getElem hwl1)
          rw [show em ++ [Step.keep k] ++ (dr 0 ++ ad []) = em ++ [Step.keep k] by simp [dr0, ad0]] at hs0 hV4
          rw [List.getElem?_append_right (Nat.le_refl _), Nat.sub_self] at hs0
          cases hs0
          obtain ⟨t0, ht0, hT0⟩ := hS0
          have hat : atI ws (-1) = some (V.ref t0) := by
            rw [← ht0]
            exact at_last hwlen
          refine ⟨_, rfl, _, rfl, l, _, _, .ref t0, rfl, rfl, SqL.of hL4, hat, t0, _, _, .int (k : Int), rfl, rfl, hT0, rfl, _, rfl, _, _, rfl, rfl, (by show 2 ≤ sizeLine; decide), fun a5 ha5 => ?_⟩
          have e5 := same_upd (o := .tup [V.str "keep", V.int ((k : Int) + (n : Int))]) ha5
          have hL5 := e5 _ _ hL4
          refine ⟨_, rfl, _, rfl, l, _, _, em.length, rfl, rfl, hL5, ix_last hwlen, ?_⟩
          refine ⟨(by show 0 ≤ sizeLine; decide), fun u6 hu6 => ⟨(by show 2 ≤ sizeLine; decide), fun g6 hg6 => ?_⟩⟩
          have e6 := (same_upd (o := .tup []) hu6).trans (same_upd (o := .tup [V.int 0, V.ref u6]) hg6)
          have hS5 : StepAt K (upd H4 a5 (.tup [V.str "keep", V.int ((k : Int) + (n : Int))])) (.ref a5) (.keep (k + n)) := ⟨a5, rfl, by
            rw [show ((k + n : Nat) : Int) = (k : Int) + (n : Int) by omega]
            exact SqT.of upd_same⟩
          have hV5 := (((hV4.keeps (sqT_same e5)).set em.length hS5).keeps (sqT_lst (ws := ws.set em.length (.ref a5)) hL5)).keeps (sqT_same e6)
          rw [List.set_append_right _ _ (Nat.le_refl _), Nat.sub_self] at hV5
          refine ⟨ws.set em.length (.ref a5), em, k + n, 0, [], .ref g6, some (.str "keep"), some (.int (n : Int)), (same_new ((e3.trans e4).trans e5) hl0).trans e6, e6 _ _ upd_same, ?_, ⟨g6, u6, rfl, SqT.of upd_same, SqT.of (same_upd hg6 _ _ upd_same)⟩, fun z => by omega, ?_, by omega, Nat.zero_le _, rfl⟩
          · rw [kpP (by omega)]
            exact hV5
          · rw [hdr, nfS_keep] at hem
            exact hem
        case b2 | b3 =>
          have hem2 : (em ++ blk k d xs) ++ nfS n 0 [] (ss.drop (i + 1)) = nf ss := by
            rw [← hem, hdr]
            rcases gap_or d xs with g | ⟨rfl, rfl⟩
            · rw [nfS_flush g, List.append_assoc]
            · have hk : k = 0 := by
                rcases Nat.eq_zero_or_pos k with z | z
                · exact z
                · exfalso
                  first
                  | exact absurd ⟨rfl, rfl⟩ h
                  | (rw [kpP z] at hwlen
                     rw [List.length_append, hwlen] at h2
                     simp at h2
                     omega)
              subst hk
              rw [nfS_keep, Nat.zero_add]
              simp [blk, kp0, dr0, ad0]
          have hL4' := hL4
          refine ⟨_, rfl, .inl ⟨rfl, _, SqL.of hL4⟩, _, rfl, (by show 2 ≤ sizeLine; decide), fun a5 ha5 => ?_⟩
          have e5 := same_upd (o := .tup [V.str "keep", V.int (n : Int)]) ha5
          have hL5 := e5 _ _ hL4
          refine ⟨l, _, _, rfl, rfl, hL5, small (by rw [List.length_append]; omega), ?_⟩
          refine ⟨(by show 0 ≤ sizeLine; decide), fun u6 hu6 => ⟨(by show 2 ≤ sizeLine; decide), fun g6 hg6 => ?_⟩⟩
          have e6 := (same_upd (o := .tup []) hu6).trans (same_upd (o := .tup [V.int 0, V.ref u6]) hg6)
          have hS5 : StepAt K (upd H4 a5 (.tup [V.str "keep", V.int (n : Int)])) (.ref a5) (.keep n) := ⟨a5, rfl, SqT.of upd_same⟩
          have hV5 := ((ScrV.app (hV4.keeps (sqT_same e5)) (.cons hS5 .nil)).keeps (sqT_lst (ws := (ws ++ ws') ++ [.ref a5]) hL5)).keeps (sqT_same e6)
          have hbl := blk_len k d xs
          refine ⟨(ws ++ ws') ++ [.ref a5], em ++ blk k d xs, n, 0, [], .ref g6, some (.str "keep"), some (.int (n : Int)), (same_new ((e3.trans e4).trans e5) hl0).trans e6, e6 _ _ upd_same, ?_, ⟨g6, u6, rfl, SqT.of upd_same, SqT.of (same_upd hg6 _ _ upd_same)⟩, fun z => by omega, hem2, by rw [List.length_append]; omega, Nat.zero_le _, rfl⟩
          rw [kpP hn, blk]
          simp only [List.append_assoc] at hV5 ⊢
          exact hV5
    · rintro σ H2 ⟨ws, em, k, d, xs, g, v3, v4, e2, hL, hV, hG, hk0, hem, hml, hxl, rfl⟩
      rw [hcV.length, List.drop_length] at hem
      rw [hcV.length] at hml
      have hwl : ws.length ≤ 1300 := by
        rw [hV.length, List.length_append]
        have : (kp k).length ≤ 1 := by unfold kp; split <;> simp
        omega
      refine ⟨_, rfl, _, rfl, l, g, ws, d, xs, rfl, hL, by omega, hG, fun H3 ws' fr hL3 hV' => ⟨_, rfl, kQ l H3 (ws ++ ws') hl0 (fr.same e2 hl0) hL3 ?_⟩⟩
      rw [← hem]
      have := ScrV.app (hV.keeps (fr.sqT hL)) hV'
      rw [List.append_assoc, ← List.append_assoc (kp k)] at this
      exact this

-- @@CUT
def spIsInt : Sp := fun vs H Q _ => ∃ i : Int, vs = [.int i] ∧ Q (.bl true) H
theorem ok__law_is_int (T : Txt K mg C_InvalidScript c_taken_items P_taken_items) : Ok P w K mg base CX0 1 "_law_is_int" ["value"] spIsInt := by
  refine ok_of T.d__law_is_int fun f fd F => F.ok sc__law_is_int (fun vs H Q E h => ?_) (fun cdv A outer s H vs Q E hr h => ?_)
  · obtain ⟨i, rfl, _⟩ := h
    rfl
  · obtain ⟨i, rfl, q⟩ := h
    refine ⟨_,       (pss_one (ps_ret (pe_and (pe_callB call_isi (by rfl) T.n_isinstance (by decide +kernel) (pa_cons (pv 0) (pa_cons (pe_bltn (v := .ty "int") (by rfl) T.n_int (by decide +kernel) rfl) pa_nil))) (pe_one (pe_not (pe_callB call_isi (by rfl) T.n_isinstance (by decide +kernel) (pa_cons (pv 0) (pa_cons (pe_bltn (v := .ty "bool") (by rfl) T.n_bool (by decide +kernel) rfl) pa_nil)))))))), ?_⟩
    refine ⟨_, rfl, _, _, _, _, true, rfl, .ty _, .base (.int i), kit_ty (by decide +kernel), true, rfl, iteT ?_⟩
    exact ⟨_, rfl, _, _, _, _, false, rfl, .ty _, .base (.int i), kit_ty (by decide +kernel), false, rfl, q⟩

def spIsNormal (K : PySem.W.Frag) : Sp := fun vs H Q _ => ∃ (c : Addr) (ss : List Step), vs = [.ref c] ∧ ScrAt K H c ss ∧ nfOk "" ss ∧ Q (.bl true) H
theorem ok__law_is_normal (T : Txt K mg C_InvalidScript c_taken_items P_taken_items) : Ok P w K mg base CX0 2 "_law_is_normal" ["script"] (spIsNormal K) := by
  have G__law_is_int := ok__law_is_int (P := P) (w := w) (base := base) T
  refine ok_of T.d__law_is_normal fun f fd F => F.ok sc__law_is_normal (fun vs H Q E h => ?_) (fun cdv A outer s H vs Q E hr h => ?_)
  · obtain ⟨c, ss, rfl, _⟩ := h
    rfl
  · obtain ⟨c, ss, rfl, ⟨vs, hcL, hcV⟩, hN, kQ⟩ := h
    have nd := sc__law_is_normal.nd
    refine ⟨_,       (pss_cons (ps_if (pt_not (pt_val (pe_callB call_isi (by rfl) T.n_isinstance (by decide +kernel) (pa_cons (pv 0) (pa_cons (pe_bltn (v := .ty "list") (by rfl) T.n_list (by decide +kernel) rfl) pa_nil)))))
        (pss_one (ps_ret pe_bl)) pss_nil)
      (pss_cons (ps_set (i := 1) nd rfl (Or.inl rfl) pe_str)
      (pss_cons (ps_for PassesOwn.never rfl (pi_list (pv 0)) (pg_name (i := 2) nd rfl (Or.inl rfl))
        (pss_cons (ps_if (PW.pt (pw_or (pt_not (pt_val (pe_callB call_isi (by rfl) T.n_isinstance (by decide +kernel) (pa_cons (pv 2) (pa_cons (pe_bltn (v := .ty "tuple") (by rfl) T.n_tuple (by decide +kernel) rfl) pa_nil))))) (pw_or (pt_cmpR op_ne (pe_callB call_len_seq (by rfl) T.n_len PySem.boot_len (pa_cons (pv 2) pa_nil)) pe_int (nomark _)) (pw_or1 (pt_cmpR op_eq (pe_ix ix_tup (pv 2) pe_int (fun _ _ => rfl)) (pv 1) (nomark _))))))
          (pss_one (ps_ret pe_bl)) pss_nil)
        (pss_cons (ps_if (pt_cmpR op_eq (pe_ix ix_tup (pv 2) pe_int (fun _ _ => rfl)) pe_str (nomark _))
          (pss_one (ps_if (PW.pt (pw_or (pt_not (pt_val (pe_callB call_isi (by rfl) T.n_isinstance (by decide +kernel) (pa_cons (pe_ix ix_tup (pv 2) pe_int (fun _ _ => rfl)) (pa_cons (pe_bltn (v := .ty "tuple") (by rfl) T.n_tuple (by decide +kernel) rfl) pa_nil))))) (pw_or1 (pt_cmpR op_eq (pe_callB call_len_seq (by rfl) T.n_len PySem.boot_len (pa_cons (pe_ix ix_tup (pv 2) pe_int (fun _ _ => rfl)) pa_nil)) pe_int (nomark _)))))
            (pss_one (ps_ret pe_bl)) pss_nil))
          (pss_one (ps_if (PW.pt (pw_and (pt_cmpR op_ne (pe_ix ix_tup (pv 2) pe_int (fun _ _ => rfl)) pe_str (nomark _)) (pw_and1 (pt_cmpR op_ne (pe_ix ix_tup (pv 2) pe_int (fun _ _ => rfl)) pe_str (nomark _)))))
            (pss_one (ps_ret pe_bl))
            (pss_one (ps_if (PW.pt (pw_or (pt_not (pt_val (pe_callO G__law_is_int (hr.mono (by decide)) pass0 (pa_cons (pe_ix ix_tup (pv 2) pe_int (fun _ _ => rfl)) pa_nil)))) (pw_or (pt_cmpR op_lt (pe_ix ix_tup (pv 2) pe_int (fun _ _ => rfl)) pe_int (nomark _)) (pw_or1 (PW.pt (pw_and (pt_cmpR op_eq (pe_ix ix_tup (pv 2) pe_int (fun _ _ => rfl)) pe_str (nomark _)) (pw_and1 (pt_cmpR op_eq (pv 1) pe_str (nomark _)))))))))
              (pss_one (ps_ret pe_bl)) pss_nil)))))
        (pss_one (ps_set (i := 1) nd rfl (Or.inl rfl) (pe_ix ix_tup (pv 2) pe_int (fun _ _ => rfl)))))))
      (pss_one (ps_ret pe_bl))))), ?_⟩
    refine ⟨_, rfl, _, _, _, _, true, rfl, .ty _, tyx_list hcL, kit_ty (by decide +kernel), true, rfl, iteF ?_⟩
    refine ⟨_, rfl, c, rfl, ⟨_, hcL⟩, for_list (K := K) (a := c) (xs := vs) (fun i σ H' => ∃ (b : Str) (v2 : Option V), H = H' ∧ nfOk b (ss.drop i) ∧ σ = [some (.ref c), some (.str b), v2]) ⟨"", none, rfl, hN, rfl⟩ (fun i σ H' _ ⟨_, _, e, _⟩ => e ▸ hcL) ?_ ?_⟩
    · rintro i x σ H2 hx ⟨b, v2, rfl, hn, rfl⟩
      obtain ⟨st, hs, hS⟩ := scr_get hcV hx
      obtain ⟨hlt, hst⟩ := List.getElem?_eq_some_iff.mp hs
      have hdr := List.drop_eq_getElem_cons hlt
      rw [hst] at hdr
      rw [hdr] at hn
      obtain ⟨h1, h2, h3, h4⟩ := hn
      cases st with
      | add xs =>
        obtain ⟨t, u, rfl, hT, hU⟩ := hS
        refine ⟨_, rfl, _, _, _, _, true, rfl, .ty _, tyx_tuple hT, kit_ty (by decide +kernel), true, rfl, iteF ?_⟩
        refine ⟨_, rfl, t, _, rfl, .inr hT, rfl, nm_noG rfl ?_⟩
        refine ⟨_, rfl, t, _, _, .str "add", rfl, rfl, hT, rfl, _, rfl, rfl, _, rfl, itd (fun h => absurd (by injection h) h1) (fun _ => ?_)⟩
        refine ⟨_, rfl, t, _, _, .str "add", rfl, rfl, hT, rfl, rfl, _, rfl, itd (fun _ => ?_) (fun h => absurd rfl h)⟩
        refine ⟨_, rfl, t, _, _, .ref u, rfl, rfl, hT, rfl, _, _, _, _, true, rfl, .ty _, tyx_tuple hU, kit_ty (by decide +kernel), true, rfl, iteF ?_⟩
        have hx0 : 0 < xs.length := h2
        refine ⟨_, rfl, t, _, _, .ref u, rfl, rfl, hT, rfl, u, _, rfl, .inr hU, rfl, _, rfl, itd (fun h => ?_) (fun _ => ?_)⟩
        · injection h with h
          rw [List.length_map] at h
          omega
        exact ⟨_, rfl, t, _, _, .str "add", rfl, rfl, hT, rfl, "add", some (.ref t), rfl, h4, rfl⟩
      | keep n =>
        obtain ⟨t, rfl, hT⟩ := hS
        refine ⟨_, rfl, _, _, _, _, true, rfl, .ty _, tyx_tuple hT, kit_ty (by decide +kernel), true, rfl, iteF ?_⟩
        refine ⟨_, rfl, t, _, rfl, .inr hT, rfl, nm_noG rfl ?_⟩
        refine ⟨_, rfl, t, _, _, .str "keep", rfl, rfl, hT, rfl, _, rfl, rfl, _, rfl, itd (fun h => absurd (by injection h) h1) (fun _ => ?_)⟩
        refine ⟨_, rfl, t, _, _, .str "keep", rfl, rfl, hT, rfl, rfl, _, rfl, itd (fun h => absurd h (by decide)) (fun _ => ?_)⟩
        refine ⟨_, rfl, t, _, _, .str "keep", rfl, rfl, hT, rfl, rfl, nm_noG rfl ?_⟩
        have hn0 : 0 < n := h2
        refine iteF ?_
        refine ⟨_, rfl, t, _, _, .int (n : Int), rfl, rfl, hT, rfl, (n : Int), rfl, true, rfl, iteF ?_⟩
        refine ⟨_, rfl, t, _, _, .int (n : Int), rfl, rfl, hT, rfl, _, _, rfl, rfl, _, rfl, itd (fun h => absurd h (by omega)) (fun _ => ?_)⟩
        refine ⟨_, rfl, t, _, _, .str "keep", rfl, rfl, hT, rfl, rfl, _, rfl, itd (fun h => absurd h (by decide)) (fun _ => iteF ?_)⟩
        exact ⟨_, rfl, t, _, _, .str "keep", rfl, rfl, hT, rfl, "keep", some (.ref t), rfl, h4, rfl⟩
      | drop n =>
        obtain ⟨t, rfl, hT⟩ := hS
        refine ⟨_, rfl, _, _, _, _, true, rfl, .ty _, tyx_tuple hT, kit_ty (by decide +kernel), true, rfl, iteF ?_⟩
        refine ⟨_, rfl, t, _, rfl, .inr hT, rfl, nm_noG rfl ?_⟩
        refine ⟨_, rfl, t, _, _, .str "drop", rfl, rfl, hT, rfl, _, rfl, rfl, _, rfl, itd (fun h => absurd (by injection h) h1) (fun _ => ?_)⟩
        refine ⟨_, rfl, t, _, _, .str "drop", rfl, rfl, hT, rfl, rfl, _, rfl, itd (fun h => absurd h (by decide)) (fun _ => ?_)⟩
        refine ⟨_, rfl, t, _, _, .str "drop", rfl, rfl, hT, rfl, rfl, _, rfl, itn (fun _ => ?_) (fun h => absurd h (by decide))⟩
        refine ⟨_, rfl, t, _, _, .str "drop", rfl, rfl, hT, rfl, rfl, nm_noG rfl ?_⟩
        have hn0 : 0 < n := h2
        refine ⟨_, rfl, t, _, _, .int (n : Int), rfl, rfl, hT, rfl, (n : Int), rfl, true, rfl, iteF ?_⟩
        refine ⟨_, rfl, t, _, _, .int (n : Int), rfl, rfl, hT, rfl, _, _, rfl, rfl, _, rfl, itd (fun h => absurd h (by omega)) (fun _ => ?_)⟩
        refine ⟨_, rfl, t, _, _, .str "drop", rfl, rfl, hT, rfl, rfl, _, rfl, itd (fun _ => ?_) (fun h => absurd rfl h)⟩
        refine ⟨_, rfl, rfl, _, rfl, itd (fun h => absurd (by injection h) (h3 rfl)) (fun _ => ?_)⟩
        exact ⟨_, rfl, t, _, _, .str "drop", rfl, rfl, hT, rfl, "drop", some (.ref t), rfl, h4, rfl⟩
    · rintro σ H2 ⟨b, v2, rfl, hn, rfl⟩
      exact kQ

-- @@CUT
/-! ### what a script keeps, and what it adds in each gap -/
def stepG (A : List (List Int)) : Step → List (List Int)
  | .add xs => A.set (A.length - 1) (A.getD (A.length - 1) [] ++ xs)
  | .keep n => A ++ List.replicate n []
  | .drop n => A ++ List.replicate n []
def stepB (B : List Bool) : Step → List Bool
  | .add _ => B
  | .keep n => B ++ List.replicate n true
  | .drop n => B ++ List.replicate n false
def gapsO (ss : List Step) : List (List Int) := ss.foldl stepG [[]]
def keptO (ss : List Step) : List Bool := ss.foldl stepB []
theorem gapsO_snoc (ss : List Step) (s : Step) : gapsO (ss ++ [s]) = stepG (gapsO ss) s := by simp [gapsO]
theorem keptO_snoc (ss : List Step) (s : Step) : keptO (ss ++ [s]) = stepB (keptO ss) s := by simp [keptO]
theorem snoc_ind {α : Type} {p : List α → Prop} (h0 : p []) (hs : ∀ a x, p a → p (a ++ [x])) (l : List α) : p l := by
  have z : ∀ r : List α, p r.reverse := fun r => by
    induction r with
    | nil => exact h0
    | cons x r ih =>
      rw [List.reverse_cons]
      exact hs _ _ ih
  have q := z l.reverse
  rwa [List.reverse_reverse] at q
theorem gapsO_len (ss : List Step) : (gapsO ss).length = taken ss + 1 := by
  induction ss using snoc_ind with
  | h0 => rfl
  | hs a s ih =>
    rw [gapsO_snoc, taken_snoc]
    cases s with
    | keep n => simp [stepG, ih, Step.tk]; omega
    | drop n => simp [stepG, ih, Step.tk]; omega
    | add xs => simp [stepG, ih, Step.tk]
theorem keptO_len (ss : List Step) : (keptO ss).length = taken ss := by
  induction ss using snoc_ind with
  | h0 => rfl
  | hs a s ih =>
    rw [keptO_snoc, taken_snoc]
    cases s with
    | keep n => simp [stepB, ih, Step.tk]
    | drop n => simp [stepB, ih, Step.tk]
    | add xs => simp [stepB, ih, Step.tk]
def sumL (A : List (List Int)) : Nat := (A.map List.length).sum
theorem sumL_set (A : List (List Int)) (i : Nat) (x y : List Int) (h : A[i]? = some x) : sumL (A.set i (x ++ y)) = sumL A + y.length := by
  induction A generalizing i with
  | nil => simp at h
  | cons a A ih =>
    cases i with
    | zero =>
      simp at h
      subst h
      simp [sumL]
      omega
    | succ i =>
      have := ih i (by simpa using h)
      simp only [sumL, List.set_cons_succ, List.map_cons, List.sum_cons] at this ⊢
      omega
theorem sumL_app (A B : List (List Int)) : sumL (A ++ B) = sumL A + sumL B := by simp [sumL]
theorem sumL_rep (n : Nat) : sumL (List.replicate n []) = 0 := by simp [sumL]
theorem gapsO_sum (ss : List Step) : sumL (gapsO ss) + taken ss = tot ss := by
  induction ss using snoc_ind with
  | h0 => rfl
  | hs a s ih =>
    rw [gapsO_snoc, taken_snoc, tot_snoc]
    cases s with
    | keep n => simp only [stepG, sumL_app, sumL_rep, Step.tk, Step.sz]; omega
    | drop n => simp only [stepG, sumL_app, sumL_rep, Step.tk, Step.sz]; omega
    | add xs =>
      have hl := gapsO_len a
      simp only [stepG]
      rw [sumL_set (x := (gapsO a).getD ((gapsO a).length - 1) [])]
      · simp only [Step.tk, Step.sz]
        omega
      · rw [List.getD_eq_getElem?_getD, List.getElem?_eq_getElem (by omega)]
        rfl
theorem sumL_get (A : List (List Int)) (i : Nat) : (A.getD i []).length ≤ sumL A := by
  induction A generalizing i with
  | nil => simp
  | cons a A ih =>
    cases i with
    | zero => simp [sumL]
    | succ i =>
      have := ih i
      simp only [sumL, List.map_cons, List.sum_cons, List.getD_cons_succ] at this ⊢
      omega
def TupV (K : PySem.W.Frag) (H : Hp) (v : V) (xs : List Int) : Prop := ∃ t, v = .ref t ∧ SqT K H t (xs.map V.int)
def TupsV (K : PySem.W.Frag) (H : Hp) (vs : List V) (A : List (List Int)) : Prop := Paired (TupV K H) vs A
theorem TupV.keeps {K : PySem.W.Frag} {H H' : Hp} (e : ∀ t ys, SqT K H t ys → SqT K H' t ys) {v : V} {xs : List Int} : TupV K H v xs → TupV K H' v xs
  | ⟨t, h1, h2⟩ => ⟨t, h1, e _ _ h2⟩
theorem TupsV.keeps {K : PySem.W.Frag} {H H' : Hp} (e : ∀ t ys, SqT K H t ys → SqT K H' t ys) : ∀ {vs : List V} {A : List (List Int)}, TupsV K H vs A → TupsV K H' vs A
  | _, _, .nil => .nil
  | _, _, .cons h r => .cons (h.keeps e) (TupsV.keeps e r)
theorem TupsV.app {K : PySem.W.Frag} {H : Hp} : ∀ {a b : List V} {x y : List (List Int)}, TupsV K H a x → TupsV K H b y → TupsV K H (a ++ b) (x ++ y)
  | _, _, _, _, .nil, h => h
  | _, _, _, _, .cons h r, h2 => .cons h (TupsV.app r h2)
theorem TupsV.set {K : PySem.W.Frag} {H : Hp} : ∀ {a : List V} {x : List (List Int)} (i : Nat) {v : V} {s : List Int}, TupsV K H a x → TupV K H v s → TupsV K H (a.set i v) (x.set i s)
  | _, _, _, _, _, .nil, _ => by simp; exact Paired.nil
  | _, _, 0, _, _, .cons h r, h2 => .cons h2 r
  | _, _, i + 1, _, _, .cons h r, h2 => .cons h (TupsV.set i r h2)
theorem TupsV.rep {K : PySem.W.Frag} {H : Hp} {v : V} {s : List Int} (h : TupV K H v s) : ∀ n : Nat, TupsV K H (List.replicate n v) (List.replicate n s)
  | 0 => .nil
  | n + 1 => by rw [List.replicate_succ, List.replicate_succ]; exact .cons h (TupsV.rep h n)
theorem TupsV.length {K : PySem.W.Frag} {H : Hp} {vs : List V} {A : List (List Int)} (h : TupsV K H vs A) : vs.length = A.length := Paired.length h
theorem TupsV.get {K : PySem.W.Frag} {H : Hp} : ∀ {vs : List V} {A : List (List Int)} {i : Nat}, TupsV K H vs A → i < A.length → ∃ v, vs[i]? = some v ∧ TupV K H v (A.getD i [])
  | _, _, i, .nil, h => by simp at h
  | _, _, 0, .cons h r, _ => ⟨_, rfl, by simpa using h⟩
  | _, _, i + 1, .cons h r, hi => by
    obtain ⟨v, h1, h2⟩ := TupsV.get (i := i) r (by simpa using hi)
    exact ⟨v, by simpa using h1, by simpa using h2⟩
theorem flat_one (n : Nat) (v : V) : (List.replicate n [v]).flatten = List.replicate n v := by
  induction n with
  | zero => rfl
  | succ n ih => rw [List.replicate_succ, List.flatten_cons, ih, List.replicate_succ]; rfl

-- @@CUT
def SameL (K : PySem.W.Frag) (H H' : Hp) : Prop := ∀ t ys, SqT K H t ys → SqT K H' t ys
def spKA (K : PySem.W.Frag) (P_ C : Addr) : Sp := fun vs H Q E => ∃ (b c : Addr) (old : List Int) (ss : List Step), vs = [.ref b, .ref c] ∧ SqL K H b (old.map V.int) ∧ ScrAt K H c ss ∧ GxR.TabG H P_ ∧ tot ss ≤ 40000 ∧ (taken ss ≠ old.length → ∀ H', GX.Sm H H' → E (.ref C) none H') ∧
  (taken ss = old.length → ∀ u kp ap vs H', GX.Sm H H' → H' u = some (.tup [.ref kp, .ref ap]) → H' kp = some (.lst ((keptO ss).map V.bl)) → H' ap = some (.lst vs) → TupsV K H' vs (gapsO ss) → Q (.ref u) H')
theorem ok__keeps_and_adds (T : Txt K mg C_InvalidScript c_taken_items P_taken_items) : Ok P w K mg base (CXN P w) 6 "_keeps_and_adds" ["old", "script"] (spKA K P_taken_items C_InvalidScript) := by
  have G_check_fit := ok_check_fit (P := P) (w := w) (base := base) T
  refine ok_of T.d__keeps_and_adds fun f fd F => okN F sc__keeps_and_adds (fun vs H Q E h => ?_) (fun cdv A outer s H vs Q E hr h => ?_)
  · obtain ⟨b, c, old, ss, rfl, _⟩ := h
    rfl
  · obtain ⟨b, c, old, ss, rfl, hO, hS, tb, ht, kE, kQ⟩ := h
    have nd := sc__keeps_and_adds.nd
    have po := passes_of (X := cxOf (CXN P w) P w K mg base N__keeps_and_adds "_keeps_and_adds" (defScope s__keeps_and_adds) f cdv A outer s H E) rfl
    refine ⟨_,       (pss_cons (ps_expr (pe_callO G_check_fit (hr.mono (by decide)) (passX (L2N.takes_of rfl rfl rfl rfl) (fun _ _ _ z => z)) (pa_cons (pv 1) (pa_cons (pe_callB call_len_seq (by rfl) T.n_len PySem.boot_len (pa_cons (pv 0) pa_nil)) pa_nil))))
      (pss_cons (ps_set (i := 2) nd rfl (Or.inl rfl) (pe_lst pa_nil))
      (pss_cons (ps_set (i := 3) nd rfl (Or.inl rfl) (pe_lst (pa_cons (pe_tup pa_nil) pa_nil)))
      (pss_cons (ps_for po rfl (pi_list (pv 1)) (pg_tup rfl (pgs_cons (pg_name (i := 4) nd rfl (Or.inl rfl)) (pgs_cons (pg_name (i := 5) nd rfl (Or.inl rfl)) pgs_nil)))
        (pss_cons (ps_if (pt_cmpR op_eq (pv 4) pe_str (nomark _))
          (pss_cons (ps_asg (pe_tup (StX.pa_star (pe_ix ix_list (pv 3) (pe_un un_neg pe_int) (fun _ _ => rfl)) (StX.pa_star (pv 5) pa_nil))) (pg_sub (pv 3) (pe_un un_neg pe_int) set_list))
          (pss_one ps_continue)) pss_nil)
        (pss_cons (ps_expr (pe_bm PySem.F.plainAttrs_list PySem.F.slot_list_extend PySem.F.type_list_extend mt_extend (pv 2) (pa_cons (pe_op op_rep (pe_lst (pa_cons (pe_cmpR op_eq (pv 4) pe_str (nomark _)) pa_nil)) (pv 5)) pa_nil)))
        (pss_one (ps_expr (pe_bm PySem.F.plainAttrs_list PySem.F.slot_list_extend PySem.F.type_list_extend mt_extend (pv 3) (pa_cons (pe_op op_rep (pe_lst (pa_cons (pe_tup pa_nil) pa_nil)) (pv 5)) pa_nil)))))))
      (pss_one (ps_ret (pe_tup (pa_cons (pv 2) (pa_cons (pv 3) pa_nil))))))))), ?_⟩
    refine ⟨_, rfl, _, rfl, b, _, rfl, .inl hO, c, ss, old.length, (by rw [List.length_map]; rfl), hS, tb, kE, fun hok H1 e1 => ?_⟩
    refine ⟨by decide, fun kp hkp => ?_⟩
    refine ⟨(by show 0 ≤ sizeLine; decide), fun t0 ht0 => ⟨(by show 1 ≤ sizeLine; decide), fun ap hap => ?_⟩⟩
    have f1 := same_upd (o := .lst ([] : List V)) hkp
    have f2 := same_upd (o := .tup ([] : List V)) ht0
    have f3 := same_upd (o := .lst [V.ref t0]) hap
    have hK0 : (upd (upd (upd H1 kp (.lst [])) t0 (.tup [])) ap (.lst [V.ref t0])) kp = some (.lst []) := f3 _ _ (f2 _ _ upd_same)
    have hA0 : (upd (upd (upd H1 kp (.lst [])) t0 (.tup [])) ap (.lst [V.ref t0])) ap = some (.lst [V.ref t0]) := upd_same
    have hT0 : (upd (upd (upd H1 kp (.lst [])) t0 (.tup [])) ap (.lst [V.ref t0])) t0 = some (.tup []) := f3 _ _ upd_same
    have hka : kp ≠ ap := fun z => by
      rw [← z, f2 _ _ upd_same] at hap
      cases hap
    have hkp1 : H1 kp = none := hkp
    have hap1 : H1 ap = none := (f1.trans f2).free hap
    have e2 := (f1.trans f2).trans f3
    obtain ⟨vs, hL, hV⟩ := hS
    have hL1 := e1.seq hL
    have hV1 := hV.keeps (sqT_sm e1)
    generalize upd (upd (upd H1 kp (.lst [])) t0 (.tup [])) ap (.lst [V.ref t0]) = H2 at hK0 hA0 hT0 e2 ⊢
    refine ⟨_, rfl, c, rfl, ⟨_, e2.seq hL1⟩, for_list (K := K) (a := c) (xs := vs) (fun i σ H' => Same H1 H' ∧ ∃ (us : List V) (v4 v5 : Option V), H' kp = some (.lst ((keptO (ss.take i)).map V.bl)) ∧ H' ap = some (.lst us) ∧ TupsV K H' us (gapsO (ss.take i)) ∧ σ = [some (.ref b), some (.ref c), some (.ref kp), some (.ref ap), v4, v5]) ⟨e2, _, none, none, hK0, hA0, .cons ⟨t0, rfl, SqT.of hT0⟩ .nil, rfl⟩ (fun i σ H' _ ⟨e, _⟩ => e.seq hL1) ?_ ?_⟩
    · rintro i x σ H' hx ⟨e, us, v4, v5, hK, hA, hU, rfl⟩
      obtain ⟨s, hs, hst⟩ := scr_get hV1 hx
      have hst := hst.keeps (sqT_same e)
      obtain ⟨hi, rfl⟩ := List.getElem?_eq_some_iff.mp hs
      have hlim : tot (ss.take (i + 1)) ≤ 40000 := Nat.le_trans (tot_take_le ss _) ht
      have htk : taken (ss.take (i + 1)) + sumL (gapsO (ss.take (i + 1))) ≤ 40000 := by
        have := gapsO_sum (ss.take (i + 1))
        omega
      rw [take_snoc hi] at htk ⊢
      rw [keptO_snoc, gapsO_snoc] at *
      rw [taken_snoc] at htk
      have hgl := gapsO_len (ss.take i)
      have hkl := keptO_len (ss.take i)
      have hul := hU.length
      generalize ss[i] = s at hst htk ⊢
      cases s with
      | add xs =>
        obtain ⟨t, u, rfl, hT, hX⟩ := hst
        refine ⟨t, _, rfl, hT, rfl, _, _, rfl, _, _, rfl, rfl, ?_⟩
        refine ⟨_, rfl, rfl, _, rfl, itd (fun _ => ?_) (fun h => absurd rfl h)⟩
        have hlt : (gapsO (ss.take i)).length - 1 < (gapsO (ss.take i)).length := by omega
        obtain ⟨v, hv, q, rfl, hQ⟩ := hU.get hlt
        have hxl : (gapsO (ss.take i)).getD ((gapsO (ss.take i)).length - 1) [] ++ xs = (stepG (gapsO (ss.take i)) (.add xs)).getD ((gapsO (ss.take i)).length - 1) [] := by
          show _ = ((gapsO (ss.take i)).set _ _).getD _ []
          rw [List.getD_eq_getElem?_getD (l := List.set _ _ _), List.getElem?_set_self hlt]
          rfl
        have hsz := sumL_get (stepG (gapsO (ss.take i)) (.add xs)) ((gapsO (ss.take i)).length - 1)
        rw [← hxl, List.length_append] at hsz
        have hat : atI us (-1) = some (.ref q) := by
          have h1 : (gapsO (ss.take i)).length - 1 < us.length := by omega
          rw [at_last (n := (gapsO (ss.take i)).length - 1) (m := 1) (by omega)]
          rw [List.getElem?_eq_getElem h1] at hv
          exact hv
        have hix : ixN us.length (-1) = some ((gapsO (ss.take i)).length - 1) := ix_last (n := (gapsO (ss.take i)).length - 1) (m := 1) (by omega)
        refine ⟨_, rfl, _, rfl, ap, _, _, .ref q, rfl, rfl, SqL.of hA, hat, q, _, rfl, .inl hQ, ?_⟩
        refine ⟨_, rfl, u, _, rfl, .inl hX, smallE ?_, fun w hw => ?_⟩
        · rw [List.append_nil, List.length_append, List.length_map, List.length_map]
          omega
        have g := same_upd (o := .tup (((gapsO (ss.take i)).getD ((gapsO (ss.take i)).length - 1) [] ++ xs).map V.int)) hw
        rw [List.append_nil, ← List.map_append]
        refine ⟨_, rfl, _, rfl, ap, _, _, (gapsO (ss.take i)).length - 1, rfl, rfl, g _ _ hA, hix, ?_⟩
        refine ⟨same_new (e.trans g) hap1, _, _, _, ?_, upd_same, ?_, rfl⟩
        · rw [upd_ne hka]
          exact g _ _ hK
        · exact TupsV.set _ ((hU.keeps (sqT_same g)).keeps (sqT_lst (g _ _ hA))) ⟨w, rfl, sqT_lst (g _ _ hA) _ _ (SqT.of upd_same)⟩
      | keep n =>
        obtain ⟨t, rfl, hT⟩ := hst
        have hn : n ≤ 40000 := by simp only [Step.tk] at htk; omega
        have hkn : (keptO (ss.take i)).length + n ≤ 40000 := by simp only [Step.tk] at htk; omega
        refine ⟨t, _, rfl, hT, rfl, _, _, rfl, _, _, rfl, rfl, ?_⟩
        refine ⟨_, rfl, rfl, _, rfl, itd (fun h => absurd h (by decide)) (fun _ => ?_)⟩
        -- kept.extend
        refine ⟨_, rfl, .inl ⟨rfl, _, SqL.of hK⟩, _, rfl, rfl, (by show 1 ≤ sizeLine; decide), fun l hl => ?_⟩
        have hd : decide (V.str (Str.ofString "keep") = V.str (Str.ofString "keep")) = true := by decide
        rw [hd]
        have g1 := same_upd (o := .lst [V.bl true]) hl
        refine ⟨_, rfl, _, _, _, rfl, rfl, (show (upd H' l (.lst [V.bl true])) l = some (.lst [V.bl true]) from upd_same), by omega, by omega, smallE ?_, fun r hr => ?_⟩
        · rw [Int.toNat_natCast, List.length_singleton]
          omega
        rw [Int.toNat_natCast, flat_one]
        have g2 := same_upd (o := .lst (List.replicate n (V.bl true))) hr
        have hK2 := g2 _ _ (g1 _ _ hK)
        have hA2 := g2 _ _ (g1 _ _ hA)
        refine ⟨kp, r, _, _, rfl, rfl, hK2, upd_same, smallE ?_, ?_⟩
        · rw [List.length_map, List.length_replicate]
          omega
        have eK : (keptO (ss.take i)).map V.bl ++ List.replicate n (V.bl true) = (stepB (keptO (ss.take i)) (.keep n)).map V.bl := by
          show _ = (keptO (ss.take i) ++ List.replicate n true).map V.bl
          rw [List.map_append, List.map_replicate]
        rw [eK]
        have e3 := same_new (o := .lst ((stepB (keptO (ss.take i)) (.keep n)).map V.bl)) ((e.trans g1).trans g2) hkp1
        have k3 : SameL K (upd (upd H' l (.lst [V.bl true])) r (.lst (List.replicate n (V.bl true)))) (upd (upd (upd H' l (.lst [V.bl true])) r (.lst (List.replicate n (V.bl true)))) kp (.lst ((stepB (keptO (ss.take i)) (.keep n)).map V.bl))) := sqT_lst hK2
        have hA3 : (upd (upd (upd H' l (.lst [V.bl true])) r (.lst (List.replicate n (V.bl true)))) kp (.lst ((stepB (keptO (ss.take i)) (.keep n)).map V.bl))) ap = some (.lst us) := by
          rw [upd_ne fun z => hka z.symm]
          exact hA2
        have hK3 : (upd (upd (upd H' l (.lst [V.bl true])) r (.lst (List.replicate n (V.bl true)))) kp (.lst ((stepB (keptO (ss.take i)) (.keep n)).map V.bl))) kp = some (.lst ((stepB (keptO (ss.take i)) (.keep n)).map V.bl)) := upd_same
        have hU3 := ((hU.keeps (sqT_same (g1.trans g2))).keeps k3)
        generalize upd (upd (upd H' l (.lst [V.bl true])) r (.lst (List.replicate n (V.bl true)))) kp (.lst ((stepB (keptO (ss.take i)) (.keep n)).map V.bl)) = H3 at e3 hA3 hK3 hU3 ⊢
        -- added.extend
        refine ⟨_, rfl, .inl ⟨rfl, _, SqL.of hA3⟩, (by show 0 ≤ sizeLine; decide), fun t2 ht2 => ⟨(by show 1 ≤ sizeLine; decide), fun l2 hl2 => ?_⟩⟩
        have g4 := same_upd (o := .tup ([] : List V)) ht2
        have g5 := same_upd (o := .lst [V.ref t2]) hl2
        refine ⟨_, rfl, _, _, _, rfl, rfl, (show (upd (upd H3 t2 (.tup [])) l2 (.lst [V.ref t2])) l2 = some (.lst [V.ref t2]) from upd_same), by omega, by omega, smallE ?_, fun r2 hr2 => ?_⟩
        · rw [Int.toNat_natCast, List.length_singleton]
          omega
        rw [Int.toNat_natCast, flat_one]
        have g6 := same_upd (o := .lst (List.replicate n (V.ref t2))) hr2
        have g46 := (g4.trans g5).trans g6
        have hA6 := g46 _ _ hA3
        refine ⟨ap, r2, _, _, rfl, rfl, hA6, upd_same, smallE ?_, ?_⟩
        · rw [List.length_replicate, hul]
          simp only [Step.tk] at htk
          omega
        refine ⟨same_new (e3.trans g46) hap1, _, _, _, ?_, upd_same, ?_, rfl⟩
        · rw [upd_ne hka]
          exact g46 _ _ hK3
        · refine TupsV.app ((hU3.keeps (sqT_same g46)).keeps (sqT_lst hA6)) (TupsV.rep ⟨t2, rfl, sqT_lst hA6 _ _ (SqT.of ((g5.trans g6) _ _ upd_same))⟩ n)
      | drop n =>
        obtain ⟨t, rfl, hT⟩ := hst
        have hn : n ≤ 40000 := by simp only [Step.tk] at htk; omega
        have hkn : (keptO (ss.take i)).length + n ≤ 40000 := by simp only [Step.tk] at htk; omega
        refine ⟨t, _, rfl, hT, rfl, _, _, rfl, _, _, rfl, rfl, ?_⟩
        refine ⟨_, rfl, rfl, _, rfl, itd (fun h => absurd h (by decide)) (fun _ => ?_)⟩
        -- kept.extend
        refine ⟨_, rfl, .inl ⟨rfl, _, SqL.of hK⟩, _, rfl, rfl, (by show 1 ≤ sizeLine; decide), fun l hl => ?_⟩
        have hd : decide (V.str (Str.ofString "drop") = V.str (Str.ofString "keep")) = false := by decide
        rw [hd]
        have g1 := same_upd (o := .lst [V.bl false]) hl
        refine ⟨_, rfl, _, _, _, rfl, rfl, (show (upd H' l (.lst [V.bl false])) l = some (.lst [V.bl false]) from upd_same), by omega, by omega, smallE ?_, fun r hr => ?_⟩
        · rw [Int.toNat_natCast, List.length_singleton]
          omega
        rw [Int.toNat_natCast, flat_one]
        have g2 := same_upd (o := .lst (List.replicate n (V.bl false))) hr
        have hK2 := g2 _ _ (g1 _ _ hK)
        have hA2 := g2 _ _ (g1 _ _ hA)
        refine ⟨kp, r, _, _, rfl, rfl, hK2, upd_same, smallE ?_, ?_⟩
        · rw [List.length_map, List.length_replicate]
          omega
        have eK : (keptO (ss.take i)).map V.bl ++ List.replicate n (V.bl false) = (stepB (keptO (ss.take i)) (.drop n)).map V.bl := by
          show _ = (keptO (ss.take i) ++ List.replicate n false).map V.bl
          rw [List.map_append, List.map_replicate]
        rw [eK]
        have e3 := same_new (o := .lst ((stepB (keptO (ss.take i)) (.drop n)).map V.bl)) ((e.trans g1).trans g2) hkp1
        have k3 : SameL K (upd (upd H' l (.lst [V.bl false])) r (.lst (List.replicate n (V.bl false)))) (upd (upd (upd H' l (.lst [V.bl false])) r (.lst (List.replicate n (V.bl false)))) kp (.lst ((stepB (keptO (ss.take i)) (.drop n)).map V.bl))) := sqT_lst hK2
        have hA3 : (upd (upd (upd H' l (.lst [V.bl false])) r (.lst (List.replicate n (V.bl false)))) kp (.lst ((stepB (keptO (ss.take i)) (.drop n)).map V.bl))) ap = some (.lst us) := by
          rw [upd_ne fun z => hka z.symm]
          exact hA2
        have hK3 : (upd (upd (upd H' l (.lst [V.bl false])) r (.lst (List.replicate n (V.bl false)))) kp (.lst ((stepB (keptO (ss.take i)) (.drop n)).map V.bl))) kp = some (.lst ((stepB (keptO (ss.take i)) (.drop n)).map V.bl)) := upd_same
        have hU3 := ((hU.keeps (sqT_same (g1.trans g2))).keeps k3)
        generalize upd (upd (upd H' l (.lst [V.bl false])) r (.lst (List.replicate n (V.bl false)))) kp (.lst ((stepB (keptO (ss.take i)) (.drop n)).map V.bl)) = H3 at e3 hA3 hK3 hU3 ⊢
        -- added.extend
        refine ⟨_, rfl, .inl ⟨rfl, _, SqL.of hA3⟩, (by show 0 ≤ sizeLine; decide), fun t2 ht2 => ⟨(by show 1 ≤ sizeLine; decide), fun l2 hl2 => ?_⟩⟩
        have g4 := same_upd (o := .tup ([] : List V)) ht2
        have g5 := same_upd (o := .lst [V.ref t2]) hl2
        refine ⟨_, rfl, _, _, _, rfl, rfl, (show (upd (upd H3 t2 (.tup [])) l2 (.lst [V.ref t2])) l2 = some (.lst [V.ref t2]) from upd_same), by omega, by omega, smallE ?_, fun r2 hr2 => ?_⟩
        · rw [Int.toNat_natCast, List.length_singleton]
          omega
        rw [Int.toNat_natCast, flat_one]
        have g6 := same_upd (o := .lst (List.replicate n (V.ref t2))) hr2
        have g46 := (g4.trans g5).trans g6
        have hA6 := g46 _ _ hA3
        refine ⟨ap, r2, _, _, rfl, rfl, hA6, upd_same, smallE ?_, ?_⟩
        · rw [List.length_replicate, hul]
          simp only [Step.tk] at htk
          omega
        refine ⟨same_new (e3.trans g46) hap1, _, _, _, ?_, upd_same, ?_, rfl⟩
        · rw [upd_ne hka]
          exact g46 _ _ hK3
        · refine TupsV.app ((hU3.keeps (sqT_same g46)).keeps (sqT_lst hA6)) (TupsV.rep ⟨t2, rfl, sqT_lst hA6 _ _ (SqT.of ((g5.trans g6) _ _ upd_same))⟩ n)
    · rintro σ H' ⟨e, us, v4, v5, hK, hA, hU, rfl⟩
      rw [hV1.length, List.take_length] at hK hU
      refine ⟨_, rfl, _, rfl, (by show 2 ≤ sizeLine; decide), fun u hu => ?_⟩
      have g := same_upd (o := .tup [V.ref kp, V.ref ap]) hu
      exact kQ hok u kp ap us _ (GX.Sm.trans e1 (GX.Sm.of (e.trans g))) upd_same (g _ _ hK) (g _ _ hA) (hU.keeps (sqT_same g))

-- @@CUT
theorem eqv_tints (xs ys : List Int) : PyData.eqv (.tuple (xs.map PyData.int)) (.tuple (ys.map PyData.int)) = decide (xs = ys) := by
  rw [PyData.eqv]
  exact eqvAll_ints xs ys
theorem shaped_tints (ns : List Int) : SeqAt.shaped (.tuple (ns.map PyData.int)) = true := by
  refine Bool.and_eq_true_iff.mpr ⟨Cm.canLayAll_ints ns, decide_eq_true ?_⟩
  show PyData.depthAll (ns.map PyData.int) + 1 ≤ 64
  rw [Cm.depthAll_ints]
  omega
theorem dp_tints {K : PySem.W.Frag} {H : Hp} {t : Addr} {xs : List Int} (h : SqT K H t (xs.map V.int)) : Dp K H (.ref t) (.tuple (xs.map PyData.int)) := .tup h (dp_ints xs)
theorem neT {xs ys : List Int} {A B : Prop} (h1 : xs ≠ ys → A) (h2 : xs = ys → B) : ∃ k, V.bl (!PyData.eqv (.tuple (xs.map PyData.int)) (.tuple (ys.map PyData.int))) = V.bl k ∧ if k = true then A else B := by
  refine ⟨_, rfl, ?_⟩
  rw [eqv_tints]
  exact itn h1 h2
/-! ### merging -/
def segM (A1 A2 : List (List Int)) (B1 B2 : List Bool) (n g : Nat) : List Step := ad (A1.getD g []) ++ ((if A2.getD g [] = A1.getD g [] then [] else ad (A2.getD g [])) ++ (if g < n then [if (B1.getD g false && B2.getD g false) = true then .keep 1 else .drop 1] else []))
def stepsM (A1 A2 : List (List Int)) (B1 B2 : List Bool) (n i : Nat) : List Step := (List.range i).flatMap (segM A1 A2 B1 B2 n)
def confM (A1 A2 : List (List Int)) (i : Nat) : List (Int × List Int × List Int) := (List.range i).flatMap fun g => if A1.getD g [] ≠ [] ∧ A2.getD g [] ≠ [] ∧ A1.getD g [] ≠ A2.getD g [] then [((g : Int), A1.getD g [], A2.getD g [])] else []
theorem stepsM_succ (A1 A2 : List (List Int)) (B1 B2 : List Bool) (n i : Nat) : stepsM A1 A2 B1 B2 n (i + 1) = stepsM A1 A2 B1 B2 n i ++ segM A1 A2 B1 B2 n i := by simp [stepsM, List.range_succ]
theorem confM_succ (A1 A2 : List (List Int)) (i : Nat) : confM A1 A2 (i + 1) = confM A1 A2 i ++ (if A1.getD i [] ≠ [] ∧ A2.getD i [] ≠ [] ∧ A1.getD i [] ≠ A2.getD i [] then [((i : Int), A1.getD i [], A2.getD i [])] else []) := by simp [confM, List.range_succ]
theorem ad_len (xs : List Int) : (ad xs).length ≤ 1 := by
  unfold ad
  split <;> simp
theorem ad_tot (xs : List Int) : tot (ad xs) = xs.length := by
  unfold ad
  split
  · simp [tot, Step.sz]
  · simp [tot]; omega
theorem segM_len (A1 A2 : List (List Int)) (B1 B2 : List Bool) (n g : Nat) : (segM A1 A2 B1 B2 n g).length ≤ 3 := by
  have h1 := ad_len (A1.getD g [])
  have h2 := ad_len (A2.getD g [])
  unfold segM
  rw [List.length_append, List.length_append]
  split <;> split <;> simp only [List.length_singleton, List.length_nil] <;> omega
theorem segM_tot (A1 A2 : List (List Int)) (B1 B2 : List Bool) (n g : Nat) : tot (segM A1 A2 B1 B2 n g) ≤ (A1.getD g []).length + (A2.getD g []).length + 1 := by
  have h1 := ad_tot (A1.getD g [])
  have h2 := ad_tot (A2.getD g [])
  have h3 : ∀ b : Bool, tot [if b = true then Step.keep 1 else Step.drop 1] = 1 := fun b => by cases b <;> rfl
  unfold segM
  rw [tot_app, tot_app, h1]
  have h0 : tot ([] : List Step) = 0 := rfl
  split <;> split <;> simp only [h2, h3, h0] <;> omega
theorem sum_range_le (A : List (List Int)) (i : Nat) : ((List.range i).map fun g => (A.getD g []).length).sum ≤ sumL A := by
  induction A generalizing i with
  | nil =>
    have z : ∀ l : List Nat, (l.map fun _ => 0).sum = 0 := fun l => by induction l <;> simp_all
    have e : (fun g : Nat => (([] : List (List Int)).getD g []).length) = fun _ => 0 := by funext g; simp
    rw [e, z]
    exact Nat.zero_le _
  | cons a A ih =>
    cases i with
    | zero => simp
    | succ i =>
      have := ih i
      rw [List.range_succ_eq_map, List.map_cons, List.map_map, List.sum_cons]
      have e : ((fun g => ((a :: A).getD g []).length) ∘ Nat.succ) = fun g => (A.getD g []).length := by funext g; simp
      rw [e]
      simp only [sumL, List.map_cons, List.sum_cons, List.getD_cons_zero] at this ⊢
      omega
theorem stepsM_len (A1 A2 : List (List Int)) (B1 B2 : List Bool) (n i : Nat) : (stepsM A1 A2 B1 B2 n i).length ≤ 3 * i := by
  induction i with
  | zero => simp [stepsM]
  | succ i ih =>
    have := segM_len A1 A2 B1 B2 n i
    rw [stepsM_succ, List.length_append]
    omega
theorem stepsM_tot (A1 A2 : List (List Int)) (B1 B2 : List Bool) (n i : Nat) : tot (stepsM A1 A2 B1 B2 n i) ≤ sumL A1 + sumL A2 + i := by
  have h1 := sum_range_le A1 i
  have h2 := sum_range_le A2 i
  have h : tot (stepsM A1 A2 B1 B2 n i) ≤ ((List.range i).map fun g => (A1.getD g []).length).sum + ((List.range i).map fun g => (A2.getD g []).length).sum + i := by
    clear h1 h2
    induction i with
    | zero => simp [stepsM, tot]
    | succ i ih =>
      have := segM_tot A1 A2 B1 B2 n i
      rw [stepsM_succ, tot_app, List.range_succ, List.map_append, List.map_append, List.sum_append, List.sum_append]
      simp only [List.map_cons, List.map_nil, List.sum_cons, List.sum_nil]
      omega
  omega
theorem confM_len (A1 A2 : List (List Int)) (i : Nat) : (confM A1 A2 i).length ≤ i := by
  induction i with
  | zero => simp [confM]
  | succ i ih =>
    rw [confM_succ, List.length_append]
    split <;> simp <;> omega
def ConfAt (K : PySem.W.Frag) (H : Hp) (v : V) (c : Int × List Int × List Int) : Prop := ∃ t x y, v = .ref t ∧ SqT K H t [.int c.1, .ref x, .ref y] ∧ SqT K H x (c.2.1.map V.int) ∧ SqT K H y (c.2.2.map V.int)
def ConfsV (K : PySem.W.Frag) (H : Hp) (vs : List V) (cs : List (Int × List Int × List Int)) : Prop := Paired (ConfAt K H) vs cs
theorem ConfAt.keeps {K : PySem.W.Frag} {H H' : Hp} (e : ∀ t ys, SqT K H t ys → SqT K H' t ys) {v : V} {c : Int × List Int × List Int} : ConfAt K H v c → ConfAt K H' v c
  | ⟨t, x, y, h1, h2, h3, h4⟩ => ⟨t, x, y, h1, e _ _ h2, e _ _ h3, e _ _ h4⟩
theorem ConfsV.keeps {K : PySem.W.Frag} {H H' : Hp} (e : ∀ t ys, SqT K H t ys → SqT K H' t ys) : ∀ {vs : List V} {cs : List (Int × List Int × List Int)}, ConfsV K H vs cs → ConfsV K H' vs cs
  | _, _, .nil => .nil
  | _, _, .cons h r => .cons (h.keeps e) (ConfsV.keeps e r)
theorem ConfsV.app {K : PySem.W.Frag} {H : Hp} : ∀ {a b : List V} {x y : List (Int × List Int × List Int)}, ConfsV K H a x → ConfsV K H b y → ConfsV K H (a ++ b) (x ++ y)
  | _, _, _, _, .nil, h => h
  | _, _, _, _, .cons h r, h2 => .cons h (ConfsV.app r h2)
theorem ConfsV.length {K : PySem.W.Frag} {H : Hp} {vs : List V} {cs : List (Int × List Int × List Int)} (h : ConfsV K H vs cs) : vs.length = cs.length := Paired.length h
/-- the two lists that are being written: the steps at sp, the conflicts at cp -/
structure MidM (K : PySem.W.Frag) (HB H' : Hp) (sp cp : Addr) (st : List Step) (cf : List (Int × List Int × List Int)) : Prop where
  same : Same HB H'
  stp : ∃ ws, H' sp = some (.lst ws) ∧ ScrV K H' ws st
  cnf : ∃ cs, H' cp = some (.lst cs) ∧ ConfsV K H' cs cf
theorem MidM.more {K : PySem.W.Frag} {HB H H' : Hp} {sp cp : Addr} {st : List Step} {cf : List (Int × List Int × List Int)} (e : Same H H') (h : MidM K HB H sp cp st cf) : MidM K HB H' sp cp st cf :=
  ⟨h.same.trans e, h.stp.elim fun ws z => ⟨ws, e _ _ z.1, z.2.keeps (sqT_same e)⟩, h.cnf.elim fun cs z => ⟨cs, e _ _ z.1, z.2.keeps (sqT_same e)⟩⟩
theorem MidM.puts {K : PySem.W.Frag} {HB H : Hp} {sp cp : Addr} {st s2 : List Step} {cf : List (Int × List Int × List Int)} {ws w2 : List V} (h : MidM K HB H sp cp st cf) (hs : HB sp = none) (hne : cp ≠ sp) (hw : H sp = some (.lst ws)) (hv : ScrV K H ws st) (h2 : ScrV K H w2 s2) : MidM K HB (upd H sp (.lst (ws ++ w2))) sp cp (st ++ s2) cf :=
  ⟨same_new h.same hs, ⟨_, upd_same, (hv.app h2).keeps (sqT_lst hw)⟩, h.cnf.elim fun cs z => ⟨cs, by rw [upd_ne hne]; exact z.1, z.2.keeps (sqT_lst hw)⟩⟩
theorem MidM.putc {K : PySem.W.Frag} {HB H : Hp} {sp cp : Addr} {st : List Step} {cf c2 : List (Int × List Int × List Int)} {cs w2 : List V} (h : MidM K HB H sp cp st cf) (hs : HB cp = none) (hne : sp ≠ cp) (hw : H cp = some (.lst cs)) (hv : ConfsV K H cs cf) (h2 : ConfsV K H w2 c2) : MidM K HB (upd H cp (.lst (cs ++ w2))) sp cp st (cf ++ c2) :=
  ⟨same_new h.same hs, h.stp.elim fun ws z => ⟨ws, by rw [upd_ne hne]; exact z.1, z.2.keeps (sqT_lst hw)⟩, ⟨_, upd_same, (hv.app h2).keeps (sqT_lst hw)⟩⟩
def spAdding (K : PySem.W.Frag) : Sp := fun vs H Q _ => ∃ (t : Addr) (xs : List Int), vs = [.ref t] ∧ SqT K H t (xs.map V.int) ∧ ∀ p H' ws, Same H H' → H' p = some (.lst ws) → ScrV K H' ws (ad xs) → Q (.ref p) H'
theorem ok__adding (T : Txt K mg C_InvalidScript c_taken_items P_taken_items) : Ok P w K mg base CX0 1 "_adding" ["items"] (spAdding K) := by
  refine ok_of T.d__adding fun f fd F => F.ok sc__adding (fun vs H Q E h => ?_) (fun cdv A outer s H vs Q E hr h => ?_)
  · obtain ⟨t, xs, rfl, _⟩ := h
    rfl
  · obtain ⟨t, xs, rfl, hT, kQ⟩ := h
    have nd := sc__adding.nd
    have hu64 : (A.deeper (envOfC "_adding" (defScope s__adding) s.heap.objs.size f cdv)).units + 64 < cLine := by
      have := hr.un
      omega
    refine ⟨_,       (pss_one (ps_ret (pe_ifExp (pt_cmpR (op_neD hu64) (pv 0) (pe_tup pa_nil) (nomark _)) (pe_lst (pa_cons (pe_tup (pa_cons pe_str (pa_cons (pv 0) pa_nil))) pa_nil)) (pe_lst pa_nil)))), ?_⟩
    refine ⟨_, rfl, (by show 0 ≤ sizeLine; decide), fun u hu => ?_⟩
    have f1 := same_upd (o := .tup ([] : List V)) hu
    have hT1 := sqT_same (K := K) f1 _ _ hT
    refine ⟨_, _, dp_tints hT1, dp_tints (xs := []) (SqT.of upd_same), shaped_tints _, shaped_tints _, neT (fun h => ?_) (fun h => ?_)⟩
    · refine ⟨_, rfl, (by show 2 ≤ sizeLine; decide), fun v hv => ⟨(by show 1 ≤ sizeLine; decide), fun l hl => ?_⟩⟩
      have f2 := same_upd (o := .tup [V.str "add", V.ref t]) hv
      have f3 := same_upd (o := .lst [V.ref v]) hl
      refine kQ l _ [V.ref v] ((f1.trans f2).trans f3) upd_same ?_
      rw [adP (by intro z; exact h (List.eq_nil_of_length_eq_zero z))]
      exact .cons ⟨v, t, rfl, SqT.of (f3 _ _ upd_same), sqT_same (f2.trans f3) _ _ hT1⟩ .nil
    · refine ⟨by decide, fun l hl => ?_⟩
      have f3 := same_upd (o := .lst ([] : List V)) hl
      refine kQ l _ [] (f1.trans f3) upd_same ?_
      rw [h]
      exact .nil

-- @@CUT
def spMerged (K : PySem.W.Frag) (P_ C : Addr) : Sp := fun vs H Q E => ∃ (b c1 c2 : Addr) (old : List Int) (s1 s2 : List Step), vs = [.ref b, .ref c1, .ref c2] ∧ SqL K H b (old.map V.int) ∧ ScrAt K H c1 s1 ∧ ScrAt K H c2 s2 ∧ GxR.TabG H P_ ∧ tot s1 ≤ 12000 ∧ tot s2 ≤ 12000 ∧ old.length ≤ 60 ∧
  (¬ (taken s1 = old.length ∧ taken s2 = old.length) → ∀ H', GX.Sm H H' → E (.ref C) none H') ∧
  (taken s1 = old.length → taken s2 = old.length → ∀ u p q ws cs H', GX.Sm H H' → H' u = some (.tup [.ref p, .ref q]) → H' p = some (.lst ws) → ScrV K H' ws (nf (stepsM (gapsO s1) (gapsO s2) (keptO s1) (keptO s2) old.length (old.length + 1))) → H' q = some (.lst cs) → ConfsV K H' cs (confM (gapsO s1) (gapsO s2) (old.length + 1)) → Q (.ref u) H')
@[reducible] def stM (b c1 c2 k1 a1 k2 a2 sp cp : Addr) (v9 v10 v11 : Option V) : L2.St := [some (.ref b), some (.ref c1), some (.ref c2), some (.ref k1), some (.ref a1), some (.ref k2), some (.ref a2), some (.ref sp), some (.ref cp), v9, v10, v11]
theorem ok_merged (T : Txt K mg C_InvalidScript c_taken_items P_taken_items) : Ok P w K mg base (CXN P w) 7 "merged" ["old", "first", "second"] (spMerged K P_taken_items C_InvalidScript) := by
  have G__keeps_and_adds := ok__keeps_and_adds (P := P) (w := w) (base := base) T
  have G__adding := ok__adding (P := P) (w := w) (base := base) T
  have G_normalized := ok_normalized (P := P) (w := w) (base := base) T
  refine ok_of T.d_merged fun f fd F => okN F sc_merged (fun vs H Q E h => ?_) (fun cdv A outer s H vs Q E hr h => ?_)
  · obtain ⟨b, c1, c2, old, s1, s2, rfl, _⟩ := h
    rfl
  · obtain ⟨b, c1, c2, old, s1, s2, rfl, hO, hS1, hS2, tb, ht1, ht2, hol, kE, kQ⟩ := h
    have nd := sc_merged.nd
    have hu64 : (A.deeper (envOfC "merged" (defScope s_merged) s.heap.objs.size f cdv)).units + 64 < cLine := by
      have := hr.un
      omega
    have po := passes_of (X := cxOf (CXN P w) P w K mg base N_merged "merged" (defScope s_merged) f cdv A outer s H E) rfl
    refine ⟨_,       (pss_cons (ps_asg (pe_callO G__keeps_and_adds (hr.mono (by decide)) (passX (L2N.takes_of rfl rfl rfl rfl) (fun _ _ _ z => z)) (pa_cons (pv 0) (pa_cons (pv 1) pa_nil))) (pg_tup rfl (pgs_cons (pg_name (i := 3) nd rfl (Or.inl rfl)) (pgs_cons (pg_name (i := 4) nd rfl (Or.inl rfl)) pgs_nil))))
      (pss_cons (ps_asg (pe_callO G__keeps_and_adds (hr.mono (by decide)) (passX (L2N.takes_of rfl rfl rfl rfl) (fun _ _ _ z => z)) (pa_cons (pv 0) (pa_cons (pv 2) pa_nil))) (pg_tup rfl (pgs_cons (pg_name (i := 5) nd rfl (Or.inl rfl)) (pgs_cons (pg_name (i := 6) nd rfl (Or.inl rfl)) pgs_nil))))
      (pss_cons (ps_set (i := 7) nd rfl (Or.inl rfl) (pe_lst pa_nil))
      (pss_cons (ps_set (i := 8) nd rfl (Or.inl rfl) (pe_lst pa_nil))
      (pss_cons (ps_for po rfl (pi_range1 rfl T.n_range (pa_cons (pe_op op_add (pe_callB call_len_seq (by rfl) T.n_len PySem.boot_len (pa_cons (pv 0) pa_nil)) pe_int) pa_nil)) (pg_name (i := 9) nd rfl (Or.inl rfl))
        (pss_cons (ps_par (i := 10) (j := 11) (by rfl) nd rfl rfl (by decide) rfl rfl (pa_cons (pe_ix ix_list (pv 4) (pv 9) (fun _ _ => rfl)) (pa_cons (pe_ix ix_list (pv 6) (pv 9) (fun _ _ => rfl)) pa_nil)) (by rfl))
        (Evl.pss_cut (ps_if (PW.pt (pw_and (pt_cmpR (op_neD hu64) (pv 10) (pe_tup pa_nil) (nomark _)) (pw_and (pt_cmpR (op_neD hu64) (pv 11) (pe_tup pa_nil) (nomark _)) (pw_and1 (pt_cmpR (op_neD hu64) (pv 10) (pv 11) (nomark _))))))
          (pss_one (ps_expr (pe_bm PySem.F.plainAttrs_list PySem.F.slot_list_append PySem.F.type_list_append mt_append (pv 8) (pa_cons (pe_tup (pa_cons (pv 9) (pa_cons (pv 10) (pa_cons (pv 11) pa_nil)))) pa_nil)))) pss_nil)
        (Evl.pss_cut (ps_expr (pe_bm PySem.F.plainAttrs_list PySem.F.slot_list_extend PySem.F.type_list_extend mt_extend (pv 7) (pa_cons (pe_callO G__adding (hr.mono (by decide)) pass0 (pa_cons (pv 10) pa_nil)) pa_nil)))
        (Evl.pss_cut (ps_if (pt_cmpR (op_neD hu64) (pv 11) (pv 10) (nomark _))
          (pss_one (ps_expr (pe_bm PySem.F.plainAttrs_list PySem.F.slot_list_extend PySem.F.type_list_extend mt_extend (pv 7) (pa_cons (pe_callO G__adding (hr.mono (by decide)) pass0 (pa_cons (pv 11) pa_nil)) pa_nil)))) pss_nil)
        (pss_one (ps_if (pt_cmpR op_lt (pv 9) (pe_callB call_len_seq (by rfl) T.n_len PySem.boot_len (pa_cons (pv 0) pa_nil)) (nomark _))
          (pss_one (ps_expr (pe_bm PySem.F.plainAttrs_list PySem.F.slot_list_append PySem.F.type_list_append mt_append (pv 7) (pa_cons (pe_tup (pa_cons (pe_ifExp (PW.pt (pw_and (pt_val (pe_ix ix_list (pv 3) (pv 9) (fun _ _ => rfl))) (pw_and1 (pt_val (pe_ix ix_list (pv 5) (pv 9) (fun _ _ => rfl)))))) pe_str pe_str) (pa_cons pe_int pa_nil))) pa_nil)))) pss_nil)))))))
      (pss_one (ps_ret (pe_tup (pa_cons (pe_callO G_normalized (hr.mono (by decide)) pass0 (pa_cons (pv 7) pa_nil)) (pa_cons (pv 8) pa_nil)))))))))), ?_⟩
    refine ⟨_, rfl, _, rfl, b, c1, old, s1, rfl, hO, hS1, tb, by omega, fun hn H' e => kE (fun z => hn z.1) H' e, fun hk1 u1 kp1 ap1 us1 H1 e1 hu1 hK1 hA1 hU1 => ?_⟩
    refine ⟨u1, _, rfl, SqT.of hu1, rfl, _, _, rfl, _, _, rfl, rfl, ?_⟩
    have hS2' : ScrAt K H1 c2 s2 := hS2.elim fun vs z => ⟨vs, e1.seq z.1, z.2.keeps (sqT_sm e1)⟩
    refine ⟨_, rfl, _, rfl, b, c2, old, s2, rfl, e1.seq hO, hS2', e1.tab _ tb, by omega, fun hn H' e => kE (fun z => hn z.2) H' (e1.trans e), fun hk2 u2 kp2 ap2 us2 H2 e2 hu2 hK2 hA2 hU2 => ?_⟩
    refine ⟨u2, _, rfl, SqT.of hu2, rfl, _, _, rfl, _, _, rfl, rfl, ?_⟩
    have hK1 := e2.l hK1
    have hA1 := e2.l hA1
    have hU1 := hU1.keeps (sqT_sm e2)
    have hO2 := e2.seq (e1.seq hO)
    have e12 := e1.trans e2
    have kR := kQ hk1 hk2
    have hg1 := gapsO_len s1
    have hg2 := gapsO_len s2
    have hb1 := keptO_len s1
    have hb2 := keptO_len s2
    have hm1 : sumL (gapsO s1) ≤ 12000 := by have := gapsO_sum s1; omega
    have hm2 : sumL (gapsO s2) ≤ 12000 := by have := gapsO_sum s2; omega
    rw [hk1] at hg1 hb1
    rw [hk2] at hg2 hb2
    clear kQ kE hu1 hu2 hS1 hS2 hS2'
    generalize gapsO s1 = A1 at hU1 hg1 hm1 kR
    generalize gapsO s2 = A2 at hU2 hg2 hm2 kR
    generalize keptO s1 = B1 at hK1 hb1 kR
    generalize keptO s2 = B2 at hK2 hb2 kR
    refine ⟨by decide, fun sp hsp => ⟨by decide, fun cp hcp => ?_⟩⟩
    have f1 := same_upd (o := .lst ([] : List V)) hsp
    have f2 := same_upd (o := .lst ([] : List V)) hcp
    have hsc : sp ≠ cp := fun z => by
      rw [← z, upd_same] at hcp
      cases hcp
    have hcp2 : H2 cp = none := f1.free hcp
    have hM0 : MidM K H2 (upd (upd H2 sp (.lst [])) cp (.lst [])) sp cp (stepsM A1 A2 B1 B2 old.length 0) (confM A1 A2 0) := ⟨f1.trans f2, ⟨[], f2 _ _ upd_same, .nil⟩, ⟨[], upd_same, .nil⟩⟩
    refine ⟨_, rfl, b, _, rfl, .inl ((f1.trans f2).seq hO2), _, _, rfl, rfl, (old.length : Int) + 1, (by rw [List.length_map]), by omega, by omega, ?_⟩
    rw [show ((old.length : Int) + 1).toNat = old.length + 1 by omega]
    refine for_range (lo := 0) (n := old.length + 1) (fun i σ H' => MidM K H2 H' sp cp (stepsM A1 A2 B1 B2 old.length i) (confM A1 A2 i) ∧ ∃ v9 v10 v11 : Option V, σ = stM b c1 c2 kp1 ap1 kp2 ap2 sp cp v9 v10 v11) ⟨hM0, none, none, none, rfl⟩ ?_ ?_
    · rintro i σ H3 hi ⟨hM, v9, v10, v11, rfl⟩
      rw [Int.zero_add]
      obtain ⟨x, hx, tx, rfl, hX⟩ := hU1.get (i := i) (by omega)
      obtain ⟨y, hy, ty, rfl, hY⟩ := hU2.get (i := i) (by omega)
      refine ⟨_, rfl, _, rfl, ap1, _, _, .ref tx, rfl, rfl, SqL.of (hM.same _ _ hA1), atI_nat hx, _, rfl, _, rfl, ap2, _, _, .ref ty, rfl, rfl, SqL.of (hM.same _ _ hA2), atI_nat hy, _, _, rfl, ?_⟩
      rw [stepsM_succ, confM_succ]
      unfold segM
      generalize A1.getD i [] = x1 at hX
      generalize A2.getD i [] = y1 at hY
      -- the conflict
      refine ⟨fun σ' H' => MidM K H2 H' sp cp (stepsM A1 A2 B1 B2 old.length i) (confM A1 A2 i ++ (if x1 ≠ [] ∧ y1 ≠ [] ∧ x1 ≠ y1 then [((i : Int), x1, y1)] else [])) ∧ σ' = stM b c1 c2 kp1 ap1 kp2 ap2 sp cp (some (.int (i : Int))) (some (.ref tx)) (some (.ref ty)), ?_, ?_⟩
      · have stay : ∀ {H' : Hp}, Same H3 H' → ¬ (x1 ≠ [] ∧ y1 ≠ [] ∧ x1 ≠ y1) → MidM K H2 H' sp cp (stepsM A1 A2 B1 B2 old.length i) (confM A1 A2 i ++ (if x1 ≠ [] ∧ y1 ≠ [] ∧ x1 ≠ y1 then [((i : Int), x1, y1)] else [])) ∧ stM b c1 c2 kp1 ap1 kp2 ap2 sp cp (some (.int (i : Int))) (some (.ref tx)) (some (.ref ty)) = stM b c1 c2 kp1 ap1 kp2 ap2 sp cp (some (.int (i : Int))) (some (.ref tx)) (some (.ref ty)) := fun e hn => by
          rw [if_neg hn, List.append_nil]
          exact ⟨hM.more e, rfl⟩
        have hX3 := sqT_same (K := K) hM.same _ _ hX
        have hY3 := sqT_same (K := K) hM.same _ _ hY
        refine ⟨_, rfl, (by show 0 ≤ sizeLine; decide), fun u hu => ?_⟩
        have g1 := same_upd (o := .tup ([] : List V)) hu
        refine ⟨_, _, dp_tints (sqT_same g1 _ _ hX3), dp_tints (xs := []) (SqT.of upd_same), shaped_tints _, shaped_tints _, neT (fun h1 => ?_) (fun h1 => stay g1 fun z => z.1 h1)⟩
        refine ⟨_, rfl, (by show 0 ≤ sizeLine; decide), fun u2 hu2 => ?_⟩
        have g2 := g1.trans (same_upd (o := .tup ([] : List V)) hu2)
        refine ⟨_, _, dp_tints (sqT_same g2 _ _ hY3), dp_tints (xs := []) (SqT.of upd_same), shaped_tints _, shaped_tints _, neT (fun h2 => ?_) (fun h2 => stay g2 fun z => z.2.1 h2)⟩
        refine ⟨_, rfl, _, rfl, _, _, dp_tints (sqT_same g2 _ _ hX3), dp_tints (sqT_same g2 _ _ hY3), shaped_tints _, shaped_tints _, neT (fun h3 => ?_) (fun h3 => stay g2 fun z => z.2.2 h3)⟩
        rw [if_pos ⟨h1, h2, h3⟩]
        have hM' := hM.more g2
        obtain ⟨cs, hcs, hCs⟩ := hM'.cnf
        refine ⟨_, rfl, .inl ⟨rfl, _, SqL.of hcs⟩, _, rfl, _, rfl, _, rfl, (by show 3 ≤ sizeLine; decide), fun v hv => ?_⟩
        have g3 := same_upd (o := .tup [V.int (i : Int), V.ref tx, V.ref ty]) hv
        have hM3 := hM'.more g3
        have hcl := confM_len A1 A2 i
        have hcl2 := hCs.length
        refine ⟨cp, _, _, rfl, rfl, g3 _ _ hcs, small (by omega), ?_, rfl⟩
        exact hM3.putc hcp2 hsc (g3 _ _ hcs) (hCs.keeps (sqT_same g3)) (.cons ⟨v, tx, ty, rfl, SqT.of upd_same, sqT_same g3 _ _ (sqT_same g2 _ _ hX3), sqT_same g3 _ _ (sqT_same g2 _ _ hY3)⟩ .nil)
      rintro σ4 H4 ⟨hM4, rfl⟩
      generalize hcf : confM A1 A2 i ++ (if x1 ≠ [] ∧ y1 ≠ [] ∧ x1 ≠ y1 then [((i : Int), x1, y1)] else []) = cf at hM4
      have hsl := stepsM_len A1 A2 B1 B2 old.length i
      -- steps.extend(_adding(own))
      refine ⟨fun σ' H' => MidM K H2 H' sp cp (stepsM A1 A2 B1 B2 old.length i ++ ad x1) cf ∧ σ' = stM b c1 c2 kp1 ap1 kp2 ap2 sp cp (some (.int (i : Int))) (some (.ref tx)) (some (.ref ty)), ?_, ?_⟩
      · obtain ⟨ws, hws, hWs⟩ := hM4.stp
        refine ⟨_, rfl, .inl ⟨rfl, _, SqL.of hws⟩, _, rfl, tx, x1, rfl, sqT_same hM4.same _ _ hX, fun p H5 w2 e5 hp hW2 => ?_⟩
        have hwl := hWs.length
        have hw2 := hW2.length
        have := ad_len x1
        exact ⟨sp, p, _, _, rfl, rfl, e5 _ _ hws, hp, smallE (by omega), (hM4.more e5).puts hsp (fun z => hsc z.symm) (e5 _ _ hws) (hWs.keeps (sqT_same e5)) hW2, rfl⟩
      rintro σ5 H5 ⟨hM5, rfl⟩
      -- if other != own
      refine ⟨fun σ' H' => MidM K H2 H' sp cp (stepsM A1 A2 B1 B2 old.length i ++ ad x1 ++ (if y1 = x1 then [] else ad y1)) cf ∧ σ' = stM b c1 c2 kp1 ap1 kp2 ap2 sp cp (some (.int (i : Int))) (some (.ref tx)) (some (.ref ty)), ?_, ?_⟩
      · have hX5 := sqT_same (K := K) hM5.same _ _ hX
        have hY5 := sqT_same (K := K) hM5.same _ _ hY
        refine ⟨_, rfl, _, rfl, _, _, dp_tints hY5, dp_tints hX5, shaped_tints _, shaped_tints _, neT (fun h => ?_) (fun h => ?_)⟩
        · rw [if_neg h]
          obtain ⟨ws, hws, hWs⟩ := hM5.stp
          refine ⟨_, rfl, .inl ⟨rfl, _, SqL.of hws⟩, _, rfl, ty, y1, rfl, hY5, fun p H6 w2 e6 hp hW2 => ?_⟩
          have hwl := hWs.length
          have hw2 := hW2.length
          have := ad_len x1
          have := ad_len y1
          rw [List.length_append] at hwl
          exact ⟨sp, p, _, _, rfl, rfl, e6 _ _ hws, hp, smallE (by omega), (hM5.more e6).puts hsp (fun z => hsc z.symm) (e6 _ _ hws) (hWs.keeps (sqT_same e6)) hW2, rfl⟩
        · rw [if_pos h, List.append_nil]
          exact ⟨hM5, rfl⟩
      rintro σ6 H6 ⟨hM6, rfl⟩
      -- if gap < len(old)
      refine ⟨_, rfl, _, rfl, b, _, rfl, .inl (hM6.same.seq hO2), _, _, rfl, rfl, _, rfl, ?_⟩
      rw [List.length_map]
      refine itd (fun h => ?_) (fun h => ?_)
      · have hi2 : i < old.length := by omega
        rw [if_pos hi2, ← List.append_assoc, ← List.append_assoc]
        obtain ⟨ws, hws, hWs⟩ := hM6.stp
        have hat : ∀ {B : List Bool}, B.length = old.length → atI (B.map V.bl) (i : Int) = some (.bl (B.getD i false)) := fun {B} hB => by
          have : i < B.length := by omega
          refine atI_nat ?_
          rw [List.getElem?_map, List.getD_eq_getElem?_getD, List.getElem?_eq_getElem this]
          rfl
        have hwl := hWs.length
        have h1 := ad_len x1
        have h2 : (if y1 = x1 then [] else ad y1).length ≤ 1 := by
          have := ad_len y1
          split
          · exact Nat.zero_le _
          · exact this
        rw [List.length_append, List.length_append] at hwl
        have fin : ∀ {x : Str} {s : Step}, (∀ {H' : Hp} {v : Addr}, SqT K H' v [.str x, .int 1] → StepAt K H' (.ref v) s) → ∀ v, H6 v = none → ∀ {s' : Step}, s' = s → MidM K H2 (upd (upd H6 v (.tup [.str x, .int 1])) sp (.lst (ws ++ [.ref v]))) sp cp (stepsM A1 A2 B1 B2 old.length i ++ ad x1 ++ (if y1 = x1 then [] else ad y1) ++ [s']) cf := fun {x s} hs v hv s' es => by
          have g := same_upd (o := .tup [V.str x, V.int 1]) hv
          rw [es]
          exact (hM6.more g).puts hsp (fun z => hsc z.symm) (g _ _ hws) (hWs.keeps (sqT_same g)) (.cons (hs (SqT.of upd_same)) .nil)
        refine ⟨_, rfl, .inl ⟨rfl, _, SqL.of hws⟩, _, rfl, _, rfl, kp1, _, _, .bl (B1.getD i false), rfl, rfl, SqL.of (hM6.same _ _ hK1), hat hb1, _, rfl, ?_⟩
        generalize B1.getD i false = b1
        cases b1 with
        | false =>
          refine iteF ⟨(by show 2 ≤ sizeLine; decide), fun v hv => ?_⟩
          have g := same_upd (o := .tup [V.str "drop", V.int 1]) hv
          exact ⟨sp, _, _, rfl, rfl, g _ _ hws, small (by omega), fin (s := .drop 1) (fun hT => ⟨_, rfl, hT⟩) v hv rfl, _, _, _, rfl⟩
        | true =>
          refine iteT ⟨_, rfl, _, rfl, kp2, _, _, .bl (B2.getD i false), rfl, rfl, SqL.of (hM6.same _ _ hK2), hat hb2, _, rfl, ?_⟩
          generalize B2.getD i false = b2
          cases b2 with
          | false =>
            refine iteF ⟨(by show 2 ≤ sizeLine; decide), fun v hv => ?_⟩
            have g := same_upd (o := .tup [V.str "drop", V.int 1]) hv
            exact ⟨sp, _, _, rfl, rfl, g _ _ hws, small (by omega), fin (s := .drop 1) (fun hT => ⟨_, rfl, hT⟩) v hv rfl, _, _, _, rfl⟩
          | true =>
            refine iteT ⟨(by show 2 ≤ sizeLine; decide), fun v hv => ?_⟩
            have g := same_upd (o := .tup [V.str "keep", V.int 1]) hv
            exact ⟨sp, _, _, rfl, rfl, g _ _ hws, small (by omega), fin (s := .keep 1) (fun hT => ⟨_, rfl, hT⟩) v hv rfl, _, _, _, rfl⟩
      · have hi2 : ¬ i < old.length := by omega
        rw [if_neg hi2, List.append_nil, ← List.append_assoc]
        exact ⟨hM6, _, _, _, rfl⟩
    · rintro σ H3 ⟨hM, v9, v10, v11, rfl⟩
      obtain ⟨ws, hws, hWs⟩ := hM.stp
      have h1 := stepsM_len A1 A2 B1 B2 old.length (old.length + 1)
      have h2 := stepsM_tot A1 A2 B1 B2 old.length (old.length + 1)
      refine ⟨_, rfl, sp, _, rfl, ⟨ws, SqL.of hws, hWs⟩, by omega, by omega, fun p H4 w4 hp e4 hp4 hW4 => ?_⟩
      obtain ⟨cs, hcs, hCs⟩ := (hM.more e4).cnf
      refine ⟨_, rfl, (by show 2 ≤ sizeLine; decide), fun u hu => ?_⟩
      have g := same_upd (o := .tup [V.ref p, V.ref cp]) hu
      exact kR u p cp w4 cs _ (GX.Sm.trans e12 (GX.Sm.of ((hM.same.trans e4).trans g))) upd_same (g _ _ hp4) (hW4.keeps (sqT_same g)) (g _ _ hcs) (hCs.keeps (sqT_same g))

-- @@CUT
theorem sqT_dK {K : PySem.W.Frag} {H : Hp} {l : Addr} {xs ws : List (Key × V)} (hl : H l = some (.dK xs)) (t : Addr) (ys : List V) (h : SqT K H t ys) : SqT K (upd H l (.dK ws)) t ys := by
  rcases h with (h | ⟨o, h⟩) | h
  · exact .inl (.inl (by rw [upd_ne (fun z => by rw [z, hl] at h; cases h)]; exact h))
  · exact .inl (.inr ⟨o, by rw [upd_ne (fun z => by rw [z, hl] at h; cases h)]; exact h⟩)
  · exact .inr h
/-- before an add step of a normal form stands no add step -/
theorem nf_prev : ∀ {ss : List Step} {b : Str}, nfOk b ss → ∀ (i : Nat) (xs : List Int), ss[i]? = some (.add xs) → (i = 0 → b ≠ "add") ∧ ∀ j, i = j + 1 → ∃ s, ss[j]? = some s ∧ s.kd ≠ "add" ∧ 0 < s.sz
  | [], _, _, i, xs, h => by simp at h
  | s :: r, b, hn, 0, xs, h => by
    simp at h
    subst h
    exact ⟨fun _ z => hn.1 z.symm, fun j hj => by omega⟩
  | s :: r, b, hn, i + 1, xs, h => by
    have ih := nf_prev hn.2.2.2 i xs (by simpa using h)
    refine ⟨fun z => by omega, fun j hj => ?_⟩
    obtain rfl : i = j := by omega
    cases i with
    | zero => exact ⟨s, rfl, ih.1 rfl, hn.2.1⟩
    | succ i =>
      obtain ⟨s2, h1, h2⟩ := ih.2 i rfl
      exact ⟨s2, by simpa using h1, h2⟩
theorem gap_empty {ss : List Step} (hn : nfOk "" ss) {i : Nat} {xs : List Int} (h : ss[i]? = some (.add xs)) : (gapsO (ss.take i)).getD (taken (ss.take i)) [] = [] := by
  cases i with
  | zero => rfl
  | succ j =>
    obtain ⟨s, h1, h2, h3⟩ := (nf_prev hn (j + 1) xs h).2 j rfl
    obtain ⟨hj, rfl⟩ := List.getElem?_eq_some_iff.mp h1
    have hl := gapsO_len (ss.take j)
    rw [take_snoc hj, gapsO_snoc, taken_snoc]
    have rep : ∀ n : Nat, 0 < n → (gapsO (ss.take j) ++ List.replicate n []).getD (taken (ss.take j) + n) [] = ([] : List Int) := fun n hn0 => by
      rw [List.getD_eq_getElem?_getD, List.getElem?_append_right (by omega), hl]
      cases q : (List.replicate n ([] : List Int))[taken (ss.take j) + n - (taken (ss.take j) + 1)]? with
      | none => rfl
      | some v =>
        rw [List.eq_of_mem_replicate (List.mem_of_getElem? q)]
        rfl
    generalize ss[j] = s at h2 h3 ⊢
    cases s with
    | keep n => exact rep n h3
    | drop n => exact rep n h3
    | add ys => exact absurd rfl h2
/-- a dict that has the gaps that are not empty -/
def DictG (K : PySem.W.Frag) (H : Hp) (kvs : List (Key × V)) (A : List (List Int)) : Prop := ∀ g : Nat, (∃ v, valV kvs (Sum.inl (g : Int)) = some v ∧ TupV K H v (A.getD g [])) ∨ (valV kvs (Sum.inl (g : Int)) = none ∧ A.getD g [] = [])
theorem DictG.keeps {K : PySem.W.Frag} {H H' : Hp} (e : ∀ t ys, SqT K H t ys → SqT K H' t ys) {kvs : List (Key × V)} {A : List (List Int)} (h : DictG K H kvs A) : DictG K H' kvs A := fun g => (h g).imp (fun ⟨v, h1, h2⟩ => ⟨v, h1, h2.keeps e⟩) id
theorem DictG.more {K : PySem.W.Frag} {H : Hp} {kvs : List (Key × V)} {A : List (List Int)} (h : DictG K H kvs A) (n : Nat) : DictG K H kvs (A ++ List.replicate n []) := fun g => by
  have e : (A ++ List.replicate n []).getD g [] = A.getD g [] := by
    by_cases hg : g < A.length
    · rw [List.getD_eq_getElem?_getD, List.getD_eq_getElem?_getD, List.getElem?_append_left hg]
    · rw [List.getD_eq_getElem?_getD, List.getD_eq_getElem?_getD, List.getElem?_append_right (by omega), List.getElem?_eq_none (l := A) (by omega)]
      cases q : (List.replicate n ([] : List Int))[g - A.length]? with
      | none => rfl
      | some v =>
        rw [List.eq_of_mem_replicate (List.mem_of_getElem? q)]
        rfl
  rw [e]
  exact h g
theorem DictG.put {K : PySem.W.Frag} {H : Hp} {kvs : List (Key × V)} {A : List (List Int)} {m : Nat} {v : V} {xs : List Int} (h : DictG K H kvs A) (hm : m < A.length) (hv : TupV K H v xs) : DictG K H (putK kvs (Sum.inl (m : Int)) v) (A.set m xs) := fun g => by
  rw [valV_put]
  by_cases e : g = m
  · subst e
    refine .inl ⟨v, by rw [if_pos rfl], ?_⟩
    rw [List.getD_eq_getElem?_getD, List.getElem?_set_self hm]
    exact hv
  · rw [if_neg (fun z => e (by injection z with z; omega)), List.getD_eq_getElem?_getD, List.getElem?_set_ne (fun z => e z.symm), ← List.getD_eq_getElem?_getD]
    exact h g
def spOutl (K : PySem.W.Frag) : Sp := fun vs H Q _ => ∃ (c : Addr) (ss : List Step), vs = [.ref c] ∧ ScrAt K H c ss ∧ nfOk "" ss ∧ tot ss ≤ 40000 ∧ ss.length ≤ 400 ∧ ∀ u kp dp kvs H', Same H H' → H' u = some (.tup [.ref kp, .ref dp]) → H' kp = some (.lst ((keptO ss).map V.bl)) → H' dp = some (.dK kvs) → DictG K H' kvs (gapsO ss) → Q (.ref u) H'
theorem ok__law_outline (T : Txt K mg C_InvalidScript c_taken_items P_taken_items) : Ok P w K mg base CX0 1 "_law_outline" ["script"] (spOutl K) := by
  refine ok_of T.d__law_outline fun f fd F => F.ok sc__law_outline (fun vs H Q E h => ?_) (fun cdv A outer s H vs Q E hr h => ?_)
  · obtain ⟨c, ss, rfl, _⟩ := h
    rfl
  · obtain ⟨c, ss, rfl, ⟨vs, hL, hV⟩, hnf, ht, hsl, kQ⟩ := h
    have nd := sc__law_outline.nd
    refine ⟨_,       (pss_cons (ps_set (i := 1) nd rfl (Or.inl rfl) (pe_lst pa_nil))
      (pss_cons (ps_set (i := 2) nd rfl (Or.inl rfl) pe_dnewK)
      (pss_cons (ps_for PassesOwn.never rfl (pi_list (pv 0)) (pg_tup rfl (pgs_cons (pg_name (i := 3) nd rfl (Or.inl rfl)) (pgs_cons (pg_name (i := 4) nd rfl (Or.inl rfl)) pgs_nil)))
        (pss_one (ps_if (pt_cmpR op_eq (pv 3) pe_str (nomark _))
          (pss_one (ps_dput (hu_of hr) (pv 2) (pe_callB call_len_seq (by rfl) T.n_len PySem.boot_len (pa_cons (pv 1) pa_nil)) (pe_callTy call_tupleT (by rfl) T.n_tuple (by decide +kernel) (pa_cons (pv 4) pa_nil)) rfl))
          (pss_one (ps_set (i := 1) nd rfl (Or.inl rfl) (pe_op op_cat (pv 1) (pe_op op_rep (pe_lst (pa_cons (pe_cmpR op_eq (pv 3) pe_str (nomark _)) pa_nil)) (pv 4))))))))
      (pss_one (ps_ret (pe_tup (pa_cons (pv 1) (pa_cons (pv 2) pa_nil)))))))), ?_⟩
    refine ⟨by decide, fun k0 hk0 => fun dp hdp => ?_⟩
    have f1 := same_upd (o := .lst ([] : List V)) hk0
    have f2 := same_upd (o := .dK ([] : List (Key × V))) hdp
    have hdp0 : H dp = none := f1.free hdp
    refine ⟨_, rfl, c, rfl, ⟨_, (f1.trans f2).seq hL⟩, for_list (K := K) (a := c) (xs := vs) (fun i σ H' => Same H H' ∧ ∃ (kp : Addr) (kvs : List (Key × V)) (v3 v4 : Option V), kp ≠ dp ∧ H' kp = some (.lst ((keptO (ss.take i)).map V.bl)) ∧ H' dp = some (.dK kvs) ∧ DictG K H' kvs (gapsO (ss.take i)) ∧ kvs.length ≤ i ∧ σ = [some (.ref c), some (.ref kp), some (.ref dp), v3, v4]) ⟨f1.trans f2, k0, [], none, none, (fun z => by rw [← z, upd_same] at hdp; cases hdp), f2 _ _ upd_same, upd_same, (fun g => .inr ⟨rfl, by
      cases g with
      | zero => rfl
      | succ g => simp [gapsO]⟩), Nat.le_refl _, rfl⟩ (fun i σ H' _ ⟨e, _⟩ => e.seq hL) ?_ ?_⟩
    · rintro i x σ H' hx ⟨e, kp, kvs, v3, v4, hkd, hK, hD, hG, hkl, rfl⟩
      obtain ⟨s, hs, hst⟩ := scr_get hV hx
      have hst := hst.keeps (sqT_same e)
      obtain ⟨hi, hsi⟩ := List.getElem?_eq_some_iff.mp hs
      have hlim : tot (ss.take (i + 1)) ≤ 40000 := Nat.le_trans (tot_take_le ss _) ht
      have htk : taken (ss.take (i + 1)) ≤ 40000 := by
        have := gapsO_sum (ss.take (i + 1))
        omega
      have hge := fun xs => gap_empty (i := i) (xs := xs) hnf
      rw [take_snoc hi] at htk ⊢
      rw [keptO_snoc, gapsO_snoc]
      rw [taken_snoc] at htk
      have hgl := gapsO_len (ss.take i)
      have hkl2 := keptO_len (ss.take i)
      rw [hsi] at htk ⊢
      cases s with
      | add xs =>
        obtain ⟨t, u, rfl, hT, hX⟩ := hst
        refine ⟨t, _, rfl, hT, rfl, _, _, rfl, _, _, rfl, rfl, ?_⟩
        refine ⟨_, rfl, rfl, _, rfl, itd (fun _ => ?_) (fun h => absurd rfl h)⟩
        refine ⟨_, rfl, u, _, rfl, hX, _, rfl, _, rfl, kp, _, rfl, .inl (SqL.of hK), ?_⟩
        rw [List.length_map, hkl2]
        refine ⟨dp, _, rfl, DPut.k (k := Sum.inl (taken (ss.take i) : Int)) hD (small (by omega)), ?_⟩
        refine ⟨same_new e hdp0, kp, _, _, _, hkd, ?_, upd_same, ?_, ?_, rfl⟩
        · rw [upd_ne hkd]
          exact hK
        · have hz := hge xs hs
          show DictG K _ _ ((gapsO (ss.take i)).set ((gapsO (ss.take i)).length - 1) ((gapsO (ss.take i)).getD ((gapsO (ss.take i)).length - 1) [] ++ xs))
          rw [show (gapsO (ss.take i)).length - 1 = taken (ss.take i) by omega, hz, List.nil_append]
          exact (hG.put (by omega) ⟨u, rfl, hX⟩).keeps (sqT_dK hD)
        · have := length_putK kvs (Sum.inl (taken (ss.take i) : Int)) (.ref u)
          omega
      | keep n =>
        obtain ⟨t, rfl, hT⟩ := hst
        simp only [Step.tk] at htk
        refine ⟨t, _, rfl, hT, rfl, _, _, rfl, _, _, rfl, rfl, ?_⟩
        refine ⟨_, rfl, rfl, _, rfl, itd (fun h => absurd h (by decide)) (fun _ => ?_)⟩
        refine ⟨_, rfl, _, rfl, rfl, (by show 1 ≤ sizeLine; decide), fun l hl => ?_⟩
        have hd : decide (V.str (Str.ofString "keep") = V.str (Str.ofString "keep")) = true := by decide
        rw [hd]
        have g1 := same_upd (o := .lst [V.bl true]) hl
        refine ⟨_, rfl, _, _, _, rfl, rfl, (show (upd H' l (.lst [V.bl true])) l = some (.lst [V.bl true]) from upd_same), by omega, by omega, smallE ?_, fun r hr => ?_⟩
        · rw [Int.toNat_natCast, List.length_singleton]
          omega
        rw [Int.toNat_natCast, flat_one]
        have g2 := same_upd (o := .lst (List.replicate n (V.bl true))) hr
        refine ⟨kp, r, _, _, rfl, rfl, g2 _ _ (g1 _ _ hK), upd_same, smallE ?_, fun q hq => ?_⟩
        · rw [List.length_map, List.length_replicate]
          omega
        have eK : (keptO (ss.take i)).map V.bl ++ List.replicate n (V.bl true) = (stepB (keptO (ss.take i)) (.keep n)).map V.bl := by
          show _ = (keptO (ss.take i) ++ List.replicate n true).map V.bl
          rw [List.map_append, List.map_replicate]
        rw [eK]
        have g3 := (g1.trans g2).trans (same_upd (o := .lst ((stepB (keptO (ss.take i)) (.keep n)).map V.bl)) hq)
        exact ⟨e.trans g3, q, kvs, _, _, (fun z => by rw [z, (g1.trans g2) _ _ hD] at hq; cases hq), upd_same, g3 _ _ hD, (hG.more n).keeps (sqT_same g3), by omega, rfl⟩
      | drop n =>
        obtain ⟨t, rfl, hT⟩ := hst
        simp only [Step.tk] at htk
        refine ⟨t, _, rfl, hT, rfl, _, _, rfl, _, _, rfl, rfl, ?_⟩
        refine ⟨_, rfl, rfl, _, rfl, itd (fun h => absurd h (by decide)) (fun _ => ?_)⟩
        refine ⟨_, rfl, _, rfl, rfl, (by show 1 ≤ sizeLine; decide), fun l hl => ?_⟩
        have hd : decide (V.str (Str.ofString "drop") = V.str (Str.ofString "keep")) = false := by decide
        rw [hd]
        have g1 := same_upd (o := .lst [V.bl false]) hl
        refine ⟨_, rfl, _, _, _, rfl, rfl, (show (upd H' l (.lst [V.bl false])) l = some (.lst [V.bl false]) from upd_same), by omega, by omega, smallE ?_, fun r hr => ?_⟩
        · rw [Int.toNat_natCast, List.length_singleton]
          omega
        rw [Int.toNat_natCast, flat_one]
        have g2 := same_upd (o := .lst (List.replicate n (V.bl false))) hr
        refine ⟨kp, r, _, _, rfl, rfl, g2 _ _ (g1 _ _ hK), upd_same, smallE ?_, fun q hq => ?_⟩
        · rw [List.length_map, List.length_replicate]
          omega
        have eK : (keptO (ss.take i)).map V.bl ++ List.replicate n (V.bl false) = (stepB (keptO (ss.take i)) (.drop n)).map V.bl := by
          show _ = (keptO (ss.take i) ++ List.replicate n false).map V.bl
          rw [List.map_append, List.map_replicate]
        rw [eK]
        have g3 := (g1.trans g2).trans (same_upd (o := .lst ((stepB (keptO (ss.take i)) (.drop n)).map V.bl)) hq)
        exact ⟨e.trans g3, q, kvs, _, _, (fun z => by rw [z, (g1.trans g2) _ _ hD] at hq; cases hq), upd_same, g3 _ _ hD, (hG.more n).keeps (sqT_same g3), by omega, rfl⟩
    · rintro σ H' ⟨e, kp, kvs, v3, v4, hkd, hK, hD, hG, hkl, rfl⟩
      rw [Paired.length hV, List.take_length] at hK hG
      refine ⟨_, rfl, _, rfl, (by show 2 ≤ sizeLine; decide), fun u hu => ?_⟩
      have g := same_upd (o := .tup [V.ref kp, V.ref dp]) hu
      exact kQ u kp dp kvs _ (e.trans g) upd_same (g _ _ hK) (g _ _ hD) (hG.keeps (sqT_same g))

-- @@CUT
/-! ### rebasing -/
def hereR (own other : List Int) (later : Bool) : List Step := if own = other then kp other.length else if later = true then kp other.length ++ ad own else ad own ++ kp other.length
def segR (A Ao : List (List Int)) (B Bo : List Bool) (later : Bool) (n g : Nat) : List Step := hereR (A.getD g []) (Ao.getD g []) later ++ (if g < n ∧ Bo.getD g false = true then [if B.getD g false = true then .keep 1 else .drop 1] else [])
def stepsR (A Ao : List (List Int)) (B Bo : List Bool) (later : Bool) (n i : Nat) : List Step := (List.range i).flatMap (segR A Ao B Bo later n)
theorem stepsR_succ (A Ao : List (List Int)) (B Bo : List Bool) (later : Bool) (n i : Nat) : stepsR A Ao B Bo later n (i + 1) = stepsR A Ao B Bo later n i ++ segR A Ao B Bo later n i := by simp [stepsR, List.range_succ]
theorem kp_len (k : Nat) : (kp k).length ≤ 1 := by
  unfold kp
  split <;> simp
theorem kp_tot (k : Nat) : tot (kp k) = k := by
  unfold kp
  split
  · simp [tot, Step.sz]
  · simp [tot]; omega
theorem hereR_len (own other : List Int) (later : Bool) : (hereR own other later).length ≤ 2 := by
  have h1 := kp_len other.length
  have h2 := ad_len own
  unfold hereR
  split
  · omega
  · split <;> rw [List.length_append] <;> omega
theorem hereR_tot (own other : List Int) (later : Bool) : tot (hereR own other later) ≤ own.length + other.length := by
  have h1 := kp_tot other.length
  have h2 := ad_tot own
  unfold hereR
  split
  · omega
  · split <;> rw [tot_app] <;> omega
theorem segR_len (A Ao : List (List Int)) (B Bo : List Bool) (later : Bool) (n g : Nat) : (segR A Ao B Bo later n g).length ≤ 3 := by
  have h := hereR_len (A.getD g []) (Ao.getD g []) later
  unfold segR
  rw [List.length_append]
  split <;> simp only [List.length_singleton, List.length_nil] <;> omega
theorem segR_tot (A Ao : List (List Int)) (B Bo : List Bool) (later : Bool) (n g : Nat) : tot (segR A Ao B Bo later n g) ≤ (A.getD g []).length + (Ao.getD g []).length + 1 := by
  have h := hereR_tot (A.getD g []) (Ao.getD g []) later
  have h3 : ∀ b : Bool, tot [if b = true then Step.keep 1 else Step.drop 1] = 1 := fun b => by cases b <;> rfl
  have h0 : tot ([] : List Step) = 0 := rfl
  unfold segR
  rw [tot_app]
  split <;> simp only [h3, h0] <;> omega
theorem stepsR_len (A Ao : List (List Int)) (B Bo : List Bool) (later : Bool) (n i : Nat) : (stepsR A Ao B Bo later n i).length ≤ 3 * i := by
  induction i with
  | zero => simp [stepsR]
  | succ i ih =>
    have := segR_len A Ao B Bo later n i
    rw [stepsR_succ, List.length_append]
    omega
theorem stepsR_tot (A Ao : List (List Int)) (B Bo : List Bool) (later : Bool) (n i : Nat) : tot (stepsR A Ao B Bo later n i) ≤ sumL A + sumL Ao + i := by
  have h1 := sum_range_le A i
  have h2 := sum_range_le Ao i
  have h : tot (stepsR A Ao B Bo later n i) ≤ ((List.range i).map fun g => (A.getD g []).length).sum + ((List.range i).map fun g => (Ao.getD g []).length).sum + i := by
    clear h1 h2
    induction i with
    | zero => simp [stepsR, tot]
    | succ i ih =>
      have := segR_tot A Ao B Bo later n i
      rw [stepsR_succ, tot_app, List.range_succ, List.map_append, List.map_append, List.sum_append, List.sum_append]
      simp only [List.map_cons, List.map_nil, List.sum_cons, List.sum_nil]
      omega
  omega
theorem hereR_posk (own other : List Int) (later : Bool) : ∀ k, Step.keep k ∈ hereR own other later → 0 < k := fun k h => by
  have hk : ∀ m : Nat, Step.keep k ∈ kp m → 0 < k := fun m h => by
    unfold kp at h
    split at h
    · simp at h
      omega
    · simp at h
  have ha : ¬ Step.keep k ∈ ad own := fun h => by
    unfold ad at h
    split at h <;> simp at h
  unfold hereR at h
  split at h
  · exact hk _ h
  · split at h
    · rcases List.mem_append.mp h with z | z
      · exact hk _ z
      · exact absurd z ha
    · rcases List.mem_append.mp h with z | z
      · exact absurd z ha
      · exact hk _ z
theorem stepsR_posk (A Ao : List (List Int)) (B Bo : List Bool) (later : Bool) (n i : Nat) : ∀ k, Step.keep k ∈ stepsR A Ao B Bo later n i → 0 < k := fun k hk => by
  obtain ⟨g, _, h⟩ := List.mem_flatMap.mp hk
  unfold segR at h
  rcases List.mem_append.mp h with h | h
  · exact hereR_posk _ _ _ k h
  · split at h
    · split at h <;> simp at h
      omega
    · simp at h
def spRebased (K : PySem.W.Frag) (P_ C : Addr) : Sp := fun vs H Q E => ∃ (b c1 c2 : Addr) (later : Bool) (old : List Int) (s1 s2 : List Step), vs = [.ref b, .ref c1, .ref c2, .bl later] ∧ SqL K H b (old.map V.int) ∧ ScrAt K H c1 s1 ∧ ScrAt K H c2 s2 ∧ GxR.TabG H P_ ∧ tot s1 ≤ 12000 ∧ tot s2 ≤ 12000 ∧ old.length ≤ 60 ∧
  (¬ (taken s1 = old.length ∧ taken s2 = old.length) → ∀ H', GX.Sm H H' → E (.ref C) none H') ∧
  (taken s1 = old.length → taken s2 = old.length → ∀ p ws H', GX.Sm H H' → H' p = some (.lst ws) → ScrV K H' ws (nf (stepsR (gapsO s1) (gapsO s2) (keptO s1) (keptO s2) later old.length (old.length + 1))) → Q (.ref p) H')
@[reducible] def stR (b c1 c2 : Addr) (later : Bool) (k1 a1 k2 a2 sp : Addr) (v9 v10 v11 v12 : Option V) : L2.St := [some (.ref b), some (.ref c1), some (.ref c2), some (.bl later), some (.ref k1), some (.ref a1), some (.ref k2), some (.ref a2), some (.ref sp), v9, v10, v11, v12]
theorem ok_rebased (T : Txt K mg C_InvalidScript c_taken_items P_taken_items) : KD.OkD P w K mg base (CXN P w) 7 "rebased" ["old", "script", "over", "later"] 3 "later" (.bl true) (spRebased K P_taken_items C_InvalidScript) := by
  have G__keeps_and_adds := ok__keeps_and_adds (P := P) (w := w) (base := base) T
  have G__adding := ok__adding (P := P) (w := w) (base := base) T
  have G_normalized := ok_normalized (P := P) (w := w) (base := base) T
  refine KD.okD_of T.d_rebased fun f fd F => okN F sc_rebased (fun vs H Q E h => ?_) (fun cdv A outer s H vs Q E hr h => ?_)
  · obtain ⟨b, c1, c2, later, old, s1, s2, rfl, _⟩ := h
    rfl
  · obtain ⟨b, c1, c2, later, old, s1, s2, rfl, hO, hS1, hS2, tb, ht1, ht2, hol, kE, kQ⟩ := h
    have nd := sc_rebased.nd
    have hu64 : (A.deeper (envOfC "rebased" (defScope s_rebased) s.heap.objs.size f cdv)).units + 64 < cLine := by
      have := hr.un
      omega
    have po := passes_of (X := cxOf (CXN P w) P w K mg base N_rebased "rebased" (defScope s_rebased) f cdv A outer s H E) rfl
    refine ⟨_,       (pss_cons (ps_asg (pe_callO G__keeps_and_adds (hr.mono (by decide)) (passX (L2N.takes_of rfl rfl rfl rfl) (fun _ _ _ z => z)) (pa_cons (pv 0) (pa_cons (pv 1) pa_nil))) (pg_tup rfl (pgs_cons (pg_name (i := 4) nd rfl (Or.inl rfl)) (pgs_cons (pg_name (i := 5) nd rfl (Or.inl rfl)) pgs_nil))))
      (pss_cons (ps_asg (pe_callO G__keeps_and_adds (hr.mono (by decide)) (passX (L2N.takes_of rfl rfl rfl rfl) (fun _ _ _ z => z)) (pa_cons (pv 0) (pa_cons (pv 2) pa_nil))) (pg_tup rfl (pgs_cons (pg_name (i := 6) nd rfl (Or.inl rfl)) (pgs_cons (pg_name (i := 7) nd rfl (Or.inl rfl)) pgs_nil))))
      (pss_cons (ps_set (i := 8) nd rfl (Or.inl rfl) (pe_lst pa_nil))
      (pss_cons (ps_for po rfl (pi_range1 rfl T.n_range (pa_cons (pe_op op_add (pe_callB call_len_seq (by rfl) T.n_len PySem.boot_len (pa_cons (pv 0) pa_nil)) pe_int) pa_nil)) (pg_name (i := 9) nd rfl (Or.inl rfl))
        (pss_cons (ps_par (i := 10) (j := 11) (by rfl) nd rfl rfl (by decide) rfl rfl (pa_cons (pe_ix ix_list (pv 5) (pv 9) (fun _ _ => rfl)) (pa_cons (pe_ix ix_list (pv 7) (pv 9) (fun _ _ => rfl)) pa_nil)) (by rfl))
        (Evl.pss_cut (ps_set (i := 12) nd rfl (Or.inl rfl) (pe_ifExp (pt_cmpR (op_neD hu64) (pv 11) (pe_tup pa_nil) (nomark _)) (pe_lst (pa_cons (pe_tup (pa_cons pe_str (pa_cons (pe_callB call_len_seq (by rfl) T.n_len PySem.boot_len (pa_cons (pv 11) pa_nil)) pa_nil))) pa_nil)) (pe_lst pa_nil)))
        (Evl.pss_cut (ps_if (pt_cmpR (op_neD hu64) (pv 10) (pv 11) (nomark _))
          (pss_one (ps_set (i := 12) nd rfl (Or.inl rfl) (pe_ifExp (pt_val (pv 3)) (pe_op op_cat (pv 12) (pe_callO G__adding (hr.mono (by decide)) pass0 (pa_cons (pv 10) pa_nil))) (pe_op op_cat (pe_callO G__adding (hr.mono (by decide)) pass0 (pa_cons (pv 10) pa_nil)) (pv 12))))) pss_nil)
        (Evl.pss_cut (ps_expr (pe_bm PySem.F.plainAttrs_list PySem.F.slot_list_extend PySem.F.type_list_extend mt_extend (pv 8) (pa_cons (pv 12) pa_nil)))
        (pss_one (ps_if (PW.pt (pw_and (pt_cmpR op_lt (pv 9) (pe_callB call_len_seq (by rfl) T.n_len PySem.boot_len (pa_cons (pv 0) pa_nil)) (nomark _)) (pw_and1 (pt_val (pe_ix ix_list (pv 6) (pv 9) (fun _ _ => rfl))))))
          (pss_one (ps_expr (pe_bm PySem.F.plainAttrs_list PySem.F.slot_list_append PySem.F.type_list_append mt_append (pv 8) (pa_cons (pe_tup (pa_cons (pe_ifExp (pt_val (pe_ix ix_list (pv 4) (pv 9) (fun _ _ => rfl))) pe_str pe_str) (pa_cons pe_int pa_nil))) pa_nil)))) pss_nil)))))))
      (pss_one (ps_ret (pe_callO G_normalized (hr.mono (by decide)) pass0 (pa_cons (pv 8) pa_nil)))))))), ?_⟩
    refine ⟨_, rfl, _, rfl, b, c1, old, s1, rfl, hO, hS1, tb, by omega, fun hn H' e => kE (fun z => hn z.1) H' e, fun hk1 u1 kp1 ap1 us1 H1 e1 hu1 hK1 hA1 hU1 => ?_⟩
    refine ⟨u1, _, rfl, SqT.of hu1, rfl, _, _, rfl, _, _, rfl, rfl, ?_⟩
    have hS2' : ScrAt K H1 c2 s2 := hS2.elim fun vs z => ⟨vs, e1.seq z.1, z.2.keeps (sqT_sm e1)⟩
    refine ⟨_, rfl, _, rfl, b, c2, old, s2, rfl, e1.seq hO, hS2', e1.tab _ tb, by omega, fun hn H' e => kE (fun z => hn z.2) H' (e1.trans e), fun hk2 u2 kp2 ap2 us2 H2 e2 hu2 hK2 hA2 hU2 => ?_⟩
    refine ⟨u2, _, rfl, SqT.of hu2, rfl, _, _, rfl, _, _, rfl, rfl, ?_⟩
    have hK1 := e2.l hK1
    have hA1 := e2.l hA1
    have hU1 := hU1.keeps (sqT_sm e2)
    have hO2 := e2.seq (e1.seq hO)
    have e12 := e1.trans e2
    have kR := kQ hk1 hk2
    have hg1 := gapsO_len s1
    have hg2 := gapsO_len s2
    have hb1 := keptO_len s1
    have hb2 := keptO_len s2
    have hm1 : sumL (gapsO s1) ≤ 12000 := by have := gapsO_sum s1; omega
    have hm2 : sumL (gapsO s2) ≤ 12000 := by have := gapsO_sum s2; omega
    rw [hk1] at hg1 hb1
    rw [hk2] at hg2 hb2
    clear kQ kE hu1 hu2 hS1 hS2 hS2'
    generalize gapsO s1 = A1 at hU1 hg1 hm1 kR
    generalize gapsO s2 = A2 at hU2 hg2 hm2 kR
    generalize keptO s1 = B1 at hK1 hb1 kR
    generalize keptO s2 = B2 at hK2 hb2 kR
    refine ⟨by decide, fun sp hsp => ?_⟩
    have f1 := same_upd (o := .lst ([] : List V)) hsp
    refine ⟨_, rfl, b, _, rfl, .inl (f1.seq hO2), _, _, rfl, rfl, (old.length : Int) + 1, (by rw [List.length_map]), by omega, by omega, ?_⟩
    rw [show ((old.length : Int) + 1).toNat = old.length + 1 by omega]
    refine for_range (lo := 0) (n := old.length + 1) (fun i σ H' => Same H2 H' ∧ (∃ ws, H' sp = some (.lst ws) ∧ ScrV K H' ws (stepsR A1 A2 B1 B2 later old.length i)) ∧ ∃ v9 v10 v11 v12 : Option V, σ = stR b c1 c2 later kp1 ap1 kp2 ap2 sp v9 v10 v11 v12) ⟨f1, ⟨[], upd_same, .nil⟩, none, none, none, none, rfl⟩ ?_ ?_
    · rintro i σ H3 hi ⟨e3, ⟨ws, hws, hWs⟩, v9, v10, v11, v12, rfl⟩
      rw [Int.zero_add]
      obtain ⟨x, hx, tx, rfl, hX⟩ := hU1.get (i := i) (by omega)
      obtain ⟨y, hy, ty, rfl, hY⟩ := hU2.get (i := i) (by omega)
      refine ⟨_, rfl, _, rfl, ap1, _, _, .ref tx, rfl, rfl, SqL.of (e3 _ _ hA1), atI_nat hx, _, rfl, _, rfl, ap2, _, _, .ref ty, rfl, rfl, SqL.of (e3 _ _ hA2), atI_nat hy, _, _, rfl, ?_⟩
      have hsl := stepsR_len A1 A2 B1 B2 later old.length i
      rw [stepsR_succ]
      unfold segR
      generalize A1.getD i [] = x1 at hX
      generalize A2.getD i [] = y1 at hY
      generalize stepsR A1 A2 B1 B2 later old.length i = S0 at hWs hsl ⊢
      have hwl := hWs.length
      -- here
      refine ⟨fun σ' H' => Same H3 H' ∧ ∃ (hp : Addr) (hs : List V), H' hp = some (.lst hs) ∧ ScrV K H' hs (kp y1.length) ∧ σ' = stR b c1 c2 later kp1 ap1 kp2 ap2 sp (some (.int (i : Int))) (some (.ref tx)) (some (.ref ty)) (some (.ref hp)), ?_, ?_⟩
      · have hY3 := sqT_same (K := K) e3 _ _ hY
        refine ⟨_, rfl, (by show 0 ≤ sizeLine; decide), fun u hu => ?_⟩
        have g1 := same_upd (o := .tup ([] : List V)) hu
        refine ⟨_, _, dp_tints (sqT_same g1 _ _ hY3), dp_tints (xs := []) (SqT.of upd_same), shaped_tints _, shaped_tints _, neT (fun h => ?_) (fun h => ?_)⟩
        · refine ⟨_, rfl, ty, _, rfl, .inr (sqT_same g1 _ _ hY3), (by show 2 ≤ sizeLine; decide), fun v hv => ⟨(by show 1 ≤ sizeLine; decide), fun l hl => ?_⟩⟩
          rw [List.length_map] at hl ⊢
          have g2 := g1.trans (same_upd (o := .tup [V.str "keep", V.int (y1.length : Int)]) hv)
          have g3 := same_upd (o := .lst [V.ref v]) hl
          have hpos : 0 < y1.length := by
            cases y1 with
            | nil => exact absurd rfl h
            | cons z zs => simp
          exact ⟨g2.trans g3, l, [V.ref v], upd_same, by rw [kpP hpos]; exact .cons ⟨v, rfl, sqT_same g3 _ _ (SqT.of upd_same)⟩ .nil, rfl⟩
        · refine ⟨by decide, fun l hl => ?_⟩
          rw [h]
          exact ⟨g1.trans (same_upd hl), l, [], upd_same, .nil, rfl⟩
      rintro σ4 H4 ⟨e4, hp, hs, hHp, hHs, rfl⟩
      -- if own != other
      refine ⟨fun σ' H' => Same H3 H' ∧ ∃ (hp : Addr) (hs : List V), H' hp = some (.lst hs) ∧ ScrV K H' hs (hereR x1 y1 later) ∧ σ' = stR b c1 c2 later kp1 ap1 kp2 ap2 sp (some (.int (i : Int))) (some (.ref tx)) (some (.ref ty)) (some (.ref hp)), ?_, ?_⟩
      · have hX4 := sqT_same (K := K) (e3.trans e4) _ _ hX
        have hY4 := sqT_same (K := K) (e3.trans e4) _ _ hY
        have hhl := hHs.length
        have hk := kp_len y1.length
        have ha := ad_len x1
        refine ⟨_, rfl, _, rfl, _, _, dp_tints hX4, dp_tints hY4, shaped_tints _, shaped_tints _, neT (fun h => ?_) (fun h => ?_)⟩
        · refine ⟨_, rfl, later, rfl, ?_⟩
          cases later with
          | true =>
            refine iteT ⟨_, rfl, _, rfl, tx, x1, rfl, hX4, fun p H5 w2 e5 hp5 hW5 => ?_⟩
            have h5 := hW5.length
            refine ⟨hp, p, _, _, rfl, rfl, e5 _ _ hHp, hp5, smallE (by omega), fun r hr => ?_⟩
            have g := same_upd (o := .lst (hs ++ w2)) hr
            refine ⟨e4.trans (e5.trans g), r, hs ++ w2, upd_same, ?_, rfl⟩
            rw [hereR, if_neg h, if_pos rfl]
            exact (hHs.keeps (sqT_same (e5.trans g))).app (hW5.keeps (sqT_same g))
          | false =>
            refine iteF ⟨_, rfl, tx, x1, rfl, hX4, fun p H5 w2 e5 hp5 hW5 => ?_⟩
            have h5 := hW5.length
            refine ⟨_, rfl, p, hp, _, _, rfl, rfl, hp5, e5 _ _ hHp, smallE (by omega), fun r hr => ?_⟩
            have g := same_upd (o := .lst (w2 ++ hs)) hr
            refine ⟨e4.trans (e5.trans g), r, w2 ++ hs, upd_same, ?_, rfl⟩
            rw [hereR, if_neg h, if_neg (by decide)]
            exact (hW5.keeps (sqT_same g)).app (hHs.keeps (sqT_same (e5.trans g)))
        · refine ⟨e4, hp, hs, hHp, ?_, rfl⟩
          rw [hereR, if_pos h]
          exact hHs
      clear hHp hHs e4 hs hp
      rintro σ5 H5 ⟨e5, hp, hs, hHp, hHs, rfl⟩
      -- steps.extend(here)
      refine ⟨fun σ' H' => Same H2 H' ∧ (∃ ws, H' sp = some (.lst ws) ∧ ScrV K H' ws (S0 ++ hereR x1 y1 later)) ∧ σ' = stR b c1 c2 later kp1 ap1 kp2 ap2 sp (some (.int (i : Int))) (some (.ref tx)) (some (.ref ty)) (some (.ref hp)), ?_, ?_⟩
      · have hhl := hHs.length
        have hrl := hereR_len x1 y1 later
        have hws5 := e5 _ _ hws
        refine ⟨_, rfl, .inl ⟨rfl, _, SqL.of hws5⟩, _, rfl, sp, hp, _, _, rfl, rfl, hws5, hHp, smallE (by omega), ?_⟩
        exact ⟨same_new (e3.trans e5) hsp, ⟨ws ++ hs, upd_same, ((hWs.keeps (sqT_same e5)).app hHs).keeps (sqT_lst hws5)⟩, rfl⟩
      clear hws hWs hwl ws e3
      rintro σ6 H6 ⟨e6, ⟨ws, hws, hWs⟩, rfl⟩
      -- if gap < len(old) and over_kept[gap]
      have hwl := hWs.length
      have hrl := hereR_len x1 y1 later
      rw [List.length_append] at hwl
      have hat : ∀ {B : List Bool}, i < old.length → B.length = old.length → atI (B.map V.bl) (i : Int) = some (.bl (B.getD i false)) := fun {B} hi2 hB => by
        have : i < B.length := by omega
        refine atI_nat ?_
        rw [List.getElem?_map, List.getD_eq_getElem?_getD, List.getElem?_eq_getElem this]
        rfl
      have stay : ¬ (i < old.length ∧ B2.getD i false = true) → Same H2 H6 ∧ (∃ ws, H6 sp = some (.lst ws) ∧ ScrV K H6 ws (S0 ++ (hereR x1 y1 later ++ (if i < old.length ∧ B2.getD i false = true then [if B1.getD i false = true then .keep 1 else .drop 1] else [])))) ∧ ∃ v9 v10 v11 v12 : Option V, stR b c1 c2 later kp1 ap1 kp2 ap2 sp (some (.int (i : Int))) (some (.ref tx)) (some (.ref ty)) (some (.ref hp)) = stR b c1 c2 later kp1 ap1 kp2 ap2 sp v9 v10 v11 v12 := fun hn => by
        rw [if_neg hn, List.append_nil]
        exact ⟨e6, ⟨ws, hws, hWs⟩, _, _, _, _, rfl⟩
      refine ⟨_, rfl, _, rfl, b, _, rfl, .inl (e6.seq hO2), _, _, rfl, rfl, _, rfl, ?_⟩
      rw [List.length_map]
      refine itd (fun h => ?_) (fun h => stay fun z => h (by omega))
      have hi2 : i < old.length := by omega
      refine ⟨_, rfl, _, rfl, kp2, _, _, .bl (B2.getD i false), rfl, rfl, SqL.of (e6 _ _ hK2), hat hi2 hb2, _, rfl, ?_⟩
      cases hB2 : B2.getD i false with
      | false =>
        rw [hB2] at stay
        exact iteF (stay fun z => by cases z.2)
      | true =>
        refine iteT ?_
        rw [if_pos ⟨hi2, rfl⟩, ← List.append_assoc]
        have fin : ∀ {x : Str} {s : Step}, (∀ {H' : Hp} {v : Addr}, SqT K H' v [.str x, .int 1] → StepAt K H' (.ref v) s) → ∀ v, H6 v = none → ∀ {s' : Step}, s' = s → Same H2 (upd (upd H6 v (.tup [.str x, .int 1])) sp (.lst (ws ++ [.ref v]))) ∧ (∃ ws2, (upd (upd H6 v (.tup [.str x, .int 1])) sp (.lst (ws ++ [.ref v]))) sp = some (.lst ws2) ∧ ScrV K (upd (upd H6 v (.tup [.str x, .int 1])) sp (.lst (ws ++ [.ref v]))) ws2 (S0 ++ hereR x1 y1 later ++ [s'])) := fun {x s} hs v hv s' es => by
          have g := same_upd (o := .tup [V.str x, V.int 1]) hv
          rw [es]
          exact ⟨same_new (e6.trans g) hsp, _, upd_same, ((hWs.keeps (sqT_same g)).keeps (sqT_lst (g _ _ hws))).app (.cons ((hs (SqT.of upd_same)).keeps (sqT_lst (g _ _ hws))) .nil)⟩
        refine ⟨_, rfl, .inl ⟨rfl, _, SqL.of hws⟩, _, rfl, _, rfl, kp1, _, _, .bl (B1.getD i false), rfl, rfl, SqL.of (e6 _ _ hK1), hat hi2 hb1, _, rfl, ?_⟩
        generalize B1.getD i false = b1
        cases b1 with
        | false =>
          refine iteF ⟨(by show 2 ≤ sizeLine; decide), fun v hv => ?_⟩
          have g := same_upd (o := .tup [V.str "drop", V.int 1]) hv
          obtain ⟨q1, q2⟩ := fin (s := .drop 1) (fun hT => ⟨_, rfl, hT⟩) v hv rfl
          exact ⟨sp, _, _, rfl, rfl, g _ _ hws, small (by omega), q1, q2, _, _, _, _, rfl⟩
        | true =>
          refine iteT ⟨(by show 2 ≤ sizeLine; decide), fun v hv => ?_⟩
          have g := same_upd (o := .tup [V.str "keep", V.int 1]) hv
          obtain ⟨q1, q2⟩ := fin (s := .keep 1) (fun hT => ⟨_, rfl, hT⟩) v hv rfl
          exact ⟨sp, _, _, rfl, rfl, g _ _ hws, small (by omega), q1, q2, _, _, _, _, rfl⟩
    · rintro σ H3 ⟨e3, ⟨ws, hws, hWs⟩, v9, v10, v11, v12, rfl⟩
      have h1 := stepsR_len A1 A2 B1 B2 later old.length (old.length + 1)
      have h2 := stepsR_tot A1 A2 B1 B2 later old.length (old.length + 1)
      refine ⟨_, rfl, sp, _, rfl, ⟨ws, SqL.of hws, hWs⟩, by omega, by omega, fun p H4 w4 hp e4 hp4 hW4 => ?_⟩
      exact kR p w4 _ (GX.Sm.trans e12 (GX.Sm.of (e3.trans e4))) hp4 hW4

-- @@CUT
def Alike (A B : List Step) : Prop := ∀ k d xs, nfS k d xs A = nfS k d xs B
theorem Alike.refl (A : List Step) : Alike A A := fun _ _ _ => rfl
theorem Alike.trans {A B C : List Step} (h1 : Alike A B) (h2 : Alike B C) : Alike A C := fun k d xs => (h1 k d xs).trans (h2 k d xs)
theorem Alike.symm {A B : List Step} (h1 : Alike A B) : Alike B A := fun k d xs => (h1 k d xs).symm
theorem Alike.cons {A B : List Step} (s : Step) (h : Alike A B) : Alike (s :: A) (s :: B) := fun k d xs => by
  cases s with
  | keep n =>
    rcases gap_or d xs with g | ⟨rfl, rfl⟩
    · rw [nfS_flush g, nfS_flush g, h]
    · rw [nfS_keep, nfS_keep, h]
  | drop n => exact h _ _ _
  | add ys => exact h _ _ _
theorem Alike.app {A B : List Step} : ∀ (P : List Step), Alike A B → Alike (P ++ A) (P ++ B)
  | [], h => h
  | s :: P, h => (Alike.app P h).cons s

theorem alike_ad (x : List Int) (T : List Step) : Alike (ad x ++ T) (.add x :: T) := fun k d xs => by
  by_cases h : x.length ≠ 0
  · rw [adP h]
    rfl
  · have h0 : x = [] := List.eq_nil_of_length_eq_zero (by omega)
    subst h0
    show nfS k d xs T = nfS k d (xs ++ []) T
    rw [List.append_nil]
theorem alike_add0 (T : List Step) : Alike (.add [] :: T) T := fun k d xs => by
  show nfS k d (xs ++ []) T = _
  rw [List.append_nil]
theorem nfS_keeps (T : List Step) : ∀ (m k : Nat), nfS k 0 [] (List.replicate m (.keep 1) ++ T) = nfS (k + m) 0 [] T
  | 0, k => by simp
  | m + 1, k => by
    rw [List.replicate_succ, List.cons_append, nfS_keep, nfS_keeps T m (k + 1), show k + 1 + m = k + (m + 1) by omega]
theorem nfS_drops (T : List Step) : ∀ (m k d : Nat) (xs : List Int), nfS k d xs (List.replicate m (.drop 1) ++ T) = nfS k (d + m) xs T
  | 0, k, d, xs => by simp
  | m + 1, k, d, xs => by
    rw [List.replicate_succ]
    show nfS k (d + 1) xs (List.replicate m (.drop 1) ++ T) = _
    rw [nfS_drops T m k (d + 1) xs, show d + 1 + m = d + (m + 1) by omega]
theorem alike_keeps (m : Nat) (T : List Step) : Alike (List.replicate (m + 1) (.keep 1) ++ T) (.keep (m + 1) :: T) := fun k d xs => by
  rw [List.replicate_succ, List.cons_append]
  rcases gap_or d xs with g | ⟨rfl, rfl⟩
  · rw [nfS_flush g, nfS_flush g, nfS_keeps, Nat.add_comm]
  · rw [nfS_keep, nfS_keep, nfS_keeps, show k + 1 + m = k + (m + 1) by omega]
theorem alike_drops (m : Nat) (T : List Step) : Alike (List.replicate (m + 1) (.drop 1) ++ T) (.drop (m + 1) :: T) := fun k d xs => nfS_drops T (m + 1) k d xs
theorem nfOk_pos : ∀ {ss : List Step} {b : Str}, nfOk b ss → PosS ss
  | [], _, _, s, hs => nomatch hs
  | s :: r, b, h, x, hx => by
    rcases List.mem_cons.mp hx with e | e
    · rw [e]
      exact h.2.1
    · exact nfOk_pos h.2.2.2 x e

/-! ### what a script keeps and adds says all of it -/
def bst (b : Bool) : Step := if b = true then .keep 1 else .drop 1
def Ul : List (List Int) → List Bool → List Step
  | x :: A, b :: B => ad x ++ (bst b :: Ul A B)
  | x :: _, [] => ad x
  | [], _ => []
def Pl : List (List Int) → List Bool → List Step
  | x :: A, b :: B => ad x ++ (bst b :: Pl A B)
  | _, _ => []
theorem Ul_app : ∀ {A : List (List Int)} {B : List Bool} (A2 : List (List Int)) (B2 : List Bool), A.length = B.length → Ul (A ++ A2) (B ++ B2) = Pl A B ++ Ul A2 B2
  | [], [], _, _, _ => rfl
  | x :: A, b :: B, A2, B2, h => by
    show ad x ++ (bst b :: Ul (A ++ A2) (B ++ B2)) = (ad x ++ (bst b :: Pl A B)) ++ Ul A2 B2
    rw [Ul_app A2 B2 (by simpa using h)]
    simp
  | [], _ :: _, _, _, h => by simp at h
  | _ :: _, [], _, _, h => by simp at h
theorem Pl_app : ∀ {A : List (List Int)} {B : List Bool} (A2 : List (List Int)) (B2 : List Bool), A.length = B.length → Pl (A ++ A2) (B ++ B2) = Pl A B ++ Pl A2 B2
  | [], [], _, _, _ => rfl
  | x :: A, b :: B, A2, B2, h => by
    show ad x ++ (bst b :: Pl (A ++ A2) (B ++ B2)) = (ad x ++ (bst b :: Pl A B)) ++ Pl A2 B2
    rw [Pl_app A2 B2 (by simpa using h)]
    simp
  | [], _ :: _, _, _, h => by simp at h
  | _ :: _, [], _, _, h => by simp at h
theorem Pl_rep (b : Bool) : ∀ m : Nat, Pl (List.replicate m []) (List.replicate m b) = List.replicate m (bst b)
  | 0 => rfl
  | m + 1 => by
    rw [List.replicate_succ, List.replicate_succ, List.replicate_succ]
    show ad [] ++ (bst b :: Pl _ _) = _
    rw [Pl_rep b m]
    rfl
theorem outline_alike : ∀ (ss : List Step), PosS ss → ∀ (pre : List (List Int)) (pb : List Bool) (x : List Int), pre.length = pb.length → ∃ R, Ul (ss.foldl stepG (pre ++ [x])) (ss.foldl stepB pb) = Pl pre pb ++ R ∧ Alike R (.add x :: ss)
  | [], _, pre, pb, x, h => by
    refine ⟨ad x, ?_, ?_⟩
    · have := Ul_app (A := pre) (B := pb) [x] [] h
      rw [List.append_nil] at this
      exact this
    · have := alike_ad x []
      rw [List.append_nil] at this
      exact this
  | .add ys :: r, hp, pre, pb, x, h => by
    obtain ⟨R, h1, h2⟩ := outline_alike r (fun s hs => hp s (List.mem_cons_of_mem _ hs)) pre pb (x ++ ys) h
    refine ⟨R, ?_, h2.trans fun k d xs => ?_⟩
    · have e : stepG (pre ++ [x]) (.add ys) = pre ++ [x ++ ys] := by
        show (pre ++ [x]).set ((pre ++ [x]).length - 1) ((pre ++ [x]).getD ((pre ++ [x]).length - 1) [] ++ ys) = _
        rw [List.length_append, List.length_singleton, Nat.add_sub_cancel, List.getD_eq_getElem?_getD, List.getElem?_append_right (Nat.le_refl _), Nat.sub_self, List.set_append_right _ _ (Nat.le_refl _), Nat.sub_self]
        rfl
      rw [List.foldl_cons, List.foldl_cons, e]
      exact h1
    · show nfS k d (xs ++ (x ++ ys)) r = nfS k d (xs ++ x ++ ys) r
      rw [List.append_assoc]
  | .keep n :: r, hp, pre, pb, x, h => by
    obtain ⟨m, rfl⟩ : ∃ m, n = m + 1 := ⟨n - 1, by have : 0 < n := hp _ List.mem_cons_self; omega⟩
    obtain ⟨R, h1, h2⟩ := outline_alike r (fun s hs => hp s (List.mem_cons_of_mem _ hs)) (pre ++ x :: List.replicate m []) (pb ++ List.replicate (m + 1) true) [] (by simp [h])
    refine ⟨ad x ++ (List.replicate (m + 1) (.keep 1) ++ R), ?_, ?_⟩
    · have e : stepG (pre ++ [x]) (.keep (m + 1)) = (pre ++ x :: List.replicate m []) ++ [[]] := by
        show (pre ++ [x]) ++ List.replicate (m + 1) [] = _
        rw [List.replicate_succ']
        simp
      rw [List.foldl_cons, List.foldl_cons, e]
      show Ul _ (List.foldl stepB (pb ++ List.replicate (m + 1) true) r) = _
      rw [h1, Pl_app _ _ h, List.replicate_succ, List.append_assoc]
      show Pl pre pb ++ ((ad x ++ (bst true :: Pl (List.replicate m []) (List.replicate m true))) ++ R) = _
      rw [Pl_rep]
      show _ = Pl pre pb ++ (ad x ++ (List.replicate (m + 1) (bst true) ++ R))
      rw [List.replicate_succ]
      simp
    · exact (alike_ad x _).trans (Alike.cons _ ((Alike.app _ (h2.trans (alike_add0 r))).trans (alike_keeps m r)))
  | .drop n :: r, hp, pre, pb, x, h => by
    obtain ⟨m, rfl⟩ : ∃ m, n = m + 1 := ⟨n - 1, by have : 0 < n := hp _ List.mem_cons_self; omega⟩
    obtain ⟨R, h1, h2⟩ := outline_alike r (fun s hs => hp s (List.mem_cons_of_mem _ hs)) (pre ++ x :: List.replicate m []) (pb ++ List.replicate (m + 1) false) [] (by simp [h])
    refine ⟨ad x ++ (List.replicate (m + 1) (.drop 1) ++ R), ?_, ?_⟩
    · have e : stepG (pre ++ [x]) (.drop (m + 1)) = (pre ++ x :: List.replicate m []) ++ [[]] := by
        show (pre ++ [x]) ++ List.replicate (m + 1) [] = _
        rw [List.replicate_succ']
        simp
      rw [List.foldl_cons, List.foldl_cons, e]
      show Ul _ (List.foldl stepB (pb ++ List.replicate (m + 1) false) r) = _
      rw [h1, Pl_app _ _ h, List.replicate_succ, List.append_assoc]
      show Pl pre pb ++ ((ad x ++ (bst false :: Pl (List.replicate m []) (List.replicate m false))) ++ R) = _
      rw [Pl_rep]
      show _ = Pl pre pb ++ (ad x ++ (List.replicate (m + 1) (bst false) ++ R))
      rw [List.replicate_succ]
      simp
    · exact (alike_ad x _).trans (Alike.cons _ ((Alike.app _ (h2.trans (alike_add0 r))).trans (alike_drops m r)))
def segU (A : List (List Int)) (B : List Bool) (n g : Nat) : List Step := ad (A.getD g []) ++ (if g < n then [bst (B.getD g false)] else [])
theorem Ul_range : ∀ (B : List Bool) (A : List (List Int)), A.length = B.length + 1 → (List.range (B.length + 1)).flatMap (segU A B B.length) = Ul A B
  | [], A, h => by
    match A, h with
    | [x], _ => simp [segU, Ul]
  | b :: B, A, h => by
    match A, h with
    | x :: A, h =>
      have ih := Ul_range B A (by simpa using h)
      rw [List.range_succ_eq_map, List.flatMap_cons, List.flatMap_map, List.length_cons]
      show segU (x :: A) (b :: B) (B.length + 1) 0 ++ _ = ad x ++ (bst b :: Ul A B)
      rw [← ih]
      have e : (fun g => segU (x :: A) (b :: B) (B.length + 1) (Nat.succ g)) = segU A B B.length := by
        funext g
        simp [segU]
      rw [e]
      simp [segU]
theorem nf_outline {ss : List Step} (hn : nfOk "" ss) (hp : PosS ss) {n : Nat} (ht : taken ss = n) : nf ((List.range (n + 1)).flatMap (segU (gapsO ss) (keptO ss) n)) = ss := by
  have hb := keptO_len ss
  have hg := gapsO_len ss
  rw [ht] at hb hg
  obtain ⟨R, h1, h2⟩ := outline_alike ss hp [] [] [] rfl
  have h1 : Ul (gapsO ss) (keptO ss) = R := h1
  have e := Ul_range (keptO ss) (gapsO ss) (by omega)
  rw [hb, h1] at e
  rw [e]
  have := (h2.trans (alike_add0 ss)) 0 0 []
  show nfS 0 0 [] R = ss
  rw [this]
  exact nf_same hn
def stillS (n : Nat) : List Step := if 0 < n then [.keep n] else []
theorem gapsO_still (n : Nat) : gapsO (stillS n) = List.replicate (n + 1) [] := by
  unfold stillS
  split
  · show [[]] ++ List.replicate n [] = _
    rw [List.replicate_succ]
    rfl
  · rw [show n = 0 by omega]
    rfl
theorem keptO_still (n : Nat) : keptO (stillS n) = List.replicate n true := by
  unfold stillS
  split
  · show [] ++ List.replicate n true = _
    rfl
  · rw [show n = 0 by omega]
    rfl
theorem getD_reps (n g : Nat) : (List.replicate n ([] : List Int)).getD g [] = [] := by
  rw [List.getD_eq_getElem?_getD]
  cases q : (List.replicate n ([] : List Int))[g]? with
  | none => rfl
  | some v =>
    rw [List.eq_of_mem_replicate (List.mem_of_getElem? q)]
    rfl
theorem getD_true {n g : Nat} (h : g < n) : (List.replicate n true).getD g false = true := by
  rw [List.getD_eq_getElem?_getD, List.getElem?_replicate, if_pos h]
  rfl
theorem flatMap_congr' {α β : Type} {f g : α → List β} : ∀ {l : List α}, (∀ x ∈ l, f x = g x) → l.flatMap f = l.flatMap g
  | [], _ => rfl
  | a :: l, h => by
    rw [List.flatMap_cons, List.flatMap_cons, h a List.mem_cons_self, flatMap_congr' fun x hx => h x (List.mem_cons_of_mem _ hx)]
theorem flatMap_nil' {α β : Type} {f : α → List β} : ∀ {l : List α}, (∀ x ∈ l, f x = []) → l.flatMap f = []
  | [], _ => rfl
  | a :: l, h => by
    rw [List.flatMap_cons, h a List.mem_cons_self, flatMap_nil' fun x hx => h x (List.mem_cons_of_mem _ hx)]
    rfl
theorem merge_self (A : List (List Int)) (B : List Bool) (n i : Nat) : stepsM A A B B n i = (List.range i).flatMap (segU A B n) := flatMap_congr' fun g _ => by
  unfold segM segU bst
  rw [if_pos rfl, List.nil_append, Bool.and_self]
theorem merge_still1 (A : List (List Int)) (B : List Bool) (n i : Nat) : stepsM A (gapsO (stillS n)) B (keptO (stillS n)) n i = (List.range i).flatMap (segU A B n) := flatMap_congr' fun g _ => by
  unfold segM segU bst
  rw [gapsO_still, keptO_still, getD_reps]
  have e : (if ([] : List Int) = A.getD g [] then [] else ad []) = [] := by split <;> rfl
  rw [e, List.nil_append]
  by_cases h : g < n
  · rw [if_pos h, if_pos h, getD_true h, Bool.and_true]
  · rw [if_neg h, if_neg h]
theorem merge_still2 (A : List (List Int)) (B : List Bool) (n i : Nat) : stepsM (gapsO (stillS n)) A (keptO (stillS n)) B n i = (List.range i).flatMap (segU A B n) := flatMap_congr' fun g _ => by
  unfold segM segU bst
  rw [gapsO_still, keptO_still, getD_reps, ad0, List.nil_append]
  have e : (if A.getD g [] = [] then [] else ad (A.getD g [])) = ad (A.getD g []) := by
    split
    · rename_i h
      rw [h]
      rfl
    · rfl
  rw [e]
  by_cases h : g < n
  · rw [if_pos h, if_pos h, getD_true h, Bool.true_and]
  · rw [if_neg h, if_neg h]
theorem conf_self (A : List (List Int)) (i : Nat) : confM A A i = [] := flatMap_nil' fun g _ => if_neg fun z => z.2.2 rfl
theorem conf_still1 (A : List (List Int)) (n i : Nat) : confM A (gapsO (stillS n)) i = [] := flatMap_nil' fun g _ => if_neg fun z => z.2.1 (by rw [gapsO_still, getD_reps])
theorem conf_still2 (A : List (List Int)) (n i : Nat) : confM (gapsO (stillS n)) A i = [] := flatMap_nil' fun g _ => if_neg fun z => z.1 (by rw [gapsO_still, getD_reps])
def swapC (c : Int × List Int × List Int) : Int × List Int × List Int := (c.1, c.2.2, c.2.1)
theorem conf_swap (A1 A2 : List (List Int)) (i : Nat) : (confM A2 A1 i).map swapC = confM A1 A2 i := by
  unfold confM
  rw [List.map_flatMap]
  refine flatMap_congr' fun g _ => ?_
  by_cases h : A1.getD g [] ≠ [] ∧ A2.getD g [] ≠ [] ∧ A1.getD g [] ≠ A2.getD g []
  · rw [if_pos h, if_pos ⟨h.2.1, h.1, fun z => h.2.2 z.symm⟩]
    rfl
  · rw [if_neg h, if_neg fun z => h ⟨z.2.1, z.1, fun y => z.2.2 y.symm⟩]
    rfl
/-! ### conflicts as data -/
def confD (c : Int × List Int × List Int) : PyData := .tuple [.int c.1, .tuple (c.2.1.map PyData.int), .tuple (c.2.2.map PyData.int)]
theorem dp_confs {K : PySem.W.Frag} {H : Hp} : ∀ {vs : List V} {cs : List (Int × List Int × List Int)}, ConfsV K H vs cs → DpAll K H vs (cs.map confD)
  | _, _, .nil => .nil
  | _, _, .cons ⟨_, _, _, h1, h2, h3, h4⟩ r => .cons (h1 ▸ .tup h2 (.cons (.int _) (.cons (.tup h3 (dp_ints _)) (.cons (.tup h4 (dp_ints _)) .nil)))) (dp_confs r)
theorem lay_confs : ∀ cs : List (Int × List Int × List Int), PyData.canLayAll0 (cs.map confD) = true
  | [] => rfl
  | c :: cs => by
    show (PyData.canLay0 (confD c) && PyData.canLayAll0 (cs.map confD)) = true
    rw [lay_confs cs]
    simp [confD, PyData.canLay0, PyData.canLayAll0, Cm.canLayAll_ints]
theorem depth_confs : ∀ cs : List (Int × List Int × List Int), PyData.depthAll (cs.map confD) ≤ 2
  | [] => by simp [PyData.depthAll]
  | c :: cs => by
    show max (PyData.depth (confD c)) (PyData.depthAll (cs.map confD)) ≤ 2
    have := depth_confs cs
    simp [confD, PyData.depth, PyData.depthAll, Cm.depthAll_ints]
    omega
theorem shaped_confs (cs : List (Int × List Int × List Int)) : SeqAt.shaped (.list (cs.map confD)) = true := by
  have h := depth_confs cs
  refine Bool.and_eq_true_iff.mpr ⟨lay_confs cs, decide_eq_true ?_⟩
  show PyData.depthAll (cs.map confD) + 1 ≤ 64
  omega
def mrgD (ss : List Step) (cs : List (Int × List Int × List Int)) : PyData := .tuple [.list (ss.map stepD), .list (cs.map confD)]
theorem shaped_mrg (ss : List Step) (cs : List (Int × List Int × List Int)) : SeqAt.shaped (mrgD ss cs) = true := by
  have h1 := depth_confs cs
  have h2 := depth_steps ss
  refine Bool.and_eq_true_iff.mpr ⟨?_, decide_eq_true ?_⟩
  · show (PyData.canLayAll0 (ss.map stepD) && (PyData.canLayAll0 (cs.map confD) && true)) = true
    rw [canLay_steps, lay_confs]
    rfl
  · show max (PyData.depthAll (ss.map stepD) + 1) (max (PyData.depthAll (cs.map confD) + 1) 0) + 1 ≤ 64
    omega
def trioD (ns : List Int) (s1 s2 : List Step) : PyData := .tuple [.list (ns.map PyData.int), .list (s1.map stepD), .list (s2.map stepD)]
theorem shaped_trio (ns : List Int) (s1 s2 : List Step) : SeqAt.shaped (trioD ns s1 s2) = true := by
  have h1 := depth_steps s1
  have h2 := depth_steps s2
  refine Bool.and_eq_true_iff.mpr ⟨?_, decide_eq_true ?_⟩
  · show (PyData.canLayAll0 (ns.map PyData.int) && (PyData.canLayAll0 (s1.map stepD) && (PyData.canLayAll0 (s2.map stepD) && true))) = true
    rw [canLay_steps, canLay_steps, Cm.canLayAll_ints]
    rfl
  · show max (PyData.depthAll (ns.map PyData.int) + 1) (max (PyData.depthAll (s1.map stepD) + 1) (max (PyData.depthAll (s2.map stepD) + 1) 0)) + 1 ≤ 64
    rw [Cm.depthAll_ints]
    omega

/-! ### what outlines make -/
theorem run_outline {ss : List Step} (hp : PosS ss) {n : Nat} (ht : taken ss = n) (o : List Int) : run o ss = run o ((List.range (n + 1)).flatMap (segU (gapsO ss) (keptO ss) n)) := by
  have hb := keptO_len ss
  have hg := gapsO_len ss
  rw [ht] at hb hg
  obtain ⟨R, h1, h2⟩ := outline_alike ss hp [] [] [] rfl
  have h1 : Ul (gapsO ss) (keptO ss) = R := h1
  have e := Ul_range (keptO ss) (gapsO ss) (by omega)
  rw [hb, h1] at e
  have hn : nf R = nf ss := (h2.trans (alike_add0 ss)) 0 0 []
  rw [e, ← run_nf o ss, ← run_nf o R, hn]
theorem run_each {S : Nat → List Step} {v : Nat → List Int} {n : Nat} {o : List Int} (ht : ∀ g, g ≤ n → taken (S g) = if g < n then 1 else 0) (hr : ∀ g, g ≤ n → run (o.drop g) (S g) = v g) : ∀ i, i ≤ n + 1 → taken ((List.range i).flatMap S) = min i n ∧ run o ((List.range i).flatMap S) = (List.range i).flatMap v
  | 0, _ => by simp [taken, run]
  | i + 1, h => by
    have ih := run_each ht hr i (by omega)
    rw [List.range_succ, List.flatMap_append, List.flatMap_append, taken_app, run_app, ih.1, ih.2, List.flatMap_singleton, List.flatMap_singleton, ht i (by omega), show min i n = i by omega, hr i (by omega)]
    refine ⟨?_, rfl⟩
    split <;> omega
theorem range_at {v : Nat → List Int} {i : Nat} : ∀ n, i ≤ n → ∃ T, (List.range (n + 1)).flatMap v = (List.range i).flatMap v ++ (v i ++ T)
  | 0, h => by
    obtain rfl : i = 0 := by omega
    exact ⟨[], by simp⟩
  | n + 1, h => by
    by_cases e : i = n + 1
    · subst e
      exact ⟨[], by rw [List.range_succ, List.flatMap_append]; simp⟩
    · obtain ⟨T, hT⟩ := range_at (v := v) (i := i) n (by omega)
      refine ⟨T ++ v (n + 1), ?_⟩
      rw [List.range_succ, List.flatMap_append, hT]
      simp
theorem run_over {S : Nat → List Step} {v r : Nat → List Int} {n : Nat} (ht : ∀ g, g ≤ n → taken (S g) = (v g).length) (hr : ∀ g T, g ≤ n → run (v g ++ T) (S g) = r g) : ∀ i, i ≤ n + 1 → taken ((List.range i).flatMap S) = ((List.range i).flatMap v).length ∧ run ((List.range (n + 1)).flatMap v) ((List.range i).flatMap S) = (List.range i).flatMap r
  | 0, _ => by simp [taken, run]
  | i + 1, h => by
    have ih := run_over ht hr i (by omega)
    obtain ⟨T, hT⟩ := range_at (v := v) (i := i) n (by omega)
    rw [List.range_succ (n := i), List.flatMap_append, List.flatMap_append, List.flatMap_append, taken_app, run_app, ih.1, ih.2, List.flatMap_singleton, List.flatMap_singleton, List.flatMap_singleton, ht i (by omega), List.length_append]
    refine ⟨rfl, ?_⟩
    rw [hT, List.drop_left, hr i T (by omega)]
theorem run_ad (o x : List Int) (T : List Step) : run o (ad x ++ T) = x ++ run o T := by
  by_cases h : x.length ≠ 0
  · rw [adP h]
    rfl
  · have h0 : x = [] := List.eq_nil_of_length_eq_zero (by omega)
    rw [h0]
    rfl
theorem taken_ad (x : List Int) : taken (ad x) = 0 := by
  unfold ad
  split <;> rfl
theorem run_kp (o : List Int) (k : Nat) (T : List Step) : run o (kp k ++ T) = o.take k ++ run (o.drop k) T := by
  by_cases h : 0 < k
  · rw [kpP h]
    rfl
  · rw [show k = 0 by omega]
    rfl
theorem taken_kp (k : Nat) : taken (kp k) = k := by
  unfold kp
  split
  · rfl
  · show 0 = k
    omega
theorem drop_one {o : List Int} {g : Nat} (h : g < o.length) : ∃ T, o.drop g = o.getD g 0 :: T := by
  refine ⟨o.drop (g + 1), ?_⟩
  rw [List.drop_eq_getElem_cons h, List.getD_eq_getElem?_getD, List.getElem?_eq_getElem h]
  rfl
/-- what an outline makes at a place -/
def vU (o : List Int) (A : List (List Int)) (B : List Bool) (n g : Nat) : List Int := A.getD g [] ++ (if g < n ∧ B.getD g false = true then [o.getD g 0] else [])
def vM (o : List Int) (A1 A2 : List (List Int)) (B1 B2 : List Bool) (n g : Nat) : List Int := A1.getD g [] ++ ((if A2.getD g [] = A1.getD g [] then [] else A2.getD g []) ++ (if g < n ∧ (B1.getD g false && B2.getD g false) = true then [o.getD g 0] else []))
theorem run_U {o : List Int} {A : List (List Int)} {B : List Bool} {n : Nat} (ho : o.length = n) : run o ((List.range (n + 1)).flatMap (segU A B n)) = (List.range (n + 1)).flatMap (vU o A B n) := by
  refine (run_each (n := n) (o := o) (fun g hg => ?_) (fun g hg => ?_) (n + 1) (Nat.le_refl _)).2
  · unfold segU
    rw [taken_app, taken_ad]
    split
    · cases B.getD g false <;> rfl
    · rfl
  · unfold segU vU
    rw [run_ad]
    by_cases h : g < n
    · obtain ⟨T, hT⟩ := drop_one (o := o) (g := g) (by omega)
      rw [if_pos h, hT]
      cases B.getD g false with
      | true => rw [if_pos ⟨h, rfl⟩]; rfl
      | false => rw [if_neg (fun z => by cases z.2)]; rfl
    · rw [if_neg h, if_neg (fun z => h z.1)]
      rfl
theorem run_M {o : List Int} {A1 A2 : List (List Int)} {B1 B2 : List Bool} {n : Nat} (ho : o.length = n) : taken (stepsM A1 A2 B1 B2 n (n + 1)) = n ∧ run o (stepsM A1 A2 B1 B2 n (n + 1)) = (List.range (n + 1)).flatMap (vM o A1 A2 B1 B2 n) := by
  have z := run_each (S := segM A1 A2 B1 B2 n) (v := vM o A1 A2 B1 B2 n) (n := n) (o := o) (fun g hg => ?_) (fun g hg => ?_) (n + 1) (Nat.le_refl _)
  · exact ⟨by rw [stepsM, z.1]; omega, z.2⟩
  · unfold segM
    rw [taken_app, taken_app, taken_ad]
    have e : taken (if A2.getD g [] = A1.getD g [] then [] else ad (A2.getD g [])) = 0 := by
      split
      · rfl
      · exact taken_ad _
    rw [e]
    split
    · cases (B1.getD g false && B2.getD g false) <;> rfl
    · rfl
  · unfold segM vM
    rw [run_ad]
    have e : ∀ T, run (o.drop g) ((if A2.getD g [] = A1.getD g [] then [] else ad (A2.getD g [])) ++ T) = (if A2.getD g [] = A1.getD g [] then [] else A2.getD g []) ++ run (o.drop g) T := fun T => by
      split
      · rfl
      · exact run_ad _ _ _
    rw [e]
    by_cases h : g < n
    · obtain ⟨T, hT⟩ := drop_one (o := o) (g := g) (by omega)
      rw [if_pos h, hT]
      cases (B1.getD g false && B2.getD g false) with
      | true => rw [if_pos (show g < n ∧ true = true from ⟨h, rfl⟩)]; rfl
      | false => rw [if_neg (show ¬ (g < n ∧ false = true) from fun z => by cases z.2)]; rfl
    · rw [if_neg h, if_neg (show ¬ (g < n ∧ (B1.getD g false && B2.getD g false) = true) from fun z => h z.1)]
      rfl
def hereV (own other : List Int) (later : Bool) : List Int := if own = other then other else if later = true then other ++ own else own ++ other
theorem run_here (own other U : List Int) (later : Bool) (T : List Step) : run (other ++ U) (hereR own other later ++ T) = hereV own other later ++ run U T := by
  unfold hereR hereV
  have e1 : ∀ T, run (other ++ U) (kp other.length ++ T) = other ++ run U T := fun T => by
    rw [run_kp, List.take_left, List.drop_left]
  split
  · exact e1 T
  · split
    · rw [List.append_assoc, e1, run_ad, List.append_assoc]
    · rw [List.append_assoc, run_ad, e1, List.append_assoc]
theorem taken_here (own other : List Int) (later : Bool) : taken (hereR own other later) = other.length := by
  unfold hereR
  split
  · exact taken_kp _
  · split <;> rw [taken_app, taken_ad, taken_kp] <;> omega
theorem run_R {o : List Int} {A Ao : List (List Int)} {B Bo : List Bool} {later : Bool} {n : Nat} : taken (stepsR A Ao B Bo later n (n + 1)) = ((List.range (n + 1)).flatMap (vU o Ao Bo n)).length ∧ run ((List.range (n + 1)).flatMap (vU o Ao Bo n)) (stepsR A Ao B Bo later n (n + 1)) = (List.range (n + 1)).flatMap fun g => hereV (A.getD g []) (Ao.getD g []) later ++ (if g < n ∧ (Bo.getD g false && B.getD g false) = true then [o.getD g 0] else []) := by
  refine run_over (S := segR A Ao B Bo later n) (fun g hg => ?_) (fun g T hg => ?_) (n + 1) (Nat.le_refl _)
  · unfold segR vU
    rw [taken_app, taken_here, List.length_append]
    by_cases h : g < n ∧ Bo.getD g false = true
    · rw [if_pos h, if_pos h]
      cases B.getD g false <;> rfl
    · rw [if_neg h, if_neg h]
      rfl
  · unfold segR vU
    rw [List.append_assoc, run_here]
    by_cases h : g < n ∧ Bo.getD g false = true
    · rw [if_pos h, if_pos h, h.2]
      cases B.getD g false with
      | true => rw [if_pos (show g < n ∧ (true && true) = true from ⟨h.1, rfl⟩)]; rfl
      | false => rw [if_neg (show ¬ (g < n ∧ (true && false) = true) from fun z => by cases z.2)]; rfl
    · rw [if_neg h, if_neg h, if_neg (show ¬ (g < n ∧ (Bo.getD g false && B.getD g false) = true) from fun z => h ⟨z.1, by have := z.2; rw [Bool.and_eq_true] at this; exact this.1⟩)]
      rfl
/-- following the first script by the second one, rebased as the later one -/
theorem both_later {o : List Int} {s1 s2 : List Step} {n : Nat} (ho : o.length = n) (h1 : PosS s1) (k1 : taken s1 = n) : taken (stepsR (gapsO s2) (gapsO s1) (keptO s2) (keptO s1) true n (n + 1)) = (run o s1).length ∧ run (run o s1) (stepsR (gapsO s2) (gapsO s1) (keptO s2) (keptO s1) true n (n + 1)) = run o (stepsM (gapsO s1) (gapsO s2) (keptO s1) (keptO s2) n (n + 1)) := by
  have z := run_R (o := o) (A := gapsO s2) (Ao := gapsO s1) (B := keptO s2) (Bo := keptO s1) (later := true) (n := n)
  rw [run_outline h1 k1 o, run_U ho]
  refine ⟨z.1, z.2.trans ?_⟩
  rw [(run_M ho).2]
  refine flatMap_congr' fun g _ => ?_
  unfold vM hereV
  by_cases e : (gapsO s2).getD g [] = (gapsO s1).getD g []
  · rw [if_pos e, if_pos e, List.nil_append]
  · rw [if_neg e, if_neg e, if_pos rfl, List.append_assoc]
theorem both_earlier {o : List Int} {s1 s2 : List Step} {n : Nat} (ho : o.length = n) (h2 : PosS s2) (k2 : taken s2 = n) : taken (stepsR (gapsO s1) (gapsO s2) (keptO s1) (keptO s2) false n (n + 1)) = (run o s2).length ∧ run (run o s2) (stepsR (gapsO s1) (gapsO s2) (keptO s1) (keptO s2) false n (n + 1)) = run o (stepsM (gapsO s1) (gapsO s2) (keptO s1) (keptO s2) n (n + 1)) := by
  have z := run_R (o := o) (A := gapsO s1) (Ao := gapsO s2) (B := keptO s1) (Bo := keptO s2) (later := false) (n := n)
  rw [run_outline h2 k2 o, run_U ho]
  refine ⟨z.1, z.2.trans ?_⟩
  rw [(run_M ho).2]
  refine flatMap_congr' fun g _ => ?_
  unfold vM hereV
  rw [Bool.and_comm]
  by_cases e : (gapsO s1).getD g [] = (gapsO s2).getD g []
  · rw [if_pos e, if_pos e.symm, List.nil_append, e]
  · rw [if_neg e, if_neg (show ¬ (false = true) by decide), if_neg (show ¬ ((gapsO s2).getD g [] = (gapsO s1).getD g []) from fun z => e z.symm), List.append_assoc]

-- @@LAW
theorem kd_eq_drop {s : Step} : V.str s.kd = V.str (Str.ofString "drop") ↔ ∃ n, s = .drop n := by
  cases s with
  | keep n => exact ⟨fun h => absurd (V.str.inj h) kd_keep_drop, fun ⟨_, h⟩ => by cases h⟩
  | drop n => exact ⟨fun _ => ⟨n, rfl⟩, fun _ => rfl⟩
  | add xs => exact ⟨fun h => absurd (V.str.inj h) kd_add_drop, fun ⟨_, h⟩ => by cases h⟩
def kpD : Step → Step
  | .keep n => .keep n
  | .drop _ => .keep 1
  | .add xs => .add xs
theorem mapD_le : ∀ {ss : List Step}, PosS ss → tot (ss.map kpD) ≤ tot ss ∧ taken (ss.map kpD) ≤ taken ss
  | [], _ => ⟨Nat.le_refl _, Nat.le_refl _⟩
  | s :: ss, h => by
    have ih := mapD_le (ss := ss) (fun x hx => h x (List.mem_cons_of_mem _ hx))
    have h0 := h s List.mem_cons_self
    cases s with
    | keep n => exact ⟨Nat.add_le_add_left ih.1 n, Nat.add_le_add_left ih.2 n⟩
    | drop n =>
      have h0 : 0 < n := h0
      exact ⟨Nat.add_le_add (show 1 ≤ n by omega) ih.1, Nat.add_le_add (show 1 ≤ n by omega) ih.2⟩
    | add xs => exact ⟨Nat.add_le_add_left ih.1 _, Nat.add_le_add_left ih.2 _⟩
theorem mapD_posk {ss : List Step} (h : PosS ss) : ∀ n, Step.keep n ∈ ss.map kpD → 0 < n := fun n hn => by
  obtain ⟨s, hs, e⟩ := List.mem_map.mp hn
  have h0 := h s hs
  cases s with
  | keep m =>
    have h0 : 0 < m := h0
    simp only [kpD, Step.keep.injEq] at e
    omega
  | drop m =>
    simp only [kpD, Step.keep.injEq] at e
    omega
  | add xs => simp [kpD] at e
theorem posK_of {ss : List Step} (h : PosS ss) : PosK ss := fun n hn => h _ hn
theorem taken_keep (ss : List Step) (n : Nat) : taken (ss ++ [.keep n]) = taken ss + n := taken_snoc ss (.keep n)
theorem tot_keep (ss : List Step) (n : Nat) : tot (ss ++ [.keep n]) = tot ss + n := tot_snoc ss (.keep n)
@[reducible] def st62 (a po p1 : Addr) (v3 v5 v6 v7 v8 v9 v10 v11 : Option V) : L2.St := [some (.ref a), some (.ref po), some (.ref p1), v3, none, v5, v6, v7, v8, v9, v10, v11]
theorem ok_law0 (T : Txt K mg C_InvalidScript c_taken_items P_taken_items) (f : Addr) (fd : FuncData) (F : Fun K "law" "law" s_law f fd) : FnOk P w K mg base CX0 8 f fd ["script"] (GX.spLawT K [P_taken_items]) := by
  have G__law_cell := ok__law_cell (P := P) (w := w) (base := base) T
  have G__law_items := ok__law_items (P := P) (w := w) (base := base) T
  have G__law_script := ok__law_script (P := P) (w := w) (base := base) T
  have G__law_normal := ok__law_normal (P := P) (w := w) (base := base) T
  have G__law_is_normal := ok__law_is_normal (P := P) (w := w) (base := base) T
  have G__law_outline := ok__law_outline (P := P) (w := w) (base := base) T
  have G__law_patch := ok__law_patch (P := P) (w := w) (base := base) T
  have G_merged := ok_merged (P := P) (w := w) (base := base) T
  have G_rebased := ok_rebased (P := P) (w := w) (base := base) T
  refine F.ok sc_law (fun vs H Q E h => ?_) (fun cdv A outer s H vs Q E hr h => ?_)
  · obtain ⟨a, ns, rfl, _⟩ := h
    rfl
  · obtain ⟨a, ns, rfl, hS, hlen, tb, kQ⟩ := h
    have nd := sc_law.nd
    have hu64 : (A.deeper (envOfC "law" (defScope s_law) s.heap.objs.size f cdv)).units + 64 < cLine := by
      have := hr.un
      omega
    have tb0 : GxR.TabG H P_taken_items := tb _ (List.mem_singleton.mpr rfl)
    refine ⟨_,       (Evl.pss_cut (ps_set (i := 1) nd rfl (Or.inl rfl) (pe_callO G__law_items (hr.mono (by decide)) pass0 (pa_cons (pe_callO G__law_cell (hr.mono (by decide)) pass0 (pa_cons (pv 0) (pa_cons pe_int pa_nil))) (pa_cons (pe_op op_mod (pe_callO G__law_cell (hr.mono (by decide)) pass0 (pa_cons (pv 0) (pa_cons pe_int pa_nil))) pe_int) pa_nil))))
      (Evl.pss_cut (ps_set (i := 2) nd rfl (Or.inl rfl) (pe_callO G__law_normal (hr.mono (by decide)) pass0 (pa_cons (pe_callO G__law_script (hr.mono (by decide)) pass0 (pa_cons (pe_slice sl_list (pv 0) (po_some pe_int) (po_some pe_int)) (pa_cons (pv 1) pa_nil))) pa_nil)))
      (Evl.pss_cut (ps_set (i := 3) nd rfl (Or.inl rfl) (pe_callO G__law_normal (hr.mono (by decide)) pass0 (pa_cons (pe_callO G__law_script (hr.mono (by decide)) pass0 (pa_cons (pe_slice sl_list (pv 0) (po_some pe_int) (po_some pe_int)) (pa_cons (pv 1) pa_nil))) pa_nil)))
      (Evl.pss_cut (ps_if (pt_cmpR op_eq (pe_op op_mod (pe_callO G__law_cell (hr.mono (by decide)) pass0 (pa_cons (pv 0) (pa_cons pe_int pa_nil))) pe_int) pe_int (nomark _))
        (pss_cons (ps_set (i := 3) nd rfl (Or.inl rfl) (pe_callO G__law_normal (hr.mono (by decide)) pass0 (pa_cons (pe_lc (own := [("step", 4)]) (g := gName 4) (tt := tYes) rfl nd (pi_list (pv 2)) (blkOk_by (N := N_law) (sc := defScope s_law) (by decide +kernel)) (fun _ _ _ _ _ => (pg_name (i := 4) nd rfl (Or.inl rfl))) (fun _ _ _ _ _ => pts_nil) (fun _ _ _ _ _ => (pe_ifExp (pt_cmpR op_eq (pe_ix (r := rIxT K) ix_tup (pv 4) pe_int (fun _ _ => rfl)) pe_str (nomark _)) (pe_tup (pa_cons pe_str (pa_cons pe_int pa_nil))) (pv 4)))) pa_nil)))
        (pss_cons (ps_set (i := 5) nd rfl (Or.inl rfl) (pe_op op_sub (pe_callB call_len_seq (by rfl) T.n_len PySem.boot_len (pa_cons (pv 1) pa_nil)) (pe_callB call_len_seq (by rfl) T.n_len PySem.boot_len (pa_cons (pe_ix ix_tup (pe_callO G__law_outline (hr.mono (by decide)) pass0 (pa_cons (pv 3) pa_nil)) pe_int (fun _ _ => rfl)) pa_nil))))
        (pss_one (ps_if (pt_cmpR op_gt (pv 5) pe_int (nomark _))
          (pss_one (ps_set (i := 3) nd rfl (Or.inl rfl) (pe_callO G__law_normal (hr.mono (by decide)) pass0 (pa_cons (pe_op op_cat (pv 3) (pe_lst (pa_cons (pe_tup (pa_cons pe_str (pa_cons (pv 5) pa_nil))) pa_nil))) pa_nil)))) pss_nil)))) pss_nil)
      (pss_cons (ps_set (i := 6) nd rfl (Or.inl rfl) (pe_tup (pa_cons (pe_callTy call_list_of (by rfl) T.n_list (by decide +kernel) (pa_cons (pv 1) pa_nil)) (pa_cons (pe_callTy call_list_of (by rfl) T.n_list (by decide +kernel) (pa_cons (pv 2) pa_nil)) (pa_cons (pe_callTy call_list_of (by rfl) T.n_list (by decide +kernel) (pa_cons (pv 3) pa_nil)) pa_nil)))))
      (pss_cons (ps_set (i := 7) nd rfl (Or.inl rfl) (KD.pe_callD G_rebased (hr.mono (by decide)) passN (pa_cons (pe_ix ix_tup (pv 6) pe_int (fun _ _ => rfl)) (pa_cons (pe_ix ix_tup (pv 6) pe_int (fun _ _ => rfl)) (pa_cons (pe_ix ix_tup (pv 6) pe_int (fun _ _ => rfl)) pa_nil)))))
      (pss_cons (ps_set (i := 8) nd rfl (Or.inl rfl) (KD.pe_callK G_rebased (hr.mono (by decide)) passN (pa_cons (pe_ix ix_tup (pv 6) pe_int (fun _ _ => rfl)) (pa_cons (pe_ix ix_tup (pv 6) pe_int (fun _ _ => rfl)) (pa_cons (pe_ix ix_tup (pv 6) pe_int (fun _ _ => rfl)) pa_nil))) (pk_cons pe_bl pk_nil)))
      (pss_cons (ps_if (PW.pt (pw_or (pt_cmpR (op_neD hu64) (pv 6) (pe_tup (pa_cons (pv 1) (pa_cons (pv 2) (pa_cons (pv 3) pa_nil)))) (nomark _)) (pw_or (pt_not (pt_val (pe_callO G__law_is_normal (hr.mono (by decide)) pass0 (pa_cons (pv 7) pa_nil)))) (pw_or1 (pt_not (pt_val (pe_callO G__law_is_normal (hr.mono (by decide)) pass0 (pa_cons (pv 8) pa_nil))))))))
        (pss_one (ps_ret pe_bl)) pss_nil)
      (pss_cons (ps_if (pt_cmpR (op_neD hu64) (KD.pe_callK G_rebased (hr.mono (by decide)) passN (pa_cons (pv 1) (pa_cons (pv 3) (pa_cons (pv 2) pa_nil))) (pk_cons pe_bl pk_nil)) (pv 7) (nomark _))
        (pss_one (ps_ret pe_bl)) pss_nil)
      (pss_cons (ps_set (i := 9) nd rfl (Or.inl rfl) (pe_callO G__law_patch (hr.mono (by decide)) pass0 (pa_cons (pv 1) (pa_cons (pe_ix ix_tup (pe_callO G_merged (hr.mono (by decide)) passN (pa_cons (pv 1) (pa_cons (pv 2) (pa_cons (pv 3) pa_nil)))) pe_int (fun _ _ => rfl)) pa_nil))))
      (pss_cons (ps_set (i := 10) nd rfl (Or.inl rfl) (pe_callO G__law_patch (hr.mono (by decide)) pass0 (pa_cons (pe_callO G__law_patch (hr.mono (by decide)) pass0 (pa_cons (pv 1) (pa_cons (pv 2) pa_nil))) (pa_cons (pv 7) pa_nil))))
      (pss_cons (ps_set (i := 11) nd rfl (Or.inl rfl) (pe_callO G__law_patch (hr.mono (by decide)) pass0 (pa_cons (pe_callO G__law_patch (hr.mono (by decide)) pass0 (pa_cons (pv 1) (pa_cons (pv 3) pa_nil))) (pa_cons (pv 8) pa_nil))))
      (pss_one (ps_ret (pe_and (pe_cmpR op_notN (pv 9) pe_non (nomark _)) (pe_and (pe_cmpR (op_eqD hu64) (pv 10) (pv 9) (nomark _)) (pe_one (pe_cmpR (op_eqD hu64) (pv 11) (pv 9) (nomark _))))))))))))))))))), ?_⟩
    -- old
    refine ⟨fun σ' H' => Same H H' ∧ ∃ (po : Addr) (old : List Int), old.length ≤ 15 ∧ H' po = some (.lst (old.map V.int)) ∧ σ' = [some (.ref a), some (.ref po), none, none, none, none, none, none, none, none, none, none], ?_, ?_⟩
    · obtain ⟨n0, hn0, hn1⟩ : ∃ n0 : Nat, cell ns 1 % 16 = (n0 : Int) ∧ n0 ≤ 15 := ⟨(cell ns 1 % 16).toNat, by omega, by omega⟩
      exact ⟨_, rfl, a, ns, 0, rfl, hS, _, rfl, a, ns, 1, rfl, hS, _, _, rfl, rfl, (by show (0 : Int) < 16; decide), cell ns 0, n0, (by show [V.int (cell ns 0), V.int (cell ns 1 % 16)] = _; rw [hn0]), by omega, fun p1 H1 old hp1 e1 hL1 hx1 => ⟨e1, p1, old, by omega, hL1, rfl⟩⟩
    rintro σ0 H0 ⟨e0, po, old, hol, hO, rfl⟩
    -- first
    refine ⟨fun σ' H' => Same H0 H' ∧ ∃ (p1 : Addr) (w1 : List V) (s1 : List Step), nfOk "" s1 ∧ s1.length ≤ 42 ∧ tot s1 ≤ 6500 ∧ taken s1 = old.length ∧ H' p1 = some (.lst w1) ∧ ScrV K H' w1 s1 ∧ σ' = st62 a po p1 none none none none none none none none, ?_, ?_⟩
    · refine ⟨_, rfl, _, rfl, _, rfl, a, _, rfl, e0.seq hS, fun r hr1 => ?_⟩
      have ecut : cutV (ns.map V.int) (some 3) (some 15) = ((ns.drop 3).take 12).map V.int := by
        rw [List.map_take, List.map_drop]
        exact cut_midG (j := 3) (k := 15) (by decide)
      rw [ecut]
      have f1 := same_upd (o := .lst (((ns.drop 3).take 12).map V.int)) hr1
      refine ⟨_, rfl, r, po, (ns.drop 3).take 12, old, rfl, SqL.of upd_same, SqL.of (f1 _ _ hO), by rw [List.length_take]; omega, by omega, fun p2 H2 ws ss hp2 e2 hL2 hV2 hsl hbd htk hps => ?_⟩
      have hss : ss.length ≤ 13 := by
        rw [List.length_take] at hsl
        omega
      have htot : tot ss ≤ 6500 := by
        have := tot_le hbd
        omega
      refine ⟨p2, ss, rfl, ⟨ws, SqL.of hL2, hV2⟩, posK_of hps, by omega, by omega, fun p3 H3 w3 hp3 e3 hL3 hV3 => ?_⟩
      have hnl := nfS_len ss 0 0 []
      exact ⟨(f1.trans e2).trans e3, p3, w3, nf ss, nf_ok (posK_of hps), (by show (nfS 0 0 [] ss).length ≤ 42; omega), by rw [tot_nf]; exact htot, by rw [taken_nf]; exact htk, hL3, hV3, rfl⟩
    rintro σ1 H1 ⟨e1, p1, w1, s1, hn1, hl1, ht1, hk1, hL1, hV1, rfl⟩
    have e01 := e0.trans e1
    have hO1 := e1 _ _ hO
    clear hO e0 e1
    -- second
    refine ⟨fun σ' H' => Same H1 H' ∧ ∃ (p2 : Addr) (w2 : List V) (s2 : List Step), nfOk "" s2 ∧ s2.length ≤ 42 ∧ tot s2 ≤ 6500 ∧ taken s2 = old.length ∧ H' p2 = some (.lst w2) ∧ ScrV K H' w2 s2 ∧ σ' = st62 a po p1 (some (.ref p2)) none none none none none none none, ?_, ?_⟩
    · refine ⟨_, rfl, _, rfl, _, rfl, a, _, rfl, e01.seq hS, fun r hr1 => ?_⟩
      have ecut : cutV (ns.map V.int) (some 15) (some 27) = ((ns.drop 15).take 12).map V.int := by
        rw [List.map_take, List.map_drop]
        exact cut_midG (j := 15) (k := 27) (by decide)
      rw [ecut]
      have f1 := same_upd (o := .lst (((ns.drop 15).take 12).map V.int)) hr1
      refine ⟨_, rfl, r, po, (ns.drop 15).take 12, old, rfl, SqL.of upd_same, SqL.of (f1 _ _ hO1), by rw [List.length_take]; omega, by omega, fun p2 H2 ws ss hp2 e2 hL2 hV2 hsl hbd htk hps => ?_⟩
      have hss : ss.length ≤ 13 := by
        rw [List.length_take] at hsl
        omega
      have htot : tot ss ≤ 6500 := by
        have := tot_le hbd
        omega
      refine ⟨p2, ss, rfl, ⟨ws, SqL.of hL2, hV2⟩, posK_of hps, by omega, by omega, fun p3 H3 w3 hp3 e3 hL3 hV3 => ?_⟩
      have hnl := nfS_len ss 0 0 []
      exact ⟨(f1.trans e2).trans e3, p3, w3, nf ss, nf_ok (posK_of hps), (by show (nfS 0 0 [] ss).length ≤ 42; omega), by rw [tot_nf]; exact htot, by rw [taken_nf]; exact htk, hL3, hV3, rfl⟩
    rintro σ2 H2 ⟨e2, p2, w2, s2, hn2, hl2, ht2, hk2, hL2, hV2, rfl⟩
    -- if
    refine ⟨fun σ' H' => Same H1 H' ∧ ∃ (p2 : Addr) (w2 : List V) (s2 : List Step) (v5 : Option V), nfOk "" s2 ∧ tot s2 ≤ 6515 ∧ taken s2 = old.length ∧ H' p2 = some (.lst w2) ∧ ScrV K H' w2 s2 ∧ σ' = st62 a po p1 (some (.ref p2)) v5 none none none none none none, ?_, ?_⟩
    · refine ⟨_, rfl, a, ns, 2, rfl, (e01.trans e2).seq hS, _, _, rfl, rfl, (by show (0 : Int) < 4; decide), rfl, _, rfl, itd (fun _ => ?_) (fun _ => ⟨e2, p2, w2, s2, none, hn2, by omega, hk2, hL2, hV2, rfl⟩)⟩
      have hL1' := e2 _ _ hL1
      have hV1' := hV1.keeps (sqT_same e2)
      have hp1s := nfOk_pos hn1
      refine ⟨_, rfl, p1, rfl, ⟨_, SqL.of hL1'⟩, fun D hD => lc_list (K := K) (a := p1) (xs := w1) (fun i H' => Same H2 H' ∧ ∃ ws, H' D = some (.lst ws) ∧ ScrV K H' ws ((s1.take i).map kpD)) ⟨same_upd hD, [], upd_same, .nil⟩ (fun i H' _ ⟨e, _⟩ => SqL.of (e _ _ hL1')) ?_ ?_⟩
      · rintro i x H' hx ⟨e, ws, hDl, hW⟩
        obtain ⟨s, hs, hst⟩ := scr_get hV1' hx
        have hst := hst.keeps (sqT_same e)
        obtain ⟨hi, hsi⟩ := List.getElem?_eq_some_iff.mp hs
        have hwl := hW.length
        rw [List.length_map, List.length_take] at hwl
        rw [take_snoc hi, hsi, List.map_append]
        cases s with
        | keep n =>
          obtain ⟨t, rfl, hT⟩ := hst
          refine ⟨rfl, _, rfl, t, _, _, .str "keep", rfl, rfl, hT, rfl, rfl, _, rfl, itd (fun h => absurd (V.str.inj h) kd_keep_drop) (fun _ => ?_)⟩
          refine ⟨_, rfl, _, hDl, small (by omega), same_new e hD, _, upd_same, ?_⟩
          exact (hW.keeps (sqT_lst hDl)).app (.cons ⟨t, rfl, sqT_lst hDl _ _ hT⟩ .nil)
        | drop n =>
          obtain ⟨t, rfl, hT⟩ := hst
          refine ⟨rfl, _, rfl, t, _, _, .str "drop", rfl, rfl, hT, rfl, rfl, _, rfl, itd (fun _ => ?_) (fun h => absurd rfl h)⟩
          refine ⟨(by show 2 ≤ sizeLine; decide), fun v hv => ?_⟩
          have g := same_upd (o := .tup [V.str "keep", V.int 1]) hv
          refine ⟨_, g _ _ hDl, small (by omega), same_new (e.trans g) hD, _, upd_same, ?_⟩
          exact ((hW.keeps (sqT_same g)).keeps (sqT_lst (g _ _ hDl))).app (.cons ⟨v, rfl, sqT_lst (g _ _ hDl) _ _ (SqT.of upd_same)⟩ .nil)
        | add xs =>
          obtain ⟨t, u, rfl, hT, hX⟩ := hst
          refine ⟨rfl, _, rfl, t, _, _, .str "add", rfl, rfl, hT, rfl, rfl, _, rfl, itd (fun h => absurd (V.str.inj h) kd_add_drop) (fun _ => ?_)⟩
          refine ⟨_, rfl, _, hDl, small (by omega), same_new e hD, _, upd_same, ?_⟩
          exact (hW.keeps (sqT_lst hDl)).app (.cons ⟨t, u, rfl, sqT_lst hDl _ _ hT, sqT_lst hDl _ _ hX⟩ .nil)
      · rintro H5 ⟨e5, ws, hDl, hW⟩
        rw [Paired.length hV1, List.take_length] at hW
        have q2 := mapD_le hp1s
        have q1 : (s1.map kpD).length = s1.length := List.length_map _
        refine ⟨D, s1.map kpD, rfl, ⟨ws, SqL.of hDl, hW⟩, mapD_posk hp1s, by omega, by omega, fun p3 H6 w3 hp3 e6 hL6 hV6 => ?_⟩
        have hn3 := nf_ok (mapD_posk hp1s)
        have q4 := nfS_len (s1.map kpD) 0 0 []
        have q5 : (nf (s1.map kpD)).length ≤ 130 := by show (nfS 0 0 [] (s1.map kpD)).length ≤ 130; omega
        have q6 := tot_nf (s1.map kpD)
        have q7 := taken_nf (s1.map kpD)
        generalize nf (s1.map kpD) = s3 at hV6 hn3 q5 q6 q7
        have e46 := (e2.trans e5).trans e6
        -- rest
        refine ⟨_, rfl, po, _, rfl, .inl (SqL.of (e46 _ _ hO1)), _, rfl, p3, s3, rfl, ⟨w3, SqL.of hL6, hV6⟩, hn3, by omega, by omega, fun u kp dp kvs H7 e7 hu hK hD7 hG7 => ?_⟩
        refine ⟨u, _, _, .ref kp, rfl, rfl, SqT.of hu, rfl, kp, _, rfl, .inl (SqL.of hK), _, _, rfl, rfl, ?_⟩
        rw [List.length_map, List.length_map, keptO_len]
        have hrest : (old.length : Int) - (taken s3 : Int) = ((old.length - taken s3 : Nat) : Int) := by omega
        have e47 := e46.trans e7
        refine ⟨_, rfl, _, _, rfl, rfl, _, rfl, itd (fun h => ?_) (fun h => ?_)⟩
        · refine ⟨_, rfl, _, rfl, (by show 2 ≤ sizeLine; decide), fun v hv => ⟨(by show 1 ≤ sizeLine; decide), fun l hl => ?_⟩⟩
          dsimp only at hl ⊢
          rw [hrest] at hl ⊢
          have g1 := same_upd (o := .tup [V.str "keep", V.int ((old.length - taken s3 : Nat) : Int)]) hv
          have g2 := same_upd (o := .lst [V.ref v]) hl
          have hwl := hV6.length
          refine ⟨p3, l, _, _, rfl, rfl, (g1.trans g2) _ _ (e7 _ _ hL6), upd_same, smallE (by rw [List.length_singleton]; omega), fun r hr => ?_⟩
          have g3 := (g1.trans g2).trans (same_upd (o := .lst (w3 ++ [V.ref v])) hr)
          have hV7 := (hV6.keeps (sqT_same (e7.trans g3))).app (show ScrV K (upd (upd (upd H7 v (.tup [V.str "keep", V.int ((old.length - taken s3 : Nat) : Int)])) l (.lst [V.ref v])) r (.lst (w3 ++ [V.ref v]))) [V.ref v] [.keep (old.length - taken s3)] from .cons ⟨v, rfl, sqT_same (g2.trans (same_upd hr)) _ _ (SqT.of upd_same)⟩ .nil)
          have hps3 : PosS (s3 ++ [.keep (old.length - taken s3)]) := (nfOk_pos hn3).app (PosS.one (by show 0 < old.length - taken s3; omega))
          refine ⟨r, s3 ++ [.keep (old.length - taken s3)], rfl, ⟨_, SqL.of upd_same, hV7⟩, posK_of hps3, by rw [List.length_append, List.length_singleton]; omega, by rw [tot_keep]; omega, fun p8 H8 w8 hp8 e8 hL8 hV8 => ?_⟩
          exact ⟨e47.trans (g3.trans e8), p8, w8, nf (s3 ++ [.keep (old.length - taken s3)]), some _, nf_ok (posK_of hps3), by rw [tot_nf, tot_keep]; omega, by rw [taken_nf, taken_keep]; omega, hL8, hV8, rfl⟩
        · exact ⟨e47, p3, w3, s3, some _, hn3, by omega, by omega, e7 _ _ hL6, hV6.keeps (sqT_same e7), rfl⟩
    clear hn2 hl2 ht2 hk2 hL2 hV2 e2 s2 w2 p2
    rintro σ6 H6 ⟨e6, p2, w2, s2, v5, hn2, ht2, hk2, hL2, hV2, rfl⟩
    have hO6 := e6 _ _ hO1
    have hL16 := e6 _ _ hL1
    have hV16 := hV1.keeps (sqT_same e6)
    have e06 := e01.trans e6
    -- copies
    refine ⟨_, rfl, po, _, rfl, .inl (SqL.of hO6), fun c0 hc0 => ?_⟩
    have g0 := same_upd (o := .lst (old.map V.int)) hc0
    refine ⟨_, rfl, p1, _, rfl, .inl (SqL.of (g0 _ _ hL16)), fun c1 hc1 => ?_⟩
    have g1 := g0.trans (same_upd (o := .lst w1) hc1)
    refine ⟨_, rfl, p2, _, rfl, .inl (SqL.of (g1 _ _ hL2)), fun c2 hc2 => ?_⟩
    have g2 := g1.trans (same_upd (o := .lst w2) hc2)
    refine ⟨(by show 3 ≤ sizeLine; decide), fun cp hcp => ?_⟩
    have f1 := same_upd (o := .tup [V.ref c0, V.ref c1, V.ref c2]) hcp
    have f2 := (same_upd (o := .lst w2) hc2).trans f1
    have f3 := (same_upd (o := .lst w1) hc1).trans f2
    have g3 := g2.trans f1
    have hC : (upd (upd (upd (upd H6 c0 (.lst (old.map V.int))) c1 (.lst w1)) c2 (.lst w2)) cp (.tup [V.ref c0, V.ref c1, V.ref c2])) cp = some (.tup [V.ref c0, V.ref c1, V.ref c2]) := upd_same
    have hC0 := f3 _ _ (show (upd H6 c0 (.lst (old.map V.int))) c0 = some (.lst (old.map V.int)) from upd_same)
    have hC1 := f2 _ _ (show (upd (upd H6 c0 (.lst (old.map V.int))) c1 (.lst w1)) c1 = some (.lst w1) from upd_same)
    have hC2 := f1 _ _ (show (upd (upd (upd H6 c0 (.lst (old.map V.int))) c1 (.lst w1)) c2 (.lst w2)) c2 = some (.lst w2) from upd_same)
    have hO7 := g3 _ _ hO6
    have hL17 := g3 _ _ hL16
    have hL27 := g3 _ _ hL2
    have hV17 := hV16.keeps (sqT_same g3)
    have hV27 := hV2.keeps (sqT_same g3)
    have tb7 := (GX.Sm.of (e06.trans g3)).tab _ tb0
    generalize upd (upd (upd (upd H6 c0 (.lst (old.map V.int))) c1 (.lst w1)) c2 (.lst w2)) cp (.tup [V.ref c0, V.ref c1, V.ref c2]) = H7 at hC hC0 hC1 hC2 hO7 hL17 hL27 hV17 hV27 tb7 ⊢
    clear hO6 hL16 hV16 hL2 hV2 g0 g1 g2 f1 f2 f3 g3 hc0 hc1 hc2 hcp e6 hL1 hV1 hO1
    have dpT : ∀ {H' : Hp} {u x y z : Addr}, SqT K H' u [.ref x, .ref y, .ref z] → SqL K H' x (old.map V.int) → SqL K H' y w1 → SqL K H' z w2 → ScrV K H' w1 s1 → ScrV K H' w2 s2 → Dp K H' (.ref u) (trioD old s1 s2) := fun h1 h2 h3 h4 h5 h6 =>
      .tup h1 (.cons (dp_list h2) (.cons (dp_scr ⟨w1, h3, h5⟩) (.cons (dp_scr ⟨w2, h4, h6⟩) .nil)))
    have scr1 : ∀ {H' : Hp}, GX.Sm H7 H' → ScrAt K H' p1 s1 := fun e => ⟨w1, e.seq (SqL.of hL17), hV17.keeps (sqT_sm e)⟩
    have scr2 : ∀ {H' : Hp}, GX.Sm H7 H' → ScrAt K H' p2 s2 := fun e => ⟨w2, e.seq (SqL.of hL27), hV27.keeps (sqT_sm e)⟩
    have sO : ∀ {H' : Hp}, GX.Sm H7 H' → SqL K H' po (old.map V.int) := fun e => e.seq (SqL.of hO7)
    -- after
    refine ⟨_, rfl, cp, _, _, .ref c0, rfl, rfl, SqT.of hC, rfl, _, rfl, cp, _, _, .ref c2, rfl, rfl, SqT.of hC, rfl, _, rfl, cp, _, _, .ref c1, rfl, rfl, SqT.of hC, rfl, c0, c2, c1, true, old, s2, s1, rfl, SqL.of hC0, ⟨w2, SqL.of hC2, hV27⟩, ⟨w1, SqL.of hC1, hV17⟩, tb7, by omega, by omega, by omega, fun hn => absurd ⟨hk2, hk1⟩ hn, fun _ _ pa wa H8 e8 hA hVA => ?_⟩
    -- before
    refine ⟨_, rfl, cp, _, _, .ref c0, rfl, rfl, e8.tup (SqT.of hC), rfl, _, rfl, cp, _, _, .ref c1, rfl, rfl, e8.tup (SqT.of hC), rfl, _, rfl, cp, _, _, .ref c2, rfl, rfl, e8.tup (SqT.of hC), rfl, ?_⟩
    have pk1 : PosK (stepsR (gapsO s2) (gapsO s1) (keptO s2) (keptO s1) true old.length (old.length + 1)) := stepsR_posk _ _ _ _ _ _ _
    have pk2 : PosK (stepsR (gapsO s1) (gapsO s2) (keptO s1) (keptO s2) false old.length (old.length + 1)) := stepsR_posk _ _ _ _ _ _ _
    have tt1 := stepsR_tot (gapsO s2) (gapsO s1) (keptO s2) (keptO s1) true old.length (old.length + 1)
    have tt2 := stepsR_tot (gapsO s1) (gapsO s2) (keptO s1) (keptO s2) false old.length (old.length + 1)
    have tt3 := stepsM_tot (gapsO s1) (gapsO s2) (keptO s1) (keptO s2) old.length (old.length + 1)
    have gs1 := gapsO_sum s1
    have gs2 := gapsO_sum s2
    refine ⟨rfl, rfl, c0, c1, c2, false, old, s1, s2, rfl, e8.seq (SqL.of hC0), ⟨w1, e8.seq (SqL.of hC1), hV17.keeps (sqT_sm e8)⟩, ⟨w2, e8.seq (SqL.of hC2), hV27.keeps (sqT_sm e8)⟩, e8.tab _ tb7, by omega, by omega, by omega, fun hn => absurd ⟨hk1, hk2⟩ hn, fun _ _ pb wb H9 e9 hB hVB => ?_⟩
    have E9 := GX.Sm.trans e8 e9
    -- if copies
    refine ⟨_, rfl, _, rfl, _, rfl, _, rfl, (by show 3 ≤ sizeLine; decide), fun u2 hu2 => ?_⟩
    have g9 := same_upd (o := .tup [V.ref po, V.ref p1, V.ref p2]) hu2
    have E10 := GX.Sm.trans E9 (GX.Sm.of g9)
    refine ⟨_, _, dpT (E10.tup (SqT.of hC)) (E10.seq (SqL.of hC0)) (E10.seq (SqL.of hC1)) (E10.seq (SqL.of hC2)) (hV17.keeps (sqT_sm E10)) (hV27.keeps (sqT_sm E10)), dpT (SqT.of upd_same) (sO E10) (E10.seq (SqL.of hL17)) (E10.seq (SqL.of hL27)) (hV17.keeps (sqT_sm E10)) (hV27.keeps (sqT_sm E10)), shaped_trio _ _ _, shaped_trio _ _ _, ne_noG (eqv_refl' (shaped_trio _ _ _)) ?_⟩
    have hA := g9 _ _ (e9.l hA)
    have hVA := (hVA.keeps (sqT_sm e9)).keeps (sqT_same g9)
    have hB := g9 _ _ hB
    have hVB := hVB.keeps (sqT_same g9)
    generalize upd H9 u2 (.tup [V.ref po, V.ref p1, V.ref p2]) = H10 at E10 hA hVA hB hVB ⊢
    refine ⟨_, rfl, pa, _, rfl, ⟨wa, SqL.of hA, hVA⟩, nf_ok pk1, true, rfl, iteF ?_⟩
    refine ⟨_, rfl, pb, _, rfl, ⟨wb, SqL.of hB, hVB⟩, nf_ok pk2, true, rfl, iteF ?_⟩
    -- if rebased
    refine ⟨_, rfl, _, rfl, _, rfl, rfl, rfl, po, p2, p1, true, old, s2, s1, rfl, sO E10, scr2 E10, scr1 E10, E10.tab _ tb7, by omega, by omega, by omega, fun hn => absurd ⟨hk2, hk1⟩ hn, fun _ _ pc wc H11 e11 hC' hVC => ?_⟩
    have hA := e11.l hA
    have hVA := hVA.keeps (sqT_sm e11)
    have hB := e11.l hB
    have hVB := hVB.keeps (sqT_sm e11)
    have E11 := GX.Sm.trans E10 e11
    refine ⟨_, rfl, _, _, dp_scr ⟨wc, SqL.of hC', hVC⟩, dp_scr ⟨wa, SqL.of hA, hVA⟩, shaped_steps _, shaped_steps _, ne_noG (eqv_refl' (shaped_steps _)) ?_⟩
    clear hC' hVC E10 e11
    -- due
    refine ⟨_, rfl, _, rfl, _, rfl, _, rfl, po, p1, p2, old, s1, s2, rfl, sO E11, scr1 E11, scr2 E11, E11.tab _ tb7, by omega, by omega, by omega, fun hn => absurd ⟨hk1, hk2⟩ hn, fun _ _ um pm qm wm cm H12 e12 hum hpm hVm _ _ => ?_⟩
    have E12 := GX.Sm.trans E11 e12
    refine ⟨um, _, _, .ref pm, rfl, rfl, SqT.of hum, rfl, po, pm, old, _, rfl, sO E12, ⟨wm, SqL.of hpm, hVm⟩, by rw [tot_nf]; omega, fun z => absurd (by rw [taken_nf, (run_M (o := old) rfl).1]) z, fun _ pd H13 e13 hd => ?_⟩
    rw [run_nf] at hd
    have hA := e13 _ _ (e12.l hA)
    have hVA := (hVA.keeps (sqT_sm e12)).keeps (sqT_same e13)
    have hB := e13 _ _ (e12.l hB)
    have hVB := (hVB.keeps (sqT_sm e12)).keeps (sqT_same e13)
    have E13 := GX.Sm.trans E12 (GX.Sm.of e13)
    clear hum hpm hVm E12 E11 e12 e13
    -- one
    have bl := both_later (o := old) (s1 := s1) (s2 := s2) (n := old.length) rfl (nfOk_pos hn1) hk1
    have be := both_earlier (o := old) (s1 := s1) (s2 := s2) (n := old.length) rfl (nfOk_pos hn2) hk2
    refine ⟨_, rfl, _, rfl, po, p1, old, s1, rfl, sO E13, scr1 E13, by omega, fun z => absurd hk1 z, fun _ pe H14 e14 he => ?_⟩
    refine ⟨_, rfl, pe, pa, run old s1, _, rfl, SqL.of he, ⟨wa, SqL.of (e14 _ _ hA), hVA.keeps (sqT_same e14)⟩, by rw [tot_nf]; omega, fun z => absurd (by rw [taken_nf]; exact bl.1) z, fun _ p1' H15 e15 ho1 => ?_⟩
    rw [run_nf, bl.2] at ho1
    have e1415 := e14.trans e15
    have E15 := GX.Sm.trans E13 (GX.Sm.of e1415)
    -- other
    refine ⟨_, rfl, _, rfl, po, p2, old, s2, rfl, sO E15, scr2 E15, by omega, fun z => absurd hk2 z, fun _ pf H16 e16 hf => ?_⟩
    have e1416 := e1415.trans e16
    refine ⟨_, rfl, pf, pb, run old s2, _, rfl, SqL.of hf, ⟨wb, SqL.of (e1416 _ _ hB), hVB.keeps (sqT_same e1416)⟩, by rw [tot_nf]; omega, fun z => absurd (by rw [taken_nf]; exact be.1) z, fun _ p2' H17 e17 ho2 => ?_⟩
    rw [run_nf, be.2] at ho2
    have ho1 := (e16.trans e17) _ _ ho1
    have hd := (e1416.trans e17) _ _ hd
    refine ⟨_, rfl, rfl, true, by rw [decide_eq_false (show ¬ (V.ref pd = V.non) from fun h => by cases h)]; rfl, iteT ?_⟩
    refine ⟨_, rfl, _, rfl, _, _, dp_list (SqL.of ho1), dp_list (SqL.of hd), shaped_ints _, shaped_ints _, _, rfl, ?_⟩
    rw [eqv_refl' (shaped_ints _)]
    refine iteT ?_
    refine ⟨_, rfl, _, rfl, _, _, dp_list (SqL.of ho2), dp_list (SqL.of hd), shaped_ints _, shaped_ints _, ?_⟩
    exact to_true (Q := Q) (eqv_refl' (shaped_ints _)) (kQ _)

end
def names : List Str := ["taken_items"]
theorem law_mk {P : Program} {w : World} {K : PySem.W.Frag} {mg : Str → Option Value} {C_InvalidScript c_taken_items P_taken_items : Addr} {C_fa : Addr} (T : Txt K mg C_InvalidScript c_taken_items P_taken_items) (hfa : mg "law" = some (.ref C_fa)) (tb_taken_items : PySem.W.tabIn K "taken_items" = some (c_taken_items, P_taken_items)) : ∃ (fd : FuncData) (cs : List (Str × Addr × Addr)), (∀ t ∈ cs, t.1 ∈ names ∧ PySem.W.tabIn K t.1 = some t.2) ∧ (∀ (s : Shared) (v : Value), BindsTo s fd ⟨[v], []⟩ [("script", v)]) ∧ ∀ base : Heap, K.In base → base.Ns mainGlobals mg → (∀ t ∈ cs, LamX.TabB base mg t.2.1 t.2.2) → FnOk P w K mg base CX0 8 C_fa fd ["script"] (GX.spLawT K (cs.map (·.2.2))) := by
  obtain ⟨f, fd, F, g, b⟩ := id T.d_law
  have e := hfa.symm.trans g
  cases e
  refine ⟨fd, [("taken_items", c_taken_items, P_taken_items)], fun t ht => ?_, fun s v => ?_, fun base _ _ hT => ?_⟩
  · simp only [List.mem_cons, List.not_mem_nil, or_false] at ht
    subst ht
    exact ⟨.head _, tb_taken_items⟩
  · obtain ⟨oc, od, kV, doc, pm, an, cdv, ct, osl, rfl, lk, hcd⟩ := F.ex
    exact .of_eq rfl
  · haveI : Tbs base mg c_taken_items P_taken_items := ⟨GX.tb_of (hT ("taken_items", c_taken_items, P_taken_items) (by simp))⟩
    exact ok_law0 T _ fd F
theorem law_end {P : Program} {w : World} {K : PySem.W.Frag} {h : Heap} {mg : Str → Option Value} {C_fa : Addr} {C_InvalidScript c_taken_items P_taken_items : Addr} {f_taken_items : Addr} {oc_taken_items kV_taken_items dc_taken_items pm_taken_items ct_taken_items : Value} {od_taken_items an_taken_items : Option Addr} {sl_taken_items : Array (Option Value)} {f__taken_by : Addr} {oc__taken_by kV__taken_by dc__taken_by pm__taken_by cd__taken_by ct__taken_by : Value} {od__taken_by an__taken_by : Option Addr} {sl__taken_by : Array (Option Value)} {f_check_fit : Addr} {oc_check_fit kV_check_fit dc_check_fit pm_check_fit cd_check_fit ct_check_fit : Value} {od_check_fit an_check_fit : Option Addr} {sl_check_fit : Array (Option Value)} {f_normalized : Addr} {oc_normalized kV_normalized dc_normalized pm_normalized cd_normalized ct_normalized : Value} {od_normalized an_normalized : Option Addr} {sl_normalized : Array (Option Value)} {f__steps : Addr} {oc__steps kV__steps dc__steps pm__steps cd__steps ct__steps : Value} {od__steps an__steps : Option Addr} {sl__steps : Array (Option Value)} {f_merged : Addr} {oc_merged kV_merged dc_merged pm_merged cd_merged ct_merged : Value} {od_merged an_merged : Option Addr} {sl_merged : Array (Option Value)} {f_rebased D_rebased : Addr} {oc_rebased dc_rebased pm_rebased cd_rebased ct_rebased : Value} {od_rebased an_rebased : Option Addr} {sl_rebased : Array (Option Value)} {f__keeps_and_adds : Addr} {oc__keeps_and_adds kV__keeps_and_adds dc__keeps_and_adds pm__keeps_and_adds cd__keeps_and_adds ct__keeps_and_adds : Value} {od__keeps_and_adds an__keeps_and_adds : Option Addr} {sl__keeps_and_adds : Array (Option Value)} {f__adding : Addr} {oc__adding kV__adding dc__adding pm__adding cd__adding ct__adding : Value} {od__adding an__adding : Option Addr} {sl__adding : Array (Option Value)} {f__law_cell : Addr} {oc__law_cell kV__law_cell dc__law_cell pm__law_cell cd__law_cell ct__law_cell : Value} {od__law_cell an__law_cell : Option Addr} {sl__law_cell : Array (Option Value)} {f__law_mix : Addr} {oc__law_mix kV__law_mix dc__law_mix pm__law_mix cd__law_mix ct__law_mix : Value} {od__law_mix an__law_mix : Option Addr} {sl__law_mix : Array (Option Value)} {f__law_row : Addr} {oc__law_row kV__law_row dc__law_row pm__law_row cd__law_row ct__law_row : Value} {od__law_row an__law_row : Option Addr} {sl__law_row : Array (Option Value)} {f__law_is_int : Addr} {oc__law_is_int kV__law_is_int dc__law_is_int pm__law_is_int cd__law_is_int ct__law_is_int : Value} {od__law_is_int an__law_is_int : Option Addr} {sl__law_is_int : Array (Option Value)} {f__law_items : Addr} {oc__law_items kV__law_items dc__law_items pm__law_items cd__law_items ct__law_items : Value} {od__law_items an__law_items : Option Addr} {sl__law_items : Array (Option Value)} {f__law_script : Addr} {oc__law_script kV__law_script dc__law_script pm__law_script cd__law_script ct__law_script : Value} {od__law_script an__law_script : Option Addr} {sl__law_script : Array (Option Value)} {f__law_patch : Addr} {oc__law_patch kV__law_patch dc__law_patch pm__law_patch cd__law_patch ct__law_patch : Value} {od__law_patch an__law_patch : Option Addr} {sl__law_patch : Array (Option Value)} {f__law_is_normal : Addr} {oc__law_is_normal kV__law_is_normal dc__law_is_normal pm__law_is_normal cd__law_is_normal ct__law_is_normal : Value} {od__law_is_normal an__law_is_normal : Option Addr} {sl__law_is_normal : Array (Option Value)} {f__law_close : Addr} {oc__law_close kV__law_close dc__law_close pm__law_close cd__law_close ct__law_close : Value} {od__law_close an__law_close : Option Addr} {sl__law_close : Array (Option Value)} {f__law_normal : Addr} {oc__law_normal kV__law_normal dc__law_normal pm__law_normal cd__law_normal ct__law_normal : Value} {od__law_normal an__law_normal : Option Addr} {sl__law_normal : Array (Option Value)} {f__law_outline : Addr} {oc__law_outline kV__law_outline dc__law_outline pm__law_outline cd__law_outline ct__law_outline : Value} {od__law_outline an__law_outline : Option Addr} {sl__law_outline : Array (Option Value)} {f_law : Addr} {oc_law kV_law dc_law pm_law cd_law ct_law : Value} {od_law an_law : Option Addr} {sl_law : Array (Option Value)} {cc_taken_items : Value} {ce_taken_items : Option Addr} {cf_taken_items : Array Value} {cg_taken_items : Array (Option Value)} (X : K.In h) (G : h.Ns mainGlobals mg) (hfa : mg "law" = some (.ref C_fa))
    (a_taken_items : PySem.W.nsIn K mainGlobals "taken_items" = some (some (.ref f_taken_items)))
    (l_taken_items : K.lookup f_taken_items = some ⟨oc_taken_items, od_taken_items, .func (PySem.W.fnOf "taken_items" "taken_items" (defArgs s_taken_items) (defBody s_taken_items) (defScope s_taken_items) .none kV_taken_items dc_taken_items pm_taken_items an_taken_items (.ref c_taken_items) ct_taken_items), sl_taken_items⟩)
    (e_taken_items : PySem.W.codeIn K (.ref c_taken_items) "taken_items" = true)
    (k_taken_items : PySem.W.keepIn K (.ref f_taken_items) = true)
    (a__taken_by : PySem.W.nsIn K mainGlobals "_taken_by" = some (some (.ref f__taken_by)))
    (l__taken_by : K.lookup f__taken_by = some ⟨oc__taken_by, od__taken_by, .func (PySem.W.fnOf "_taken_by" "_taken_by" (defArgs s__taken_by) (defBody s__taken_by) (defScope s__taken_by) .none kV__taken_by dc__taken_by pm__taken_by an__taken_by cd__taken_by ct__taken_by), sl__taken_by⟩)
    (c__taken_by : PySem.W.codeIn K cd__taken_by "_taken_by" = true)
    (k__taken_by : PySem.W.keepIn K (.ref f__taken_by) = true)
    (a_check_fit : PySem.W.nsIn K mainGlobals "check_fit" = some (some (.ref f_check_fit)))
    (l_check_fit : K.lookup f_check_fit = some ⟨oc_check_fit, od_check_fit, .func (PySem.W.fnOf "check_fit" "check_fit" (defArgs s_check_fit) (defBody s_check_fit) (defScope s_check_fit) .none kV_check_fit dc_check_fit pm_check_fit an_check_fit cd_check_fit ct_check_fit), sl_check_fit⟩)
    (c_check_fit : PySem.W.codeIn K cd_check_fit "check_fit" = true)
    (k_check_fit : PySem.W.keepIn K (.ref f_check_fit) = true)
    (a_normalized : PySem.W.nsIn K mainGlobals "normalized" = some (some (.ref f_normalized)))
    (l_normalized : K.lookup f_normalized = some ⟨oc_normalized, od_normalized, .func (PySem.W.fnOf "normalized" "normalized" (defArgs s_normalized) (defBody s_normalized) (defScope s_normalized) .none kV_normalized dc_normalized pm_normalized an_normalized cd_normalized ct_normalized), sl_normalized⟩)
    (c_normalized : PySem.W.codeIn K cd_normalized "normalized" = true)
    (k_normalized : PySem.W.keepIn K (.ref f_normalized) = true)
    (a__steps : PySem.W.nsIn K mainGlobals "_steps" = some (some (.ref f__steps)))
    (l__steps : K.lookup f__steps = some ⟨oc__steps, od__steps, .func (PySem.W.fnOf "_steps" "_steps" (defArgs s__steps) (defBody s__steps) (defScope s__steps) .none kV__steps dc__steps pm__steps an__steps cd__steps ct__steps), sl__steps⟩)
    (c__steps : PySem.W.codeIn K cd__steps "_steps" = true)
    (k__steps : PySem.W.keepIn K (.ref f__steps) = true)
    (a_merged : PySem.W.nsIn K mainGlobals "merged" = some (some (.ref f_merged)))
    (l_merged : K.lookup f_merged = some ⟨oc_merged, od_merged, .func (PySem.W.fnOf "merged" "merged" (defArgs s_merged) (defBody s_merged) (defScope s_merged) .none kV_merged dc_merged pm_merged an_merged cd_merged ct_merged), sl_merged⟩)
    (c_merged : PySem.W.codeIn K cd_merged "merged" = true)
    (k_merged : PySem.W.keepIn K (.ref f_merged) = true)
    (a_rebased : PySem.W.nsIn K mainGlobals "rebased" = some (some (.ref f_rebased)))
    (l_rebased : K.lookup f_rebased = some ⟨oc_rebased, od_rebased, .func (PySem.W.fnOf "rebased" "rebased" (defArgs s_rebased) (defBody s_rebased) (defScope s_rebased) .none (.ref D_rebased) dc_rebased pm_rebased an_rebased cd_rebased ct_rebased), sl_rebased⟩)
    (c_rebased : PySem.W.codeIn K cd_rebased "rebased" = true)
    (k_rebased : PySem.W.keepIn K (.ref f_rebased) = true)
    (n_rebased : PySem.W.nsIn K D_rebased "later" = some (some (.bool true)))
    (a__keeps_and_adds : PySem.W.nsIn K mainGlobals "_keeps_and_adds" = some (some (.ref f__keeps_and_adds)))
    (l__keeps_and_adds : K.lookup f__keeps_and_adds = some ⟨oc__keeps_and_adds, od__keeps_and_adds, .func (PySem.W.fnOf "_keeps_and_adds" "_keeps_and_adds" (defArgs s__keeps_and_adds) (defBody s__keeps_and_adds) (defScope s__keeps_and_adds) .none kV__keeps_and_adds dc__keeps_and_adds pm__keeps_and_adds an__keeps_and_adds cd__keeps_and_adds ct__keeps_and_adds), sl__keeps_and_adds⟩)
    (c__keeps_and_adds : PySem.W.codeIn K cd__keeps_and_adds "_keeps_and_adds" = true)
    (k__keeps_and_adds : PySem.W.keepIn K (.ref f__keeps_and_adds) = true)
    (a__adding : PySem.W.nsIn K mainGlobals "_adding" = some (some (.ref f__adding)))
    (l__adding : K.lookup f__adding = some ⟨oc__adding, od__adding, .func (PySem.W.fnOf "_adding" "_adding" (defArgs s__adding) (defBody s__adding) (defScope s__adding) .none kV__adding dc__adding pm__adding an__adding cd__adding ct__adding), sl__adding⟩)
    (c__adding : PySem.W.codeIn K cd__adding "_adding" = true)
    (k__adding : PySem.W.keepIn K (.ref f__adding) = true)
    (a__law_cell : PySem.W.nsIn K mainGlobals "_law_cell" = some (some (.ref f__law_cell)))
    (l__law_cell : K.lookup f__law_cell = some ⟨oc__law_cell, od__law_cell, .func (PySem.W.fnOf "_law_cell" "_law_cell" (defArgs s__law_cell) (defBody s__law_cell) (defScope s__law_cell) .none kV__law_cell dc__law_cell pm__law_cell an__law_cell cd__law_cell ct__law_cell), sl__law_cell⟩)
    (c__law_cell : PySem.W.codeIn K cd__law_cell "_law_cell" = true)
    (k__law_cell : PySem.W.keepIn K (.ref f__law_cell) = true)
    (a__law_mix : PySem.W.nsIn K mainGlobals "_law_mix" = some (some (.ref f__law_mix)))
    (l__law_mix : K.lookup f__law_mix = some ⟨oc__law_mix, od__law_mix, .func (PySem.W.fnOf "_law_mix" "_law_mix" (defArgs s__law_mix) (defBody s__law_mix) (defScope s__law_mix) .none kV__law_mix dc__law_mix pm__law_mix an__law_mix cd__law_mix ct__law_mix), sl__law_mix⟩)
    (c__law_mix : PySem.W.codeIn K cd__law_mix "_law_mix" = true)
    (k__law_mix : PySem.W.keepIn K (.ref f__law_mix) = true)
    (a__law_row : PySem.W.nsIn K mainGlobals "_law_row" = some (some (.ref f__law_row)))
    (l__law_row : K.lookup f__law_row = some ⟨oc__law_row, od__law_row, .func (PySem.W.fnOf "_law_row" "_law_row" (defArgs s__law_row) (defBody s__law_row) (defScope s__law_row) .none kV__law_row dc__law_row pm__law_row an__law_row cd__law_row ct__law_row), sl__law_row⟩)
    (c__law_row : PySem.W.codeIn K cd__law_row "_law_row" = true)
    (k__law_row : PySem.W.keepIn K (.ref f__law_row) = true)
    (a__law_is_int : PySem.W.nsIn K mainGlobals "_law_is_int" = some (some (.ref f__law_is_int)))
    (l__law_is_int : K.lookup f__law_is_int = some ⟨oc__law_is_int, od__law_is_int, .func (PySem.W.fnOf "_law_is_int" "_law_is_int" (defArgs s__law_is_int) (defBody s__law_is_int) (defScope s__law_is_int) .none kV__law_is_int dc__law_is_int pm__law_is_int an__law_is_int cd__law_is_int ct__law_is_int), sl__law_is_int⟩)
    (c__law_is_int : PySem.W.codeIn K cd__law_is_int "_law_is_int" = true)
    (k__law_is_int : PySem.W.keepIn K (.ref f__law_is_int) = true)
    (a__law_items : PySem.W.nsIn K mainGlobals "_law_items" = some (some (.ref f__law_items)))
    (l__law_items : K.lookup f__law_items = some ⟨oc__law_items, od__law_items, .func (PySem.W.fnOf "_law_items" "_law_items" (defArgs s__law_items) (defBody s__law_items) (defScope s__law_items) .none kV__law_items dc__law_items pm__law_items an__law_items cd__law_items ct__law_items), sl__law_items⟩)
    (c__law_items : PySem.W.codeIn K cd__law_items "_law_items" = true)
    (k__law_items : PySem.W.keepIn K (.ref f__law_items) = true)
    (a__law_script : PySem.W.nsIn K mainGlobals "_law_script" = some (some (.ref f__law_script)))
    (l__law_script : K.lookup f__law_script = some ⟨oc__law_script, od__law_script, .func (PySem.W.fnOf "_law_script" "_law_script" (defArgs s__law_script) (defBody s__law_script) (defScope s__law_script) .none kV__law_script dc__law_script pm__law_script an__law_script cd__law_script ct__law_script), sl__law_script⟩)
    (c__law_script : PySem.W.codeIn K cd__law_script "_law_script" = true)
    (k__law_script : PySem.W.keepIn K (.ref f__law_script) = true)
    (a__law_patch : PySem.W.nsIn K mainGlobals "_law_patch" = some (some (.ref f__law_patch)))
    (l__law_patch : K.lookup f__law_patch = some ⟨oc__law_patch, od__law_patch, .func (PySem.W.fnOf "_law_patch" "_law_patch" (defArgs s__law_patch) (defBody s__law_patch) (defScope s__law_patch) .none kV__law_patch dc__law_patch pm__law_patch an__law_patch cd__law_patch ct__law_patch), sl__law_patch⟩)
    (c__law_patch : PySem.W.codeIn K cd__law_patch "_law_patch" = true)
    (k__law_patch : PySem.W.keepIn K (.ref f__law_patch) = true)
    (a__law_is_normal : PySem.W.nsIn K mainGlobals "_law_is_normal" = some (some (.ref f__law_is_normal)))
    (l__law_is_normal : K.lookup f__law_is_normal = some ⟨oc__law_is_normal, od__law_is_normal, .func (PySem.W.fnOf "_law_is_normal" "_law_is_normal" (defArgs s__law_is_normal) (defBody s__law_is_normal) (defScope s__law_is_normal) .none kV__law_is_normal dc__law_is_normal pm__law_is_normal an__law_is_normal cd__law_is_normal ct__law_is_normal), sl__law_is_normal⟩)
    (c__law_is_normal : PySem.W.codeIn K cd__law_is_normal "_law_is_normal" = true)
    (k__law_is_normal : PySem.W.keepIn K (.ref f__law_is_normal) = true)
    (a__law_close : PySem.W.nsIn K mainGlobals "_law_close" = some (some (.ref f__law_close)))
    (l__law_close : K.lookup f__law_close = some ⟨oc__law_close, od__law_close, .func (PySem.W.fnOf "_law_close" "_law_close" (defArgs s__law_close) (defBody s__law_close) (defScope s__law_close) .none kV__law_close dc__law_close pm__law_close an__law_close cd__law_close ct__law_close), sl__law_close⟩)
    (c__law_close : PySem.W.codeIn K cd__law_close "_law_close" = true)
    (k__law_close : PySem.W.keepIn K (.ref f__law_close) = true)
    (a__law_normal : PySem.W.nsIn K mainGlobals "_law_normal" = some (some (.ref f__law_normal)))
    (l__law_normal : K.lookup f__law_normal = some ⟨oc__law_normal, od__law_normal, .func (PySem.W.fnOf "_law_normal" "_law_normal" (defArgs s__law_normal) (defBody s__law_normal) (defScope s__law_normal) .none kV__law_normal dc__law_normal pm__law_normal an__law_normal cd__law_normal ct__law_normal), sl__law_normal⟩)
    (c__law_normal : PySem.W.codeIn K cd__law_normal "_law_normal" = true)
    (k__law_normal : PySem.W.keepIn K (.ref f__law_normal) = true)
    (a__law_outline : PySem.W.nsIn K mainGlobals "_law_outline" = some (some (.ref f__law_outline)))
    (l__law_outline : K.lookup f__law_outline = some ⟨oc__law_outline, od__law_outline, .func (PySem.W.fnOf "_law_outline" "_law_outline" (defArgs s__law_outline) (defBody s__law_outline) (defScope s__law_outline) .none kV__law_outline dc__law_outline pm__law_outline an__law_outline cd__law_outline ct__law_outline), sl__law_outline⟩)
    (c__law_outline : PySem.W.codeIn K cd__law_outline "_law_outline" = true)
    (k__law_outline : PySem.W.keepIn K (.ref f__law_outline) = true)
    (a_law : PySem.W.nsIn K mainGlobals "law" = some (some (.ref f_law)))
    (l_law : K.lookup f_law = some ⟨oc_law, od_law, .func (PySem.W.fnOf "law" "law" (defArgs s_law) (defBody s_law) (defScope s_law) .none kV_law dc_law pm_law an_law cd_law ct_law), sl_law⟩)
    (c_law : PySem.W.codeIn K cd_law "law" = true)
    (k_law : PySem.W.keepIn K (.ref f_law) = true)
    (z_sum : PySem.W.nsIn K mainGlobals "sum" = some none)
    (z_tuple : PySem.W.nsIn K mainGlobals "tuple" = some none)
    (z_range : PySem.W.nsIn K mainGlobals "range" = some none)
    (z_len : PySem.W.nsIn K mainGlobals "len" = some none)
    (z_int : PySem.W.nsIn K mainGlobals "int" = some none)
    (z_abs : PySem.W.nsIn K mainGlobals "abs" = some none)
    (z_isinstance : PySem.W.nsIn K mainGlobals "isinstance" = some none)
    (z_bool : PySem.W.nsIn K mainGlobals "bool" = some none)
    (z_min : PySem.W.nsIn K mainGlobals "min" = some none)
    (z_list : PySem.W.nsIn K mainGlobals "list" = some none)
    (a_InvalidScript : PySem.W.nsIn K mainGlobals "InvalidScript" = some (some (.ref C_InvalidScript)))
    (x_InvalidScript : PySem.W.excIn K C_InvalidScript [.type "ValueError", .type "Exception", .type "BaseException", .type "object"] "ValueError.__new__" = true)
    (k_InvalidScript : PySem.W.keepIn K (.ref C_InvalidScript) = true)
    (b_InvalidScript : PySem.W.subIn K (.ref C_InvalidScript) (.type "BaseException") = some true)
    (t_InvalidScript : PySem.W.typeIn K (.ref C_InvalidScript) = some (.type "type"))
    (g_InvalidScript : PySem.W.findIn K (.ref C_InvalidScript) "__getattribute__" = some (some (.builtin "BaseException.__getattribute__")))
    (h_InvalidScript : PySem.W.findIn K (.ref C_InvalidScript) "__getattr__" = some none)
    (d_InvalidScript : PySem.W.hasDictIn K C_InvalidScript = true)
    (o_InvalidScript : PySem.W.findIn K (.ref C_InvalidScript) "__class__" = some (some (.builtin "object.__class__")))
    (n_InvalidScript : PySem.W.specialIn K (.builtin "object.__class__") "__get__" = some (some (.builtin "getset_descriptor.__get__")))
    (m_InvalidScript : PySem.W.takesIn K (.builtin "object.__class__") = some true)
    (r_InvalidScript : PySem.W.mroIn K C_InvalidScript (.type "object") = some true)
    (i_InvalidScript : PySem.W.isClsIn K C_InvalidScript = true)
    (lc_taken_items : K.lookup c_taken_items = some ⟨cc_taken_items, ce_taken_items, .fields cf_taken_items, cg_taken_items⟩)
    (tv_taken_items : cf_taken_items[11]? = some (.ref P_taken_items))
    : ∃ (fd : FuncData) (cs : List (Str × Addr × Addr)), (∀ t ∈ cs, t.1 ∈ names ∧ PySem.W.tabIn K t.1 = some t.2) ∧ (∀ (s : Shared) (v : Value), BindsTo s fd ⟨[v], []⟩ [("script", v)]) ∧ ∀ base : Heap, K.In base → base.Ns mainGlobals mg → (∀ t ∈ cs, LamX.TabB base mg t.2.1 t.2.2) → FnOk P w K mg base CX0 8 C_fa fd ["script"] (GX.spLawT K (cs.map (·.2.2))) :=
  law_mk (T := ⟨GX.dnc_mk X G a_taken_items l_taken_items e_taken_items k_taken_items (fun _ _ _ _ _ _ us hl => match us, hl with | [_], _ => rfl),
    dn_mk X G a__taken_by l__taken_by c__taken_by k__taken_by (fun _ _ _ _ _ _ us hl => match us, hl with | [_], _ => rfl),
    dn_mk X G a_check_fit l_check_fit c_check_fit k_check_fit (fun _ _ _ _ _ _ us hl => match us, hl with | [_, _], _ => rfl),
    dn_mk X G a_normalized l_normalized c_normalized k_normalized (fun _ _ _ _ _ _ us hl => match us, hl with | [_], _ => rfl),
    dn_mk X G a__steps l__steps c__steps k__steps (fun _ _ _ _ _ _ us hl => match us, hl with | [_, _, _], _ => rfl),
    dn_mk X G a_merged l_merged c_merged k_merged (fun _ _ _ _ _ _ us hl => match us, hl with | [_, _, _], _ => rfl),
    KD.dnd_mk X G a_rebased l_rebased c_rebased k_rebased n_rebased rfl rfl (fun _ _ _ _ _ us _ hl => match us, hl with | [_, _, _], _ => ⟨_, _, _, _, _, _, rfl, rfl, rfl⟩) (fun _ _ _ _ _ us _ hl => match us, hl with | [_, _, _], _ => rfl),
    dn_mk X G a__keeps_and_adds l__keeps_and_adds c__keeps_and_adds k__keeps_and_adds (fun _ _ _ _ _ _ us hl => match us, hl with | [_, _], _ => rfl),
    dn_mk X G a__adding l__adding c__adding k__adding (fun _ _ _ _ _ _ us hl => match us, hl with | [_], _ => rfl),
    dn_mk X G a__law_cell l__law_cell c__law_cell k__law_cell (fun _ _ _ _ _ _ us hl => match us, hl with | [_, _], _ => rfl),
    dn_mk X G a__law_mix l__law_mix c__law_mix k__law_mix (fun _ _ _ _ _ _ us hl => match us, hl with | [_, _], _ => rfl),
    dn_mk X G a__law_row l__law_row c__law_row k__law_row (fun _ _ _ _ _ _ us hl => match us, hl with | [_, _, _], _ => rfl),
    dn_mk X G a__law_is_int l__law_is_int c__law_is_int k__law_is_int (fun _ _ _ _ _ _ us hl => match us, hl with | [_], _ => rfl),
    dn_mk X G a__law_items l__law_items c__law_items k__law_items (fun _ _ _ _ _ _ us hl => match us, hl with | [_, _], _ => rfl),
    dn_mk X G a__law_script l__law_script c__law_script k__law_script (fun _ _ _ _ _ _ us hl => match us, hl with | [_, _], _ => rfl),
    dn_mk X G a__law_patch l__law_patch c__law_patch k__law_patch (fun _ _ _ _ _ _ us hl => match us, hl with | [_, _], _ => rfl),
    dn_mk X G a__law_is_normal l__law_is_normal c__law_is_normal k__law_is_normal (fun _ _ _ _ _ _ us hl => match us, hl with | [_], _ => rfl),
    dn_mk X G a__law_close l__law_close c__law_close k__law_close (fun _ _ _ _ _ _ us hl => match us, hl with | [_, _], _ => rfl),
    dn_mk X G a__law_normal l__law_normal c__law_normal k__law_normal (fun _ _ _ _ _ _ us hl => match us, hl with | [_], _ => rfl),
    dn_mk X G a__law_outline l__law_outline c__law_outline k__law_outline (fun _ _ _ _ _ _ us hl => match us, hl with | [_], _ => rfl),
    dn_mk X G a_law l_law c_law k_law (fun _ _ _ _ _ _ us hl => match us, hl with | [_], _ => rfl),
    PySem.W.mg_none_of X G z_sum,
    PySem.W.mg_none_of X G z_tuple,
    PySem.W.mg_none_of X G z_range,
    PySem.W.mg_none_of X G z_len,
    PySem.W.mg_none_of X G z_int,
    PySem.W.mg_none_of X G z_abs,
    PySem.W.mg_none_of X G z_isinstance,
    PySem.W.mg_none_of X G z_bool,
    PySem.W.mg_none_of X G z_min,
    PySem.W.mg_none_of X G z_list,
    xcl_mk X G a_InvalidScript x_InvalidScript k_InvalidScript b_InvalidScript t_InvalidScript g_InvalidScript h_InvalidScript d_InvalidScript o_InvalidScript n_InvalidScript m_InvalidScript r_InvalidScript i_InvalidScript⟩) hfa (GX.tabIn_mk a_taken_items l_taken_items rfl lc_taken_items tv_taken_items)
end My
open PySem PySem.W PyProof.Rows in
set_option maxRecDepth 100000 in
set_option maxHeartbeats 0 in
theorem PySem.Challenge.cw_scanpages_k62_whole_merge_both_ways_holds : PySem.Challenge.rw_scanpages_k62_whole_merge_both_ways.Holds := by
  w_on; o_law; k_head; (case hw => w_witness2)
  k_fill
  refine GX.walk_gx (l := PySem.Challenge.rw_scanpages_k62_whole_merge_both_ways) (k := 8) (names := My.names) rfl rfl ⟨rfl, by decide, by decide⟩ (fun w h Y => PySem.W.kIn_of Y) ?NT ?RC ?F
  case NT => intro w; rfl
  case RC => decide +kernel
  case F =>
    intro w mg fa h KX G hmg
    refine' My.law_end KX G hmg ?a_taken_items ?l_taken_items ?e_taken_items ?k_taken_items ?a__taken_by ?l__taken_by ?c__taken_by ?k__taken_by ?a_check_fit ?l_check_fit ?c_check_fit ?k_check_fit ?a_normalized ?l_normalized ?c_normalized ?k_normalized ?a__steps ?l__steps ?c__steps ?k__steps ?a_merged ?l_merged ?c_merged ?k_merged ?a_rebased ?l_rebased ?c_rebased ?k_rebased ?n_rebased ?a__keeps_and_adds ?l__keeps_and_adds ?c__keeps_and_adds ?k__keeps_and_adds ?a__adding ?l__adding ?c__adding ?k__adding ?a__law_cell ?l__law_cell ?c__law_cell ?k__law_cell ?a__law_mix ?l__law_mix ?c__law_mix ?k__law_mix ?a__law_row ?l__law_row ?c__law_row ?k__law_row ?a__law_is_int ?l__law_is_int ?c__law_is_int ?k__law_is_int ?a__law_items ?l__law_items ?c__law_items ?k__law_items ?a__law_script ?l__law_script ?c__law_script ?k__law_script ?a__law_patch ?l__law_patch ?c__law_patch ?k__law_patch ?a__law_is_normal ?l__law_is_normal ?c__law_is_normal ?k__law_is_normal ?a__law_close ?l__law_close ?c__law_close ?k__law_close ?a__law_normal ?l__law_normal ?c__law_normal ?k__law_normal ?a__law_outline ?l__law_outline ?c__law_outline ?k__law_outline ?a_law ?l_law ?c_law ?k_law ?z_sum ?z_tuple ?z_range ?z_len ?z_int ?z_abs ?z_isinstance ?z_bool ?z_min ?z_list ?a_InvalidScript ?x_InvalidScript ?k_InvalidScript ?b_InvalidScript ?t_InvalidScript ?g_InvalidScript ?h_InvalidScript ?d_InvalidScript ?o_InvalidScript ?n_InvalidScript ?m_InvalidScript ?r_InvalidScript ?i_InvalidScript ?lc_taken_items ?tv_taken_items
    (case a_taken_items => k_is)
    (case l_taken_items => k_is)
    (case e_taken_items => k_is)
    (case k_taken_items => k_is)
    (case a__taken_by => k_is)
    (case l__taken_by => k_is)
    (case c__taken_by => k_is)
    (case k__taken_by => k_is)
    (case a_check_fit => k_is)
    (case l_check_fit => k_is)
    (case c_check_fit => k_is)
    (case k_check_fit => k_is)
    (case a_normalized => k_is)
    (case l_normalized => k_is)
    (case c_normalized => k_is)
    (case k_normalized => k_is)
    (case a__steps => k_is)
    (case l__steps => k_is)
    (case c__steps => k_is)
    (case k__steps => k_is)
    (case a_merged => k_is)
    (case l_merged => k_is)
    (case c_merged => k_is)
    (case k_merged => k_is)
    (case a_rebased => k_is)
    (case l_rebased => k_is)
    (case c_rebased => k_is)
    (case k_rebased => k_is)
    (case n_rebased => k_is)
    (case a__keeps_and_adds => k_is)
    (case l__keeps_and_adds => k_is)
    (case c__keeps_and_adds => k_is)
    (case k__keeps_and_adds => k_is)
    (case a__adding => k_is)
    (case l__adding => k_is)
    (case c__adding => k_is)
    (case k__adding => k_is)
    (case a__law_cell => k_is)
    (case l__law_cell => k_is)
    (case c__law_cell => k_is)
    (case k__law_cell => k_is)
    (case a__law_mix => k_is)
    (case l__law_mix => k_is)
    (case c__law_mix => k_is)
    (case k__law_mix => k_is)
    (case a__law_row => k_is)
    (case l__law_row => k_is)
    (case c__law_row => k_is)
    (case k__law_row => k_is)
    (case a__law_is_int => k_is)
    (case l__law_is_int => k_is)
    (case c__law_is_int => k_is)
    (case k__law_is_int => k_is)
    (case a__law_items => k_is)
    (case l__law_items => k_is)
    (case c__law_items => k_is)
    (case k__law_items => k_is)
    (case a__law_script => k_is)
    (case l__law_script => k_is)
    (case c__law_script => k_is)
    (case k__law_script => k_is)
    (case a__law_patch => k_is)
    (case l__law_patch => k_is)
    (case c__law_patch => k_is)
    (case k__law_patch => k_is)
    (case a__law_is_normal => k_is)
    (case l__law_is_normal => k_is)
    (case c__law_is_normal => k_is)
    (case k__law_is_normal => k_is)
    (case a__law_close => k_is)
    (case l__law_close => k_is)
    (case c__law_close => k_is)
    (case k__law_close => k_is)
    (case a__law_normal => k_is)
    (case l__law_normal => k_is)
    (case c__law_normal => k_is)
    (case k__law_normal => k_is)
    (case a__law_outline => k_is)
    (case l__law_outline => k_is)
    (case c__law_outline => k_is)
    (case k__law_outline => k_is)
    (case a_law => k_is)
    (case l_law => k_is)
    (case c_law => k_is)
    (case k_law => k_is)
    (case z_sum => k_is)
    (case z_tuple => k_is)
    (case z_range => k_is)
    (case z_len => k_is)
    (case z_int => k_is)
    (case z_abs => k_is)
    (case z_isinstance => k_is)
    (case z_bool => k_is)
    (case z_min => k_is)
    (case z_list => k_is)
    (case a_InvalidScript => k_is)
    (case x_InvalidScript => k_exc)
    (case k_InvalidScript => k_is)
    (case b_InvalidScript => k_is)
    (case t_InvalidScript => k_is)
    (case g_InvalidScript => k_is)
    (case h_InvalidScript => k_is)
    (case d_InvalidScript => k_is)
    (case o_InvalidScript => k_is)
    (case n_InvalidScript => k_is)
    (case m_InvalidScript => k_is)
    (case r_InvalidScript => k_is)
    (case i_InvalidScript => k_is)
    (case lc_taken_items => k_is)
    (case tv_taken_items => rfl)
#print axioms PySem.Challenge.cw_scanpages_k62_whole_merge_both_ways_holds
