import PyProof.Rows.All
import Wide.All
import OpenK.AllK
import Wide.FinOn
import PyProof.EqAt
import PyProof.EqKinds
import PyProof.TupleCall
import HandS.ForMost
import HandS.ForExc
import HandS.RaiseMore
import HandS.FStr
import HandS.IsInst
import HandS.ExcIs
import HandS.Wide
import HandS.Flow
import HandS.Conv
import HandS.Evl
import HandS.TupAny
import HandS.Style
import HandS.ExcCtx
import HandS.HotCalls
import HandS.Property
import HandS.AnyAll
import HandS.GenOver
import HandS.JoinGen
import HandS.Lambda
import HandS.EndOwn
import HandS.EndTab
import HandS.Walk
import PySem.Challenge.RW_scanpages_k67_plans
set_option Elab.async false
set_option linter.all false
set_option maxRecDepth 100000
set_option maxHeartbeats 4000000
/-! Cm: what all our proofs share -/
namespace Cm
open PySem PySem.Spec PyProof.Rows L2

/-! ### defs of the module, and what they promise -/
/-- the def x stands at some address behind the top -/
def Dn (K : PySem.W.Frag) (mg : Str → Option Value) (x : Str) (st : Stmt) (ps : List Str) : Prop :=
  ∃ (f : Addr) (fd : FuncData), Fun K x x st f fd ∧ mg x = some (.ref f) ∧ Binds K fd ps []
/-- the def x keeps the promise sp -/
def Ok (P : Program) (w : World) (K : PySem.W.Frag) (mg : Str → Option Value) (base : Heap) (CX : CXT) (k : Nat) (x : Str) (ps : List Str) (sp : Sp) : Prop :=
  ∃ (f : Addr) (fd : FuncData), FnOk P w K mg base CX k f fd ps sp ∧ mg x = some (.ref f) ∧ PySem.W.keepIn K (.ref f) = true ∧ Binds K fd ps []
theorem ok_of {P : Program} {w : World} {K : PySem.W.Frag} {mg : Str → Option Value} {base : Heap} {CX : CXT} {k : Nat} {x : Str} {st : Stmt} {ps : List Str} {sp : Sp} (d : Dn K mg x st ps)
    (h : ∀ f fd, Fun K x x st f fd → FnOk P w K mg base CX k f fd ps sp) : Ok P w K mg base CX k x ps sp := by
  obtain ⟨f, fd, F, g, b⟩ := d
  exact ⟨f, fd, h f fd F, g, F.kp, b⟩
section
variable {X : Cx} {CX : CXT} {k : Nat} {ps : List Str} {sp : Sp} {E : XK} {x : Str} {p pos : Pos} {e : Expr} {es : List Expr} {t : TA}
theorem pe_callO (G : Ok X.prog X.w X.K X.mg X.base CX k x ps sp) (hr : Room k X.A) (hx : Passes CX X E) (ha : PA X (e :: es) t) (hg : Gl X x := by rfl)
    (hdb : (x == ("__debug__" : Str)) = false := by decide) (he : starEach (e :: es) X.env = (false, eval e X.env) :: starEach es X.env := by rfl) (hpl : (backTo pos (starEach es X.env)).any (·.1) = false := by rfl) :
    PE X (.Call (.Name x p) (e :: es) [] pos) (tCall sp [] E t) := by
  obtain ⟨f, fd, F, g, kp, b⟩ := G
  exact pe_call F hr hg g kp b .nil hx ha hdb he hpl
theorem pe_callO0 (G : Ok X.prog X.w X.K X.mg X.base CX k x ps sp) (hr : Room k X.A) (hx : Passes CX X E) (hg : Gl X x := by rfl) (hdb : (x == ("__debug__" : Str)) = false := by decide) :
    PE X (.Call (.Name x p) [] [] pos) (tCall sp [] E tNil) := by
  obtain ⟨f, fd, F, g, kp, b⟩ := G
  exact pe_call0 F hr hg g kp b .nil hx hdb
theorem pe_callT {Es : L2.St → XK} (G : Ok X.prog X.w X.K X.mg X.base CX k x ps sp) (hr : Room k X.A) (hx : ∀ σ, PassesAt CX X σ (Es σ)) (ha : PA X (e :: es) t) (hg : Gl X x := by rfl)
    (hdb : (x == ("__debug__" : Str)) = false := by decide) (he : starEach (e :: es) X.env = (false, eval e X.env) :: starEach es X.env := by rfl) (hpl : (backTo pos (starEach es X.env)).any (·.1) = false := by rfl) :
    PE X (.Call (.Name x p) (e :: es) [] pos) (tCallS sp Es t) := by
  obtain ⟨f, fd, F, g, kp, b⟩ := G
  exact pe_callS F hr hg g kp b hx ha hdb he hpl
end
/-! ### errors: raised where nothing is handled -/
/-- what leaves a def: L2N's way -/
abbrev CXN (P : Program) (w : World) : CXT := L2N.CX P w
theorem passN {X : Cx} : Passes (CXN X.prog X.w) X E0 := fun _ _ _ _ _ _ _ h => by
  obtain ⟨_, _, _, _, _, _, _, _, _, _, _, _, z⟩ := h
  exact z.elim
theorem takesN {X : Cx} : L2N.Takes X (fun _ _ _ _ => False) := fun _ _ x => by
  obtain ⟨_, _, _, _, _, _, _, _, _, _, _, _, _, _, _, _, z⟩ := x
  exact z.elim
theorem passX {X : Cx} {E E' : XK} (tk : L2N.Takes X (fun cls d _ H => E cls d H)) (h : ∀ cls d H, E' cls d H → E cls d H) : Passes (CXN X.prog X.w) X E' := fun pins σ H s e s' I c => tk e s' (L2N.XE.of_call I (fun cls d H' q => h cls d H' q) c)
theorem okN {P : Program} {w : World} {K : PySem.W.Frag} {mg : Str → Option Value} {base : Heap} {x qual : Str} {st : Stmt} {f : Addr} {fd : FuncData} {N ps : List Str} {k : Nat} {sp : Sp} (F : Fun K x qual st f fd) (S : FnScope N ps (defScope st)) (len : ∀ vs H Q E, sp vs H Q E → vs.length = ps.length)
    (hbody : ∀ (cdv : Value) (A : Around) (outer : List Env) (s : Shared) (H : Hp) (vs : List V) (Q : VK) (E : XK), Room k (A.deeper (envOfC qual (defScope st) s.heap.objs.size f cdv)) → sp vs H Q E →
      ∃ t, PSs (cxOf (CXN P w) P w K mg base N qual (defScope st) f cdv A outer s H E) (defBody st) t ∧ t { nx := fun _ H' => Q .non H', rt := Q } (L2.start N vs) H) : FnOk P w K mg base (CXN P w) (k + 1) f fd ps sp := by
  obtain ⟨oc, od, kV, doc, pm, an, cdv, ct, osl, rfl, lk, hcd⟩ := F.ex
  exact fn_of lk hcd S len fun A outer s H vs Q E hr hsp => hbody cdv A outer s H vs Q E hr hsp
section
variable {X : Cx}
/-- X(e) -/
theorem pmk_own1 {C : Addr} {bmB : List Value} {B newId initId : String} {x : Str} {e : Expr} {ta : TE} {p pos : Pos} (F : ExcBaseFacts B newId initId bmB) (q : PySem.W.excIn X.K C bmB newId = true) (gC : X.mg x = some (.ref C)) (kC : PySem.W.keepIn X.K (.ref C) = true) (r : Raises X (.ref C)) (hg : Gl X x)
    (he : PE X e ta) (hs : starEach [e] X.env = (false, eval e X.env) :: starEach [] X.env := by rfl) (hdb : (x == ("__debug__" : Str)) = false := by decide) :
    L2N.PMk X (.Call (.Name x p) [e] [] pos) (fun σ H Q => ta σ H fun _ H1 => Q (.ref C) none H1) := by
  intro pins s σ H Q I h
  refine wpAny_Call_Name_kw (ld_glob I hg gC ?_ hdb)
  refine PySem.W.callWith_K (h₀ := X.base) I.ok.mod.kin kC ?_ hs (by rfl)
  rw [hs]
  show wpAny _ _ (spliced ((false, eval e X.env) :: backTo pos (starEach [] X.env))) _ _ s
  refine Calls.spliced_cons (thn (he.run pins s σ H _ I h) fun u s1 ⟨v, H1, I1, r1, q1⟩ => ?_)
  refine Calls.spliced_nil ⟨I1.kIn, ?_⟩
  show wpAny _ _ (call (.ref C) [u]) _ _ _
  obtain ⟨bm, N, nm, qn, bs, hdct, sn, sub, ab, col, dd, k0, k1, k2, k3, k5, mN, hC, hN, hni, T⟩ := exc_obj I1.kIn q
  refine wpAny_call_exc_subT F T hC hN hni (fun h' e hm => ?_) (by show 1 ≤ sizeLine; rw [sizeLine_eq]; omega)
  exact L2N.mk_of I1 hm r q1 (I1.hok.gone hm.new)
end
/-! ### defs called within an except suite -/
def OkH (P : Program) (w : World) (K : PySem.W.Frag) (mg : Str → Option Value) (base : Heap) (CX : CXT) (k : Nat) (x : Str) (ps : List Str) (sp : Sp) : Prop :=
  ∃ (f : Addr) (fd : FuncData), L2H.FnH P w K mg base CX k f fd ps sp ∧ mg x = some (.ref f) ∧ PySem.W.keepIn K (.ref f) = true ∧ Binds K fd ps []
theorem okH_of {P : Program} {w : World} {K : PySem.W.Frag} {mg : Str → Option Value} {base : Heap} {k : Nat} {x : Str} {st : Stmt} {N ps : List Str} {sp : Sp} (d : Dn K mg x st ps) (S : FnScope N ps (defScope st)) (len : ∀ vs H Q E, sp vs H Q E → vs.length = ps.length)
    (hbody : ∀ (f : Addr) (cdv : Value) (A : Around) (outer : List Env) (s : Shared) (H : Hp) (vs : List V) (Q : VK) (E : XK) (p : Addr × Obj), L2H.Hot1 A p → L2H.RoomH k (A.deeper (envOfC x (defScope st) s.heap.objs.size f cdv)) → sp vs H Q E →
      ∃ t, PSs (L2H.cxH CX0 P w K mg base N x (defScope st) f cdv A outer s H E p) (defBody st) t ∧ t { nx := fun _ H' => Q .non H', rt := Q } (L2.start N vs) H) : OkH P w K mg base CX0 (k + 1) x ps sp := by
  obtain ⟨f, fd, F, g, b⟩ := d
  refine ⟨f, fd, ?_, g, F.kp, b⟩
  obtain ⟨oc, od, kV, doc, pm, an, cdv, ct, osl, rfl, lk, hcd⟩ := F.ex
  exact L2H.fn_ofH lk hcd S len fun A outer s H vs Q E p hot hr hsp => hbody f cdv A outer s H vs Q E p hot hr hsp
section
variable {X : Cx} {k : Nat} {ps : List Str} {sp : Sp} {x : Str} {p pos : Pos} {e : Expr} {es : List Expr} {t : TA}
theorem pe_callHO (G : OkH X.prog X.w X.K X.mg X.base CX0 k x ps sp) (hr : L2H.RoomH k X.A) (hc : L2H.HotC X) (ha : PA X (e :: es) t) (hg : Gl X x := by rfl)
    (hdb : (x == ("__debug__" : Str)) = false := by decide) (he : starEach (e :: es) X.env = (false, eval e X.env) :: starEach es X.env := by rfl) (hpl : (backTo pos (starEach es X.env)).any (·.1) = false := by rfl) :
    PE X (.Call (.Name x p) (e :: es) [] pos) (tCallS sp (fun _ => E0) t) := by
  obtain ⟨f, fd, F, g, kp, b⟩ := G
  exact L2H.pe_callH F hr hc hg g kp b (fun _ _ _ _ _ _ _ h => h.elim) ha hdb he hpl
theorem roomS {k j : Nat} {A : Around} {h : Option Value} (hr : Room k A) (hj : j ≤ k) : L2H.RoomH j (A.mark h) := L2H.RoomH.mono (k := k) ⟨hr.dp, hr.un⟩ hj
theorem hotS {a : Addr} {oe : Obj} {cls : Value} {d : Option Addr} {pn : List (Addr × Obj)} (hz : L2N.Zn cls d oe) (hf : ∃ vs, oe.data = .fields vs) : L2H.HotC (X.suite a ((a, oe) :: pn)) := by
  obtain ⟨vs, e⟩ := hf
  exact ⟨(a, oe), ⟨rfl, vs, e, hz.2.2 vs e⟩, List.mem_cons_self⟩
end
/-! ### names of the module -/
/-- the name x of the module holds v -/
def CV (mg : Str → Option Value) (x : Str) (v : V) : Prop := ∃ u, mg x = some u ∧ RelV v u
theorem pe_globC {X : Cx} {x : Str} {v : V} {pos : Pos} (hg : Gl X x) (h : CV X.mg x v) (hd : (x == ("__debug__" : Str)) = false := by decide) : PE X (.Name x pos) (tC v) := by
  obtain ⟨u, hm, r⟩ := h
  exact pe_glob hg hm r hd
theorem pe_globR {X : Cx} {x : Str} {a : Addr} {pos : Pos} (hg : Gl X x) (h : X.mg x = some (.ref a)) (hd : (x == ("__debug__" : Str)) = false := by decide) : PE X (.Name x pos) (tC (.ref a)) := pe_glob hg h rfl hd
/-! ### tests -/
theorem itd {p A B : Prop} [Decidable p] (h1 : p → A) (h2 : ¬ p → B) : if decide p = true then A else B := by
  by_cases h : p
  · rw [if_pos (decide_eq_true h)]
    exact h1 h
  · rw [if_neg (by simp [h])]
    exact h2 h
theorem itb {b : Bool} {A B : Prop} (h1 : b = true → A) (h2 : b = false → B) : if b = true then A else B := by
  cases b with
  | true => exact iteT (h1 rfl)
  | false => exact iteF (h2 rfl)
/-! ### error classes -/
/-- an error class that may have an own __init__ -/
structure XB (K : PySem.W.Frag) (mg : Str → Option Value) (x : Str) (C : Addr) : Prop where
  g : mg x = some (.ref C)
  k : PySem.W.keepIn K (.ref C) = true
  b : PySem.W.subIn K (.ref C) (.type "BaseException") = some true
  t : PySem.W.typeIn K (.ref C) = some (.type "type")
  d : PySem.W.hasDictIn K C = true
  i : PySem.W.isClsIn K C = true
/-- an error class without an own __init__ -/
structure XCl (K : PySem.W.Frag) (mg : Str → Option Value) (x : Str) (C : Addr) : Prop extends XB K mg x C where
  x : PySem.W.excIn K C [.type "ValueError", .type "Exception", .type "BaseException", .type "object"] "ValueError.__new__" = true
  e : ExcC K C
section
variable {K : PySem.W.Frag} {h : Heap} {mg : Str → Option Value} {x : Str} {C : Addr}
theorem xb_mk (X : K.In h) (G : h.Ns mainGlobals mg) (a : PySem.W.nsIn K mainGlobals x = some (some (.ref C))) (k : PySem.W.keepIn K (.ref C) = true) (b : PySem.W.subIn K (.ref C) (.type "BaseException") = some true)
    (t : PySem.W.typeIn K (.ref C) = some (.type "type")) (d : PySem.W.hasDictIn K C = true) (i : PySem.W.isClsIn K C = true) : XB K mg x C := ⟨PySem.W.mg_of X G a, k, b, t, d, i⟩
theorem xcl_mk (X : K.In h) (G : h.Ns mainGlobals mg) (a : PySem.W.nsIn K mainGlobals x = some (some (.ref C)))
    (q : PySem.W.excIn K C [.type "ValueError", .type "Exception", .type "BaseException", .type "object"] "ValueError.__new__" = true) (k : PySem.W.keepIn K (.ref C) = true)
    (b : PySem.W.subIn K (.ref C) (.type "BaseException") = some true) (t : PySem.W.typeIn K (.ref C) = some (.type "type"))
    (hg : PySem.W.findIn K (.ref C) "__getattribute__" = some (some (.builtin "BaseException.__getattribute__"))) (hk : PySem.W.findIn K (.ref C) "__getattr__" = some none) (hd : PySem.W.hasDictIn K C = true)
    (ha : PySem.W.findIn K (.ref C) "__class__" = some (some (.builtin "object.__class__"))) (hn : PySem.W.specialIn K (.builtin "object.__class__") "__get__" = some (some (.builtin "getset_descriptor.__get__")))
    (ht : PySem.W.takesIn K (.builtin "object.__class__") = some true) (hm : PySem.W.mroIn K C (.type "object") = some true) (i : PySem.W.isClsIn K C = true) : XCl K mg x C :=
  ⟨⟨PySem.W.mg_of X G a, k, b, t, hd, i⟩, q, ⟨hg, hk, b, hd, ha, hn, ht, hm⟩⟩
/-- isinstance of an own class -/
theorem kit_own {D : Addr} {r : Bool} (i : PySem.W.isClsIn K C = true) (t : PySem.W.typeIn K (.ref C) = some (.type "type")) (s : PySem.W.subIn K (.ref D) (.ref C) = some r) (hne : (Value.ref D == Value.ref C) = true → r = true) :
    PySem.W.kitOne K (.ref D) (.ref C) = some r := by
  unfold PySem.W.kitOne
  cases e : (Value.ref D == Value.ref C) with
  | true => rw [if_pos rfl, hne e]
  | false =>
    rw [if_neg Bool.false_ne_true]
    have h2 : ((PySem.W.clsIn K C).isSome && PySem.W.typeIn K (.ref C) == some (.type "type")) = true := by
      have h2' : (PySem.W.clsIn K C).isSome = true := i
      rw [h2', t] <;> rfl
    show (if ((PySem.W.clsIn K C).isSome && PySem.W.typeIn K (.ref C) == some (.type "type")) = true then PySem.W.subIn K (.ref D) (.ref C) else none) = some r
    rw [if_pos h2, s]
theorem kit_ve {D : Addr} (s : PySem.W.subIn K (.ref D) (.type "ValueError") = some true) : PySem.W.kitOne K (.ref D) (.type "ValueError") = some true := by
  have e : (Value.ref D == Value.type "ValueError") = false := rfl
  unfold PySem.W.kitOne
  rw [e, if_neg Bool.false_ne_true]
  show (if PySem.W.kitMeta "ValueError" = true then PySem.W.subIn K (.ref D) (.type "ValueError") else none) = some true
  rw [if_pos (by decide +kernel), s]
/-- except C takes an error of the class at D -/
theorem exm_own {D : Addr} {r : Bool} {y : Str} (c : XB K mg y C) (s : PySem.W.subIn K (.ref D) (.ref C) = some r) : PySem.W.exmOne K (.ref D) (.ref C) = some r := PySem.W.exm_ref c.b c.d c.t s
/-! ### the facts of the top -/
theorem dn_mk {st : Stmt} {ps : List Str} {f : Addr} {oc : Value} {od an : Option Addr} {osl : Array (Option Value)} {kV doc pm cdv ct : Value} (X : K.In h) (G : h.Ns mainGlobals mg) (a : PySem.W.nsIn K mainGlobals x = some (some (.ref f)))
    (l : K.lookup f = some ⟨oc, od, .func (PySem.W.fnOf x x (defArgs st) (defBody st) (defScope st) .none kV doc pm an cdv ct), osl⟩) (c : PySem.W.codeIn K cdv x = true) (k : PySem.W.keepIn K (.ref f) = true)
    (hb : ∀ (kV doc pm : Value) (an : Option Addr) (cdv ct : Value) (us : List Value), us.length = ps.length → bindArgs (PySem.W.fnOf x x (defArgs st) (defBody st) (defScope st) .none kV doc pm an cdv ct) ⟨us, []⟩ = pure (ps.zip us)) : Dn K mg x st ps :=
  ⟨f, _, fun_mk l c k, PySem.W.mg_of X G a, (fun_mk l c k).binds hb⟩
theorem cv_int {i : Int} {t : Tok} (X : K.In h) (G : h.Ns mainGlobals mg) (a : PySem.W.nsIn K mainGlobals x = some (some (.int i t))) : CV mg x (.int i) := ⟨_, PySem.W.mg_of X G a, _, rfl⟩
theorem cv_str {i : Str} {t : Tok} (X : K.In h) (G : h.Ns mainGlobals mg) (a : PySem.W.nsIn K mainGlobals x = some (some (.str i t))) : CV mg x (.str i) := ⟨_, PySem.W.mg_of X G a, _, rfl⟩
theorem cv_bl {i : Bool} (X : K.In h) (G : h.Ns mainGlobals mg) (a : PySem.W.nsIn K mainGlobals x = some (some (.bool i))) : CV mg x (.bl i) := ⟨_, PySem.W.mg_of X G a, rfl⟩
/-- the name x of the module holds a tuple of the written part -/
def CT (K : PySem.W.Frag) (mg : Str → Option Value) (x : Str) (xs : List V) : Prop := ∃ p, mg x = some (.ref p) ∧ ∀ H, SqT K H p xs
theorem ct_mk {p : Addr} {od : Option Addr} {its : Array Value} {n : Nat} {sl : Array (Option Value)} {xs : List V} (X : K.In h) (G : h.Ns mainGlobals mg) (a : PySem.W.nsIn K mainGlobals x = some (some (.ref p)))
    (l : K.lookup p = some ⟨.type "tuple", od, .seq its n, sl⟩) (hs : its.size ≤ sizeLine) (hv : Vals xs its.toList) : CT K mg x xs :=
  ⟨p, PySem.W.mg_of X G a, fun _ => .inr ⟨_, its, n, l, rfl, rfl, hs, hv⟩⟩
end
theorem pe_globT {X : Cx} {x : Str} {xs : List V} {pos : Pos} (hg : Gl X x) (h : CT X.K X.mg x xs) (hd : (x == ("__debug__" : Str)) = false := by decide) :
    PE X (.Name x pos) (fun _ H Q => ∀ p, (∀ H', SqT X.K H' p xs) → Q (.ref p) H) := by
  obtain ⟨p, hm, hs⟩ := h
  exact ⟨fun pins s σ H Q I h => (pe_glob hg hm (v := .ref p) rfl hd).run pins s σ H Q I (h p hs)⟩
/-! ### a suite that is read for known errors alone -/
theorem pss_guard {X : Cx} {st : List Stmt} {p : Prop} {t : TS} (h : p → PSs X st t) : PSs X st (fun D σ H => p ∧ t D σ H) :=
  ⟨fun pins s σ H D I q => (h q.1).run pins s σ H D I q.2⟩
theorem to_true {Q : VK} {b : Bool} {H : Hp} (h : b = true) (q : Q (.bl true) H) : Q (.bl b) H := h ▸ q
/-- a new object at p stays the only one that changes -/
theorem same_new {H H' : Hp} {p : Addr} {o : HO} (e : Same H H') (hp : H p = none) : Same H (upd H' p o) := Evl.Ex.mut e hp
theorem same_upd {H : Hp} {p : Addr} {o : HO} (hp : H p = none) : Same H (upd H p o) := Evl.Ex.new hp
theorem tyx_list {K : PySem.W.Frag} {H : Hp} {a : Addr} {xs : List V} (h : SqL K H a xs) : TyX K H (.ref a) (.type "list") := by
  rcases h with (h | ⟨o, h⟩) | ⟨o, its, n, h, hc, _⟩
  · exact .base (.lst h)
  · exact .base (.frz h)
  · exact .kList h hc
theorem tyx_tuple {K : PySem.W.Frag} {H : Hp} {a : Addr} {xs : List V} (h : SqT K H a xs) : TyX K H (.ref a) (.type "tuple") := by
  rcases h with (h | ⟨o, h⟩) | ⟨o, its, n, h, hc, _⟩
  · exact .base (.tup h)
  · exact .fTuple h
  · exact .kTuple h hc
theorem small {n : Nat} (h : n ≤ 100000) : n < sizeLine := Nat.lt_of_le_of_lt h (by decide)
theorem smallE {n : Nat} (h : n ≤ 100000) : n ≤ sizeLine := Nat.le_trans h (by decide)
/-- for .. in enumerate(list) -/
theorem for_enum {K : PySem.W.Frag} {a : Addr} {xs : List V} {g : TG} {tb : TS} {D : Ends} {σ : L2.St} {H : Hp} (Pv : Nat → L2.St → Hp → Prop) (h0 : Pv 0 σ H) (hl : ∀ i σ H, i ≤ xs.length → Pv i σ H → SqL K H a xs)
    (hs : ∀ i x T σ H, xs[i]? = some x → Pv i σ H → H T = none → g (.ref T) σ (upd H T (.tup [.int (i : Nat), x])) fun σ2 H2 => tb { D with nx := Pv (i + 1), ct := Pv (i + 1), bk := D.nx } σ2 H2) (hd : ∀ σ H, Pv xs.length σ H → D.nx σ H) :
    ∃ W : Nat → Nat → L2.St → Hp → Prop, (∃ m, W 0 m σ H) ∧ ∀ i m σ H, W i m σ H →
      ((Ite K a).stop i H ∧ D.nx σ H) ∨ ((Ite K a).go i H ∧ ∃ N : L2.St → Hp → Prop, (∀ σ' H', N σ' H' → ∃ m', m' < m ∧ W (i + 1) m' σ' H') ∧ ∀ x H', (Ite K a).yld i H x H' → g x σ H' fun σ2 H2 => tb { D with nx := N, ct := N, bk := D.nx } σ2 H2) := by
  refine ⟨fun i m σ H => m = xs.length - i ∧ i ≤ xs.length ∧ Pv i σ H, ⟨xs.length, by simp, Nat.zero_le _, h0⟩, ?_⟩
  rintro i m σ H ⟨rfl, hi, p⟩
  have q := hl i σ H hi p
  by_cases hlt : i < xs.length
  · refine .inr ⟨⟨xs, xs[i], q, by simp [hlt]⟩, Pv (i + 1), fun σ' H' p' => ⟨xs.length - (i + 1), by omega, rfl, hlt, p'⟩, fun x H' y => ?_⟩
    obtain ⟨T, z, rfl, hT, rfl, y⟩ := y
    exact hs i z T σ H (y xs q) p hT
  · have e : i = xs.length := by omega
    subst e
    exact .inl ⟨⟨xs, q, Nat.le_refl _⟩, hd σ H p⟩
/-- an item of a list by a number that is told -/
theorem at_nat {α : Type} {xs : List α} {i : Int} {j : Nat} {v : α} (e : i = (j : Int)) (h : xs[j]? = some v) : atI xs i = some v := e ▸ atI_nat h
theorem ix_nat {n j : Nat} {i : Int} (e : i = (j : Int)) (h : j < n) : ixN n i = some j := e ▸ Evl.ixN_nat h
/-! ### rules whose reading names the written part by itself (for the bodies and suites of a try) -/
def rLenK (K : PySem.W.Frag) : List V → Hp → VK → Prop := fun xs H Q => ∃ p ys, xs = [.ref p] ∧ (SqL K H p ys ∨ SqT K H p ys) ∧ Q (.int ys.length) H
theorem call_lenK {X : Cx} {K : PySem.W.Frag} (h : X.K = K := by rfl) : CallR X (.builtin "len") (rLenK K) := by
  subst h
  exact call_len_seq
theorem op_eqDK {X : Cx} {K : PySem.W.Frag} (hu : X.A.units + 64 < cLine) (h : X.K = K := by rfl) : OpR X (compareOp .Eq) (rEqD K) := by
  subst h
  exact op_eqD hu
theorem op_neDK {X : Cx} {K : PySem.W.Frag} (hu : X.A.units + 64 < cLine) (h : X.K = K := by rfl) : OpR X (compareOp .NotEq) (rNeD K) := by
  subst h
  exact op_neD hu
theorem call_isiK' {X : Cx} {K : PySem.W.Frag} (h : X.K = K := by rfl) : CallR X (.builtin "isinstance") (rIsi K) := by
  subst h
  exact call_isi
def rListK (K : PySem.W.Frag) : List V → Hp → VK → Prop := fun xs H Q => ∃ p ys, xs = [.ref p] ∧ (SqL K H p ys ∨ SqT K H p ys) ∧ ∀ l, H l = none → Q (.ref l) (upd H l (.lst ys))
theorem call_list_ofK {X : Cx} {K : PySem.W.Frag} (h : X.K = K := by rfl) : CallR X (.type "list") (rListK K) := by
  subst h
  exact call_list_of
theorem sl_listK {X : Cx} {K : PySem.W.Frag} (h : X.K = K := by rfl) : SlR X (rSlL K) := by
  subst h
  exact sl_list
/-! ### slices -/
theorem sIx_nat {n k : Nat} (d : Nat) (h : k ≤ n) : HT.sIx n d (some (k : Int)) = k := by
  simp only [HT.sIx]
  split <;> omega
theorem cut_to {xs : List V} {k : Nat} (h : k ≤ xs.length) : cutV xs none (some (k : Int)) = xs.take k := by
  unfold cutV
  rw [sIx_nat _ h]
  simp [HT.sIx]
theorem cut_from {xs : List V} {k : Nat} (h : k ≤ xs.length) : cutV xs (some (k : Int)) none = xs.drop k := by
  unfold cutV
  rw [sIx_nat _ h]
  simp only [HT.sIx]
  rw [List.take_of_length_le (by rw [List.length_drop]; omega)]
theorem cut_mid {xs : List V} {j k : Nat} (h1 : j ≤ k) (h : k ≤ xs.length) : cutV xs (some (j : Int)) (some (k : Int)) = (xs.drop j).take (k - j) := by
  unfold cutV
  rw [sIx_nat _ h, sIx_nat _ (Nat.le_trans h1 h)]
/-! ### data -/
mutual
theorem dp_mono {K : PySem.W.Frag} {H H' : Hp} (e : Same H H') : ∀ {d : PyData} {v : V}, Dp K H v d → Dp K H' v d
  | _, _, .non => .non
  | _, _, .bl b => .bl b
  | _, _, .int i => .int i
  | _, _, .str x => .str x
  | _, _, .lst h r => .lst (e.seq h) (dpAll_mono e r)
  | _, _, .tup h r => .tup (Evl.ex_t e h) (dpAll_mono e r)
theorem dpAll_mono {K : PySem.W.Frag} {H H' : Hp} (e : Same H H') : ∀ {ds : List PyData} {vs : List V}, DpAll K H vs ds → DpAll K H' vs ds
  | _, _, .nil => .nil
  | _, _, .cons h r => .cons (dp_mono e h) (dpAll_mono e r)
end
theorem dp_ints {K : PySem.W.Frag} {H : Hp} : ∀ (ns : List Int), DpAll K H (ns.map V.int) (ns.map PyData.int)
  | [] => .nil
  | n :: ns => .cons (.int n) (dp_ints ns)
theorem canLayAll_ints : ∀ (ns : List Int), PyData.canLayAll0 (ns.map PyData.int) = true
  | [] => rfl
  | n :: ns => by simp [PyData.canLayAll0, PyData.canLay0, canLayAll_ints ns]
theorem depthAll_ints : ∀ (ns : List Int), PyData.depthAll (ns.map PyData.int) = 0
  | [] => rfl
  | n :: ns => by simp [PyData.depthAll, PyData.depth, depthAll_ints ns]
theorem shaped_ints (ns : List Int) : SeqAt.shaped (.list (ns.map PyData.int)) = true := by
  simp [SeqAt.shaped, PyData.canLay0, PyData.depth, canLayAll_ints, depthAll_ints]
theorem eqvAll_ints : ∀ (ns ms : List Int), PyData.eqvAll (ns.map PyData.int) (ms.map PyData.int) = decide (ns = ms)
  | [], [] => by simp [PyData.eqvAll]
  | [], m :: ms => by simp [PyData.eqvAll]
  | n :: ns, [] => by simp [PyData.eqvAll]
  | n :: ns, m :: ms => by
    by_cases h : n = m <;> simp [PyData.eqvAll, PyData.eqv, eqvAll_ints ns ms, h]
theorem eqv_ints (ns ms : List Int) : PyData.eqv (.list (ns.map PyData.int)) (.list (ms.map PyData.int)) = decide (ns = ms) := by
  rw [PyData.eqv]
  exact eqvAll_ints ns ms
theorem shaped_pair (as bs : List Int) : SeqAt.shaped (.tuple [.list (as.map PyData.int), .list (bs.map PyData.int)]) = true := by
  simp [SeqAt.shaped, PyData.canLay0, PyData.canLayAll0, PyData.depth, PyData.depthAll, canLayAll_ints, depthAll_ints]
theorem eqv_refl' {d : PyData} (h : SeqAt.shaped d = true) : PyData.eqv d d = true := SeqAt.eqv_refl _ (SeqAt.canLay_of_shaped h)
theorem dp_list {K : PySem.W.Frag} {H : Hp} {a : Addr} {ns : List Int} (h : SqL K H a (ns.map V.int)) : Dp K H (.ref a) (.list (ns.map PyData.int)) := .lst h (dp_ints ns)
theorem get_ints {ns : List Int} {i : Nat} {y : V} (h : (ns.map V.int)[i]? = some y) : ∃ (hi : i < ns.length), y = V.int ns[i] := by
  rw [List.getElem?_map] at h
  by_cases hi : i < ns.length
  · rw [List.getElem?_eq_getElem hi] at h
    exact ⟨hi, (Option.some.inj h).symm⟩
  · rw [List.getElem?_eq_none (Nat.le_of_not_lt hi)] at h
    cases h
theorem take_snoc {α : Type} {l : List α} {i : Nat} (hi : i < l.length) : l.take (i + 1) = l.take i ++ [l[i]] := by
  rw [List.take_add_one, List.getElem?_eq_getElem hi]
  rfl
/-! ### the script's cells -/
def cell (ns : List Int) (k : Nat) : Int := ns.getD k 0
theorem cell_in {ns : List Int} {k : Nat} (hk : k < ns.length) : cell ns k = ns[k] := by simp [cell, List.getD_eq_getElem?_getD, List.getElem?_eq_getElem hk]
theorem cell_out {ns : List Int} {k : Nat} (hk : ¬ k < ns.length) : cell ns k = 0 := by simp [cell, List.getD_eq_getElem?_getD, List.getElem?_eq_none (Nat.le_of_not_lt hk)]
end Cm

/-! ### a generator expression that is used up at once: its body is read in a frame of its own, over the maker's abstract heap -/
namespace GX
open PySem PySem.Spec PyProof.Rows L2 Cm
open Sem (wp)
/-- the names of the generator's frame: the maker's slots, then more -/
abbrev gEnv (X : Cx) (scope : Scope) (C : Addr) (code : Value) : Env := genEnv scope (cloFrom X.env.cells scope.names []) C code builtinsNs X.env
/-- where the generator's body stands: entered at s4 -/
def gCx (X : Cx) (scope : Scope) (code : Value) (fp : List Addr) (s4 : Shared) (H4 : Hp) (B : Around) (ext : List Str) : Cx where
  prog := X.prog
  w := X.w
  K := X.K
  mg := X.mg
  base := X.base
  A := B
  N := X.N ++ ext
  s_0 := s4
  H_0 := H4
  env := gEnv X scope s4.heap.objs.size code
  outer := X.stack
  stack := gEnv X scope s4.heap.objs.size code :: X.stack
  ex := fp
  fn := fun _ => false
  calm := true
  pn := []
  xe := fun _ _ => False
/-- the slots that the body begins with -/
def gS (σ : L2.St) (own : List (Str × Nat)) (ext : List Str) : L2.St := wipe (σ ++ ext.map fun _ => none) (own.map (·.2))
/-- what the text of the expression has -/
structure GOk (N : List Str) (sc scope : Scope) (own : List (Str × Nat)) (ext : List Str) : Prop where
  nd : (N ++ ext).Nodup
  blk : BlkOk (N ++ ext) sc scope own
  co : scope.isCoroutine = false
  cell : ∀ y ∈ scope.names, y.2 ≠ .cell
  dot : scope.names.lookup (".0" : Str) = some NameKind.local
theorem wipe_keeps {σ : L2.St} : ∀ {vs : List Nat} {i : Nat} {v : V}, (wipe σ vs)[i]? = some (some v) → σ[i]? = some (some v) ∧ i ∉ vs
  | [], _, _, h => ⟨h, by simp⟩
  | j :: vs, i, v, h => by
    rw [wipe] at h
    by_cases e : j = i
    · subst e
      rw [List.getElem?_set_self'] at h
      cases q : (wipe σ vs)[j]? with
      | none => rw [q] at h; cases h
      | some u => rw [q] at h; cases h
    · rw [List.getElem?_set_ne e] at h
      obtain ⟨a, b⟩ := wipe_keeps h
      exact ⟨a, by simp only [List.mem_cons, not_or]; exact ⟨fun z => e z.symm, b⟩⟩
section
variable {X : Cx} {pins : List (Addr × Obj)} {σ : L2.St} {H4 H : Hp} {s4 s : Shared} {scope : Scope} {own : List (Str × Nat)} {ext : List Str} {code : Value} {fp : List Addr} {B : Around}
theorem cells_of (ok : ∀ y ∈ scope.names, y.2 = .free → ∃ c, X.env.cells.lookup y.1 = some c) {y : Str} {c : Addr} (e : (cloFrom X.env.cells scope.names []).lookup y = some c) : X.env.cells.lookup y = some c := by
  rcases cloFrom_mem (PySem.mem_of_lookup e) with q | ⟨q, r⟩
  · cases q
  · obtain ⟨c1, hc⟩ := ok _ q rfl
    have hc' : X.env.cells.lookup y = some c1 := hc
    rw [hc'] at r
    rw [hc', r]
    rfl
theorem cells_to {y : Str} (hl : scope.names.lookup y = some .free) : ∃ c, (cloFrom X.env.cells scope.names []).lookup y = some c :=
  mem_lookup (cloFrom_has (cells := X.env.cells) (acc := []) (PySem.mem_of_lookup hl))
theorem free_cells (I : Inv X pins σ H4 s4) (G : GOk X.N X.env.scope scope own ext) : ∀ y ∈ scope.names, y.2 = .free → ∃ c, X.env.cells.lookup y.1 = some c := fun y hy e => by
  rcases G.blk.free y hy e with k | k
  · exact I.ok.has _ (.inl k)
  · exact I.ok.has _ (.inr k)
/-- the body's frame over the maker's heap, at any later state -/
theorem gx_inv (I : Inv X pins σ H4 s4) (G : GOk X.N X.env.scope scope own ext) (hf : ∀ b ∈ fp, FpOk X pins H4 b) (hB : B.frames = some (gEnv X scope s4.heap.objs.size code :: X.stack)) (hh : B.handled = none)
    (os : s.os = s4.os) (bare : AllBare s.gens) (un : Un (frs X.stack) fp H4 H s4.heap s.heap) (hok : HOk X.prog X.w H s.heap) (hns : ∃ m, s.heap.Ns s4.heap.objs.size m) (hC : H s4.heap.objs.size = none) (lt : ∀ b ∈ fp, b < s4.heap.objs.size)
    {ps : List (Addr × Obj)} (hps : ∀ p ∈ ps, s.heap.get? p.1 = some p.2 ∧ H p.1 = none ∧ p.1 ≠ s4.heap.objs.size ∧ p.1 ∉ frs X.stack ∧ ∀ v, p.2.data ≠ .cell v) :
    Inv (gCx X scope code fp s4 H4 B ext) ps (gS σ own ext) H s := by
  have fc := free_cells I G
  have cm : ∀ {y c}, (cloFrom X.env.cells scope.names []).lookup y = some c → X.env.cells.lookup y = some c := fun {y c} e => cells_of fc e
  have e0 := I.env0
  have nfp : ∀ {y c}, X.env.cells.lookup y = some c → c ∉ fp := fun {y c} e z => (hf c z).2.2.2.2.1 y c e rfl
  have cellK : ∀ {y c v}, X.env.cells.lookup y = some c → s4.heap.IsCell c v → s.heap.IsCell c v := fun {y c v} e ⟨o, ho, hd⟩ => by
    obtain ⟨sl, q⟩ := un.any ho (I.freeC y c e) (nfp e)
    exact ⟨_, q, hd⟩
  have hfp : ∀ b ∈ fp, b ∉ frs X.stack := fun b hb z => by
    rcases List.mem_cons.mp (I.stkSub _ z) with e | e
    · exact (hf b hb).2.1 e
    · exact (hf b hb).2.2.1 e
  have hbase : ∀ b o, X.base.get? b = some o → b ∉ fp := fun b o e z => by
    rcases (hf b z).2.2.2.1 with q | q
    · exact I.ok.noex b o e q
    · exact absurd (Nat.lt_of_lt_of_le (Heap.lt_size e) (Nat.le_trans I.ok.bsz q)) (Nat.lt_irrefl _)
  obtain ⟨m, hm⟩ := hns
  refine ⟨⟨e0.mod, G.blk.kind, I.ok.glob, rfl, Nat.le_refl _, fun y z c e1 e2 => I.ok.inj y z c (cm e1) (cm e2), fun y hy => ?_, fun _ _ z _ => ?_, fun _ => hh, hB, .inr ⟨rfl, rfl⟩, fun b hb => ⟨Nat.ne_of_lt (lt b hb), fun y c e => fun z => nfp (cm e) (z ▸ hb)⟩, e0.bs, e0.bsz, hbase, hfp, e0.funs, e0.frf⟩,
    os, bare, un, ⟨m, hm, fun i y v e1 e2 e3 => ?_⟩, fun y c e => ?_, hC, fun y c e => ?_, fun q hq => ?_, hok, ?_⟩
  · have hy' : scope.names.lookup y = some .cell ∨ scope.names.lookup y = some .free := hy
    rcases hy' with hy' | hy'
    · exact absurd rfl (G.cell _ (PySem.mem_of_lookup hy'))
    · exact cells_to hy'
  · exact absurd (show false = true from z) (by decide)
  · have e1' : (X.N ++ ext)[i]? = some y := e1
    obtain ⟨q1, q2⟩ := wipe_keeps e2
    have e3' : Vis scope y := e3
    have own_no : scope.names.lookup y = some .local ∨ scope.names.lookup y = some .cell → False := fun k => by
      have hy : (y, NameKind.local) ∈ scope.names ∨ (y, NameKind.cell) ∈ scope.names := k.elim (fun k => .inl (PySem.mem_of_lookup k)) fun k => .inr (PySem.mem_of_lookup k)
      have own_or : y ∈ own.map (·.1) ∨ y ∉ X.N ++ ext := hy.elim (fun k => G.blk.own _ k (.inl rfl)) fun k => G.blk.own _ k (.inr rfl)
      rcases own_or with z | z
      · obtain ⟨p, hp, ep⟩ := List.mem_map.mp z
        have ei := G.blk.ix p hp
        rw [ep] at ei
        have : p.2 = i := nodup_ix G.nd ei e1'
        exact q2 (List.mem_map.mpr ⟨p, hp, this⟩)
      · exact z (List.mem_of_getElem? e1')
    have hfree : scope.names.lookup y = some .free := by
      rcases e3' with k | k | k
      · exact (own_no (.inl k)).elim
      · exact (own_no (.inr k)).elim
      · exact k
    have hi : i < σ.length := by
      by_cases hi : i < σ.length
      · exact hi
      · rw [List.getElem?_append_right (Nat.le_of_not_lt hi), List.getElem?_map] at q1
        cases q : ext[i - σ.length]? with
        | none => rw [q] at q1; cases q1
        | some u => rw [q] at q1; cases q1
    rw [List.getElem?_append_left hi] at q1
    rw [List.getElem?_append_left (by rw [← I.len]; exact hi)] at e1'
    have sck := G.blk.free _ (PySem.mem_of_lookup hfree) rfl
    obtain ⟨m2, _, hl⟩ := I.loc
    obtain ⟨u, ru, lk⟩ := hl i y v e1' q1 (sck.elim (fun k => .inr (.inl k)) fun k => .inr (.inr k))
    obtain ⟨c2, h2⟩ := cells_to (X := X) hfree
    refine ⟨u, ru, .inr ⟨.inr hfree, c2, h2, ?_⟩⟩
    rcases lk with ⟨k', _⟩ | ⟨_, c3, e', z⟩
    · have k' : X.env.scope.names.lookup y = some .local := k'
      rcases sck with k2 | k2 <;> rw [show X.env.scope.names.lookup y = _ from k2] at k' <;> cases k'
    · rw [cm h2] at e'
      cases e'
      exact cellK (cm h2) z
  · obtain ⟨v, z⟩ := I.cell y c (cm e)
    exact ⟨v, cellK (cm e) z⟩
  · obtain ⟨v, o, ho, hd⟩ := I.cell y c (cm e)
    exact un.free c o ho (I.freeC y c (cm e)) (nfp (cm e))
  · exact hps q (by simpa [gCx] using hq)
  · show (wipe _ _).length = _
    rw [wipe_length, List.length_append, List.length_map]
    show _ = (X.N ++ ext).length
    rw [List.length_append, I.len]
end
/-- what holds while the generator is awake or asleep; sx: what its consumer writes meanwhile -/
structure CO (X : Cx) (fp sx : List Addr) (s4 : Shared) (H4 H : Hp) (s : Shared) : Prop where
  os : s.os = s4.os
  bare : AllBare s.gens
  un : Un (frs X.stack) fp H4 H s4.heap s.heap
  hok : HOk X.prog X.w H s.heap
  ns : ∃ m, s.heap.Ns s4.heap.objs.size m
  free : H s4.heap.objs.size = none
  fr : ∀ b ∈ fp, H b = none
  sx : ∀ b ∈ sx, (∃ o, s.heap.get? b = some o ∧ ∀ v, o.data ≠ .cell v) ∧ H b = none ∧ b ≠ s4.heap.objs.size ∧ b ∉ frs X.stack ∧ b ∉ fp ∧ s4.heap.get? b = none
/-- what the consumer does while the generator sleeps -/
structure Kp (sx : List Addr) (s s' : Shared) : Prop where
  os : s'.os = s.os
  bare : AllBare s'.gens
  keep : ∀ b o, b ∉ sx → s.heap.get? b = some o → s'.heap.get? b = some o
  own : ∀ b ∈ sx, ∃ o, s'.heap.get? b = some o ∧ ∀ v, o.data ≠ .cell v
theorem CO.kp {X : Cx} {fp sx : List Addr} {s4 s s' : Shared} {H4 H : Hp} (h : CO X fp sx s4 H4 H s) (k : Kp sx s s') : CO X fp sx s4 H4 H s' := by
  have n4 : ∀ b o, s4.heap.get? b = some o → b ∉ sx := fun b o e z => by
    rw [(h.sx b z).2.2.2.2.2] at e
    cases e
  have nH : ∀ b u, H b = some u → b ∉ sx := fun b u e z => by
    rw [(h.sx b z).2.1] at e
    cases e
  refine ⟨k.os.trans h.os, k.bare, ⟨fun b o e n h1 h2 => k.keep b o (n4 b o e) (h.un.keep b o e n h1 h2), fun b o e n h1 h2 => ?_, h.un.free, fun b o e h2 => ?_, h.un.tups, h.un.frzs, h.un.tbls⟩, fun a o e => ?_, ?_, h.free, h.fr, fun b hb => ⟨k.own b hb, (h.sx b hb).2⟩⟩
  · obtain ⟨sl, q⟩ := h.un.slot b o e n h1 h2
    exact ⟨sl, k.keep b _ (n4 b o e) q⟩
  · obtain ⟨o', q⟩ := h.un.there b o e h2
    exact ⟨o', k.keep b _ (n4 b o e) q⟩
  · refine (h.hok a o e).stay (fun b u hb q => k.keep b u ?_ q) (fun _ z => z) fun _ _ z => z
    rcases hb with z | z
    · exact z ▸ nH a o e
    · exact nH b _ z
  · obtain ⟨m, o, es, ep, ho, r⟩ := h.ns
    exact ⟨m, o, es, ep, k.keep _ _ (fun z => (h.sx _ z).2.2.1 rfl) ho, r⟩
/-- all that does not change of a generator -/
structure GSt (X : Cx) (pins : List (Addr × Obj)) (σ : L2.St) (scope : Scope) (own : List (Str × Nat)) (ext : List Str) (tg : Expr) (code : Value) (H4 : Hp) (s4 : Shared) (J : It) (fp : List Addr) (it : Addr) (tn : Nat → Heap → Prop) : Prop where
  inv : Inv X pins σ H4 s4
  ok : GOk X.N X.env.scope scope own ext
  turn : Turn X.prog X.w X.K tg J fp it tn
  fpo : ∀ b ∈ fp, FpOk X pins H4 b
  lt : ∀ b ∈ fp, b < s4.heap.objs.size
section
variable {X : Cx} {pins : List (Addr × Obj)} {σ : L2.St} {H4 : Hp} {s4 : Shared} {scope : Scope} {own : List (Str × Nat)} {ext : List Str} {tg elt iter : Expr} {code : Value} {fp sx : List Addr} {J : It} {it : Addr} {tn : Nat → Heap → Prop} {pos : Pos}
/-- the loop's code -/
abbrev gLoop (X : Cx) (tg elt iter : Expr) (scope : Scope) (pos : Pos) (it : Addr) (s4 : Shared) (code : Value) : Code :=
  .compLoop (.GeneratorExp elt [⟨tg, iter, [], 0⟩] scope pos) 0 (.ref it) .none (gEnv X scope s4.heap.objs.size code)
abbrev gFirst (X : Cx) (tg elt iter : Expr) (scope : Scope) (pos : Pos) (it : Addr) (s4 : Shared) (code : Value) : Code :=
  .compStart (.GeneratorExp elt [⟨tg, iter, [], 0⟩] scope pos) 0 (.ref it) .none (gEnv X scope s4.heap.objs.size code)
def gY (X : Cx) (fp sx : List Addr) (s4 : Shared) (H4 : Hp) (tn : Nat → Heap → Prop) (W : Nat → Nat → Hp → Prop) (Yd : Nat → Nat → V → Hp → Prop) : Protocol := fun n s0 v s kap =>
  ∃ (y : V) (i m : Nat) (H : Hp), RelV y v ∧ Yd i m y H ∧ CO X fp sx s4 H4 H s ∧ tn (i + 1) s.heap ∧ (∀ b ∈ sx, s.heap.get? b = s0.heap.get? b) ∧ m ≤ n ∧ ∀ m' s', m' < m → W (i + 1) m' H → Kp sx s s' → kap (.send .none) s'
def gE (X : Cx) (fp sx : List Addr) (s4 : Shared) (H4 : Hp) (Dn : Hp → Prop) : Nat → Shared → Shared → Prop := fun _ s0 s => ∃ H, Dn H ∧ CO X fp sx s4 H4 H s ∧ ∀ b ∈ sx, s.heap.get? b = s0.heap.get? b
theorem CO.inv {H : Hp} {s : Shared} {B : Around} (S : GSt X pins σ scope own ext tg code H4 s4 J fp it tn) (h : CO X fp sx s4 H4 H s) (hB : B.frames = some (gEnv X scope s4.heap.objs.size code :: X.stack)) (hh : B.handled = none) :
    Inv (gCx X scope code fp s4 H4 B ext) (pinsAt sx s.heap) (gS σ own ext) H s := by
  refine gx_inv S.inv S.ok S.fpo hB hh h.os h.bare h.un h.hok h.ns h.free S.lt fun p hp => ?_
  obtain ⟨hb, e⟩ := of_pinsAt hp
  obtain ⟨⟨o, e', d⟩, h2, h3, h4, _⟩ := h.sx p.1 hb
  rw [e] at e'
  cases e'
  exact ⟨e, h2, h3, h4, d⟩
theorem CO.of_inv {H H' : Hp} {s s' : Shared} {B : Around} {σ' : L2.St} (h : CO X fp sx s4 H4 H s) (I : Inv (gCx X scope code fp s4 H4 B ext) (pinsAt sx s.heap) σ' H' s') (hf : ∀ b ∈ fp, H' b = none) : CO X fp sx s4 H4 H' s' ∧ ∀ b ∈ sx, s'.heap.get? b = s.heap.get? b := by
  have pin : ∀ b ∈ sx, ∀ o, s.heap.get? b = some o → s'.heap.get? b = some o ∧ H' b = none := fun b hb o e => by
    have z := I.pin (b, o) (List.mem_append_right _ (mem_pinsAt hb e))
    exact ⟨z.1, z.2.1⟩
  refine ⟨⟨I.os, I.bare, I.base, I.hok, ?_, I.free, hf, fun b hb => ?_⟩, fun b hb => ?_⟩
  · obtain ⟨m, hm, _⟩ := I.loc
    exact ⟨m, hm⟩
  · obtain ⟨⟨o, e, d⟩, h2, h3⟩ := h.sx b hb
    obtain ⟨p1, p2⟩ := pin b hb o e
    exact ⟨⟨o, p1, d⟩, p2, h3⟩
  · obtain ⟨⟨o, e, d⟩, _⟩ := h.sx b hb
    rw [e, (pin b hb o e).1]
theorem seg_loop {Ag : Around} (S : GSt X pins σ scope own ext tg code H4 s4 J fp it tn) (hfr : Ag.frames = some X.stack) (hh : Ag.handled = none) {g : TG} {te : TE}
    (hg : PG (gCx X scope code fp s4 H4 (Ag.over (gLoop X tg elt iter scope pos it s4 code) []) ext) tg g) (he : PE (gCx X scope code fp s4 H4 (Ag.over (gLoop X tg elt iter scope pos it s4 code) []) ext) elt te)
    (W : Nat → Nat → Hp → Prop) (Dn : Hp → Prop) (Yd : Nat → Nat → V → Hp → Prop)
    (turn : ∀ i m H, W i m H → (J.stop i H ∧ Dn H) ∨ (J.go i H ∧ ∃ Yn : V → Hp → Prop, (∀ v H3, Yn v H3 → Yd i m v H3) ∧ ∀ x H', J.yld i H x H' → g x (gS σ own ext) H' fun σ2 H2 => te σ2 H2 Yn)) :
    ∀ n i m H s, m < n → W i m H → CO X fp sx s4 H4 H s → tn i s.heap →
      Seg (model X.prog X.w) Ag (fun n s0 r s1 => r = .ok .next ∧ gE X fp sx s4 H4 Dn n s0 s1) (gY X fp sx s4 H4 tn W Yd) n s (gLoop X tg elt iter scope pos it s4 code) ((model X.prog X.w).den (gLoop X tg elt iter scope pos it s4 code)) [] s := by
  have hB : (Ag.over (gLoop X tg elt iter scope pos it s4 code) []).frames = some (gEnv X scope s4.heap.objs.size code :: X.stack) := by
    show pushEnvs [gEnv X scope s4.heap.objs.size code] (pushEnvs [] Ag.frames) = _
    rw [hfr]
    rfl
  have hBh : (Ag.over (gLoop X tg elt iter scope pos it s4 code) []).handled = none := hh
  intro n
  induction n with
  | zero => exact fun i m H s hm => absurd hm (Nat.not_lt_zero _)
  | succ n ih =>
    intro i m H s hm w0 h0 t0
    have I0 := CO.inv S h0 hB hBh
    have ff : ∀ {H' : Hp}, (∀ b ∈ fp, H' b = none) → ∀ b ∈ fp, FpOk (gCx X scope code fp s4 H4 (Ag.over (gLoop X tg elt iter scope pos it s4 code) []) ext) (pinsAt sx s.heap) H' b := fun hn b hb => by
      refine ⟨hn b hb, Nat.ne_of_lt (S.lt b hb), I0.ok.exfs b hb, .inl hb, (I0.ok.exf b hb).2, fun p hp z => ?_⟩
      have q := (of_pinsAt (show p ∈ pinsAt sx s.heap by simpa [gCx] using hp)).1
      exact (h0.sx p.1 q).2.2.2.2.1 (z ▸ hb)
    show Seg _ Ag _ _ _ s _ ((compTurn (.GeneratorExp elt [⟨tg, iter, [], 0⟩] scope pos) 0 (.ref it) .none (gEnv X scope s4.heap.objs.size code)).onRaise (leaving (gEnv X scope s4.heap.objs.size code))) [] s
    rw [compTurn_gen, Sem.onRaise_eq_wrap]
    refine seg_bind_wrap (wpAny_standAt ?_)
    rcases turn i m H w0 with ⟨stop, dn⟩ | ⟨go, Yn, hYn, step⟩
    · refine seg_bind_wrap (wpAny_mono (S.turn.done (gCx X scope code fp s4 H4 (Ag.over (gLoop X tg elt iter scope pos it s4 code) []) ext) rfl rfl rfl rfl i _ s _ H (fun _ _ => False) I0 (ff h0.fr) t0 stop) (fun r s1 hr => ?_) fun _ _ z => False.elim z)
      obtain ⟨rfl, I1⟩ := hr
      obtain ⟨c1, x1⟩ := h0.of_inv I1 h0.fr
      exact seg_end (.ok .next) ⟨rfl, H, dn, c1, x1⟩
    · refine seg_bind_wrap (wpAny_mono (S.turn.item (gCx X scope code fp s4 H4 (Ag.over (gLoop X tg elt iter scope pos it s4 code) []) ext) rfl rfl rfl rfl i _ s _ H (fun _ _ => False) I0 (ff h0.fr) t0 go) (fun r s1 hr => ?_) fun _ _ z => False.elim z)
      obtain ⟨u, rfl, h1⟩ := hr
      refine seg_bind_wrap (wpAny_mono h1 (fun _ s2 h2 => ?_) fun _ _ z => False.elim z)
      obtain ⟨x, H2, I2, rx, y2, t2, f2⟩ := h2
      have I2p := I2.pinned (ff f2) (S.turn.obj _ _ t2)
      refine seg_bind_wrap (wpAny_mono (hg.run _ s2 _ H2 x u _ I2p rx (step x H2 y2)) (fun _ s3 h3 => ?_) fun _ _ z => False.elim z)
      obtain ⟨σ3, H3, I3, q3⟩ := h3
      simp only [List.forIn_nil]
      refine seg_bind_wrap (wpAny_pure ?_)
      simp only [if_true]
      have hy : ∀ v, yieldOut (gEnv X scope s4.heap.objs.size code) v = yieldValue v := fun v => by
        have q : (gEnv X scope s4.heap.objs.size code).scope.isCoroutine = false := S.ok.co
        simp only [yieldOut, q, Bool.false_eq_true, if_false]
      simp only [hy]
      rw [Sem.bind_eq_wrap', Sem.bind_eq_wrap', Sem.wrap_wrap, Sem.wrap_wrap]
      refine seg_wrap (wpAny_mono (he.run _ s3 σ3 H3 _ I3 q3) (fun v s5 h5 => ?_) fun _ _ z => False.elim z)
      obtain ⟨y, H5, I5, ry, q5⟩ := h5
      have pf : ∀ b ∈ fp, ∀ o, s2.heap.get? b = some o → s5.heap.get? b = some o ∧ H5 b = none := fun b hb o e => by
        have z := I5.pin (b, o) (List.mem_append_right _ (List.mem_append_right _ (mem_pinsAt hb e)))
        exact ⟨z.1, z.2.1⟩
      have f5 : ∀ b ∈ fp, H5 b = none := fun b hb => by
        obtain ⟨o, e, _⟩ := S.turn.obj _ _ t2 b hb
        exact (pf b hb o e).2
      have t5 : tn (i + 1) s5.heap := S.turn.keep _ _ _ t2 fun b hb o e => (pf b hb o e).1
      obtain ⟨c5, x5⟩ := h0.of_inv I5.unpinned f5
      refine seg_at (seg_yield rfl rfl rfl ⟨y, i, m, H5, ry, hYn _ _ q5, c5, t5, x5, Nat.lt_succ_iff.mp hm, fun m' s' hm' w' kp => ?_⟩)
      refine seg_again rfl (ih (i + 1) m' H5 s' (Nat.lt_of_lt_of_le hm' (Nat.lt_succ_iff.mp hm)) w' (c5.kp kp) (S.turn.keep _ _ _ t5 fun b hb o e => kp.keep b o (fun z => (c5.sx b z).2.2.2.2.1 hb) e))
theorem seg_first {Ag : Around} (S : GSt X pins σ scope own ext tg code H4 s4 J fp it tn) (hh : Ag.handled = none) {R : GenEnd} {Y : Protocol} {n : Nat} {s0 s : Shared} (t0 : tn 0 s.heap)
    (loop : Seg (model X.prog X.w) Ag R Y n s0 (gLoop X tg elt iter scope pos it s4 code) ((model X.prog X.w).den (gLoop X tg elt iter scope pos it s4 code)) [] s) :
    Seg (model X.prog X.w) Ag R Y n s0 (gFirst X tg elt iter scope pos it s4 code) ((model X.prog X.w).den (gFirst X tg elt iter scope pos it s4 code)) [] s := by
  show Seg _ Ag _ _ _ s0 _ ((compStart (.GeneratorExp elt [⟨tg, iter, [], 0⟩] scope pos) 0 (.ref it) .none (gEnv X scope s4.heap.objs.size code)).onRaise (leaving (gEnv X scope s4.heap.objs.size code))) [] s
  unfold compStart
  rw [Sem.onRaise_eq_wrap]
  show Seg _ Ag _ _ _ s0 _ ((ask >>= _).wrap _ _ _ _) [] s
  refine seg_bind_wrap (wpAny_askSetting ?_)
  split
  · exact seg_again rfl loop
  · first
      | exact seg_bind_wrap (wpAny_rule (seg_bind_wrap (wpAny_standAt (seg_bind_wrap (S.turn.self _ 0 s _ _ t0 (seg_again rfl loop))))))
      | (refine seg_bind_wrap (wpAny_rule ?_); show Seg _ Ag _ _ _ s0 _ ((standAt iter.pos >>= _).wrap _ _ _ _) [] s; exact seg_bind_wrap (wpAny_standAt (seg_bind_wrap (S.turn.self _ 0 s _ _ t0 (seg_again rfl loop)))))
theorem lim_of {H : Hp} {s : Shared} (S : GSt X pins σ scope own ext tg code H4 s4 J fp it tn) (h : CO X fp sx s4 H4 H s) : s.heap.NoLimit := by
  refine S.inv.ok.mod.nolimit.keeps fun b o e => ?_
  obtain ⟨e1, e2⟩ := S.inv.bs b o e
  refine h.un.keep b o e1 e2 (fun z => ?_) fun z => ?_
  · have q := (S.inv.env0.funs.mem z).1
    rw [e] at q
    cases q
  · rcases (S.fpo b z).2.2.2.1 with q | q
    · exact S.inv.ok.noex b o e q
    · exact absurd (Nat.lt_of_lt_of_le (Heap.lt_size e) (Nat.le_trans S.inv.ok.bsz q)) (Nat.lt_irrefl _)
/-- the generator at ga, its state kept at gi, asleep; n: how often it may be woken -/
structure GA (X : Cx) (fp sx : List Addr) (s4 : Shared) (H4 : Hp) (tn : Nat → Heap → Prop) (W : Nat → Nat → Hp → Prop) (Dn : Hp → Prop) (Yd : Nat → Nat → V → Hp → Prop) (Ag : Around) (ga : Addr) (gi n : Nat) (s : Shared) : Prop where
  gen : s.heap.IsGen ga gi
  mem : ga ∈ sx
  co : ∃ H, CO X fp sx s4 H4 H s
  goes : ∃ gs, s.gens[gi]? = some gs ∧ ∀ s', Kp sx s s' → gs.Goes (model X.prog X.w) Ag (fun n s0 r s1 => r = .ok .next ∧ gE X fp sx s4 H4 Dn n s0 s1) (gY X fp sx s4 H4 tn W Yd) n (.send .none) s'
theorem AllBare.set {s : Shared} {g : Nat} {x : GenState} (h : AllBare s.gens) (hx : x.bare = true) : AllBare (s.setGen g x).gens := fun y hy => by
  obtain ⟨j, hj, e⟩ := Array.mem_iff_getElem.mp hy
  by_cases q : g = j
  · subst q
    simp [Shared.setGen] at e
    exact e ▸ hx
  · have hj' : j < s.gens.size := by simpa [Shared.setGen] using hj
    have e2 : y = s.gens[j] := by
      rw [← e]
      simp only [Shared.setGen]
      exact Array.getElem_setIfInBounds_ne hj' q
    rw [e2]
    exact h _ (Array.getElem_mem hj')
theorem CO.any {H : Hp} {s s' : Shared} (h : CO X fp sx s4 H4 H s) (os : s'.os = s.os) (bare : AllBare s'.gens) (k : ∀ b o, s.heap.get? b = some o → s'.heap.get? b = some o) : CO X fp sx s4 H4 H s' :=
  h.kp ⟨os, bare, fun b o _ e => k b o e, fun b hb => let ⟨⟨o, e, d⟩, _⟩ := h.sx b hb; ⟨o, k b o e, d⟩⟩
theorem gen_next {Ap : Around} {W : Nat → Nat → Hp → Prop} {Dn : Hp → Prop} {Yd : Nat → Nat → V → Hp → Prop} {ga : Addr} {gi n : Nat} {s : Shared} {E : Value → Shared → Prop} (S : GSt X pins σ scope own ext tg code H4 s4 J fp it tn) (hh : Ap.handled = none) (hd : Ap.depth < recursionLimit)
    (h : GA X fp sx s4 H4 tn W Dn Yd Ap.in1 ga gi (n + 1) s) :
    wpAny (model X.prog X.w) Ap (pyNext (.ref ga)) (fun r s1 => (r = none ∧ ∃ H, Dn H ∧ CO X fp sx s4 H4 H s1 ∧ ∀ b ∈ sx, s1.heap.get? b = s.heap.get? b) ∨
      ∃ v y i m H, r = some v ∧ RelV y v ∧ Yd i m y H ∧ CO X fp sx s4 H4 H s1 ∧ (∀ b ∈ sx, s1.heap.get? b = s.heap.get? b) ∧ m ≤ n ∧ ∀ m', m' < m → W (i + 1) m' H → GA X fp sx s4 H4 tn W Dn Yd Ap.in1 ga gi n s1) E s := by
  obtain ⟨hg, hm, ⟨H0, c0⟩, gs, hgs, hgo⟩ := h
  have hlt : gi + 1 ≤ s.gens.size := by
    by_cases q : gi < s.gens.size
    · exact q
    · rw [Array.getElem?_eq_none (Nat.le_of_not_lt q)] at hgs
      cases hgs
  refine GenW.wpAny_gsz hlt (wpAny_pyNext_genexpQ (P := gE X fp sx s4 H4 Dn) hh (lim_of S c0) hd hg hgs (hgo _ ⟨rfl, AllBare.set c0.bare rfl, fun _ _ _ e => e, fun b hb => (c0.sx b hb).1⟩) (fun v s1 gs' hb hy hsz => ?_) (fun s1 he h' hk _ => ?_))
  · obtain ⟨y, i, m, H, ry, yd, c1, t1, x1, hmn, hka⟩ := hy
    have c2 : CO X fp sx s4 H4 H (s1.setGen gi gs') := c1.any rfl (AllBare.set c1.bare hb) fun _ _ e => e
    refine .inr ⟨v, y, i, m, H, rfl, ry, yd, c2, x1, hmn, fun m' hm' w' => ⟨?_, hm, ⟨H, c2⟩, gs', ?_, fun s' kp => ?_⟩⟩
    · obtain ⟨o, nm, qn, ho, r⟩ := hg
      exact ⟨o, nm, qn, (x1 ga hm).trans ho, r⟩
    · have hsz2 : gi < s1.gens.size := by
        have q : (s1.setGen gi gs').gens.size = s1.gens.size := GenW.setGen_size _ _ _
        rw [q] at hsz
        exact hsz
      simp [Shared.setGen, hsz2]
    · exact hka m' s' hm' w' ⟨kp.os, kp.bare, kp.keep, kp.own⟩
  · obtain ⟨H, dn, c1, x1⟩ := he
    have c2 : CO X fp sx s4 H4 H { s1.setGen gi .finished with heap := h' } := c1.any rfl (AllBare.set c1.bare rfl) hk
    refine .inl ⟨rfl, H, dn, c2, fun b hb => ?_⟩
    obtain ⟨⟨o, e, _⟩, _⟩ := c1.sx b hb
    exact (hk b o e).trans (e.symm.trans (x1 b hb))
theorem any_walk {W : Nat → Nat → Hp → Prop} {QT QF : Hp → Prop} {ga : Addr} {gi : Nat} {R : Result → Shared → Prop} (S : GSt X pins σ scope own ext tg code H4 s4 J fp it tn) (hh : X.A.handled = none) (hd : X.A.depth < recursionLimit)
    (hR : ∀ (b : Bool) (H : Hp) (s' : Shared), (if b = true then QT H else QF H) → CO X fp sx s4 H4 H s' → R (.ok (.ret (.bool b))) s') :
    ∀ n s, GA X fp sx s4 H4 tn W QF (fun i m y H => ∃ b, y = V.bl b ∧ if b = true then QT H else ∃ m', m' < m ∧ W (i + 1) m' H) X.A.in1.in1 ga gi (n + 1) s → codeAny (model X.prog X.w) X.A (.builtin "any.loop" ⟨[.ref ga], []⟩) R s := by
  intro n
  induction n with
  | zero =>
    intro s h
    refine codeAny_builtin F.entry_any_loop ?_
    rw [Around.under_plainId F.plain_any_loop _]
    show wpAny _ X.A.in1 (pyNext (.ref ga) >>= _) _ _ s
    refine wpAny_bind (wpAny_mono (gen_next (E := fun _ _ => False) S hh hd h) (fun r s1 hr => ?_) fun _ _ z => False.elim z)
    rcases hr with ⟨rfl, H, dn, c1, _⟩ | ⟨v, y, i, m, H, rfl, ry, ⟨b, rfl, yd⟩, c1, _, hm, _⟩
    · exact wpAny_bind (wpAny_rule (wpAny_pure (hR false H s1 (iteF dn) c1)))
    · obtain rfl : v = Value.bool b := ry
      refine wpAny_bind (wpAny_holding (wpAny_truthy_bool (wpAny_bind (wpAny_letGo ?_))))
      cases b with
      | true => exact wpAny_bind (wpAny_rule (wpAny_pure (hR true H s1 yd c1)))
      | false =>
        obtain ⟨m', hm', _⟩ : ∃ m', m' < m ∧ W (i + 1) m' H := yd
        omega
  | succ n ih =>
    intro s h
    refine codeAny_builtin F.entry_any_loop ?_
    rw [Around.under_plainId F.plain_any_loop _]
    show wpAny _ X.A.in1 (pyNext (.ref ga) >>= _) _ _ s
    refine wpAny_bind (wpAny_mono (gen_next (E := fun _ _ => False) S hh hd h) (fun r s1 hr => ?_) fun _ _ z => False.elim z)
    rcases hr with ⟨rfl, H, dn, c1, _⟩ | ⟨v, y, i, m, H, rfl, ry, ⟨b, rfl, yd⟩, c1, _, hm, more⟩
    · exact wpAny_bind (wpAny_rule (wpAny_pure (hR false H s1 (iteF dn) c1)))
    · obtain rfl : v = Value.bool b := ry
      refine wpAny_bind (wpAny_holding (wpAny_truthy_bool (wpAny_bind (wpAny_letGo ?_))))
      cases b with
      | true => exact wpAny_bind (wpAny_rule (wpAny_pure (hR true H s1 yd c1)))
      | false =>
        obtain ⟨m', hm', w'⟩ : ∃ m', m' < m ∧ W (i + 1) m' H := yd
        exact wpAny_pure ⟨plainId_quiet F.plain_any_loop _, ih s1 (more m' hm' w')⟩
theorem all_walk {W : Nat → Nat → Hp → Prop} {QT QF : Hp → Prop} {ga : Addr} {gi : Nat} {R : Result → Shared → Prop} (S : GSt X pins σ scope own ext tg code H4 s4 J fp it tn) (hh : X.A.handled = none) (hd : X.A.depth < recursionLimit)
    (hR : ∀ (b : Bool) (H : Hp) (s' : Shared), (if b = true then QT H else QF H) → CO X fp sx s4 H4 H s' → R (.ok (.ret (.bool b))) s') :
    ∀ n s, GA X fp sx s4 H4 tn W QT (fun i m y H => ∃ b, y = V.bl b ∧ if b = false then QF H else ∃ m', m' < m ∧ W (i + 1) m' H) X.A.in1.in1 ga gi (n + 1) s → codeAny (model X.prog X.w) X.A (.builtin "all.loop" ⟨[.ref ga], []⟩) R s := by
  intro n
  induction n with
  | zero =>
    intro s h
    refine codeAny_builtin F.entry_all_loop ?_
    rw [Around.under_plainId F.plain_all_loop _]
    show wpAny _ X.A.in1 (pyNext (.ref ga) >>= _) _ _ s
    refine wpAny_bind (wpAny_mono (gen_next (E := fun _ _ => False) S hh hd h) (fun r s1 hr => ?_) fun _ _ z => False.elim z)
    rcases hr with ⟨rfl, H, dn, c1, _⟩ | ⟨v, y, i, m, H, rfl, ry, ⟨b, rfl, yd⟩, c1, _, hm, _⟩
    · exact wpAny_bind (wpAny_rule (wpAny_pure (hR true H s1 (iteT dn) c1)))
    · obtain rfl : v = Value.bool b := ry
      refine wpAny_bind (wpAny_holding (wpAny_truthy_bool (wpAny_bind (wpAny_letGo ?_))))
      cases b with
      | false => exact wpAny_bind (wpAny_rule (wpAny_pure (hR false H s1 yd c1)))
      | true =>
        obtain ⟨m', hm', _⟩ : ∃ m', m' < m ∧ W (i + 1) m' H := yd
        omega
  | succ n ih =>
    intro s h
    refine codeAny_builtin F.entry_all_loop ?_
    rw [Around.under_plainId F.plain_all_loop _]
    show wpAny _ X.A.in1 (pyNext (.ref ga) >>= _) _ _ s
    refine wpAny_bind (wpAny_mono (gen_next (E := fun _ _ => False) S hh hd h) (fun r s1 hr => ?_) fun _ _ z => False.elim z)
    rcases hr with ⟨rfl, H, dn, c1, _⟩ | ⟨v, y, i, m, H, rfl, ry, ⟨b, rfl, yd⟩, c1, _, hm, more⟩
    · exact wpAny_bind (wpAny_rule (wpAny_pure (hR true H s1 (iteT dn) c1)))
    · obtain rfl : v = Value.bool b := ry
      refine wpAny_bind (wpAny_holding (wpAny_truthy_bool (wpAny_bind (wpAny_letGo ?_))))
      cases b with
      | false => exact wpAny_bind (wpAny_rule (wpAny_pure (hR false H s1 yd c1)))
      | true =>
        obtain ⟨m', hm', w'⟩ : ∃ m', m' < m ∧ W (i + 1) m' H := yd
        exact wpAny_pure ⟨plainId_quiet F.plain_all_loop _, ih s1 (more m' hm' w')⟩
end
/-! ### made -/
section
variable {X : Cx} {pins : List (Addr × Obj)} {σ : L2.St} {H : Hp} {s : Shared} {scope : Scope} {own : List (Str × Nat)} {ext : List Str} {tg elt iter : Expr} {pos : Pos} {c P : Addr} {wi : TI} {k : Nat}
theorem gen_eval {R : It → Hp → Prop} {Q' : Value → Shared → Prop} (hr : Room k X.A) (TB : GxR.TabB X.base X.mg c P) (hcode : X.env.code = .ref c) (G : GOk X.N X.env.scope scope own ext) (hi : PI X tg iter wi) (hs : ∀ v, genFold iter X.env v = pure v)
    (I : Inv X pins σ H s) (h : wi σ H fun J H1 => GxR.TabG H1 P ∧ R J H1)
    (hQ : ∀ (J : It) (fp : List Addr) (it : Addr) (tn : Nat → Heap → Prop) (H1 H4 : Hp) (s4 s5 : Shared) (code : Value) (ga : Addr) (gi : Nat), R J H1 → GxR.Tabbed P H1 H4 → GSt X pins σ scope own ext tg code H4 s4 J fp it tn → tn 0 s5.heap → CO X fp [ga] s4 H4 H4 s5 →
      s5.heap.IsGen ga gi → s5.gens[gi]? = some (.fresh (gFirst X tg elt iter scope pos it s4 code)) → Q' (.ref ga) s5) :
    wpAny (model X.prog X.w) X.A (eval (.GeneratorExp elt [⟨tg, iter, [], 0⟩] scope pos) X.env) Q' X.xe s := by
  refine wpAny_GeneratorExp_make G.co (closure_ok (free_cells I G)) G.cell G.dot G.blk.kind hr.depth (thn (hi.run pins s σ H _ I h) fun xv s1 h1 => thn h1 fun itv s2 h2 => ?_) hs
  obtain ⟨it, fp, tn, J, H1, rfl, I2, T, t2, f2, ⟨ps, hP, ht⟩, q⟩ := h2
  have hPs : s2.heap.get? P = some { cls := .none, data := .fields ps } := I2.hok P _ hP
  have cd : PySem.W.CodeHd s2.heap c P := TB.code.keeps fun b u e => I2.bk b u e
  have nP : ∀ b ∈ fp, b ≠ P := fun b hb z => by
    have z2 := (f2 b hb).1
    rw [z, hP] at z2
    cases z2
  refine ⟨I2.nolimit, ?_⟩
  have cont : ∀ (code : Value) (h3 : Heap) (tk : Nat) (more : Array Value), Heap.ExtBut P s2.heap h3 → h3.get? P = some { cls := .none, data := .fields (ps ++ more) } → TriplesOk (ps ++ more).toList →
      wpAny (model X.prog X.w) X.A (builtinsFor X.env.globals X.env.builtins) (fun bi s₄ => ∀ h', h'.Ns s₄.heap.objs.size (fun y => if y = ".0" then some (.ref it) else none) → Heap.SameBut s₄.heap.objs.size (s₄.heap.push { cls := .type "frame", data := .dict #[] }) h' →
          Q' (.ref h'.objs.size) { s₄ with
            gens := s₄.gens.push (.fresh (.compStart (.GeneratorExp elt [⟨tg, iter, [], 0⟩] scope pos) 0 (.ref it) .none (genEnv scope (cloFrom X.env.cells scope.names []) s₄.heap.objs.size code bi X.env))),
            toks := s₄.toks + 1 + 1 + 1,
            heap := h'.push { cls := .type "generator", data := .fields #[.int s₄.gens.size 0, .str "<genexpr>" (s₄.toks + 1), .str (X.env.qual ++ "<genexpr>") (s₄.toks + 1 + 1)] } }) X.xe { s2 with heap := h3, toks := tk } := by
    intro code h3 tk more hx h3P ht3
    have I4 := GxR.inv_tab (more := more) (h' := h3) (g' := s2.gens) (d' := s2.drawn) (t' := tk) I2 hP (fun b u hb e => hx b u hb e) h3P I2.bare
    obtain ⟨bm, ob, e1, e2, e3, e4, e5, e6, e7, e8⟩ := TB.bm
    refine wpAny_builtinsFor (m := X.mg) (by rw [I4.ok.glob]; exact I4.mod.glob.keeps I4.bk) e1 e2 (I4.bk _ _ e5) e6 e7 e8 ?_
    intro h' hn' hs'
    have keep1 : ∀ b o, h3.get? b = some o → h'.get? b = some o := fun b o e => hs'.extBut b o (Nat.ne_of_lt (Heap.lt_size e)) (Heap.get?_push_of_some _ e)
    have sz' : h'.objs.size = h3.objs.size + 1 := by rw [hs'.1, Heap.size_push]
    have keep5 : ∀ b o, h3.get? b = some o → (h'.push { cls := .type "generator", data := .fields #[.int s2.gens.size 0, .str "<genexpr>" (tk + 1), .str (X.env.qual ++ "<genexpr>") (tk + 1 + 1)] }).get? b = some o := fun b o e => Heap.get?_push_of_some _ (keep1 b o e)
    have f4 : ∀ b ∈ fp, FpOk X pins (upd H1 P (.tbl (ps ++ more))) b := fun b hb => ⟨by rw [upd_ne (nP b hb)]; exact (f2 b hb).1, (f2 b hb).2⟩
    have t4 : tn 0 h3 := T.keep _ _ _ t2 fun b hb o e => hx b o (nP b hb) e
    have lt : ∀ b ∈ fp, b < h3.objs.size := fun b hb => by
      obtain ⟨o, e, _⟩ := T.obj _ _ t4 b hb
      exact Heap.lt_size e
    have S : GSt X pins σ scope own ext tg code (upd H1 P (.tbl (ps ++ more))) { s2 with heap := h3, toks := tk } J fp it tn := ⟨I4, G, T, f4, lt⟩
    have nga : ∀ b, h3.objs.size ≤ b → upd H1 P (.tbl (ps ++ more)) b = none := fun b hb => I4.hok.fresh hb
    refine hQ J fp it tn H1 _ { s2 with heap := h3, toks := tk } _ code h'.objs.size s2.gens.size q ⟨⟨_, upd_same, ht3⟩, fun b hb => upd_ne hb⟩ S (T.keep _ _ _ t4 fun b hb o e => keep5 b o e) ⟨rfl, AllBare.push I2.bare rfl, Un.kept keep5, I4.hok.kept keep5, ⟨_, hn'.push _⟩, nga _ (Nat.le_refl _), fun b hb => (f4 b hb).1, fun b hb => ?_⟩ ?_ ?_
    · obtain rfl : b = h'.objs.size := by simpa using hb
      refine ⟨⟨_, Heap.get?_push_size _ rfl, fun v z => by cases z⟩, nga _ (by omega), ?_, fun z => ?_, fun z => ?_, ?_⟩
      · show h'.objs.size ≠ h3.objs.size
        omega
      · rcases List.mem_cons.mp (I4.stkSub _ z) with e | e
        · have z2 := I4.lt
          rw [← e] at z2
          have z3 : h'.objs.size < h3.objs.size := z2
          omega
        · exact I4.nofs (show h3.objs.size ≤ h'.objs.size by omega) e
      · have q5 : (h'.objs.size : Nat) < h3.objs.size := lt _ z
        omega
      · show h3.get? h'.objs.size = none
        cases e : h3.get? h'.objs.size with
        | none => rfl
        | some o =>
          have q5 : (h'.objs.size : Nat) < h3.objs.size := Heap.lt_size e
          omega
    · exact ⟨_, _, _, Heap.get?_push_size _ rfl, rfl, rfl, rfl⟩
    · exact Array.getElem?_push_size ..
  cases hf : codeAmong pos ps.toList with
  | none =>
    refine wpAny_genexprCodeX hcode (cd.code hPs ht) (cd.tab hPs) hf fun c' h' tk hx hge hlt hco' _ htab' _ => ?_
    obtain ⟨o1, vs, f1, tf, fl, tg', inF, tx, tt, op, _, _, _, _, _, _, _, _, _, htr, _⟩ := hco'
    exact cont _ h' tk _ hx htab'.2 htr
  | some cv =>
    refine wpAny_genexprCode_hit hcode (cd.code hPs ht) hf ?_
    exact cont cv s2.heap s2.toks #[] (Heap.ExtBut.refl _ _) (by simpa using hPs) (by simpa using ht)
/-- any(..), all(..) of the expression; behind it the def's table may have grown -/
def tGen (P : Addr) (wi : TI) (g : TG) (te : TE) (own : List (Str × Nat)) (ext : List Str) (stopAt : Bool) : TE := fun σ H Q => wi σ H fun J H1 => GxR.TabG H1 P ∧ ∀ H2, GxR.Tabbed P H1 H2 → ∃ W : Nat → Nat → Hp → Prop, (∃ m, W 0 m H2) ∧
  ∀ i m H, W i m H → (J.stop i H ∧ Q (.bl (!stopAt)) H) ∨ (J.go i H ∧ ∃ N : Hp → Prop, (∀ H', N H' → ∃ m', m' < m ∧ W (i + 1) m' H') ∧ ∀ x H', J.yld i H x H' → g x (gS σ own ext) H' fun σ2 H2 => te σ2 H2 fun v H3 => ∃ b, v = V.bl b ∧ if b = stopAt then Q (.bl stopAt) H3 else N H3)
theorem turn_of {J : It} {g : TG} {te : TE} {σg : L2.St} {W : Nat → Nat → Hp → Prop} {Q : VK} {st : Bool} (turn : ∀ i m H, W i m H → (J.stop i H ∧ Q (.bl (!st)) H) ∨ (J.go i H ∧ ∃ N : Hp → Prop, (∀ H', N H' → ∃ m', m' < m ∧ W (i + 1) m' H') ∧
      ∀ x H', J.yld i H x H' → g x σg H' fun σ2 H2 => te σ2 H2 fun v H3 => ∃ b, v = V.bl b ∧ if b = st then Q (.bl st) H3 else N H3)) (i m : Nat) (H : Hp) (w : W i m H) :
    (J.stop i H ∧ Q (.bl (!st)) H) ∨ (J.go i H ∧ ∃ Yn : V → Hp → Prop, (∀ v H3, Yn v H3 → ∃ b, v = V.bl b ∧ if b = st then Q (.bl st) H3 else ∃ m', m' < m ∧ W (i + 1) m' H3) ∧ ∀ x H', J.yld i H x H' → g x σg H' fun σ2 H2 => te σ2 H2 Yn) := by
  rcases turn i m H w with z | ⟨go, N, hN, step⟩
  · exact .inl z
  · refine .inr ⟨go, _, fun v H3 ⟨b, e, q⟩ => ⟨b, e, ?_⟩, step⟩
    by_cases hb : b = st
    · rw [if_pos hb] at q ⊢
      exact q
    · rw [if_neg hb] at q ⊢
      exact hN _ q
theorem room_over {Ag : Around} {c : Code} (hr : Room (k + 1) Ag) (h1 : c.weight = 1) (h2 : c.cUnits = 3) : Room k (Ag.over c []) := by
  refine ⟨hr.hd, ?_, ?_⟩
  · have := hr.dp
    show Ag.depth + frameCount [] + c.weight + 3 * k + 5 < _
    rw [h1]
    show Ag.depth + 0 + 1 + 3 * k + 5 < _
    omega
  · have := hr.un
    show Ag.units + unitsOf [] + c.cUnits + 16 * k + 200 < _
    rw [h2]
    show Ag.units + 0 + 3 + 16 * k + 200 < _
    omega
theorem room_in1 {Ag : Around} (hr : Room (k + 1) Ag) : Room k Ag.in1.in1 := by
  refine ⟨hr.hd, ?_, ?_⟩
  · have := hr.dp
    show Ag.depth + 3 * k + 5 < _
    omega
  · have := hr.un
    show Ag.units + 1 + 1 + 16 * k + 200 < _
    omega
theorem EP_of {H4 H' : Hp} {s4 s' : Shared} {J : It} {fp sx : List Addr} {it : Addr} {tn : Nat → Heap → Prop} {code : Value} {Q : VK} {v : V} {u : Value} (S : GSt X pins σ scope own ext tg code H4 s4 J fp it tn) (h : CO X fp sx s4 H4 H' s') (r : RelV v u) (q : Q v H') : EP X pins σ Q u s' :=
  ⟨v, H', S.inv.call' h.os h.un h.hok h.bare fun b hb => ⟨(S.fpo b hb).2.2.2.1, (S.fpo b hb).2.1, (S.fpo b hb).2.2.2.2.1, (S.fpo b hb).2.2.2.2.2⟩, r, q⟩
section
variable {g : TG} {te : TE} {p cpos : Pos}
theorem pe_anyG (hr : Room (k + 2) X.A) (hg : Gl X "any") (hm : X.mg "any" = none) (TB : GxR.TabB X.base X.mg c P) (hcode : X.env.code = .ref c) (G : GOk X.N X.env.scope scope own ext) (hi : PI X tg iter wi)
    (ht : ∀ (code : Value) (fp : List Addr) (s4 : Shared) (H4 : Hp) (B : Around), PG (gCx X scope code fp s4 H4 B ext) tg g) (he : ∀ (code : Value) (fp : List Addr) (s4 : Shared) (H4 : Hp) (B : Around), Room k B → PE (gCx X scope code fp s4 H4 B ext) elt te)
    (hs : ∀ v, genFold iter X.env v = pure v := by intro _; rfl) (hst : starEach [.GeneratorExp elt [⟨tg, iter, [], 0⟩] scope pos] X.env = (false, eval (.GeneratorExp elt [⟨tg, iter, [], 0⟩] scope pos) X.env) :: starEach [] X.env := by rfl) :
    PE X (.Call (.Name "any" p) [.GeneratorExp elt [⟨tg, iter, [], 0⟩] scope pos] [] cpos) (tGen P wi g te own ext true) := by
  constructor
  intro pins s σ H Q I h
  refine wpAny_Call_Name_kw (ld_blt I hg hm boot_any (PyProof.Rows.callWith_builtin1 ?_ hst (by rfl)))
  rw [hst]
  show wpAny _ _ (spliced ((false, eval (.GeneratorExp elt [⟨tg, iter, [], 0⟩] scope pos) X.env) :: backTo cpos (starEach [] X.env))) _ _ s
  refine Calls.spliced_cons (gen_eval hr TB hcode G hi hs I h fun J fp it tn H1 H4 s4 s5 code ga gi q htab S t5 c5 hgen hgs => Calls.spliced_nil ?_)
  obtain ⟨W, ⟨m, w0⟩, turn⟩ := q H4 htab
  have rm : Room k (X.A.in1.in1.over (gLoop X tg elt iter scope pos it s4 code) []) := room_over (room_in1 hr) rfl rfl
  refine call_function_tree F.kind_any F.plain_any F.entry_any (F.args_any1 _) ?_
  unfold Builtin.«any»
  refine wpAny_bind (m := oneArg "any" _) (wpAny_pure (wpAny_bind (wpAny_pyIter_gen hgen ?_)))
  refine wpAny_pure ⟨plainId_quiet F.plain_any_loop _, any_walk (W := W) (QT := Q (.bl true)) (QF := Q (.bl false)) S hr.hd hr.depth (fun b H' s' hb hc => EP_of (v := .bl b) S hc rfl (by cases b <;> exact hb)) m s5 ⟨hgen, List.mem_cons_self, ⟨H4, c5⟩, _, hgs, fun s' kp => ⟨rfl, ?_⟩⟩⟩
  have t6 : tn 0 s'.heap := S.turn.keep _ _ _ t5 fun b hb o e => kp.keep b o (fun z => (c5.sx b z).2.2.2.2.1 hb) e
  exact seg_first (Ag := X.A.in1.in1) S hr.hd t6 (seg_loop (Ag := X.A.in1.in1) S S.inv.ok.frames hr.hd (ht ..) (he _ _ _ _ _ rm) W _ _ (turn_of (st := true) turn) (m + 1) 0 m H4 s' (Nat.lt_succ_self m) w0 (c5.kp kp) t6)
theorem pe_allG (hr : Room (k + 2) X.A) (hg : Gl X "all") (hm : X.mg "all" = none) (hb : bootBuiltins "all" = some (.builtin "all")) (TB : GxR.TabB X.base X.mg c P) (hcode : X.env.code = .ref c) (G : GOk X.N X.env.scope scope own ext) (hi : PI X tg iter wi)
    (ht : ∀ (code : Value) (fp : List Addr) (s4 : Shared) (H4 : Hp) (B : Around), PG (gCx X scope code fp s4 H4 B ext) tg g) (he : ∀ (code : Value) (fp : List Addr) (s4 : Shared) (H4 : Hp) (B : Around), Room k B → PE (gCx X scope code fp s4 H4 B ext) elt te)
    (hs : ∀ v, genFold iter X.env v = pure v := by intro _; rfl) (hst : starEach [.GeneratorExp elt [⟨tg, iter, [], 0⟩] scope pos] X.env = (false, eval (.GeneratorExp elt [⟨tg, iter, [], 0⟩] scope pos) X.env) :: starEach [] X.env := by rfl) :
    PE X (.Call (.Name "all" p) [.GeneratorExp elt [⟨tg, iter, [], 0⟩] scope pos] [] cpos) (tGen P wi g te own ext false) := by
  constructor
  intro pins s σ H Q I h
  refine wpAny_Call_Name_kw (ld_blt I hg hm hb (PyProof.Rows.callWith_builtin1 ?_ hst (by rfl)))
  rw [hst]
  show wpAny _ _ (spliced ((false, eval (.GeneratorExp elt [⟨tg, iter, [], 0⟩] scope pos) X.env) :: backTo cpos (starEach [] X.env))) _ _ s
  refine Calls.spliced_cons (gen_eval hr TB hcode G hi hs I h fun J fp it tn H1 H4 s4 s5 code ga gi q htab S t5 c5 hgen hgs => Calls.spliced_nil ?_)
  obtain ⟨W, ⟨m, w0⟩, turn⟩ := q H4 htab
  have rm : Room k (X.A.in1.in1.over (gLoop X tg elt iter scope pos it s4 code) []) := room_over (room_in1 hr) rfl rfl
  refine call_function_tree F.kind_all F.plain_all F.entry_all (F.args_all1 _) ?_
  unfold Builtin.«all»
  refine wpAny_bind (m := oneArg "all" _) (wpAny_pure (wpAny_bind (wpAny_pyIter_gen hgen ?_)))
  refine wpAny_pure ⟨plainId_quiet F.plain_all_loop _, all_walk (W := W) (QT := Q (.bl true)) (QF := Q (.bl false)) S hr.hd hr.depth (fun b H' s' hb hc => EP_of (v := .bl b) S hc rfl (by cases b <;> exact hb)) m s5 ⟨hgen, List.mem_cons_self, ⟨H4, c5⟩, _, hgs, fun s' kp => ⟨rfl, ?_⟩⟩⟩
  have t6 : tn 0 s'.heap := S.turn.keep _ _ _ t5 fun b hb o e => kp.keep b o (fun z => (c5.sx b z).2.2.2.2.1 hb) e
  exact seg_first (Ag := X.A.in1.in1) S hr.hd t6 (seg_loop (Ag := X.A.in1.in1) S S.inv.ok.frames hr.hd (ht ..) (he _ _ _ _ _ rm) W _ _ (turn_of (st := false) turn) (m + 1) 0 m H4 s' (Nat.lt_succ_self m) w0 (c5.kp kp) t6)
end
end
end GX

/-! ### defs that hold a generator expression: their code objects' tables, and the end of a law that calls them -/
namespace GX
open PySem PySem.Spec PyProof.Rows L2 Cm
/-- the def x stands at some address, its code object at c -/
structure FunC (K : PySem.W.Frag) (x : Str) (st : Stmt) (f : Addr) (fd : FuncData) (c : Addr) : Prop where
  ex : ∃ (oc : Value) (od : Option Addr) (kV doc pm : Value) (an : Option Addr) (ct : Value) (osl : Array (Option Value)),
    fd = PySem.W.fnOf x x (defArgs st) (defBody st) (defScope st) .none kV doc pm an (.ref c) ct ∧ K.lookup f = some ⟨oc, od, .func fd, osl⟩ ∧ PySem.W.codeIn K (.ref c) x = true
  kp : PySem.W.keepIn K (.ref f) = true
def DnC (K : PySem.W.Frag) (mg : Str → Option Value) (x : Str) (st : Stmt) (ps : List Str) (c : Addr) : Prop := ∃ (f : Addr) (fd : FuncData), FunC K x st f fd c ∧ mg x = some (.ref f) ∧ Binds K fd ps []
theorem dnc_mk {K : PySem.W.Frag} {h : Heap} {mg : Str → Option Value} {x : Str} {ps : List Str} {st : Stmt} {f c : Addr} {oc : Value} {od an : Option Addr} {osl : Array (Option Value)} {kV doc pm ct : Value} (X : K.In h) (G : h.Ns mainGlobals mg) (a : PySem.W.nsIn K mainGlobals x = some (some (.ref f)))
    (l : K.lookup f = some ⟨oc, od, .func (PySem.W.fnOf x x (defArgs st) (defBody st) (defScope st) .none kV doc pm an (.ref c) ct), osl⟩) (e : PySem.W.codeIn K (.ref c) x = true) (k : PySem.W.keepIn K (.ref f) = true)
    (hb : ∀ (kV doc pm : Value) (an : Option Addr) (cdv ct : Value) (us : List Value), us.length = ps.length → bindArgs (PySem.W.fnOf x x (defArgs st) (defBody st) (defScope st) .none kV doc pm an cdv ct) ⟨us, []⟩ = pure (ps.zip us)) : DnC K mg x st ps c :=
  ⟨f, _, ⟨⟨_, _, _, _, _, _, _, _, rfl, l, e⟩, k⟩, PySem.W.mg_of X G a, (fun_mk l e k).binds hb⟩
theorem okc_of {P : Program} {w : World} {K : PySem.W.Frag} {mg : Str → Option Value} {base : Heap} {CX : CXT} {k : Nat} {x : Str} {st : Stmt} {N ps : List Str} {sp : Sp} {c : Addr} (d : DnC K mg x st ps c) (S : FnScope N ps (defScope st)) (len : ∀ vs H Q E, sp vs H Q E → vs.length = ps.length)
    (hbody : ∀ (f : Addr) (A : Around) (outer : List Env) (s : Shared) (H : Hp) (vs : List V) (Q : VK) (E : XK), Room k (A.deeper (envOfC x (defScope st) s.heap.objs.size f (.ref c))) → sp vs H Q E →
      ∃ t, PSs (cxOf CX P w K mg base N x (defScope st) f (.ref c) A outer s H E) (defBody st) t ∧ t { nx := fun _ H' => Q .non H', rt := Q } (L2.start N vs) H) : Ok P w K mg base CX (k + 1) x ps sp := by
  obtain ⟨f, fd, ⟨⟨oc, od, kV, doc, pm, an, ct, osl, rfl, lk, hcd⟩, kp⟩, g, b⟩ := d
  exact ⟨f, _, fn_of lk hcd S len fun A outer s H vs Q E hr hsp => hbody f A outer s H vs Q E hr hsp, g, kp, b⟩
theorem tb_of {base : Heap} {mg : Str → Option Value} {c P : Addr} (h : LamX.TabB base mg c P) : GxR.TabB base mg c P := ⟨h.code, h.bm, h.gP⟩
/-- law's promise where tables may grow -/
def spLawT (K : PySem.W.Frag) (Ps : List Addr) : Sp := fun vs H Q _ => ∃ (a : Addr) (ns : List Int), vs = [.ref a] ∧ SqL K H a (ns.map V.int) ∧ ns.length ≤ 63 ∧ (∀ P ∈ Ps, GxR.TabG H P) ∧ ∀ H', Q (.bl true) H'
theorem no_tab {K : PySem.W.Frag} {h : Heap} {P : Addr} (X : K.In h) (n : PySem.W.noTabs K = true) (e : h.get? P = some (PySem.W.tabObj #[])) : K.lookup P = none := by
  cases q : K.lookup P with
  | none => rfl
  | some o =>
    have z := X P o q
    rw [e] at z
    cases z
    have z2 := List.all_eq_true.mp n (P, _) (PySem.W.mem_of_lookupK q)
    exact absurd (show false = true from z2) (by decide)
theorem tabIn_mk {K : PySem.W.Frag} {x : Str} {f c P : Addr} {oc cc : Value} {od ce : Option Addr} {fd : FuncData} {sl cg : Array (Option Value)} {vs : Array Value} (h1 : PySem.W.nsIn K mainGlobals x = some (some (.ref f)))
    (h2 : K.lookup f = some ⟨oc, od, .func fd, sl⟩) (h3 : fd.code = .ref c) (h4 : K.lookup c = some ⟨cc, ce, .fields vs, cg⟩) (h5 : vs[11]? = some (.ref P)) : PySem.W.tabIn K x = some (c, P) := by
  unfold PySem.W.tabIn
  simp only [h1, h2, h3, h4, h5]
theorem walk_gx {l : PySem.W.OpenLaw} {k : Nat} {q : Program} {loose : List Str} {XP : (Str → Option Value) → Heap → Prop} {YP : World → Heap → Prop} {d : DefRec} {K : Params → PySem.W.Frag} {names : List Str} (hn : l.most = some 63) (hdf : d.params.defaults = []) (hr : Room k callerA)
    (hY : ∀ (w : World) (h : Heap), YP w h → (K w.params).In h) (hnt : ∀ w : World, PySem.W.noTabs (K w.params) = true) (hrec : ∀ x ∈ names, ((PyProof.Rows.recsOf q).find? fun e => e.name == x).isSome = true)
    (F : ∀ (w : World) (mg : Str → Option Value) (fa : Addr) (h : Heap), (K w.params).In h → h.Ns mainGlobals mg → mg d.name = some (.ref fa) → ∃ (fd : FuncData) (cs : List (Str × Addr × Addr)), (∀ t ∈ cs, t.1 ∈ names ∧ PySem.W.tabIn (K w.params) t.1 = some t.2) ∧
      (∀ (s : Shared) (u : Value), BindsTo s fd ⟨[u], []⟩ [("script", u)]) ∧ ∀ base : Heap, (K w.params).In base → base.Ns mainGlobals mg → (∀ t ∈ cs, LamX.TabB base mg t.2.1 t.2.2) → FnOk l.prog w (K w.params) mg base CX0 k fa fd ["script"] (spLawT (K w.params) (cs.map (·.2.2)))) :
    PySem.W.WalkO q loose XP YP l.row.toRowW d [] (fun f vs => PySem.call f vs) := by
  refine Att.attach_callB hn hdf fun w s0 s1 mg mb fa o pm cd doc a vs ns G Y ho hd hcd hmg hobj hints hlen hbits hg => ?_
  have KX := hY w _ Y
  obtain ⟨fd, cs, hcs, hb, hF⟩ := F w mg fa _ KX G.T.g hmg
  have tab : ∀ t ∈ cs, PySem.W.CodeHd s1.heap t.2.1 t.2.2 ∧ s1.heap.get? t.2.2 = some (PySem.W.tabObj #[]) := fun t ht => by
    obtain ⟨h1, h2⟩ := hcs t ht
    obtain ⟨dr, hdr⟩ := Option.isSome_iff_exists.mp (hrec _ h1)
    exact PySem.W.tab_of G.T KX hdr h2
  have of2 : ∀ p ∈ cs.map (·.2), ∃ t ∈ cs, t.2 = p := fun p hp => List.mem_map.mp hp
  refine LamX.law_callTs (cs := cs.map (·.2)) (sp := spLawT (K w.params) (cs.map (·.2.2))) KX G.T.g G.T.b G.T.builtins G.T.nolimit hg (fun p hp => ?_) (fun p hp => ?_) (fun p hp => ?_) G.T.bmain hobj hints (Nat.le_trans hlen (by decide)) hr (fun base k1 k2 k3 => hF base k1 k2 fun t ht => k3 t.2 (List.mem_map.mpr ⟨t, ht, rfl⟩)) hb (fun H hH hS => ?_) (fun _ _ _ z => z)
  · obtain ⟨t, ht, rfl⟩ := of2 p hp
    exact (tab t ht).2
  · obtain ⟨t, ht, rfl⟩ := of2 p hp
    exact no_tab KX (hnt w) (tab t ht).2
  · obtain ⟨t, ht, rfl⟩ := of2 p hp
    exact (tab t ht).1
  · refine ⟨a, ns, rfl, hS, hlen, fun P hP => ?_, fun _ => rfl⟩
    obtain ⟨t, ht, rfl⟩ := List.mem_map.mp hP
    exact ⟨#[], hH t.2 (List.mem_map.mpr ⟨t, ht, rfl⟩), True.intro⟩
/-! ### heaps in which tables may have grown -/
/-- all but tables stays; tables stay tables -/
structure Sm (H H' : Hp) : Prop where
  keep : ∀ b o, H b = some o → (∀ ps, o ≠ .tbl ps) → H' b = some o
  tab : ∀ P, GxR.TabG H P → GxR.TabG H' P
theorem Sm.refl (H : Hp) : Sm H H := ⟨fun _ _ e _ => e, fun _ t => t⟩
theorem Sm.trans {H H1 H2 : Hp} (a : Sm H H1) (b : Sm H1 H2) : Sm H H2 := ⟨fun c o e n => b.keep c o (a.keep c o e n) n, fun P t => b.tab P (a.tab P t)⟩
theorem Sm.of {H H' : Hp} (e : Same H H') : Sm H H' := ⟨fun b o q _ => e b o q, fun P ⟨ps, q, t⟩ => ⟨ps, e _ _ q, t⟩⟩
theorem Sm.tabbed {H H' : Hp} {P : Addr} (h : GxR.TabG H P) (e : GxR.Tabbed P H H') : Sm H H' := by
  obtain ⟨ps, hP, _⟩ := h
  refine ⟨fun b o q n => ?_, fun P' t => ?_⟩
  · rw [e.2 b fun z => n ps (Option.some.inj (q.symm.trans (z ▸ hP)))]
    exact q
  · by_cases z : P' = P
    · rw [z]
      exact e.1
    · obtain ⟨ps', q, t'⟩ := t
      exact ⟨ps', by rw [e.2 _ z]; exact q, t'⟩
theorem Sm.l {H H' : Hp} (e : Sm H H') {a : Addr} {xs : List V} (h : H a = some (.lst xs)) : H' a = some (.lst xs) := e.keep _ _ h fun _ z => by cases z
theorem Sm.t {H H' : Hp} (e : Sm H H') {a : Addr} {xs : List V} (h : H a = some (.tup xs)) : H' a = some (.tup xs) := e.keep _ _ h fun _ z => by cases z
theorem Sm.seq {K : PySem.W.Frag} {H H' : Hp} (e : Sm H H') {a : Addr} {xs : List V} (h : SqL K H a xs) : SqL K H' a xs := by
  rcases h with (h | ⟨o, h⟩) | h
  · exact .inl (.inl (e.l h))
  · exact .inl (.inr ⟨o, e.keep _ _ h fun _ z => by cases z⟩)
  · exact .inr h
theorem Sm.tup {K : PySem.W.Frag} {H H' : Hp} (e : Sm H H') {a : Addr} {xs : List V} (h : SqT K H a xs) : SqT K H' a xs := by
  rcases h with (h | ⟨o, h⟩) | h
  · exact .inl (.inl (e.t h))
  · exact .inl (.inr ⟨o, e.keep _ _ h fun _ z => by cases z⟩)
  · exact .inr h
mutual
theorem Sm.dp {K : PySem.W.Frag} {H H' : Hp} (e : Sm H H') : ∀ {d : PyData} {v : V}, Dp K H v d → Dp K H' v d
  | _, _, .non => .non
  | _, _, .bl b => .bl b
  | _, _, .int i => .int i
  | _, _, .str x => .str x
  | _, _, .lst h r => .lst (e.seq h) (e.dpAll r)
  | _, _, .tup h r => .tup (e.tup h) (e.dpAll r)
theorem Sm.dpAll {K : PySem.W.Frag} {H H' : Hp} (e : Sm H H') : ∀ {ds : List PyData} {vs : List V}, DpAll K H vs ds → DpAll K H' vs ds
  | _, _, .nil => .nil
  | _, _, .cons h r => .cons (e.dp h) (e.dpAll r)
end
/-! ### the forms one uses -/
section
variable {K : PySem.W.Frag} {a : Addr} {xs : List V} {g : TG} {te : TE} {σg : L2.St} {H1 : Hp} {P : Addr} {Q : VK} {st : Bool}
/-- over a list -/
theorem gen_list (Pv : Nat → Hp → Prop) (h0 : ∀ H2, GxR.Tabbed P H1 H2 → Pv 0 H2) (hl : ∀ i H, i ≤ xs.length → Pv i H → SqL K H a xs)
    (hs : ∀ i x H, xs[i]? = some x → Pv i H → g x σg H fun σ2 H2 => te σ2 H2 fun v H3 => ∃ b, v = V.bl b ∧ if b = st then Q (.bl st) H3 else Pv (i + 1) H3) (hd : ∀ H, Pv xs.length H → Q (.bl (!st)) H) :
    ∀ H2, GxR.Tabbed P H1 H2 → ∃ W : Nat → Nat → Hp → Prop, (∃ m, W 0 m H2) ∧ ∀ i m H, W i m H → ((Itl K a).stop i H ∧ Q (.bl (!st)) H) ∨ ((Itl K a).go i H ∧ ∃ N : Hp → Prop, (∀ H', N H' → ∃ m', m' < m ∧ W (i + 1) m' H') ∧
      ∀ x H', (Itl K a).yld i H x H' → g x σg H' fun σ2 H2 => te σ2 H2 fun v H3 => ∃ b, v = V.bl b ∧ if b = st then Q (.bl st) H3 else N H3) := by
  intro H2 tb
  refine ⟨fun i m H => m = xs.length - i ∧ i ≤ xs.length ∧ Pv i H, ⟨xs.length, by simp, Nat.zero_le _, h0 H2 tb⟩, ?_⟩
  rintro i m H ⟨rfl, hi, p⟩
  have q := hl i H hi p
  by_cases hlt : i < xs.length
  · refine .inr ⟨⟨xs, xs[i], q, List.getElem?_eq_getElem hlt⟩, Pv (i + 1), fun H' p' => ⟨xs.length - (i + 1), by omega, rfl, hlt, p'⟩, fun x H' y => ?_⟩
    obtain ⟨rfl, y⟩ := y
    exact hs i x H' (y xs q) p
  · obtain rfl : i = xs.length := by omega
    exact .inl ⟨⟨xs, q, Nat.le_refl _⟩, hd H p⟩
/-- over a tuple -/
theorem gen_listQ {QF QT : Hp → Prop} (Pv : Nat → Hp → Prop) (h0 : ∀ H2, GxR.Tabbed P H1 H2 → Pv 0 H2) (hl : ∀ i H, i ≤ xs.length → Pv i H → SqL K H a xs)
    (hs : ∀ i x H, xs[i]? = some x → Pv i H → g x σg H fun σ2 H2 => te σ2 H2 fun v H3 => ∃ b, v = V.bl b ∧ if b = st then QF H3 else Pv (i + 1) H3) (hd : ∀ H, Pv xs.length H → QT H) :
    ∀ H2, GxR.Tabbed P H1 H2 → ∃ W : Nat → Nat → Hp → Prop, (∃ m, W 0 m H2) ∧ ∀ i m H, W i m H → ((Itl K a).stop i H ∧ QT H) ∨ ((Itl K a).go i H ∧ ∃ N : Hp → Prop, (∀ H', N H' → ∃ m', m' < m ∧ W (i + 1) m' H') ∧
      ∀ x H', (Itl K a).yld i H x H' → g x σg H' fun σ2 H2 => te σ2 H2 fun v H3 => ∃ b, v = V.bl b ∧ if b = st then QF H3 else N H3) := by
  intro H2 tb
  refine ⟨fun i m H => m = xs.length - i ∧ i ≤ xs.length ∧ Pv i H, ⟨xs.length, by simp, Nat.zero_le _, h0 H2 tb⟩, ?_⟩
  rintro i m H ⟨rfl, hi, p⟩
  have q := hl i H hi p
  by_cases hlt : i < xs.length
  · refine .inr ⟨⟨xs, xs[i], q, List.getElem?_eq_getElem hlt⟩, Pv (i + 1), fun H' p' => ⟨xs.length - (i + 1), by omega, rfl, hlt, p'⟩, fun x H' y => ?_⟩
    obtain ⟨rfl, y⟩ := y
    exact hs i x H' (y xs q) p
  · obtain rfl : i = xs.length := by omega
    exact .inl ⟨⟨xs, q, Nat.le_refl _⟩, hd H p⟩
/-- over a tuple -/
theorem gen_tup (Pv : Nat → Hp → Prop) (h0 : ∀ H2, GxR.Tabbed P H1 H2 → Pv 0 H2) (hl : ∀ i H, i ≤ xs.length → Pv i H → SqT K H a xs)
    (hs : ∀ i x H, xs[i]? = some x → Pv i H → g x σg H fun σ2 H2 => te σ2 H2 fun v H3 => ∃ b, v = V.bl b ∧ if b = st then Q (.bl st) H3 else Pv (i + 1) H3) (hd : ∀ H, Pv xs.length H → Q (.bl (!st)) H) :
    ∀ H2, GxR.Tabbed P H1 H2 → ∃ W : Nat → Nat → Hp → Prop, (∃ m, W 0 m H2) ∧ ∀ i m H, W i m H → ((Itt K a).stop i H ∧ Q (.bl (!st)) H) ∨ ((Itt K a).go i H ∧ ∃ N : Hp → Prop, (∀ H', N H' → ∃ m', m' < m ∧ W (i + 1) m' H') ∧
      ∀ x H', (Itt K a).yld i H x H' → g x σg H' fun σ2 H2 => te σ2 H2 fun v H3 => ∃ b, v = V.bl b ∧ if b = st then Q (.bl st) H3 else N H3) := by
  intro H2 tb
  refine ⟨fun i m H => m = xs.length - i ∧ i ≤ xs.length ∧ Pv i H, ⟨xs.length, by simp, Nat.zero_le _, h0 H2 tb⟩, ?_⟩
  rintro i m H ⟨rfl, hi, p⟩
  have q := hl i H hi p
  by_cases hlt : i < xs.length
  · refine .inr ⟨⟨xs, xs[i], q, List.getElem?_eq_getElem hlt⟩, Pv (i + 1), fun H' p' => ⟨xs.length - (i + 1), by omega, rfl, hlt, p'⟩, fun x H' y => ?_⟩
    obtain ⟨rfl, y⟩ := y
    exact hs i x H' (y xs q) p
  · obtain rfl : i = xs.length := by omega
    exact .inl ⟨⟨xs, q, Nat.le_refl _⟩, hd H p⟩
end
end GX

/-! ### sum of a generator expression -/
namespace GX
open PySem PySem.Spec PyProof.Rows L2 Cm
open Sem (wp)
theorem hu_rm {k : Nat} {A : Around} (hr : Room k A) : A.units + 64 < cLine := by
  have := hr.un
  omega
/-- the total stands in the list at SA -/
def TotAt (SA : Addr) (a : Int) (s : Shared) : Prop := ∃ (t : Tok) (c : Nat), s.heap.get? SA = some { cls := .type "list", dict := none, data := .seq #[.int a t] c, slots := #[] }
theorem TotAt.one {SA : Addr} {a b : Int} {s : Shared} (h : TotAt SA a s) (h2 : TotAt SA b s) : a = b := by
  obtain ⟨t, c, e⟩ := h
  obtain ⟨t2, c2, e2⟩ := h2
  rw [e] at e2
  injection e2 with e2
  injection e2 with _ _ e2 _
  injection e2 with e2 _
  have e3 := congrArg (fun (x : Array Value) => x[0]?) e2
  simp at e3
  exact e3.1
theorem TotAt.at {SA : Addr} {a : Int} {s s' : Shared} (h : TotAt SA a s) (e : s'.heap.get? SA = s.heap.get? SA) : TotAt SA a s' := by
  obtain ⟨t, c, q⟩ := h
  exact ⟨t, c, e.trans q⟩
section
variable {X : Cx} {pins : List (Addr × Obj)} {σ : L2.St} {H4 : Hp} {s4 : Shared} {scope : Scope} {own : List (Str × Nat)} {ext : List Str} {tg elt iter : Expr} {code : Value} {fp sx : List Addr} {J : It} {it : Addr} {tn : Nat → Heap → Prop} {pos : Pos}
def gYS (X : Cx) (fp sx : List Addr) (s4 : Shared) (H4 : Hp) (tn : Nat → Heap → Prop) (SA : Addr) (W : Nat → Nat → Int → Hp → Prop) (Yd : Nat → Nat → Int → V → Hp → Prop) : Protocol := fun n s0 v s kap =>
  ∃ (y : V) (i m : Nat) (a : Int) (H : Hp), TotAt SA a s0 ∧ RelV y v ∧ Yd i m a y H ∧ CO X fp sx s4 H4 H s ∧ tn (i + 1) s.heap ∧ (∀ b ∈ sx, s.heap.get? b = s0.heap.get? b) ∧ m ≤ n ∧ ∀ m' a' s', m' < m → W (i + 1) m' a' H → TotAt SA a' s' → Kp sx s s' → kap (.send .none) s'
def gES (X : Cx) (fp sx : List Addr) (s4 : Shared) (H4 : Hp) (SA : Addr) (Dn : Int → Hp → Prop) : Nat → Shared → Shared → Prop := fun _ s0 s => ∃ a H, TotAt SA a s0 ∧ Dn a H ∧ CO X fp sx s4 H4 H s ∧ ∀ b ∈ sx, s.heap.get? b = s0.heap.get? b
theorem seg_loopS {Ag : Around} {SA : Addr} (S : GSt X pins σ scope own ext tg code H4 s4 J fp it tn) (hfr : Ag.frames = some X.stack) (hh : Ag.handled = none) {g : TG} {te : TE}
    (hg : PG (gCx X scope code fp s4 H4 (Ag.over (gLoop X tg elt iter scope pos it s4 code) []) ext) tg g) (he : PE (gCx X scope code fp s4 H4 (Ag.over (gLoop X tg elt iter scope pos it s4 code) []) ext) elt te)
    (W : Nat → Nat → Int → Hp → Prop) (Dn : Int → Hp → Prop) (Yd : Nat → Nat → Int → V → Hp → Prop)
    (turn : ∀ i m a H, W i m a H → (J.stop i H ∧ Dn a H) ∨ (J.go i H ∧ ∃ Yn : V → Hp → Prop, (∀ v H3, Yn v H3 → Yd i m a v H3) ∧ ∀ x H', J.yld i H x H' → g x (gS σ own ext) H' fun σ2 H2 => te σ2 H2 Yn)) :
    ∀ n i m a H s, m < n → W i m a H → TotAt SA a s → CO X fp sx s4 H4 H s → tn i s.heap →
      Seg (model X.prog X.w) Ag (fun n s0 r s1 => r = .ok .next ∧ gES X fp sx s4 H4 SA Dn n s0 s1) (gYS X fp sx s4 H4 tn SA W Yd) n s (gLoop X tg elt iter scope pos it s4 code) ((model X.prog X.w).den (gLoop X tg elt iter scope pos it s4 code)) [] s := by
  have hB : (Ag.over (gLoop X tg elt iter scope pos it s4 code) []).frames = some (gEnv X scope s4.heap.objs.size code :: X.stack) := by
    show pushEnvs [gEnv X scope s4.heap.objs.size code] (pushEnvs [] Ag.frames) = _
    rw [hfr]
    rfl
  have hBh : (Ag.over (gLoop X tg elt iter scope pos it s4 code) []).handled = none := hh
  intro n
  induction n with
  | zero => exact fun i m a H s hm => absurd hm (Nat.not_lt_zero _)
  | succ n ih =>
    intro i m a H s hm w0 a0 h0 t0
    have I0 := CO.inv S h0 hB hBh
    have ff : ∀ {H' : Hp}, (∀ b ∈ fp, H' b = none) → ∀ b ∈ fp, FpOk (gCx X scope code fp s4 H4 (Ag.over (gLoop X tg elt iter scope pos it s4 code) []) ext) (pinsAt sx s.heap) H' b := fun hn b hb => by
      refine ⟨hn b hb, Nat.ne_of_lt (S.lt b hb), I0.ok.exfs b hb, .inl hb, (I0.ok.exf b hb).2, fun p hp z => ?_⟩
      have q := (of_pinsAt (show p ∈ pinsAt sx s.heap by simpa [gCx] using hp)).1
      exact (h0.sx p.1 q).2.2.2.2.1 (z ▸ hb)
    show Seg _ Ag _ _ _ s _ ((compTurn (.GeneratorExp elt [⟨tg, iter, [], 0⟩] scope pos) 0 (.ref it) .none (gEnv X scope s4.heap.objs.size code)).onRaise (leaving (gEnv X scope s4.heap.objs.size code))) [] s
    rw [compTurn_gen, Sem.onRaise_eq_wrap]
    refine seg_bind_wrap (wpAny_standAt ?_)
    rcases turn i m a H w0 with ⟨stop, dn⟩ | ⟨go, Yn, hYn, step⟩
    · refine seg_bind_wrap (wpAny_mono (S.turn.done (gCx X scope code fp s4 H4 (Ag.over (gLoop X tg elt iter scope pos it s4 code) []) ext) rfl rfl rfl rfl i _ s _ H (fun _ _ => False) I0 (ff h0.fr) t0 stop) (fun r s1 hr => ?_) fun _ _ z => False.elim z)
      obtain ⟨rfl, I1⟩ := hr
      obtain ⟨c1, x1⟩ := h0.of_inv I1 h0.fr
      exact seg_end (.ok .next) ⟨rfl, a, H, a0, dn, c1, x1⟩
    · refine seg_bind_wrap (wpAny_mono (S.turn.item (gCx X scope code fp s4 H4 (Ag.over (gLoop X tg elt iter scope pos it s4 code) []) ext) rfl rfl rfl rfl i _ s _ H (fun _ _ => False) I0 (ff h0.fr) t0 go) (fun r s1 hr => ?_) fun _ _ z => False.elim z)
      obtain ⟨u, rfl, h1⟩ := hr
      refine seg_bind_wrap (wpAny_mono h1 (fun _ s2 h2 => ?_) fun _ _ z => False.elim z)
      obtain ⟨x, H2, I2, rx, y2, t2, f2⟩ := h2
      have I2p := I2.pinned (ff f2) (S.turn.obj _ _ t2)
      refine seg_bind_wrap (wpAny_mono (hg.run _ s2 _ H2 x u _ I2p rx (step x H2 y2)) (fun _ s3 h3 => ?_) fun _ _ z => False.elim z)
      obtain ⟨σ3, H3, I3, q3⟩ := h3
      simp only [List.forIn_nil]
      refine seg_bind_wrap (wpAny_pure ?_)
      simp only [if_true]
      have hy : ∀ v, yieldOut (gEnv X scope s4.heap.objs.size code) v = yieldValue v := fun v => by
        have q : (gEnv X scope s4.heap.objs.size code).scope.isCoroutine = false := S.ok.co
        simp only [yieldOut, q, Bool.false_eq_true, if_false]
      simp only [hy]
      rw [Sem.bind_eq_wrap', Sem.bind_eq_wrap', Sem.wrap_wrap, Sem.wrap_wrap]
      refine seg_wrap (wpAny_mono (he.run _ s3 σ3 H3 _ I3 q3) (fun v s5 h5 => ?_) fun _ _ z => False.elim z)
      obtain ⟨y, H5, I5, ry, q5⟩ := h5
      have pf : ∀ b ∈ fp, ∀ o, s2.heap.get? b = some o → s5.heap.get? b = some o ∧ H5 b = none := fun b hb o e => by
        have z := I5.pin (b, o) (List.mem_append_right _ (List.mem_append_right _ (mem_pinsAt hb e)))
        exact ⟨z.1, z.2.1⟩
      have f5 : ∀ b ∈ fp, H5 b = none := fun b hb => by
        obtain ⟨o, e, _⟩ := S.turn.obj _ _ t2 b hb
        exact (pf b hb o e).2
      have t5 : tn (i + 1) s5.heap := S.turn.keep _ _ _ t2 fun b hb o e => (pf b hb o e).1
      obtain ⟨c5, x5⟩ := h0.of_inv I5.unpinned f5
      refine seg_at (seg_yield rfl rfl rfl ⟨y, i, m, a, H5, a0, ry, hYn _ _ q5, c5, t5, x5, Nat.lt_succ_iff.mp hm, fun m' a' s' hm' w' at' kp => ?_⟩)
      refine seg_again rfl (ih (i + 1) m' a' H5 s' (Nat.lt_of_lt_of_le hm' (Nat.lt_succ_iff.mp hm)) w' at' (c5.kp kp) (S.turn.keep _ _ _ t5 fun b hb o e => kp.keep b o (fun z => (c5.sx b z).2.2.2.2.1 hb) e))
/-- the generator at ga, asleep, the total a at SA -/
structure GAS (X : Cx) (fp sx : List Addr) (s4 : Shared) (H4 : Hp) (tn : Nat → Heap → Prop) (SA : Addr) (W : Nat → Nat → Int → Hp → Prop) (Dn : Int → Hp → Prop) (Yd : Nat → Nat → Int → V → Hp → Prop) (Ag : Around) (a : Int) (ga : Addr) (gi n : Nat) (s : Shared) : Prop where
  gen : s.heap.IsGen ga gi
  mem : ga ∈ sx
  mem2 : SA ∈ sx
  ne : ga ≠ SA
  co : ∃ H, CO X fp sx s4 H4 H s
  goes : ∃ gs, s.gens[gi]? = some gs ∧ ∀ s', TotAt SA a s' → Kp sx s s' → gs.Goes (model X.prog X.w) Ag (fun n s0 r s1 => r = .ok .next ∧ gES X fp sx s4 H4 SA Dn n s0 s1) (gYS X fp sx s4 H4 tn SA W Yd) n (.send .none) s'
theorem Kp.trans {s s' s'' : Shared} (a : Kp sx s s') (b : Kp sx s' s'') : Kp sx s s'' := ⟨b.os.trans a.os, b.bare, fun c o n e => b.keep c o n (a.keep c o n e), b.own⟩
theorem gen_nextS {Ap : Around} {SA : Addr} {a : Int} {W : Nat → Nat → Int → Hp → Prop} {Dn : Int → Hp → Prop} {Yd : Nat → Nat → Int → V → Hp → Prop} {ga : Addr} {gi n : Nat} {s : Shared} {E : Value → Shared → Prop} (S : GSt X pins σ scope own ext tg code H4 s4 J fp it tn) (hh : Ap.handled = none) (hd : Ap.depth < recursionLimit)
    (ha : TotAt SA a s) (h : GAS X fp sx s4 H4 tn SA W Dn Yd Ap.in1 a ga gi (n + 1) s) :
    wpAny (model X.prog X.w) Ap (pyNext (.ref ga)) (fun r s1 => (r = none ∧ ∃ H, Dn a H ∧ CO X fp sx s4 H4 H s1 ∧ TotAt SA a s1) ∨
      ∃ v y i m H, r = some v ∧ RelV y v ∧ Yd i m a y H ∧ CO X fp sx s4 H4 H s1 ∧ TotAt SA a s1 ∧ m ≤ n ∧ ∀ m' a' s', m' < m → W (i + 1) m' a' H → Kp sx s1 s' → s'.gens = s1.gens → s'.heap.get? ga = s1.heap.get? ga → GAS X fp sx s4 H4 tn SA W Dn Yd Ap.in1 a' ga gi n s') E s := by
  obtain ⟨hg, hm, hm2, hne, ⟨H0, c0⟩, gs, hgs, hgo⟩ := h
  have hlt : gi + 1 ≤ s.gens.size := by
    by_cases q : gi < s.gens.size
    · exact q
    · rw [Array.getElem?_eq_none (Nat.le_of_not_lt q)] at hgs
      cases hgs
  refine GenW.wpAny_gsz hlt (wpAny_pyNext_genexpQ (P := gES X fp sx s4 H4 SA Dn) hh (lim_of S c0) hd hg hgs (hgo _ ha ⟨rfl, AllBare.set c0.bare rfl, fun _ _ _ e => e, fun b hb => (c0.sx b hb).1⟩) (fun v s1 gs' hb hy hsz => ?_) (fun s1 he h' hk _ => ?_))
  · obtain ⟨y, i, m, a1, H, at1, ry, yd, c1, t1, x1, hmn, hka⟩ := hy
    obtain rfl : a1 = a := at1.one ha
    have c2 : CO X fp sx s4 H4 H (s1.setGen gi gs') := c1.any rfl (AllBare.set c1.bare hb) fun _ _ e => e
    have at2 : TotAt SA a1 (s1.setGen gi gs') := ha.at (x1 SA hm2)
    refine .inr ⟨v, y, i, m, H, rfl, ry, yd, c2, at2, hmn, fun m' a' s' hm' w' kp hgens hga => ⟨?_, hm, hm2, hne, ⟨H, c2.kp kp⟩, gs', ?_, fun s'' ta kp2 => ?_⟩⟩
    · obtain ⟨o, nm, qn, ho, r⟩ := hg
      exact ⟨o, nm, qn, hga.trans ((x1 ga hm).trans ho), r⟩
    · have hsz2 : gi < s1.gens.size := by
        have q : (s1.setGen gi gs').gens.size = s1.gens.size := GenW.setGen_size _ _ _
        rw [q] at hsz
        exact hsz
      rw [hgens]
      simp [Shared.setGen, hsz2]
    · have kk := kp.trans kp2
      exact hka m' a' s'' hm' w' ta ⟨kk.os, kk.bare, kk.keep, kk.own⟩
  · obtain ⟨a1, H, at1, dn, c1, x1⟩ := he
    obtain rfl : a1 = a := at1.one ha
    have c2 : CO X fp sx s4 H4 H { s1.setGen gi .finished with heap := h' } := c1.any rfl (AllBare.set c1.bare rfl) hk
    refine .inl ⟨rfl, H, dn, c2, ?_⟩
    obtain ⟨t, c, e⟩ := ha
    exact ⟨t, c, hk _ _ ((x1 SA hm2).trans e)⟩
theorem kp_upd {SA : Addr} {s : Shared} {o : Obj} {f : Obj → Obj} {t : Tok} {H : Hp} (c : CO X fp sx s4 H4 H s) (hm : SA ∈ sx) (hS : s.heap.get? SA = some o) (hf : s.heap.update SA f = s.heap.update SA f) (hd : ∃ o', (s.heap.update SA f).get? SA = some o' ∧ ∀ v, o'.data ≠ .cell v) :
    Kp sx s { s with heap := s.heap.update SA f, toks := t } := by
  refine ⟨rfl, c.bare, fun b o' n e => (Heap.get?_update_other _ _ (fun h : SA = b => n (h ▸ hm))).trans e, fun b hb => ?_⟩
  by_cases q : SA = b
  · subst q
    exact hd
  · obtain ⟨⟨o', e, d⟩, _⟩ := c.sx b hb
    exact ⟨o', (Heap.get?_update_other _ _ q).trans e, d⟩
theorem sum_walk {W : Nat → Nat → Int → Hp → Prop} {QD : Int → Hp → Prop} {SA ga : Addr} {gi : Nat} {R : Result → Shared → Prop} (S : GSt X pins σ scope own ext tg code H4 s4 J fp it tn) (hh : X.A.handled = none) (hd : X.A.depth < recursionLimit)
    (hR : ∀ (a : Int) (t : Tok) (H : Hp) (s' : Shared), QD a H → CO X fp sx s4 H4 H s' → R (.ok (.ret (.int a t))) s') :
    ∀ (n : Nat) (s : Shared) (a : Int) (st : Int), (st = 0 ∨ st = 2) → TotAt SA a s → GAS X fp sx s4 H4 tn SA W QD (fun i m a y H => ∃ b, y = V.int b ∧ ∃ m', m' < m ∧ W (i + 1) m' (a + b) H) X.A.in1.in1 a ga gi (n + 1) s →
      codeAny (model X.prog X.w) X.A (.builtin "sum.loop" ⟨[.ref ga, .ref SA, rawInt st, rawInt 0], []⟩) R s := by
  intro n
  induction n with
  | zero =>
    intro s a st hst hat h
    obtain ⟨tA, c0, hS⟩ := id hat
    refine codeAny_builtin F.entry_sum_loop ?_
    rw [Around.under_plainId F.plain_sum_loop _]
    show wpAny _ X.A.in1 (seqItems? (.ref SA) >>= _) _ _ s
    refine wpAny_bind (wpAny_seqItems hS rfl ?_)
    show wpAny _ X.A.in1 (tryCatch (pyNext (.ref ga)) _ >>= _) _ _ s
    refine wpAny_bind (wpAny_tryCatch (wpAny_mono (gen_nextS (E := fun _ _ => False) S hh hd hat h) (fun r s1 hr => ?_) fun _ _ z => False.elim z))
    rcases hr with ⟨rfl, H, dn, c1, _⟩ | ⟨v, y, i, m, H, rfl, ry, ⟨b, rfl, m', hm', w'⟩, c1, at1, hm, more⟩
    · exact wpAny_pure (hR a tA H s1 dn c1)
    · omega
  | succ n ih =>
    intro s a st hst hat h
    have gmem := h.mem2
    have gne := h.ne
    obtain ⟨tA, c0, hS⟩ := id hat
    refine codeAny_builtin F.entry_sum_loop ?_
    rw [Around.under_plainId F.plain_sum_loop _]
    show wpAny _ X.A.in1 (seqItems? (.ref SA) >>= _) _ _ s
    refine wpAny_bind (wpAny_seqItems hS rfl ?_)
    show wpAny _ X.A.in1 (tryCatch (pyNext (.ref ga)) _ >>= _) _ _ s
    refine wpAny_bind (wpAny_tryCatch (wpAny_mono (gen_nextS (E := fun _ _ => False) S hh hd hat h) (fun r s' hr => ?_) fun _ _ z => False.elim z))
    rcases hr with ⟨rfl, H, dn, c1, _⟩ | ⟨v, y, i, m, H, rfl, ry, ⟨b, rfl, m', hm', w'⟩, c1, at1, hm, more⟩
    · exact wpAny_pure (hR a tA H s' dn c1)
    obtain ⟨t, rfl⟩ : ∃ t, v = Value.int b t := ry
    obtain ⟨tB, c1', hS'⟩ := id at1
    have go : ∀ (s'' : Shared) (st' : Int), (st' = 0 ∨ st' = 2) → TotAt SA (a + b) s'' → Kp sx s' s'' → s''.gens = s'.gens → s''.heap.get? ga = s'.heap.get? ga → codeAny (model X.prog X.w) X.A (.builtin "sum.loop" ⟨[.ref ga, .ref SA, rawInt st', rawInt 0], []⟩) R s'' :=
      fun s'' st' h1 h2 h3 h4 h5 => ih s'' (a + b) st' h1 h2 (more m' (a + b) s'' hm' w' h3 h4 h5)
    rcases hst with rfl | rfl
    · show wpAny _ X.A.in1 (if (_ : Bool) = true then (mkInt (a + b) >>= _) else _) _ _ _
      split
      · refine wpAny_bind (wpAny_mkInt ?_)
        show wpAny _ X.A.in1 (updateSeq SA (fun _ => #[.int (a + b) s'.toks]) >>= _) _ _ _
        refine wpAny_bind ?_
        refine wpAny_updateSeq hS' rfl (wpAny_pure ⟨plainId_quiet F.plain_sum_loop _, go _ 0 (.inl rfl) ⟨_, _, Heap.get?_update_self _ hS' rfl⟩ (kp_upd c1 gmem hS' rfl ⟨_, Heap.get?_update_self _ hS' rfl, fun v z => by cases z⟩) rfl (Heap.get?_update_other _ _ gne.symm)⟩)
      · refine wpAny_bind (wpAny_rule ?_)
        refine wpAny_bind (wpAny_attempt (wpAny_holding (wpAny_add_int ?_)))
        show wpAny _ X.A.in1 (updateSeq SA (fun _ => #[.int (a + b) s'.toks]) >>= _) _ _ _
        refine wpAny_bind (wpAny_updateSeq hS' rfl ?_)
        have hS₂ := Heap.get?_update_self (Obj.mapSeq fun _ => #[Value.int (a + b) s'.toks]) hS' rfl
        refine wpAny_bind (wpAny_letGo ?_)
        have k1 : Kp sx s' { s' with heap := s'.heap.update SA (Obj.mapSeq fun _ => #[Value.int (a + b) s'.toks]), toks := s'.toks + 1 } := kp_upd c1 gmem hS' rfl ⟨_, hS₂, fun v z => by cases z⟩
        refine wpAny_bind (wpAny_updateSeq hS₂ rfl (wpAny_pure ⟨plainId_quiet F.plain_sum_loop _, go _ 2 (.inr rfl) ⟨_, _, Heap.get?_update_self _ hS₂ rfl⟩ (k1.trans (kp_upd (c1.kp k1) gmem hS₂ rfl ⟨_, Heap.get?_update_self _ hS₂ rfl, fun v z => by cases z⟩)) rfl ((Heap.get?_update_other _ _ gne.symm).trans (Heap.get?_update_other _ _ gne.symm))⟩))
    · show wpAny _ X.A.in1 ((holding [Value.int b t] (binaryOp .Add (.int a tA) (.int b t))).attempt >>= _) _ _ _
      refine wpAny_bind (wpAny_attempt (wpAny_holding (wpAny_add_int ?_)))
      show wpAny _ X.A.in1 (updateSeq SA (fun _ => #[.int (a + b) s'.toks]) >>= _) _ _ _
      refine wpAny_bind (wpAny_updateSeq hS' rfl ?_)
      have hS₂ := Heap.get?_update_self (Obj.mapSeq fun _ => #[Value.int (a + b) s'.toks]) hS' rfl
      refine wpAny_bind (wpAny_letGo ?_)
      have k1 : Kp sx s' { s' with heap := s'.heap.update SA (Obj.mapSeq fun _ => #[Value.int (a + b) s'.toks]), toks := s'.toks + 1 } := kp_upd c1 gmem hS' rfl ⟨_, hS₂, fun v z => by cases z⟩
      refine wpAny_bind (wpAny_updateSeq hS₂ rfl (wpAny_pure ⟨plainId_quiet F.plain_sum_loop _, go _ 2 (.inr rfl) ⟨_, _, Heap.get?_update_self _ hS₂ rfl⟩ (k1.trans (kp_upd (c1.kp k1) gmem hS₂ rfl ⟨_, Heap.get?_update_self _ hS₂ rfl, fun v z => by cases z⟩)) rfl ((Heap.get?_update_other _ _ gne.symm).trans (Heap.get?_update_other _ _ gne.symm))⟩))
/-- one more object of the consumer's own -/
theorem CO.more {H : Hp} {s s' : Shared} {o : Obj} (S : GSt X pins σ scope own ext tg code H4 s4 J fp it tn) (h : CO X fp sx s4 H4 H s) (os : s'.os = s.os) (bare : AllBare s'.gens) (hk : ∀ b u, s.heap.get? b = some u → s'.heap.get? b = some u) (hS : s'.heap.get? s.heap.objs.size = some o) (hd : ∀ v, o.data ≠ .cell v) : CO X fp (s.heap.objs.size :: sx) s4 H4 H s' := by
  have c := h.any os bare hk
  obtain ⟨m, ob, es, ep, ho, r⟩ := h.ns
  have l4 : s4.heap.objs.size < s.heap.objs.size := Heap.lt_size ho
  have new : ∀ b, s.heap.objs.size ≤ b → H b = none := fun b hb => h.hok.fresh hb
  refine ⟨c.os, c.bare, c.un, c.hok, c.ns, c.free, c.fr, fun b hb => ?_⟩
  rcases List.mem_cons.mp hb with e | e
  · rw [e]
    refine ⟨⟨o, hS, hd⟩, new _ (Nat.le_refl _), Nat.ne_of_gt l4, fun z => ?_, fun z => ?_, ?_⟩
    · rcases List.mem_cons.mp (S.inv.stkSub _ z) with e | e
      · have z2 := S.inv.lt
        rw [← e] at z2
        exact absurd (Nat.lt_trans l4 z2) (Nat.lt_irrefl _)
      · exact S.inv.nofs (Nat.le_of_lt l4) e
    · exact absurd (Nat.lt_trans l4 (S.lt _ z)) (Nat.lt_irrefl _)
    · cases q : s4.heap.get? s.heap.objs.size with
      | none => rfl
      | some u => exact absurd (Nat.lt_trans l4 (Heap.lt_size q)) (Nat.lt_irrefl _)
  · exact c.sx b e
end
section
variable {X : Cx} {pins : List (Addr × Obj)} {σ : L2.St} {H : Hp} {s : Shared} {scope : Scope} {own : List (Str × Nat)} {ext : List Str} {tg elt iter : Expr} {pos p cpos : Pos} {c P : Addr} {wi : TI} {k : Nat} {g : TG} {te : TE}
/-- sum(..) of the expression over ints -/
def tSumG (P : Addr) (wi : TI) (g : TG) (te : TE) (own : List (Str × Nat)) (ext : List Str) : TE := fun σ H Q => wi σ H fun J H1 => GxR.TabG H1 P ∧ ∀ H2, GxR.Tabbed P H1 H2 → ∃ W : Nat → Nat → Int → Hp → Prop, (∃ m, W 0 m 0 H2) ∧
  ∀ i m a H, W i m a H → (J.stop i H ∧ Q (.int a) H) ∨ (J.go i H ∧ ∃ N : Int → Hp → Prop, (∀ a' H', N a' H' → ∃ m', m' < m ∧ W (i + 1) m' a' H') ∧ ∀ x H', J.yld i H x H' → g x (gS σ own ext) H' fun σ2 H2 => te σ2 H2 fun v H3 => ∃ b, v = V.int b ∧ N (a + b) H3)
theorem pe_sumG (hr : Room (k + 2) X.A) (hg : Gl X "sum") (hm : X.mg "sum" = none) (TB : GxR.TabB X.base X.mg c P) (hcode : X.env.code = .ref c) (G : GOk X.N X.env.scope scope own ext) (hi : PI X tg iter wi)
    (ht : ∀ (code : Value) (fp : List Addr) (s4 : Shared) (H4 : Hp) (B : Around), PG (gCx X scope code fp s4 H4 B ext) tg g) (he : ∀ (code : Value) (fp : List Addr) (s4 : Shared) (H4 : Hp) (B : Around), Room k B → PE (gCx X scope code fp s4 H4 B ext) elt te)
    (hb : bootBuiltins "sum" = some (.builtin "sum") := by decide +kernel)
    (hs : ∀ v, genFold iter X.env v = pure v := by intro _; rfl) (hst : starEach [.GeneratorExp elt [⟨tg, iter, [], 0⟩] scope pos] X.env = (false, eval (.GeneratorExp elt [⟨tg, iter, [], 0⟩] scope pos) X.env) :: starEach [] X.env := by rfl) :
    PE X (.Call (.Name "sum" p) [.GeneratorExp elt [⟨tg, iter, [], 0⟩] scope pos] [] cpos) (tSumG P wi g te own ext) := by
  constructor
  intro pins s σ H Q I h
  refine wpAny_Call_Name_kw (ld_blt I hg hm hb (PyProof.Rows.callWith_builtin1 ?_ hst (by rfl)))
  rw [hst]
  show wpAny _ _ (spliced ((false, eval (.GeneratorExp elt [⟨tg, iter, [], 0⟩] scope pos) X.env) :: backTo cpos (starEach [] X.env))) _ _ s
  refine Calls.spliced_cons (gen_eval hr TB hcode G hi hs I h fun J fp it tn H1 H4 s4 s5 code ga gi q htab S t5 c5 hgen hgs => Calls.spliced_nil ?_)
  obtain ⟨W, ⟨m, w0⟩, turn⟩ := q H4 htab
  have rm : Room k (X.A.in1.in1.over (gLoop X tg elt iter scope pos it s4 code) []) := room_over (room_in1 hr) rfl rfl
  refine call_function_tree F.kind_sum F.plain_sum F.entry_sum (F.args_sum1 _) ?_
  unfold Builtin.«sum»
  simp only [List.length_cons, List.length_nil]
  rw [if_neg (by decide)]
  refine wpAny_bind (wpAny_of_eq (show Builtin.Builtins.bindParams "sum" ["start"] 0 { } = pure [none] from rfl) ?_)
  refine wpAny_bind (wpAny_pyIter_gen hgen ?_)
  refine wpAny_bind (wpAny_mkInt ?_)
  refine wpAny_bind (wpAny_pure ?_)
  simp only [List.forIn_cons, List.forIn_nil]
  refine wpAny_bind (wpAny_bind (wpAny_bind (wpAny_isInstance (T := "int") (b := false) (typeIs_int _ _ _) PySem.sub_int_str ?_)))
  simp only [Bool.false_eq_true, if_false]
  refine wpAny_pure (wpAny_bind (wpAny_bind (wpAny_isInstance (T := "int") (b := false) (typeIs_int _ _ _) PySem.sub_int_bytes ?_)))
  simp only [Bool.false_eq_true, if_false]
  refine wpAny_pure (wpAny_bind (wpAny_bind (wpAny_isInstance (T := "int") (b := false) (typeIs_int _ _ _) PySem.sub_int_bytearray ?_)))
  simp only [Bool.false_eq_true, if_false]
  refine wpAny_pure (wpAny_pure ?_)
  refine wpAny_bind (wpAny_newObj_type ?_)
  have gaS : ga < s5.heap.objs.size := by
    obtain ⟨o, nm, qn, ho, _⟩ := hgen
    exact Heap.lt_size ho
  refine wpAny_pure ⟨plainId_quiet F.plain_sum_loop _, ?_⟩
  have hk : ∀ (b : Addr) (u : Obj), s5.heap.get? b = some u → (s5.heap.push { cls := .type "list", data := .seq #[.int 0 s5.toks] }).get? b = some u := fun b u e => Heap.get?_push_of_some _ e
  have hS : (s5.heap.push { cls := .type "list", data := .seq #[.int 0 s5.toks] }).get? s5.heap.objs.size = some { cls := .type "list", data := .seq #[.int 0 s5.toks] } := Heap.get?_push_size _ rfl
  have c6 := CO.more (s' := { s5 with heap := s5.heap.push { cls := .type "list", data := .seq #[.int 0 s5.toks] }, toks := s5.toks + 1 }) S c5 rfl c5.bare hk hS (fun v z => by cases z)
  have t6 : tn 0 (s5.heap.push { cls := .type "list", data := .seq #[.int 0 s5.toks] }) := S.turn.keep _ _ _ t5 fun b hb o e => hk b o e
  have hat : TotAt s5.heap.objs.size 0 { s5 with heap := s5.heap.push { cls := .type "list", data := .seq #[.int 0 s5.toks] }, toks := s5.toks + 1 } := ⟨_, _, hS⟩
  refine sum_walk (W := W) (QD := fun a H' => Q (.int a) H') S hr.hd hr.depth (fun a t H' s' hb hc => EP_of (v := .int a) S hc ⟨t, rfl⟩ hb) m _ 0 0 (.inl rfl) hat ⟨?_, List.mem_cons_of_mem _ List.mem_cons_self, List.mem_cons_self, Nat.ne_of_lt gaS, ⟨H4, c6⟩, _, hgs, fun s' ta kp => ⟨rfl, ?_⟩⟩
  · obtain ⟨o, nm, qn, ho, r⟩ := hgen
    exact ⟨o, nm, qn, hk _ _ ho, r⟩
  have t7 : tn 0 s'.heap := S.turn.keep _ _ _ t6 fun b hb o e => kp.keep b o (fun z => (c6.sx b z).2.2.2.2.1 hb) e
  refine seg_first (Ag := X.A.in1.in1) S hr.hd t7 (seg_loopS (Ag := X.A.in1.in1) S S.inv.ok.frames hr.hd (ht ..) (he _ _ _ _ _ rm) W _ _ (fun i m a H w => ?_) (m + 1) 0 m 0 H4 s' (Nat.lt_succ_self m) w0 ta (c6.kp kp) t7)
  rcases turn i m a H w with z | ⟨go, N, hN, step⟩
  · exact .inl z
  · exact .inr ⟨go, _, fun v H3 ⟨b, e, q⟩ => ⟨b, e, hN _ _ q⟩, step⟩
end
/-! ### readings over any walk -/
section
variable {J : It} {n : Nat} {G : Hp → Prop} {Y : Nat → Hp → V → Hp → Prop} {g : TG} {te : TE} {σg : L2.St} {H1 : Hp} {P : Addr} {Q : VK} {st : Bool}
/-- any, all over any walk -/
theorem gen_it (w : Walk J n G Y) (Pv : Nat → Hp → Prop) (h0 : ∀ H2, GxR.Tabbed P H1 H2 → Pv 0 H2) (hG : ∀ i H, i ≤ n → Pv i H → G H)
    (hs : ∀ i x H H', i < n → Pv i H → Y i H x H' → g x σg H' fun σ2 H2 => te σ2 H2 fun v H3 => ∃ b, v = V.bl b ∧ if b = st then Q (.bl st) H3 else Pv (i + 1) H3) (hd : ∀ H, Pv n H → Q (.bl (!st)) H) :
    ∀ H2, GxR.Tabbed P H1 H2 → ∃ W : Nat → Nat → Hp → Prop, (∃ m, W 0 m H2) ∧ ∀ i m H, W i m H → (J.stop i H ∧ Q (.bl (!st)) H) ∨ (J.go i H ∧ ∃ N : Hp → Prop, (∀ H', N H' → ∃ m', m' < m ∧ W (i + 1) m' H') ∧
      ∀ x H', J.yld i H x H' → g x σg H' fun σ2 H2 => te σ2 H2 fun v H3 => ∃ b, v = V.bl b ∧ if b = st then Q (.bl st) H3 else N H3) := by
  intro H2 tb
  refine ⟨fun i m H => m = n - i ∧ i ≤ n ∧ Pv i H, ⟨n, by simp, Nat.zero_le _, h0 H2 tb⟩, ?_⟩
  rintro i m H ⟨rfl, hi, p⟩
  have q := hG i H hi p
  by_cases hlt : i < n
  · exact .inr ⟨w.goes i H hlt q, Pv (i + 1), fun H' p' => ⟨n - (i + 1), by omega, rfl, hlt, p'⟩, fun x H' y => hs i x H H' hlt p (w.yields i H x H' hlt q y)⟩
  · obtain rfl : i = n := by omega
    exact .inl ⟨w.stops H q, hd H p⟩
/-- sum over any walk: Pv also tells the total -/
theorem sum_it (w : Walk J n G Y) (Pv : Nat → Int → Hp → Prop) (h0 : ∀ H2, GxR.Tabbed P H1 H2 → Pv 0 0 H2) (hG : ∀ i a H, i ≤ n → Pv i a H → G H)
    (hs : ∀ i a x H H', i < n → Pv i a H → Y i H x H' → g x σg H' fun σ2 H2 => te σ2 H2 fun v H3 => ∃ b, v = V.int b ∧ Pv (i + 1) (a + b) H3) (hd : ∀ a H, Pv n a H → Q (.int a) H) :
    ∀ H2, GxR.Tabbed P H1 H2 → ∃ W : Nat → Nat → Int → Hp → Prop, (∃ m, W 0 m 0 H2) ∧ ∀ i m a H, W i m a H → (J.stop i H ∧ Q (.int a) H) ∨ (J.go i H ∧ ∃ N : Int → Hp → Prop, (∀ a' H', N a' H' → ∃ m', m' < m ∧ W (i + 1) m' a' H') ∧
      ∀ x H', J.yld i H x H' → g x σg H' fun σ2 H2 => te σ2 H2 fun v H3 => ∃ b, v = V.int b ∧ N (a + b) H3) := by
  intro H2 tb
  refine ⟨fun i m a H => m = n - i ∧ i ≤ n ∧ Pv i a H, ⟨n, by simp, Nat.zero_le _, h0 H2 tb⟩, ?_⟩
  rintro i m a H ⟨rfl, hi, p⟩
  have q := hG i a H hi p
  by_cases hlt : i < n
  · exact .inr ⟨w.goes i H hlt q, Pv (i + 1), fun a' H' p' => ⟨n - (i + 1), by omega, rfl, hlt, p'⟩, fun x H' y => hs i a x H H' hlt p (w.yields i H x H' hlt q y)⟩
  · obtain rfl : i = n := by omega
    exact .inl ⟨w.stops H q, hd a H p⟩
end
end GX

/-! ### own classes: made, their properties, their methods -/
namespace CL
open PySem PySem.Spec PyProof.Rows L2 Cm
/-- the class x at C has the __init__ st -/
def DnI (K : PySem.W.Frag) (mg : Str → Option Value) (x qual : Str) (C : Addr) (st : Stmt) (ps : List Str) : Prop := ∃ (g : Addr) (fd : FuncData), Mk K C g ∧ mg x = some (.ref C) ∧ Fun K "__init__" qual st g fd ∧ Binds K fd ps []
/-- the class at C has the property f -/
def DnP (K : PySem.W.Frag) (C : Addr) (f qual : Str) (st : Stmt) (ps : List Str) : Prop := ∃ (p g : Addr) (fd : FuncData), PropOf K C f p g ∧ Fun K f qual st g fd ∧ Binds K fd ps []
/-- the class at C has the method f -/
def DnM (K : PySem.W.Frag) (C : Addr) (f qual : Str) (st : Stmt) (ps : List Str) : Prop := ∃ (g : Addr) (fd : FuncData), Meth K C f g ∧ Fun K f qual st g fd ∧ Binds K fd ps []
section
variable {K : PySem.W.Frag} {h : Heap} {mg : Str → Option Value} {x qual f : Str} {C p g : Addr} {st : Stmt} {ps : List Str} {oc kV doc pm cdv ct : Value} {od an : Option Addr} {sl : Array (Option Value)}
theorem dni_mk (X : K.In h) (G : h.Ns mainGlobals mg) (a : PySem.W.nsIn K mainGlobals x = some (some (.ref C))) (m : PySem.W.makesIn K C = true) (i : PySem.W.findIn K (.ref C) "__init__" = some (some (.ref g))) (t : PySem.W.isFn K (.ref g) = true) (kc : PySem.W.keepIn K (.ref C) = true)
    (l : K.lookup g = some ⟨oc, od, .func (PySem.W.fnOf "__init__" qual (defArgs st) (defBody st) (defScope st) .none kV doc pm an cdv ct), sl⟩) (c : PySem.W.codeIn K cdv qual = true) (k : PySem.W.keepIn K (.ref g) = true)
    (hb : ∀ (kV doc pm : Value) (an : Option Addr) (cdv ct : Value) (us : List Value), us.length = ps.length → bindArgs (PySem.W.fnOf "__init__" qual (defArgs st) (defBody st) (defScope st) .none kV doc pm an cdv ct) ⟨us, []⟩ = pure (ps.zip us)) : DnI K mg x qual C st ps :=
  ⟨g, _, ⟨m, i, t, kc⟩, PySem.W.mg_of X G a, fun_mk l c k, (fun_mk l c k).binds hb⟩
theorem dnp_mk (a : PySem.W.findIn K (.ref C) f = some (some (.ref p))) (b : PySem.W.specialIn K (.ref p) "__get__" = some (some (.builtin "property.__get__"))) (t : PySem.W.takesIn K (.ref p) = some true) {rest : List Value} (r : PySem.W.recIn K p "property" = some (.ref g :: rest))
    (l : K.lookup g = some ⟨oc, od, .func (PySem.W.fnOf f qual (defArgs st) (defBody st) (defScope st) .none kV doc pm an cdv ct), sl⟩) (c : PySem.W.codeIn K cdv qual = true) (k : PySem.W.keepIn K (.ref g) = true)
    (hb : ∀ (kV doc pm : Value) (an : Option Addr) (cdv ct : Value) (us : List Value), us.length = ps.length → bindArgs (PySem.W.fnOf f qual (defArgs st) (defBody st) (defScope st) .none kV doc pm an cdv ct) ⟨us, []⟩ = pure (ps.zip us)) : DnP K C f qual st ps :=
  ⟨p, g, _, ⟨a, b, t, _, r⟩, fun_mk l c k, (fun_mk l c k).binds hb⟩
theorem dnm_mk (a : PySem.W.findIn K (.ref C) f = some (some (.ref g))) (t : PySem.W.isFn K (.ref g) = true)
    (l : K.lookup g = some ⟨oc, od, .func (PySem.W.fnOf f qual (defArgs st) (defBody st) (defScope st) .none kV doc pm an cdv ct), sl⟩) (c : PySem.W.codeIn K cdv qual = true) (k : PySem.W.keepIn K (.ref g) = true)
    (hb : ∀ (kV doc pm : Value) (an : Option Addr) (cdv ct : Value) (us : List Value), us.length = ps.length → bindArgs (PySem.W.fnOf f qual (defArgs st) (defBody st) (defScope st) .none kV doc pm an cdv ct) ⟨us, []⟩ = pure (ps.zip us)) : DnM K C f qual st ps :=
  ⟨g, _, ⟨a, t, k⟩, fun_mk l c k, (fun_mk l c k).binds hb⟩
end
section
variable (P : Program) (w : World) (K : PySem.W.Frag) (mg : Str → Option Value) (base : Heap) (CX : CXT) (k : Nat)
def OkI (x : Str) (C : Addr) (ps : List Str) (sp : Sp) : Prop := ∃ (g : Addr) (fd : FuncData), FnOk P w K mg base CX k g fd ps sp ∧ Mk K C g ∧ mg x = some (.ref C) ∧ Binds K fd ps []
def OkP (C : Addr) (f : Str) (ps : List Str) (sp : Sp) : Prop := ∃ (p g : Addr) (fd : FuncData), FnOk P w K mg base CX k g fd ps sp ∧ PropOf K C f p g ∧ Binds K fd ps []
def OkM (C : Addr) (f : Str) (ps : List Str) (sp : Sp) : Prop := ∃ (g : Addr) (fd : FuncData), FnOk P w K mg base CX k g fd ps sp ∧ Meth K C f g ∧ Binds K fd ps []
end
section
variable {P : Program} {w : World} {K : PySem.W.Frag} {mg : Str → Option Value} {base : Heap} {CX : CXT} {k : Nat} {x f qual : Str} {C : Addr} {st : Stmt} {ps : List Str} {sp : Sp}
theorem oki_of (d : DnI K mg x qual C st ps) (h : ∀ g fd, Fun K "__init__" qual st g fd → FnOk P w K mg base CX k g fd ps sp) : OkI P w K mg base CX k x C ps sp := by
  obtain ⟨g, fd, M, hm, F, b⟩ := d
  exact ⟨g, fd, h g fd F, M, hm, b⟩
theorem okp_of (d : DnP K C f qual st ps) (h : ∀ g fd, Fun K f qual st g fd → FnOk P w K mg base CX k g fd ps sp) : OkP P w K mg base CX k C f ps sp := by
  obtain ⟨p, g, fd, hp, F, b⟩ := d
  exact ⟨p, g, fd, h g fd F, hp, b⟩
theorem okm_of (d : DnM K C f qual st ps) (h : ∀ g fd, Fun K f qual st g fd → FnOk P w K mg base CX k g fd ps sp) : OkM P w K mg base CX k C f ps sp := by
  obtain ⟨g, fd, hp, F, b⟩ := d
  exact ⟨g, fd, h g fd F, hp, b⟩
end
section
variable {X : Cx} {CX : CXT} {k : Nat} {C : Addr} {ps : List Str} {sp : Sp} {E : XK} {Es : L2.St → XK} {x f : Str} {p pos apos : Pos} {e : Expr} {es : List Expr} {ta : TE} {t : TA}
/-- e.f, a property -/
theorem pe_propO (he : PE X e ta) (c : Cls X.K C) (G : OkP X.prog X.w X.K X.mg X.base CX k C f ps sp) (hr : Room (k + 1) X.A) (hx : Passes CX X.nox E) (hab : attributeBase e f X.env (eval e X.env) = eval e X.env := by rfl) :
    PE X (.Attribute e f pos) (tProp C sp [] E ta) := by
  obtain ⟨p, g, fd, F, hp, b⟩ := G
  exact pe_prop he c hp F hr b .nil hx hab
/-- C(e, ..) -/
theorem pe_makeO (G : OkI X.prog X.w X.K X.mg X.base CX k x C ps sp) (hr : Room (k + 1) X.A) (hx : Passes CX X E) (ha : PA X (e :: es) t) (hg : Gl X x := by rfl)
    (hdb : (x == ("__debug__" : Str)) = false := by decide) (he : starEach (e :: es) X.env = (false, eval e X.env) :: starEach es X.env := by rfl) (hpl : (backTo pos (starEach es X.env)).any (·.1) = false := by rfl) :
    PE X (.Call (.Name x p) (e :: es) [] pos) (tMake C sp [] E t) := by
  obtain ⟨g, fd, F, M, hm, b⟩ := G
  exact pe_make M F hr hg hm b .nil hx ha hdb he hpl
/-- C(e, ..) where what it raises is wished for at the slots -/
def tMakeT (C : Addr) (sp : Sp) (Es : L2.St → XK) (t : TA) : TE := fun σ H Q => t σ H fun vs Hm => ∀ o d, Hm o = none → Hm d = none → d ≠ o →
  sp (.ref o :: vs) (upd (upd Hm d (.own o)) o (.ins C d [])) (fun v He => v = .non ∧ Q (.ref o) He) (Es σ)
theorem make_at {pins : List (Addr × Obj)} {σ : L2.St} {Hm : Hp} {sm : Shared} {Q : VK} {us : List Value} {vs : List V} {g : Addr} {fd : FuncData} (M : Mk X.K C g) (F : FnOk X.prog X.w X.K X.mg X.base CX k g fd ps sp) (hr : Room (k + 1) X.A) (hb : Binds X.K fd ps [])
    (px : PassesAt CX X σ (Es σ)) (J : Inv X pins σ Hm sm) (r : Vals vs us)
    (want : ∀ o d, Hm o = none → Hm d = none → d ≠ o → sp (.ref o :: vs) (upd (upd Hm d (.own o)) o (.ins C d [])) (fun v He => v = .non ∧ Q (.ref o) He) (Es σ)) :
    wpAny (model X.prog X.w) X.A (call (.ref C) us) (EP X pins σ Q) X.xe sm := by
  have n0 := J.hok.fresh (Nat.le_refl sm.heap.objs.size)
  have n1 := J.hok.fresh (Nat.le_succ sm.heap.objs.size)
  have wh := want _ _ n1 n0 (Nat.ne_of_lt (Nat.lt_succ_self _))
  have Jm := Inv.made (C := C) J
  have rr : Vals (V.ref (sm.heap.objs.size + 1) :: vs) (Value.ref (sm.heap.objs.size + 1) :: us) := .cons rfl r
  have len : (Value.ref (sm.heap.objs.size + 1) :: us).length = ps.length := by rw [← rr.length]; exact F.len _ _ _ _ wh
  have bd := hb _ (Value.ref (sm.heap.objs.size + 1) :: us) Jm.kIn (by rw [List.append_nil]; exact len)
  rw [List.append_nil] at bd
  have go := F.run _ X.stack _ _ ⟨Value.ref (sm.heap.objs.size + 1) :: us, []⟩ _ _ _ (Es σ) (hr.make C us []) (Jm.env0.make C us []) bd rr wh
  refine wpAny_call (make_map (f := g) J.kIn M.makes M.init (beq_iff_eq.mp M.fn) (codeAny_mono go fun res se got => ?_))
  match res, got with
  | .error er, got => exact px pins _ _ er se Jm got
  | .ok (.ret u), got =>
    obtain ⟨v, He, Je, rv, ev, qe⟩ := Jm.after got
    cases ev
    exact ⟨rv, ⟨V.ref (sm.heap.objs.size + 1), He, Je, rfl, qe⟩⟩
  | .ok .next, got => exact got.elim
  | .ok .brk, got => exact got.elim
  | .ok .cont, got => exact got.elim
theorem pe_makeT (G : OkI X.prog X.w X.K X.mg X.base CX k x C ps sp) (hr : Room (k + 1) X.A) (px : ∀ σ, PassesAt CX X σ (Es σ)) (ha : PA X (e :: es) t) (hg : Gl X x := by rfl)
    (hdb : (x == ("__debug__" : Str)) = false := by decide) (he : starEach (e :: es) X.env = (false, eval e X.env) :: starEach es X.env := by rfl) (hpl : (backTo pos (starEach es X.env)).any (·.1) = false := by rfl) :
    PE X (.Call (.Name x p) (e :: es) [] pos) (tMakeT C sp Es t) := by
  obtain ⟨g, fd, F, M, hm, b⟩ := G
  constructor
  intro pins sm σ Hm Q J want
  refine wpAny_Call_Name_kw (ld_glob J hg hm ?_ hdb)
  refine PySem.W.callWith_K (h₀ := X.base) J.ok.mod.kin M.kp ?_ he hpl
  refine thn (ha.run pos pins sm σ Hm _ J want) fun us sn ⟨vs, Hn, Jn, r, wn⟩ => ?_
  exact ⟨Jn.kIn, make_at M F hr b (px σ) Jn r wn⟩
end
end CL

namespace My
open PySem PySem.Spec PyProof.Rows L2 Cm 
def top (i : Nat) : Stmt := PySem.Challenge.pw_scanpages_k67_plans.main.body.getD i (.Pass ⟨0, 0, 0, 0⟩)
abbrev s_Format___init__ : Stmt := (inClass (top 12) 0)
abbrev N_Format___init__ : List Str := ["self", "side", "checks"]
theorem sc_Format___init__ : FnScope N_Format___init__ ["self", "side", "checks"] (defScope s_Format___init__) := ⟨rfl, rfl, rfl, by decide +kernel, rfl, by decide +kernel, by decide +kernel⟩
abbrev s_Format_data_symbols : Stmt := (inClass (top 12) 1)
abbrev N_Format_data_symbols : List Str := ["self"]
theorem sc_Format_data_symbols : FnScope N_Format_data_symbols ["self"] (defScope s_Format_data_symbols) := ⟨rfl, rfl, rfl, by decide +kernel, rfl, by decide +kernel, by decide +kernel⟩
abbrev s_Format_codewords : Stmt := (inClass (top 12) 2)
abbrev N_Format_codewords : List Str := ["self", "width"]
theorem sc_Format_codewords : FnScope N_Format_codewords ["self"] (defScope s_Format_codewords) := ⟨rfl, rfl, rfl, by decide +kernel, rfl, by decide +kernel, by decide +kernel⟩
abbrev s_Format_body_size : Stmt := (inClass (top 12) 3)
abbrev N_Format_body_size : List Str := ["self"]
theorem sc_Format_body_size : FnScope N_Format_body_size ["self"] (defScope s_Format_body_size) := ⟨rfl, rfl, rfl, by decide +kernel, rfl, by decide +kernel, by decide +kernel⟩
abbrev s_Format_capacity : Stmt := (inClass (top 12) 4)
abbrev N_Format_capacity : List Str := ["self"]
theorem sc_Format_capacity : FnScope N_Format_capacity ["self"] (defScope s_Format_capacity) := ⟨rfl, rfl, rfl, by decide +kernel, rfl, by decide +kernel, by decide +kernel⟩
abbrev s_is_group : Stmt := (top 17)
abbrev N_is_group : List Str := ["size", "checks"]
theorem sc_is_group : FnScope N_is_group ["size", "checks"] (defScope s_is_group) := ⟨rfl, rfl, rfl, by decide +kernel, rfl, by decide +kernel, by decide +kernel⟩
abbrev s_group_count : Stmt := (top 18)
abbrev N_group_count : List Str := ["data_pages", "size"]
theorem sc_group_count : FnScope N_group_count ["data_pages", "size"] (defScope s_group_count) := ⟨rfl, rfl, rfl, by decide +kernel, rfl, by decide +kernel, by decide +kernel⟩
abbrev s_all_pages : Stmt := (top 19)
abbrev N_all_pages : List Str := ["data_pages", "size", "checks"]
theorem sc_all_pages : FnScope N_all_pages ["data_pages", "size", "checks"] (defScope s_all_pages) := ⟨rfl, rfl, rfl, by decide +kernel, rfl, by decide +kernel, by decide +kernel⟩
abbrev s_slice_count : Stmt := (top 22)
abbrev N_slice_count : List Str := ["length", "capacity"]
theorem sc_slice_count : FnScope N_slice_count ["length", "capacity"] (defScope s_slice_count) := ⟨rfl, rfl, rfl, by decide +kernel, rfl, by decide +kernel, by decide +kernel⟩
abbrev s_plan : Stmt := (top 25)
abbrev N_plan : List Str := ["form", "sizes", "losses", "data_pages", "best", "group", "pages"]
theorem sc_plan : FnScope N_plan ["form", "sizes", "losses"] (defScope s_plan) := ⟨rfl, rfl, rfl, by decide +kernel, rfl, by decide +kernel, by decide +kernel⟩
abbrev s__check_sizes : Stmt := (top 26)
abbrev N__check_sizes : List Str := ["sizes"]
theorem sc__check_sizes : FnScope N__check_sizes ["sizes"] (defScope s__check_sizes) := ⟨rfl, rfl, rfl, by decide +kernel, rfl, by decide +kernel, by decide +kernel⟩
abbrev s__law_cell : Stmt := (top 28)
abbrev N__law_cell : List Str := ["script", "k"]
theorem sc__law_cell : FnScope N__law_cell ["script", "k"] (defScope s__law_cell) := ⟨rfl, rfl, rfl, by decide +kernel, rfl, by decide +kernel, by decide +kernel⟩
abbrev s__law_mix : Stmt := (top 29)
abbrev N__law_mix : List Str := ["cell", "k", "number"]
theorem sc__law_mix : FnScope N__law_mix ["cell", "k"] (defScope s__law_mix) := ⟨rfl, rfl, rfl, by decide +kernel, rfl, by decide +kernel, by decide +kernel⟩
abbrev s__law_row : Stmt := (top 30)
abbrev N__law_row : List Str := ["cell", "count", "bound", "found", "rest", "k"]
theorem sc__law_row : FnScope N__law_row ["cell", "count", "bound"] (defScope s__law_row) := ⟨rfl, rfl, rfl, by decide +kernel, rfl, by decide +kernel, by decide +kernel⟩
abbrev s__law_is_int : Stmt := (top 31)
abbrev N__law_is_int : List Str := ["value"]
theorem sc__law_is_int : FnScope N__law_is_int ["value"] (defScope s__law_is_int) := ⟨rfl, rfl, rfl, by decide +kernel, rfl, by decide +kernel, by decide +kernel⟩
abbrev s__law_form : Stmt := (top 32)
abbrev N__law_form : List Str := ["cell", "side", "checks"]
theorem sc__law_form : FnScope N__law_form ["cell"] (defScope s__law_form) := ⟨rfl, rfl, rfl, by decide +kernel, rfl, by decide +kernel, by decide +kernel⟩
abbrev s__law_words : Stmt := (top 33)
abbrev N__law_words : List Str := ["side"]
theorem sc__law_words : FnScope N__law_words ["side"] (defScope s__law_words) := ⟨rfl, rfl, rfl, by decide +kernel, rfl, by decide +kernel, by decide +kernel⟩
abbrev s__law_body_size : Stmt := (top 34)
abbrev N__law_body_size : List Str := ["side", "checks"]
theorem sc__law_body_size : FnScope N__law_body_size ["side", "checks"] (defScope s__law_body_size) := ⟨rfl, rfl, rfl, by decide +kernel, rfl, by decide +kernel, by decide +kernel⟩
abbrev s__law_capacity : Stmt := (top 35)
abbrev N__law_capacity : List Str := ["side", "checks"]
theorem sc__law_capacity : FnScope N__law_capacity ["side", "checks"] (defScope s__law_capacity) := ⟨rfl, rfl, rfl, by decide +kernel, rfl, by decide +kernel, by decide +kernel⟩
abbrev s__law_plan : Stmt := (top 36)
abbrev N__law_plan : List Str := ["capacity", "sizes", "losses", "data", "size", "best", "group", "pages"]
theorem sc__law_plan : FnScope N__law_plan ["capacity", "sizes", "losses"] (defScope s__law_plan) := ⟨rfl, rfl, rfl, by decide +kernel, rfl, by decide +kernel, by decide +kernel⟩
abbrev s_law : Stmt := (top 37)
abbrev N_law : List Str := ["script", "side", "checks", "form", "sizes", "k", "losses", "odd", "kind", "copy", "actual", "e", "due"]
theorem sc_law : FnScope N_law ["script"] (defScope s_law) := ⟨rfl, rfl, rfl, by decide +kernel, rfl, by decide +kernel, by decide +kernel⟩
structure Txt (K : PySem.W.Frag) (mg : Str → Option Value) (C_ArchiveError C_InvalidFormat C_InvalidArchive C_Format c_plan c__check_sizes P_plan P__check_sizes : Addr) : Prop where
  d_is_group : Dn K mg "is_group" s_is_group ["size", "checks"]
  d_group_count : Dn K mg "group_count" s_group_count ["data_pages", "size"]
  d_all_pages : Dn K mg "all_pages" s_all_pages ["data_pages", "size", "checks"]
  d_slice_count : Dn K mg "slice_count" s_slice_count ["length", "capacity"]
  d_plan : GX.DnC K mg "plan" s_plan ["form", "sizes", "losses"] c_plan
  d__check_sizes : GX.DnC K mg "_check_sizes" s__check_sizes ["sizes"] c__check_sizes
  d__law_cell : Dn K mg "_law_cell" s__law_cell ["script", "k"]
  d__law_is_int : Dn K mg "_law_is_int" s__law_is_int ["value"]
  d__law_form : Dn K mg "_law_form" s__law_form ["cell"]
  d__law_words : Dn K mg "_law_words" s__law_words ["side"]
  d__law_body_size : Dn K mg "_law_body_size" s__law_body_size ["side", "checks"]
  d__law_capacity : Dn K mg "_law_capacity" s__law_capacity ["side", "checks"]
  d__law_plan : Dn K mg "_law_plan" s__law_plan ["capacity", "sizes", "losses"]
  d_law : Dn K mg "law" s_law ["script"]
  i_Format : CL.DnI K mg "Format" "Format.__init__" C_Format s_Format___init__ ["self", "side", "checks"]
  cl_Format : Cls K C_Format
  na_Format_side : NoAttr K C_Format "side"
  na_Format_checks : NoAttr K C_Format "checks"
  p_Format_data_symbols : CL.DnP K C_Format "data_symbols" "Format.data_symbols" s_Format_data_symbols ["self"]
  p_Format_codewords : CL.DnP K C_Format "codewords" "Format.codewords" s_Format_codewords ["self"]
  p_Format_body_size : CL.DnP K C_Format "body_size" "Format.body_size" s_Format_body_size ["self"]
  p_Format_capacity : CL.DnP K C_Format "capacity" "Format.capacity" s_Format_capacity ["self"]
  c_CHECKS : CT K mg "CHECKS" [V.int 2, V.int 4, V.int 6, V.int 8]
  c_LEAST_SIDE : CV mg "LEAST_SIDE" (.int 16)
  c_GREATEST_SIDE : CV mg "GREATEST_SIDE" (.int 40)
  c_CODEWORD_SIZE : CV mg "CODEWORD_SIZE" (.int 16)
  c_MARGIN : CV mg "MARGIN" (.int 2)
  c_SYMBOL_CELLS : CV mg "SYMBOL_CELLS" (.int 4)
  c_HEAD_SYMBOLS : CV mg "HEAD_SYMBOLS" (.int 10)
  c_GREATEST_GROUP : CV mg "GREATEST_GROUP" (.int 12)
  c_MOST_GROUP_PAGES : CV mg "MOST_GROUP_PAGES" (.int 16)
  c_MOST_PAGES : CV mg "MOST_PAGES" (.int 255)
  c_MOST_PARTS : CV mg "MOST_PARTS" (.int 99)
  c_MOST_OCTETS : CV mg "MOST_OCTETS" (.int 4000)
  n_max : mg "max" = none
  n_sum : mg "sum" = none
  n_range : mg "range" = none
  n_any : mg "any" = none
  n_len : mg "len" = none
  n_int : mg "int" = none
  n_isinstance : mg "isinstance" = none
  n_bool : mg "bool" = none
  n_list : mg "list" = none
  n_tuple : mg "tuple" = none
  x_ArchiveError : XCl K mg "ArchiveError" C_ArchiveError
  x_InvalidFormat : XCl K mg "InvalidFormat" C_InvalidFormat
  x_InvalidArchive : XCl K mg "InvalidArchive" C_InvalidArchive
  s_InvalidArchive_ArchiveError : PySem.W.subIn K (.ref C_InvalidArchive) (.ref C_ArchiveError) = some true
  q_InvalidArchive_InvalidArchive : PySem.W.kitOne K (.ref C_InvalidArchive) (.ref C_InvalidArchive) = some true
class Tbs (base : Heap) (mg : Str → Option Value) (c_plan c__check_sizes P_plan P__check_sizes : Addr) : Prop where
  t_plan : GxR.TabB base mg c_plan P_plan
  t__check_sizes : GxR.TabB base mg c__check_sizes P__check_sizes
section
variable {P : Program} {w : World} {K : PySem.W.Frag} {mg : Str → Option Value} {base : Heap} {C_ArchiveError C_InvalidFormat C_InvalidArchive C_Format c_plan c__check_sizes P_plan P__check_sizes : Addr} [TBS : Tbs base mg c_plan c__check_sizes P_plan P__check_sizes]
/-- the cell's promise -/
def spCell (K : PySem.W.Frag) : Sp := fun vs H Q _ => ∃ (l : Addr) (ns : List Int) (k : Nat), vs = [.ref l, .int (k : Int)] ∧ SqL K H l (ns.map V.int) ∧ Q (.int (cell ns k)) H
theorem ok__law_cell (T : Txt K mg C_ArchiveError C_InvalidFormat C_InvalidArchive C_Format c_plan c__check_sizes P_plan P__check_sizes) : Ok P w K mg base CX0 1 "_law_cell" ["script", "k"] (spCell K) := by
  refine ok_of T.d__law_cell fun f fd F => F.ok sc__law_cell (fun vs H Q E h => ?_) (fun cdv A outer s H vs Q E hr h => ?_)
  · obtain ⟨l, ns, k, rfl, _⟩ := h
    rfl
  · obtain ⟨l, ns, k, rfl, hs, q⟩ := h
    refine ⟨_,       (pss_cons (ps_if (pt_cmpR op_lt (pv 1) (pe_callB call_len_seq (by rfl) T.n_len PySem.boot_len (pa_cons (pv 0) pa_nil)) (nomark _))
        (pss_one (ps_ret (pe_callTy call_int1 (by rfl) T.n_int (by decide +kernel) (pa_cons (pe_ix ix_list (pv 0) (pv 1) (fun _ _ => rfl)) pa_nil)))) pss_nil)
      (pss_one (ps_ret pe_int))), ?_⟩
    refine ⟨_, rfl, _, rfl, l, _, rfl, .inl hs, _, _, rfl, rfl, _, rfl, itd (fun h => ?_) (fun h => ?_)⟩
    · have hk : k < ns.length := by
        rw [List.length_map] at h
        omega
      refine ⟨_, rfl, _, rfl, l, _, _, .int ns[k], rfl, rfl, hs, atI_nat (by rw [List.getElem?_map, List.getElem?_eq_getElem hk]; rfl), .inl ⟨_, rfl, ?_⟩⟩
      rw [Cm.cell_in hk] at q
      exact q
    · have hk : ¬ k < ns.length := by
        rw [List.length_map] at h
        omega
      rw [Cm.cell_out hk] at q
      exact q

def spIsInt : Sp := fun vs H Q _ => ∃ i : Int, vs = [.int i] ∧ Q (.bl true) H
theorem ok__law_is_int (T : Txt K mg C_ArchiveError C_InvalidFormat C_InvalidArchive C_Format c_plan c__check_sizes P_plan P__check_sizes) : Ok P w K mg base CX0 1 "_law_is_int" ["value"] spIsInt := by
  refine ok_of T.d__law_is_int fun f fd F => F.ok sc__law_is_int (fun vs H Q E h => ?_) (fun cdv A outer s H vs Q E hr h => ?_)
  · obtain ⟨i, rfl, _⟩ := h
    rfl
  · obtain ⟨i, rfl, q⟩ := h
    refine ⟨_,       (pss_one (ps_ret (pe_and (pe_callB call_isi (by rfl) T.n_isinstance (by decide +kernel) (pa_cons (pv 0) (pa_cons (pe_bltn (v := .ty "int") (by rfl) T.n_int (by decide +kernel) rfl) pa_nil))) (pe_one (pe_not (pe_callB call_isi (by rfl) T.n_isinstance (by decide +kernel) (pa_cons (pv 0) (pa_cons (pe_bltn (v := .ty "bool") (by rfl) T.n_bool (by decide +kernel) rfl) pa_nil)))))))), ?_⟩
    refine ⟨_, rfl, _, _, _, _, true, rfl, .ty _, .base (.int i), kit_ty (by decide +kernel), true, rfl, iteT ?_⟩
    exact ⟨_, rfl, _, _, _, _, false, rfl, .ty _, .base (.int i), kit_ty (by decide +kernel), false, rfl, q⟩

theorem cut_midG {xs : List V} {j k : Nat} (h : j ≤ k) : cutV xs (some (j : Int)) (some (k : Int)) = (xs.drop j).take (k - j) := by
  unfold cutV
  have e1 : HT.sIx xs.length 0 (some (j : Int)) = min j xs.length := HT.sIx_nat _ _ j
  have e2 : HT.sIx xs.length xs.length (some (k : Int)) = min k xs.length := HT.sIx_nat _ _ k
  rw [e1, e2]
  by_cases h1 : j ≤ xs.length
  · rw [Nat.min_eq_left h1]
    by_cases h2 : k ≤ xs.length
    · rw [Nat.min_eq_left h2]
    · rw [Nat.min_eq_right (by omega), List.take_of_length_le (by rw [List.length_drop]; omega), List.take_of_length_le (by rw [List.length_drop]; omega)]
  · rw [List.drop_of_length_le (by omega), List.drop_of_length_le (by omega), List.take_nil, List.take_nil]
theorem cut_toG {xs : List V} {k : Nat} : cutV xs none (some (k : Int)) = xs.take k := by
  unfold cutV
  have e2 : HT.sIx xs.length xs.length (some (k : Int)) = min k xs.length := HT.sIx_nat _ _ k
  have e1 : HT.sIx xs.length 0 none = 0 := rfl
  rw [e1, e2, List.drop_zero, Nat.sub_zero]
  by_cases h2 : k ≤ xs.length
  · rw [Nat.min_eq_left h2]
  · rw [Nat.min_eq_right (by omega), List.take_of_length_le (Nat.le_refl _), List.take_of_length_le (by omega)]
theorem tru_l {K : PySem.W.Frag} {H : Hp} {p : Addr} {xs : List V} (h : SqL K H p xs) : TruV K (.ref p) H (!xs.isEmpty) := .inl ⟨xs, h, rfl⟩
theorem tru_t {K : PySem.W.Frag} {H : Hp} {p : Addr} {xs : List V} (h : SqT K H p xs) : TruV K (.ref p) H (!xs.isEmpty) := .inr (.inl ⟨xs, h, rfl⟩)
theorem ne_noG {d e : PyData} {A B : Prop} (h : PyData.eqv d e = true) (hb : B) : ∃ k, V.bl (!PyData.eqv d e) = V.bl k ∧ if k = true then A else B := ⟨_, rfl, by rw [h]; exact iteF hb⟩
theorem nm_noG {x y : V} {A B : Prop} (h : x = y) (hb : B) : ∃ k, V.bl (!decide (x = y)) = V.bl k ∧ if k = true then A else B := ⟨_, rfl, by rw [h]; simpa using hb⟩
theorem if_ff {A B : Prop} (h : B) : if (true = false) then A else B := by
  rw [if_neg (by decide)]
  exact h
theorem if_tf {A B : Prop} (h : A) : if (false = false) then A else B := by
  rw [if_pos rfl]
  exact h

/-! ### formats -/
def wordsF (s : Int) : Int := (s - 4) * (s - 4) / 64
def bodyF (s c : Int) : Int := (wordsF s - 1) * (16 - c)
def capF (s c : Int) : Int := (bodyF s c - 10) / 2
def okForm (s c : Int) : Prop := (16 ≤ s ∧ s ≤ 40) ∧ (c = 2 ∨ c = 4 ∨ c = 6 ∨ c = 8) ∧ 1 ≤ capF s c
theorem kSC : ¬ (("side" : Str) = "checks") := by decide +kernel
def fF (s c : Int) : List (Str × V) := putF "checks" (.int c) (putF "side" (.int s) [])
theorem fF_side (s c : Int) : (fF s c).lookup ("side" : Str) = some (.int s) := by
  unfold fF
  rw [lookup_putF, if_neg kSC, lookup_putF, if_pos rfl]
theorem fF_checks (s c : Int) : (fF s c).lookup ("checks" : Str) = some (.int c) := by
  unfold fF
  rw [lookup_putF, if_pos rfl]
/-- a format stands at p -/
def FormAt (C : Addr) (H : Hp) (p : Addr) (s c : Int) : Prop := ∃ dx, H p = some (.ins C dx (fF s c))
theorem FormAt.mono {C : Addr} {H H' : Hp} {p : Addr} {s c : Int} (e : Same H H') (h : FormAt C H p s c) : FormAt C H' p s c := h.elim fun dx z => ⟨dx, e _ _ z⟩
theorem words_in {s : Int} (h : 16 ≤ s ∧ s ≤ 40) : 2 ≤ wordsF s ∧ wordsF s ≤ 20 := by
  unfold wordsF
  have a : 12 * 12 ≤ (s - 4) * (s - 4) := Int.mul_le_mul (by omega) (by omega) (by decide) (by omega)
  have b : (s - 4) * (s - 4) ≤ 36 * 36 := Int.mul_le_mul (by omega) (by omega) (by omega) (by omega)
  generalize (s - 4) * (s - 4) = z at *
  omega
def spProp (C : Addr) (g : Int → Int → Int) : Sp := fun vs H Q _ => ∃ (p : Addr) (s c : Int), vs = [.ref p] ∧ FormAt C H p s c ∧ (16 ≤ s ∧ s ≤ 40) ∧ (2 ≤ c ∧ c ≤ 8) ∧ Q (.int (g s c)) H
theorem okp_data (T : Txt K mg C_ArchiveError C_InvalidFormat C_InvalidArchive C_Format c_plan c__check_sizes P_plan P__check_sizes) : CL.OkP P w K mg base CX0 1 C_Format "data_symbols" ["self"] (spProp C_Format fun _ c => 16 - c) := by
  refine CL.okp_of T.p_Format_data_symbols fun f fd F => F.ok sc_Format_data_symbols (fun vs H Q E h => ?_) (fun cdv A outer s H vs Q E hr h => ?_)
  · obtain ⟨p, s, c, rfl, _⟩ := h
    rfl
  · obtain ⟨p, s, c, rfl, ⟨dx, hp⟩, h1, h2, kQ⟩ := h
    have nd := sc_Format_data_symbols.nd
    refine ⟨_,       (pss_one (ps_ret (pe_op op_sub (pe_globC rfl T.c_CODEWORD_SIZE) (pe_fld (pv 0) rfl)))), ?_⟩
    exact ⟨_, rfl, p, C_Format, dx, _, _, rfl, hp, T.cl_Format, T.na_Format_checks, fF_checks _ _, _, _, rfl, rfl, kQ⟩
theorem okp_codewords (T : Txt K mg C_ArchiveError C_InvalidFormat C_InvalidArchive C_Format c_plan c__check_sizes P_plan P__check_sizes) : CL.OkP P w K mg base CX0 1 C_Format "codewords" ["self"] (spProp C_Format fun s _ => wordsF s) := by
  refine CL.okp_of T.p_Format_codewords fun f fd F => F.ok sc_Format_codewords (fun vs H Q E h => ?_) (fun cdv A outer s H vs Q E hr h => ?_)
  · obtain ⟨p, s, c, rfl, _⟩ := h
    rfl
  · obtain ⟨p, s, c, rfl, ⟨dx, hp⟩, h1, h2, kQ⟩ := h
    have nd := sc_Format_codewords.nd
    refine ⟨_,       (pss_cons (ps_set (i := 1) nd rfl (Or.inl rfl) (pe_op op_sub (pe_fld (pv 0) rfl) (pe_op op_mul pe_int (pe_globC rfl T.c_MARGIN))))
      (pss_one (ps_ret (pe_op op_fdiv (pe_op op_mul (pv 1) (pv 1)) (pe_op op_mul (pe_globC rfl T.c_CODEWORD_SIZE) (pe_globC rfl T.c_SYMBOL_CELLS)))))), ?_⟩
    refine ⟨_, rfl, p, C_Format, dx, _, _, rfl, hp, T.cl_Format, T.na_Format_side, fF_side _ _, _, _, rfl, rfl, .inl ⟨by decide, by decide⟩, _, _, rfl, rfl, ?_⟩
    exact ⟨_, rfl, _, rfl, _, _, rfl, rfl, .inl ⟨by omega, by omega⟩, _, _, rfl, rfl, .inl ⟨by decide, by decide⟩, _, _, rfl, rfl, ⟨by decide, by decide⟩, kQ⟩
theorem okp_body (T : Txt K mg C_ArchiveError C_InvalidFormat C_InvalidArchive C_Format c_plan c__check_sizes P_plan P__check_sizes) : CL.OkP P w K mg base CX0 3 C_Format "body_size" ["self"] (spProp C_Format bodyF) := by
  have G_Format_codewords := okp_codewords (P := P) (w := w) (base := base) T
  have G_Format_data_symbols := okp_data (P := P) (w := w) (base := base) T
  refine CL.okp_of T.p_Format_body_size fun f fd F => F.ok sc_Format_body_size (fun vs H Q E h => ?_) (fun cdv A outer s H vs Q E hr h => ?_)
  · obtain ⟨p, s, c, rfl, _⟩ := h
    rfl
  · obtain ⟨p, s, c, rfl, ⟨dx, hp⟩, h1, h2, kQ⟩ := h
    have nd := sc_Format_body_size.nd
    have hw := words_in h1
    refine ⟨_,       (pss_one (ps_ret (pe_op op_mul (pe_op op_sub (CL.pe_propO (pv 0) T.cl_Format G_Format_codewords (hr.mono (by decide)) pass0) pe_int) (CL.pe_propO (pv 0) T.cl_Format G_Format_data_symbols (hr.mono (by decide)) pass0)))), ?_⟩
    refine ⟨_, rfl, p, dx, _, rfl, hp, p, s, c, rfl, ⟨dx, hp⟩, h1, h2, _, _, rfl, rfl, ?_⟩
    exact ⟨_, rfl, p, dx, _, rfl, hp, p, s, c, rfl, ⟨dx, hp⟩, h1, h2, _, _, rfl, rfl, .inl ⟨by show -(2 ^ 64) < wordsF s - 1; omega, by show wordsF s - 1 < 2 ^ 64; omega⟩, kQ⟩
theorem okp_capacity (T : Txt K mg C_ArchiveError C_InvalidFormat C_InvalidArchive C_Format c_plan c__check_sizes P_plan P__check_sizes) : CL.OkP P w K mg base CX0 5 C_Format "capacity" ["self"] (spProp C_Format capF) := by
  have G_Format_body_size := okp_body (P := P) (w := w) (base := base) T
  refine CL.okp_of T.p_Format_capacity fun f fd F => F.ok sc_Format_capacity (fun vs H Q E h => ?_) (fun cdv A outer s H vs Q E hr h => ?_)
  · obtain ⟨p, s, c, rfl, _⟩ := h
    rfl
  · obtain ⟨p, s, c, rfl, ⟨dx, hp⟩, h1, h2, kQ⟩ := h
    have nd := sc_Format_capacity.nd
    refine ⟨_,       (pss_one (ps_ret (pe_op op_fdiv (pe_op op_sub (CL.pe_propO (pv 0) T.cl_Format G_Format_body_size (hr.mono (by decide)) pass0) (pe_globC rfl T.c_HEAD_SYMBOLS)) pe_int))), ?_⟩
    exact ⟨_, rfl, p, dx, _, rfl, hp, p, s, c, rfl, ⟨dx, hp⟩, h1, h2, _, _, rfl, rfl, _, _, rfl, rfl, ⟨by decide, by decide⟩, kQ⟩
def SameBut (p : Addr) (H H' : Hp) : Prop := ∀ b o, H b = some o → b ≠ p → H' b = some o
theorem chk_in {c : Int} : inV (.int c) [V.int 2, V.int 4, V.int 6, V.int 8] = true ↔ (c = 2 ∨ c = 4 ∨ c = 6 ∨ c = 8) := by
  simp [inV, eqV]
  omega
def spFormInit (C CE : Addr) : Sp := fun vs H Q E => ∃ (p dx : Addr) (s c : Int), vs = [.ref p, .int s, .int c] ∧ H p = some (.ins C dx []) ∧ (¬ okForm s c → ∀ H', SameBut p H H' → E (.ref CE) none H') ∧ (okForm s c → ∀ H', SameBut p H H' → FormAt C H' p s c → Q .non H')
theorem oki_Format (T : Txt K mg C_ArchiveError C_InvalidFormat C_InvalidArchive C_Format c_plan c__check_sizes P_plan P__check_sizes) : CL.OkI P w K mg base (CXN P w) 7 "Format" C_Format ["self", "side", "checks"] (spFormInit C_Format C_InvalidFormat) := by
  have G_Format_capacity := okp_capacity (P := P) (w := w) (base := base) T
  refine CL.oki_of T.i_Format fun f fd F => okN F sc_Format___init__ (fun vs H Q E h => ?_) (fun cdv A outer s H vs Q E hr h => ?_)
  · obtain ⟨p, dx, s, c, rfl, _⟩ := h
    rfl
  · obtain ⟨p, dx, s, c, rfl, hp, kE, kQ⟩ := h
    have nd := sc_Format___init__.nd
    refine ⟨_,       (pss_cons (ps_if (PW.pt (pw_or (pt_not (pt_chain op_le op_le (pe_globC rfl T.c_LEAST_SIDE) (pv 1) (pe_globC rfl T.c_GREATEST_SIDE))) (pw_or1 (pt_cmpR op_notIn_seq (pv 2) (pe_globT rfl T.c_CHECKS) (by with_unfolding_all rfl)))))
        (pss_one (L2N.ps_raise rfl (L2N.takes_of rfl rfl rfl rfl) (L2N.pmk_own PySem.F.excBase_ValueError T.x_InvalidFormat.x T.x_InvalidFormat.g T.x_InvalidFormat.k (raises_own T.x_InvalidFormat.b T.x_InvalidFormat.t) rfl))) pss_nil)
      (pss_cons (ps_fld (pv 0) (pv 1) rfl)
      (pss_cons (ps_fld (pv 0) (pv 2) rfl)
      (pss_one (ps_if (pt_cmpR op_lt (CL.pe_propO (pv 0) T.cl_Format G_Format_capacity (hr.mono (by decide)) pass0) pe_int (nomark _))
        (pss_one (L2N.ps_raise rfl (L2N.takes_of rfl rfl rfl rfl) (L2N.pmk_own PySem.F.excBase_ValueError T.x_InvalidFormat.x T.x_InvalidFormat.g T.x_InvalidFormat.k (raises_own T.x_InvalidFormat.b T.x_InvalidFormat.t) rfl))) pss_nil))))), ?_⟩
    have bad : ∀ {q : Prop}, ¬ q → (okForm s c → q) → E (.ref C_InvalidFormat) none H := fun hn hq => kE (fun z => hn (hq z)) H fun b o e _ => e
    refine ⟨_, rfl, _, _, rfl, rfl, _, rfl, itd (fun h1 => ⟨_, _, rfl, rfl, _, rfl, itb (fun h2 => iteT (bad (q := s ≤ 40) (by simpa using h2) fun z => z.1.2)) (fun h2 => ?_)⟩) (fun h1 => ⟨_, rfl, iteT (iteT (bad h1 fun z => z.1.1))⟩)⟩
    replace h2 : s ≤ 40 := by simpa using h2
    refine ⟨_, rfl, fun q hq => ⟨q, _, rfl, .inr (hq _), rfl, rfl, _, rfl, itb (fun h3 => ?_) (fun h3 => ?_)⟩⟩
    · refine bad (q := c = 2 ∨ c = 4 ∨ c = 6 ∨ c = 8) (fun z => ?_) fun z => z.2.1
      rw [← chk_in] at z
      simp [z] at h3
    have hc : c = 2 ∨ c = 4 ∨ c = 6 ∨ c = 8 := chk_in.mp (by simpa using h3)
    refine ⟨_, rfl, _, rfl, p, C_Format, dx, _, rfl, hp, T.cl_Format, T.na_Format_side, (by show 0 < 1000; decide), ?_⟩
    refine ⟨_, rfl, _, rfl, p, C_Format, dx, _, rfl, upd_same, T.cl_Format, T.na_Format_checks, (by show 1 < 1000; decide), ?_⟩
    have sb : SameBut p H (upd (upd H p (.ins C_Format dx (putF "side" (.int s) []))) p (.ins C_Format dx (putF "checks" (.int c) (putF "side" (.int s) [])))) := fun b o e hb => by
      rw [upd_ne hb, upd_ne hb]
      exact e
    refine ⟨_, rfl, p, dx, _, rfl, upd_same, p, s, c, rfl, ⟨dx, upd_same⟩, ⟨h1, h2⟩, by omega, _, _, rfl, rfl, _, rfl, itd (fun h4 => ?_) (fun h4 => ?_)⟩
    · exact kE (fun z => by have := z.2.2; omega) _ sb
    · exact kQ ⟨⟨h1, h2⟩, hc, by omega⟩ _ sb ⟨dx, upd_same⟩
/-! ### the law's own words -/
def spW1 (f : Int → Int) : Sp := fun vs H Q _ => ∃ s : Int, vs = [.int s] ∧ (16 ≤ s ∧ s ≤ 40) ∧ Q (.int (f s)) H
theorem ok__law_words (T : Txt K mg C_ArchiveError C_InvalidFormat C_InvalidArchive C_Format c_plan c__check_sizes P_plan P__check_sizes) : Ok P w K mg base CX0 1 "_law_words" ["side"] (spW1 wordsF) := by
  refine ok_of T.d__law_words fun f fd F => F.ok sc__law_words (fun vs H Q E h => ?_) (fun cdv A outer s H vs Q E hr h => ?_)
  · obtain ⟨s, rfl, _⟩ := h
    rfl
  · obtain ⟨s, rfl, h1, kQ⟩ := h
    have nd := sc__law_words.nd
    refine ⟨_,       (pss_one (ps_ret (pe_op op_fdiv (pe_op op_mul (pe_op op_sub (pv 0) pe_int) (pe_op op_sub (pv 0) pe_int)) pe_int))), ?_⟩
    exact ⟨_, rfl, _, _, rfl, rfl, _, rfl, _, _, rfl, rfl, _, _, rfl, rfl, .inl ⟨by show -(2 ^ 64) < s - 4; omega, by show s - 4 < 2 ^ 64; omega⟩, _, _, rfl, rfl, ⟨by decide, by decide⟩, kQ⟩

def spW2 (f : Int → Int → Int) : Sp := fun vs H Q _ => ∃ s c : Int, vs = [.int s, .int c] ∧ (16 ≤ s ∧ s ≤ 40) ∧ Q (.int (f s c)) H
theorem ok__law_body_size (T : Txt K mg C_ArchiveError C_InvalidFormat C_InvalidArchive C_Format c_plan c__check_sizes P_plan P__check_sizes) : Ok P w K mg base CX0 2 "_law_body_size" ["side", "checks"] (spW2 bodyF) := by
  have G__law_words := ok__law_words (P := P) (w := w) (base := base) T
  refine ok_of T.d__law_body_size fun f fd F => F.ok sc__law_body_size (fun vs H Q E h => ?_) (fun cdv A outer s H vs Q E hr h => ?_)
  · obtain ⟨s, c, rfl, _⟩ := h
    rfl
  · obtain ⟨s, c, rfl, h1, kQ⟩ := h
    have nd := sc__law_body_size.nd
    have hw := words_in h1
    refine ⟨_,       (pss_one (ps_ret (pe_op op_mul (pe_op op_sub (pe_callO G__law_words (hr.mono (by decide)) pass0 (pa_cons (pv 0) pa_nil)) pe_int) (pe_op op_sub pe_int (pv 1))))), ?_⟩
    exact ⟨_, rfl, s, rfl, h1, _, _, rfl, rfl, _, rfl, _, _, rfl, rfl, _, _, rfl, rfl, .inl ⟨by show -(2 ^ 64) < wordsF s - 1; omega, by show wordsF s - 1 < 2 ^ 64; omega⟩, kQ⟩
theorem ok__law_capacity (T : Txt K mg C_ArchiveError C_InvalidFormat C_InvalidArchive C_Format c_plan c__check_sizes P_plan P__check_sizes) : Ok P w K mg base CX0 3 "_law_capacity" ["side", "checks"] (spW2 capF) := by
  have G__law_body_size := ok__law_body_size (P := P) (w := w) (base := base) T
  refine ok_of T.d__law_capacity fun f fd F => F.ok sc__law_capacity (fun vs H Q E h => ?_) (fun cdv A outer s H vs Q E hr h => ?_)
  · obtain ⟨s, c, rfl, _⟩ := h
    rfl
  · obtain ⟨s, c, rfl, h1, kQ⟩ := h
    have nd := sc__law_capacity.nd
    refine ⟨_,       (pss_one (ps_ret (pe_op op_fdiv (pe_op op_sub (pe_callO G__law_body_size (hr.mono (by decide)) pass0 (pa_cons (pv 0) (pa_cons (pv 1) pa_nil))) pe_int) pe_int))), ?_⟩
    exact ⟨_, rfl, _, rfl, s, c, rfl, h1, _, _, rfl, rfl, _, _, rfl, rfl, ⟨by decide, by decide⟩, kQ⟩

/-! ### labels -/
/-- lo, lo + 1, .. below hi -/
def rg (a b : Int) : List Int := (List.range (b - a).toNat).map fun i => a + (i : Nat)
theorem rg_V (a b : Int) : rgV a b = (rg a b).map V.int := by
  unfold rgV rg
  rw [List.map_map]
  rfl
theorem rg_nil {a b : Int} (h : b ≤ a) : rg a b = [] := by
  unfold rg
  have e : (b - a).toNat = 0 := by omega
  rw [e]
  rfl
theorem rg_len (a b : Int) : (rg a b).length = (b - a).toNat := by simp [rg]
theorem rg_snoc {a b : Int} (h : a ≤ b) : rg a (b + 1) = rg a b ++ [b] := by
  unfold rg
  have e : (b + 1 - a).toNat = (b - a).toNat + 1 := by omega
  rw [e, List.range_succ, List.map_append]
  have e2 : a + (((b - a).toNat : Nat) : Int) = b := by omega
  simp only [List.map_cons, List.map_nil, e2]
theorem rg_app {a b : Int} (h1 : a ≤ b) : ∀ (n : Nat), rg a b ++ rg b (b + n) = rg a (b + n)
  | 0 => by
    have e : b + ((0 : Nat) : Int) = b := by omega
    rw [e, rg_nil (Int.le_refl b), List.append_nil]
  | n + 1 => by
    have e : b + ((n + 1 : Nat) : Int) = b + (n : Int) + 1 := by omega
    rw [e, rg_snoc (by omega), rg_snoc (by omega), ← List.append_assoc, rg_app h1 n]
theorem rg_cat {a b c : Int} (h1 : a ≤ b) (h2 : b ≤ c) : rg a b ++ rg b c = rg a c := by
  have e : c = b + ((c - b).toNat : Nat) := by omega
  rw [e]
  exact rg_app h1 _
theorem rg_mem {a b x : Int} : x ∈ rg a b ↔ a ≤ x ∧ x < b := by
  unfold rg
  rw [List.mem_map]
  constructor
  · rintro ⟨i, hi, rfl⟩
    have := List.mem_range.mp hi
    exact ⟨by omega, by omega⟩
  · rintro ⟨h1, h2⟩
    exact ⟨(x - a).toNat, List.mem_range.mpr (by omega), by omega⟩
theorem rg_pw (a b : Int) : (rg a b).Pairwise (· ≤ ·) := by
  unfold rg
  rw [List.pairwise_map]
  exact List.Pairwise.imp (fun {i j} h => by omega) (List.pairwise_lt_range (n := (b - a).toNat))
/-- the number of groups -/
def grp (d s : Int) : Int := (d + s - 1) / s
def okLab (ar nu d s c : Int) : Prop := (0 ≤ ar ∧ ar ≤ 255) ∧ (1 ≤ d ∧ d ≤ 255) ∧ (1 ≤ s ∧ s ≤ 12) ∧ (0 ≤ c ∧ c ≤ 16 - s) ∧ d + grp d s * c ≤ 255 ∧ 0 ≤ nu ∧ nu < d + grp d s * c
theorem grp_pos {d s : Int} (hd : 1 ≤ d) (hs : 1 ≤ s) : 1 ≤ grp d s := by
  unfold grp
  rw [Int.le_ediv_iff_mul_le (by omega)]
  omega
theorem grp_ge {d s : Int} (hs : 1 ≤ s) : d ≤ grp d s * s := by
  unfold grp
  have h1 := Int.emod_lt_of_pos (d + s - 1) (show 0 < s by omega)
  have h2 := Int.emod_add_mul_ediv (d + s - 1) s
  have h3 : (d + s - 1) / s * s = s * ((d + s - 1) / s) := Int.mul_comm _ _
  omega
theorem grp_lt {d s g : Int} (hs : 1 ≤ s) (h : g < grp d s) : g * s < d := by
  unfold grp at h
  have h0 : g + 1 ≤ (d + s - 1) / s := by omega
  rw [Int.le_ediv_iff_mul_le (by omega), Int.add_mul] at h0
  omega
theorem grp_le {d s : Int} (hd : 1 ≤ d) (hs : 1 ≤ s) : grp d s ≤ d := by
  unfold grp
  have h2 : (d + s - 1) / s < d + 1 := by
    rw [Int.ediv_lt_iff_lt_mul (by omega), Int.add_mul]
    have h3 : (d - 1) * 1 ≤ (d - 1) * s := Int.mul_le_mul_of_nonneg_left (by omega) (by omega)
    rw [Int.sub_mul, Int.sub_mul] at h3
    omega
  omega
theorem div_is {i s g : Int} (hs : 1 ≤ s) : i / s = g ↔ g * s ≤ i ∧ i < g * s + s := by
  have h1 := Int.le_ediv_iff_mul_le (a := g) (b := i) (show 0 < s by omega)
  have h2 := Int.ediv_lt_iff_lt_mul (a := i) (b := g + 1) (show 0 < s by omega)
  rw [Int.add_mul] at h2
  constructor
  · intro e
    exact ⟨h1.mp (by omega), by have := h2.mp (by omega); omega⟩
  · intro ⟨a, b⟩
    have a1 := h1.mpr a
    have b1 := h2.mpr (by omega)
    omega
def sp2i (f : Int → Int → Int) (ok : Int → Int → Prop) : Sp := fun vs H Q _ => ∃ a b : Int, vs = [.int a, .int b] ∧ ok a b ∧ Q (.int (f a b)) H
def spIsGroup : Sp := fun vs H Q _ => ∃ s c : Int, vs = [.int s, .int c] ∧ ∀ b : Bool, (b = true ↔ (1 ≤ s ∧ s ≤ 12) ∧ 0 ≤ c ∧ c ≤ 16 - s) → Q (.bl b) H
theorem ok_is_group (T : Txt K mg C_ArchiveError C_InvalidFormat C_InvalidArchive C_Format c_plan c__check_sizes P_plan P__check_sizes) : Ok P w K mg base CX0 1 "is_group" ["size", "checks"] spIsGroup := by
  refine ok_of T.d_is_group fun f fd F => F.ok sc_is_group (fun vs H Q E h => ?_) (fun cdv A outer s H vs Q E hr h => ?_)
  · obtain ⟨a, b, rfl, _⟩ := h
    rfl
  · obtain ⟨a, b, rfl, kQ⟩ := h
    have nd := sc_is_group.nd
    refine ⟨_,       (pss_one (ps_ret (pe_and (pe_chain op_le op_le pe_int (pv 0) (pe_globC rfl T.c_GREATEST_GROUP)) (pe_one (pe_chain op_le op_le pe_int (pv 1) (pe_op op_sub (pe_globC rfl T.c_MOST_GROUP_PAGES) (pv 0))))))), ?_⟩
    refine ⟨_, rfl, _, _, rfl, rfl, _, rfl, ?_⟩
    refine itd (fun h1 => ?_) (fun h1 => ⟨_, rfl, iteF (kQ false (by simp; omega))⟩)
    refine ⟨_, _, rfl, rfl, _, rfl, ?_⟩
    refine itb (fun h2 => ?_) (fun h2 => ?_)
    · have h2 : a ≤ 12 := by simpa using h2
      refine ⟨_, rfl, _, _, rfl, rfl, _, rfl, itd (fun h3 => ?_) (fun h3 => ?_)⟩
      · exact ⟨_, rfl, _, _, rfl, rfl, _, _, rfl, rfl, kQ _ (by simp; omega)⟩
      · exact kQ false (by simp; omega)
    · have h2 : ¬ a ≤ 12 := by simpa using h2
      exact kQ false (by simp; omega)

def spGrp : Sp := fun vs H Q _ => ∃ d s : Int, vs = [.int d, .int s] ∧ 1 ≤ s ∧ s ≤ 12 ∧ Q (.int (grp d s)) H
theorem ok_group_count (T : Txt K mg C_ArchiveError C_InvalidFormat C_InvalidArchive C_Format c_plan c__check_sizes P_plan P__check_sizes) : Ok P w K mg base CX0 1 "group_count" ["data_pages", "size"] spGrp := by
  refine ok_of T.d_group_count fun f fd F => F.ok sc_group_count (fun vs H Q E h => ?_) (fun cdv A outer s H vs Q E hr h => ?_)
  · obtain ⟨a, b, rfl, _⟩ := h
    rfl
  · obtain ⟨a, b, rfl, h1, h2, kQ⟩ := h
    have nd := sc_group_count.nd
    refine ⟨_,       (pss_one (ps_ret (pe_op op_fdiv (pe_op op_sub (pe_op op_add (pv 0) (pv 1)) pe_int) (pv 1)))), ?_⟩
    exact ⟨_, rfl, _, rfl, _, _, rfl, rfl, _, _, rfl, rfl, _, rfl, _, _, rfl, rfl, ⟨by omega, by omega⟩, kQ⟩
def spAll : Sp := fun vs H Q _ => ∃ d s c : Int, vs = [.int d, .int s, .int c] ∧ 1 ≤ s ∧ s ≤ 12 ∧ 0 ≤ c ∧ c ≤ 16 ∧ Q (.int (d + grp d s * c)) H
theorem ok_all_pages (T : Txt K mg C_ArchiveError C_InvalidFormat C_InvalidArchive C_Format c_plan c__check_sizes P_plan P__check_sizes) : Ok P w K mg base CX0 2 "all_pages" ["data_pages", "size", "checks"] spAll := by
  have G_group_count := ok_group_count (P := P) (w := w) (base := base) T
  refine ok_of T.d_all_pages fun f fd F => F.ok sc_all_pages (fun vs H Q E h => ?_) (fun cdv A outer s H vs Q E hr h => ?_)
  · obtain ⟨a, b, c, rfl, _⟩ := h
    rfl
  · obtain ⟨a, b, c, rfl, h1, h2, h3, h4, kQ⟩ := h
    have nd := sc_all_pages.nd
    refine ⟨_,       (pss_one (ps_ret (pe_op op_add (pv 0) (pe_op op_mul (pe_callO G_group_count (hr.mono (by decide)) pass0 (pa_cons (pv 0) (pa_cons (pv 1) pa_nil))) (pv 2))))), ?_⟩
    exact ⟨_, rfl, _, rfl, _, rfl, a, b, rfl, h1, h2, _, rfl, _, _, rfl, rfl, .inr ⟨by omega, by omega⟩, _, _, rfl, rfl, kQ⟩

-- @@CUT a
/-! ### plans -/
def slc (z cap : Int) : Int := if (z + cap - 1) / cap > 1 then (z + cap - 1) / cap else 1
theorem if_tt {A B : Prop} (h : A) : if (true = true) then A else B := by
  rw [if_pos rfl]
  exact h
theorem if_ft {A B : Prop} (h : B) : if (false = true) then A else B := by
  rw [if_neg (by decide)]
  exact h
theorem slc_in {z cap : Int} : 1 ≤ slc z cap := by
  unfold slc
  split <;> omega
def slcs (zs : List Int) (cap : Int) : Int := (zs.map fun z => slc z cap).sum
theorem slcs_snoc (zs : List Int) (z cap : Int) : slcs (zs ++ [z]) cap = slcs zs cap + slc z cap := by
  simp [slcs]
def okSizes (zs : List Int) : Prop := 1 ≤ zs.length ∧ zs.length ≤ 99 ∧ ∀ z ∈ zs, 0 ≤ z ∧ z ≤ 4000
theorem cap_in {s c : Int} (h : okForm s c) : 1 ≤ capF s c ∧ capF s c ≤ 200 := by
  obtain ⟨h1, h2, h3⟩ := h
  have hw := words_in h1
  refine ⟨h3, ?_⟩
  unfold capF bodyF
  rcases h2 with rfl | rfl | rfl | rfl <;> omega
/-- a step of the search -/
def better (d c g : Int) (b : Option (Int × Int)) : Prop := c ≤ 16 - g ∧ d + grp d g * c ≤ 255 ∧ ∀ q, b = some q → d + grp d g * c ≤ q.2
open Classical in
noncomputable def bestStep (d c g : Int) (b : Option (Int × Int)) : Option (Int × Int) := if better d c g b then some (g, d + grp d g * c) else b
noncomputable def bestOf (d c : Int) : Nat → Option (Int × Int)
  | 0 => none
  | n + 1 => bestStep d c (1 + (n : Int)) (bestOf d c n)
def BestAt (K : PySem.W.Frag) (H : Hp) (v : V) : Option (Int × Int) → Prop
  | none => v = .non
  | some q => ∃ t, v = .ref t ∧ SqT K H t [.int q.1, .int q.2]
theorem BestAt.mono {K : PySem.W.Frag} {H H' : Hp} {v : V} {b : Option (Int × Int)} (e : GX.Sm H H') (h : BestAt K H v b) : BestAt K H' v b := by
  cases b with
  | none => exact h
  | some q =>
    obtain ⟨t, rfl, hT⟩ := h
    exact ⟨t, rfl, e.tup hT⟩
def spSlc : Sp := fun vs H Q _ => ∃ z cap : Int, vs = [.int z, .int cap] ∧ 1 ≤ cap ∧ cap ≤ 200 ∧ Q (.int (slc z cap)) H
theorem ok_slice_count (T : Txt K mg C_ArchiveError C_InvalidFormat C_InvalidArchive C_Format c_plan c__check_sizes P_plan P__check_sizes) : Ok P w K mg base CX0 1 "slice_count" ["length", "capacity"] spSlc := by
  refine ok_of T.d_slice_count fun f fd F => F.ok sc_slice_count (fun vs H Q E h => ?_) (fun cdv A outer s H vs Q E hr h => ?_)
  · obtain ⟨z, cap, rfl, _⟩ := h
    rfl
  · obtain ⟨z, cap, rfl, h1, h2, kQ⟩ := h
    have nd := sc_slice_count.nd
    refine ⟨_,       (pss_one (ps_ret (pe_callB (call_max2 rfl) (by rfl) T.n_max (by decide +kernel) (pa_cons pe_int (pa_cons (pe_op op_fdiv (pe_op op_sub (pe_op op_add (pv 0) (pv 1)) pe_int) (pv 1)) pa_nil))))), ?_⟩
    exact ⟨_, rfl, _, rfl, _, _, rfl, rfl, _, _, rfl, rfl, _, rfl, _, _, rfl, rfl, ⟨by omega, by omega⟩, _, _, rfl, kQ⟩
def spSizes (K : PySem.W.Frag) (P_ C : Addr) : Sp := fun vs H Q E => ∃ (a : Addr) (zs : List Int), vs = [.ref a] ∧ SqL K H a (zs.map V.int) ∧ GxR.TabG H P_ ∧ (¬ okSizes zs → ∀ H', GX.Sm H H' → E (.ref C) none H') ∧ (okSizes zs → ∀ H', GX.Sm H H' → Q .non H')
theorem ok__check_sizes (T : Txt K mg C_ArchiveError C_InvalidFormat C_InvalidArchive C_Format c_plan c__check_sizes P_plan P__check_sizes) : Ok P w K mg base (CXN P w) 3 "_check_sizes" ["sizes"] (spSizes K P__check_sizes C_InvalidArchive) := by
  refine GX.okc_of T.d__check_sizes sc__check_sizes (fun vs H Q E h => ?_) (fun f A outer s H vs Q E hr h => ?_)
  · obtain ⟨a, zs, rfl, _⟩ := h
    rfl
  · obtain ⟨a, zs, rfl, hS, tb, kE, kQ⟩ := h
    have nd := sc__check_sizes.nd
    refine ⟨_,       (pss_cons (ps_if (pt_not (pt_chain op_le op_le pe_int (pe_callB call_len_seq (by rfl) T.n_len PySem.boot_len (pa_cons (pv 0) pa_nil)) (pe_globC rfl T.c_MOST_PARTS)))
        (pss_one (L2N.ps_raise rfl (L2N.takes_of rfl rfl rfl rfl) (L2N.pmk_own PySem.F.excBase_ValueError T.x_InvalidArchive.x T.x_InvalidArchive.g T.x_InvalidArchive.k (raises_own T.x_InvalidArchive.b T.x_InvalidArchive.t) rfl))) pss_nil)
      (pss_one (ps_if (pt_val (GX.pe_anyG (k := 0) (own := [("size", 1)]) (ext := (["size"] : List Str)) (hr.mono (by decide)) (by rfl) T.n_any TBS.t__check_sizes rfl ⟨by show (N__check_sizes ++ (["size"] : List Str)).Nodup; decide +kernel, blkOk_by (N := N__check_sizes ++ (["size"] : List Str)) (sc := defScope s__check_sizes) (by decide +kernel), rfl, by decide +kernel, rfl⟩ (pi_list (pv 0)) (fun _ _ _ _ _ => (pg_name (i := 1) (show (N__check_sizes ++ (["size"] : List Str)).Nodup by decide +kernel) rfl (Or.inl rfl))) (fun _ _ _ _ _ rm => (pe_not (pe_chain op_le op_le pe_int (pv 1) (pe_globC rfl T.c_MOST_OCTETS))))))
        (pss_one (L2N.ps_raise rfl (L2N.takes_of rfl rfl rfl rfl) (L2N.pmk_own PySem.F.excBase_ValueError T.x_InvalidArchive.x T.x_InvalidArchive.g T.x_InvalidArchive.k (raises_own T.x_InvalidArchive.b T.x_InvalidArchive.t) rfl))) pss_nil))), ?_⟩
    refine ⟨_, rfl, a, _, rfl, .inl hS, ?_⟩
    rw [List.length_map]
    refine ⟨_, _, rfl, rfl, _, rfl, itd (fun c1 => ⟨_, _, rfl, rfl, _, rfl, itb (fun c2 => kE (fun z => ?_) _ (GX.Sm.refl _)) (fun c2 => ?_)⟩) (fun c1 => ⟨_, rfl, iteT (kE (fun z => ?_) _ (GX.Sm.refl _))⟩)⟩
    · have := z.2.1
      simp at c2
      omega
    · replace c2 : (zs.length : Int) ≤ 99 := by simpa using c2
      refine ⟨_, rfl, a, rfl, ⟨_, hS⟩, tb, GX.gen_listQ (st := true) (xs := zs.map V.int) (fun i H' => GX.Sm H H' ∧ ∀ z ∈ zs.take i, 0 ≤ z ∧ z ≤ 4000) (fun H2 t2 => ⟨GX.Sm.tabbed tb t2, by simp⟩) (fun i H' _ e => e.1.seq hS) ?_ ?_⟩
      · rintro i x H1 hx ⟨e, hin⟩
        obtain ⟨hi, rfl⟩ := get_ints hx
        have bad : ¬ (0 ≤ zs[i] ∧ zs[i] ≤ 4000) → ¬ okSizes zs := fun hz z => hz (z.2.2 _ (List.getElem_mem hi))
        refine ⟨_, rfl, _, _, rfl, rfl, _, rfl, itd (fun h1 => ⟨_, _, rfl, rfl, _, rfl, ?_⟩) (fun h1 => ⟨_, rfl, true, rfl, if_tt ⟨true, rfl, iteT (kE (bad fun z => h1 z.1) _ e)⟩⟩)⟩
        by_cases h2 : zs[i] ≤ 4000
        · rw [decide_eq_true h2]
          refine ⟨false, rfl, if_ft ⟨e, fun x hxm => ?_⟩⟩
          rw [take_snoc hi] at hxm
          rcases List.mem_append.mp hxm with z | z
          · exact hin x z
          · rw [List.mem_singleton.mp z]
            exact ⟨h1, h2⟩
        · rw [decide_eq_false h2]
          exact ⟨true, rfl, if_tt ⟨true, rfl, iteT (kE (bad fun z => h2 z.2) _ e)⟩⟩
      · rintro H1 ⟨e1, hin⟩
        rw [List.length_map, List.take_length] at hin
        exact ⟨false, rfl, iteF (kQ ⟨by omega, by omega, hin⟩ _ e1)⟩
    · exact c1 (by have := z.1; omega)
-- @@CUT b
def spPlan (K : PySem.W.Frag) (P1 P2 CF C : Addr) : Sp := fun vs H Q E => ∃ (o a : Addr) (s c ls : Int) (zs : List Int), vs = [.ref o, .ref a, .int ls] ∧ FormAt CF H o s c ∧ okForm s c ∧ SqL K H a (zs.map V.int) ∧ GxR.TabG H P1 ∧ GxR.TabG H P2 ∧ (¬ (okSizes zs ∧ 0 ≤ ls) → ∀ H', GX.Sm H H' → E (.ref C) none H') ∧
  (okSizes zs → 0 ≤ ls → ∀ v H', GX.Sm H H' → BestAt K H' v (bestOf (slcs zs (capF s c)) ls 12) → Q v H')
theorem FormAt.sm {C : Addr} {H H' : Hp} {p : Addr} {s c : Int} (e : GX.Sm H H') (h : FormAt C H p s c) : FormAt C H' p s c := h.elim fun dx z => ⟨dx, e.keep _ _ z fun _ z => by cases z⟩
theorem ok_plan (T : Txt K mg C_ArchiveError C_InvalidFormat C_InvalidArchive C_Format c_plan c__check_sizes P_plan P__check_sizes) : Ok P w K mg base (CXN P w) 9 "plan" ["form", "sizes", "losses"] (spPlan K P__check_sizes P_plan C_Format C_InvalidArchive) := by
  have G__check_sizes := ok__check_sizes (P := P) (w := w) (base := base) T
  have G_slice_count := ok_slice_count (P := P) (w := w) (base := base) T
  have G_is_group := ok_is_group (P := P) (w := w) (base := base) T
  have G_all_pages := ok_all_pages (P := P) (w := w) (base := base) T
  have G_Format_capacity := okp_capacity (P := P) (w := w) (base := base) T
  refine GX.okc_of T.d_plan sc_plan (fun vs H Q E h => ?_) (fun f A outer st H vs Q E hr h => ?_)
  · obtain ⟨o, a, s, c, ls, zs, rfl, _⟩ := h
    rfl
  · obtain ⟨o, a, s, c, ls, zs, rfl, hF, hok, hS, tb1, tb2, kE, kQ⟩ := h
    have nd := sc_plan.nd
    have po := passes_of (X := cxOf (CXN P w) P w K mg base N_plan "plan" (defScope s_plan) f (.ref c_plan) A outer st H E) rfl
    have hcap := cap_in hok
    refine ⟨_,       (pss_cons (ps_expr (pe_callO G__check_sizes (hr.mono (by decide)) (passX (L2N.takes_of rfl rfl rfl rfl) (fun _ _ _ z => z)) (pa_cons (pv 1) pa_nil)))
      (pss_cons (ps_if (pt_cmpR op_lt (pv 2) pe_int (nomark _))
        (pss_one (L2N.ps_raise rfl (L2N.takes_of rfl rfl rfl rfl) (L2N.pmk_own PySem.F.excBase_ValueError T.x_InvalidArchive.x T.x_InvalidArchive.g T.x_InvalidArchive.k (raises_own T.x_InvalidArchive.b T.x_InvalidArchive.t) rfl))) pss_nil)
      (pss_cons (ps_set (i := 3) nd rfl (Or.inl rfl) (GX.pe_sumG (k := 6) (own := [("size", 7)]) (ext := (["size"] : List Str)) (hr.mono (by decide)) (by rfl) T.n_sum TBS.t_plan rfl ⟨by show (N_plan ++ (["size"] : List Str)).Nodup; decide +kernel, blkOk_by (N := N_plan ++ (["size"] : List Str)) (sc := defScope s_plan) (by decide +kernel), rfl, by decide +kernel, rfl⟩ (pi_list (pv 1)) (fun _ _ _ _ _ => (pg_name (i := 7) (show (N_plan ++ (["size"] : List Str)).Nodup by decide +kernel) rfl (Or.inl rfl))) (fun _ _ _ _ _ rm => (pe_callO G_slice_count (rm.mono (by decide)) pass0 (pa_cons (pv 7) (pa_cons (CL.pe_propO (pv 0) T.cl_Format G_Format_capacity (rm.mono (by decide)) pass0) pa_nil))))))
      (pss_cons (ps_set (i := 4) nd rfl (Or.inl rfl) pe_non)
      (pss_cons (ps_for po rfl (pi_range2 rfl T.n_range (pa_cons pe_int (pa_cons (pe_op op_add (pe_globC rfl T.c_GREATEST_GROUP) pe_int) pa_nil))) (pg_name (i := 5) nd rfl (Or.inl rfl))
        (pss_cons (ps_if (pt_not (pt_val (pe_callO G_is_group (hr.mono (by decide)) pass0 (pa_cons (pv 5) (pa_cons (pv 2) pa_nil)))))
          (pss_one ps_continue) pss_nil)
        (pss_cons (ps_set (i := 6) nd rfl (Or.inl rfl) (pe_callO G_all_pages (hr.mono (by decide)) pass0 (pa_cons (pv 3) (pa_cons (pv 5) (pa_cons (pv 2) pa_nil)))))
        (pss_one (ps_if (PW.pt (pw_and (pt_cmpR op_le (pv 6) (pe_globC rfl T.c_MOST_PAGES) (nomark _)) (pw_and1 (PW.pt (pw_or (pt_cmpR op_isN (pv 4) pe_non (nomark _)) (pw_or1 (pt_cmpR op_le (pv 6) (pe_ix ix_tup (pv 4) pe_int (fun _ _ => rfl)) (nomark _))))))))
          (pss_one (ps_set (i := 4) nd rfl (Or.inl rfl) (pe_tup (pa_cons (pv 5) (pa_cons (pv 6) pa_nil))))) pss_nil)))))
      (pss_one (ps_ret (pv 4)))))))), ?_⟩
    refine ⟨_, rfl, a, zs, rfl, hS, tb1, fun hn H' e => kE (fun z => hn z.1) H' e, fun hz H0 e0 => ?_⟩
    refine ⟨_, rfl, _, _, rfl, rfl, _, rfl, itd (fun hl => kE (fun z => by have := z.2; omega) _ e0) (fun hl => ?_)⟩
    have hc2 : 2 ≤ c ∧ c ≤ 8 := by have := hok.2.1; omega
    refine ⟨_, rfl, a, rfl, ⟨_, e0.seq hS⟩, e0.tab _ tb2, ?_⟩
    refine GX.sum_it (Q := fun x H1 => gName 3 x _ H1 _) walk_list (fun i t H' => GX.Sm H H' ∧ t = slcs (zs.take i) (capF s c)) (fun H2 t2 => ⟨GX.Sm.trans e0 (GX.Sm.tabbed (e0.tab _ tb2) t2), rfl⟩) (fun i t H' _ h => h.1.seq hS) ?_ ?_
    · rintro i t x H1 H2 hi ⟨e1, rfl⟩ ⟨rfl, hx⟩
      obtain ⟨hi2, rfl⟩ := get_ints hx
      obtain ⟨dx, hp⟩ := hF.sm e1
      refine ⟨_, rfl, _, rfl, o, dx, _, rfl, hp, o, s, c, rfl, ⟨dx, hp⟩, hok.1, hc2, _, _, rfl, hcap.1, hcap.2, _, rfl, e1, ?_⟩
      rw [take_snoc hi2, slcs_snoc]
    · rintro t H1 ⟨e1, rfl⟩
      rw [List.length_map, List.take_length]
      refine ⟨_, _, rfl, rfl, 1, 13, rfl, ⟨by decide, by decide, by decide, by decide⟩, for_range (lo := 1) (n := 12) (fun i σ H' => GX.Sm H H' ∧ ∃ (v4 : V) (v5 v6 : Option V), BestAt K H' v4 (bestOf (slcs zs (capF s c)) ls i) ∧ σ = [some (.ref o), some (.ref a), some (.int ls), some (.int (slcs zs (capF s c))), some v4, v5, v6]) ⟨e1, _, _, _, rfl, rfl⟩ ?_ ?_⟩
      · rintro i σ H2 hi ⟨e2, v4, v5, v6, hB, rfl⟩
        refine ⟨_, rfl, _, rfl, 1 + (i : Int), ls, rfl, fun b hb => ⟨_, rfl, ?_⟩⟩
        cases b with
        | false =>
          refine iteT ⟨e2, v4, _, _, ?_, rfl⟩
          rw [bestOf, bestStep, if_neg fun z => Bool.noConfusion (hb.mpr ⟨by omega, by have := z.1; omega⟩)]
          exact hB
        | true =>
          obtain ⟨h5, h6⟩ := hb.mp rfl
          refine iteF ?_
          refine ⟨_, rfl, _, rfl, _, rfl, _, 1 + (i : Int), ls, rfl, h5.1, h5.2, h6.1, by omega, ?_⟩
          have stay : ¬ better (slcs zs (capF s c)) ls (1 + (i : Int)) (bestOf (slcs zs (capF s c)) ls i) → BestAt K H2 v4 (bestOf (slcs zs (capF s c)) ls (i + 1)) := fun hn => by
            rw [bestOf, bestStep, if_neg hn]
            exact hB
          have take : better (slcs zs (capF s c)) ls (1 + (i : Int)) (bestOf (slcs zs (capF s c)) ls i) → bestOf (slcs zs (capF s c)) ls (i + 1) = some (1 + (i : Int), slcs zs (capF s c) + grp (slcs zs (capF s c)) (1 + (i : Int)) * ls) := fun hy => by
            rw [bestOf, bestStep, if_pos hy]
          refine ⟨_, rfl, _, _, rfl, rfl, _, rfl, itd (fun h7 => ?_) (fun h7 => ⟨e2, v4, _, _, stay fun z => h7 z.2.1, rfl⟩)⟩
          have put : better (slcs zs (capF s c)) ls (1 + (i : Int)) (bestOf (slcs zs (capF s c)) ls i) → ∀ u, H2 u = none → GX.Sm H (upd H2 u (.tup [.int (1 + (i : Int)), .int (slcs zs (capF s c) + grp (slcs zs (capF s c)) (1 + (i : Int)) * ls)])) ∧ BestAt K (upd H2 u (.tup [.int (1 + (i : Int)), .int (slcs zs (capF s c) + grp (slcs zs (capF s c)) (1 + (i : Int)) * ls)])) (.ref u) (bestOf (slcs zs (capF s c)) ls (i + 1)) := fun hy u hu => by
            rw [take hy]
            exact ⟨GX.Sm.trans e2 (GX.Sm.of (same_upd hu)), u, rfl, SqT.of upd_same⟩
          cases hb2 : bestOf (slcs zs (capF s c)) ls i with
          | none =>
            rw [hb2] at hB
            obtain rfl : v4 = .non := hB
            have hy : better (slcs zs (capF s c)) ls (1 + (i : Int)) (bestOf (slcs zs (capF s c)) ls i) := ⟨h6.2, h7, fun q hq => by rw [hb2] at hq; cases hq⟩
            refine ⟨_, rfl, rfl, _, rfl, itd (fun _ => ⟨_, rfl, _, rfl, (by show 2 ≤ sizeLine; decide), fun u hu => ?_⟩) (fun h => absurd rfl h)⟩
            obtain ⟨p1, p2⟩ := put hy u hu
            exact ⟨p1, _, _, _, p2, rfl⟩
          | some q =>
            rw [hb2] at hB
            obtain ⟨t, rfl, hT⟩ := hB
            refine ⟨_, rfl, rfl, _, rfl, itd (fun h => absurd h (by simp)) (fun _ => ?_)⟩
            refine ⟨_, rfl, _, rfl, t, _, _, .int q.2, rfl, rfl, hT, rfl, _, _, rfl, rfl, _, rfl, itd (fun h8 => ?_) (fun h8 => ⟨e2, .ref t, _, _, ?_, rfl⟩)⟩
            · have hy : better (slcs zs (capF s c)) ls (1 + (i : Int)) (bestOf (slcs zs (capF s c)) ls i) := ⟨h6.2, h7, fun q' hq => by rw [hb2] at hq; cases hq; exact h8⟩
              refine ⟨_, rfl, _, rfl, (by show 2 ≤ sizeLine; decide), fun u hu => ?_⟩
              obtain ⟨p1, p2⟩ := put hy u hu
              exact ⟨p1, _, _, _, p2, rfl⟩
            · exact stay fun z => h8 (z.2.2 q hb2)
      · rintro σ H2 ⟨e2, v4, v5, v6, hB, rfl⟩
        exact ⟨_, rfl, kQ hz (by omega) _ _ e2 hB⟩
-- @@CUT c
def spLForm : Sp := fun vs H Q _ => ∃ z : Int, vs = [.int z] ∧ ∀ (u : Addr) (H' : Hp) (s c : Int), Same H H' → H' u = some (.tup [.int s, .int c]) → okForm s c → Q (.ref u) H'
theorem words_ge {s : Int} (h : 18 ≤ s) : 3 ≤ wordsF s := by
  unfold wordsF
  have a : 14 * 14 ≤ (s - 4) * (s - 4) := Int.mul_le_mul (by omega) (by omega) (by decide) (by omega)
  generalize (s - 4) * (s - 4) = z at *
  omega
theorem okForm_big {s c : Int} (h : 18 ≤ s) (h2 : s ≤ 40) (h3 : c = 2 ∨ c = 4 ∨ c = 6 ∨ c = 8) : okForm s c := by
  have hw := words_ge h
  refine ⟨by omega, h3, ?_⟩
  unfold capF bodyF
  rcases h3 with rfl | rfl | rfl | rfl <;> omega
theorem okForm_small {s c : Int} (h : 16 ≤ s) (h2 : s ≤ 40) (h3 : c = 2 ∨ c = 4) : okForm s c := by
  have hw := words_in ⟨h, h2⟩
  refine ⟨by omega, by omega, ?_⟩
  unfold capF bodyF
  rcases h3 with rfl | rfl <;> omega
theorem ok__law_form (T : Txt K mg C_ArchiveError C_InvalidFormat C_InvalidArchive C_Format c_plan c__check_sizes P_plan P__check_sizes) : Ok P w K mg base CX0 1 "_law_form" ["cell"] spLForm := by
  refine ok_of T.d__law_form fun f fd F => F.ok sc__law_form (fun vs H Q E h => ?_) (fun cdv A outer s H vs Q E hr h => ?_)
  · obtain ⟨a, rfl, _⟩ := h
    rfl
  · obtain ⟨a, rfl, kQ⟩ := h
    have nd := sc__law_form.nd
    refine ⟨_,       (pss_cons (ps_set (i := 1) nd rfl (Or.inl rfl) (pe_op op_add pe_int (pe_op op_mod (pv 0) pe_int)))
      (pss_cons (ps_set (i := 2) nd rfl (Or.inl rfl) (pe_op op_add pe_int (pe_op op_mul pe_int (pe_op op_mod (pe_op op_fdiv (pv 0) pe_int) pe_int))))
      (Evl.pss_cut (ps_if (PW.pt (pw_and (pt_cmpR op_lt (pv 1) pe_int (nomark _)) (pw_and1 (pt_cmpR op_gt (pv 2) pe_int (nomark _)))))
        (pss_one (ps_set (i := 2) nd rfl (Or.inl rfl) (pe_op op_sub (pv 2) pe_int))) pss_nil)
      (Evl.pss_cut (ps_if (pt_cmpR op_eq (pe_op op_mod (pe_op op_fdiv (pv 0) pe_int) pe_int) pe_int (nomark _))
        (pss_one (ps_set (i := 1) nd rfl (Or.inl rfl) (pe_op op_add pe_int (pe_op op_mod (pe_op op_fdiv (pv 0) pe_int) pe_int)))) pss_nil)
      (pss_one (ps_ret (pe_tup (pa_cons (pv 1) (pa_cons (pv 2) pa_nil))))))))), ?_⟩
    refine ⟨_, rfl, _, _, rfl, rfl, (by show (0 : Int) < 7; decide), _, _, rfl, rfl, ?_⟩
    refine ⟨_, rfl, _, _, rfl, rfl, ⟨by decide, by decide⟩, _, _, rfl, rfl, (by show (0 : Int) < 4; decide), _, _, rfl, rfl, .inl ⟨by omega, by omega⟩, _, _, rfl, rfl, ?_⟩
    obtain ⟨s, es⟩ : ∃ s, s = 16 + a % 7 := ⟨_, rfl⟩
    obtain ⟨c, ec⟩ : ∃ c, c = 2 + 2 * (a / 7 % 4) := ⟨_, rfl⟩
    have hs : 16 ≤ s ∧ s ≤ 22 := by omega
    have hc : c = 2 ∨ c = 4 ∨ c = 6 ∨ c = 8 := by omega
    try dsimp only
    rw [← es, ← ec]
    refine ⟨fun σ' H' => H = H' ∧ ∃ s c : Int, okForm s c ∧ σ' = [some (.int a), some (.int s), some (.int c)], ?_, ?_⟩
    · refine ⟨_, rfl, _, _, rfl, rfl, _, rfl, itd (fun h1 => ?_) (fun h1 => ⟨rfl, s, c, okForm_big (by omega) (by omega) hc, rfl⟩)⟩
      refine ⟨_, rfl, _, _, rfl, rfl, _, rfl, itd (fun h2 => ?_) (fun h2 => ⟨rfl, s, c, okForm_small (by omega) (by omega) (by omega), rfl⟩)⟩
      exact ⟨_, rfl, _, _, rfl, rfl, rfl, s, c - 4, okForm_small (by omega) (by omega) (by omega), rfl⟩
    clear es ec hs hc s c
    rintro σ1 H1 ⟨rfl, s, c, hok, rfl⟩
    refine ⟨fun σ' H' => H = H' ∧ ∃ s c : Int, okForm s c ∧ σ' = [some (.int a), some (.int s), some (.int c)], ?_, ?_⟩
    · refine ⟨_, rfl, _, _, rfl, rfl, ⟨by decide, by decide⟩, _, _, rfl, rfl, (by show (0 : Int) < 40; decide), rfl, _, rfl, itd (fun h1 => ?_) (fun h1 => ⟨rfl, s, c, hok, rfl⟩)⟩
      exact ⟨_, rfl, _, _, rfl, rfl, ⟨by decide, by decide⟩, _, _, rfl, rfl, (by show (0 : Int) < 18; decide), _, _, rfl, rfl, rfl, 23 + a / 1120 % 18, c, okForm_big (by omega) (by omega) hok.2.1, rfl⟩
    clear hok s c
    rintro σ1 H1 ⟨rfl, s, c, hok, rfl⟩
    exact ⟨_, rfl, _, rfl, (by show 2 ≤ sizeLine; decide), fun u hu => kQ u _ s c (same_upd hu) upd_same hok⟩
def spLPlan (K : PySem.W.Frag) : Sp := fun vs H Q _ => ∃ (cap ls : Int) (p : Addr) (zs : List Int), vs = [.int cap, .ref p, .int ls] ∧ SqL K H p (zs.map V.int) ∧ 1 ≤ cap ∧ cap ≤ 200 ∧ 0 ≤ ls ∧ ls ≤ 17 ∧ ∀ v H', Same H H' → BestAt K H' v (bestOf (slcs zs cap) ls 12) → Q v H'
theorem BestAt.same {K : PySem.W.Frag} {H H' : Hp} {v : V} {b : Option (Int × Int)} (e : Same H H') (h : BestAt K H v b) : BestAt K H' v b := h.mono (GX.Sm.of e)
theorem ok__law_plan (T : Txt K mg C_ArchiveError C_InvalidFormat C_InvalidArchive C_Format c_plan c__check_sizes P_plan P__check_sizes) : Ok P w K mg base CX0 1 "_law_plan" ["capacity", "sizes", "losses"] (spLPlan K) := by
  refine ok_of T.d__law_plan fun f fd F => F.ok sc__law_plan (fun vs H Q E h => ?_) (fun cdv A outer s H vs Q E hr h => ?_)
  · obtain ⟨cap, ls, p, zs, rfl, _⟩ := h
    rfl
  · obtain ⟨cap, ls, p, zs, rfl, hS, h1, h2, h3, h4, kQ⟩ := h
    have nd := sc__law_plan.nd
    refine ⟨_,       (pss_cons (ps_set (i := 3) nd rfl (Or.inl rfl) pe_int)
      (pss_cons (ps_for PassesOwn.never rfl (pi_list (pv 1)) (pg_name (i := 4) nd rfl (Or.inl rfl))
        (pss_one (ps_set (i := 3) nd rfl (Or.inl rfl) (pe_op op_add (pv 3) (pe_callB (call_max2 rfl) (by rfl) T.n_max (by decide +kernel) (pa_cons pe_int (pa_cons (pe_op op_fdiv (pe_op op_sub (pe_op op_add (pv 4) (pv 0)) pe_int) (pv 0)) pa_nil)))))))
      (pss_cons (ps_set (i := 5) nd rfl (Or.inl rfl) pe_non)
      (pss_cons (ps_for PassesOwn.never rfl (pi_range2 rfl T.n_range (pa_cons pe_int (pa_cons pe_int pa_nil))) (pg_name (i := 6) nd rfl (Or.inl rfl))
        (pss_cons (ps_set (i := 7) nd rfl (Or.inl rfl) (pe_op op_add (pv 3) (pe_op op_mul (pe_op op_fdiv (pe_op op_sub (pe_op op_add (pv 3) (pv 6)) pe_int) (pv 6)) (pv 2))))
        (pss_one (ps_if (PW.pt (pw_and (pt_cmpR op_le (pv 2) (pe_op op_sub pe_int (pv 6)) (nomark _)) (pw_and (pt_cmpR op_le (pv 7) pe_int (nomark _)) (pw_and1 (PW.pt (pw_or (pt_cmpR op_isN (pv 5) pe_non (nomark _)) (pw_or1 (pt_cmpR op_le (pv 7) (pe_ix ix_tup (pv 5) pe_int (fun _ _ => rfl)) (nomark _)))))))))
          (pss_one (ps_set (i := 5) nd rfl (Or.inl rfl) (pe_tup (pa_cons (pv 6) (pa_cons (pv 7) pa_nil))))) pss_nil))))
      (pss_one (ps_ret (pv 5))))))), ?_⟩
    refine ⟨_, rfl, p, rfl, ⟨_, hS⟩, for_list (K := K) (a := p) (xs := zs.map V.int) (fun i σ H' => H = H' ∧ ∃ v : Option V, σ = [some (.int cap), some (.ref p), some (.int ls), some (.int (slcs (zs.take i) cap)), v, none, none, none]) ⟨rfl, none, rfl⟩ (fun i σ H' _ ⟨e, _⟩ => e ▸ hS) ?_ ?_⟩
    · rintro i x σ H' hx ⟨rfl, v, rfl⟩
      obtain ⟨hi, rfl⟩ := get_ints hx
      refine ⟨_, rfl, _, rfl, _, rfl, _, _, rfl, rfl, _, _, rfl, rfl, _, rfl, _, _, rfl, rfl, ⟨by omega, by omega⟩, _, _, rfl, _, _, rfl, rfl, rfl, some (.int zs[i]), ?_⟩
      rw [take_snoc hi, slcs_snoc]
      rfl
    · rintro σ H' ⟨rfl, v, rfl⟩
      rw [List.length_map, List.take_length]
      refine ⟨1, 13, rfl, ⟨by decide, by decide, by decide, by decide⟩, for_range (lo := 1) (n := 12) (fun i σ H' => Same H H' ∧ ∃ (v5 : V) (v6 v7 : Option V), BestAt K H' v5 (bestOf (slcs zs cap) ls i) ∧ σ = [some (.int cap), some (.ref p), some (.int ls), some (.int (slcs zs cap)), v, some v5, v6, v7]) ⟨Same.refl _, _, _, _, rfl, rfl⟩ ?_ ?_⟩
      · rintro i σ H2 hi ⟨e2, v4, v5, v6, hB, rfl⟩
        refine ⟨_, rfl, _, rfl, _, rfl, _, _, rfl, rfl, _, _, rfl, rfl, _, rfl, _, _, rfl, rfl, ⟨by omega, by omega⟩, _, rfl, _, _, rfl, rfl, .inr ⟨by omega, by omega⟩, _, _, rfl, rfl, ?_⟩
        have stay : ¬ better (slcs zs cap) ls (1 + (i : Int)) (bestOf (slcs zs cap) ls i) → BestAt K H2 v4 (bestOf (slcs zs cap) ls (i + 1)) := fun hn => by
          rw [bestOf, bestStep, if_neg hn]
          exact hB
        have take : better (slcs zs cap) ls (1 + (i : Int)) (bestOf (slcs zs cap) ls i) → bestOf (slcs zs cap) ls (i + 1) = some (1 + (i : Int), slcs zs cap + grp (slcs zs cap) (1 + (i : Int)) * ls) := fun hy => by
          rw [bestOf, bestStep, if_pos hy]
        refine ⟨_, rfl, _, rfl, _, _, rfl, rfl, _, _, rfl, rfl, _, rfl, itd (fun h6 => ?_) (fun h6 => ⟨e2, v4, _, _, stay fun z => h6 z.1, rfl⟩)⟩
        refine ⟨_, rfl, _, _, rfl, rfl, _, rfl, itd (fun h7 => ?_) (fun h7 => ⟨e2, v4, _, _, stay fun z => h7 z.2.1, rfl⟩)⟩
        have put : better (slcs zs cap) ls (1 + (i : Int)) (bestOf (slcs zs cap) ls i) → ∀ u, H2 u = none → Same H (upd H2 u (.tup [.int (1 + (i : Int)), .int (slcs zs cap + grp (slcs zs cap) (1 + (i : Int)) * ls)])) ∧ BestAt K (upd H2 u (.tup [.int (1 + (i : Int)), .int (slcs zs cap + grp (slcs zs cap) (1 + (i : Int)) * ls)])) (.ref u) (bestOf (slcs zs cap) ls (i + 1)) := fun hy u hu => by
          rw [take hy]
          exact ⟨e2.trans (same_upd hu), u, rfl, SqT.of upd_same⟩
        cases hb2 : bestOf (slcs zs cap) ls i with
        | none =>
          rw [hb2] at hB
          obtain rfl : v4 = .non := hB
          have hy : better (slcs zs cap) ls (1 + (i : Int)) (bestOf (slcs zs cap) ls i) := ⟨h6, h7, fun q hq => by rw [hb2] at hq; cases hq⟩
          refine ⟨_, rfl, rfl, _, rfl, itd (fun _ => ⟨_, rfl, _, rfl, (by show 2 ≤ sizeLine; decide), fun u hu => ?_⟩) (fun h => absurd rfl h)⟩
          obtain ⟨p1, p2⟩ := put hy u hu
          exact ⟨p1, _, _, _, p2, rfl⟩
        | some q =>
          rw [hb2] at hB
          obtain ⟨t, rfl, hT⟩ := hB
          refine ⟨_, rfl, rfl, _, rfl, itd (fun h => absurd h (by simp)) (fun _ => ?_)⟩
          refine ⟨_, rfl, _, rfl, t, _, _, .int q.2, rfl, rfl, hT, rfl, _, _, rfl, rfl, _, rfl, itd (fun h8 => ?_) (fun h8 => ⟨e2, .ref t, _, _, ?_, rfl⟩)⟩
          · have hy : better (slcs zs cap) ls (1 + (i : Int)) (bestOf (slcs zs cap) ls i) := ⟨h6, h7, fun q' hq => by rw [hb2] at hq; cases hq; exact h8⟩
            refine ⟨_, rfl, _, rfl, (by show 2 ≤ sizeLine; decide), fun u hu => ?_⟩
            obtain ⟨p1, p2⟩ := put hy u hu
            exact ⟨p1, _, _, _, p2, rfl⟩
          · exact stay fun z => h8 (z.2.2 q hb2)
      · rintro σ H2 ⟨e2, v4, v5, v6, hB, rfl⟩
        exact ⟨_, rfl, kQ _ _ e2 hB⟩
-- @@LAW
def bestD : Option (Int × Int) → PyData
  | none => .none
  | some q => .tuple ([q.1, q.2].map PyData.int)
theorem dp_best {K : PySem.W.Frag} {H : Hp} {v : V} {b : Option (Int × Int)} (h : BestAt K H v b) : Dp K H v (bestD b) := by
  cases b with
  | none =>
    obtain rfl : v = .non := h
    exact .non
  | some q =>
    obtain ⟨t, rfl, hT⟩ := h
    exact .tup hT (dp_ints [q.1, q.2])
theorem shaped_best (b : Option (Int × Int)) : SeqAt.shaped (bestD b) = true := by
  cases b with
  | none => rfl
  | some q =>
    refine Bool.and_eq_true_iff.mpr ⟨Cm.canLayAll_ints [q.1, q.2], decide_eq_true ?_⟩
    show PyData.depthAll ([q.1, q.2].map PyData.int) + 1 ≤ 64
    rw [Cm.depthAll_ints]
    omega
theorem ok_law0 (T : Txt K mg C_ArchiveError C_InvalidFormat C_InvalidArchive C_Format c_plan c__check_sizes P_plan P__check_sizes) (f : Addr) (fd : FuncData) (F : Fun K "law" "law" s_law f fd) : FnOk P w K mg base CX0 10 f fd ["script"] (GX.spLawT K [P_plan, P__check_sizes]) := by
  have G__law_cell := ok__law_cell (P := P) (w := w) (base := base) T
  have G__law_is_int := ok__law_is_int (P := P) (w := w) (base := base) T
  have G__law_form := ok__law_form (P := P) (w := w) (base := base) T
  have G__law_capacity := ok__law_capacity (P := P) (w := w) (base := base) T
  have G__law_plan := ok__law_plan (P := P) (w := w) (base := base) T
  have G_Format___init__ := oki_Format (P := P) (w := w) (base := base) T
  have G_plan := ok_plan (P := P) (w := w) (base := base) T
  refine F.ok sc_law (fun vs H Q E h => ?_) (fun cdv A outer s H vs Q E hr h => ?_)
  · obtain ⟨a, ns, rfl, _⟩ := h
    rfl
  · obtain ⟨a, ns, rfl, hS, hlen, tb, kQ⟩ := h
    have nd := sc_law.nd
    have hu64 : (A.deeper (envOfC "law" (defScope s_law) s.heap.objs.size f cdv)).units + 64 < cLine := by
      have := hr.un
      omega
    have tb1 : GxR.TabG H P__check_sizes := tb _ (by simp)
    have tb2 : GxR.TabG H P_plan := tb _ (by simp)
    refine ⟨_,       (Evl.pss_cut (ps_asg (pe_callO G__law_form (hr.mono (by decide)) pass0 (pa_cons (pe_callO G__law_cell (hr.mono (by decide)) pass0 (pa_cons (pv 0) (pa_cons pe_int pa_nil))) pa_nil)) (pg_tup rfl (pgs_cons (pg_name (i := 1) nd rfl (Or.inl rfl)) (pgs_cons (pg_name (i := 2) nd rfl (Or.inl rfl)) pgs_nil))))
      (Evl.pss_cut (ps_set (i := 3) nd rfl (Or.inl rfl) (CL.pe_makeO G_Format___init__ (hr.mono (by decide)) passN (pa_cons (pv 1) (pa_cons (pv 2) pa_nil))))
      (Evl.pss_cut (ps_setLc (i := 4) (own := [("k", 5)]) (g := gName 5) (tt := tYes) rfl nd rfl rfl (sw_true rfl rfl rfl (by decide +kernel)) (pi_range1 rfl T.n_range (pa_cons (pe_op op_add pe_int (pe_op op_mod (pe_callO G__law_cell (hr.mono (by decide)) pass0 (pa_cons (pv 0) (pa_cons pe_int pa_nil))) pe_int)) pa_nil)) (blkOk_by (N := N_law) (sc := defScope s_law) (by decide +kernel)) (fun _ _ _ _ _ => (pg_name (i := 5) nd rfl (Or.inl rfl))) (fun _ _ _ _ _ => pts_nil) (fun _ _ _ _ _ => (pe_op op_mod (pe_callO G__law_cell (hr.mono (by decide)) pass0 (pa_cons (pv 0) (pa_cons (pe_op op_add pe_int (pv 5)) pa_nil))) pe_int)))
      (Evl.pss_cut (ps_set (i := 6) nd rfl (Or.inl rfl) (pe_op op_mod (pe_callO G__law_cell (hr.mono (by decide)) pass0 (pa_cons (pv 0) (pa_cons pe_int pa_nil))) pe_int))
      (Evl.pss_cut (ps_if (pt_cmpR op_eq (pe_op op_mod (pe_op op_fdiv (pe_callO G__law_cell (hr.mono (by decide)) pass0 (pa_cons (pv 0) (pa_cons pe_int pa_nil))) pe_int) pe_int) pe_int (nomark _))
        (pss_one (ps_asg (pe_op op_mod (pe_callO G__law_cell (hr.mono (by decide)) pass0 (pa_cons (pv 0) (pa_cons pe_int pa_nil))) pe_int) (pg_sub (pv 4) pe_int set_list))) pss_nil)
      (Evl.pss_cut (ps_set (i := 7) nd rfl (Or.inl rfl) (pe_cmpR op_eq (pe_op op_mod (pe_op op_fdiv (pe_callO G__law_cell (hr.mono (by decide)) pass0 (pa_cons (pv 0) (pa_cons pe_int pa_nil))) pe_int) pe_int) pe_int (nomark _)))
      (Evl.pss_cut (ps_if (pt_val (pv 7))
        (pss_cons (ps_set (i := 8) nd rfl (Or.inl rfl) (pe_op op_mod (pe_callO G__law_cell (hr.mono (by decide)) pass0 (pa_cons (pv 0) (pa_cons pe_int pa_nil))) pe_int))
        (pss_one (ps_if (pt_cmpR op_eq (pv 8) pe_int (nomark _))
          (pss_one (ps_set (i := 4) nd rfl (Or.inl rfl) (pe_lst pa_nil)))
          (pss_one (ps_if (pt_cmpR op_eq (pv 8) pe_int (nomark _))
            (pss_one (ps_set (i := 4) nd rfl (Or.inl rfl) (pe_op op_rep (pe_lst (pa_cons pe_int pa_nil)) pe_int)))
            (pss_one (ps_if (pt_cmpR op_eq (pv 8) pe_int (nomark _))
              (pss_one (ps_set (i := 4) nd rfl (Or.inl rfl) (pe_op op_cat (pv 4) (pe_lst (pa_cons pe_int pa_nil)))))
              (pss_one (ps_if (pt_cmpR op_eq (pv 8) pe_int (nomark _))
                (pss_one (ps_set (i := 4) nd rfl (Or.inl rfl) (pe_op op_cat (pe_lst (pa_cons (pe_un un_neg pe_int) pa_nil)) (pv 4))))
                (pss_one (ps_set (i := 6) nd rfl (Or.inl rfl) (pe_op op_sub (pe_un un_neg pe_int) (pv 6))))))))))))) pss_nil)
      (pss_cons (ps_set (i := 9) nd rfl (Or.inl rfl) (pe_callTy call_list_of (by rfl) T.n_list (by decide +kernel) (pa_cons (pv 4) pa_nil)))
      (pss_cons (L2N.ps_try_as (i := 11) (Wout := fun _ _ _ _ => False) rfl rfl nd rfl rfl ⟨rfl, by decide, Or.inl T.x_ArchiveError.g⟩ takesN
        (fun W pn xe tk po => 
          (pss_one (ps_set (i := 10) nd rfl (Or.inl rfl) (pe_callT G_plan (hr.mono (by decide)) (fun σ => L2N.passAt tk σ) (pa_cons (pv 3) (pa_cons (pv 9) (pa_cons (pv 6) pa_nil)))))))
        (fun a oe cls d pn hz hf => pss_guard (p := cls = .ref C_InvalidArchive ∧ d = none) (fun ee => by obtain ⟨e1, e2⟩ := ee; subst e1 e2; exact 
          (pss_one (ps_ret (pe_and (pe_callB (call_isE T.x_InvalidArchive.e hz.zc hf) (by rfl) T.n_isinstance (by decide +kernel) (pa_cons (pv 11) (pa_cons (pe_globR rfl T.x_InvalidArchive.g) pa_nil))) (pe_and (pv 7) (pe_one (pe_cmpR (op_eqDK (K := K) hu64) (pv 9) (pv 4) (nomark _))))))))))
      (pss_cons (ps_set (i := 12) nd rfl (Or.inl rfl) (pe_callO G__law_plan (hr.mono (by decide)) pass0 (pa_cons (pe_callO G__law_capacity (hr.mono (by decide)) pass0 (pa_cons (pv 1) (pa_cons (pv 2) pa_nil))) (pa_cons (pv 4) (pa_cons (pv 6) pa_nil)))))
      (pss_cons (ps_if (PW.pt (pw_or (pt_val (pv 7)) (pw_or (pt_cmpR (op_neD hu64) (pv 9) (pv 4) (nomark _)) (pw_or1 (pt_cmpR (op_neD hu64) (pv 10) (pv 12) (nomark _))))))
        (pss_one (ps_ret pe_bl)) pss_nil)
      (pss_one (ps_ret (pe_or (pe_cmpR op_isN (pv 12) pe_non (nomark _)) (pe_one (pe_and (pe_callB call_isi (by rfl) T.n_isinstance (by decide +kernel) (pa_cons (pv 10) (pa_cons (pe_bltn (v := .ty "tuple") (by rfl) T.n_tuple (by decide +kernel) rfl) pa_nil))) (pe_and (pe_callO G__law_is_int (hr.mono (by decide)) pass0 (pa_cons (pe_ix ix_tup (pv 10) pe_int (fun _ _ => rfl)) pa_nil)) (pe_one (pe_callO G__law_is_int (hr.mono (by decide)) pass0 (pa_cons (pe_ix ix_tup (pv 10) pe_int (fun _ _ => rfl)) pa_nil)))))))))))))))))))), ?_⟩
    -- side, checks
    refine ⟨fun σ' H' => Same H H' ∧ ∃ s c : Int, okForm s c ∧ σ' = [some (.ref a), some (.int s), some (.int c), none, none, none, none, none, none, none, none, none, none], ?_, ?_⟩
    · exact ⟨_, rfl, a, ns, 0, rfl, hS, cell ns 0, rfl, fun u H' s c e hu hok => ⟨u, _, rfl, SqT.of hu, rfl, _, _, rfl, _, _, rfl, rfl, e, s, c, hok, rfl⟩⟩
    rintro σ0 H0 ⟨e0, s, c, hok, rfl⟩
    -- form
    refine ⟨fun σ' H' => Same H H' ∧ ∃ o : Addr, FormAt C_Format H' o s c ∧ σ' = [some (.ref a), some (.int s), some (.int c), some (.ref o), none, none, none, none, none, none, none, none, none], ?_, ?_⟩
    · refine ⟨_, rfl, _, rfl, fun o d hno hnd hdo => ⟨o, d, s, c, rfl, upd_same, fun hn => absurd hok hn, fun _ H2 sb hf => ⟨rfl, fun b x hb => ?_, o, hf, rfl⟩⟩⟩
      have hb0 := e0 _ _ hb
      have ne : b ≠ o := fun z => by
        rw [z, hno] at hb0
        cases hb0
      have nd2 : b ≠ d := fun z => by
        rw [z, hnd] at hb0
        cases hb0
      refine sb b x ?_ ne
      rw [upd_ne ne]
      first | exact hb0 | (rw [upd_ne nd2]; exact hb0)
    rintro σ1 H1 ⟨e1, o, hF1, rfl⟩
    -- sizes
    refine ⟨fun σ' H' => Same H H' ∧ ∃ (p : Addr) (zs : List Int), H p = none ∧ FormAt C_Format H' o s c ∧ okSizes zs ∧ H' p = some (.lst (zs.map V.int)) ∧ zs.length ≤ 6 ∧ σ' = [some (.ref a), some (.int s), some (.int c), some (.ref o), some (.ref p), none, none, none, none, none, none, none, none], ?_, ?_⟩
    · have hn := Int.emod_nonneg (cell ns 1) (b := 6) (by decide)
      have hn2 := Int.emod_lt_of_pos (cell ns 1) (b := 6) (by decide)
      refine ⟨_, rfl, a, ns, 1, rfl, e1.seq hS, _, _, rfl, rfl, (by show (0 : Int) < 6; decide), _, _, rfl, rfl, 1 + cell ns 1 % 6, rfl, by omega, by omega, fun D hD => lc_range (lo := 0) (n := (1 + cell ns 1 % 6).toNat) (fun i H' => Same H1 H' ∧ ∃ zs : List Int, zs.length = i ∧ (∀ z ∈ zs, 0 ≤ z ∧ z ≤ 4000) ∧ H' D = some (.lst (zs.map V.int))) ⟨same_upd hD, [], rfl, by simp, upd_same⟩ ?_ ?_⟩
      · rintro i H' hi ⟨e, zs, hzl, hz, hDl⟩
        refine ⟨rfl, ?_⟩
        dsimp only [tYes]
        try rw [if_pos rfl]
        have ei : (3 : Int) + (0 + (i : Int)) = ((3 + i : Nat) : Int) := by omega
        refine ⟨_, rfl, _, rfl, _, _, rfl, rfl, a, ns, 3 + i, (by show [V.ref a, V.int (3 + (0 + (i : Int)))] = _; rw [ei]), (e1.trans e).seq hS, _, _, rfl, rfl, (by show (0 : Int) < 301; decide), _, hDl, small (by rw [List.length_map]; omega), same_new e hD, zs ++ [cell ns (3 + i) % 301], ?_, ?_, ?_⟩
        · rw [List.length_append, hzl]
          rfl
        · intro z hz2
          rcases List.mem_append.mp hz2 with q | q
          · exact hz z q
          · rw [List.mem_singleton.mp q]
            omega
        · rw [upd_same, List.map_append]
          rfl
      · rintro H' ⟨e, zs, hzl, hz, hDl⟩
        exact ⟨e1.trans e, D, zs, e1.free hD, hF1.mono e, ⟨by omega, by omega, hz⟩, hDl, by omega, rfl⟩
    rintro σ2 H2 ⟨e2, p, zs, hp0, hF2, hz, hp, hzl, rfl⟩
    -- losses
    refine ⟨fun σ' H' => H2 = H' ∧ ∃ ls : Int, 0 ≤ ls ∧ ls ≤ 17 ∧ σ' = [some (.ref a), some (.int s), some (.int c), some (.ref o), some (.ref p), none, some (.int ls), none, none, none, none, none, none], ?_, ?_⟩
    · exact ⟨_, rfl, a, ns, 2, rfl, e2.seq hS, _, _, rfl, rfl, (by show (0 : Int) < 18; decide), rfl, cell ns 2 % 18, by omega, by omega, rfl⟩
    rintro σ3 H3 ⟨rfl, ls, hl0, hl17, rfl⟩
    -- sizes[0]
    refine ⟨fun σ' H' => Same H H' ∧ ∃ zs : List Int, FormAt C_Format H' o s c ∧ okSizes zs ∧ H' p = some (.lst (zs.map V.int)) ∧ zs.length ≤ 6 ∧ σ' = [some (.ref a), some (.int s), some (.int c), some (.ref o), some (.ref p), none, some (.int ls), none, none, none, none, none, none], ?_, ?_⟩
    · refine ⟨_, rfl, a, ns, 1, rfl, e2.seq hS, _, _, rfl, rfl, ⟨by decide, by decide⟩, _, _, rfl, rfl, (by show (0 : Int) < 8; decide), rfl, _, rfl, itd (fun _ => ?_) (fun _ => ⟨e2, zs, hF2, hz, hp, hzl, rfl⟩)⟩
      refine ⟨_, rfl, a, ns, 9, rfl, e2.seq hS, _, _, rfl, rfl, (by show (0 : Int) < 4001; decide), _, rfl, p, _, _, 0, rfl, rfl, hp, ix_nat (by omega) (by rw [List.length_map]; exact hz.1), ?_⟩
      refine ⟨same_new e2 hp0, zs.set 0 (cell ns 9 % 4001), ?_, ⟨?_, ?_, ?_⟩, ?_, ?_, rfl⟩
      · obtain ⟨dx, q⟩ := hF2
        refine ⟨dx, ?_⟩
        rw [upd_ne fun z => ?_]
        · exact q
        · rw [z, hp] at q
          cases q
      · rw [List.length_set]
        exact hz.1
      · rw [List.length_set]
        exact hz.2.1
      · intro z hzm
        rcases List.mem_or_eq_of_mem_set hzm with q | q
        · exact hz.2.2 z q
        · omega
      · rw [upd_same, ← List.map_set]
      · rw [List.length_set]
        exact hzl
    clear hp hz hF2 hzl e2 zs
    rintro σ4 H4 ⟨e4, zs, hF4, hz, hp, hzl, rfl⟩
    -- odd
    refine ⟨fun σ' H' => H4 = H' ∧ ∃ b : Bool, σ' = [some (.ref a), some (.int s), some (.int c), some (.ref o), some (.ref p), none, some (.int ls), some (.bl b), none, none, none, none, none], ?_, ?_⟩
    · exact ⟨_, rfl, a, ns, 1, rfl, e4.seq hS, _, _, rfl, rfl, ⟨by decide, by decide⟩, _, _, rfl, rfl, (by show (0 : Int) < 8; decide), rfl, rfl, _, rfl⟩
    rintro σ5 H5 ⟨rfl, b, rfl⟩
    refine ⟨fun σ' H' => Same H H' ∧ ∃ (p : Addr) (zs : List Int) (ls : Int) (v8 : Option V), FormAt C_Format H' o s c ∧ (b = true → ¬ (okSizes zs ∧ 0 ≤ ls)) ∧ (b = false → okSizes zs ∧ 0 ≤ ls ∧ ls ≤ 17) ∧ SqL K H' p (zs.map V.int) ∧ σ' = [some (.ref a), some (.int s), some (.int c), some (.ref o), some (.ref p), none, some (.int ls), some (.bl b), v8, none, none, none, none], ?_, ?_⟩
    · refine ⟨_, rfl, b, rfl, ?_⟩
      cases b with
      | false => exact iteF ⟨e4, p, zs, ls, none, hF4, fun z => Bool.noConfusion z, fun _ => ⟨hz, hl0, hl17⟩, SqL.of hp, rfl⟩
      | true =>
        refine iteT ?_
        refine ⟨_, rfl, a, ns, 9, rfl, e4.seq hS, _, _, rfl, rfl, (by show (0 : Int) < 5; decide), ?_⟩
        have fin : ∀ {p' : Addr} {zs' : List Int} {ls' : Int} {H' : Hp} {v8 : Option V}, Same H4 H' → ¬ (okSizes zs' ∧ 0 ≤ ls') → SqL K H' p' (zs'.map V.int) → Same H H' ∧ ∃ (p : Addr) (zs : List Int) (ls : Int) (v8_1 : Option V), FormAt C_Format H' o s c ∧ (true = true → ¬ (okSizes zs ∧ 0 ≤ ls)) ∧ (true = false → okSizes zs ∧ 0 ≤ ls ∧ ls ≤ 17) ∧ SqL K H' p (zs.map V.int) ∧ [some (.ref a), some (.int s), some (.int c), some (.ref o), some (.ref p'), none, some (.int ls'), some (.bl true), v8, none, none, none, none] = [some (.ref a), some (.int s), some (.int c), some (.ref o), some (.ref p), none, some (V.int ls), some (.bl true), v8_1, none, none, none, none] :=
          fun e hn hs => ⟨e4.trans e, _, _, _, _, hF4.mono e, fun _ => hn, fun z => Bool.noConfusion z, hs, rfl⟩
        refine ⟨_, rfl, rfl, _, rfl, itd (fun _ => ⟨by decide, fun l hl => fin (zs' := []) (same_upd hl) (fun z => by have := z.1.1; simp at this) (SqL.of upd_same)⟩) (fun _ => ?_)⟩
        refine ⟨_, rfl, rfl, _, rfl, itd (fun _ => ?_) (fun _ => ?_)⟩
        · refine ⟨by decide, fun l hl => ⟨_, _, _, rfl, rfl, upd_same, by decide, by decide, (by show List.length [V.int 0] * Int.toNat 100 ≤ sizeLine; decide), fun r hr => ?_⟩⟩
          refine fin (zs' := List.replicate 100 0) ((same_upd hl).trans (same_upd hr)) (fun z => by have := z.1.2.1; simp at this) (SqL.of ?_)
          rw [upd_same]
          rfl
        refine ⟨_, rfl, rfl, _, rfl, itd (fun _ => ?_) (fun _ => ?_)⟩
        · refine ⟨_, rfl, by decide, fun l hl => ?_⟩
          refine ⟨p, l, _, _, rfl, rfl, (same_upd hl) _ _ hp, upd_same, smallE (by rw [List.length_map]; show zs.length + 1 ≤ _; omega), fun r hr => ?_⟩
          refine fin (zs' := zs ++ [4001]) ((same_upd hl).trans (same_upd hr)) (fun z => by have := z.1.2.2 4001 (by simp); omega) (SqL.of ?_)
          rw [upd_same, List.map_append]
          rfl
        refine ⟨_, rfl, rfl, _, rfl, itd (fun _ => ?_) (fun _ => ?_)⟩
        · refine ⟨_, rfl, by decide, fun l hl => ?_⟩
          refine ⟨_, rfl, l, p, _, _, rfl, rfl, upd_same, (same_upd hl) _ _ hp, smallE (by rw [List.length_map]; show 1 + zs.length ≤ _; omega), fun r hr => ?_⟩
          refine fin (zs' := -1 :: zs) ((same_upd hl).trans (same_upd hr)) (fun z => by have := z.1.2.2 (-1) (by simp); omega) (SqL.of ?_)
          rw [upd_same]
          rfl
        · exact ⟨_, rfl, _, rfl, _, _, rfl, rfl, fin (Same.refl _) (fun z => by have := z.2; omega) (SqL.of hp)⟩
    clear hp hz hF4 e4 zs hl0 hl17 ls hzl
    rintro σ6 H6 ⟨e6, p, zs, ls, v8, hF6, hbT, hbF, hp, rfl⟩
    -- copy
    refine ⟨_, rfl, p, _, rfl, .inl hp, fun q hq => ?_⟩
    have g7 := same_upd (o := .lst (zs.map V.int)) hq
    have hp7 := g7.seq hp
    have hq7 : SqL K (upd H6 q (.lst (zs.map V.int))) q (zs.map V.int) := SqL.of upd_same
    have hF7 := hF6.mono g7
    have E7 := GX.Sm.of (e6.trans g7)
    generalize upd H6 q (.lst (zs.map V.int)) = H7 at hp7 hq7 hF7 E7 ⊢
    refine ⟨_, rfl, _, rfl, _, rfl, o, q, s, c, ls, zs, rfl, hF7, hok, hq7, E7.tab _ tb1, E7.tab _ tb2, fun hn H8 e8 => ?_, fun hz hl0 v H8 e8 hB => ?_⟩
    · have hbt : b = true := by
        cases b with
        | true => rfl
        | false => exact absurd ⟨(hbF rfl).1, (hbF rfl).2.1⟩ hn
      subst hbt
      refine ⟨true, exm_own T.x_ArchiveError.toXB T.s_InvalidArchive_ArchiveError, fun _ ea hea => ⟨⟨rfl, rfl⟩, ?_⟩, fun q => nomatch q⟩
      refine ⟨_, rfl, _, _, true, rfl, fun _ h => h, T.q_InvalidArchive_InvalidArchive, _, rfl, iteT ⟨_, rfl, _, rfl, iteT ⟨_, rfl, _, rfl, _, _, dp_list (e8.seq hq7), dp_list (e8.seq hp7), shaped_ints _, shaped_ints _, ?_⟩⟩⟩
      exact to_true (eqv_refl' (shaped_ints _)) (kQ _)
    · have hbf : b = false := by
        cases b with
        | false => rfl
        | true => exact absurd ⟨hz, hl0⟩ (hbT rfl)
      subst hbf
      have hl17 := (hbF rfl).2.2
      have hcap := cap_in hok
      refine ⟨_, rfl, _, rfl, s, c, rfl, hok.1, _, rfl, _, rfl, _, ls, p, zs, rfl, e8.seq hp7, hcap.1, hcap.2, hl0, hl17, fun v9 H9 e9 hB9 => ?_⟩
      have E9 := e8.trans (GX.Sm.of e9)
      refine ⟨_, rfl, false, rfl, iteF ?_⟩
      refine ⟨_, rfl, _, rfl, _, _, dp_list (E9.seq hq7), dp_list (E9.seq hp7), shaped_ints _, shaped_ints _, ne_noG (eqv_refl' (shaped_ints _)) ?_⟩
      refine ⟨_, rfl, _, rfl, _, _, dp_best (hB.same e9), dp_best hB9, shaped_best _, shaped_best _, ne_noG (eqv_refl' (shaped_best _)) ?_⟩
      have hB10 := hB.same e9
      revert hB10 hB9
      generalize bestOf (slcs zs (capF s c)) ls 12 = bb
      intro hB9 hB10
      cases bb with
      | none =>
        obtain rfl : v9 = .non := hB9
        exact ⟨_, rfl, rfl, _, rfl, iteT (kQ _)⟩
      | some z =>
        obtain ⟨t, rfl, hT⟩ := hB9
        obtain ⟨t2, rfl, hT2⟩ := hB10
        refine ⟨_, rfl, rfl, _, rfl, iteF ?_⟩
        refine ⟨_, rfl, _, _, _, _, true, rfl, .ty _, tyx_tuple hT2, kit_ty (by decide +kernel), true, rfl, iteT ?_⟩
        refine ⟨_, rfl, t2, _, _, .int z.1, rfl, rfl, hT2, rfl, z.1, rfl, true, rfl, iteT ?_⟩
        exact ⟨_, rfl, t2, _, _, .int z.2, rfl, rfl, hT2, rfl, z.2, rfl, kQ _⟩

end
def names : List Str := ["plan", "_check_sizes"]
theorem law_mk {P : Program} {w : World} {K : PySem.W.Frag} {mg : Str → Option Value} {C_ArchiveError C_InvalidFormat C_InvalidArchive C_Format c_plan c__check_sizes P_plan P__check_sizes : Addr} {C_fa : Addr} (T : Txt K mg C_ArchiveError C_InvalidFormat C_InvalidArchive C_Format c_plan c__check_sizes P_plan P__check_sizes) (hfa : mg "law" = some (.ref C_fa)) (tb_plan : PySem.W.tabIn K "plan" = some (c_plan, P_plan)) (tb__check_sizes : PySem.W.tabIn K "_check_sizes" = some (c__check_sizes, P__check_sizes)) : ∃ (fd : FuncData) (cs : List (Str × Addr × Addr)), (∀ t ∈ cs, t.1 ∈ names ∧ PySem.W.tabIn K t.1 = some t.2) ∧ (∀ (s : Shared) (v : Value), BindsTo s fd ⟨[v], []⟩ [("script", v)]) ∧ ∀ base : Heap, K.In base → base.Ns mainGlobals mg → (∀ t ∈ cs, LamX.TabB base mg t.2.1 t.2.2) → FnOk P w K mg base CX0 10 C_fa fd ["script"] (GX.spLawT K (cs.map (·.2.2))) := by
  obtain ⟨f, fd, F, g, b⟩ := id T.d_law
  have e := hfa.symm.trans g
  cases e
  refine ⟨fd, [("plan", c_plan, P_plan), ("_check_sizes", c__check_sizes, P__check_sizes)], fun t ht => ?_, fun s v => ?_, fun base _ _ hT => ?_⟩
  · simp only [List.mem_cons, List.not_mem_nil, or_false] at ht
    rcases ht with rfl | rfl
    · exact ⟨.head _, tb_plan⟩
    · exact ⟨.tail _ (.head _), tb__check_sizes⟩
  · obtain ⟨oc, od, kV, doc, pm, an, cdv, ct, osl, rfl, lk, hcd⟩ := F.ex
    exact .of_eq rfl
  · haveI : Tbs base mg c_plan c__check_sizes P_plan P__check_sizes := ⟨GX.tb_of (hT ("plan", c_plan, P_plan) (by simp)), GX.tb_of (hT ("_check_sizes", c__check_sizes, P__check_sizes) (by simp))⟩
    exact ok_law0 T _ fd F
theorem law_end {P : Program} {w : World} {K : PySem.W.Frag} {h : Heap} {mg : Str → Option Value} {C_fa : Addr} {C_ArchiveError C_InvalidFormat C_InvalidArchive C_Format c_plan c__check_sizes P_plan P__check_sizes : Addr} {f_is_group : Addr} {oc_is_group kV_is_group dc_is_group pm_is_group cd_is_group ct_is_group : Value} {od_is_group an_is_group : Option Addr} {sl_is_group : Array (Option Value)} {f_group_count : Addr} {oc_group_count kV_group_count dc_group_count pm_group_count cd_group_count ct_group_count : Value} {od_group_count an_group_count : Option Addr} {sl_group_count : Array (Option Value)} {f_all_pages : Addr} {oc_all_pages kV_all_pages dc_all_pages pm_all_pages cd_all_pages ct_all_pages : Value} {od_all_pages an_all_pages : Option Addr} {sl_all_pages : Array (Option Value)} {f_slice_count : Addr} {oc_slice_count kV_slice_count dc_slice_count pm_slice_count cd_slice_count ct_slice_count : Value} {od_slice_count an_slice_count : Option Addr} {sl_slice_count : Array (Option Value)} {f_plan : Addr} {oc_plan kV_plan dc_plan pm_plan ct_plan : Value} {od_plan an_plan : Option Addr} {sl_plan : Array (Option Value)} {f__check_sizes : Addr} {oc__check_sizes kV__check_sizes dc__check_sizes pm__check_sizes ct__check_sizes : Value} {od__check_sizes an__check_sizes : Option Addr} {sl__check_sizes : Array (Option Value)} {f__law_cell : Addr} {oc__law_cell kV__law_cell dc__law_cell pm__law_cell cd__law_cell ct__law_cell : Value} {od__law_cell an__law_cell : Option Addr} {sl__law_cell : Array (Option Value)} {f__law_is_int : Addr} {oc__law_is_int kV__law_is_int dc__law_is_int pm__law_is_int cd__law_is_int ct__law_is_int : Value} {od__law_is_int an__law_is_int : Option Addr} {sl__law_is_int : Array (Option Value)} {f__law_form : Addr} {oc__law_form kV__law_form dc__law_form pm__law_form cd__law_form ct__law_form : Value} {od__law_form an__law_form : Option Addr} {sl__law_form : Array (Option Value)} {f__law_words : Addr} {oc__law_words kV__law_words dc__law_words pm__law_words cd__law_words ct__law_words : Value} {od__law_words an__law_words : Option Addr} {sl__law_words : Array (Option Value)} {f__law_body_size : Addr} {oc__law_body_size kV__law_body_size dc__law_body_size pm__law_body_size cd__law_body_size ct__law_body_size : Value} {od__law_body_size an__law_body_size : Option Addr} {sl__law_body_size : Array (Option Value)} {f__law_capacity : Addr} {oc__law_capacity kV__law_capacity dc__law_capacity pm__law_capacity cd__law_capacity ct__law_capacity : Value} {od__law_capacity an__law_capacity : Option Addr} {sl__law_capacity : Array (Option Value)} {f__law_plan : Addr} {oc__law_plan kV__law_plan dc__law_plan pm__law_plan cd__law_plan ct__law_plan : Value} {od__law_plan an__law_plan : Option Addr} {sl__law_plan : Array (Option Value)} {f_law : Addr} {oc_law kV_law dc_law pm_law cd_law ct_law : Value} {od_law an_law : Option Addr} {sl_law : Array (Option Value)} {f_Format___init__ : Addr} {oc_Format___init__ kV_Format___init__ dc_Format___init__ pm_Format___init__ cd_Format___init__ ct_Format___init__ : Value} {od_Format___init__ an_Format___init__ : Option Addr} {sl_Format___init__ : Array (Option Value)} {f_Format_data_symbols : Addr} {oc_Format_data_symbols kV_Format_data_symbols dc_Format_data_symbols pm_Format_data_symbols cd_Format_data_symbols ct_Format_data_symbols : Value} {od_Format_data_symbols an_Format_data_symbols : Option Addr} {sl_Format_data_symbols : Array (Option Value)} {p_Format_data_symbols : Addr} {rs_Format_data_symbols : List Value} {f_Format_codewords : Addr} {oc_Format_codewords kV_Format_codewords dc_Format_codewords pm_Format_codewords cd_Format_codewords ct_Format_codewords : Value} {od_Format_codewords an_Format_codewords : Option Addr} {sl_Format_codewords : Array (Option Value)} {p_Format_codewords : Addr} {rs_Format_codewords : List Value} {f_Format_body_size : Addr} {oc_Format_body_size kV_Format_body_size dc_Format_body_size pm_Format_body_size cd_Format_body_size ct_Format_body_size : Value} {od_Format_body_size an_Format_body_size : Option Addr} {sl_Format_body_size : Array (Option Value)} {p_Format_body_size : Addr} {rs_Format_body_size : List Value} {f_Format_capacity : Addr} {oc_Format_capacity kV_Format_capacity dc_Format_capacity pm_Format_capacity cd_Format_capacity ct_Format_capacity : Value} {od_Format_capacity an_Format_capacity : Option Addr} {sl_Format_capacity : Array (Option Value)} {p_Format_capacity : Addr} {rs_Format_capacity : List Value} {p_CHECKS : Addr} {od_CHECKS : Option Addr} {sl_CHECKS : Array (Option Value)} {n_CHECKS : Nat} {t0_CHECKS t1_CHECKS t2_CHECKS t3_CHECKS : Tok} {t_LEAST_SIDE : Tok} {t_GREATEST_SIDE : Tok} {t_CODEWORD_SIZE : Tok} {t_MARGIN : Tok} {t_SYMBOL_CELLS : Tok} {t_HEAD_SYMBOLS : Tok} {t_GREATEST_GROUP : Tok} {t_MOST_GROUP_PAGES : Tok} {t_MOST_PAGES : Tok} {t_MOST_PARTS : Tok} {t_MOST_OCTETS : Tok} {cc_plan : Value} {ce_plan : Option Addr} {cf_plan : Array Value} {cg_plan : Array (Option Value)} {cc__check_sizes : Value} {ce__check_sizes : Option Addr} {cf__check_sizes : Array Value} {cg__check_sizes : Array (Option Value)} (X : K.In h) (G : h.Ns mainGlobals mg) (hfa : mg "law" = some (.ref C_fa))
    (a_is_group : PySem.W.nsIn K mainGlobals "is_group" = some (some (.ref f_is_group)))
    (l_is_group : K.lookup f_is_group = some ⟨oc_is_group, od_is_group, .func (PySem.W.fnOf "is_group" "is_group" (defArgs s_is_group) (defBody s_is_group) (defScope s_is_group) .none kV_is_group dc_is_group pm_is_group an_is_group cd_is_group ct_is_group), sl_is_group⟩)
    (c_is_group : PySem.W.codeIn K cd_is_group "is_group" = true)
    (k_is_group : PySem.W.keepIn K (.ref f_is_group) = true)
    (a_group_count : PySem.W.nsIn K mainGlobals "group_count" = some (some (.ref f_group_count)))
    (l_group_count : K.lookup f_group_count = some ⟨oc_group_count, od_group_count, .func (PySem.W.fnOf "group_count" "group_count" (defArgs s_group_count) (defBody s_group_count) (defScope s_group_count) .none kV_group_count dc_group_count pm_group_count an_group_count cd_group_count ct_group_count), sl_group_count⟩)
    (c_group_count : PySem.W.codeIn K cd_group_count "group_count" = true)
    (k_group_count : PySem.W.keepIn K (.ref f_group_count) = true)
    (a_all_pages : PySem.W.nsIn K mainGlobals "all_pages" = some (some (.ref f_all_pages)))
    (l_all_pages : K.lookup f_all_pages = some ⟨oc_all_pages, od_all_pages, .func (PySem.W.fnOf "all_pages" "all_pages" (defArgs s_all_pages) (defBody s_all_pages) (defScope s_all_pages) .none kV_all_pages dc_all_pages pm_all_pages an_all_pages cd_all_pages ct_all_pages), sl_all_pages⟩)
    (c_all_pages : PySem.W.codeIn K cd_all_pages "all_pages" = true)
    (k_all_pages : PySem.W.keepIn K (.ref f_all_pages) = true)
    (a_slice_count : PySem.W.nsIn K mainGlobals "slice_count" = some (some (.ref f_slice_count)))
    (l_slice_count : K.lookup f_slice_count = some ⟨oc_slice_count, od_slice_count, .func (PySem.W.fnOf "slice_count" "slice_count" (defArgs s_slice_count) (defBody s_slice_count) (defScope s_slice_count) .none kV_slice_count dc_slice_count pm_slice_count an_slice_count cd_slice_count ct_slice_count), sl_slice_count⟩)
    (c_slice_count : PySem.W.codeIn K cd_slice_count "slice_count" = true)
    (k_slice_count : PySem.W.keepIn K (.ref f_slice_count) = true)
    (a_plan : PySem.W.nsIn K mainGlobals "plan" = some (some (.ref f_plan)))
    (l_plan : K.lookup f_plan = some ⟨oc_plan, od_plan, .func (PySem.W.fnOf "plan" "plan" (defArgs s_plan) (defBody s_plan) (defScope s_plan) .none kV_plan dc_plan pm_plan an_plan (.ref c_plan) ct_plan), sl_plan⟩)
    (e_plan : PySem.W.codeIn K (.ref c_plan) "plan" = true)
    (k_plan : PySem.W.keepIn K (.ref f_plan) = true)
    (a__check_sizes : PySem.W.nsIn K mainGlobals "_check_sizes" = some (some (.ref f__check_sizes)))
    (l__check_sizes : K.lookup f__check_sizes = some ⟨oc__check_sizes, od__check_sizes, .func (PySem.W.fnOf "_check_sizes" "_check_sizes" (defArgs s__check_sizes) (defBody s__check_sizes) (defScope s__check_sizes) .none kV__check_sizes dc__check_sizes pm__check_sizes an__check_sizes (.ref c__check_sizes) ct__check_sizes), sl__check_sizes⟩)
    (e__check_sizes : PySem.W.codeIn K (.ref c__check_sizes) "_check_sizes" = true)
    (k__check_sizes : PySem.W.keepIn K (.ref f__check_sizes) = true)
    (a__law_cell : PySem.W.nsIn K mainGlobals "_law_cell" = some (some (.ref f__law_cell)))
    (l__law_cell : K.lookup f__law_cell = some ⟨oc__law_cell, od__law_cell, .func (PySem.W.fnOf "_law_cell" "_law_cell" (defArgs s__law_cell) (defBody s__law_cell) (defScope s__law_cell) .none kV__law_cell dc__law_cell pm__law_cell an__law_cell cd__law_cell ct__law_cell), sl__law_cell⟩)
    (c__law_cell : PySem.W.codeIn K cd__law_cell "_law_cell" = true)
    (k__law_cell : PySem.W.keepIn K (.ref f__law_cell) = true)
    (a__law_is_int : PySem.W.nsIn K mainGlobals "_law_is_int" = some (some (.ref f__law_is_int)))
    (l__law_is_int : K.lookup f__law_is_int = some ⟨oc__law_is_int, od__law_is_int, .func (PySem.W.fnOf "_law_is_int" "_law_is_int" (defArgs s__law_is_int) (defBody s__law_is_int) (defScope s__law_is_int) .none kV__law_is_int dc__law_is_int pm__law_is_int an__law_is_int cd__law_is_int ct__law_is_int), sl__law_is_int⟩)
    (c__law_is_int : PySem.W.codeIn K cd__law_is_int "_law_is_int" = true)
    (k__law_is_int : PySem.W.keepIn K (.ref f__law_is_int) = true)
    (a__law_form : PySem.W.nsIn K mainGlobals "_law_form" = some (some (.ref f__law_form)))
    (l__law_form : K.lookup f__law_form = some ⟨oc__law_form, od__law_form, .func (PySem.W.fnOf "_law_form" "_law_form" (defArgs s__law_form) (defBody s__law_form) (defScope s__law_form) .none kV__law_form dc__law_form pm__law_form an__law_form cd__law_form ct__law_form), sl__law_form⟩)
    (c__law_form : PySem.W.codeIn K cd__law_form "_law_form" = true)
    (k__law_form : PySem.W.keepIn K (.ref f__law_form) = true)
    (a__law_words : PySem.W.nsIn K mainGlobals "_law_words" = some (some (.ref f__law_words)))
    (l__law_words : K.lookup f__law_words = some ⟨oc__law_words, od__law_words, .func (PySem.W.fnOf "_law_words" "_law_words" (defArgs s__law_words) (defBody s__law_words) (defScope s__law_words) .none kV__law_words dc__law_words pm__law_words an__law_words cd__law_words ct__law_words), sl__law_words⟩)
    (c__law_words : PySem.W.codeIn K cd__law_words "_law_words" = true)
    (k__law_words : PySem.W.keepIn K (.ref f__law_words) = true)
    (a__law_body_size : PySem.W.nsIn K mainGlobals "_law_body_size" = some (some (.ref f__law_body_size)))
    (l__law_body_size : K.lookup f__law_body_size = some ⟨oc__law_body_size, od__law_body_size, .func (PySem.W.fnOf "_law_body_size" "_law_body_size" (defArgs s__law_body_size) (defBody s__law_body_size) (defScope s__law_body_size) .none kV__law_body_size dc__law_body_size pm__law_body_size an__law_body_size cd__law_body_size ct__law_body_size), sl__law_body_size⟩)
    (c__law_body_size : PySem.W.codeIn K cd__law_body_size "_law_body_size" = true)
    (k__law_body_size : PySem.W.keepIn K (.ref f__law_body_size) = true)
    (a__law_capacity : PySem.W.nsIn K mainGlobals "_law_capacity" = some (some (.ref f__law_capacity)))
    (l__law_capacity : K.lookup f__law_capacity = some ⟨oc__law_capacity, od__law_capacity, .func (PySem.W.fnOf "_law_capacity" "_law_capacity" (defArgs s__law_capacity) (defBody s__law_capacity) (defScope s__law_capacity) .none kV__law_capacity dc__law_capacity pm__law_capacity an__law_capacity cd__law_capacity ct__law_capacity), sl__law_capacity⟩)
    (c__law_capacity : PySem.W.codeIn K cd__law_capacity "_law_capacity" = true)
    (k__law_capacity : PySem.W.keepIn K (.ref f__law_capacity) = true)
    (a__law_plan : PySem.W.nsIn K mainGlobals "_law_plan" = some (some (.ref f__law_plan)))
    (l__law_plan : K.lookup f__law_plan = some ⟨oc__law_plan, od__law_plan, .func (PySem.W.fnOf "_law_plan" "_law_plan" (defArgs s__law_plan) (defBody s__law_plan) (defScope s__law_plan) .none kV__law_plan dc__law_plan pm__law_plan an__law_plan cd__law_plan ct__law_plan), sl__law_plan⟩)
    (c__law_plan : PySem.W.codeIn K cd__law_plan "_law_plan" = true)
    (k__law_plan : PySem.W.keepIn K (.ref f__law_plan) = true)
    (a_law : PySem.W.nsIn K mainGlobals "law" = some (some (.ref f_law)))
    (l_law : K.lookup f_law = some ⟨oc_law, od_law, .func (PySem.W.fnOf "law" "law" (defArgs s_law) (defBody s_law) (defScope s_law) .none kV_law dc_law pm_law an_law cd_law ct_law), sl_law⟩)
    (c_law : PySem.W.codeIn K cd_law "law" = true)
    (k_law : PySem.W.keepIn K (.ref f_law) = true)
    (a_Format___init__ : PySem.W.nsIn K mainGlobals "Format" = some (some (.ref C_Format)))
    (m_Format___init__ : PySem.W.makesIn K C_Format = true)
    (i_Format___init__ : PySem.W.findIn K (.ref C_Format) "__init__" = some (some (.ref f_Format___init__)))
    (t_Format___init__ : PySem.W.isFn K (.ref f_Format___init__) = true)
    (kc_Format___init__ : PySem.W.keepIn K (.ref C_Format) = true)
    (l_Format___init__ : K.lookup f_Format___init__ = some ⟨oc_Format___init__, od_Format___init__, .func (PySem.W.fnOf "__init__" "Format.__init__" (defArgs s_Format___init__) (defBody s_Format___init__) (defScope s_Format___init__) .none kV_Format___init__ dc_Format___init__ pm_Format___init__ an_Format___init__ cd_Format___init__ ct_Format___init__), sl_Format___init__⟩)
    (c_Format___init__ : PySem.W.codeIn K cd_Format___init__ "Format.__init__" = true)
    (k_Format___init__ : PySem.W.keepIn K (.ref f_Format___init__) = true)
    (pg_Format : PySem.W.plainGet K C_Format Str.empty = true)
    (hd_Format : PySem.W.hasDictIn K C_Format = true)
    (po_Format : PySem.W.plainOver K C_Format = true)
    (sa_Format : PySem.W.findIn K (.ref C_Format) "__setattr__" = some (some (.builtin "object.__setattr__")))
    (hna_Format_side : PySem.W.findIn K (.ref C_Format) "side" = some none)
    (hna_Format_checks : PySem.W.findIn K (.ref C_Format) "checks" = some none)
    (a_Format_data_symbols : PySem.W.findIn K (.ref C_Format) "data_symbols" = some (some (.ref p_Format_data_symbols)))
    (b_Format_data_symbols : PySem.W.specialIn K (.ref p_Format_data_symbols) "__get__" = some (some (.builtin "property.__get__")))
    (t_Format_data_symbols : PySem.W.takesIn K (.ref p_Format_data_symbols) = some true)
    (r_Format_data_symbols : PySem.W.recIn K p_Format_data_symbols "property" = some (.ref f_Format_data_symbols :: rs_Format_data_symbols))
    (l_Format_data_symbols : K.lookup f_Format_data_symbols = some ⟨oc_Format_data_symbols, od_Format_data_symbols, .func (PySem.W.fnOf "data_symbols" "Format.data_symbols" (defArgs s_Format_data_symbols) (defBody s_Format_data_symbols) (defScope s_Format_data_symbols) .none kV_Format_data_symbols dc_Format_data_symbols pm_Format_data_symbols an_Format_data_symbols cd_Format_data_symbols ct_Format_data_symbols), sl_Format_data_symbols⟩)
    (c_Format_data_symbols : PySem.W.codeIn K cd_Format_data_symbols "Format.data_symbols" = true)
    (k_Format_data_symbols : PySem.W.keepIn K (.ref f_Format_data_symbols) = true)
    (a_Format_codewords : PySem.W.findIn K (.ref C_Format) "codewords" = some (some (.ref p_Format_codewords)))
    (b_Format_codewords : PySem.W.specialIn K (.ref p_Format_codewords) "__get__" = some (some (.builtin "property.__get__")))
    (t_Format_codewords : PySem.W.takesIn K (.ref p_Format_codewords) = some true)
    (r_Format_codewords : PySem.W.recIn K p_Format_codewords "property" = some (.ref f_Format_codewords :: rs_Format_codewords))
    (l_Format_codewords : K.lookup f_Format_codewords = some ⟨oc_Format_codewords, od_Format_codewords, .func (PySem.W.fnOf "codewords" "Format.codewords" (defArgs s_Format_codewords) (defBody s_Format_codewords) (defScope s_Format_codewords) .none kV_Format_codewords dc_Format_codewords pm_Format_codewords an_Format_codewords cd_Format_codewords ct_Format_codewords), sl_Format_codewords⟩)
    (c_Format_codewords : PySem.W.codeIn K cd_Format_codewords "Format.codewords" = true)
    (k_Format_codewords : PySem.W.keepIn K (.ref f_Format_codewords) = true)
    (a_Format_body_size : PySem.W.findIn K (.ref C_Format) "body_size" = some (some (.ref p_Format_body_size)))
    (b_Format_body_size : PySem.W.specialIn K (.ref p_Format_body_size) "__get__" = some (some (.builtin "property.__get__")))
    (t_Format_body_size : PySem.W.takesIn K (.ref p_Format_body_size) = some true)
    (r_Format_body_size : PySem.W.recIn K p_Format_body_size "property" = some (.ref f_Format_body_size :: rs_Format_body_size))
    (l_Format_body_size : K.lookup f_Format_body_size = some ⟨oc_Format_body_size, od_Format_body_size, .func (PySem.W.fnOf "body_size" "Format.body_size" (defArgs s_Format_body_size) (defBody s_Format_body_size) (defScope s_Format_body_size) .none kV_Format_body_size dc_Format_body_size pm_Format_body_size an_Format_body_size cd_Format_body_size ct_Format_body_size), sl_Format_body_size⟩)
    (c_Format_body_size : PySem.W.codeIn K cd_Format_body_size "Format.body_size" = true)
    (k_Format_body_size : PySem.W.keepIn K (.ref f_Format_body_size) = true)
    (a_Format_capacity : PySem.W.findIn K (.ref C_Format) "capacity" = some (some (.ref p_Format_capacity)))
    (b_Format_capacity : PySem.W.specialIn K (.ref p_Format_capacity) "__get__" = some (some (.builtin "property.__get__")))
    (t_Format_capacity : PySem.W.takesIn K (.ref p_Format_capacity) = some true)
    (r_Format_capacity : PySem.W.recIn K p_Format_capacity "property" = some (.ref f_Format_capacity :: rs_Format_capacity))
    (l_Format_capacity : K.lookup f_Format_capacity = some ⟨oc_Format_capacity, od_Format_capacity, .func (PySem.W.fnOf "capacity" "Format.capacity" (defArgs s_Format_capacity) (defBody s_Format_capacity) (defScope s_Format_capacity) .none kV_Format_capacity dc_Format_capacity pm_Format_capacity an_Format_capacity cd_Format_capacity ct_Format_capacity), sl_Format_capacity⟩)
    (c_Format_capacity : PySem.W.codeIn K cd_Format_capacity "Format.capacity" = true)
    (k_Format_capacity : PySem.W.keepIn K (.ref f_Format_capacity) = true)
    (a_CHECKS : PySem.W.nsIn K mainGlobals "CHECKS" = some (some (.ref p_CHECKS)))
    (l_CHECKS : K.lookup p_CHECKS = some ⟨.type "tuple", od_CHECKS, .seq #[Value.int 2 t0_CHECKS, Value.int 4 t1_CHECKS, Value.int 6 t2_CHECKS, Value.int 8 t3_CHECKS] n_CHECKS, sl_CHECKS⟩)
    (a_LEAST_SIDE : PySem.W.nsIn K mainGlobals "LEAST_SIDE" = some (some (.int 16 t_LEAST_SIDE)))
    (a_GREATEST_SIDE : PySem.W.nsIn K mainGlobals "GREATEST_SIDE" = some (some (.int 40 t_GREATEST_SIDE)))
    (a_CODEWORD_SIZE : PySem.W.nsIn K mainGlobals "CODEWORD_SIZE" = some (some (.int 16 t_CODEWORD_SIZE)))
    (a_MARGIN : PySem.W.nsIn K mainGlobals "MARGIN" = some (some (.int 2 t_MARGIN)))
    (a_SYMBOL_CELLS : PySem.W.nsIn K mainGlobals "SYMBOL_CELLS" = some (some (.int 4 t_SYMBOL_CELLS)))
    (a_HEAD_SYMBOLS : PySem.W.nsIn K mainGlobals "HEAD_SYMBOLS" = some (some (.int 10 t_HEAD_SYMBOLS)))
    (a_GREATEST_GROUP : PySem.W.nsIn K mainGlobals "GREATEST_GROUP" = some (some (.int 12 t_GREATEST_GROUP)))
    (a_MOST_GROUP_PAGES : PySem.W.nsIn K mainGlobals "MOST_GROUP_PAGES" = some (some (.int 16 t_MOST_GROUP_PAGES)))
    (a_MOST_PAGES : PySem.W.nsIn K mainGlobals "MOST_PAGES" = some (some (.int 255 t_MOST_PAGES)))
    (a_MOST_PARTS : PySem.W.nsIn K mainGlobals "MOST_PARTS" = some (some (.int 99 t_MOST_PARTS)))
    (a_MOST_OCTETS : PySem.W.nsIn K mainGlobals "MOST_OCTETS" = some (some (.int 4000 t_MOST_OCTETS)))
    (z_max : PySem.W.nsIn K mainGlobals "max" = some none)
    (z_sum : PySem.W.nsIn K mainGlobals "sum" = some none)
    (z_range : PySem.W.nsIn K mainGlobals "range" = some none)
    (z_any : PySem.W.nsIn K mainGlobals "any" = some none)
    (z_len : PySem.W.nsIn K mainGlobals "len" = some none)
    (z_int : PySem.W.nsIn K mainGlobals "int" = some none)
    (z_isinstance : PySem.W.nsIn K mainGlobals "isinstance" = some none)
    (z_bool : PySem.W.nsIn K mainGlobals "bool" = some none)
    (z_list : PySem.W.nsIn K mainGlobals "list" = some none)
    (z_tuple : PySem.W.nsIn K mainGlobals "tuple" = some none)
    (a_ArchiveError : PySem.W.nsIn K mainGlobals "ArchiveError" = some (some (.ref C_ArchiveError)))
    (x_ArchiveError : PySem.W.excIn K C_ArchiveError [.type "ValueError", .type "Exception", .type "BaseException", .type "object"] "ValueError.__new__" = true)
    (k_ArchiveError : PySem.W.keepIn K (.ref C_ArchiveError) = true)
    (b_ArchiveError : PySem.W.subIn K (.ref C_ArchiveError) (.type "BaseException") = some true)
    (t_ArchiveError : PySem.W.typeIn K (.ref C_ArchiveError) = some (.type "type"))
    (g_ArchiveError : PySem.W.findIn K (.ref C_ArchiveError) "__getattribute__" = some (some (.builtin "BaseException.__getattribute__")))
    (h_ArchiveError : PySem.W.findIn K (.ref C_ArchiveError) "__getattr__" = some none)
    (d_ArchiveError : PySem.W.hasDictIn K C_ArchiveError = true)
    (o_ArchiveError : PySem.W.findIn K (.ref C_ArchiveError) "__class__" = some (some (.builtin "object.__class__")))
    (n_ArchiveError : PySem.W.specialIn K (.builtin "object.__class__") "__get__" = some (some (.builtin "getset_descriptor.__get__")))
    (m_ArchiveError : PySem.W.takesIn K (.builtin "object.__class__") = some true)
    (r_ArchiveError : PySem.W.mroIn K C_ArchiveError (.type "object") = some true)
    (i_ArchiveError : PySem.W.isClsIn K C_ArchiveError = true)
    (a_InvalidFormat : PySem.W.nsIn K mainGlobals "InvalidFormat" = some (some (.ref C_InvalidFormat)))
    (x_InvalidFormat : PySem.W.excIn K C_InvalidFormat [.type "ValueError", .type "Exception", .type "BaseException", .type "object"] "ValueError.__new__" = true)
    (k_InvalidFormat : PySem.W.keepIn K (.ref C_InvalidFormat) = true)
    (b_InvalidFormat : PySem.W.subIn K (.ref C_InvalidFormat) (.type "BaseException") = some true)
    (t_InvalidFormat : PySem.W.typeIn K (.ref C_InvalidFormat) = some (.type "type"))
    (g_InvalidFormat : PySem.W.findIn K (.ref C_InvalidFormat) "__getattribute__" = some (some (.builtin "BaseException.__getattribute__")))
    (h_InvalidFormat : PySem.W.findIn K (.ref C_InvalidFormat) "__getattr__" = some none)
    (d_InvalidFormat : PySem.W.hasDictIn K C_InvalidFormat = true)
    (o_InvalidFormat : PySem.W.findIn K (.ref C_InvalidFormat) "__class__" = some (some (.builtin "object.__class__")))
    (n_InvalidFormat : PySem.W.specialIn K (.builtin "object.__class__") "__get__" = some (some (.builtin "getset_descriptor.__get__")))
    (m_InvalidFormat : PySem.W.takesIn K (.builtin "object.__class__") = some true)
    (r_InvalidFormat : PySem.W.mroIn K C_InvalidFormat (.type "object") = some true)
    (i_InvalidFormat : PySem.W.isClsIn K C_InvalidFormat = true)
    (a_InvalidArchive : PySem.W.nsIn K mainGlobals "InvalidArchive" = some (some (.ref C_InvalidArchive)))
    (x_InvalidArchive : PySem.W.excIn K C_InvalidArchive [.type "ValueError", .type "Exception", .type "BaseException", .type "object"] "ValueError.__new__" = true)
    (k_InvalidArchive : PySem.W.keepIn K (.ref C_InvalidArchive) = true)
    (b_InvalidArchive : PySem.W.subIn K (.ref C_InvalidArchive) (.type "BaseException") = some true)
    (t_InvalidArchive : PySem.W.typeIn K (.ref C_InvalidArchive) = some (.type "type"))
    (g_InvalidArchive : PySem.W.findIn K (.ref C_InvalidArchive) "__getattribute__" = some (some (.builtin "BaseException.__getattribute__")))
    (h_InvalidArchive : PySem.W.findIn K (.ref C_InvalidArchive) "__getattr__" = some none)
    (d_InvalidArchive : PySem.W.hasDictIn K C_InvalidArchive = true)
    (o_InvalidArchive : PySem.W.findIn K (.ref C_InvalidArchive) "__class__" = some (some (.builtin "object.__class__")))
    (n_InvalidArchive : PySem.W.specialIn K (.builtin "object.__class__") "__get__" = some (some (.builtin "getset_descriptor.__get__")))
    (m_InvalidArchive : PySem.W.takesIn K (.builtin "object.__class__") = some true)
    (r_InvalidArchive : PySem.W.mroIn K C_InvalidArchive (.type "object") = some true)
    (i_InvalidArchive : PySem.W.isClsIn K C_InvalidArchive = true)
    (hs_InvalidArchive_ArchiveError : PySem.W.subIn K (.ref C_InvalidArchive) (.ref C_ArchiveError) = some true)
    (hq_InvalidArchive_InvalidArchive : PySem.W.subIn K (.ref C_InvalidArchive) (.ref C_InvalidArchive) = some true)
    (lc_plan : K.lookup c_plan = some ⟨cc_plan, ce_plan, .fields cf_plan, cg_plan⟩)
    (tv_plan : cf_plan[11]? = some (.ref P_plan))
    (lc__check_sizes : K.lookup c__check_sizes = some ⟨cc__check_sizes, ce__check_sizes, .fields cf__check_sizes, cg__check_sizes⟩)
    (tv__check_sizes : cf__check_sizes[11]? = some (.ref P__check_sizes))
    : ∃ (fd : FuncData) (cs : List (Str × Addr × Addr)), (∀ t ∈ cs, t.1 ∈ names ∧ PySem.W.tabIn K t.1 = some t.2) ∧ (∀ (s : Shared) (v : Value), BindsTo s fd ⟨[v], []⟩ [("script", v)]) ∧ ∀ base : Heap, K.In base → base.Ns mainGlobals mg → (∀ t ∈ cs, LamX.TabB base mg t.2.1 t.2.2) → FnOk P w K mg base CX0 10 C_fa fd ["script"] (GX.spLawT K (cs.map (·.2.2))) :=
  law_mk (T := ⟨dn_mk X G a_is_group l_is_group c_is_group k_is_group (fun _ _ _ _ _ _ us hl => match us, hl with | [_, _], _ => rfl),
    dn_mk X G a_group_count l_group_count c_group_count k_group_count (fun _ _ _ _ _ _ us hl => match us, hl with | [_, _], _ => rfl),
    dn_mk X G a_all_pages l_all_pages c_all_pages k_all_pages (fun _ _ _ _ _ _ us hl => match us, hl with | [_, _, _], _ => rfl),
    dn_mk X G a_slice_count l_slice_count c_slice_count k_slice_count (fun _ _ _ _ _ _ us hl => match us, hl with | [_, _], _ => rfl),
    GX.dnc_mk X G a_plan l_plan e_plan k_plan (fun _ _ _ _ _ _ us hl => match us, hl with | [_, _, _], _ => rfl),
    GX.dnc_mk X G a__check_sizes l__check_sizes e__check_sizes k__check_sizes (fun _ _ _ _ _ _ us hl => match us, hl with | [_], _ => rfl),
    dn_mk X G a__law_cell l__law_cell c__law_cell k__law_cell (fun _ _ _ _ _ _ us hl => match us, hl with | [_, _], _ => rfl),
    dn_mk X G a__law_is_int l__law_is_int c__law_is_int k__law_is_int (fun _ _ _ _ _ _ us hl => match us, hl with | [_], _ => rfl),
    dn_mk X G a__law_form l__law_form c__law_form k__law_form (fun _ _ _ _ _ _ us hl => match us, hl with | [_], _ => rfl),
    dn_mk X G a__law_words l__law_words c__law_words k__law_words (fun _ _ _ _ _ _ us hl => match us, hl with | [_], _ => rfl),
    dn_mk X G a__law_body_size l__law_body_size c__law_body_size k__law_body_size (fun _ _ _ _ _ _ us hl => match us, hl with | [_, _], _ => rfl),
    dn_mk X G a__law_capacity l__law_capacity c__law_capacity k__law_capacity (fun _ _ _ _ _ _ us hl => match us, hl with | [_, _], _ => rfl),
    dn_mk X G a__law_plan l__law_plan c__law_plan k__law_plan (fun _ _ _ _ _ _ us hl => match us, hl with | [_, _, _], _ => rfl),
    dn_mk X G a_law l_law c_law k_law (fun _ _ _ _ _ _ us hl => match us, hl with | [_], _ => rfl),
    CL.dni_mk X G a_Format___init__ m_Format___init__ i_Format___init__ t_Format___init__ kc_Format___init__ l_Format___init__ c_Format___init__ k_Format___init__ (fun _ _ _ _ _ _ us hl => match us, hl with | [_, _, _], _ => rfl),
    ⟨pg_Format, hd_Format, po_Format, sa_Format⟩,
    hna_Format_side,
    hna_Format_checks,
    CL.dnp_mk a_Format_data_symbols b_Format_data_symbols t_Format_data_symbols r_Format_data_symbols l_Format_data_symbols c_Format_data_symbols k_Format_data_symbols (fun _ _ _ _ _ _ us hl => match us, hl with | [_], _ => rfl),
    CL.dnp_mk a_Format_codewords b_Format_codewords t_Format_codewords r_Format_codewords l_Format_codewords c_Format_codewords k_Format_codewords (fun _ _ _ _ _ _ us hl => match us, hl with | [_], _ => rfl),
    CL.dnp_mk a_Format_body_size b_Format_body_size t_Format_body_size r_Format_body_size l_Format_body_size c_Format_body_size k_Format_body_size (fun _ _ _ _ _ _ us hl => match us, hl with | [_], _ => rfl),
    CL.dnp_mk a_Format_capacity b_Format_capacity t_Format_capacity r_Format_capacity l_Format_capacity c_Format_capacity k_Format_capacity (fun _ _ _ _ _ _ us hl => match us, hl with | [_], _ => rfl),
    ct_mk X G a_CHECKS l_CHECKS (by show 4 ≤ sizeLine; decide) (.cons ⟨_, rfl⟩ (.cons ⟨_, rfl⟩ (.cons ⟨_, rfl⟩ (.cons ⟨_, rfl⟩ .nil)))),
    cv_int X G a_LEAST_SIDE,
    cv_int X G a_GREATEST_SIDE,
    cv_int X G a_CODEWORD_SIZE,
    cv_int X G a_MARGIN,
    cv_int X G a_SYMBOL_CELLS,
    cv_int X G a_HEAD_SYMBOLS,
    cv_int X G a_GREATEST_GROUP,
    cv_int X G a_MOST_GROUP_PAGES,
    cv_int X G a_MOST_PAGES,
    cv_int X G a_MOST_PARTS,
    cv_int X G a_MOST_OCTETS,
    PySem.W.mg_none_of X G z_max,
    PySem.W.mg_none_of X G z_sum,
    PySem.W.mg_none_of X G z_range,
    PySem.W.mg_none_of X G z_any,
    PySem.W.mg_none_of X G z_len,
    PySem.W.mg_none_of X G z_int,
    PySem.W.mg_none_of X G z_isinstance,
    PySem.W.mg_none_of X G z_bool,
    PySem.W.mg_none_of X G z_list,
    PySem.W.mg_none_of X G z_tuple,
    xcl_mk X G a_ArchiveError x_ArchiveError k_ArchiveError b_ArchiveError t_ArchiveError g_ArchiveError h_ArchiveError d_ArchiveError o_ArchiveError n_ArchiveError m_ArchiveError r_ArchiveError i_ArchiveError,
    xcl_mk X G a_InvalidFormat x_InvalidFormat k_InvalidFormat b_InvalidFormat t_InvalidFormat g_InvalidFormat h_InvalidFormat d_InvalidFormat o_InvalidFormat n_InvalidFormat m_InvalidFormat r_InvalidFormat i_InvalidFormat,
    xcl_mk X G a_InvalidArchive x_InvalidArchive k_InvalidArchive b_InvalidArchive t_InvalidArchive g_InvalidArchive h_InvalidArchive d_InvalidArchive o_InvalidArchive n_InvalidArchive m_InvalidArchive r_InvalidArchive i_InvalidArchive,
    hs_InvalidArchive_ArchiveError,
    kit_own i_InvalidArchive t_InvalidArchive hq_InvalidArchive_InvalidArchive (fun _ => rfl)⟩) hfa (GX.tabIn_mk a_plan l_plan rfl lc_plan tv_plan) (GX.tabIn_mk a__check_sizes l__check_sizes rfl lc__check_sizes tv__check_sizes)
end My
open PySem PySem.W PyProof.Rows in
set_option maxRecDepth 100000 in
set_option maxHeartbeats 0 in
theorem PySem.Challenge.cw_scanpages_k67_plans_holds : PySem.Challenge.rw_scanpages_k67_plans.Holds := by
  w_on; o_law; k_head; (case hw => w_witness2)
  k_fill
  refine GX.walk_gx (l := PySem.Challenge.rw_scanpages_k67_plans) (k := 10) (names := My.names) rfl rfl ⟨rfl, by decide, by decide⟩ (fun w h Y => PySem.W.kIn_of Y) ?NT ?RC ?F
  case NT => intro w; rfl
  case RC => decide +kernel
  case F =>
    intro w mg fa h KX G hmg
    refine' My.law_end KX G hmg ?a_is_group ?l_is_group ?c_is_group ?k_is_group ?a_group_count ?l_group_count ?c_group_count ?k_group_count ?a_all_pages ?l_all_pages ?c_all_pages ?k_all_pages ?a_slice_count ?l_slice_count ?c_slice_count ?k_slice_count ?a_plan ?l_plan ?e_plan ?k_plan ?a__check_sizes ?l__check_sizes ?e__check_sizes ?k__check_sizes ?a__law_cell ?l__law_cell ?c__law_cell ?k__law_cell ?a__law_is_int ?l__law_is_int ?c__law_is_int ?k__law_is_int ?a__law_form ?l__law_form ?c__law_form ?k__law_form ?a__law_words ?l__law_words ?c__law_words ?k__law_words ?a__law_body_size ?l__law_body_size ?c__law_body_size ?k__law_body_size ?a__law_capacity ?l__law_capacity ?c__law_capacity ?k__law_capacity ?a__law_plan ?l__law_plan ?c__law_plan ?k__law_plan ?a_law ?l_law ?c_law ?k_law ?a_Format___init__ ?m_Format___init__ ?i_Format___init__ ?t_Format___init__ ?kc_Format___init__ ?l_Format___init__ ?c_Format___init__ ?k_Format___init__ ?pg_Format ?hd_Format ?po_Format ?sa_Format ?hna_Format_side ?hna_Format_checks ?a_Format_data_symbols ?b_Format_data_symbols ?t_Format_data_symbols ?r_Format_data_symbols ?l_Format_data_symbols ?c_Format_data_symbols ?k_Format_data_symbols ?a_Format_codewords ?b_Format_codewords ?t_Format_codewords ?r_Format_codewords ?l_Format_codewords ?c_Format_codewords ?k_Format_codewords ?a_Format_body_size ?b_Format_body_size ?t_Format_body_size ?r_Format_body_size ?l_Format_body_size ?c_Format_body_size ?k_Format_body_size ?a_Format_capacity ?b_Format_capacity ?t_Format_capacity ?r_Format_capacity ?l_Format_capacity ?c_Format_capacity ?k_Format_capacity ?a_CHECKS ?l_CHECKS ?a_LEAST_SIDE ?a_GREATEST_SIDE ?a_CODEWORD_SIZE ?a_MARGIN ?a_SYMBOL_CELLS ?a_HEAD_SYMBOLS ?a_GREATEST_GROUP ?a_MOST_GROUP_PAGES ?a_MOST_PAGES ?a_MOST_PARTS ?a_MOST_OCTETS ?z_max ?z_sum ?z_range ?z_any ?z_len ?z_int ?z_isinstance ?z_bool ?z_list ?z_tuple ?a_ArchiveError ?x_ArchiveError ?k_ArchiveError ?b_ArchiveError ?t_ArchiveError ?g_ArchiveError ?h_ArchiveError ?d_ArchiveError ?o_ArchiveError ?n_ArchiveError ?m_ArchiveError ?r_ArchiveError ?i_ArchiveError ?a_InvalidFormat ?x_InvalidFormat ?k_InvalidFormat ?b_InvalidFormat ?t_InvalidFormat ?g_InvalidFormat ?h_InvalidFormat ?d_InvalidFormat ?o_InvalidFormat ?n_InvalidFormat ?m_InvalidFormat ?r_InvalidFormat ?i_InvalidFormat ?a_InvalidArchive ?x_InvalidArchive ?k_InvalidArchive ?b_InvalidArchive ?t_InvalidArchive ?g_InvalidArchive ?h_InvalidArchive ?d_InvalidArchive ?o_InvalidArchive ?n_InvalidArchive ?m_InvalidArchive ?r_InvalidArchive ?i_InvalidArchive ?hs_InvalidArchive_ArchiveError ?hq_InvalidArchive_InvalidArchive ?lc_plan ?tv_plan ?lc__check_sizes ?tv__check_sizes
    (case a_is_group => k_is)
    (case l_is_group => k_is)
    (case c_is_group => k_is)
    (case k_is_group => k_is)
    (case a_group_count => k_is)
    (case l_group_count => k_is)
    (case c_group_count => k_is)
    (case k_group_count => k_is)
    (case a_all_pages => k_is)
    (case l_all_pages => k_is)
    (case c_all_pages => k_is)
    (case k_all_pages => k_is)
    (case a_slice_count => k_is)
    (case l_slice_count => k_is)
    (case c_slice_count => k_is)
    (case k_slice_count => k_is)
    (case a_plan => k_is)
    (case l_plan => k_is)
    (case e_plan => k_is)
    (case k_plan => k_is)
    (case a__check_sizes => k_is)
    (case l__check_sizes => k_is)
    (case e__check_sizes => k_is)
    (case k__check_sizes => k_is)
    (case a__law_cell => k_is)
    (case l__law_cell => k_is)
    (case c__law_cell => k_is)
    (case k__law_cell => k_is)
    (case a__law_is_int => k_is)
    (case l__law_is_int => k_is)
    (case c__law_is_int => k_is)
    (case k__law_is_int => k_is)
    (case a__law_form => k_is)
    (case l__law_form => k_is)
    (case c__law_form => k_is)
    (case k__law_form => k_is)
    (case a__law_words => k_is)
    (case l__law_words => k_is)
    (case c__law_words => k_is)
    (case k__law_words => k_is)
    (case a__law_body_size => k_is)
    (case l__law_body_size => k_is)
    (case c__law_body_size => k_is)
    (case k__law_body_size => k_is)
    (case a__law_capacity => k_is)
    (case l__law_capacity => k_is)
    (case c__law_capacity => k_is)
    (case k__law_capacity => k_is)
    (case a__law_plan => k_is)
    (case l__law_plan => k_is)
    (case c__law_plan => k_is)
    (case k__law_plan => k_is)
    (case a_law => k_is)
    (case l_law => k_is)
    (case c_law => k_is)
    (case k_law => k_is)
    (case a_Format___init__ => k_is)
    (case m_Format___init__ => k_is)
    (case i_Format___init__ => k_is)
    (case t_Format___init__ => k_is)
    (case kc_Format___init__ => k_is)
    (case l_Format___init__ => k_is)
    (case c_Format___init__ => k_is)
    (case k_Format___init__ => k_is)
    (case pg_Format => k_is)
    (case hd_Format => k_is)
    (case po_Format => k_is)
    (case sa_Format => k_is)
    (case hna_Format_side => k_is)
    (case hna_Format_checks => k_is)
    (case a_Format_data_symbols => k_is)
    (case b_Format_data_symbols => k_is)
    (case t_Format_data_symbols => k_is)
    (case r_Format_data_symbols => k_is)
    (case l_Format_data_symbols => k_is)
    (case c_Format_data_symbols => k_is)
    (case k_Format_data_symbols => k_is)
    (case a_Format_codewords => k_is)
    (case b_Format_codewords => k_is)
    (case t_Format_codewords => k_is)
    (case r_Format_codewords => k_is)
    (case l_Format_codewords => k_is)
    (case c_Format_codewords => k_is)
    (case k_Format_codewords => k_is)
    (case a_Format_body_size => k_is)
    (case b_Format_body_size => k_is)
    (case t_Format_body_size => k_is)
    (case r_Format_body_size => k_is)
    (case l_Format_body_size => k_is)
    (case c_Format_body_size => k_is)
    (case k_Format_body_size => k_is)
    (case a_Format_capacity => k_is)
    (case b_Format_capacity => k_is)
    (case t_Format_capacity => k_is)
    (case r_Format_capacity => k_is)
    (case l_Format_capacity => k_is)
    (case c_Format_capacity => k_is)
    (case k_Format_capacity => k_is)
    (case a_CHECKS => k_is)
    (case l_CHECKS => k_is)
    (case a_LEAST_SIDE => k_is)
    (case a_GREATEST_SIDE => k_is)
    (case a_CODEWORD_SIZE => k_is)
    (case a_MARGIN => k_is)
    (case a_SYMBOL_CELLS => k_is)
    (case a_HEAD_SYMBOLS => k_is)
    (case a_GREATEST_GROUP => k_is)
    (case a_MOST_GROUP_PAGES => k_is)
    (case a_MOST_PAGES => k_is)
    (case a_MOST_PARTS => k_is)
    (case a_MOST_OCTETS => k_is)
    (case z_max => k_is)
    (case z_sum => k_is)
    (case z_range => k_is)
    (case z_any => k_is)
    (case z_len => k_is)
    (case z_int => k_is)
    (case z_isinstance => k_is)
    (case z_bool => k_is)
    (case z_list => k_is)
    (case z_tuple => k_is)
    (case a_ArchiveError => k_is)
    (case x_ArchiveError => k_exc)
    (case k_ArchiveError => k_is)
    (case b_ArchiveError => k_is)
    (case t_ArchiveError => k_is)
    (case g_ArchiveError => k_is)
    (case h_ArchiveError => k_is)
    (case d_ArchiveError => k_is)
    (case o_ArchiveError => k_is)
    (case n_ArchiveError => k_is)
    (case m_ArchiveError => k_is)
    (case r_ArchiveError => k_is)
    (case i_ArchiveError => k_is)
    (case a_InvalidFormat => k_is)
    (case x_InvalidFormat => k_exc)
    (case k_InvalidFormat => k_is)
    (case b_InvalidFormat => k_is)
    (case t_InvalidFormat => k_is)
    (case g_InvalidFormat => k_is)
    (case h_InvalidFormat => k_is)
    (case d_InvalidFormat => k_is)
    (case o_InvalidFormat => k_is)
    (case n_InvalidFormat => k_is)
    (case m_InvalidFormat => k_is)
    (case r_InvalidFormat => k_is)
    (case i_InvalidFormat => k_is)
    (case a_InvalidArchive => k_is)
    (case x_InvalidArchive => k_exc)
    (case k_InvalidArchive => k_is)
    (case b_InvalidArchive => k_is)
    (case t_InvalidArchive => k_is)
    (case g_InvalidArchive => k_is)
    (case h_InvalidArchive => k_is)
    (case d_InvalidArchive => k_is)
    (case o_InvalidArchive => k_is)
    (case n_InvalidArchive => k_is)
    (case m_InvalidArchive => k_is)
    (case r_InvalidArchive => k_is)
    (case i_InvalidArchive => k_is)
    (case hs_InvalidArchive_ArchiveError => first | k_is | rfl)
    (case hq_InvalidArchive_InvalidArchive => first | k_is | rfl)
    (case lc_plan => k_is)
    (case tv_plan => rfl)
    (case lc__check_sizes => k_is)
    (case tv__check_sizes => rfl)
#print axioms PySem.Challenge.cw_scanpages_k67_plans_holds
