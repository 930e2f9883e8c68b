import PyProof.Rows.All
import Wide.All
import OpenK.AllK
import Wide.FinOn
import PyProof.EqAt
import PyProof.EqKinds
import PyProof.TupleCall
import HandS.ForMost
import HandS.ForExc
import HandS.RaiseMore
import HandS.FStr
import HandS.IsInst
import HandS.ExcIs
import HandS.Wide
import HandS.Flow
import HandS.Conv
import HandS.Evl
import HandS.TupAny
import HandS.Style
import HandS.ExcCtx
import HandS.HotCalls
import HandS.ExcInit
import HandS.Nested
import HandS.ExcField
import KE.KExcSuper
import KE.KSuper
import KE.RegKSuper
import PySem.Challenge.RW_scanpages_k18_expand
set_option Elab.async false
set_option linter.all false
set_option maxRecDepth 100000
set_option maxHeartbeats 4000000
/-! Cm: what all our proofs share -/
namespace Cm
open PySem PySem.Spec PyProof.Rows L2

/-! ### defs of the module, and what they promise -/
/-- the def x stands at some address behind the top -/
def Dn (K : PySem.W.Frag) (mg : Str → Option Value) (x : Str) (st : Stmt) (ps : List Str) : Prop :=
  ∃ (f : Addr) (fd : FuncData), Fun K x x st f fd ∧ mg x = some (.ref f) ∧ Binds K fd ps []
/-- the def x keeps the promise sp -/
def Ok (P : Program) (w : World) (K : PySem.W.Frag) (mg : Str → Option Value) (base : Heap) (CX : CXT) (k : Nat) (x : Str) (ps : List Str) (sp : Sp) : Prop :=
  ∃ (f : Addr) (fd : FuncData), FnOk P w K mg base CX k f fd ps sp ∧ mg x = some (.ref f) ∧ PySem.W.keepIn K (.ref f) = true ∧ Binds K fd ps []
theorem ok_of {P : Program} {w : World} {K : PySem.W.Frag} {mg : Str → Option Value} {base : Heap} {CX : CXT} {k : Nat} {x : Str} {st : Stmt} {ps : List Str} {sp : Sp} (d : Dn K mg x st ps)
    (h : ∀ f fd, Fun K x x st f fd → FnOk P w K mg base CX k f fd ps sp) : Ok P w K mg base CX k x ps sp := by
  obtain ⟨f, fd, F, g, b⟩ := d
  exact ⟨f, fd, h f fd F, g, F.kp, b⟩
section
variable {X : Cx} {CX : CXT} {k : Nat} {ps : List Str} {sp : Sp} {E : XK} {x : Str} {p pos : Pos} {e : Expr} {es : List Expr} {t : TA}
theorem pe_callO (G : Ok X.prog X.w X.K X.mg X.base CX k x ps sp) (hr : Room k X.A) (hx : Passes CX X E) (ha : PA X (e :: es) t) (hg : Gl X x := by rfl)
    (hdb : (x == ("__debug__" : Str)) = false := by decide) (he : starEach (e :: es) X.env = (false, eval e X.env) :: starEach es X.env := by rfl) (hpl : (backTo pos (starEach es X.env)).any (·.1) = false := by rfl) :
    PE X (.Call (.Name x p) (e :: es) [] pos) (tCall sp [] E t) := by
  obtain ⟨f, fd, F, g, kp, b⟩ := G
  exact pe_call F hr hg g kp b .nil hx ha hdb he hpl
theorem pe_callO0 (G : Ok X.prog X.w X.K X.mg X.base CX k x ps sp) (hr : Room k X.A) (hx : Passes CX X E) (hg : Gl X x := by rfl) (hdb : (x == ("__debug__" : Str)) = false := by decide) :
    PE X (.Call (.Name x p) [] [] pos) (tCall sp [] E tNil) := by
  obtain ⟨f, fd, F, g, kp, b⟩ := G
  exact pe_call0 F hr hg g kp b .nil hx hdb
theorem pe_callT {Es : L2.St → XK} (G : Ok X.prog X.w X.K X.mg X.base CX k x ps sp) (hr : Room k X.A) (hx : ∀ σ, PassesAt CX X σ (Es σ)) (ha : PA X (e :: es) t) (hg : Gl X x := by rfl)
    (hdb : (x == ("__debug__" : Str)) = false := by decide) (he : starEach (e :: es) X.env = (false, eval e X.env) :: starEach es X.env := by rfl) (hpl : (backTo pos (starEach es X.env)).any (·.1) = false := by rfl) :
    PE X (.Call (.Name x p) (e :: es) [] pos) (tCallS sp Es t) := by
  obtain ⟨f, fd, F, g, kp, b⟩ := G
  exact pe_callS F hr hg g kp b hx ha hdb he hpl
end
/-! ### errors: raised where nothing is handled -/
/-- what leaves a def: L2N's way -/
abbrev CXN (P : Program) (w : World) : CXT := L2N.CX P w
theorem passN {X : Cx} : Passes (CXN X.prog X.w) X E0 := fun _ _ _ _ _ _ _ h => by
  obtain ⟨_, _, _, _, _, _, _, _, _, _, _, _, z⟩ := h
  exact z.elim
theorem takesN {X : Cx} : L2N.Takes X (fun _ _ _ _ => False) := fun _ _ x => by
  obtain ⟨_, _, _, _, _, _, _, _, _, _, _, _, _, _, _, _, z⟩ := x
  exact z.elim
theorem passX {X : Cx} {E E' : XK} (tk : L2N.Takes X (fun cls d _ H => E cls d H)) (h : ∀ cls d H, E' cls d H → E cls d H) : Passes (CXN X.prog X.w) X E' := fun pins σ H s e s' I c => tk e s' (L2N.XE.of_call I (fun cls d H' q => h cls d H' q) c)
theorem okN {P : Program} {w : World} {K : PySem.W.Frag} {mg : Str → Option Value} {base : Heap} {x qual : Str} {st : Stmt} {f : Addr} {fd : FuncData} {N ps : List Str} {k : Nat} {sp : Sp} (F : Fun K x qual st f fd) (S : FnScope N ps (defScope st)) (len : ∀ vs H Q E, sp vs H Q E → vs.length = ps.length)
    (hbody : ∀ (cdv : Value) (A : Around) (outer : List Env) (s : Shared) (H : Hp) (vs : List V) (Q : VK) (E : XK), Room k (A.deeper (envOfC qual (defScope st) s.heap.objs.size f cdv)) → sp vs H Q E →
      ∃ t, PSs (cxOf (CXN P w) P w K mg base N qual (defScope st) f cdv A outer s H E) (defBody st) t ∧ t { nx := fun _ H' => Q .non H', rt := Q } (L2.start N vs) H) : FnOk P w K mg base (CXN P w) (k + 1) f fd ps sp := by
  obtain ⟨oc, od, kV, doc, pm, an, cdv, ct, osl, rfl, lk, hcd⟩ := F.ex
  exact fn_of lk hcd S len fun A outer s H vs Q E hr hsp => hbody cdv A outer s H vs Q E hr hsp
section
variable {X : Cx}
/-- X(e) -/
theorem pmk_own1 {C : Addr} {bmB : List Value} {B newId initId : String} {x : Str} {e : Expr} {ta : TE} {p pos : Pos} (F : ExcBaseFacts B newId initId bmB) (q : PySem.W.excIn X.K C bmB newId = true) (gC : X.mg x = some (.ref C)) (kC : PySem.W.keepIn X.K (.ref C) = true) (r : Raises X (.ref C)) (hg : Gl X x)
    (he : PE X e ta) (hs : starEach [e] X.env = (false, eval e X.env) :: starEach [] X.env := by rfl) (hdb : (x == ("__debug__" : Str)) = false := by decide) :
    L2N.PMk X (.Call (.Name x p) [e] [] pos) (fun σ H Q => ta σ H fun _ H1 => Q (.ref C) none H1) := by
  intro pins s σ H Q I h
  refine wpAny_Call_Name_kw (ld_glob I hg gC ?_ hdb)
  refine PySem.W.callWith_K (h₀ := X.base) I.ok.mod.kin kC ?_ hs (by rfl)
  rw [hs]
  show wpAny _ _ (spliced ((false, eval e X.env) :: backTo pos (starEach [] X.env))) _ _ s
  refine Calls.spliced_cons (thn (he.run pins s σ H _ I h) fun u s1 ⟨v, H1, I1, r1, q1⟩ => ?_)
  refine Calls.spliced_nil ⟨I1.kIn, ?_⟩
  show wpAny _ _ (call (.ref C) [u]) _ _ _
  obtain ⟨bm, N, nm, qn, bs, hdct, sn, sub, ab, col, dd, k0, k1, k2, k3, k5, mN, hC, hN, hni, T⟩ := exc_obj I1.kIn q
  refine wpAny_call_exc_subT F T hC hN hni (fun h' e hm => ?_) (by show 1 ≤ sizeLine; rw [sizeLine_eq]; omega)
  exact L2N.mk_of I1 hm r q1 (I1.hok.gone hm.new)
end
/-! ### defs called within an except suite -/
def OkH (P : Program) (w : World) (K : PySem.W.Frag) (mg : Str → Option Value) (base : Heap) (CX : CXT) (k : Nat) (x : Str) (ps : List Str) (sp : Sp) : Prop :=
  ∃ (f : Addr) (fd : FuncData), L2H.FnH P w K mg base CX k f fd ps sp ∧ mg x = some (.ref f) ∧ PySem.W.keepIn K (.ref f) = true ∧ Binds K fd ps []
theorem okH_of {P : Program} {w : World} {K : PySem.W.Frag} {mg : Str → Option Value} {base : Heap} {k : Nat} {x : Str} {st : Stmt} {N ps : List Str} {sp : Sp} (d : Dn K mg x st ps) (S : FnScope N ps (defScope st)) (len : ∀ vs H Q E, sp vs H Q E → vs.length = ps.length)
    (hbody : ∀ (f : Addr) (cdv : Value) (A : Around) (outer : List Env) (s : Shared) (H : Hp) (vs : List V) (Q : VK) (E : XK) (p : Addr × Obj), L2H.Hot1 A p → L2H.RoomH k (A.deeper (envOfC x (defScope st) s.heap.objs.size f cdv)) → sp vs H Q E →
      ∃ t, PSs (L2H.cxH CX0 P w K mg base N x (defScope st) f cdv A outer s H E p) (defBody st) t ∧ t { nx := fun _ H' => Q .non H', rt := Q } (L2.start N vs) H) : OkH P w K mg base CX0 (k + 1) x ps sp := by
  obtain ⟨f, fd, F, g, b⟩ := d
  refine ⟨f, fd, ?_, g, F.kp, b⟩
  obtain ⟨oc, od, kV, doc, pm, an, cdv, ct, osl, rfl, lk, hcd⟩ := F.ex
  exact L2H.fn_ofH lk hcd S len fun A outer s H vs Q E p hot hr hsp => hbody f cdv A outer s H vs Q E p hot hr hsp
section
variable {X : Cx} {k : Nat} {ps : List Str} {sp : Sp} {x : Str} {p pos : Pos} {e : Expr} {es : List Expr} {t : TA}
theorem pe_callHO (G : OkH X.prog X.w X.K X.mg X.base CX0 k x ps sp) (hr : L2H.RoomH k X.A) (hc : L2H.HotC X) (ha : PA X (e :: es) t) (hg : Gl X x := by rfl)
    (hdb : (x == ("__debug__" : Str)) = false := by decide) (he : starEach (e :: es) X.env = (false, eval e X.env) :: starEach es X.env := by rfl) (hpl : (backTo pos (starEach es X.env)).any (·.1) = false := by rfl) :
    PE X (.Call (.Name x p) (e :: es) [] pos) (tCallS sp (fun _ => E0) t) := by
  obtain ⟨f, fd, F, g, kp, b⟩ := G
  exact L2H.pe_callH F hr hc hg g kp b (fun _ _ _ _ _ _ _ h => h.elim) ha hdb he hpl
theorem roomS {k j : Nat} {A : Around} {h : Option Value} (hr : Room k A) (hj : j ≤ k) : L2H.RoomH j (A.mark h) := L2H.RoomH.mono (k := k) ⟨hr.dp, hr.un⟩ hj
theorem hotS {a : Addr} {oe : Obj} {cls : Value} {d : Option Addr} {pn : List (Addr × Obj)} (hz : L2N.Zn cls d oe) (hf : ∃ vs, oe.data = .fields vs) : L2H.HotC (X.suite a ((a, oe) :: pn)) := by
  obtain ⟨vs, e⟩ := hf
  exact ⟨(a, oe), ⟨rfl, vs, e, hz.2.2 vs e⟩, List.mem_cons_self⟩
end
/-! ### names of the module -/
/-- the name x of the module holds v -/
def CV (mg : Str → Option Value) (x : Str) (v : V) : Prop := ∃ u, mg x = some u ∧ RelV v u
theorem pe_globC {X : Cx} {x : Str} {v : V} {pos : Pos} (hg : Gl X x) (h : CV X.mg x v) (hd : (x == ("__debug__" : Str)) = false := by decide) : PE X (.Name x pos) (tC v) := by
  obtain ⟨u, hm, r⟩ := h
  exact pe_glob hg hm r hd
theorem pe_globR {X : Cx} {x : Str} {a : Addr} {pos : Pos} (hg : Gl X x) (h : X.mg x = some (.ref a)) (hd : (x == ("__debug__" : Str)) = false := by decide) : PE X (.Name x pos) (tC (.ref a)) := pe_glob hg h rfl hd
/-! ### tests -/
theorem itd {p A B : Prop} [Decidable p] (h1 : p → A) (h2 : ¬ p → B) : if decide p = true then A else B := by
  by_cases h : p
  · rw [if_pos (decide_eq_true h)]
    exact h1 h
  · rw [if_neg (by simp [h])]
    exact h2 h
theorem itb {b : Bool} {A B : Prop} (h1 : b = true → A) (h2 : b = false → B) : if b = true then A else B := by
  cases b with
  | true => exact iteT (h1 rfl)
  | false => exact iteF (h2 rfl)
/-! ### error classes -/
/-- an error class that may have an own __init__ -/
structure XB (K : PySem.W.Frag) (mg : Str → Option Value) (x : Str) (C : Addr) : Prop where
  g : mg x = some (.ref C)
  k : PySem.W.keepIn K (.ref C) = true
  b : PySem.W.subIn K (.ref C) (.type "BaseException") = some true
  t : PySem.W.typeIn K (.ref C) = some (.type "type")
  d : PySem.W.hasDictIn K C = true
  i : PySem.W.isClsIn K C = true
/-- an error class without an own __init__ -/
structure XCl (K : PySem.W.Frag) (mg : Str → Option Value) (x : Str) (C : Addr) : Prop extends XB K mg x C where
  x : PySem.W.excIn K C [.type "ValueError", .type "Exception", .type "BaseException", .type "object"] "ValueError.__new__" = true
  e : ExcC K C
section
variable {K : PySem.W.Frag} {h : Heap} {mg : Str → Option Value} {x : Str} {C : Addr}
theorem xb_mk (X : K.In h) (G : h.Ns mainGlobals mg) (a : PySem.W.nsIn K mainGlobals x = some (some (.ref C))) (k : PySem.W.keepIn K (.ref C) = true) (b : PySem.W.subIn K (.ref C) (.type "BaseException") = some true)
    (t : PySem.W.typeIn K (.ref C) = some (.type "type")) (d : PySem.W.hasDictIn K C = true) (i : PySem.W.isClsIn K C = true) : XB K mg x C := ⟨PySem.W.mg_of X G a, k, b, t, d, i⟩
theorem xcl_mk (X : K.In h) (G : h.Ns mainGlobals mg) (a : PySem.W.nsIn K mainGlobals x = some (some (.ref C)))
    (q : PySem.W.excIn K C [.type "ValueError", .type "Exception", .type "BaseException", .type "object"] "ValueError.__new__" = true) (k : PySem.W.keepIn K (.ref C) = true)
    (b : PySem.W.subIn K (.ref C) (.type "BaseException") = some true) (t : PySem.W.typeIn K (.ref C) = some (.type "type"))
    (hg : PySem.W.findIn K (.ref C) "__getattribute__" = some (some (.builtin "BaseException.__getattribute__"))) (hk : PySem.W.findIn K (.ref C) "__getattr__" = some none) (hd : PySem.W.hasDictIn K C = true)
    (ha : PySem.W.findIn K (.ref C) "__class__" = some (some (.builtin "object.__class__"))) (hn : PySem.W.specialIn K (.builtin "object.__class__") "__get__" = some (some (.builtin "getset_descriptor.__get__")))
    (ht : PySem.W.takesIn K (.builtin "object.__class__") = some true) (hm : PySem.W.mroIn K C (.type "object") = some true) (i : PySem.W.isClsIn K C = true) : XCl K mg x C :=
  ⟨⟨PySem.W.mg_of X G a, k, b, t, hd, i⟩, q, ⟨hg, hk, b, hd, ha, hn, ht, hm⟩⟩
/-- isinstance of an own class -/
theorem kit_own {D : Addr} {r : Bool} (i : PySem.W.isClsIn K C = true) (t : PySem.W.typeIn K (.ref C) = some (.type "type")) (s : PySem.W.subIn K (.ref D) (.ref C) = some r) (hne : (Value.ref D == Value.ref C) = true → r = true) :
    PySem.W.kitOne K (.ref D) (.ref C) = some r := by
  unfold PySem.W.kitOne
  cases e : (Value.ref D == Value.ref C) with
  | true => rw [if_pos rfl, hne e]
  | false =>
    rw [if_neg Bool.false_ne_true]
    have h2 : ((PySem.W.clsIn K C).isSome && PySem.W.typeIn K (.ref C) == some (.type "type")) = true := by
      have h2' : (PySem.W.clsIn K C).isSome = true := i
      rw [h2', t] <;> rfl
    show (if ((PySem.W.clsIn K C).isSome && PySem.W.typeIn K (.ref C) == some (.type "type")) = true then PySem.W.subIn K (.ref D) (.ref C) else none) = some r
    rw [if_pos h2, s]
theorem kit_ve {D : Addr} (s : PySem.W.subIn K (.ref D) (.type "ValueError") = some true) : PySem.W.kitOne K (.ref D) (.type "ValueError") = some true := by
  have e : (Value.ref D == Value.type "ValueError") = false := rfl
  unfold PySem.W.kitOne
  rw [e, if_neg Bool.false_ne_true]
  show (if PySem.W.kitMeta "ValueError" = true then PySem.W.subIn K (.ref D) (.type "ValueError") else none) = some true
  rw [if_pos (by decide +kernel), s]
/-- except C takes an error of the class at D -/
theorem exm_own {D : Addr} {r : Bool} {y : Str} (c : XB K mg y C) (s : PySem.W.subIn K (.ref D) (.ref C) = some r) : PySem.W.exmOne K (.ref D) (.ref C) = some r := PySem.W.exm_ref c.b c.d c.t s
/-! ### the facts of the top -/
theorem dn_mk {st : Stmt} {ps : List Str} {f : Addr} {oc : Value} {od an : Option Addr} {osl : Array (Option Value)} {kV doc pm cdv ct : Value} (X : K.In h) (G : h.Ns mainGlobals mg) (a : PySem.W.nsIn K mainGlobals x = some (some (.ref f)))
    (l : K.lookup f = some ⟨oc, od, .func (PySem.W.fnOf x x (defArgs st) (defBody st) (defScope st) .none kV doc pm an cdv ct), osl⟩) (c : PySem.W.codeIn K cdv x = true) (k : PySem.W.keepIn K (.ref f) = true)
    (hb : ∀ (kV doc pm : Value) (an : Option Addr) (cdv ct : Value) (us : List Value), us.length = ps.length → bindArgs (PySem.W.fnOf x x (defArgs st) (defBody st) (defScope st) .none kV doc pm an cdv ct) ⟨us, []⟩ = pure (ps.zip us)) : Dn K mg x st ps :=
  ⟨f, _, fun_mk l c k, PySem.W.mg_of X G a, (fun_mk l c k).binds hb⟩
theorem cv_int {i : Int} {t : Tok} (X : K.In h) (G : h.Ns mainGlobals mg) (a : PySem.W.nsIn K mainGlobals x = some (some (.int i t))) : CV mg x (.int i) := ⟨_, PySem.W.mg_of X G a, _, rfl⟩
theorem cv_str {i : Str} {t : Tok} (X : K.In h) (G : h.Ns mainGlobals mg) (a : PySem.W.nsIn K mainGlobals x = some (some (.str i t))) : CV mg x (.str i) := ⟨_, PySem.W.mg_of X G a, _, rfl⟩
theorem cv_bl {i : Bool} (X : K.In h) (G : h.Ns mainGlobals mg) (a : PySem.W.nsIn K mainGlobals x = some (some (.bool i))) : CV mg x (.bl i) := ⟨_, PySem.W.mg_of X G a, rfl⟩
/-- the name x of the module holds a tuple of the written part -/
def CT (K : PySem.W.Frag) (mg : Str → Option Value) (x : Str) (xs : List V) : Prop := ∃ p, mg x = some (.ref p) ∧ ∀ H, SqT K H p xs
theorem ct_mk {p : Addr} {od : Option Addr} {its : Array Value} {n : Nat} {sl : Array (Option Value)} {xs : List V} (X : K.In h) (G : h.Ns mainGlobals mg) (a : PySem.W.nsIn K mainGlobals x = some (some (.ref p)))
    (l : K.lookup p = some ⟨.type "tuple", od, .seq its n, sl⟩) (hs : its.size ≤ sizeLine) (hv : Vals xs its.toList) : CT K mg x xs :=
  ⟨p, PySem.W.mg_of X G a, fun _ => .inr ⟨_, its, n, l, rfl, rfl, hs, hv⟩⟩
end
theorem pe_globT {X : Cx} {x : Str} {xs : List V} {pos : Pos} (hg : Gl X x) (h : CT X.K X.mg x xs) (hd : (x == ("__debug__" : Str)) = false := by decide) :
    PE X (.Name x pos) (fun _ H Q => ∀ p, (∀ H', SqT X.K H' p xs) → Q (.ref p) H) := by
  obtain ⟨p, hm, hs⟩ := h
  exact ⟨fun pins s σ H Q I h => (pe_glob hg hm (v := .ref p) rfl hd).run pins s σ H Q I (h p hs)⟩
/-! ### a suite that is read for known errors alone -/
theorem pss_guard {X : Cx} {st : List Stmt} {p : Prop} {t : TS} (h : p → PSs X st t) : PSs X st (fun D σ H => p ∧ t D σ H) :=
  ⟨fun pins s σ H D I q => (h q.1).run pins s σ H D I q.2⟩
theorem to_true {Q : VK} {b : Bool} {H : Hp} (h : b = true) (q : Q (.bl true) H) : Q (.bl b) H := h ▸ q
/-- a new object at p stays the only one that changes -/
theorem same_new {H H' : Hp} {p : Addr} {o : HO} (e : Same H H') (hp : H p = none) : Same H (upd H' p o) := Evl.Ex.mut e hp
theorem same_upd {H : Hp} {p : Addr} {o : HO} (hp : H p = none) : Same H (upd H p o) := Evl.Ex.new hp
theorem tyx_list {K : PySem.W.Frag} {H : Hp} {a : Addr} {xs : List V} (h : SqL K H a xs) : TyX K H (.ref a) (.type "list") := by
  rcases h with (h | ⟨o, h⟩) | ⟨o, its, n, h, hc, _⟩
  · exact .base (.lst h)
  · exact .base (.frz h)
  · exact .kList h hc
theorem tyx_tuple {K : PySem.W.Frag} {H : Hp} {a : Addr} {xs : List V} (h : SqT K H a xs) : TyX K H (.ref a) (.type "tuple") := by
  rcases h with (h | ⟨o, h⟩) | ⟨o, its, n, h, hc, _⟩
  · exact .base (.tup h)
  · exact .fTuple h
  · exact .kTuple h hc
theorem small {n : Nat} (h : n ≤ 100000) : n < sizeLine := Nat.lt_of_le_of_lt h (by decide)
theorem smallE {n : Nat} (h : n ≤ 100000) : n ≤ sizeLine := Nat.le_trans h (by decide)
/-- for .. in enumerate(list) -/
theorem for_enum {K : PySem.W.Frag} {a : Addr} {xs : List V} {g : TG} {tb : TS} {D : Ends} {σ : L2.St} {H : Hp} (Pv : Nat → L2.St → Hp → Prop) (h0 : Pv 0 σ H) (hl : ∀ i σ H, i ≤ xs.length → Pv i σ H → SqL K H a xs)
    (hs : ∀ i x T σ H, xs[i]? = some x → Pv i σ H → H T = none → g (.ref T) σ (upd H T (.tup [.int (i : Nat), x])) fun σ2 H2 => tb { D with nx := Pv (i + 1), ct := Pv (i + 1), bk := D.nx } σ2 H2) (hd : ∀ σ H, Pv xs.length σ H → D.nx σ H) :
    ∃ W : Nat → Nat → L2.St → Hp → Prop, (∃ m, W 0 m σ H) ∧ ∀ i m σ H, W i m σ H →
      ((Ite K a).stop i H ∧ D.nx σ H) ∨ ((Ite K a).go i H ∧ ∃ N : L2.St → Hp → Prop, (∀ σ' H', N σ' H' → ∃ m', m' < m ∧ W (i + 1) m' σ' H') ∧ ∀ x H', (Ite K a).yld i H x H' → g x σ H' fun σ2 H2 => tb { D with nx := N, ct := N, bk := D.nx } σ2 H2) := by
  refine ⟨fun i m σ H => m = xs.length - i ∧ i ≤ xs.length ∧ Pv i σ H, ⟨xs.length, by simp, Nat.zero_le _, h0⟩, ?_⟩
  rintro i m σ H ⟨rfl, hi, p⟩
  have q := hl i σ H hi p
  by_cases hlt : i < xs.length
  · refine .inr ⟨⟨xs, xs[i], q, by simp [hlt]⟩, Pv (i + 1), fun σ' H' p' => ⟨xs.length - (i + 1), by omega, rfl, hlt, p'⟩, fun x H' y => ?_⟩
    obtain ⟨T, z, rfl, hT, rfl, y⟩ := y
    exact hs i z T σ H (y xs q) p hT
  · have e : i = xs.length := by omega
    subst e
    exact .inl ⟨⟨xs, q, Nat.le_refl _⟩, hd σ H p⟩
/-- an item of a list by a number that is told -/
theorem at_nat {α : Type} {xs : List α} {i : Int} {j : Nat} {v : α} (e : i = (j : Int)) (h : xs[j]? = some v) : atI xs i = some v := e ▸ atI_nat h
theorem ix_nat {n j : Nat} {i : Int} (e : i = (j : Int)) (h : j < n) : ixN n i = some j := e ▸ Evl.ixN_nat h
/-! ### rules whose reading names the written part by itself (for the bodies and suites of a try) -/
def rLenK (K : PySem.W.Frag) : List V → Hp → VK → Prop := fun xs H Q => ∃ p ys, xs = [.ref p] ∧ (SqL K H p ys ∨ SqT K H p ys) ∧ Q (.int ys.length) H
theorem call_lenK {X : Cx} {K : PySem.W.Frag} (h : X.K = K := by rfl) : CallR X (.builtin "len") (rLenK K) := by
  subst h
  exact call_len_seq
theorem op_eqDK {X : Cx} {K : PySem.W.Frag} (hu : X.A.units + 64 < cLine) (h : X.K = K := by rfl) : OpR X (compareOp .Eq) (rEqD K) := by
  subst h
  exact op_eqD hu
theorem op_neDK {X : Cx} {K : PySem.W.Frag} (hu : X.A.units + 64 < cLine) (h : X.K = K := by rfl) : OpR X (compareOp .NotEq) (rNeD K) := by
  subst h
  exact op_neD hu
theorem call_isiK' {X : Cx} {K : PySem.W.Frag} (h : X.K = K := by rfl) : CallR X (.builtin "isinstance") (rIsi K) := by
  subst h
  exact call_isi
def rListK (K : PySem.W.Frag) : List V → Hp → VK → Prop := fun xs H Q => ∃ p ys, xs = [.ref p] ∧ (SqL K H p ys ∨ SqT K H p ys) ∧ ∀ l, H l = none → Q (.ref l) (upd H l (.lst ys))
theorem call_list_ofK {X : Cx} {K : PySem.W.Frag} (h : X.K = K := by rfl) : CallR X (.type "list") (rListK K) := by
  subst h
  exact call_list_of
theorem sl_listK {X : Cx} {K : PySem.W.Frag} (h : X.K = K := by rfl) : SlR X (rSlL K) := by
  subst h
  exact sl_list
/-! ### slices -/
theorem sIx_nat {n k : Nat} (d : Nat) (h : k ≤ n) : HT.sIx n d (some (k : Int)) = k := by
  simp only [HT.sIx]
  split <;> omega
theorem cut_to {xs : List V} {k : Nat} (h : k ≤ xs.length) : cutV xs none (some (k : Int)) = xs.take k := by
  unfold cutV
  rw [sIx_nat _ h]
  simp [HT.sIx]
theorem cut_from {xs : List V} {k : Nat} (h : k ≤ xs.length) : cutV xs (some (k : Int)) none = xs.drop k := by
  unfold cutV
  rw [sIx_nat _ h]
  simp only [HT.sIx]
  rw [List.take_of_length_le (by rw [List.length_drop]; omega)]
theorem cut_mid {xs : List V} {j k : Nat} (h1 : j ≤ k) (h : k ≤ xs.length) : cutV xs (some (j : Int)) (some (k : Int)) = (xs.drop j).take (k - j) := by
  unfold cutV
  rw [sIx_nat _ h, sIx_nat _ (Nat.le_trans h1 h)]
/-! ### data -/
mutual
theorem dp_mono {K : PySem.W.Frag} {H H' : Hp} (e : Same H H') : ∀ {d : PyData} {v : V}, Dp K H v d → Dp K H' v d
  | _, _, .non => .non
  | _, _, .bl b => .bl b
  | _, _, .int i => .int i
  | _, _, .str x => .str x
  | _, _, .lst h r => .lst (e.seq h) (dpAll_mono e r)
  | _, _, .tup h r => .tup (Evl.ex_t e h) (dpAll_mono e r)
theorem dpAll_mono {K : PySem.W.Frag} {H H' : Hp} (e : Same H H') : ∀ {ds : List PyData} {vs : List V}, DpAll K H vs ds → DpAll K H' vs ds
  | _, _, .nil => .nil
  | _, _, .cons h r => .cons (dp_mono e h) (dpAll_mono e r)
end
theorem dp_ints {K : PySem.W.Frag} {H : Hp} : ∀ (ns : List Int), DpAll K H (ns.map V.int) (ns.map PyData.int)
  | [] => .nil
  | n :: ns => .cons (.int n) (dp_ints ns)
theorem canLayAll_ints : ∀ (ns : List Int), PyData.canLayAll0 (ns.map PyData.int) = true
  | [] => rfl
  | n :: ns => by simp [PyData.canLayAll0, PyData.canLay0, canLayAll_ints ns]
theorem depthAll_ints : ∀ (ns : List Int), PyData.depthAll (ns.map PyData.int) = 0
  | [] => rfl
  | n :: ns => by simp [PyData.depthAll, PyData.depth, depthAll_ints ns]
theorem shaped_ints (ns : List Int) : SeqAt.shaped (.list (ns.map PyData.int)) = true := by
  simp [SeqAt.shaped, PyData.canLay0, PyData.depth, canLayAll_ints, depthAll_ints]
theorem eqvAll_ints : ∀ (ns ms : List Int), PyData.eqvAll (ns.map PyData.int) (ms.map PyData.int) = decide (ns = ms)
  | [], [] => by simp [PyData.eqvAll]
  | [], m :: ms => by simp [PyData.eqvAll]
  | n :: ns, [] => by simp [PyData.eqvAll]
  | n :: ns, m :: ms => by
    by_cases h : n = m <;> simp [PyData.eqvAll, PyData.eqv, eqvAll_ints ns ms, h]
theorem eqv_ints (ns ms : List Int) : PyData.eqv (.list (ns.map PyData.int)) (.list (ms.map PyData.int)) = decide (ns = ms) := by
  rw [PyData.eqv]
  exact eqvAll_ints ns ms
theorem shaped_pair (as bs : List Int) : SeqAt.shaped (.tuple [.list (as.map PyData.int), .list (bs.map PyData.int)]) = true := by
  simp [SeqAt.shaped, PyData.canLay0, PyData.canLayAll0, PyData.depth, PyData.depthAll, canLayAll_ints, depthAll_ints]
theorem eqv_refl' {d : PyData} (h : SeqAt.shaped d = true) : PyData.eqv d d = true := SeqAt.eqv_refl _ (SeqAt.canLay_of_shaped h)
theorem dp_list {K : PySem.W.Frag} {H : Hp} {a : Addr} {ns : List Int} (h : SqL K H a (ns.map V.int)) : Dp K H (.ref a) (.list (ns.map PyData.int)) := .lst h (dp_ints ns)
theorem get_ints {ns : List Int} {i : Nat} {y : V} (h : (ns.map V.int)[i]? = some y) : ∃ (hi : i < ns.length), y = V.int ns[i] := by
  rw [List.getElem?_map] at h
  by_cases hi : i < ns.length
  · rw [List.getElem?_eq_getElem hi] at h
    exact ⟨hi, (Option.some.inj h).symm⟩
  · rw [List.getElem?_eq_none (Nat.le_of_not_lt hi)] at h
    cases h
theorem take_snoc {α : Type} {l : List α} {i : Nat} (hi : i < l.length) : l.take (i + 1) = l.take i ++ [l[i]] := by
  rw [List.take_add_one, List.getElem?_eq_getElem hi]
  rfl
/-! ### the script's cells -/
def cell (ns : List Int) (k : Nat) : Int := ns.getD k 0
theorem cell_in {ns : List Int} {k : Nat} (hk : k < ns.length) : cell ns k = ns[k] := by simp [cell, List.getD_eq_getElem?_getD, List.getElem?_eq_getElem hk]
theorem cell_out {ns : List Int} {k : Nat} (hk : ¬ k < ns.length) : cell ns k = 0 := by simp [cell, List.getD_eq_getElem?_getD, List.getElem?_eq_none (Nat.le_of_not_lt hk)]
end Cm

/-! ### an own exception class over ValueError: def __init__(self, p): super().__init__(f'..{p}..'); self.f = p -/
namespace OE
open PySem PySem.Spec PyProof.Rows L2
def iniB (p0 p1 pa pc pe ps pf pp pz pj : Pos) (js : List Expr) (prm fld : Str) : List Stmt :=
  [.Expr (.Call (.Attribute (.Call (.Name "super" p0) [] [] p1) "__init__" pa) [.JoinedStr js pj] [] pc) pe, .Assign [.Attribute (.Name "self" ps) fld pf] (.Name prm pp) pz]
/-- what the written part says of the class and its __init__ -/
structure Ini (P : Program) (K : PySem.W.Frag) (mg : Str → Option Value) (C fI cc cda : Addr) (qual prm fld : Str) (params : Arguments) (scope : Scope) (fd : FuncData) (bd : List Stmt) : Prop where
  fdE : ∃ kV doc pm an ct, fd = PySem.W.fnX "__init__" qual params bd scope [("__class__", cc)] .none kV doc pm an (.ref cda) ct
  lk : ∃ oc od sl, K.lookup fI = some ⟨oc, od, .func fd, sl⟩
  code : PySem.W.codeIn K (.ref cda) qual = true
  file : ∃ ccl cdd vs ccs file tf, K.lookup cda = some ⟨ccl, cdd, .fields vs, ccs⟩ ∧ vs[2]? = some (.str file tf) ∧ ((P.main.file : Str) == file) = true
  cell : ∃ cl cld csl, K.lookup cc = some ⟨cl, cld, .cell (some (.ref C)), csl⟩
  T : OexC K C
  cd : ∃ cd, PySem.W.clsIn K C = some cd
  self : PySem.W.mroIn K C (.ref C) = some true
  sup : mg "super" = none
  opq : PySem.W.nsIn K cStatics "thirdparty.any" = some none
  nxt : PySem.W.ks_superIn K C C "__init__" = some (some (.builtin "ValueError.__init__"))
  ve : PySem.W.subIn K (.ref C) (.type "ValueError") = some true
  top : (P.main.scope.names.lookup ("super" : Str)).isSome = false
  fld : PySem.W.findIn K (.ref C) fld = some none
  S : NdefX.NScope ["self", prm, "__class__"] ["self", prm] ["__class__"] scope
  hs : scope.names.lookup ("super" : Str) = some .globalImplicit
  dbg : (prm == ("__debug__" : Str)) = false
  cdt : (prm == ("__classdict__" : Str)) = false
  par : ∃ ar : Arg, (params.posonlyargs ++ params.args).head? = some ar ∧ ar.arg = "self"
section
open Builtin
variable {prog : Program} {w : World} {A : Around} {E : Value → Shared → Prop} {h : Heap} {g : Array GenState} {d : Drawn} {t : Nat} {os : OsState}
variable {nm q : Str} {C N : Addr} {bs bm : List Value} {hdct : Bool} {sn : List Str} {sub : List Value} {ab : Bool} {col : Option Bool} {dd : Option Addr} {k0 k1 k2 k3 k5 : Option Value}
theorem call_mw {u e t0 : Addr} {rest : List Value} {Q : Value → Shared → Prop}
    (hC : h.get? C = some (excClassObj nm q C N bs bm hdct sn sub ab col dd k0 k1 k2 k3 k5 "ValueError.__new__")) (he : h.get? e = some (PySem.HandSPX.excO C t0)) (hu : h.get? u = some (PySem.W.kxs_mw "ValueError.__init__" e)) (hrest : rest.length ≤ sizeLine)
    (hq : ∀ h' t1, (∀ b o, b ≠ e → h.get? b = some o → h'.get? b = some o) → h'.get? e = some (PySem.HandSPX.excO C t1) → Q .none ⟨h', g, d, t, os⟩) :
    wpAny (model prog w) A (call (.ref u) rest) Q E ⟨h, g, d, t, os⟩ := by
  refine wpAny_call (codeAny_of_tree ?_)
  show wpAny _ A.in1 (callAny (.ref u) ⟨rest, []⟩) _ _ _
  simp only [callAny]
  refine wpAny_bind (wpAny_load hu ?_)
  simp only [PySem.W.kxs_mw, show (Value.type "method-wrapper" == Value.type "method" || Value.type "method-wrapper" == Value.type "builtin_function_or_method" || Value.type "method-wrapper" == Value.type "method-wrapper") = true by decide, if_true]
  refine PySem.W.KFB.if_so (by decide) ?_
  refine wpAny_bind (PySem.W.check_bound_init PySem.F.excBase_ValueError.toExcCallFacts hC he rfl ?_)
  refine wpAny_bind (wpAny_pure (wpAny_pure ?_))
  refine ⟨plainId_quiet PySem.F.excBase_ValueError.init.plain _, codeAny_builtin PySem.F.excBase_ValueError.initEntry ?_⟩
  rw [Around.under_plainId PySem.F.excBase_ValueError.init.plain _]
  wp_walk
  refine hq _ h.objs.size (fun b o hb ho => ?_) ?_
  · rw [Heap.get?_update_other _ _ (Ne.symm hb)]
    exact Heap.get?_push_of_some _ ho
  · rw [Heap.get?_update_self _ (Heap.get?_push_of_some _ he) rfl]
    rfl
end
def spIni (C : Addr) (fld : Str) : Sp := fun vs H Q _ => ∃ (a : Addr) (i : Int), vs = [.ref a, .int i] ∧ i.natAbs.log2 < 1920 ∧ H a = some (exo a C none) ∧ ∀ d, H d = none → d ≠ a → Q .non (upd (upd H d (exd d [(fld, .int i)])) a (exo a C (some d)))
section
variable {P : Program} {w : World} {K : PySem.W.Frag} {mg : Str → Option Value} {base : Heap} {CX : CXT} {k : Nat} {C fI cc cda : Addr} {qual prm fld : Str} {params : Arguments} {scope : Scope} {js : List Expr} {pj : Pos} {fd : FuncData} {bd : List Stmt}
abbrev nf (qual : Str) (params : Arguments) (bd : List Stmt) (scope : Scope) (cc cda : Addr) : NdefX.NF := ⟨"__init__", qual, params, bd, scope, [("__class__", cc)], cda⟩
theorem look1 {x y : Str} {c c' : Addr} (h : List.lookup y [(x, c)] = some c') : y = x ∧ c' = c := by
  simp only [List.lookup] at h
  split at h
  · rename_i e
    exact ⟨by simpa using e, (Option.some.inj h).symm⟩
  · cases h
theorem ini_ok {p0 p1 pa pc pe ps pf pp pz : Pos} (D : Ini P K mg C fI cc cda qual prm fld params scope fd bd) (hbd : bd = iniB p0 p1 pa pc pe ps pf pp pz pj js prm fld)
    (hcall : ∀ env : Env, ∃ pl : Sem Bool, eval (.Call (.Attribute (.Call (.Name "super" p0) [] [] p1) "__init__" pa) [.JoinedStr js pj] [] pc) env = (do
      let ov ← attributeBase (.Call (.Name "super" p0) [] [] p1) "__init__" env (eval (.Call (.Name "super" p0) [] [] p1) env)
      standAt pa.atName
      let (f, first) ← holding [ov] (getMethod ov "__init__" pl)
      callWith pc f first (backTo pc (starEach [.JoinedStr js pj] env)) []))
    (hj : ∀ (A : Around) (outer : List Env) (s : Shared) (H : Hp) (E : XK), ∃ tj, PE (NdefX.ncx CX P w K mg base ["self", prm, "__class__"] (nf qual params bd scope cc cda) fI A outer s H E) (.JoinedStr js pj) tj ∧
      ∀ (a : Addr) (i : Int) (Q : VK) (H : Hp), i.natAbs.log2 < 1920 → (∀ z, Q (.str z) H) → tj [some (.ref a), some (.int i), some (.ref C)] H Q) :
    FnOk P w K mg base CX (k + 1) fI fd ["self", prm] (spIni C fld) := by
  obtain ⟨kV, doc, pm, an, ct, rfl⟩ := D.fdE
  subst hbd
  obtain ⟨oc, od, sl, lk⟩ := D.lk
  obtain ⟨cl, cld, csl, hcell⟩ := D.cell
  obtain ⟨ccl, cdd, vs0, ccs, file, tf, hcode, hvs, hfile⟩ := D.file
  obtain ⟨ar, har, hself⟩ := D.par
  obtain ⟨cd, hcd⟩ := D.cd
  obtain ⟨nm, q, N, bs, bm, sn, sub, ab, col, dd, k0, k1, k2, k3, k5, hC, hbm⟩ := D.T.cls
  have S := D.S
  refine ⟨fun vs H Q E h => ?_, fun A outer s H args us vs Q E hr e0 hb r hsp => ?_⟩
  · obtain ⟨a, i, rfl, _⟩ := h
    rfl
  obtain ⟨a, i, rfl, hi, ea, kq⟩ := hsp
  have lim : s.heap.NoLimit := e0.mod.nolimit.keeps fun b o e => (e0.bs b o e).1
  have kin : K.In s.heap := e0.mod.kin.keeps fun b o e => (e0.bs b o e).1
  obtain ⟨tj, pj', hjr⟩ := hj A outer s H E
  have CA : NdefX.CellsAt [("__class__", cc)] ["__class__"] [some (.ref C)] s.heap H := {
    len := rfl
    all := fun y c e => by
      obtain ⟨_, rfl⟩ := look1 e
      exact ⟨(e0.bs _ _ (e0.mod.kin _ _ hcell)).2, _, _, kin _ _ hcell, rfl⟩
    inj := fun x y c e1 e2 => (look1 e1).1.trans (look1 e2).1.symm
    has := fun j y e => by
      cases j with
      | zero =>
        cases e
        refine ⟨cc, rfl, fun v ev => ?_⟩
        cases ev
        exact ⟨.ref C, rfl, _, kin _ _ hcell, rfl⟩
      | succ j => cases e }
  cases r with
  | @cons _ u0 _ ur ra r1 =>
  cases r1 with
  | @cons _ u1 _ ur' ri r2 =>
  cases r2
  obtain rfl : u0 = Value.ref a := ra
  have rv : Vals [V.ref a, V.int i] [Value.ref a, u1] := .cons rfl (.cons ri .nil)
  refine ks_codeAny_call_defAt (binds := (["self", prm] : List Str).zip [Value.ref a, u1]) hr.depth (kin _ _ lk) rfl lim (PySem.W.codeRec_of kin D.code) rfl hb S.nocell (fun ⟨n, _⟩ hy => S.par n (List.of_mem_zip hy).1) (fun h₁ hns kp => ?_) S.co S.gen S.kind
  have I : Inv (NdefX.ncx CX P w K mg base ["self", prm, "__class__"] (nf qual params (iniB p0 p1 pa pc pe ps pf pp pz pj js prm fld) scope cc cda) fI A outer s H E) [] [some (.ref a), some (.int i), some (.ref C)] H { s with heap := h₁, toks := s.toks + ((["self", prm] : List Str).zip [Value.ref a, u1]).length } :=
    NdefX.inv_startN (F := nf qual params (iniB p0 p1 pa pc pe ps pf pp pz pj js prm fld) scope cc cda) S hr.hd e0 rfl rv CA hns kp
  have kin1 : K.In h₁ := kin.keeps kp
  have ndP : ((["self", prm] : List Str)).Nodup := S.nd.sublist (List.take_sublist 2 (["self", prm, "__class__"] : List Str))
  obtain ⟨t1, hxo⟩ := exo_at I.hok ea
  have hmro : PySem.W.Looks (model P w) h₁ (PySem.isSubtype (.ref C) (.ref C)) true := PySem.W.looks_mroIn kin1 D.self
  obtain ⟨hh, g, d, t, os⟩ := s
  dsimp only at hxo
  obtain ⟨pl, hc⟩ := hcall (callEnv (PySem.W.fnX "__init__" qual params (iniB p0 p1 pa pc pe ps pf pp pz pj js prm fld) scope [("__class__", cc)] .none kV doc pm an (.ref cda) ct) hh.objs.size fI)
  refine ks_wpAt_execs_cons (ks_wpAt_Expr_any (ks_wpAt_MethodCall (pl := pl) ?_ hc) (hi := by
    have e : (callEnv (PySem.W.fnX "__init__" qual params (iniB p0 p1 pa pc pe ps pf pp pz pj js prm fld) scope [("__class__", cc)] .none kV doc pm an (.ref cda) ct) hh.objs.size fI).scope.kind = .function := S.kind
    unfold interactive
    rw [e]
    rfl))
  refine ks_wpAt_super_base D.hs (S.frk _ (by simp)) (by rfl) rfl (kin1 _ _ lk) rfl har rfl (kin1 _ _ hcode) rfl hvs hfile D.top ?_
  obtain ⟨mb, hb1, hb2⟩ := I.mod.blt
  refine PySem.W.ks_loadName_global S.kind D.hs (Calls.loadGlobal_builtin (by rw [show (callEnv _ _ _).globals = mainGlobals from rfl]; exact I.mod.glob.keeps I.bk) D.sup (hb1.keeps I.bk) ((hb2 _ (by decide)).trans (show bootBuiltins "super" = some (.type "super") by rfl)) ⟨rfl, ?_⟩)
  refine wpAny_loadName_free S.kind (S.frk _ (by simp)) rfl ⟨_, kin1 _ _ hcell, rfl⟩ ?_
  rw [hself]
  refine wpAny_loadName_local S.kind (S.par _ (by simp)) hns (v := .ref a) (NdefX.zip_look (ps := (["self", prm] : List Str)) (us := [Value.ref a, u1]) (i := 0) ndP rfl rfl) ?_
  refine ks_wpAny_isType_cls (kin1 _ _ hC) rfl ⟨rfl, ?_⟩
  refine ks_wpAny_call_super (kin1 _ _ hC) rfl hxo rfl (fun c e => by cases e) hmro (fun h₂ hso k2 => ?_)
  have kin2 : K.In h₂ := kin1.keeps k2
  have hxo2 := k2 _ _ hxo
  have hC2 := kin2 _ _ hC
  have Ix : PySem.W.InstAt h₂ a ({ cls := .ref C, dict := none, data := .fields #[.ref t1, .none, .none, .none, .bool false, .none] } : Obj) C none := ⟨hxo2, rfl, rfl, trivial⟩
  have hnxt := D.nxt
  unfold PySem.W.ks_superIn at hnxt
  rw [hcd] at hnxt
  have I1 := I.kept (t' := t + ((["self", prm] : List Str).zip [Value.ref a, u1]).length) k2
  refine PySem.W.kxs_getMethod (K := K) PySem.W.kxs_ValueError hso (PySem.W.looks_opaque kin2 D.opq) (l₀ := cd.mro) (fun A Q E s k q => wpAny_bind ((PySem.W.looks_clsIn kin2 hcd) A _ E s k (wpAny_pure q))) rfl kin2 hnxt (Ix.type.andThen (PySem.W.looks_subIn kin2 D.ve)) (PySem.W.ks_ne kin2 Ix hcd) (by rfl) ?_
  dsimp only
  have hn : H h₂.objs.size = none := I1.hok.fresh (Nat.le_refl _)
  have fpo := I1.fpOk (b := h₂.objs.size) (H' := H) (Nat.le_refl _) hn
  have I2 := I1.kept (h' := h₂.push (PySem.W.kxs_mw "ValueError.__init__" a)) (t' := t + ((["self", prm] : List Str).zip [Value.ref a, u1]).length + 1) fun b o e => Heap.get?_push_of_some _ e
  have I3 := I2.pins_of (pins' := [(h₂.objs.size, PySem.W.kxs_mw "ValueError.__init__" a)]) (fun p hp => by
    rw [List.mem_singleton.mp hp]
    exact ⟨Heap.get?_push_size _ rfl, hn, fpo.2.1, fpo.2.2.1, fun v e => by cases e⟩)
  refine PySem.W.kxs_callWith (i := "ValueError.__init__") (x := a) rfl (Calls.evalArgs_plain ?_)
  refine Calls.spliced_cons (thn (pj'.run _ _ _ _ (fun v H1 => (∃ z, v = V.str z) ∧ H = H1) I3 (hjr a i _ H hi fun z => ⟨⟨z, rfl⟩, rfl⟩)) fun u s1 hh1 => ?_)
  obtain ⟨v, H1, I4, rv4, ⟨z, rfl⟩, rfl⟩ := hh1
  obtain ⟨h₄, g4, d4, t4, os4⟩ := s1
  have hmw := (I4.pin (h₂.objs.size, PySem.W.kxs_mw "ValueError.__init__" a) (by simp)).1
  obtain ⟨t5, hxo4⟩ := exo_at I4.hok ea
  refine Calls.spliced_nil ⟨hmw, ?_⟩
  refine call_mw (I4.kIn _ _ hC) hxo4 hmw (by show 1 ≤ sizeLine; decide) fun h₅ t6 k5' hx5 => ?_
  have J0 := I4.write (t' := t4) (x := a) (e := a) (o := exo a C none) (by rw [ea]; exact True.intro) (.inl rfl) k5' ⟨_, hx5⟩ (exo_ok hx5)
  have eu : upd H a (exo a C none) = H := by
    funext b
    by_cases hb : b = a
    · rw [hb, upd_same, ea]
    · rw [upd_ne hb]
  rw [eu] at J0
  refine wpAt_of_wpAny ?_
  have ht : PSs (NdefX.ncx CX P w K mg base ["self", prm, "__class__"] (nf qual params (iniB p0 p1 pa pc pe ps pf pp pz pj js prm fld) scope cc cda) fI A outer ⟨hh, g, d, t, os⟩ H E) [.Assign [.Attribute (.Name "self" ps) fld pf] (.Name prm pp) pz] _ :=
    pss_one (ps_ost (pe_var (i := 0) rfl (.inl (S.par _ (by simp)))) (pe_var (i := 1) rfl (.inl (S.par _ (by simp))) (hd := D.dbg) (hcd := D.cdt)))
  refine wpAny_mono (ht.run _ _ _ H { nx := fun _ H' => Q .non H', rt := Q } J0 ⟨_, rfl, _, rfl, a, C, rfl, D.T, D.fld, .inl ⟨ea, fun dx hn hne => kq dx hn hne⟩⟩) (fun fl s' hs => ?_) fun e s' hs => hs
  cases fl with
  | ret u =>
    obtain ⟨v, σ', H', J, rv, q⟩ := hs
    exact ⟨v, H', J.os, J.bare, J.base, J.hok, rv, q⟩
  | next =>
    obtain ⟨σ', H', J, q⟩ := hs
    exact ⟨V.non, H', J.os, J.bare, J.base, J.hok, rfl, q⟩
  | brk =>
    obtain ⟨_, _, _, q⟩ := hs
    exact False.elim q
  | cont =>
    obtain ⟨_, _, _, q⟩ := hs
    exact False.elim q
end
/-- making one: what is promised -/
def OIni (P : Program) (w : World) (K : PySem.W.Frag) (mg : Str → Option Value) (base : Heap) (x : Str) (C : Addr) (fld : Str) : Prop :=
  ∃ (fI : Addr) (fd : FuncData) (prm : Str), FnOk P w K mg base CX0 1 fI fd ["self", prm] (spIni C fld) ∧ PySem.W.findIn K (.ref C) "__init__" = some (some (.ref fI)) ∧ PySem.W.typeIn K (.ref fI) = some (.type "function") ∧ Binds K fd ["self", prm] [] ∧ OexC K C ∧ mg x = some (.ref C)
/-- X(e): the error and its one field -/
def tErr (C : Addr) (fld : Str) (ta : TA) : L2.St → Hp → XK → Prop := fun σ H Q => ta σ H fun vs H1 => ∃ i : Int, vs = [.int i] ∧ i.natAbs.log2 < 1920 ∧ ∀ d, H1 d = none → Q (.ref C) (some d) (upd H1 d (.xd [(fld, .int i)]))
section
variable {X : Cx} {x fld : Str} {C : Addr} {e : Expr} {ta : TA} {p pos : Pos}
theorem pmk_err (O : OIni X.prog X.w X.K X.mg X.base x C fld) (hr : Room 2 X.A) (hx : Passes CX0 X (fun _ _ _ => False)) (hg : Gl X x) (ha : PA X [e] ta)
    (hdb : (x == ("__debug__" : Str)) = false := by decide) (he : starEach [e] X.env = (false, eval e X.env) :: starEach [] X.env := by rfl) (hpl : (backTo pos (starEach [] X.env)).any (·.1) = false := by rfl) :
    L2N.PMk X (.Call (.Name x p) [e] [] pos) (tErr C fld ta) := by
  intro pins s σ H Q I h
  obtain ⟨fI, fd, prm, F1, iC, tI, hb, T, hm⟩ := O
  obtain ⟨nm, q, N, bs, bm, sn, sub, ab, col, dd, k0, k1, k2, k3, k5, hC, hbm⟩ := T.cls
  refine wpAny_Call_Name_kw (ld_glob I hg hm ?_ hdb)
  refine PySem.W.callWith_K (h₀ := X.base) I.ok.mod.kin T.kC (thn (ha.run pos pins s σ H _ I h) fun us s1 ⟨vs, H1, I1, r1, i, ev, hi, q1⟩ => ⟨I1.kIn, ?_⟩) he hpl
  subst ev
  show wpAny _ _ (call (.ref C) us) _ _ _
  obtain ⟨hp, g, dr, tk, os⟩ := s1
  have hul : us.length = 1 := by
    have z := Paired.length r1
    exact z.symm
  obtain ⟨u1, rfl⟩ : ∃ u1, us = [u1] := match us, hul with | [u1], _ => ⟨u1, rfl⟩
  have hsz : hp.objs.size ≤ hp.objs.size + 1 := Nat.le_succ _
  have hn : H1 (hp.objs.size + 1) = none := I1.hok.fresh hsz
  have kk : ∀ b o, hp.get? b = some o → ((hp.push (PySem.W.kdv_tup [u1])).push (PySem.HandSPX.excO C hp.objs.size)).get? b = some o := fun b o e => Heap.get?_push_of_some _ (Heap.get?_push_of_some _ e)
  have hget : ((hp.push (PySem.W.kdv_tup [u1])).push (PySem.HandSPX.excO C hp.objs.size)).get? (hp.objs.size + 1) = some (PySem.HandSPX.excO C hp.objs.size) := by heap_get
  have I2 : Inv X pins σ (upd H1 (hp.objs.size + 1) (exo (hp.objs.size + 1) C none)) ⟨(hp.push (PySem.W.kdv_tup [u1])).push (PySem.HandSPX.excO C hp.objs.size), g, dr, tk, os⟩ :=
    I1.laid (t' := tk) (a := hp.objs.size + 1) (o := exo (hp.objs.size + 1) C none) (h' := (hp.push (PySem.W.kdv_tup [u1])).push (PySem.HandSPX.excO C hp.objs.size)) kk hsz (exo_ok hget)
  have r2 : Vals [V.ref (hp.objs.size + 1), V.int i] [Value.ref (hp.objs.size + 1), u1] := .cons rfl r1
  have hq : spIni C fld [V.ref (hp.objs.size + 1), V.int i] (upd H1 (hp.objs.size + 1) (exo (hp.objs.size + 1) C none)) (fun v H2 => v = .non ∧ ∃ d, H1 d = none ∧ d ≠ hp.objs.size + 1 ∧ H2 = upd (upd (upd H1 (hp.objs.size + 1) (exo (hp.objs.size + 1) C none)) d (exd d [(fld, .int i)])) (hp.objs.size + 1) (exo (hp.objs.size + 1) C (some d))) (fun _ _ _ => False) :=
    ⟨_, i, rfl, hi, upd_same, fun d hd hne => ⟨rfl, d, by rw [upd_ne hne] at hd; exact hd, hne, rfl⟩⟩
  have hl : ([Value.ref (hp.objs.size + 1), u1] ++ []).length = ([("self" : Str), prm] : List Str).length := rfl
  have hus : [u1].length ≤ sizeLine := by show 1 ≤ sizeLine; decide
  refine wpAny_call (PySem.HandSPX.call_own PySem.F.excBase_ValueError (fun Y => PySem.HandSPX.refsVE_contains Y bm hbm) (I1.kIn _ _ hC) (PySem.W.looks_findIn I1.kIn iC) (fun self => PySem.W.bind_fn I1.kIn self tI) hus
    (codeAny_mono (F1.run _ X.stack _ _ ⟨[Value.ref (hp.objs.size + 1), u1], []⟩ [Value.ref (hp.objs.size + 1), u1] _ _ (fun _ _ _ => False) (hr.make C [u1] []) (I2.env0.make C [u1] []) (hb _ [Value.ref (hp.objs.size + 1), u1] I2.kIn hl) r2 hq) fun r s' hq' => ?_))
  cases r with
  | error er => exact hx pins σ _ _ er s' I2 hq'
  | ok fl =>
    cases fl with
    | ret u =>
      obtain ⟨v, H2, os2, bare2, un2, hok2, rv, ev, d, hd1, hne, eH⟩ := hq'
      subst ev
      obtain ⟨h2, g2, d2, t2, os'⟩ := s'
      refine ⟨rv, ?_⟩
      have ea : H2 (hp.objs.size + 1) = some (exo (hp.objs.size + 1) C (some d)) := by rw [eH, upd_same]
      have ed : H2 d = some (exd d [(fld, .int i)]) := by rw [eH, upd_ne hne, upd_same]
      obtain ⟨t0, G, J, kG, ge, hoe, na⟩ := mk_end0 (d2 := d2) (t2 := t2) I1 hsz kk un2 hok2 os2 bare2 ea ed hd1
      have eE : upd (del H2 (hp.objs.size + 1)) d (.xd [(fld, .int i)]) = upd H1 d (.xd [(fld, .int i)]) := by
        funext b
        by_cases hb1 : b = d
        · rw [hb1, upd_same, upd_same]
        · rw [upd_ne hb1, upd_ne hb1]
          by_cases hb2 : b = hp.objs.size + 1
          · rw [hb2, del_same, hn]
          · rw [del_ne hb2, eH, upd_ne hb2, upd_ne hb1, upd_ne hb2]
      rw [eE] at J na
      exact ⟨_, _, _, ⟨G, g2, d2, t2, os'⟩, _, .ref C, some d, rfl, J, kG, ge, hoe, ⟨rfl, rfl, fun vs e => by cases e; rfl⟩, rfl, rfl, na, rfl, bare2, raises_own T.exC T.tyC, q1 d hd1⟩
    | next => exact False.elim hq'
    | brk => exact False.elim hq'
    | cont => exact False.elim hq'
end
end OE
namespace PySem.W
open PySem PySem.Spec PySem.Calls PyProof.Rows
/-! isinstance of a caught error that has its dict -/
section
variable {prog : Program} {w : World} {A : Around} {E : Value → Shared → Prop} {s : Shared} {K : Frag} {x D : Addr} {ox : Obj} {od : Option Obj}
theorem findObj_dataD {name : Str} {a g : Value} (hc : (clsIn K D).isSome = true) (ha : findIn K (.ref D) name = some (some a)) (hg : specialIn K a "__get__" = some (some g)) (ht : takesIn K a = some true) : findObj K D od name = some (.bind g a) := by
  obtain ⟨cd, hc⟩ := Option.isSome_iff_exists.mp hc
  unfold findObj
  rw [hc, Option.bind_some, ha, Option.bind_some]
  simp [hg, ht]
theorem classE (C : L2.ExcC K D) (X : K.In s.heap) (I : InstAt s.heap x ox D od) {Q : Option Value → Shared → Prop} (h : Q (some (.ref D)) { s with toks := s.toks + 1 }) : wpAny (model prog w) A (getAttr? (.ref x) "__class__") Q E s := by
  have hf : findObj K D od "__class__" = some (.bind (.builtin "getset_descriptor.__get__") (.builtin "object.__class__")) := findObj_dataD (by obtain ⟨cd, hc, _⟩ := any_some C.hd; rw [hc]; rfl) C.ha C.hn C.ht
  obtain ⟨hp, g, d, t, os⟩ := s
  have L0 := I.type (M := model prog w)
  have sub : Looks (model prog w) hp (isInstance (.ref x) (.type "BaseException")) true := L0.andThen (looks_subIn X C.hs)
  have hx0 : (false && onTheHeap (Value.builtin "BaseException.__getattribute__")) = false := rfl
  have hx1 : (onTheHeap (Value.ref D) && Value.builtin "BaseException.__getattribute__" == Value.builtin "object.__getattribute__") = false := by
    rw [show (Value.builtin "BaseException.__getattribute__" == Value.builtin "object.__getattribute__") = false by decide +kernel]
    rfl
  unfold getAttr? getAttrBy? getAttrBy
  refine wpAny_bind (wpAny_mkText (wpAny_bind (wpAny_attempt (wpAny_holding (wpAny_bind (L0.at (wpAny_bind ((looks_findIn X C.hg).at ?_))))))))
  show wpAny _ _ (if (onTheHeap (Value.ref D) && Value.builtin "BaseException.__getattribute__" == Value.builtin "object.__getattribute__") = true then _ else _) _ _ _
  rw [hx1, if_neg Bool.false_ne_true]
  unfold getAttrByItsOwn hookBefore
  refine wpAny_bind ?_
  rw [if_pos (show onTheHeap (Value.ref D) = true from rfl)]
  refine (looks_findIn X C.hk).at ?_
  refine wpAny_bind (wpAny_attempt (wpAny_holding ?_))
  unfold callGetattribute
  rw [hx0, if_neg Bool.false_ne_true]
  unfold boundAndCalled
  rw [PySem.F.excAttr_ValueError.ga.bind (.ref x)]
  refine wpAny_bind (wpAny_pure ?_)
  show wpAny _ _ (call (.builtin "BaseException.__getattribute__") [.ref x, .str "__class__" t]) _ _ _
  refine wpAny_call (codeAny_call_builtin PySem.F.excAttr_ValueError.ga.plain PySem.F.entry_bexc_ga ?_)
  refine @check_slot (model prog w) _ _ ⟨hp, g, d, t + 1, os⟩ "BaseException.__getattribute__" "BaseException" "__getattribute__" (.ref x) [.str "__class__" t] [] _ (by decide +kernel) (by decide +kernel) sub (PySem.F.args_bexc_ga (.ref x) (.str "__class__" t)) ?_
  unfold Builtin.«object.__getattribute__»
  refine wpAny_bind (wpAny_of_eq (a := ((Value.ref x : Value), [Value.str "__class__" t])) (by first | rfl | (simp only [slotArgs]; rfl)) ?_)
  refine wpAny_bind (wpAny_pure (wpAny_bind (L0.at (wpAny_bind ((looks_find X I hf).at ?_)))))
  show wpAny _ _ (holding [Value.builtin "object.__class__"] (call (.builtin "getset_descriptor.__get__") [.builtin "object.__class__", .ref x, .ref D]) >>= ret) _ _ _
  refine wpAny_bind (wpAny_holding (wpAny_call (class_get (s := ⟨hp, g, d, t + 1, os⟩) (ox := ox) (od := od) X I C.hm ?_)))
  refine wpAny_pure ?_
  show wpAny _ _ (handedOut (.ref D)) _ _ _
  rw [handedOut_of (v := .ref D) rfl]
  first
    | exact wpAny_pure (wpAny_pure h)
    | exact wpAny_pure h
    | exact wpAny_pure (wpAny_bind (wpAny_pure (wpAny_pure h)))
theorem kitx_err (C : L2.ExcC K D) : KitX K (.ref x) (.ref D) (fun h => InstAt h x ox D od) where
  ty := fun _ _ _ I => I.type
  it := fun _ _ X _ => by
    obtain ⟨cdD, hcD, _⟩ := any_some C.hd
    unfold clsIn at hcD
    split at hcD
    · rename_i c' d' cd' sl' ho
      intro A' Q' E' s' k q
      unfold isType loadHead
      exact wpAny_bind (wpAny_loadPart (k _ _ (X _ _ ho)) (wpAny_pure q))
    · cases hcD
  ne := fun h tp dd its n sl X htp => by
    obtain ⟨cdD, hcD, _⟩ := any_some C.hd
    refine Bool.eq_false_iff.mpr fun q => ?_
    have e : D = tp := Value.ref.inj (beq_iff_eq.mp q)
    subst e
    unfold clsIn at hcD
    split at hcD
    · rename_i c' d' cd' sl' ho
      have z := (X _ _ ho).symm.trans htp
      cases z
    · cases hcD
  ca := fun X I k => classE C X I k
end
end PySem.W
namespace OE
open PySem PySem.Spec PyProof.Rows L2
/-- isinstance(e, c), e the error that the suite holds, d its dict -/
def rIsX (K : PySem.W.Frag) (D a : Addr) (cls : Value) (d : Option Addr) : List V → Hp → VK → Prop := fun xs H Q => ∃ (c : V) (cv : Value) (b : Bool) (dd : Addr) (fs : List (Str × V)), xs = [.ref a, c] ∧ cls = .ref D ∧ (∀ u, RelV c u → u = cv) ∧ PySem.W.kitOne K (.ref D) cv = some b ∧ d = some dd ∧ H dd = some (.xd fs) ∧ Q (.bl b) H
theorem call_isX {X : Cx} {a D : Addr} {oe : Obj} {cls : Value} {d : Option Addr} {pn : List (Addr × Obj)} (C : ExcC X.K D) (hz : Zc cls d oe) (hf : ∃ vs, oe.data = .fields vs) : CallR (X.suite a ((a, oe) :: pn)) (.builtin "isinstance") (rIsX X.K D a cls d) := by
  intro pins s σ H xs us Q I r h
  obtain ⟨c, cv, b, dd, fs, rfl, rfl, hcv, e, rfl, hd, q⟩ := h
  cases r with
  | cons rx rr =>
    cases rr with
    | cons rt rr =>
      cases rr
      cases rx
      have ec := hcv _ rt
      subst ec
      obtain ⟨hget, _⟩ := I.pin (a, oe) (List.mem_append.mpr (.inl List.mem_cons_self))
      obtain ⟨vs, hv⟩ := hf
      have hx : ObjOk X.prog X.w H s.heap dd (.xd fs) := I.hok dd _ hd
      obtain ⟨mA, hns, _⟩ := hx
      obtain ⟨od, ho, _⟩ := lookIn_ns hns
      have J : PySem.W.InstAt s.heap a oe D (some od) := ⟨hget, hz.1, by unfold PySem.W.notCls; rw [hv] <;> rfl, by rw [hz.2]; exact ho⟩
      exact PySem.W.kia_one (PySem.W.kitx_err C) I.kIn J e (fun z => nomatch z) fun tk => ⟨.bl b, H, I.kept (t' := tk) fun _ _ z => z, rfl, q⟩
/-- the same of an error that has no dict -/
def rIsN (K : PySem.W.Frag) (D a : Addr) (cls : Value) (d : Option Addr) : List V → Hp → VK → Prop := fun xs H Q => ∃ (c : V) (cv : Value) (b : Bool), xs = [.ref a, c] ∧ cls = .ref D ∧ d = none ∧ (∀ u, RelV c u → u = cv) ∧ PySem.W.kitOne K (.ref D) cv = some b ∧ Q (.bl b) H
theorem call_isB {X : Cx} {a D D2 : Addr} {oe : Obj} {cls : Value} {d : Option Addr} {pn : List (Addr × Obj)} (C : ExcC X.K D) (C2 : ExcC X.K D2) (hz : Zc cls d oe) (hf : ∃ vs, oe.data = .fields vs) :
    CallR (X.suite a ((a, oe) :: pn)) (.builtin "isinstance") (fun xs H Q => rIsX X.K D a cls d xs H Q ∨ rIsN X.K D2 a cls d xs H Q) := by
  intro pins s σ H xs us Q I r h
  rcases h with h | ⟨c, cv, b, rfl, rfl, rfl, hcv, e, q⟩
  · exact call_isX C hz hf pins s σ H xs us Q I r h
  · exact call_isE C2 hz hf pins s σ H _ us Q I r ⟨c, cv, b, rfl, hcv, e, q⟩
/-- what the written part says of the class x -/
def OErr (P : Program) (K : PySem.W.Frag) (mg : Str → Option Value) (x : Str) (C : Addr) (prm fld : Str) (params : Arguments) (scope : Scope) (bd : List Stmt) : Prop :=
  ∃ (fI cc cda : Addr) (qual : Str) (fd : FuncData), Ini P K mg C fI cc cda qual prm fld params scope fd bd ∧ PySem.W.findIn K (.ref C) "__init__" = some (some (.ref fI)) ∧ PySem.W.typeIn K (.ref fI) = some (.type "function") ∧ Binds K fd ["self", prm] [] ∧ mg x = some (.ref C) ∧ XfC K C ∧ ExcC K C
theorem OErr.f {P : Program} {K : PySem.W.Frag} {mg : Str → Option Value} {x : Str} {C : Addr} {prm fld : Str} {params : Arguments} {scope : Scope} {bd : List Stmt} (O : OErr P K mg x C prm fld params scope bd) : XfC K C := by
  obtain ⟨fI, cc, cda, qual, fd, _, _, _, _, _, h, _⟩ := O
  exact h
theorem OErr.e {P : Program} {K : PySem.W.Frag} {mg : Str → Option Value} {x : Str} {C : Addr} {prm fld : Str} {params : Arguments} {scope : Scope} {bd : List Stmt} (O : OErr P K mg x C prm fld params scope bd) : ExcC K C := by
  obtain ⟨fI, cc, cda, qual, fd, _, _, _, _, _, _, h⟩ := O
  exact h
theorem OErr.n {P : Program} {K : PySem.W.Frag} {mg : Str → Option Value} {x : Str} {C : Addr} {prm fld : Str} {params : Arguments} {scope : Scope} {bd : List Stmt} (O : OErr P K mg x C prm fld params scope bd) : PySem.W.findIn K (.ref C) fld = some none := by
  obtain ⟨fI, cc, cda, qual, fd, h, _⟩ := O
  exact h.fld
theorem oini_of {P : Program} {w : World} {K : PySem.W.Frag} {mg : Str → Option Value} {base : Heap} {x : Str} {C : Addr} {prm fld : Str} {params : Arguments} {scope : Scope} {bd : List Stmt} {js : List Expr} {pj p0 p1 pa pc pe ps pf pp pz : Pos} (O : OErr P K mg x C prm fld params scope bd) (hbd : bd = iniB p0 p1 pa pc pe ps pf pp pz pj js prm fld)
    (hcall : ∀ env : Env, ∃ pl : Sem Bool, eval (.Call (.Attribute (.Call (.Name "super" p0) [] [] p1) "__init__" pa) [.JoinedStr js pj] [] pc) env = (do
      let ov ← attributeBase (.Call (.Name "super" p0) [] [] p1) "__init__" env (eval (.Call (.Name "super" p0) [] [] p1) env)
      standAt pa.atName
      let (f, first) ← holding [ov] (getMethod ov "__init__" pl)
      callWith pc f first (backTo pc (starEach [.JoinedStr js pj] env)) []))
    (hj : ∀ (cc cda fI : Addr) (qual : Str) (A : Around) (outer : List Env) (s : Shared) (H : Hp) (E : XK), ∃ tj, PE (NdefX.ncx CX0 P w K mg base ["self", prm, "__class__"] (nf qual params bd scope cc cda) fI A outer s H E) (.JoinedStr js pj) tj ∧
      ∀ (a : Addr) (i : Int) (Q : VK) (H : Hp), i.natAbs.log2 < 1920 → (∀ z, Q (.str z) H) → tj [some (.ref a), some (.int i), some (.ref C)] H Q) : OIni P w K mg base x C fld := by
  obtain ⟨fI, cc, cda, qual, fd, D, h1, h2, h3, h4, _⟩ := O
  exact ⟨fI, fd, prm, ini_ok D hbd hcall (hj cc cda fI qual), h1, h2, h3, D.T, h4⟩
theorem oerr_mk {P : Program} {K : PySem.W.Frag} {h : Heap} {mg : Str → Option Value} {x qual prm fld file : Str} {C fI cc cda N : Addr} {params : Arguments} {scope : Scope} {bd : List Stmt} {nm q : Str} {bs bm : List Value} {sn : List Str} {sub : List Value} {ab : Bool} {col : Option Bool} {dd od an cdd cld : Option Addr} {k0 k1 k2 k3 k5 : Option Value} {kV doc pm ct oc ccl cl : Value} {sl ccs csl : Array (Option Value)} {vs : Array Value} {tf : Tok}
    (X : K.In h) (G : h.Ns mainGlobals mg) (S : NdefX.NScope ["self", prm, "__class__"] ["self", prm] ["__class__"] scope) (hs : scope.names.lookup ("super" : Str) = some .globalImplicit) (dbg : (prm == ("__debug__" : Str)) = false) (cdt : (prm == ("__classdict__" : Str)) = false)
    (par : ∃ ar : Arg, (params.posonlyargs ++ params.args).head? = some ar ∧ ar.arg = "self")
    (hb : ∀ (kV doc pm : Value) (an : Option Addr) (cdv ct : Value) (us : List Value), us.length = 2 → bindArgs (PySem.W.fnX "__init__" qual params bd scope [("__class__", cc)] .none kV doc pm an cdv ct) ⟨us, []⟩ = pure (([("self" : Str), prm] : List Str).zip us))
    (a : PySem.W.nsIn K mainGlobals x = some (some (.ref C))) (i : PySem.W.findIn K (.ref C) "__init__" = some (some (.ref fI))) (t : PySem.W.typeIn K (.ref fI) = some (.type "function"))
    (l : K.lookup fI = some ⟨oc, od, .func (PySem.W.fnX "__init__" qual params bd scope [("__class__", cc)] .none kV doc pm an (.ref cda) ct), sl⟩) (c : PySem.W.codeIn K (.ref cda) qual = true)
    (f : K.lookup cda = some ⟨ccl, cdd, .fields vs, ccs⟩) (fv : vs[2]? = some (.str file tf)) (ff : ((P.main.file : Str) == file) = true) (ce : K.lookup cc = some ⟨cl, cld, .cell (some (.ref C)), csl⟩)
    (xL : K.lookup C = some (excClassObj nm q C N bs bm true sn sub ab col dd k0 k1 k2 k3 k5 "ValueError.__new__")) (xb : PySem.HandSPX.refsVE bm = true) (sa : PySem.W.findIn K (.ref C) "__setattr__" = some (some (.builtin "object.__setattr__")))
    (b : PySem.W.subIn K (.ref C) (.type "BaseException") = some true) (tc : PySem.W.typeIn K (.ref C) = some (.type "type")) (k : PySem.W.keepIn K (.ref C) = true) (se : PySem.W.mroIn K C (.ref C) = some true) (su : PySem.W.nsIn K mainGlobals "super" = some none)
    (op : PySem.W.nsIn K cStatics "thirdparty.any" = some none) (nx : PySem.W.ks_superIn K C C "__init__" = some (some (.builtin "ValueError.__init__"))) (ve : PySem.W.subIn K (.ref C) (.type "ValueError") = some true) (tp : (P.main.scope.names.lookup ("super" : Str)).isSome = false)
    (fl : PySem.W.findIn K (.ref C) fld = some none) (ga : PySem.W.findIn K (.ref C) "__getattribute__" = some (some (.builtin "BaseException.__getattribute__"))) (gg : PySem.W.findIn K (.ref C) "__getattr__" = some none) (hd : PySem.W.hasDictIn K C = true)
    (ha : PySem.W.findIn K (.ref C) "__class__" = some (some (.builtin "object.__class__"))) (hn : PySem.W.specialIn K (.builtin "object.__class__") "__get__" = some (some (.builtin "getset_descriptor.__get__"))) (ht : PySem.W.takesIn K (.builtin "object.__class__") = some true) (hm : PySem.W.mroIn K C (.type "object") = some true) :
    OErr P K mg x C prm fld params scope bd :=
  ⟨fI, cc, cda, qual, _, ⟨⟨_, _, _, _, _, rfl⟩, ⟨_, _, _, l⟩, c, ⟨_, _, _, _, _, _, f, fv, ff⟩, ⟨_, _, _, ce⟩, ⟨⟨_, _, _, _, _, _, _, _, _, _, _, _, _, _, _, xL, xb⟩, sa, b, tc, k⟩,
      ⟨_, (by unfold PySem.W.clsIn; rw [xL] <;> rfl)⟩, se, PySem.W.mg_none_of X G su, op, nx, ve, tp, fl, S, hs, dbg, cdt, par⟩,
    i, t, Binds.all fun us hl => hb _ _ _ _ _ _ us hl, PySem.W.mg_of X G a, ⟨ga, gg, b, hd⟩, ⟨ga, gg, b, hd, ha, hn, ht, hm⟩⟩
end OE

namespace My
open PySem PySem.Spec PyProof.Rows L2 Cm 
def top (i : Nat) : Stmt := PySem.Challenge.pw_scanpages_k18_expand.main.body.getD i (.Pass ⟨0, 0, 0, 0⟩)
abbrev s_PackedError___init__ : Stmt := (inClass (top 3) 0)
abbrev N_PackedError___init__ : List Str := ["self", "position"]
abbrev s_expand : Stmt := (top 7)
abbrev N_expand : List Str := ["packed", "limit", "expansion", "at", "octet", "size", "distance", "_"]
theorem sc_expand : FnScope N_expand ["packed", "limit"] (defScope s_expand) := ⟨rfl, rfl, rfl, by decide +kernel, rfl, by decide +kernel, by decide +kernel⟩
abbrev s__law_cell : Stmt := (top 9)
abbrev N__law_cell : List Str := ["script", "k"]
theorem sc__law_cell : FnScope N__law_cell ["script", "k"] (defScope s__law_cell) := ⟨rfl, rfl, rfl, by decide +kernel, rfl, by decide +kernel, by decide +kernel⟩
abbrev s__law_mix : Stmt := (top 10)
abbrev N__law_mix : List Str := ["cell", "k", "number"]
theorem sc__law_mix : FnScope N__law_mix ["cell", "k"] (defScope s__law_mix) := ⟨rfl, rfl, rfl, by decide +kernel, rfl, by decide +kernel, by decide +kernel⟩
abbrev s__law_row : Stmt := (top 11)
abbrev N__law_row : List Str := ["cell", "count", "bound", "found", "rest", "k"]
theorem sc__law_row : FnScope N__law_row ["cell", "count", "bound"] (defScope s__law_row) := ⟨rfl, rfl, rfl, by decide +kernel, rfl, by decide +kernel, by decide +kernel⟩
abbrev s__law_is_int : Stmt := (top 12)
abbrev N__law_is_int : List Str := ["value"]
theorem sc__law_is_int : FnScope N__law_is_int ["value"] (defScope s__law_is_int) := ⟨rfl, rfl, rfl, by decide +kernel, rfl, by decide +kernel, by decide +kernel⟩
abbrev s__law_is_list : Stmt := (top 13)
abbrev N__law_is_list : List Str := ["value", "least", "greatest", "item"]
theorem sc__law_is_list : FnScope N__law_is_list ["value", "least", "greatest"] (defScope s__law_is_list) := ⟨rfl, rfl, rfl, by decide +kernel, rfl, by decide +kernel, by decide +kernel⟩
abbrev s__law_packed : Stmt := (top 14)
abbrev N__law_packed : List Str := ["cells", "packed", "size", "cell", "kind", "count", "length", "distance"]
theorem sc__law_packed : FnScope N__law_packed ["cells"] (defScope s__law_packed) := ⟨rfl, rfl, rfl, by decide +kernel, rfl, by decide +kernel, by decide +kernel⟩
abbrev s__law_expand : Stmt := (top 15)
abbrev N__law_expand : List Str := ["packed", "limit", "octets", "at", "k", "control", "j"]
theorem sc__law_expand : FnScope N__law_expand ["packed", "limit"] (defScope s__law_expand) := ⟨rfl, rfl, rfl, by decide +kernel, rfl, by decide +kernel, by decide +kernel⟩
abbrev s__law_spoilt : Stmt := (top 16)
abbrev N__law_spoilt : List Str := ["packed", "cell", "at", "kind"]
theorem sc__law_spoilt : FnScope N__law_spoilt ["packed", "cell"] (defScope s__law_spoilt) := ⟨rfl, rfl, rfl, by decide +kernel, rfl, by decide +kernel, by decide +kernel⟩
abbrev s_law : Stmt := (top 17)
abbrev N_law : List Str := ["script", "packed", "whole", "limit", "due", "copy", "actual", "e"]
theorem sc_law : FnScope N_law ["script"] (defScope s_law) := ⟨rfl, rfl, rfl, by decide +kernel, rfl, by decide +kernel, by decide +kernel⟩
structure Txt (P : Program) (K : PySem.W.Frag) (mg : Str → Option Value) (C_ArchiveError C_TooLong C_PackedError : Addr) : Prop where
  d_expand : Dn K mg "expand" s_expand ["packed", "limit"]
  d__law_cell : Dn K mg "_law_cell" s__law_cell ["script", "k"]
  d__law_mix : Dn K mg "_law_mix" s__law_mix ["cell", "k"]
  d__law_row : Dn K mg "_law_row" s__law_row ["cell", "count", "bound"]
  d__law_is_int : Dn K mg "_law_is_int" s__law_is_int ["value"]
  d__law_is_list : Dn K mg "_law_is_list" s__law_is_list ["value", "least", "greatest"]
  d__law_packed : Dn K mg "_law_packed" s__law_packed ["cells"]
  d__law_expand : Dn K mg "_law_expand" s__law_expand ["packed", "limit"]
  d__law_spoilt : Dn K mg "_law_spoilt" s__law_spoilt ["packed", "cell"]
  d_law : Dn K mg "law" s_law ["script"]
  c_FIRST_COPY : CV mg "FIRST_COPY" (.int 128)
  c_SHORTEST_COPY : CV mg "SHORTEST_COPY" (.int 3)
  n_len : mg "len" = none
  n_range : mg "range" = none
  n_int : mg "int" = none
  n_abs : mg "abs" = none
  n_isinstance : mg "isinstance" = none
  n_bool : mg "bool" = none
  n_list : mg "list" = none
  n_min : mg "min" = none
  n_max : mg "max" = none
  x_ArchiveError : XCl K mg "ArchiveError" C_ArchiveError
  x_TooLong : XCl K mg "TooLong" C_TooLong
  x_PackedError : XB K mg "PackedError" C_PackedError
  o_PackedError : OE.OErr P K mg "PackedError" C_PackedError "position" "position" (defArgs s_PackedError___init__) (defScope s_PackedError___init__) (defBody s_PackedError___init__)
  s_TooLong_ArchiveError : PySem.W.subIn K (.ref C_TooLong) (.ref C_ArchiveError) = some true
  q_TooLong_TooLong : PySem.W.kitOne K (.ref C_TooLong) (.ref C_TooLong) = some true
  q_TooLong_PackedError : PySem.W.kitOne K (.ref C_TooLong) (.ref C_PackedError) = some false
  s_PackedError_ArchiveError : PySem.W.subIn K (.ref C_PackedError) (.ref C_ArchiveError) = some true
  q_PackedError_TooLong : PySem.W.kitOne K (.ref C_PackedError) (.ref C_TooLong) = some false
  q_PackedError_PackedError : PySem.W.kitOne K (.ref C_PackedError) (.ref C_PackedError) = some true
section
variable {P : Program} {w : World} {K : PySem.W.Frag} {mg : Str → Option Value} {base : Heap} {C_ArchiveError C_TooLong C_PackedError : Addr}
/-- the cell's promise -/
def spCell (K : PySem.W.Frag) : Sp := fun vs H Q _ => ∃ (l : Addr) (ns : List Int) (k : Nat), vs = [.ref l, .int (k : Int)] ∧ SqL K H l (ns.map V.int) ∧ Q (.int (cell ns k)) H
theorem ok__law_cell (T : Txt P K mg C_ArchiveError C_TooLong C_PackedError) : Ok P w K mg base CX0 1 "_law_cell" ["script", "k"] (spCell K) := by
  refine ok_of T.d__law_cell fun f fd F => F.ok sc__law_cell (fun vs H Q E h => ?_) (fun cdv A outer s H vs Q E hr h => ?_)
  · obtain ⟨l, ns, k, rfl, _⟩ := h
    rfl
  · obtain ⟨l, ns, k, rfl, hs, q⟩ := h
    refine ⟨_,       (pss_cons (ps_if (pt_cmpR op_lt (pv 1) (pe_callB call_len_seq (by rfl) T.n_len PySem.boot_len (pa_cons (pv 0) pa_nil)) (nomark _))
        (pss_one (ps_ret (pe_callTy call_int1 (by rfl) T.n_int (by decide +kernel) (pa_cons (pe_ix ix_list (pv 0) (pv 1) (fun _ _ => rfl)) pa_nil)))) pss_nil)
      (pss_one (ps_ret pe_int))), ?_⟩
    refine ⟨_, rfl, _, rfl, l, _, rfl, .inl hs, _, _, rfl, rfl, _, rfl, itd (fun h => ?_) (fun h => ?_)⟩
    · have hk : k < ns.length := by
        rw [List.length_map] at h
        omega
      refine ⟨_, rfl, _, rfl, l, _, _, .int ns[k], rfl, rfl, hs, atI_nat (by rw [List.getElem?_map, List.getElem?_eq_getElem hk]; rfl), .inl ⟨_, rfl, ?_⟩⟩
      rw [Cm.cell_in hk] at q
      exact q
    · have hk : ¬ k < ns.length := by
        rw [List.length_map] at h
        omega
      rw [Cm.cell_out hk] at q
      exact q

def mixI (c k : Int) : Int := ((c * 48271 + k * 69621 + 12345) % 2147483647 * 16807 + k * 40692 + 777) % 2147483629 / 997
def spMix : Sp := fun vs H Q _ => ∃ c k : Int, vs = [.int c, .int k] ∧ Q (.int (mixI c k)) H
theorem ok__law_mix (T : Txt P K mg C_ArchiveError C_TooLong C_PackedError) : Ok P w K mg base CX0 1 "_law_mix" ["cell", "k"] spMix := by
  refine ok_of T.d__law_mix fun f fd F => F.ok sc__law_mix (fun vs H Q E h => ?_) (fun cdv A outer s H vs Q E hr h => ?_)
  · obtain ⟨c, k, rfl, _⟩ := h
    rfl
  · obtain ⟨c, k, rfl, q⟩ := h
    have nd := sc__law_mix.nd
    refine ⟨_,       (pss_cons (ps_set (i := 2) nd rfl (Or.inl rfl) (pe_op op_mod (pe_callTy call_int1 (by rfl) T.n_int (by decide +kernel) (pa_cons (pe_op op_add (pe_op op_add (pe_op op_mul (pv 0) pe_int) (pe_op op_mul (pv 1) pe_int)) pe_int) pa_nil)) pe_int))
      (pss_cons (ps_set (i := 2) nd rfl (Or.inl rfl) (pe_op op_mod (pe_callTy call_int1 (by rfl) T.n_int (by decide +kernel) (pa_cons (pe_op op_add (pe_op op_add (pe_op op_mul (pv 2) pe_int) (pe_op op_mul (pv 1) pe_int)) pe_int) pa_nil)) pe_int))
      (pss_one (ps_ret (pe_op op_fdiv (pv 2) pe_int))))), ?_⟩
    refine ⟨_, rfl, _, _, rfl, rfl, .inr (by decide), _, rfl, _, _, rfl, rfl, .inr (by decide), _, _, rfl, rfl, _, _, rfl, rfl, .inl ⟨_, rfl, _, _, rfl, rfl, (by show (0 : Int) < 2147483647; decide), ?_⟩⟩
    refine ⟨_, rfl, _, _, rfl, rfl, .inr (by decide), _, rfl, _, _, rfl, rfl, .inr (by decide), _, _, rfl, rfl, _, _, rfl, rfl, .inl ⟨_, rfl, _, _, rfl, rfl, (by show (0 : Int) < 2147483629; decide), ?_⟩⟩
    exact ⟨_, rfl, _, _, rfl, rfl, ⟨by decide, by decide⟩, q⟩

def divs : Nat → Int → Int → Int
  | 0, x, _ => x
  | k + 1, x, b => divs k x b / b
def rowAt (c : Int) (b : Int) (k : Nat) : Int := if 1000000000000000000 ≤ (if c < 0 then -c else c) then divs k (if c < 0 then -c else c) b % b else mixI c k % b
/-- the digits of a cell, or its mixture -/
def rowL (c : Int) (n : Nat) (b : Int) : List Int := (List.range n).map (rowAt c b)
theorem rowL_len (c : Int) (n : Nat) (b : Int) : (rowL c n b).length = n := by simp [rowL]
theorem rowL_in {c : Int} {n : Nat} {b x : Int} (hb : 0 < b) (h : x ∈ rowL c n b) : 0 ≤ x ∧ x < b := by
  obtain ⟨k, _, rfl⟩ := List.mem_map.mp h
  have z : ∀ y : Int, 0 ≤ y % b ∧ y % b < b := fun y => ⟨Int.emod_nonneg _ (by omega), Int.emod_lt_of_pos _ hb⟩
  by_cases hc : 1000000000000000000 ≤ (if c < 0 then -c else c)
  · rw [rowAt, if_pos hc]
    exact z _
  · rw [rowAt, if_neg hc]
    exact z _
theorem rowL_succ (c : Int) (n : Nat) (b : Int) : rowL c (n + 1) b = rowL c n b ++ [rowAt c b n] := by simp [rowL, List.range_succ]
def spRow : Sp := fun vs H Q _ => ∃ (c : Int) (n : Nat) (b : Int), vs = [.int c, .int (n : Int), .int b] ∧ n ≤ 60000 ∧ 0 < b ∧ b < 1073741824 ∧ ∀ p H', H p = none → Same H H' → H' p = some (.lst ((rowL c n b).map V.int)) → Q (.ref p) H'
theorem ok__law_row (T : Txt P K mg C_ArchiveError C_TooLong C_PackedError) : Ok P w K mg base CX0 2 "_law_row" ["cell", "count", "bound"] spRow := by
  have G__law_mix := ok__law_mix (P := P) (w := w) (base := base) T
  refine ok_of T.d__law_row fun f fd F => F.ok sc__law_row (fun vs H Q E h => ?_) (fun cdv A outer s H vs Q E hr h => ?_)
  · obtain ⟨c, n, b, rfl, _⟩ := h
    rfl
  · obtain ⟨c, n, b, rfl, hn, hb0, hb1, kQ⟩ := h
    have nd := sc__law_row.nd
    refine ⟨_,       (pss_cons (ps_set (i := 3) nd rfl (Or.inl rfl) (pe_lst pa_nil))
      (pss_cons (ps_set (i := 4) nd rfl (Or.inl rfl) (pe_callB call_abs (by rfl) T.n_abs (by decide +kernel) (pa_cons (pv 0) pa_nil)))
      (pss_cons (ps_for PassesOwn.never rfl (pi_range1 rfl T.n_range (pa_cons (pv 1) pa_nil)) (pg_name (i := 5) nd rfl (Or.inl rfl))
        (pss_one (ps_if (pt_cmpR op_ge (pe_callB call_abs (by rfl) T.n_abs (by decide +kernel) (pa_cons (pv 0) pa_nil)) pe_int (nomark _))
          (pss_cons (ps_expr (pe_bm PySem.F.plainAttrs_list PySem.F.slot_list_append PySem.F.type_list_append mt_append (pv 3) (pa_cons (pe_op op_mod (pe_callTy call_int1 (by rfl) T.n_int (by decide +kernel) (pa_cons (pv 4) pa_nil)) (pv 2)) pa_nil)))
          (pss_one (ps_set (i := 4) nd rfl (Or.inl rfl) (pe_op op_fdiv (pv 4) (pv 2)))))
          (pss_one (ps_expr (pe_bm PySem.F.plainAttrs_list PySem.F.slot_list_append PySem.F.type_list_append mt_append (pv 3) (pa_cons (pe_op op_mod (pe_callTy call_int1 (by rfl) T.n_int (by decide +kernel) (pa_cons (pe_callO G__law_mix (hr.mono (by decide)) pass0 (pa_cons (pv 0) (pa_cons (pv 5) pa_nil))) pa_nil)) (pv 2)) pa_nil)))))))
      (pss_one (ps_ret (pv 3)))))), ?_⟩
    refine ⟨by decide, fun p hp => ⟨_, rfl, _, rfl, ?_⟩⟩
    refine ⟨_, rfl, (n : Int), rfl, by omega, by omega, for_range (lo := 0) (n := (n : Int).toNat) (fun i σ H' => ∃ (r : Int) (v : Option V), (1000000000000000000 ≤ (if c < 0 then -c else c) → r = divs i (if c < 0 then -c else c) b) ∧ σ = [some (.int c), some (.int (n : Int)), some (.int b), some (.ref p), some (.int r), v] ∧ Same H H' ∧ H' p = some (.lst ((rowL c i b).map V.int))) ⟨_, none, fun _ => rfl, rfl, same_upd hp, upd_same⟩ ?_ ?_⟩
    · rintro i σ H' hi ⟨r, v, hr', rfl, e, hL⟩
      have ei : (0 : Int) + (i : Int) = (i : Int) := by omega
      have hsz : ((rowL c i b).map V.int).length < sizeLine := small (by rw [List.length_map, rowL_len]; omega)
      refine ⟨_, rfl, _, rfl, _, _, rfl, rfl, _, rfl, itd (fun h => ?_) (fun h => ?_)⟩
      · refine ⟨_, rfl, .inl ⟨rfl, _, SqL.of hL⟩, _, rfl, .inl ⟨_, rfl, _, rfl, _, _, rfl, rfl, hb0, p, _, _, rfl, rfl, hL, hsz, ?_⟩⟩
        refine ⟨_, rfl, _, rfl, _, _, rfl, rfl, ⟨hb0, hb1⟩, ?_⟩
        refine ⟨r / b, _, fun z => ?_, rfl, same_new e hp, ?_⟩
        · rw [hr' z]
          rfl
        · rw [upd_same, rowL_succ, rowAt, if_pos h, ← hr' h]
          simp
      · refine ⟨_, rfl, .inl ⟨rfl, _, SqL.of hL⟩, _, rfl, _, rfl, c, 0 + (i : Int), rfl, .inl ⟨_, rfl, _, rfl, _, _, rfl, rfl, hb0, p, _, _, rfl, rfl, hL, hsz, ?_⟩⟩
        refine ⟨r, _, fun z => absurd z h, rfl, same_new e hp, ?_⟩
        rw [upd_same, rowL_succ, rowAt, if_neg h, ei]
        simp
    · rintro σ H' ⟨r, v, _, rfl, e, hL⟩
      refine ⟨_, rfl, kQ p _ hp e ?_⟩
      rw [Int.toNat_natCast] at hL
      exact hL

def spIsInt : Sp := fun vs H Q _ => ∃ i : Int, vs = [.int i] ∧ Q (.bl true) H
theorem ok__law_is_int (T : Txt P K mg C_ArchiveError C_TooLong C_PackedError) : Ok P w K mg base CX0 1 "_law_is_int" ["value"] spIsInt := by
  refine ok_of T.d__law_is_int fun f fd F => F.ok sc__law_is_int (fun vs H Q E h => ?_) (fun cdv A outer s H vs Q E hr h => ?_)
  · obtain ⟨i, rfl, _⟩ := h
    rfl
  · obtain ⟨i, rfl, q⟩ := h
    refine ⟨_,       (pss_one (ps_ret (pe_and (pe_callB call_isi (by rfl) T.n_isinstance (by decide +kernel) (pa_cons (pv 0) (pa_cons (pe_bltn (v := .ty "int") (by rfl) T.n_int (by decide +kernel) rfl) pa_nil))) (pe_one (pe_not (pe_callB call_isi (by rfl) T.n_isinstance (by decide +kernel) (pa_cons (pv 0) (pa_cons (pe_bltn (v := .ty "bool") (by rfl) T.n_bool (by decide +kernel) rfl) pa_nil)))))))), ?_⟩
    refine ⟨_, rfl, _, _, _, _, true, rfl, .ty _, .base (.int i), kit_ty (by decide +kernel), true, rfl, iteT ?_⟩
    exact ⟨_, rfl, _, _, _, _, false, rfl, .ty _, .base (.int i), kit_ty (by decide +kernel), false, rfl, q⟩

theorem okH__law_is_int (T : Txt P K mg C_ArchiveError C_TooLong C_PackedError) : OkH P w K mg base CX0 1 "_law_is_int" ["value"] spIsInt := by
  refine okH_of T.d__law_is_int sc__law_is_int (fun vs H Q E h => ?_) (fun f cdv A outer s H vs Q E p hot1 hr h => ?_)
  · obtain ⟨i, rfl, _⟩ := h
    rfl
  · obtain ⟨i, rfl, q⟩ := h
    have hot : L2H.HotC (L2H.cxH CX0 P w K mg base N__law_is_int "_law_is_int" (defScope s__law_is_int) f cdv A outer s H E p) := ⟨p, hot1, List.mem_cons_self⟩
    refine ⟨_,       (pss_one (ps_ret (pe_and (pe_callB call_isi (by rfl) T.n_isinstance (by decide +kernel) (pa_cons (pv 0) (pa_cons (pe_bltn (v := .ty "int") (by rfl) T.n_int (by decide +kernel) rfl) pa_nil))) (pe_one (pe_not (pe_callB call_isi (by rfl) T.n_isinstance (by decide +kernel) (pa_cons (pv 0) (pa_cons (pe_bltn (v := .ty "bool") (by rfl) T.n_bool (by decide +kernel) rfl) pa_nil)))))))), ?_⟩
    refine ⟨_, rfl, _, _, _, _, true, rfl, .ty _, .base (.int i), kit_ty (by decide +kernel), true, rfl, iteT ?_⟩
    exact ⟨_, rfl, _, _, _, _, false, rfl, .ty _, .base (.int i), kit_ty (by decide +kernel), false, rfl, q⟩

def allIn (lo hi : Int) (ns : List Int) : Bool := ns.all fun n => decide (lo ≤ n) && decide (n ≤ hi)
def spIsList (K : PySem.W.Frag) : Sp := fun vs H Q _ => ∃ (a : Addr) (ns : List Int) (lo hi : Int), vs = [.ref a, .int lo, .int hi] ∧ SqL K H a (ns.map V.int) ∧ Q (.bl (allIn lo hi ns)) H
theorem ok__law_is_list (T : Txt P K mg C_ArchiveError C_TooLong C_PackedError) : Ok P w K mg base CX0 2 "_law_is_list" ["value", "least", "greatest"] (spIsList K) := by
  have G__law_is_int := ok__law_is_int (P := P) (w := w) (base := base) T
  refine ok_of T.d__law_is_list fun f fd F => F.ok sc__law_is_list (fun vs H Q E h => ?_) (fun cdv A outer s H vs Q E hr h => ?_)
  · obtain ⟨a, ns, lo, hi, rfl, _⟩ := h
    rfl
  · obtain ⟨a, ns, lo, hi, rfl, hs, q⟩ := h
    have nd := sc__law_is_list.nd
    refine ⟨_,       (pss_cons (ps_if (pt_not (pt_val (pe_callB call_isi (by rfl) T.n_isinstance (by decide +kernel) (pa_cons (pv 0) (pa_cons (pe_bltn (v := .ty "list") (by rfl) T.n_list (by decide +kernel) rfl) pa_nil)))))
        (pss_one (ps_ret pe_bl)) pss_nil)
      (pss_cons (ps_for PassesOwn.never rfl (pi_list (pv 0)) (pg_name (i := 3) nd rfl (Or.inl rfl))
        (pss_one (ps_if (PW.pt (pw_or (pt_not (pt_val (pe_callO G__law_is_int (hr.mono (by decide)) pass0 (pa_cons (pv 3) pa_nil)))) (pw_or (pt_cmpR op_lt (pv 3) (pv 1) (nomark _)) (pw_or1 (pt_cmpR op_gt (pv 3) (pv 2) (nomark _))))))
          (pss_one (ps_ret pe_bl)) pss_nil)))
      (pss_one (ps_ret pe_bl)))), ?_⟩
    refine ⟨_, rfl, _, _, _, _, true, rfl, .ty _, tyx_list hs, kit_ty (by decide +kernel), true, rfl, iteF ?_⟩
    refine ⟨_, rfl, a, rfl, ⟨_, hs⟩, for_list (K := K) (a := a) (xs := ns.map V.int) (fun i σ H' => H' = H ∧ allIn lo hi (ns.take i) = true ∧ ∃ v, σ = [some (.ref a), some (.int lo), some (.int hi), v]) ⟨rfl, rfl, none, rfl⟩ (fun i σ H' _ ⟨e, _⟩ => e ▸ hs) ?_ ?_⟩
    · rintro i y σ H' hi' ⟨rfl, ht, v, rfl⟩
      obtain ⟨hin, rfl⟩ := get_ints hi'
      have bad : ¬ (lo ≤ ns[i] ∧ ns[i] ≤ hi) → allIn lo hi ns = false := fun hb => by
        rw [allIn, List.all_eq_false]
        exact ⟨ns[i], List.getElem_mem hin, by simpa using fun h1 => Int.not_le.mp fun h2 => hb ⟨h1, h2⟩⟩
      refine ⟨_, rfl, _, rfl, true, rfl, iteF ?_⟩
      refine ⟨_, rfl, _, rfl, _, _, rfl, rfl, _, rfl, itd (fun h1 => ?_) (fun h1 => ?_)⟩
      · refine iteT ?_
        rw [bad (by omega)] at q
        exact q
      · refine ⟨_, rfl, _, rfl, _, _, rfl, rfl, _, rfl, itd (fun h2 => ?_) (fun h2 => ?_)⟩
        · rw [bad (by omega)] at q
          exact q
        · refine ⟨rfl, ?_, _, rfl⟩
          have e1 : (decide (lo ≤ ns[i]) && decide (ns[i] ≤ hi)) = true := by
            rw [decide_eq_true (show lo ≤ ns[i] by omega), decide_eq_true (show ns[i] ≤ hi by omega)]
            rfl
          unfold allIn at ht ⊢
          rw [take_snoc hin, List.all_append, ht, List.all_cons, e1]
          rfl
    · rintro σ H' ⟨rfl, ht, v, rfl⟩
      rw [List.length_map, List.take_length] at ht
      rw [ht] at q
      exact q

def ipC (f : Int → Int → Int) : TIp := fun x y H Q => ∃ i j, x = .int i ∧ y = .int j ∧ CMul i j ∧ Q (.int (f i j)) H
theorem ip_mulC {X : Cx} : PIp X .Mult (ipC fun i j => i * j) := by
  intro pins s σ H x y v u Q I r1 r2 h
  obtain ⟨i, j, e1, e2, hc, q⟩ := h
  subst e1; subst e2
  obtain ⟨t, rfl⟩ := r1
  obtain ⟨t', rfl⟩ := r2
  exact imul_int ⟨.int _, H, I.tok _, ⟨_, rfl⟩, q⟩ hc.ok
theorem log_small {e : Int} (h : e.natAbs ≤ 1000) : e.natAbs.log2 < 1920 := Nat.lt_of_le_of_lt (Nat.log2_le_self _) (by omega)
theorem log_mid {e : Int} (h : e.natAbs ≤ 1000000) : e.natAbs.log2 < 1920 := by
  by_cases h0 : e.natAbs = 0
  · rw [h0]
    decide
  · exact (Nat.log2_lt h0).mpr (Nat.lt_of_le_of_lt h (Nat.lt_of_lt_of_le (by decide : 1000000 < 2 ^ 20) (Nat.pow_le_pow_right (by decide) (by decide))))
theorem fit_int (m : Str) {i : Int} (hm : m.length ≤ 10000) (hi : i.natAbs.log2 < 1920) : (m ++ PySem.Str.ofString (toString i)).length ≤ sizeLine := by
  rw [PySem.Str.length_append]
  have h := PySem.int_text_fits hi
  have h2 := PyProof.Rows.int_text_len_1921 hi
  rw [sizeLine_eq]
  omega
theorem getD_int {os : List Int} {k : Nat} (h : k < os.length) : (os.map V.int)[k]? = some (V.int (os.getD k 0)) := by
  rw [List.getElem?_map, List.getElem?_eq_getElem h, List.getD_eq_getElem?_getD, List.getElem?_eq_getElem h]
  rfl

theorem oini_PackedError (T : Txt P K mg C_ArchiveError C_TooLong C_PackedError) : OE.OIni P w K mg base "PackedError" C_PackedError "position" :=
  OE.oini_of T.o_PackedError rfl (fun env => ⟨_, rfl⟩) (fun cc cda fI qual A outer s H E => ⟨_, pe_joined (.cons pe_str (.cons (pe_fmt (pe_var (i := 1) rfl (.inl (show (defScope s_PackedError___init__).names.lookup ("position" : Str) = some .local by decide +kernel)))) .nil)), fun a i Q H hi hz =>
    ⟨_, rfl, by decide +kernel, _, rfl, .inr ⟨i, rfl, hi, _, rfl, fit_int _ (by decide +kernel) hi, hz _⟩⟩⟩)

inductive XR where
  | wrong (e : Int)
  | long
  | done (l : List Int)
/-- n times the octet that stands d places before the end -/
def cpy : Nat → Nat → List Int → List Int
  | 0, _, ex => ex
  | n + 1, d, ex => cpy n d (ex ++ [ex.getD (ex.length - d) 0])
theorem cpy_len : ∀ (n d : Nat) (ex : List Int), (cpy n d ex).length = ex.length + n
  | 0, _, _ => rfl
  | n + 1, d, ex => by
    rw [cpy, cpy_len, List.length_append]
    show ex.length + 1 + n = _
    omega
theorem cpy_snoc : ∀ (n d : Nat) (ex : List Int), cpy (n + 1) d ex = cpy n d ex ++ [(cpy n d ex).getD ((cpy n d ex).length - d) 0]
  | 0, _, _ => rfl
  | n + 1, d, ex => by
    rw [cpy, cpy_snoc n d, cpy]
def xp (ps : List Int) (lim : Int) : Nat → Nat → List Int → XR
  | 0, _, ex => .done ex
  | f + 1, at_, ex => if at_ < ps.length then
      (if ps.getD at_ 0 < 128 then
        (if (ps.length : Int) < (at_ : Int) + ps.getD at_ 0 + 2 then .wrong (ps.length : Int)
          else if lim < ((ex ++ (ps.drop (at_ + 1)).take ((ps.getD at_ 0).toNat + 1)).length : Int) then .long else xp ps lim f (at_ + (ps.getD at_ 0).toNat + 2) (ex ++ (ps.drop (at_ + 1)).take ((ps.getD at_ 0).toNat + 1)))
      else
        (if ps.length < at_ + 2 then .wrong (ps.length : Int)
          else if ps.getD (at_ + 1) 0 < 1 ∨ (ex.length : Int) < ps.getD (at_ + 1) 0 then .wrong ((at_ : Int) + 1)
          else if lim < ((cpy ((ps.getD at_ 0).toNat - 125) (ps.getD (at_ + 1) 0).toNat ex).length : Int) then .long else xp ps lim f (at_ + 2) (cpy ((ps.getD at_ 0).toNat - 125) (ps.getD (at_ + 1) 0).toNat ex)))
    else .done ex
theorem xp_end {ps : List Int} {lim : Int} {f at_ : Nat} {ex : List Int} (h : ps.length ≤ at_) : xp ps lim f at_ ex = .done ex := by
  cases f with
  | zero => rfl
  | succ f => rw [xp, if_neg (by omega)]
theorem xp_wrong {ps : List Int} {lim : Int} : ∀ {f at_ : Nat} {ex : List Int} {e : Int}, xp ps lim f at_ ex = .wrong e → 0 ≤ e ∧ e ≤ ps.length
  | 0, _, _, _, h => by cases h
  | f + 1, at_, ex, e, h => by
    rw [xp] at h
    split at h
    · split at h
      · split at h
        · cases h
          omega
        · split at h
          · cases h
          · exact xp_wrong h
      · split at h
        · cases h
          omega
        · split at h
          · cases h
            omega
          · split at h
            · cases h
            · exact xp_wrong h
    · cases h
def octs (ps : List Int) : Prop := ∀ o ∈ ps, 0 ≤ o ∧ o ≤ 255
theorem octs_at {ps : List Int} (h : octs ps) {i : Nat} (hi : i < ps.length) : 0 ≤ ps.getD i 0 ∧ ps.getD i 0 ≤ 255 := by
  rw [List.getD_eq_getElem?_getD, List.getElem?_eq_getElem hi]
  exact h _ (List.getElem_mem hi)
def spXp (K : PySem.W.Frag) (C C2 : Addr) : Sp := fun vs H Q E => ∃ (p : Addr) (ps : List Int) (lim : Int), vs = [.ref p, .int lim] ∧ SqL K H p (ps.map V.int) ∧ ps.length ≤ 10000 ∧ octs ps ∧
  (∀ e, xp ps lim ps.length 0 [] = .wrong e → ∀ d H', Same H H' → H' d = none → E (.ref C) (some d) (upd H' d (.xd [("position", .int e)]))) ∧
  (xp ps lim ps.length 0 [] = .long → ∀ H', Same H H' → E (.ref C2) none H') ∧
  (∀ l, xp ps lim ps.length 0 [] = .done l → ∀ a H', Same H H' → H' a = some (.lst (l.map V.int)) → Q (.ref a) H')
theorem ok_expand (T : Txt P K mg C_ArchiveError C_TooLong C_PackedError) : Ok P w K mg base (CXN P w) 3 "expand" ["packed", "limit"] (spXp K C_PackedError C_TooLong) := by
  have O_PackedError := oini_PackedError (P := P) (w := w) (base := base) T
  refine ok_of T.d_expand fun f fd F => okN F sc_expand (fun vs H Q E h => ?_) (fun cdv A outer s H vs Q E hr h => ?_)
  · obtain ⟨p, ps, lim, rfl, _⟩ := h
    rfl
  · obtain ⟨p, ps, lim, rfl, hA, hlen, hps, kW, kL, kQ⟩ := h
    have nd := sc_expand.nd
    have po := passes_of (X := cxOf (CXN P w) P w K mg base N_expand "expand" (defScope s_expand) f cdv A outer s H E) rfl
    refine ⟨_,       (pss_cons (ps_set (i := 2) nd rfl (Or.inl rfl) (pe_lst pa_nil))
      (pss_cons (ps_set (i := 3) nd rfl (Or.inl rfl) pe_int)
      (pss_cons (ps_while po (pt_cmpR op_lt (pv 3) (pe_callB call_len_seq (by rfl) T.n_len PySem.boot_len (pa_cons (pv 0) pa_nil)) (nomark _))
        (pss_cons (ps_set (i := 4) nd rfl (Or.inl rfl) (pe_ix ix_list (pv 0) (pv 3) (fun _ _ => rfl)))
        (pss_cons (ps_set (i := 5) nd rfl (Or.inl rfl) (pe_ifExp (pt_cmpR op_lt (pv 4) (pe_globC rfl T.c_FIRST_COPY) (nomark _)) (pe_op op_add (pv 4) pe_int) pe_int))
        (pss_cons (ps_if (pt_cmpR op_gt (pe_op op_add (pv 3) (pv 5)) (pe_callB call_len_seq (by rfl) T.n_len PySem.boot_len (pa_cons (pv 0) pa_nil)) (nomark _))
          (pss_one (L2N.ps_raise rfl (L2N.takes_of rfl rfl rfl rfl) (OE.pmk_err O_PackedError (hr.mono (by decide)) pass0 rfl (pa_cons (pe_callB call_len_seq (by rfl) T.n_len PySem.boot_len (pa_cons (pv 0) pa_nil)) pa_nil)))) pss_nil)
        (pss_cons (ps_if (pt_cmpR op_lt (pv 4) (pe_globC rfl T.c_FIRST_COPY) (nomark _))
          (pss_one (ps_expr (pe_bm PySem.F.plainAttrs_list PySem.F.slot_list_extend PySem.F.type_list_extend mt_extend (pv 2) (pa_cons (pe_slice sl_list (pv 0) (po_some (pe_op op_add (pv 3) pe_int)) (po_some (pe_op op_add (pv 3) (pv 5)))) pa_nil))))
          (pss_cons (ps_set (i := 6) nd rfl (Or.inl rfl) (pe_ix ix_list (pv 0) (pe_op op_add (pv 3) pe_int) (fun _ _ => rfl)))
          (pss_cons (ps_if (pt_not (pt_chain op_le op_le pe_int (pv 6) (pe_callB call_len_seq (by rfl) T.n_len PySem.boot_len (pa_cons (pv 2) pa_nil))))
            (pss_one (L2N.ps_raise rfl (L2N.takes_of rfl rfl rfl rfl) (OE.pmk_err O_PackedError (hr.mono (by decide)) pass0 rfl (pa_cons (pe_op op_add (pv 3) pe_int) pa_nil)))) pss_nil)
          (pss_one (ps_for po rfl (pi_range1 rfl T.n_range (pa_cons (pe_op op_add (pe_op op_sub (pv 4) (pe_globC rfl T.c_FIRST_COPY)) (pe_globC rfl T.c_SHORTEST_COPY)) pa_nil)) (pg_name (i := 7) nd rfl (Or.inl rfl))
            (pss_one (ps_expr (pe_bm PySem.F.plainAttrs_list PySem.F.slot_list_append PySem.F.type_list_append mt_append (pv 2) (pa_cons (pe_ix ix_list (pv 2) (pe_op op_sub (pe_callB call_len_seq (by rfl) T.n_len PySem.boot_len (pa_cons (pv 2) pa_nil)) (pv 6)) (fun _ _ => rfl)) pa_nil)))))))))
        (pss_cons (ps_if (pt_cmpR op_gt (pe_callB call_len_seq (by rfl) T.n_len PySem.boot_len (pa_cons (pv 2) pa_nil)) (pv 1) (nomark _))
          (pss_one (L2N.ps_raise rfl (L2N.takes_of rfl rfl rfl rfl) (L2N.pmk_own PySem.F.excBase_ValueError T.x_TooLong.x T.x_TooLong.g T.x_TooLong.k (raises_own T.x_TooLong.b T.x_TooLong.t) rfl))) pss_nil)
        (pss_one (ps_aug (i := 3) nd rfl (Or.inl rfl) (pv 5) ip_add))))))))
      (pss_one (ps_ret (pv 2)))))), ?_⟩
    generalize hR : xp ps lim ps.length 0 [] = R at kW kL kQ
    refine ⟨by decide, fun px hpx => ⟨fun m σ H' => ∃ (at_ f : Nat) (ex : List Int) (v4 v5 v6 v7 : Option V), m = ps.length - at_ ∧ ps.length - at_ ≤ f ∧ at_ ≤ ps.length ∧ ex.length ≤ 130 * at_ ∧ xp ps lim f at_ ex = R ∧ Same H H' ∧ H' px = some (.lst (ex.map V.int)) ∧ σ = [some (.ref p), some (.int lim), some (.ref px), some (.int (at_ : Int)), v4, v5, v6, v7], ⟨ps.length, 0, ps.length, [], none, none, none, none, rfl, Nat.le_refl _, Nat.zero_le _, Nat.zero_le _, hR, same_upd hpx, upd_same, rfl⟩, ?_⟩⟩
    rintro m σ H' ⟨at_, f, ex, v4, v5, v6, v7, rfl, hf, hat, hex, hxp, e, hX, rfl⟩
    have hA' := e.seq hA
    refine ⟨_, rfl, _, rfl, p, _, rfl, .inl hA', _, _, rfl, rfl, _, rfl, itd (fun h1 => ?_) (fun h1 => ?_)⟩
    · rw [List.length_map] at h1
      have hlt : at_ < ps.length := by omega
      obtain ⟨f, rfl⟩ : ∃ g, f = g + 1 := ⟨f - 1, by omega⟩
      rw [xp, if_pos hlt] at hxp
      have ho := octs_at hps hlt
      refine ⟨fun σ' H'' => ∃ (at2 f : Nat) (ex : List Int) (v4 v5 v6 v7 : Option V), at_ < at2 ∧ ps.length - at2 ≤ f ∧ at2 ≤ ps.length ∧ ex.length ≤ 130 * at2 ∧ xp ps lim f at2 ex = R ∧ Same H H'' ∧ H'' px = some (.lst (ex.map V.int)) ∧ σ' = [some (.ref p), some (.int lim), some (.ref px), some (.int (at2 : Int)), v4, v5, v6, v7],
        fun σ' H'' ⟨at2, f2, ex2, u4, u5, u6, u7, q1, q2, q3, q4, q5, q6, q7, q8⟩ => ⟨ps.length - at2, by omega, at2, f2, ex2, u4, u5, u6, u7, rfl, q2, q3, q4, q5, q6, q7, q8⟩, ?_⟩
      refine ⟨_, rfl, _, rfl, p, _, _, _, rfl, rfl, hA', at_nat (j := at_) rfl (getD_int hlt), ?_⟩
      have hgd : ps.getD at_ 0 = ps.getD at_ 0 := rfl
      generalize hoo : ps.getD at_ 0 = o at hxp ho ⊢
      have bound : ∀ exx : List Int, exx.length ≤ ex.length + 130 → exx.length ≤ 130 * (at_ + 1) := fun exx h => by omega
      by_cases h2 : o < 128
      · rw [if_pos h2] at hxp
        refine ⟨_, rfl, _, _, rfl, rfl, _, rfl, itd (fun _ => ?_) (fun h => absurd h2 h)⟩
        refine ⟨_, rfl, _, _, rfl, rfl, ?_⟩
        refine ⟨_, rfl, _, rfl, _, _, rfl, rfl, _, rfl, p, _, rfl, .inl hA', _, _, rfl, rfl, _, rfl, itd (fun h3 => ?_) (fun h3 => ?_)⟩
        · rw [List.length_map] at h3
          rw [if_pos (by omega)] at hxp
          refine ⟨_, rfl, p, _, rfl, .inl hA', _, rfl, log_mid (by rw [List.length_map]; omega), fun d hd => ?_⟩
          rw [List.length_map]
          exact kW _ hxp.symm d _ e hd
        · rw [List.length_map] at h3
          rw [if_neg (by omega)] at hxp
          refine ⟨_, rfl, _, _, rfl, rfl, _, rfl, itd (fun _ => ?_) (fun h => absurd h2 h)⟩
          have hcut : cutV (ps.map V.int) (some ((at_ : Int) + 1)) (some ((at_ : Int) + (o + 2))) = ((ps.drop (at_ + 1)).take (o.toNat + 1)).map V.int := by
            rw [show (at_ : Int) + 1 = ((at_ + 1 : Nat) : Int) by omega, show (at_ : Int) + (o + 2) = ((at_ + o.toNat + 2 : Nat) : Int) by omega, cut_mid (by omega) (by rw [List.length_map]; omega), show at_ + o.toNat + 2 - (at_ + 1) = o.toNat + 1 by omega, List.map_take, List.map_drop]
          refine ⟨_, rfl, .inl ⟨rfl, _, SqL.of hX⟩, _, rfl, _, rfl, _, _, rfl, rfl, _, rfl, _, rfl, _, rfl, _, _, rfl, rfl, _, rfl, p, _, rfl, hA', fun r hr => ?_⟩
          rw [hcut]
          have hX1 := same_upd (o := .lst (((ps.drop (at_ + 1)).take (o.toNat + 1)).map V.int)) hr _ _ hX
          have htl : ((ps.drop (at_ + 1)).take (o.toNat + 1)).length ≤ 128 := by
            rw [List.length_take]
            omega
          refine ⟨px, r, _, _, rfl, rfl, hX1, upd_same, by rw [List.length_map, List.length_map, sizeLine_eq]; omega, ?_⟩
          rw [← List.map_append]
          have e2 : Same H (upd (upd H' r (.lst (((ps.drop (at_ + 1)).take (o.toNat + 1)).map V.int))) px (.lst ((ex ++ (ps.drop (at_ + 1)).take (o.toNat + 1)).map V.int))) := same_new (e.trans (same_upd hr)) hpx
          refine ⟨_, rfl, px, _, rfl, .inl (SqL.of upd_same), _, rfl, _, _, rfl, rfl, _, rfl, itd (fun h4 => ?_) (fun h4 => ?_)⟩
          · rw [List.length_map] at h4
            rw [if_pos h4] at hxp
            exact kL hxp.symm _ e2
          · rw [List.length_map] at h4
            rw [if_neg h4] at hxp
            refine ⟨_, rfl, _, rfl, _, _, rfl, rfl, at_ + o.toNat + 2, f, _, some (.int o), some (.int (o + 2)), v6, v7, by omega, by omega, by omega, by rw [List.length_append]; omega, hxp, e2, upd_same, ?_⟩
            rw [show ((at_ + o.toNat + 2 : Nat) : Int) = (at_ : Int) + (o + 2) by omega]
            rfl
      · rw [if_neg h2] at hxp
        refine ⟨_, rfl, _, _, rfl, rfl, _, rfl, itd (fun h => absurd h h2) (fun _ => ?_)⟩
        refine ⟨_, rfl, _, rfl, _, _, rfl, rfl, _, rfl, p, _, rfl, .inl hA', _, _, rfl, rfl, _, rfl, itd (fun h3 => ?_) (fun h3 => ?_)⟩
        · rw [List.length_map] at h3
          rw [if_pos (by omega)] at hxp
          refine ⟨_, rfl, p, _, rfl, .inl hA', _, rfl, log_mid (by rw [List.length_map]; omega), fun d hd => ?_⟩
          rw [List.length_map]
          exact kW _ hxp.symm d _ e hd
        · rw [List.length_map] at h3
          rw [if_neg (by omega)] at hxp
          have hlt1 : at_ + 1 < ps.length := by omega
          have hd := octs_at hps hlt1
          refine ⟨_, rfl, _, _, rfl, rfl, _, rfl, itd (fun h => absurd h h2) (fun _ => ?_)⟩
          refine ⟨_, rfl, _, rfl, _, _, rfl, rfl, p, _, _, _, rfl, rfl, hA', at_nat (j := at_ + 1) (by omega) (getD_int hlt1), ?_⟩
          generalize ps.getD (at_ + 1) 0 = ds at hxp hd ⊢
          refine ⟨_, rfl, _, _, rfl, rfl, _, rfl, itd (fun h5 => ?_) (fun h5 => ?_)⟩
          · refine ⟨_, rfl, px, _, rfl, .inl (SqL.of hX), _, _, rfl, rfl, _, rfl, itb (fun h6 => ?_) (fun h6 => ?_)⟩
            · simp at h6
              rw [if_pos (.inr (by omega))] at hxp
              refine ⟨_, rfl, _, _, rfl, rfl, _, rfl, log_mid (by omega), fun d hd => ?_⟩
              exact kW _ hxp.symm d _ e hd
            · simp at h6
              rw [if_neg (by omega)] at hxp
              refine ⟨_, rfl, _, _, rfl, rfl, _, _, rfl, rfl, _, rfl, by omega, by omega, ?_⟩
              rw [show (o - 128 + 3).toNat = o.toNat - 125 by omega]
              have cln := cpy_len (o.toNat - 125) ds.toNat ex
              refine for_range (lo := 0) (n := o.toNat - 125) (fun i σ H'' => Same H H'' ∧ H'' px = some (.lst ((cpy i ds.toNat ex).map V.int)) ∧ ∃ v7, σ = [some (.ref p), some (.int lim), some (.ref px), some (.int (at_ : Int)), some (.int o), some (.int 2), some (.int ds), v7]) ⟨e, hX, v7, rfl⟩ ?_ ?_
              · rintro i σ H'' hi ⟨e2, hL, v7, rfl⟩
                have cl := cpy_len i ds.toNat ex
                refine ⟨_, rfl, .inl ⟨rfl, _, SqL.of hL⟩, _, rfl, _, rfl, px, _, rfl, .inl (SqL.of hL), _, rfl, _, _, rfl, rfl, px, _, _, _, rfl, rfl, SqL.of hL, at_nat (j := (cpy i ds.toNat ex).length - ds.toNat) (by rw [List.length_map]; omega) (getD_int (by omega)), px, _, _, rfl, rfl, hL, by rw [List.length_map, sizeLine_eq]; omega, ?_⟩
                refine ⟨same_new e2 hpx, ?_, _, rfl⟩
                rw [upd_same, cpy_snoc, List.map_append]
                rfl
              · rintro σ H'' ⟨e2, hL, v7, rfl⟩
                generalize cpy (o.toNat - 125) ds.toNat ex = ex2 at hxp cln hL
                refine ⟨_, rfl, px, _, rfl, .inl (SqL.of hL), _, rfl, _, _, rfl, rfl, _, rfl, itd (fun h4 => ?_) (fun h4 => ?_)⟩
                · rw [List.length_map] at h4
                  rw [if_pos h4] at hxp
                  exact kL hxp.symm _ e2
                · rw [List.length_map] at h4
                  rw [if_neg h4] at hxp
                  refine ⟨_, rfl, _, rfl, _, _, rfl, rfl, at_ + 2, f, _, some (.int o), some (.int 2), some (.int ds), v7, by omega, by omega, by omega, by omega, hxp, e2, hL, ?_⟩
                  rw [show ((at_ + 2 : Nat) : Int) = (at_ : Int) + 2 by omega]
                  rfl
          · rw [if_pos (.inl (by omega))] at hxp
            refine ⟨_, rfl, iteT ?_⟩
            refine ⟨_, rfl, _, _, rfl, rfl, _, rfl, log_mid (by omega), fun d hd => ?_⟩
            exact kW _ hxp.symm d _ e hd
    · rw [List.length_map] at h1
      rw [xp_end (by omega)] at hxp
      exact ⟨_, rfl, kQ _ hxp.symm _ _ e hX⟩

def spLX (K : PySem.W.Frag) : Sp := fun vs H Q _ => ∃ (p : Addr) (ps : List Int) (lim : Int), vs = [.ref p, .int lim] ∧ SqL K H p (ps.map V.int) ∧ ps.length ≤ 10000 ∧ octs ps ∧
  (∀ e, xp ps lim ps.length 0 [] = .wrong e → ∀ t H', Same H H' → H' t = some (.tup [.str "wrong", .int e]) → Q (.ref t) H') ∧
  (xp ps lim ps.length 0 [] = .long → ∀ t H', Same H H' → H' t = some (.tup [.str "long", .int 0]) → Q (.ref t) H') ∧
  (∀ l, xp ps lim ps.length 0 [] = .done l → ∀ t a H', Same H H' → H' a = some (.lst (l.map V.int)) → H' t = some (.tup [.str "done", .ref a]) → Q (.ref t) H')
theorem ok__law_expand (T : Txt P K mg C_ArchiveError C_TooLong C_PackedError) : Ok P w K mg base CX0 1 "_law_expand" ["packed", "limit"] (spLX K) := by
  refine ok_of T.d__law_expand fun f fd F => F.ok sc__law_expand (fun vs H Q E h => ?_) (fun cdv A outer s H vs Q E hr h => ?_)
  · obtain ⟨p, ps, lim, rfl, _⟩ := h
    rfl
  · obtain ⟨p, ps, lim, rfl, hA, hlen, hps, kW, kL, kQ⟩ := h
    have nd := sc__law_expand.nd
    refine ⟨_,       (pss_cons (ps_set (i := 2) nd rfl (Or.inl rfl) (pe_lst pa_nil))
      (pss_cons (ps_set (i := 3) nd rfl (Or.inl rfl) pe_int)
      (pss_cons (ps_for PassesOwn.never rfl (pi_range1 rfl T.n_range (pa_cons (pe_callB call_len_seq (by rfl) T.n_len PySem.boot_len (pa_cons (pv 0) pa_nil)) pa_nil)) (pg_name (i := 4) nd rfl (Or.inl rfl))
        (pss_one (ps_if (pt_cmpR op_lt (pv 3) (pe_callB call_len_seq (by rfl) T.n_len PySem.boot_len (pa_cons (pv 0) pa_nil)) (nomark _))
          (pss_cons (ps_set (i := 5) nd rfl (Or.inl rfl) (pe_ix ix_list (pv 0) (pv 3) (fun _ _ => rfl)))
          (pss_cons (ps_if (pt_cmpR op_lt (pv 5) pe_int (nomark _))
            (pss_cons (ps_if (pt_cmpR op_gt (pe_op op_add (pe_op op_add (pv 3) (pv 5)) pe_int) (pe_callB call_len_seq (by rfl) T.n_len PySem.boot_len (pa_cons (pv 0) pa_nil)) (nomark _))
              (pss_one (ps_ret (pe_tup (pa_cons pe_str (pa_cons (pe_callB call_len_seq (by rfl) T.n_len PySem.boot_len (pa_cons (pv 0) pa_nil)) pa_nil))))) pss_nil)
            (pss_cons (ps_set (i := 2) nd rfl (Or.inl rfl) (pe_op op_cat (pv 2) (pe_slice sl_list (pv 0) (po_some (pe_op op_add (pv 3) pe_int)) (po_some (pe_op op_add (pe_op op_add (pv 3) (pv 5)) pe_int)))))
            (pss_one (ps_set (i := 3) nd rfl (Or.inl rfl) (pe_op op_add (pe_op op_add (pv 3) (pv 5)) pe_int)))))
            (pss_cons (ps_if (PW.pt (pw_or (pt_cmpR op_eq (pe_op op_add (pv 3) pe_int) (pe_callB call_len_seq (by rfl) T.n_len PySem.boot_len (pa_cons (pv 0) pa_nil)) (nomark _)) (pw_or (pt_cmpR op_eq (pe_ix ix_list (pv 0) (pe_op op_add (pv 3) pe_int) (fun _ _ => rfl)) pe_int (nomark _)) (pw_or1 (pt_cmpR op_gt (pe_ix ix_list (pv 0) (pe_op op_add (pv 3) pe_int) (fun _ _ => rfl)) (pe_callB call_len_seq (by rfl) T.n_len PySem.boot_len (pa_cons (pv 2) pa_nil)) (nomark _))))))
              (pss_one (ps_ret (pe_tup (pa_cons pe_str (pa_cons (pe_op op_add (pv 3) pe_int) pa_nil))))) pss_nil)
            (pss_cons (ps_for PassesOwn.never rfl (pi_range1 rfl T.n_range (pa_cons (pe_op op_sub (pv 5) pe_int) pa_nil)) (pg_name (i := 6) nd rfl (Or.inl rfl))
              (pss_one (ps_expr (pe_bm PySem.F.plainAttrs_list PySem.F.slot_list_append PySem.F.type_list_append mt_append (pv 2) (pa_cons (pe_ix ix_list (pv 2) (pe_op op_sub (pe_callB call_len_seq (by rfl) T.n_len PySem.boot_len (pa_cons (pv 2) pa_nil)) (pe_ix ix_list (pv 0) (pe_op op_add (pv 3) pe_int) (fun _ _ => rfl))) (fun _ _ => rfl)) pa_nil)))))
            (pss_one (ps_set (i := 3) nd rfl (Or.inl rfl) (pe_op op_add (pv 3) pe_int))))))
          (pss_one (ps_if (pt_cmpR op_gt (pe_callB call_len_seq (by rfl) T.n_len PySem.boot_len (pa_cons (pv 2) pa_nil)) (pv 1) (nomark _))
            (pss_one (ps_ret (pe_tup (pa_cons pe_str (pa_cons pe_int pa_nil))))) pss_nil)))) pss_nil)))
      (pss_one (ps_ret (pe_tup (pa_cons pe_str (pa_cons (pv 2) pa_nil)))))))), ?_⟩
    generalize hR : xp ps lim ps.length 0 [] = R at kW kL kQ
    refine ⟨by decide, fun px0 hpx0 => ⟨_, rfl, p, _, rfl, .inl ((same_upd hpx0).seq hA), ((ps.length : Nat) : Int), by rw [List.length_map], by omega, by omega, ?_⟩⟩
    rw [Int.toNat_natCast]
    refine for_range (lo := 0) (n := ps.length) (fun i σ H' => ∃ (px at_ f : Nat) (ex : List Int) (v4 v5 v6 : Option V), i ≤ at_ ∧ ps.length - at_ ≤ f ∧ at_ ≤ ps.length ∧ ex.length ≤ 130 * at_ ∧ xp ps lim f at_ ex = R ∧ Same H H' ∧ H px = none ∧ H' px = some (.lst (ex.map V.int)) ∧ σ = [some (.ref p), some (.int lim), some (.ref px), some (.int (at_ : Int)), v4, v5, v6]) ⟨px0, 0, ps.length, [], none, none, none, Nat.le_refl _, Nat.le_refl _, Nat.zero_le _, Nat.zero_le _, hR, same_upd hpx0, hpx0, upd_same, rfl⟩ ?_ ?_
    · rintro i σ H' hi ⟨px, at_, f, ex, v4, v5, v6, hia, hf, hat, hex, hxp, e, hpx, hX, rfl⟩
      have hA' := e.seq hA
      refine ⟨_, rfl, _, rfl, p, _, rfl, .inl hA', _, _, rfl, rfl, _, rfl, itd (fun h1 => ?_) (fun h1 => ?_)⟩
      · rw [List.length_map] at h1
        have hlt : at_ < ps.length := by omega
        obtain ⟨f, rfl⟩ : ∃ g, f = g + 1 := ⟨f - 1, by omega⟩
        rw [xp, if_pos hlt] at hxp
        have ho := octs_at hps hlt
        refine ⟨_, rfl, _, rfl, p, _, _, _, rfl, rfl, hA', at_nat (j := at_) rfl (getD_int hlt), ?_⟩
        generalize ps.getD at_ 0 = o at hxp ho ⊢
        refine ⟨_, rfl, _, _, rfl, rfl, _, rfl, itd (fun h2 => ?_) (fun h2 => ?_)⟩
        · rw [if_pos h2] at hxp
          refine ⟨_, rfl, _, rfl, _, _, rfl, rfl, _, _, rfl, rfl, _, rfl, p, _, rfl, .inl hA', _, _, rfl, rfl, _, rfl, itd (fun h3 => ?_) (fun h3 => ?_)⟩
          · rw [List.length_map] at h3
            rw [if_pos h3] at hxp
            refine ⟨_, rfl, p, _, rfl, .inl hA', (by show 2 ≤ sizeLine; decide), fun t ht => kW _ hxp.symm t _ (e.trans (same_upd ht)) ?_⟩
            rw [upd_same, List.length_map]
          · rw [List.length_map] at h3
            rw [if_neg h3] at hxp
            have hcut : cutV (ps.map V.int) (some ((at_ : Int) + 1)) (some ((at_ : Int) + o + 2)) = ((ps.drop (at_ + 1)).take (o.toNat + 1)).map V.int := by
              rw [show (at_ : Int) + 1 = ((at_ + 1 : Nat) : Int) by omega, show (at_ : Int) + o + 2 = ((at_ + o.toNat + 2 : Nat) : Int) by omega, cut_mid (by omega) (by rw [List.length_map]; omega), show at_ + o.toNat + 2 - (at_ + 1) = o.toNat + 1 by omega, List.map_take, List.map_drop]
            refine ⟨_, rfl, _, rfl, _, rfl, _, _, rfl, rfl, _, rfl, _, rfl, _, rfl, _, _, rfl, rfl, _, _, rfl, rfl, _, rfl, p, _, rfl, hA', fun r hr => ?_⟩
            rw [hcut]
            have hX1 := same_upd (o := .lst (((ps.drop (at_ + 1)).take (o.toNat + 1)).map V.int)) hr _ _ hX
            have htl : ((ps.drop (at_ + 1)).take (o.toNat + 1)).length ≤ 128 := by
              rw [List.length_take]
              omega
            refine ⟨px, r, _, _, rfl, rfl, hX1, upd_same, by rw [List.length_map, List.length_map, sizeLine_eq]; omega, fun q hq => ?_⟩
            rw [← List.map_append]
            have e2 := (e.trans (same_upd (o := .lst (((ps.drop (at_ + 1)).take (o.toNat + 1)).map V.int)) hr)).trans (same_upd (o := .lst ((ex ++ (ps.drop (at_ + 1)).take (o.toNat + 1)).map V.int)) hq)
            have hq0 : H q = none := (e.trans (same_upd (o := .lst (((ps.drop (at_ + 1)).take (o.toNat + 1)).map V.int)) hr)).free hq
            refine ⟨_, rfl, _, rfl, _, _, rfl, rfl, _, _, rfl, rfl, ?_⟩
            refine ⟨_, rfl, q, _, rfl, .inl (SqL.of upd_same), _, rfl, _, _, rfl, rfl, _, rfl, itd (fun h4 => ?_) (fun h4 => ?_)⟩
            · rw [List.length_map] at h4
              rw [if_pos h4] at hxp
              exact ⟨(by show 2 ≤ sizeLine; decide), fun t ht => kL hxp.symm t _ (e2.trans (same_upd ht)) upd_same⟩
            · rw [List.length_map] at h4
              rw [if_neg h4] at hxp
              refine ⟨q, at_ + o.toNat + 2, f, _, some (.int (0 + (i : Int))), some (.int o), v6, by omega, by omega, by omega, by rw [List.length_append]; omega, hxp, e2, hq0, upd_same, ?_⟩
              rw [show ((at_ + o.toNat + 2 : Nat) : Int) = (at_ : Int) + o + 2 by omega]
              rfl
        · rw [if_neg h2] at hxp
          refine ⟨_, rfl, _, _, rfl, rfl, _, rfl, p, _, rfl, .inl hA', rfl, _, rfl, itd (fun h3 => ?_) (fun h3 => ?_)⟩
          · have h3 : (at_ : Int) + 1 = (((ps.map V.int).length : Nat) : Int) := V.int.inj h3
            rw [List.length_map] at h3
            rw [if_pos (by omega)] at hxp
            refine ⟨_, rfl, _, _, rfl, rfl, (by show 2 ≤ sizeLine; decide), fun t ht => kW _ hxp.symm t _ (e.trans (same_upd ht)) ?_⟩
            rw [upd_same, ← h3]
          · have h3 : ¬ (at_ : Int) + 1 = (((ps.map V.int).length : Nat) : Int) := fun z => h3 (congrArg V.int z)
            rw [List.length_map] at h3
            rw [if_neg (by omega)] at hxp
            have hlt1 : at_ + 1 < ps.length := by omega
            have hd := octs_at hps hlt1
            have hg : atI (ps.map V.int) ((at_ : Int) + 1) = some (V.int (ps.getD (at_ + 1) 0)) := at_nat (j := at_ + 1) (by omega) (getD_int hlt1)
            generalize ps.getD (at_ + 1) 0 = ds at hxp hd hg
            refine ⟨_, rfl, _, rfl, _, _, rfl, rfl, p, _, _, _, rfl, rfl, hA', hg, rfl, _, rfl, itd (fun h5 => ?_) (fun h5 => ?_)⟩
            · have h5 : ds = 0 := V.int.inj h5
              rw [if_pos (.inl (by omega))] at hxp
              exact ⟨_, rfl, _, _, rfl, rfl, (by show 2 ≤ sizeLine; decide), fun t ht => kW _ hxp.symm t _ (e.trans (same_upd ht)) upd_same⟩
            · have h5 : ¬ ds = 0 := fun z => h5 (congrArg V.int z)
              refine ⟨_, rfl, _, rfl, _, _, rfl, rfl, p, _, _, _, rfl, rfl, hA', hg, _, rfl, px, _, rfl, .inl (SqL.of hX), _, _, rfl, rfl, _, rfl, itd (fun h6 => ?_) (fun h6 => ?_)⟩
              · rw [List.length_map] at h6
                rw [if_pos (.inr (by omega))] at hxp
                exact ⟨_, rfl, _, _, rfl, rfl, (by show 2 ≤ sizeLine; decide), fun t ht => kW _ hxp.symm t _ (e.trans (same_upd ht)) upd_same⟩
              · rw [List.length_map] at h6
                rw [if_neg (by omega)] at hxp
                refine ⟨_, rfl, _, _, rfl, rfl, _, rfl, by omega, by omega, ?_⟩
                rw [show (o - 125).toNat = o.toNat - 125 by omega]
                have cln := cpy_len (o.toNat - 125) ds.toNat ex
                refine for_range (lo := 0) (n := o.toNat - 125) (fun j σ H'' => Same H H'' ∧ H'' px = some (.lst ((cpy j ds.toNat ex).map V.int)) ∧ ∃ v6, σ = [some (.ref p), some (.int lim), some (.ref px), some (.int (at_ : Int)), some (.int (0 + (i : Int))), some (.int o), v6]) ⟨e, hX, v6, rfl⟩ ?_ ?_
                · rintro j σ H'' hj ⟨e2, hL, v6, rfl⟩
                  have cl := cpy_len j ds.toNat ex
                  refine ⟨_, rfl, .inl ⟨rfl, _, SqL.of hL⟩, _, rfl, _, rfl, px, _, rfl, .inl (SqL.of hL), _, rfl, _, rfl, _, _, rfl, rfl, p, _, _, _, rfl, rfl, e2.seq hA, hg, _, _, rfl, rfl, px, _, _, _, rfl, rfl, SqL.of hL, at_nat (j := (cpy j ds.toNat ex).length - ds.toNat) (by rw [List.length_map]; omega) (getD_int (by omega)), px, _, _, rfl, rfl, hL, by rw [List.length_map, sizeLine_eq]; omega, ?_⟩
                  refine ⟨same_new e2 hpx, ?_, _, rfl⟩
                  rw [upd_same, cpy_snoc, List.map_append]
                  rfl
                · rintro σ H'' ⟨e2, hL, v6, rfl⟩
                  generalize cpy (o.toNat - 125) ds.toNat ex = ex2 at hxp cln hL
                  refine ⟨_, rfl, _, _, rfl, rfl, ?_⟩
                  refine ⟨_, rfl, px, _, rfl, .inl (SqL.of hL), _, rfl, _, _, rfl, rfl, _, rfl, itd (fun h4 => ?_) (fun h4 => ?_)⟩
                  · rw [List.length_map] at h4
                    rw [if_pos h4] at hxp
                    exact ⟨(by show 2 ≤ sizeLine; decide), fun t ht => kL hxp.symm t _ (e2.trans (same_upd ht)) upd_same⟩
                  · rw [List.length_map] at h4
                    rw [if_neg h4] at hxp
                    refine ⟨px, at_ + 2, f, _, some (.int (0 + (i : Int))), some (.int o), v6, by omega, by omega, by omega, by omega, hxp, e2, hpx, hL, ?_⟩
                    rw [show ((at_ + 2 : Nat) : Int) = (at_ : Int) + 2 by omega]
                    rfl
      · rw [List.length_map] at h1
        exact ⟨px, at_, f, ex, _, v5, v6, by omega, hf, hat, hex, hxp, e, hpx, hX, rfl⟩
    · rintro σ H' ⟨px, at_, f, ex, v4, v5, v6, hia, hf, hat, hex, hxp, e, hpx, hX, rfl⟩
      rw [xp_end hia] at hxp
      exact ⟨_, rfl, (by show 2 ≤ sizeLine; decide), fun t ht => kQ _ hxp.symm t px _ (e.trans (same_upd ht)) (same_upd ht _ _ hX) upd_same⟩

def spPk (K : PySem.W.Frag) : Sp := fun vs H Q _ => ∃ (p : Addr) (ns : List Int), vs = [.ref p] ∧ SqL K H p (ns.map V.int) ∧ ns.length ≤ 30 ∧ ∀ a H' ps, Same H H' → H' a = some (.lst (ps.map V.int)) → octs ps → ps.length ≤ 4000 → Q (.ref a) H'
theorem ok__law_packed (T : Txt P K mg C_ArchiveError C_TooLong C_PackedError) : Ok P w K mg base CX0 3 "_law_packed" ["cells"] (spPk K) := by
  have G__law_row := ok__law_row (P := P) (w := w) (base := base) T
  refine ok_of T.d__law_packed fun f fd F => F.ok sc__law_packed (fun vs H Q E h => ?_) (fun cdv A outer s H vs Q E hr h => ?_)
  · obtain ⟨p, ns, rfl, _⟩ := h
    rfl
  · obtain ⟨p, ns, rfl, hA, hlen, kQ⟩ := h
    have nd := sc__law_packed.nd
    refine ⟨_,       (pss_cons (ps_set (i := 1) nd rfl (Or.inl rfl) (pe_lst pa_nil))
      (pss_cons (ps_set (i := 2) nd rfl (Or.inl rfl) pe_int)
      (pss_cons (ps_for PassesOwn.never rfl (pi_list (pv 0)) (pg_name (i := 3) nd rfl (Or.inl rfl))
        (pss_cons (ps_set (i := 4) nd rfl (Or.inl rfl) (pe_op op_mod (pv 3) pe_int))
        (pss_one (ps_if (PW.pt (pw_or (pt_cmpR op_lt (pv 4) pe_int (nomark _)) (pw_or1 (pt_cmpR op_eq (pv 2) pe_int (nomark _)))))
          (pss_cons (ps_set (i := 5) nd rfl (Or.inl rfl) (pe_op op_add pe_int (pe_op op_mod (pe_op op_fdiv (pv 3) pe_int) pe_int)))
          (Evl.pss_cut (ps_if (pt_cmpR op_eq (pe_op op_mod (pe_op op_fdiv (pv 3) pe_int) pe_int) pe_int (nomark _))
            (pss_one (ps_set (i := 5) nd rfl (Or.inl rfl) (pe_op op_add pe_int (pe_op op_mod (pe_op op_fdiv (pv 3) pe_int) pe_int)))) pss_nil)
          (pss_cons (ps_set (i := 1) nd rfl (Or.inl rfl) (pe_op op_cat (pe_op op_cat (pv 1) (pe_lst (pa_cons (pe_op op_sub (pv 5) pe_int) pa_nil))) (pe_callO G__law_row (hr.mono (by decide)) pass0 (pa_cons (pe_op op_fdiv (pv 3) pe_int) (pa_cons (pv 5) (pa_cons (pe_ix ix_tup (pe_tup (pa_cons pe_int (pa_cons pe_int pa_nil))) (pe_op op_mod (pv 4) pe_int) (fun _ _ => rfl)) pa_nil))))))
          (pss_one (ps_set (i := 2) nd rfl (Or.inl rfl) (pe_op op_add (pv 2) (pv 5)))))))
          (pss_cons (ps_set (i := 6) nd rfl (Or.inl rfl) (pe_op op_add pe_int (pe_op op_mod (pe_op op_fdiv (pv 3) pe_int) pe_int)))
          (Evl.pss_cut (ps_if (pt_cmpR op_eq (pe_op op_mod (pe_op op_fdiv (pv 3) pe_int) pe_int) pe_int (nomark _))
            (pss_one (ps_set (i := 6) nd rfl (Or.inl rfl) (pe_op op_add pe_int (pe_op op_mod (pe_op op_fdiv (pv 3) pe_int) pe_int)))) pss_nil)
          (pss_cons (ps_set (i := 7) nd rfl (Or.inl rfl) (pe_op op_add pe_int (pe_op op_mod (pe_op op_fdiv (pv 3) pe_int) (pe_callB (call_min2 rfl) (by rfl) T.n_min (by decide +kernel) (pa_cons (pv 2) (pa_cons pe_int pa_nil))))))
          (Evl.pss_cut (ps_if (pt_cmpR op_eq (pe_op op_mod (pe_op op_fdiv (pv 3) pe_int) pe_int) pe_int (nomark _))
            (pss_one (ps_set (i := 7) nd rfl (Or.inl rfl) (pe_op op_add pe_int (pe_op op_mod (pe_op op_fdiv (pv 3) pe_int) (pe_callB (call_min2 rfl) (by rfl) T.n_min (by decide +kernel) (pa_cons (pv 2) (pa_cons pe_int pa_nil))))))) pss_nil)
          (pss_cons (ps_set (i := 1) nd rfl (Or.inl rfl) (pe_op op_cat (pv 1) (pe_lst (pa_cons (pe_op op_add pe_int (pv 6)) (pa_cons (pv 7) pa_nil)))))
          (pss_one (ps_set (i := 2) nd rfl (Or.inl rfl) (pe_op op_add (pv 2) (pv 6)))))))))))))
      (pss_one (ps_ret (pv 1)))))), ?_⟩
    refine ⟨by decide, fun px0 hpx0 => ⟨_, rfl, p, rfl, ⟨_, (same_upd hpx0).seq hA⟩, for_list (K := K) (a := p) (xs := ns.map V.int) (fun i σ H' => ∃ (px : Addr) (ps : List Int) (sz : Int) (v3 v4 v5 v6 v7 : Option V), octs ps ∧ ps.length ≤ 130 * i ∧ 0 ≤ sz ∧ Same H H' ∧ H' px = some (.lst (ps.map V.int)) ∧ σ = [some (.ref p), some (.ref px), some (.int sz), v3, v4, v5, v6, v7]) ⟨px0, [], 0, none, none, none, none, none, (fun o ho => nomatch ho), Nat.le_refl _, Int.le_refl _, same_upd hpx0, upd_same, rfl⟩ (fun i σ H' _ ⟨_, _, _, _, _, _, _, _, _, _, _, e, _⟩ => e.seq hA) ?_ ?_⟩⟩
    · rintro i y σ H' hi ⟨px, ps, sz, v3, v4, v5, v6, v7, hps, hpl, hs0, e, hX, rfl⟩
      obtain ⟨hin, rfl⟩ := get_ints hi
      generalize ns[i] = ce
      have hi30 : i < 30 := by omega
      refine ⟨_, rfl, _, _, rfl, rfl, (by show (0 : Int) < 4; decide), ?_⟩
      have hkd : 0 ≤ ce % 4 ∧ ce % 4 < 4 := ⟨by omega, by omega⟩
      refine ⟨_, rfl, _, _, rfl, rfl, _, rfl, itd (fun h1 => ?_) (fun h1 => ⟨_, rfl, rfl, _, rfl, itd (fun h2 => ?_) (fun h2 => ?_)⟩)⟩
      · skip
        -- a run
        refine ⟨_, rfl, _, _, rfl, rfl, ⟨by decide, by decide⟩, _, _, rfl, rfl, (by show (0 : Int) < 9; decide), _, _, rfl, rfl, ?_⟩
        refine ⟨fun σ' H'' => H' = H'' ∧ ∃ c : Nat, 1 ≤ c ∧ c ≤ 128 ∧ σ' = [some (.ref p), some (.ref px), some (.int sz), some (.int ce), some (.int (ce % 4)), some (.int (c : Int)), v6, v7], ?_, ?_⟩
        · refine ⟨_, rfl, _, _, rfl, rfl, ⟨by decide, by decide⟩, _, _, rfl, rfl, (by show (0 : Int) < 9; decide), rfl, _, rfl, itd (fun _ => ?_) (fun _ => ?_)⟩
          · refine ⟨_, rfl, _, _, rfl, rfl, ⟨by decide, by decide⟩, _, _, rfl, rfl, (by show (0 : Int) < 128; decide), _, _, rfl, rfl, rfl, (1 + ce / 36 % 128).toNat, by omega, by omega, ?_⟩
            rw [Int.toNat_of_nonneg (by omega)]
            rfl
          · refine ⟨rfl, (1 + ce / 4 % 9).toNat, by omega, by omega, ?_⟩
            rw [Int.toNat_of_nonneg (by omega)]
            rfl
        rintro σ3 H3 ⟨rfl, c, hc1, hc2, rfl⟩
        obtain ⟨b, hb, hb0, hb1⟩ : ∃ b : Int, atI [V.int 2, V.int 256] ((ce % 4) % 2) = some (V.int b) ∧ 0 < b ∧ b ≤ 256 := by
          have z : (ce % 4) % 2 = 0 ∨ (ce % 4) % 2 = 1 := by omega
          rcases z with z | z
          · exact ⟨2, by rw [z]; rfl, by decide, by decide⟩
          · exact ⟨256, by rw [z]; rfl, by decide, by decide⟩
        refine ⟨_, rfl, _, rfl, _, _, rfl, rfl, (by show 1 ≤ sizeLine; decide), fun l hl => ?_⟩
        have f1 := same_upd (o := .lst [V.int ((c : Int) - 1)]) hl
        refine ⟨px, l, _, _, rfl, rfl, f1 _ _ hX, upd_same, smallE (by simp; omega), fun q hq => ?_⟩
        have f2 := f1.trans (same_upd (o := .lst (ps.map V.int ++ [V.int ((c : Int) - 1)])) hq)
        refine ⟨_, rfl, _, _, rfl, rfl, ⟨by decide, by decide⟩, _, rfl, (by show 2 ≤ sizeLine; decide), fun tp htp => ⟨_, rfl, _, _, rfl, rfl, (by show (0 : Int) < 2; decide), tp, _, _, _, rfl, rfl, SqT.of upd_same, hb, ce / 324, c, b, rfl, by omega, hb0, by omega, fun r H5 hr e5 hL5 => ?_⟩⟩
        have f3 := f2.trans (same_upd (o := .tup [V.int 2, V.int 256]) htp)
        have hq5 := e5 _ _ (same_upd (o := .tup [V.int 2, V.int 256]) htp _ _ (upd_same (H := upd H' l (.lst [V.int ((c : Int) - 1)])) (a := q) (o := .lst (ps.map V.int ++ [V.int ((c : Int) - 1)]))))
        have hrl := rowL_len (ce / 324) c b
        have hri : ∀ x ∈ rowL (ce / 324) c b, 0 ≤ x ∧ x < b := fun x hx => rowL_in hb0 hx
        generalize rowL (ce / 324) c b = rl at hL5 hrl hri
        refine ⟨q, r, _, _, rfl, rfl, hq5, hL5, smallE (by simp; omega), fun q2 hq2 => ?_⟩
        refine ⟨_, rfl, _, rfl, _, _, rfl, rfl, q2, ps ++ [(c : Int) - 1] ++ rl, sz + c, some (.int ce), some (.int (ce % 4)), some (.int (c : Int)), v6, v7, ?_, by simp; omega, by omega, e.trans ((f3.trans e5).trans (same_upd hq2)), ?_, rfl⟩
        · intro o ho
          rcases List.mem_append.mp ho with ho | ho
          · rcases List.mem_append.mp ho with ho | ho
            · exact hps o ho
            · rw [List.mem_singleton.mp ho]
              omega
          · have := hri o ho
            omega
        · rw [upd_same, List.map_append, List.map_append]
          rfl
      · skip
        -- a run
        refine ⟨_, rfl, _, _, rfl, rfl, ⟨by decide, by decide⟩, _, _, rfl, rfl, (by show (0 : Int) < 9; decide), _, _, rfl, rfl, ?_⟩
        refine ⟨fun σ' H'' => H' = H'' ∧ ∃ c : Nat, 1 ≤ c ∧ c ≤ 128 ∧ σ' = [some (.ref p), some (.ref px), some (.int sz), some (.int ce), some (.int (ce % 4)), some (.int (c : Int)), v6, v7], ?_, ?_⟩
        · refine ⟨_, rfl, _, _, rfl, rfl, ⟨by decide, by decide⟩, _, _, rfl, rfl, (by show (0 : Int) < 9; decide), rfl, _, rfl, itd (fun _ => ?_) (fun _ => ?_)⟩
          · refine ⟨_, rfl, _, _, rfl, rfl, ⟨by decide, by decide⟩, _, _, rfl, rfl, (by show (0 : Int) < 128; decide), _, _, rfl, rfl, rfl, (1 + ce / 36 % 128).toNat, by omega, by omega, ?_⟩
            rw [Int.toNat_of_nonneg (by omega)]
            rfl
          · refine ⟨rfl, (1 + ce / 4 % 9).toNat, by omega, by omega, ?_⟩
            rw [Int.toNat_of_nonneg (by omega)]
            rfl
        rintro σ3 H3 ⟨rfl, c, hc1, hc2, rfl⟩
        obtain ⟨b, hb, hb0, hb1⟩ : ∃ b : Int, atI [V.int 2, V.int 256] ((ce % 4) % 2) = some (V.int b) ∧ 0 < b ∧ b ≤ 256 := by
          have z : (ce % 4) % 2 = 0 ∨ (ce % 4) % 2 = 1 := by omega
          rcases z with z | z
          · exact ⟨2, by rw [z]; rfl, by decide, by decide⟩
          · exact ⟨256, by rw [z]; rfl, by decide, by decide⟩
        refine ⟨_, rfl, _, rfl, _, _, rfl, rfl, (by show 1 ≤ sizeLine; decide), fun l hl => ?_⟩
        have f1 := same_upd (o := .lst [V.int ((c : Int) - 1)]) hl
        refine ⟨px, l, _, _, rfl, rfl, f1 _ _ hX, upd_same, smallE (by simp; omega), fun q hq => ?_⟩
        have f2 := f1.trans (same_upd (o := .lst (ps.map V.int ++ [V.int ((c : Int) - 1)])) hq)
        refine ⟨_, rfl, _, _, rfl, rfl, ⟨by decide, by decide⟩, _, rfl, (by show 2 ≤ sizeLine; decide), fun tp htp => ⟨_, rfl, _, _, rfl, rfl, (by show (0 : Int) < 2; decide), tp, _, _, _, rfl, rfl, SqT.of upd_same, hb, ce / 324, c, b, rfl, by omega, hb0, by omega, fun r H5 hr e5 hL5 => ?_⟩⟩
        have f3 := f2.trans (same_upd (o := .tup [V.int 2, V.int 256]) htp)
        have hq5 := e5 _ _ (same_upd (o := .tup [V.int 2, V.int 256]) htp _ _ (upd_same (H := upd H' l (.lst [V.int ((c : Int) - 1)])) (a := q) (o := .lst (ps.map V.int ++ [V.int ((c : Int) - 1)]))))
        have hrl := rowL_len (ce / 324) c b
        have hri : ∀ x ∈ rowL (ce / 324) c b, 0 ≤ x ∧ x < b := fun x hx => rowL_in hb0 hx
        generalize rowL (ce / 324) c b = rl at hL5 hrl hri
        refine ⟨q, r, _, _, rfl, rfl, hq5, hL5, smallE (by simp; omega), fun q2 hq2 => ?_⟩
        refine ⟨_, rfl, _, rfl, _, _, rfl, rfl, q2, ps ++ [(c : Int) - 1] ++ rl, sz + c, some (.int ce), some (.int (ce % 4)), some (.int (c : Int)), v6, v7, ?_, by simp; omega, by omega, e.trans ((f3.trans e5).trans (same_upd hq2)), ?_, rfl⟩
        · intro o ho
          rcases List.mem_append.mp ho with ho | ho
          · rcases List.mem_append.mp ho with ho | ho
            · exact hps o ho
            · rw [List.mem_singleton.mp ho]
              omega
          · have := hri o ho
            omega
        · rw [upd_same, List.map_append, List.map_append]
          rfl
      · have h2 : ¬ sz = 0 := fun z => h2 (congrArg V.int z)
        -- a copy
        have hsz : 0 < sz := by omega
        refine ⟨_, rfl, _, _, rfl, rfl, ⟨by decide, by decide⟩, _, _, rfl, rfl, (by show (0 : Int) < 9; decide), _, _, rfl, rfl, ?_⟩
        refine ⟨fun σ' H'' => H' = H'' ∧ ∃ c : Int, 3 ≤ c ∧ c ≤ 130 ∧ σ' = [some (.ref p), some (.ref px), some (.int sz), some (.int ce), some (.int (ce % 4)), v5, some (.int c), v7], ?_, ?_⟩
        · refine ⟨_, rfl, _, _, rfl, rfl, ⟨by decide, by decide⟩, _, _, rfl, rfl, (by show (0 : Int) < 9; decide), rfl, _, rfl, itd (fun _ => ?_) (fun _ => ?_)⟩
          · exact ⟨_, rfl, _, _, rfl, rfl, ⟨by decide, by decide⟩, _, _, rfl, rfl, (by show (0 : Int) < 128; decide), _, _, rfl, rfl, rfl, 3 + ce / 36 % 128, by omega, by omega, rfl⟩
          · exact ⟨rfl, 3 + ce / 4 % 9, by omega, by omega, rfl⟩
        rintro σ3 H3 ⟨rfl, c, hc1, hc2, rfl⟩
        have hm : ∀ k : Int, 0 < k → 0 < (if k < sz then k else sz) ∧ (if k < sz then k else sz) ≤ k := fun k hk => by
          split <;> omega
        have hmod : ∀ k : Int, 0 < k → 0 ≤ ce / 324 % (if k < sz then k else sz) ∧ ce / 324 % (if k < sz then k else sz) < k := fun k hk => by
          have z := hm k hk
          have z1 := Int.emod_nonneg (ce / 324) (show (if k < sz then k else sz) ≠ 0 by omega)
          have z2 := Int.emod_lt_of_pos (ce / 324) z.1
          omega
        refine ⟨_, rfl, _, _, rfl, rfl, ⟨by decide, by decide⟩, _, rfl, _, _, rfl, _, _, rfl, rfl, (hm 255 (by decide)).1, _, _, rfl, rfl, ?_⟩
        refine ⟨fun σ' H'' => H' = H'' ∧ ∃ d : Int, 1 ≤ d ∧ d ≤ 255 ∧ σ' = [some (.ref p), some (.ref px), some (.int sz), some (.int ce), some (.int (ce % 4)), v5, some (.int c), some (.int d)], ?_, ?_⟩
        · refine ⟨_, rfl, _, _, rfl, rfl, ⟨by decide, by decide⟩, _, _, rfl, rfl, (by show (0 : Int) < 5; decide), rfl, _, rfl, itd (fun _ => ?_) (fun _ => ?_)⟩
          · have z := hmod 3 (by decide)
            exact ⟨_, rfl, _, _, rfl, rfl, ⟨by decide, by decide⟩, _, rfl, _, _, rfl, _, _, rfl, rfl, (hm 3 (by decide)).1, _, _, rfl, rfl, rfl, 1 + ce / 324 % (if 3 < sz then 3 else sz), by omega, by omega, rfl⟩
          · have z := hmod 255 (by decide)
            exact ⟨rfl, 1 + ce / 324 % (if 255 < sz then 255 else sz), by omega, by omega, rfl⟩
        rintro σ4 H4 ⟨rfl, d, hd1, hd2, rfl⟩
        refine ⟨_, rfl, _, rfl, _, _, rfl, rfl, _, rfl, (by show 2 ≤ sizeLine; decide), fun l hl => ?_⟩
        have f1 := same_upd (o := .lst [V.int (125 + c), V.int d]) hl
        refine ⟨px, l, _, _, rfl, rfl, f1 _ _ hX, upd_same, smallE (by simp; omega), fun q hq => ?_⟩
        refine ⟨_, rfl, _, rfl, _, _, rfl, rfl, q, ps ++ [125 + c, d], sz + c, some (.int ce), some (.int (ce % 4)), v5, some (.int c), some (.int d), ?_, by simp; omega, by omega, e.trans (f1.trans (same_upd hq)), ?_, rfl⟩
        · intro o ho
          rcases List.mem_append.mp ho with ho | ho
          · exact hps o ho
          · simp only [List.mem_cons, List.not_mem_nil, or_false] at ho
            rcases ho with e | e <;> omega
        · rw [upd_same, List.map_append]
          rfl
    · rintro σ H' ⟨px, ps, sz, v3, v4, v5, v6, v7, hps, hpl, hs0, e, hX, rfl⟩
      rw [List.length_map] at hpl
      exact ⟨_, rfl, kQ px H' ps e hX hps (by omega)⟩

theorem octs_take {ps : List Int} (h : octs ps) (k : Nat) : octs (ps.take k) := fun o ho => h o (List.mem_of_mem_take ho)
theorem octs_drop {ps : List Int} (h : octs ps) (k : Nat) : octs (ps.drop k) := fun o ho => h o (List.mem_of_mem_drop ho)
theorem octs_app {ps qs : List Int} (h : octs ps) (g : octs qs) : octs (ps ++ qs) := fun o ho => (List.mem_append.mp ho).elim (h o) (g o)
theorem octs_one {o : Int} (h : 0 ≤ o ∧ o ≤ 255) : octs [o] := fun x hx => by
  rw [List.mem_singleton.mp hx]
  exact h
theorem cut_fromA {xs : List V} {k : Nat} : cutV xs (some (k : Int)) none = xs.drop k := by
  by_cases h : k ≤ xs.length
  · exact cut_from h
  · have e : xs.drop k = [] := List.drop_eq_nil_of_le (by omega)
    rw [e]
    unfold cutV
    have e1 : HT.sIx xs.length 0 (some (k : Int)) = xs.length := by
      simp only [HT.sIx]
      split <;> omega
    rw [e1]
    simp
def spSpo (K : PySem.W.Frag) : Sp := fun vs H Q _ => ∃ (p : Addr) (ps : List Int) (c : Int), vs = [.ref p, .int c] ∧ SqL K H p (ps.map V.int) ∧ ps.length ≤ 4000 ∧ octs ps ∧ ∀ a H' qs, Same H H' → H' a = some (.lst (qs.map V.int)) → octs qs → qs.length ≤ 5000 → Q (.ref a) H'
theorem ok__law_spoilt (T : Txt P K mg C_ArchiveError C_TooLong C_PackedError) : Ok P w K mg base CX0 1 "_law_spoilt" ["packed", "cell"] (spSpo K) := by
  refine ok_of T.d__law_spoilt fun f fd F => F.ok sc__law_spoilt (fun vs H Q E h => ?_) (fun cdv A outer s H vs Q E hr h => ?_)
  · obtain ⟨p, ps, c, rfl, _⟩ := h
    rfl
  · obtain ⟨p, ps, c, rfl, hA, hlen, hps, kQ⟩ := h
    have nd := sc__law_spoilt.nd
    refine ⟨_,       (Evl.pss_cut (ps_set (i := 2) nd rfl (Or.inl rfl) (pe_op op_mod (pv 1) (pe_op op_add (pe_callB call_len_seq (by rfl) T.n_len PySem.boot_len (pa_cons (pv 0) pa_nil)) pe_int)))
      (pss_cons (ps_set (i := 3) nd rfl (Or.inl rfl) (pe_op op_mod (pe_op op_fdiv (pv 1) pe_int) pe_int))
      (pss_cons (ps_if (pt_cmpR op_eq (pv 3) pe_int (nomark _))
        (pss_one (ps_ret (pe_slice sl_list (pv 0) po_none (po_some (pv 2))))) pss_nil)
      (pss_cons (ps_if (pt_cmpR op_eq (pv 3) pe_int (nomark _))
        (pss_one (ps_ret (pe_op op_cat (pe_op op_cat (pe_slice sl_list (pv 0) po_none (po_some (pv 2))) (pe_lst (pa_cons (pe_ix ix_tup (pe_tup (pa_cons pe_int (pa_cons pe_int (pa_cons pe_int (pa_cons pe_int pa_nil))))) (pe_op op_mod (pe_op op_fdiv (pv 1) pe_int) pe_int) (fun _ _ => rfl)) pa_nil))) (pe_slice sl_list (pv 0) (po_some (pe_op op_add (pv 2) pe_int)) po_none)))) pss_nil)
      (pss_cons (ps_if (pt_cmpR op_eq (pv 3) pe_int (nomark _))
        (pss_one (ps_ret (pe_op op_cat (pe_op op_cat (pe_slice sl_list (pv 0) po_none (po_some (pv 2))) (pe_lst (pa_cons (pe_op op_mod (pe_op op_fdiv (pv 1) pe_int) pe_int) pa_nil))) (pe_slice sl_list (pv 0) (po_some (pv 2)) po_none)))) pss_nil)
      (pss_one (ps_ret (pe_op op_cat (pe_slice sl_list (pv 0) po_none (po_some (pv 2))) (pe_slice sl_list (pv 0) (po_some (pe_op op_add (pv 2) pe_int)) po_none))))))))), ?_⟩
    refine ⟨fun σ' H' => H = H' ∧ ∃ k : Nat, k ≤ ps.length ∧ σ' = [some (.ref p), some (.int c), some (.int (k : Int)), none], ?_, ?_⟩
    · have z1 := Int.emod_nonneg c (show (((ps.length : Nat) : Int) + 1) ≠ 0 by omega)
      have z2 := Int.emod_lt_of_pos c (show (0 : Int) < ((ps.length : Nat) : Int) + 1 by omega)
      refine ⟨_, rfl, _, rfl, p, _, rfl, .inl hA, _, _, rfl, rfl, _, _, rfl, rfl, (by show (0 : Int) < _; rw [List.length_map]; omega), rfl, (c % (((ps.length : Nat) : Int) + 1)).toNat, by omega, ?_⟩
      rw [Int.toNat_of_nonneg z1, List.length_map]
      rfl
    rintro σ1 H1 ⟨rfl, k, hk, rfl⟩
    have c1 : cutV (ps.map V.int) none (some (k : Int)) = (ps.take k).map V.int := by rw [cut_to (by rw [List.length_map]; exact hk), List.map_take]
    have c2 : cutV (ps.map V.int) (some ((k : Int) + 1)) none = (ps.drop (k + 1)).map V.int := by rw [show (k : Int) + 1 = ((k + 1 : Nat) : Int) by omega, cut_fromA, List.map_drop]
    have c3 : cutV (ps.map V.int) (some (k : Int)) none = (ps.drop k).map V.int := by rw [cut_fromA, List.map_drop]
    have l1 : (ps.take k).length ≤ 4000 := by rw [List.length_take]; omega
    have l2 : ∀ j, (ps.drop j).length ≤ 4000 := fun j => by rw [List.length_drop]; omega
    have l3 : (ps.take k).length + (ps.drop k).length = ps.length := by rw [List.length_take, List.length_drop]; omega
    have l4 : (ps.take k).length + (ps.drop (k + 1)).length ≤ ps.length := by rw [List.length_take, List.length_drop]; omega
    refine ⟨_, rfl, _, _, rfl, rfl, ⟨by decide, by decide⟩, _, _, rfl, rfl, (by show (0 : Int) < 4; decide), ?_⟩
    refine ⟨_, rfl, rfl, _, rfl, itd (fun _ => ?_) (fun _ => ?_)⟩
    · refine ⟨_, rfl, _, rfl, _, rfl, p, _, rfl, hA, fun r hr => kQ r _ (ps.take k) (same_upd hr) ?_ (octs_take hps k) (by omega)⟩
      rw [c1]
      exact upd_same
    refine ⟨_, rfl, rfl, _, rfl, itd (fun _ => ?_) (fun _ => ?_)⟩
    · obtain ⟨b, hb, hb0⟩ : ∃ b : Int, atI [V.int 0, V.int 255, V.int 128, V.int 127] (c / 16384 % 4) = some (V.int b) ∧ 0 ≤ b ∧ b ≤ 255 := by
        have z : c / 16384 % 4 = 0 ∨ c / 16384 % 4 = 1 ∨ c / 16384 % 4 = 2 ∨ c / 16384 % 4 = 3 := by omega
        rcases z with z | z | z | z
        · exact ⟨0, by rw [z]; rfl, by decide, by decide⟩
        · exact ⟨255, by rw [z]; rfl, by decide, by decide⟩
        · exact ⟨128, by rw [z]; rfl, by decide, by decide⟩
        · exact ⟨127, by rw [z]; rfl, by decide, by decide⟩
      refine ⟨_, rfl, _, rfl, _, rfl, p, _, rfl, hA, fun r hr => ?_⟩
      rw [c1]
      have f1 := same_upd (o := .lst ((ps.take k).map V.int)) hr
      refine ⟨(by show 4 ≤ sizeLine; decide), fun tp htp => ⟨_, rfl, _, _, rfl, rfl, ⟨by decide, by decide⟩, _, _, rfl, rfl, (by show (0 : Int) < 4; decide), tp, _, _, _, rfl, rfl, SqT.of upd_same, hb, (by show 1 ≤ sizeLine; decide), fun l hl => ?_⟩⟩
      have f2 := f1.trans (same_upd (o := .tup [V.int 0, V.int 255, V.int 128, V.int 127]) htp)
      have f3 := f2.trans (same_upd (o := .lst [V.int b]) hl)
      have hr3 := same_upd (o := .lst [V.int b]) hl _ _ (same_upd (o := .tup [V.int 0, V.int 255, V.int 128, V.int 127]) htp _ _ (upd_same (H := H) (a := r) (o := .lst ((ps.take k).map V.int))))
      refine ⟨r, l, _, _, rfl, rfl, hr3, upd_same, smallE (by simp; omega), fun q hq => ?_⟩
      have f4 := f3.trans (same_upd (o := .lst ((ps.take k).map V.int ++ [V.int b])) hq)
      refine ⟨_, rfl, _, rfl, _, _, rfl, rfl, _, rfl, p, _, rfl, f4.seq hA, fun r2 hr2 => ?_⟩
      rw [c2]
      refine ⟨q, r2, _, _, rfl, rfl, same_upd hr2 _ _ upd_same, upd_same, smallE (by simp; omega), fun q2 hq2 => kQ q2 _ (ps.take k ++ [b] ++ ps.drop (k + 1)) ((f4.trans (same_upd hr2)).trans (same_upd hq2)) ?_ (octs_app (octs_app (octs_take hps k) (octs_one hb0)) (octs_drop hps _)) (by simp only [List.length_append, List.length_singleton]; omega)⟩
      rw [upd_same, List.map_append, List.map_append]
      rfl
    refine ⟨_, rfl, rfl, _, rfl, itd (fun _ => ?_) (fun _ => ?_)⟩
    · refine ⟨_, rfl, _, rfl, _, rfl, p, _, rfl, hA, fun r hr => ?_⟩
      rw [c1]
      have f1 := same_upd (o := .lst ((ps.take k).map V.int)) hr
      refine ⟨_, rfl, _, _, rfl, rfl, ⟨by decide, by decide⟩, _, _, rfl, rfl, (by show (0 : Int) < 256; decide), (by show 1 ≤ sizeLine; decide), fun l hl => ?_⟩
      have hb0 : 0 ≤ c / 16384 % 256 ∧ c / 16384 % 256 ≤ 255 := ⟨by omega, by omega⟩
      have f3 := f1.trans (same_upd (o := .lst [V.int (c / 16384 % 256)]) hl)
      refine ⟨r, l, _, _, rfl, rfl, same_upd hl _ _ upd_same, upd_same, smallE (by simp; omega), fun q hq => ?_⟩
      have f4 := f3.trans (same_upd (o := .lst ((ps.take k).map V.int ++ [V.int (c / 16384 % 256)])) hq)
      refine ⟨_, rfl, _, rfl, _, rfl, p, _, rfl, f4.seq hA, fun r2 hr2 => ?_⟩
      rw [c3]
      refine ⟨q, r2, _, _, rfl, rfl, same_upd hr2 _ _ upd_same, upd_same, smallE (by simp; omega), fun q2 hq2 => kQ q2 _ (ps.take k ++ [c / 16384 % 256] ++ ps.drop k) ((f4.trans (same_upd hr2)).trans (same_upd hq2)) ?_ (octs_app (octs_app (octs_take hps k) (octs_one hb0)) (octs_drop hps _)) (by simp only [List.length_append, List.length_singleton]; omega)⟩
      rw [upd_same, List.map_append, List.map_append]
      rfl
    · refine ⟨_, rfl, _, rfl, _, rfl, p, _, rfl, hA, fun r hr => ?_⟩
      rw [c1]
      have f1 := same_upd (o := .lst ((ps.take k).map V.int)) hr
      refine ⟨_, rfl, _, rfl, _, _, rfl, rfl, _, rfl, p, _, rfl, f1.seq hA, fun r2 hr2 => ?_⟩
      rw [c2]
      refine ⟨r, r2, _, _, rfl, rfl, same_upd hr2 _ _ upd_same, upd_same, smallE (by simp; omega), fun q2 hq2 => kQ q2 _ (ps.take k ++ ps.drop (k + 1)) ((f1.trans (same_upd hr2)).trans (same_upd hq2)) ?_ (octs_app (octs_take hps k) (octs_drop hps _)) (by simp only [List.length_append]; omega)⟩
      rw [upd_same, List.map_append]

-- @@LAW
theorem ne_no {d e : PyData} {A B : Prop} (h : PyData.eqv d e = true) (hb : B) : ∃ k, V.bl (!PyData.eqv d e) = V.bl k ∧ if k = true then A else B := ⟨_, rfl, by rw [h]; exact iteF hb⟩
theorem eq_yes {d e : PyData} {A B : Prop} (h : PyData.eqv d e = true) (hb : B) : ∃ k, V.bl (PyData.eqv d e) = V.bl k ∧ if k = true then B else A := ⟨_, rfl, by rw [h]; exact iteT hb⟩
theorem octs_cpy : ∀ (n d : Nat) (ex : List Int), octs ex → octs (cpy n d ex)
  | 0, _, _, h => h
  | n + 1, d, ex, h => octs_cpy n d _ (octs_app h (octs_one (by
    by_cases hl : ex.length - d < ex.length
    · exact octs_at h hl
    · rw [List.getD_eq_getElem?_getD, List.getElem?_eq_none (by omega)]
      exact ⟨by decide, by decide⟩)))
theorem octs_xp {ps : List Int} {lim : Int} (hp : octs ps) : ∀ {f at_ : Nat} {ex l : List Int}, octs ex → xp ps lim f at_ ex = .done l → octs l
  | 0, _, _, _, hx, h => by
    cases h
    exact hx
  | f + 1, at_, ex, l, hx, h => by
    rw [xp] at h
    split at h
    · split at h
      · split at h
        · cases h
        · split at h
          · cases h
          · exact octs_xp hp (octs_app hx (octs_take (octs_drop hp _) _)) h
      · split at h
        · cases h
        · split at h
          · cases h
          · split at h
            · cases h
            · exact octs_xp hp (octs_cpy _ _ _ hx) h
    · cases h
      exact hx
theorem allIn_octs {l : List Int} (h : octs l) : allIn 0 255 l = true := by
  unfold allIn
  rw [List.all_eq_true]
  intro x hx
  have z := h x hx
  rw [decide_eq_true z.1, decide_eq_true z.2]
  rfl
/-- what is due -/
def DueAt (H : Hp) (t : Addr) : XR → Prop
  | .wrong e => H t = some (.tup [.str "wrong", .int e])
  | .long => H t = some (.tup [.str "long", .int 0])
  | .done l => ∃ a, H a = some (.lst (l.map V.int)) ∧ H t = some (.tup [.str "done", .ref a])
theorem DueAt.mono {H H' : Hp} {t : Addr} (e : Same H H') : ∀ {R : XR}, DueAt H t R → DueAt H' t R
  | .wrong _, h => e _ _ h
  | .long, h => e _ _ h
  | .done _, ⟨a, h1, h2⟩ => ⟨a, e _ _ h1, e _ _ h2⟩
def spLaw (K : PySem.W.Frag) : Sp := fun vs H Q _ => ∃ (a : Addr) (ns : List Int), vs = [.ref a] ∧ SqL K H a (ns.map V.int) ∧ ns.length ≤ 63 ∧ ∀ H', Q (.bl true) H'
theorem ok_law0 (T : Txt P K mg C_ArchiveError C_TooLong C_PackedError) (f : Addr) (fd : FuncData) (F : Fun K "law" "law" s_law f fd) : FnOk P w K mg base CX0 4 f fd ["script"] (spLaw K) := by
  have G__law_cell := ok__law_cell (P := P) (w := w) (base := base) T
  have G__law_is_list := ok__law_is_list (P := P) (w := w) (base := base) T
  have GH__law_is_int := okH__law_is_int (P := P) (w := w) (base := base) T
  have G__law_packed := ok__law_packed (P := P) (w := w) (base := base) T
  have G__law_expand := ok__law_expand (P := P) (w := w) (base := base) T
  have G__law_spoilt := ok__law_spoilt (P := P) (w := w) (base := base) T
  have G_expand := ok_expand (P := P) (w := w) (base := base) T
  refine F.ok sc_law (fun vs H Q E h => ?_) (fun cdv A outer s H vs Q E hr h => ?_)
  · obtain ⟨a, ns, rfl, _⟩ := h
    rfl
  · obtain ⟨a, ns, rfl, hS, hlen, kQ⟩ := h
    have nd := sc_law.nd
    have hu64 : (A.deeper (envOfC "law" (defScope s_law) s.heap.objs.size f cdv)).units + 64 < cLine := by
      have := hr.un
      omega
    refine ⟨_,       (Evl.pss_cut (ps_set (i := 1) nd rfl (Or.inl rfl) (pe_callO G__law_packed (hr.mono (by decide)) pass0 (pa_cons (pe_slice sl_list (pv 0) (po_some pe_int) (po_some pe_int)) pa_nil)))
      (Evl.pss_cut (ps_if (pt_cmpR op_eq (pe_op op_mod (pe_callO G__law_cell (hr.mono (by decide)) pass0 (pa_cons (pv 0) (pa_cons pe_int pa_nil))) pe_int) pe_int (nomark _))
        (pss_one (ps_set (i := 1) nd rfl (Or.inl rfl) (pe_callO G__law_spoilt (hr.mono (by decide)) pass0 (pa_cons (pv 1) (pa_cons (pe_callO G__law_cell (hr.mono (by decide)) pass0 (pa_cons (pv 0) (pa_cons pe_int pa_nil))) pa_nil))))) pss_nil)
      (Evl.pss_cut (ps_set (i := 2) nd rfl (Or.inl rfl) (pe_callO G__law_expand (hr.mono (by decide)) pass0 (pa_cons (pv 1) (pa_cons pe_int pa_nil))))
      (Evl.pss_cut (ps_set (i := 3) nd rfl (Or.inl rfl) (pe_op op_mod (pe_callO G__law_cell (hr.mono (by decide)) pass0 (pa_cons (pv 0) (pa_cons pe_int pa_nil))) pe_int))
      (Evl.pss_cut (ps_if (pt_cmpR op_eq (pe_ix ix_tup (pv 2) pe_int (fun _ _ => rfl)) pe_str (nomark _))
        (pss_one (ps_set (i := 3) nd rfl (Or.inl rfl) (pe_ix ix_tup (pe_tup (pa_cons (pe_callB call_len_seq (by rfl) T.n_len PySem.boot_len (pa_cons (pe_ix ix_tup (pv 2) pe_int (fun _ _ => rfl)) pa_nil)) (pa_cons (pe_callB (call_max2 rfl) (by rfl) T.n_max (by decide +kernel) (pa_cons pe_int (pa_cons (pe_op op_sub (pe_callB call_len_seq (by rfl) T.n_len PySem.boot_len (pa_cons (pe_ix ix_tup (pv 2) pe_int (fun _ _ => rfl)) pa_nil)) pe_int) pa_nil))) (pa_cons pe_int (pa_cons pe_int pa_nil))))) (pe_op op_mod (pe_op op_fdiv (pe_callO G__law_cell (hr.mono (by decide)) pass0 (pa_cons (pv 0) (pa_cons pe_int pa_nil))) pe_int) pe_int) (fun _ _ => rfl)))) pss_nil)
      (Evl.pss_cut (ps_set (i := 4) nd rfl (Or.inl rfl) (pe_callO G__law_expand (hr.mono (by decide)) pass0 (pa_cons (pv 1) (pa_cons (pv 3) pa_nil))))
      (Evl.pss_cut (ps_set (i := 5) nd rfl (Or.inl rfl) (pe_callTy call_list_of (by rfl) T.n_list (by decide +kernel) (pa_cons (pv 1) pa_nil)))
      (pss_cons (L2N.ps_try_as (i := 7) (Wout := fun _ _ _ _ => False) rfl rfl nd rfl rfl ⟨rfl, by decide, Or.inl T.x_ArchiveError.g⟩ takesN
        (fun W pn xe tk po => 
          (pss_one (ps_set (i := 6) nd rfl (Or.inl rfl) (pe_callT G_expand (hr.mono (by decide)) (fun σ => L2N.passAt tk σ) (pa_cons (pv 5) (pa_cons (pv 3) pa_nil))))))
        (fun a oe cls d pn hz hf => 
          (pss_cons (ps_if (pt_val (pe_callB (OE.call_isB T.o_PackedError.e T.x_TooLong.e hz.zc hf) (by rfl) T.n_isinstance (by decide +kernel) (pa_cons (pv 7) (pa_cons (pe_globR rfl T.x_PackedError.g) pa_nil))))
            (pss_one (ps_ret (pe_and (pe_not (pe_callB (OE.call_isB T.o_PackedError.e T.x_TooLong.e hz.zc hf) (by rfl) T.n_isinstance (by decide +kernel) (pa_cons (pv 7) (pa_cons (pe_globR rfl T.x_TooLong.g) pa_nil)))) (pe_and (pe_callHO GH__law_is_int (roomS hr (by decide)) (hotS hz hf) (pa_cons (pe_xf T.o_PackedError.f T.o_PackedError.n hz.zc hf (pv 7)) pa_nil)) (pe_one (pe_cmpR (op_eqDK (K := K) hu64) (pv 4) (pe_tup (pa_cons pe_str (pa_cons (pe_xf T.o_PackedError.f T.o_PackedError.n hz.zc hf (pv 7)) pa_nil))) (nomark _))))))) pss_nil)
          (pss_one (ps_ret (pe_and (pe_callB (OE.call_isB T.o_PackedError.e T.x_TooLong.e hz.zc hf) (by rfl) T.n_isinstance (by decide +kernel) (pa_cons (pv 7) (pa_cons (pe_globR rfl T.x_TooLong.g) pa_nil))) (pe_one (pe_cmpR op_eq (pe_ix (r := rIxT K) ix_tup (pv 4) pe_int (fun _ _ => rfl)) pe_str (nomark _)))))))))
      (pss_one (ps_ret (pe_and (pe_cmpR op_eq (pe_ix ix_tup (pv 4) pe_int (fun _ _ => rfl)) pe_str (nomark _)) (pe_and (pe_callO G__law_is_list (hr.mono (by decide)) pass0 (pa_cons (pv 6) (pa_cons pe_int (pa_cons pe_int pa_nil)))) (pe_and (pe_cmpR (op_eqD hu64) (pv 6) (pe_ix ix_tup (pv 4) pe_int (fun _ _ => rfl)) (nomark _)) (pe_one (pe_cmpR (op_eqD hu64) (pv 5) (pv 1) (nomark _)))))))))))))))), ?_⟩
    -- packed
    refine ⟨fun σ' H' => Same H H' ∧ ∃ (p1 : Addr) (ps : List Int), octs ps ∧ ps.length ≤ 4000 ∧ H' p1 = some (.lst (ps.map V.int)) ∧ σ' = [some (.ref a), some (.ref p1), none, none, none, none, none, none], ?_, ?_⟩
    · obtain ⟨cs, hcs, hcl⟩ : ∃ cs : List Int, cutV (ns.map V.int) (some 3) (some 33) = cs.map V.int ∧ cs.length ≤ 30 := by
        refine ⟨(ns.drop (HT.sIx (ns.map V.int).length 0 (some 3))).take (HT.sIx (ns.map V.int).length (ns.map V.int).length (some 33) - HT.sIx (ns.map V.int).length 0 (some 3)), ?_, ?_⟩
        · unfold cutV
          rw [List.map_take, List.map_drop]
        · rw [List.length_take]
          have e1 : HT.sIx (ns.map V.int).length (ns.map V.int).length (some 33) = min 33 (ns.map V.int).length := HT.sIx_nat _ _ 33
          have e2 : HT.sIx (ns.map V.int).length 0 (some 3) = min 3 (ns.map V.int).length := HT.sIx_nat _ _ 3
          rw [e1, e2]
          omega
      refine ⟨_, rfl, _, rfl, _, rfl, a, _, rfl, hS, fun r hr => ?_⟩
      rw [hcs]
      exact ⟨r, cs, rfl, SqL.of upd_same, hcl, fun p1 H1 ps e1 h1 ho hl => ⟨(same_upd hr).trans e1, p1, ps, ho, hl, h1, rfl⟩⟩
    rintro σ0 H0 ⟨e0, p0, ps0, ho0, hl0, h0, rfl⟩
    have hS0 := e0.seq hS
    -- if .. spoilt
    refine ⟨fun σ' H' => Same H0 H' ∧ ∃ (p1 : Addr) (ps : List Int), octs ps ∧ ps.length ≤ 5000 ∧ H' p1 = some (.lst (ps.map V.int)) ∧ σ' = [some (.ref a), some (.ref p1), none, none, none, none, none, none], ?_, ?_⟩
    · refine ⟨_, rfl, a, ns, 0, rfl, hS0, _, _, rfl, rfl, (by show (0 : Int) < 2; decide), rfl, _, rfl, itd (fun _ => ?_) (fun _ => ⟨Same.refl _, p0, ps0, ho0, by omega, h0, rfl⟩)⟩
      exact ⟨_, rfl, _, rfl, a, ns, 1, rfl, hS0, p0, ps0, cell ns 1, rfl, SqL.of h0, hl0, ho0, fun p1 H1 qs e1 h1 ho hl => ⟨e1, p1, qs, ho, hl, h1, rfl⟩⟩
    clear h0 ho0 hl0
    rintro σ1 H1 ⟨e1, p1, ps, hps, hpl, h1, rfl⟩
    have hS1 := e1.seq hS0
    -- whole
    refine ⟨fun σ' H' => Same H1 H' ∧ ∃ (tw : Addr) (R : XR), DueAt H' tw R ∧ σ' = [some (.ref a), some (.ref p1), some (.ref tw), none, none, none, none, none], ?_, ?_⟩
    · exact ⟨_, rfl, p1, ps, 1000000, rfl, SqL.of h1, by omega, hps, fun e he t H' e' hT => ⟨e', t, .wrong e, hT, rfl⟩, fun _ t H' e' hT => ⟨e', t, .long, hT, rfl⟩, fun l hl t b H' e' hb hT => ⟨e', t, .done l, ⟨b, hb, hT⟩, rfl⟩⟩
    rintro σ2 H2 ⟨e2, tw, RW, hW, rfl⟩
    have hS2 := e2.seq hS1
    -- limit
    refine ⟨fun σ' H' => H2 = H' ∧ ∃ lim : Int, σ' = [some (.ref a), some (.ref p1), some (.ref tw), some (.int lim), none, none, none, none], ?_, ?_⟩
    · exact ⟨_, rfl, a, ns, 2, rfl, hS2, _, _, rfl, rfl, (by show (0 : Int) < 9000; decide), rfl, _, rfl⟩
    rintro σ3 H3 ⟨rfl, lim0, rfl⟩
    refine ⟨fun σ' H' => Same H2 H' ∧ ∃ lim : Int, σ' = [some (.ref a), some (.ref p1), some (.ref tw), some (.int lim), none, none, none, none], ?_, ?_⟩
    · cases RW with
      | wrong e => exact ⟨_, rfl, tw, _, _, V.str "wrong", rfl, rfl, SqT.of hW, rfl, rfl, _, rfl, itd (fun h => absurd h (by decide)) (fun _ => ⟨Same.refl _, lim0, rfl⟩)⟩
      | long => exact ⟨_, rfl, tw, _, _, V.str "long", rfl, rfl, SqT.of hW, rfl, rfl, _, rfl, itd (fun h => absurd h (by decide)) (fun _ => ⟨Same.refl _, lim0, rfl⟩)⟩
      | done l =>
        obtain ⟨r, hr, hT⟩ := hW
        refine ⟨_, rfl, tw, _, _, V.str "done", rfl, rfl, SqT.of hT, rfl, rfl, _, rfl, itd (fun _ => ?_) (fun h => absurd rfl h)⟩
        refine ⟨_, rfl, tw, _, _, V.ref r, rfl, rfl, SqT.of hT, rfl, r, _, rfl, .inl (SqL.of hr), _, rfl, tw, _, _, V.ref r, rfl, rfl, SqT.of hT, rfl, r, _, rfl, .inl (SqL.of hr), _, _, rfl, rfl, _, _, rfl, (by show 4 ≤ sizeLine; decide), fun u hu => ?_⟩
        have eu := same_upd (o := .tup [V.int (((l.map V.int).length : Nat) : Int), V.int (if 0 < (((l.map V.int).length : Nat) : Int) - 1 then (((l.map V.int).length : Nat) : Int) - 1 else 0), V.int 0, V.int 9000]) hu
        obtain ⟨b, hb⟩ : ∃ b : Int, atI [V.int (((l.map V.int).length : Nat) : Int), V.int (if 0 < (((l.map V.int).length : Nat) : Int) - 1 then (((l.map V.int).length : Nat) : Int) - 1 else 0), V.int 0, V.int 9000] (cell ns 0 / 2 % 4) = some (V.int b) := by
          have z : cell ns 0 / 2 % 4 = 0 ∨ cell ns 0 / 2 % 4 = 1 ∨ cell ns 0 / 2 % 4 = 2 ∨ cell ns 0 / 2 % 4 = 3 := by omega
          rcases z with z | z | z | z
          · exact ⟨_, by rw [z]; rfl⟩
          · exact ⟨_, by rw [z]; rfl⟩
          · exact ⟨_, by rw [z]; rfl⟩
          · exact ⟨_, by rw [z]; rfl⟩
        exact ⟨_, rfl, a, ns, 0, rfl, eu.seq hS2, _, _, rfl, rfl, ⟨by decide, by decide⟩, _, _, rfl, rfl, (by show (0 : Int) < 4; decide), u, _, _, _, rfl, rfl, SqT.of upd_same, hb, eu, b, rfl⟩
    clear hW lim0
    rintro σ4 H4 ⟨e4, lim, rfl⟩
    have h14 := (e2.trans e4) _ _ h1
    -- due
    refine ⟨fun σ' H' => Same H4 H' ∧ ∃ td : Addr, DueAt H' td (xp ps lim ps.length 0 []) ∧ σ' = [some (.ref a), some (.ref p1), some (.ref tw), some (.int lim), some (.ref td), none, none, none], ?_, ?_⟩
    · refine ⟨_, rfl, _, rfl, p1, ps, lim, rfl, SqL.of h14, by omega, hps, fun e he t H' e' hT => ⟨e', t, ?_, rfl⟩, fun he t H' e' hT => ⟨e', t, ?_, rfl⟩, fun l he t b H' e' hb hT => ⟨e', t, ?_, rfl⟩⟩
      · rw [he]
        exact hT
      · rw [he]
        exact hT
      · rw [he]
        exact ⟨b, hb, hT⟩
    rintro σ5 H5 ⟨e5, td, hD, rfl⟩
    have h15 := e5 _ _ h14
    -- copy
    refine ⟨fun σ' H' => Same H5 H' ∧ ∃ pc : Addr, H' pc = some (.lst (ps.map V.int)) ∧ σ' = [some (.ref a), some (.ref p1), some (.ref tw), some (.int lim), some (.ref td), some (.ref pc), none, none], ?_, ?_⟩
    · exact ⟨_, rfl, p1, _, rfl, .inl (SqL.of h15), fun pc hpc => ⟨same_upd hpc, pc, upd_same, rfl⟩⟩
    rintro σ6 H6 ⟨e6, pc, hC, rfl⟩
    have h16 := e6 _ _ h15
    have hD6 := hD.mono e6
    refine ⟨_, rfl, _, rfl, pc, ps, lim, rfl, SqL.of hC, by omega, hps, fun er her d H7 e7 hd => ?_, fun hlong H7 e7 => ?_, fun l hl aL H7 e7 hL => ?_⟩
    · rw [her] at hD6
      refine ⟨true, exm_own T.x_ArchiveError.toXB T.s_PackedError_ArchiveError, fun _ ea hea => ?_, fun q => nomatch q⟩
      have hxd : upd H7 d (.xd [("position", .int er)]) d = some (.xd [("position", .int er)]) := upd_same
      have hDx := same_upd (o := .xd [("position", .int er)]) hd _ _ (e7 _ _ hD6)
      refine ⟨_, rfl, .inl ⟨_, _, true, d, _, rfl, rfl, fun _ h => h, T.q_PackedError_PackedError, rfl, hxd, true, rfl, iteT ?_⟩⟩
      refine ⟨_, rfl, .inl ⟨_, _, false, d, _, rfl, rfl, fun _ h => h, T.q_PackedError_TooLong, rfl, hxd, false, rfl, true, rfl, iteT ?_⟩⟩
      refine ⟨_, rfl, rfl, rfl, d, _, V.int er, rfl, hxd, rfl, er, rfl, true, rfl, iteT ?_⟩
      have hsh : SeqAt.shaped (.tuple [.str "wrong", .int er]) = true := by
        simp [SeqAt.shaped, PyData.canLay0, PyData.canLayAll0, PyData.depth, PyData.depthAll]
        first | decide | rfl | decide +kernel | kernel_rfl
      refine ⟨_, rfl, _, rfl, rfl, rfl, d, _, V.int er, rfl, hxd, rfl, (by show 2 ≤ sizeLine; decide), fun u hu => ⟨_, _, .tup (SqT.of (same_upd hu _ _ hDx)) (.cons (.str _) (.cons (.int er) .nil)), .tup (SqT.of upd_same) (.cons (.str _) (.cons (.int er) .nil)), hsh, hsh, ?_⟩⟩
      exact to_true (Q := Q) (eqv_refl' hsh) (kQ _)
    · rw [hlong] at hD6
      refine ⟨true, exm_own T.x_ArchiveError.toXB T.s_TooLong_ArchiveError, fun _ ea hea => ?_, fun q => nomatch q⟩
      have hDx := e7 _ _ hD6
      refine ⟨_, rfl, .inr ⟨_, _, false, rfl, rfl, rfl, fun _ h => h, T.q_TooLong_PackedError, false, rfl, iteF ?_⟩⟩
      refine ⟨_, rfl, .inr ⟨_, _, true, rfl, rfl, rfl, fun _ h => h, T.q_TooLong_TooLong, true, rfl, iteT ?_⟩⟩
      exact ⟨_, rfl, td, _, _, V.str "long", rfl, rfl, SqT.of hDx, rfl, rfl, to_true (Q := Q) (decide_eq_true rfl) (kQ _)⟩
    · rw [hl] at hD6
      obtain ⟨r, hr, hT⟩ := hD6.mono e7
      refine ⟨_, rfl, td, _, _, V.str "done", rfl, rfl, SqT.of hT, rfl, rfl, _, rfl, itd (fun _ => ?_) (fun h => absurd rfl h)⟩
      refine ⟨_, rfl, aL, l, 0, 255, rfl, SqL.of hL, ?_⟩
      rw [allIn_octs (octs_xp hps (show octs [] from fun o ho => by cases ho) hl)]
      refine ⟨true, rfl, iteT ?_⟩
      refine ⟨_, rfl, _, rfl, td, _, _, V.ref r, rfl, rfl, SqT.of hT, rfl, _, _, dp_list (SqL.of hL), dp_list (SqL.of hr), shaped_ints _, shaped_ints _, eq_yes (eqv_refl' (shaped_ints _)) ?_⟩
      refine ⟨_, rfl, _, rfl, _, _, dp_list (SqL.of (e7 _ _ hC)), dp_list (SqL.of (e7 _ _ h16)), shaped_ints _, shaped_ints _, ?_⟩
      exact to_true (Q := Q) (eqv_refl' (shaped_ints _)) (kQ _)

end
theorem law_mk {P : Program} {w : World} {K : PySem.W.Frag} {mg : Str → Option Value} {C_ArchiveError C_TooLong C_PackedError : Addr} {C_fa : Addr} (T : Txt P K mg C_ArchiveError C_TooLong C_PackedError) (hfa : mg "law" = some (.ref C_fa)) : ∃ fd : FuncData, (∀ (s : Shared) (v : Value), BindsTo s fd ⟨[v], []⟩ [("script", v)]) ∧ ∀ base : Heap, K.In base → base.Ns mainGlobals mg → FnOk P w K mg base CX0 4 C_fa fd ["script"] (spLaw K) := by
  obtain ⟨f, fd, F, g, b⟩ := id T.d_law
  have e := hfa.symm.trans g
  cases e
  refine ⟨fd, fun s v => ?_, fun base _ _ => ?_⟩
  · obtain ⟨oc, od, kV, doc, pm, an, cdv, ct, osl, rfl, lk, hcd⟩ := F.ex
    exact .of_eq rfl
  · exact ok_law0 T _ fd F
theorem law_end {P : Program} {w : World} {K : PySem.W.Frag} {h : Heap} {mg : Str → Option Value} {fa : Addr} {C_ArchiveError C_TooLong C_PackedError : Addr} {f_expand : Addr} {oc_expand kV_expand dc_expand pm_expand cd_expand ct_expand : Value} {od_expand an_expand : Option Addr} {sl_expand : Array (Option Value)} {f__law_cell : Addr} {oc__law_cell kV__law_cell dc__law_cell pm__law_cell cd__law_cell ct__law_cell : Value} {od__law_cell an__law_cell : Option Addr} {sl__law_cell : Array (Option Value)} {f__law_mix : Addr} {oc__law_mix kV__law_mix dc__law_mix pm__law_mix cd__law_mix ct__law_mix : Value} {od__law_mix an__law_mix : Option Addr} {sl__law_mix : Array (Option Value)} {f__law_row : Addr} {oc__law_row kV__law_row dc__law_row pm__law_row cd__law_row ct__law_row : Value} {od__law_row an__law_row : Option Addr} {sl__law_row : Array (Option Value)} {f__law_is_int : Addr} {oc__law_is_int kV__law_is_int dc__law_is_int pm__law_is_int cd__law_is_int ct__law_is_int : Value} {od__law_is_int an__law_is_int : Option Addr} {sl__law_is_int : Array (Option Value)} {f__law_is_list : Addr} {oc__law_is_list kV__law_is_list dc__law_is_list pm__law_is_list cd__law_is_list ct__law_is_list : Value} {od__law_is_list an__law_is_list : Option Addr} {sl__law_is_list : Array (Option Value)} {f__law_packed : Addr} {oc__law_packed kV__law_packed dc__law_packed pm__law_packed cd__law_packed ct__law_packed : Value} {od__law_packed an__law_packed : Option Addr} {sl__law_packed : Array (Option Value)} {f__law_expand : Addr} {oc__law_expand kV__law_expand dc__law_expand pm__law_expand cd__law_expand ct__law_expand : Value} {od__law_expand an__law_expand : Option Addr} {sl__law_expand : Array (Option Value)} {f__law_spoilt : Addr} {oc__law_spoilt kV__law_spoilt dc__law_spoilt pm__law_spoilt cd__law_spoilt ct__law_spoilt : Value} {od__law_spoilt an__law_spoilt : Option Addr} {sl__law_spoilt : Array (Option Value)} {f_law : Addr} {oc_law kV_law dc_law pm_law cd_law ct_law : Value} {od_law an_law : Option Addr} {sl_law : Array (Option Value)} {t_FIRST_COPY : Tok} {t_SHORTEST_COPY : Tok} {fI_PackedError cc_PackedError cda_PackedError NN_PackedError : Addr} {file_PackedError nm_PackedError q_PackedError : Str} {bs_PackedError bm_PackedError sub_PackedError : List Value} {sn_PackedError : List Str} {ab_PackedError : Bool} {col_PackedError : Option Bool} {dd_PackedError od_PackedError an_PackedError cdd_PackedError cld_PackedError : Option Addr} {k0_PackedError k1_PackedError k2_PackedError k3_PackedError k5_PackedError : Option Value} {kV_PackedError doc_PackedError pm_PackedError ct_PackedError oc_PackedError ccl_PackedError cl_PackedError : Value} {sl_PackedError ccs_PackedError csl_PackedError : Array (Option Value)} {vs_PackedError : Array Value} {tf_PackedError : Tok} (X : K.In h) (G : h.Ns mainGlobals mg) (hfa : mg "law" = some (.ref fa))
    (a_expand : PySem.W.nsIn K mainGlobals "expand" = some (some (.ref f_expand)))
    (l_expand : K.lookup f_expand = some ⟨oc_expand, od_expand, .func (PySem.W.fnOf "expand" "expand" (defArgs s_expand) (defBody s_expand) (defScope s_expand) .none kV_expand dc_expand pm_expand an_expand cd_expand ct_expand), sl_expand⟩)
    (c_expand : PySem.W.codeIn K cd_expand "expand" = true)
    (k_expand : PySem.W.keepIn K (.ref f_expand) = true)
    (a__law_cell : PySem.W.nsIn K mainGlobals "_law_cell" = some (some (.ref f__law_cell)))
    (l__law_cell : K.lookup f__law_cell = some ⟨oc__law_cell, od__law_cell, .func (PySem.W.fnOf "_law_cell" "_law_cell" (defArgs s__law_cell) (defBody s__law_cell) (defScope s__law_cell) .none kV__law_cell dc__law_cell pm__law_cell an__law_cell cd__law_cell ct__law_cell), sl__law_cell⟩)
    (c__law_cell : PySem.W.codeIn K cd__law_cell "_law_cell" = true)
    (k__law_cell : PySem.W.keepIn K (.ref f__law_cell) = true)
    (a__law_mix : PySem.W.nsIn K mainGlobals "_law_mix" = some (some (.ref f__law_mix)))
    (l__law_mix : K.lookup f__law_mix = some ⟨oc__law_mix, od__law_mix, .func (PySem.W.fnOf "_law_mix" "_law_mix" (defArgs s__law_mix) (defBody s__law_mix) (defScope s__law_mix) .none kV__law_mix dc__law_mix pm__law_mix an__law_mix cd__law_mix ct__law_mix), sl__law_mix⟩)
    (c__law_mix : PySem.W.codeIn K cd__law_mix "_law_mix" = true)
    (k__law_mix : PySem.W.keepIn K (.ref f__law_mix) = true)
    (a__law_row : PySem.W.nsIn K mainGlobals "_law_row" = some (some (.ref f__law_row)))
    (l__law_row : K.lookup f__law_row = some ⟨oc__law_row, od__law_row, .func (PySem.W.fnOf "_law_row" "_law_row" (defArgs s__law_row) (defBody s__law_row) (defScope s__law_row) .none kV__law_row dc__law_row pm__law_row an__law_row cd__law_row ct__law_row), sl__law_row⟩)
    (c__law_row : PySem.W.codeIn K cd__law_row "_law_row" = true)
    (k__law_row : PySem.W.keepIn K (.ref f__law_row) = true)
    (a__law_is_int : PySem.W.nsIn K mainGlobals "_law_is_int" = some (some (.ref f__law_is_int)))
    (l__law_is_int : K.lookup f__law_is_int = some ⟨oc__law_is_int, od__law_is_int, .func (PySem.W.fnOf "_law_is_int" "_law_is_int" (defArgs s__law_is_int) (defBody s__law_is_int) (defScope s__law_is_int) .none kV__law_is_int dc__law_is_int pm__law_is_int an__law_is_int cd__law_is_int ct__law_is_int), sl__law_is_int⟩)
    (c__law_is_int : PySem.W.codeIn K cd__law_is_int "_law_is_int" = true)
    (k__law_is_int : PySem.W.keepIn K (.ref f__law_is_int) = true)
    (a__law_is_list : PySem.W.nsIn K mainGlobals "_law_is_list" = some (some (.ref f__law_is_list)))
    (l__law_is_list : K.lookup f__law_is_list = some ⟨oc__law_is_list, od__law_is_list, .func (PySem.W.fnOf "_law_is_list" "_law_is_list" (defArgs s__law_is_list) (defBody s__law_is_list) (defScope s__law_is_list) .none kV__law_is_list dc__law_is_list pm__law_is_list an__law_is_list cd__law_is_list ct__law_is_list), sl__law_is_list⟩)
    (c__law_is_list : PySem.W.codeIn K cd__law_is_list "_law_is_list" = true)
    (k__law_is_list : PySem.W.keepIn K (.ref f__law_is_list) = true)
    (a__law_packed : PySem.W.nsIn K mainGlobals "_law_packed" = some (some (.ref f__law_packed)))
    (l__law_packed : K.lookup f__law_packed = some ⟨oc__law_packed, od__law_packed, .func (PySem.W.fnOf "_law_packed" "_law_packed" (defArgs s__law_packed) (defBody s__law_packed) (defScope s__law_packed) .none kV__law_packed dc__law_packed pm__law_packed an__law_packed cd__law_packed ct__law_packed), sl__law_packed⟩)
    (c__law_packed : PySem.W.codeIn K cd__law_packed "_law_packed" = true)
    (k__law_packed : PySem.W.keepIn K (.ref f__law_packed) = true)
    (a__law_expand : PySem.W.nsIn K mainGlobals "_law_expand" = some (some (.ref f__law_expand)))
    (l__law_expand : K.lookup f__law_expand = some ⟨oc__law_expand, od__law_expand, .func (PySem.W.fnOf "_law_expand" "_law_expand" (defArgs s__law_expand) (defBody s__law_expand) (defScope s__law_expand) .none kV__law_expand dc__law_expand pm__law_expand an__law_expand cd__law_expand ct__law_expand), sl__law_expand⟩)
    (c__law_expand : PySem.W.codeIn K cd__law_expand "_law_expand" = true)
    (k__law_expand : PySem.W.keepIn K (.ref f__law_expand) = true)
    (a__law_spoilt : PySem.W.nsIn K mainGlobals "_law_spoilt" = some (some (.ref f__law_spoilt)))
    (l__law_spoilt : K.lookup f__law_spoilt = some ⟨oc__law_spoilt, od__law_spoilt, .func (PySem.W.fnOf "_law_spoilt" "_law_spoilt" (defArgs s__law_spoilt) (defBody s__law_spoilt) (defScope s__law_spoilt) .none kV__law_spoilt dc__law_spoilt pm__law_spoilt an__law_spoilt cd__law_spoilt ct__law_spoilt), sl__law_spoilt⟩)
    (c__law_spoilt : PySem.W.codeIn K cd__law_spoilt "_law_spoilt" = true)
    (k__law_spoilt : PySem.W.keepIn K (.ref f__law_spoilt) = true)
    (a_law : PySem.W.nsIn K mainGlobals "law" = some (some (.ref f_law)))
    (l_law : K.lookup f_law = some ⟨oc_law, od_law, .func (PySem.W.fnOf "law" "law" (defArgs s_law) (defBody s_law) (defScope s_law) .none kV_law dc_law pm_law an_law cd_law ct_law), sl_law⟩)
    (c_law : PySem.W.codeIn K cd_law "law" = true)
    (k_law : PySem.W.keepIn K (.ref f_law) = true)
    (a_FIRST_COPY : PySem.W.nsIn K mainGlobals "FIRST_COPY" = some (some (.int 128 t_FIRST_COPY)))
    (a_SHORTEST_COPY : PySem.W.nsIn K mainGlobals "SHORTEST_COPY" = some (some (.int 3 t_SHORTEST_COPY)))
    (z_len : PySem.W.nsIn K mainGlobals "len" = some none)
    (z_range : PySem.W.nsIn K mainGlobals "range" = some none)
    (z_int : PySem.W.nsIn K mainGlobals "int" = some none)
    (z_abs : PySem.W.nsIn K mainGlobals "abs" = some none)
    (z_isinstance : PySem.W.nsIn K mainGlobals "isinstance" = some none)
    (z_bool : PySem.W.nsIn K mainGlobals "bool" = some none)
    (z_list : PySem.W.nsIn K mainGlobals "list" = some none)
    (z_min : PySem.W.nsIn K mainGlobals "min" = some none)
    (z_max : PySem.W.nsIn K mainGlobals "max" = some none)
    (a_ArchiveError : PySem.W.nsIn K mainGlobals "ArchiveError" = some (some (.ref C_ArchiveError)))
    (x_ArchiveError : PySem.W.excIn K C_ArchiveError [.type "ValueError", .type "Exception", .type "BaseException", .type "object"] "ValueError.__new__" = true)
    (k_ArchiveError : PySem.W.keepIn K (.ref C_ArchiveError) = true)
    (b_ArchiveError : PySem.W.subIn K (.ref C_ArchiveError) (.type "BaseException") = some true)
    (t_ArchiveError : PySem.W.typeIn K (.ref C_ArchiveError) = some (.type "type"))
    (g_ArchiveError : PySem.W.findIn K (.ref C_ArchiveError) "__getattribute__" = some (some (.builtin "BaseException.__getattribute__")))
    (h_ArchiveError : PySem.W.findIn K (.ref C_ArchiveError) "__getattr__" = some none)
    (d_ArchiveError : PySem.W.hasDictIn K C_ArchiveError = true)
    (o_ArchiveError : PySem.W.findIn K (.ref C_ArchiveError) "__class__" = some (some (.builtin "object.__class__")))
    (n_ArchiveError : PySem.W.specialIn K (.builtin "object.__class__") "__get__" = some (some (.builtin "getset_descriptor.__get__")))
    (m_ArchiveError : PySem.W.takesIn K (.builtin "object.__class__") = some true)
    (r_ArchiveError : PySem.W.mroIn K C_ArchiveError (.type "object") = some true)
    (i_ArchiveError : PySem.W.isClsIn K C_ArchiveError = true)
    (a_TooLong : PySem.W.nsIn K mainGlobals "TooLong" = some (some (.ref C_TooLong)))
    (x_TooLong : PySem.W.excIn K C_TooLong [.type "ValueError", .type "Exception", .type "BaseException", .type "object"] "ValueError.__new__" = true)
    (k_TooLong : PySem.W.keepIn K (.ref C_TooLong) = true)
    (b_TooLong : PySem.W.subIn K (.ref C_TooLong) (.type "BaseException") = some true)
    (t_TooLong : PySem.W.typeIn K (.ref C_TooLong) = some (.type "type"))
    (g_TooLong : PySem.W.findIn K (.ref C_TooLong) "__getattribute__" = some (some (.builtin "BaseException.__getattribute__")))
    (h_TooLong : PySem.W.findIn K (.ref C_TooLong) "__getattr__" = some none)
    (d_TooLong : PySem.W.hasDictIn K C_TooLong = true)
    (o_TooLong : PySem.W.findIn K (.ref C_TooLong) "__class__" = some (some (.builtin "object.__class__")))
    (n_TooLong : PySem.W.specialIn K (.builtin "object.__class__") "__get__" = some (some (.builtin "getset_descriptor.__get__")))
    (m_TooLong : PySem.W.takesIn K (.builtin "object.__class__") = some true)
    (r_TooLong : PySem.W.mroIn K C_TooLong (.type "object") = some true)
    (i_TooLong : PySem.W.isClsIn K C_TooLong = true)
    (a_PackedError : PySem.W.nsIn K mainGlobals "PackedError" = some (some (.ref C_PackedError)))
    (k_PackedError : PySem.W.keepIn K (.ref C_PackedError) = true)
    (b_PackedError : PySem.W.subIn K (.ref C_PackedError) (.type "BaseException") = some true)
    (t_PackedError : PySem.W.typeIn K (.ref C_PackedError) = some (.type "type"))
    (d_PackedError : PySem.W.hasDictIn K C_PackedError = true)
    (i_PackedError : PySem.W.isClsIn K C_PackedError = true)
    (ea_PackedError : PySem.W.nsIn K mainGlobals "PackedError" = some (some (.ref C_PackedError)))
    (ei_PackedError : PySem.W.findIn K (.ref C_PackedError) "__init__" = some (some (.ref fI_PackedError)))
    (et_PackedError : PySem.W.typeIn K (.ref fI_PackedError) = some (.type "function"))
    (el_PackedError : K.lookup fI_PackedError = some ⟨oc_PackedError, od_PackedError, .func (PySem.W.fnX "__init__" "PackedError.__init__" (defArgs s_PackedError___init__) (defBody s_PackedError___init__) (defScope s_PackedError___init__) [("__class__", cc_PackedError)] .none kV_PackedError doc_PackedError pm_PackedError an_PackedError (.ref cda_PackedError) ct_PackedError), sl_PackedError⟩)
    (ec_PackedError : PySem.W.codeIn K (.ref cda_PackedError) "PackedError.__init__" = true)
    (ef_PackedError : K.lookup cda_PackedError = some ⟨ccl_PackedError, cdd_PackedError, .fields vs_PackedError, ccs_PackedError⟩)
    (efv_PackedError : vs_PackedError[2]? = some (.str file_PackedError tf_PackedError))
    (eff_PackedError : ((P.main.file : Str) == file_PackedError) = true)
    (ece_PackedError : K.lookup cc_PackedError = some ⟨cl_PackedError, cld_PackedError, .cell (some (.ref C_PackedError)), csl_PackedError⟩)
    (exL_PackedError : K.lookup C_PackedError = some (excClassObj nm_PackedError q_PackedError C_PackedError NN_PackedError bs_PackedError bm_PackedError true sn_PackedError sub_PackedError ab_PackedError col_PackedError dd_PackedError k0_PackedError k1_PackedError k2_PackedError k3_PackedError k5_PackedError "ValueError.__new__"))
    (exb_PackedError : PySem.HandSPX.refsVE bm_PackedError = true)
    (esa_PackedError : PySem.W.findIn K (.ref C_PackedError) "__setattr__" = some (some (.builtin "object.__setattr__")))
    (eb_PackedError : PySem.W.subIn K (.ref C_PackedError) (.type "BaseException") = some true)
    (etc_PackedError : PySem.W.typeIn K (.ref C_PackedError) = some (.type "type"))
    (ek_PackedError : PySem.W.keepIn K (.ref C_PackedError) = true)
    (ese_PackedError : PySem.W.mroIn K C_PackedError (.ref C_PackedError) = some true)
    (esu_PackedError : PySem.W.nsIn K mainGlobals "super" = some none)
    (eop_PackedError : PySem.W.nsIn K cStatics "thirdparty.any" = some none)
    (enx_PackedError : PySem.W.ks_superIn K C_PackedError C_PackedError "__init__" = some (some (.builtin "ValueError.__init__")))
    (eve_PackedError : PySem.W.subIn K (.ref C_PackedError) (.type "ValueError") = some true)
    (etp_PackedError : (P.main.scope.names.lookup ("super" : Str)).isSome = false)
    (efl_PackedError : PySem.W.findIn K (.ref C_PackedError) "position" = some none)
    (ega_PackedError : PySem.W.findIn K (.ref C_PackedError) "__getattribute__" = some (some (.builtin "BaseException.__getattribute__")))
    (egg_PackedError : PySem.W.findIn K (.ref C_PackedError) "__getattr__" = some none)
    (ehd_PackedError : PySem.W.hasDictIn K C_PackedError = true)
    (eha_PackedError : PySem.W.findIn K (.ref C_PackedError) "__class__" = some (some (.builtin "object.__class__")))
    (ehn_PackedError : PySem.W.specialIn K (.builtin "object.__class__") "__get__" = some (some (.builtin "getset_descriptor.__get__")))
    (eht_PackedError : PySem.W.takesIn K (.builtin "object.__class__") = some true)
    (ehm_PackedError : PySem.W.mroIn K C_PackedError (.type "object") = some true)
    (hs_TooLong_ArchiveError : PySem.W.subIn K (.ref C_TooLong) (.ref C_ArchiveError) = some true)
    (hq_TooLong_TooLong : PySem.W.subIn K (.ref C_TooLong) (.ref C_TooLong) = some true)
    (hq_TooLong_PackedError : PySem.W.subIn K (.ref C_TooLong) (.ref C_PackedError) = some false)
    (he_TooLong_PackedError : (Value.ref C_TooLong == Value.ref C_PackedError) = false)
    (hs_PackedError_ArchiveError : PySem.W.subIn K (.ref C_PackedError) (.ref C_ArchiveError) = some true)
    (hq_PackedError_TooLong : PySem.W.subIn K (.ref C_PackedError) (.ref C_TooLong) = some false)
    (he_PackedError_TooLong : (Value.ref C_PackedError == Value.ref C_TooLong) = false)
    (hq_PackedError_PackedError : PySem.W.subIn K (.ref C_PackedError) (.ref C_PackedError) = some true)
    : ∃ fd : FuncData, (∀ (s : Shared) (v : Value), BindsTo s fd ⟨[v], []⟩ [("script", v)]) ∧ ∀ base : Heap, K.In base → base.Ns mainGlobals mg → FnOk P w K mg base CX0 4 fa fd ["script"] (spLaw K) :=
  law_mk (T := ⟨dn_mk X G a_expand l_expand c_expand k_expand (fun _ _ _ _ _ _ us hl => match us, hl with | [_, _], _ => rfl),
    dn_mk X G a__law_cell l__law_cell c__law_cell k__law_cell (fun _ _ _ _ _ _ us hl => match us, hl with | [_, _], _ => rfl),
    dn_mk X G a__law_mix l__law_mix c__law_mix k__law_mix (fun _ _ _ _ _ _ us hl => match us, hl with | [_, _], _ => rfl),
    dn_mk X G a__law_row l__law_row c__law_row k__law_row (fun _ _ _ _ _ _ us hl => match us, hl with | [_, _, _], _ => rfl),
    dn_mk X G a__law_is_int l__law_is_int c__law_is_int k__law_is_int (fun _ _ _ _ _ _ us hl => match us, hl with | [_], _ => rfl),
    dn_mk X G a__law_is_list l__law_is_list c__law_is_list k__law_is_list (fun _ _ _ _ _ _ us hl => match us, hl with | [_, _, _], _ => rfl),
    dn_mk X G a__law_packed l__law_packed c__law_packed k__law_packed (fun _ _ _ _ _ _ us hl => match us, hl with | [_], _ => rfl),
    dn_mk X G a__law_expand l__law_expand c__law_expand k__law_expand (fun _ _ _ _ _ _ us hl => match us, hl with | [_, _], _ => rfl),
    dn_mk X G a__law_spoilt l__law_spoilt c__law_spoilt k__law_spoilt (fun _ _ _ _ _ _ us hl => match us, hl with | [_, _], _ => rfl),
    dn_mk X G a_law l_law c_law k_law (fun _ _ _ _ _ _ us hl => match us, hl with | [_], _ => rfl),
    cv_int X G a_FIRST_COPY,
    cv_int X G a_SHORTEST_COPY,
    PySem.W.mg_none_of X G z_len,
    PySem.W.mg_none_of X G z_range,
    PySem.W.mg_none_of X G z_int,
    PySem.W.mg_none_of X G z_abs,
    PySem.W.mg_none_of X G z_isinstance,
    PySem.W.mg_none_of X G z_bool,
    PySem.W.mg_none_of X G z_list,
    PySem.W.mg_none_of X G z_min,
    PySem.W.mg_none_of X G z_max,
    xcl_mk X G a_ArchiveError x_ArchiveError k_ArchiveError b_ArchiveError t_ArchiveError g_ArchiveError h_ArchiveError d_ArchiveError o_ArchiveError n_ArchiveError m_ArchiveError r_ArchiveError i_ArchiveError,
    xcl_mk X G a_TooLong x_TooLong k_TooLong b_TooLong t_TooLong g_TooLong h_TooLong d_TooLong o_TooLong n_TooLong m_TooLong r_TooLong i_TooLong,
    xb_mk X G a_PackedError k_PackedError b_PackedError t_PackedError d_PackedError i_PackedError,
    OE.oerr_mk X G (NdefX.nscope_by (by decide +kernel)) (by decide +kernel) (by decide) (by decide) ⟨_, rfl, rfl⟩ (fun _ _ _ _ _ _ us hl => match us, hl with | [_, _], _ => rfl) ea_PackedError ei_PackedError et_PackedError el_PackedError ec_PackedError ef_PackedError efv_PackedError eff_PackedError ece_PackedError exL_PackedError exb_PackedError esa_PackedError eb_PackedError etc_PackedError ek_PackedError ese_PackedError esu_PackedError eop_PackedError enx_PackedError eve_PackedError etp_PackedError efl_PackedError ega_PackedError egg_PackedError ehd_PackedError eha_PackedError ehn_PackedError eht_PackedError ehm_PackedError,
    hs_TooLong_ArchiveError,
    kit_own i_TooLong t_TooLong hq_TooLong_TooLong (fun _ => rfl),
    kit_own i_PackedError t_PackedError hq_TooLong_PackedError (fun z => absurd (he_TooLong_PackedError.symm.trans z) (by decide)),
    hs_PackedError_ArchiveError,
    kit_own i_TooLong t_TooLong hq_PackedError_TooLong (fun z => absurd (he_PackedError_TooLong.symm.trans z) (by decide)),
    kit_own i_PackedError t_PackedError hq_PackedError_PackedError (fun _ => rfl)⟩) hfa
theorem walk {l : PySem.W.OpenLaw} {q : Program} {loose : List Str} {XP : (Str → Option Value) → Heap → Prop} {YP : World → Heap → Prop} {d : DefRec} {K : Params → PySem.W.Frag} (hn : l.most = some 63) (hdf : d.params.defaults = [])
    (hY : ∀ (w : World) (h : Heap), YP w h → (K w.params).In h)
    (F : ∀ (w : World) (mg : Str → Option Value) (fa : Addr) (h : Heap), (K w.params).In h → h.Ns mainGlobals mg → mg d.name = some (.ref fa) →
      ∃ fd : FuncData, (∀ (s : Shared) (u : Value), BindsTo s fd ⟨[u], []⟩ [("script", u)]) ∧ ∀ base : Heap, (K w.params).In base → base.Ns mainGlobals mg → FnOk l.prog w (K w.params) mg base CX0 4 fa fd ["script"] (spLaw (K w.params))) :
    PySem.W.WalkO q loose XP YP l.row.toRowW d [] (fun f vs => PySem.call f vs) :=
  L2.walk_of (n := 63) (k := 4) (x := "script") (CX := fun _ => CX0) (sp := fun w => spLaw (K w.params)) hn (by decide) hdf ⟨rfl, by decide, by decide⟩ hY F (fun _ _ a ns hl _ hS => ⟨a, ns, rfl, hS, hl, fun _ => rfl⟩) fun _ _ _ _ _ z => z
end My
open PySem PySem.W PyProof.Rows in
set_option maxRecDepth 100000 in
set_option maxHeartbeats 0 in
theorem PySem.Challenge.cw_scanpages_k18_expand_holds : PySem.Challenge.rw_scanpages_k18_expand.Holds := by
  w_on; o_law; k_head; (case hw => w_witness2)
  k_fill
  refine My.walk (l := PySem.Challenge.rw_scanpages_k18_expand) rfl rfl (fun w h Y => PySem.W.kIn_of Y) ?F
  case F =>
    intro w mg fa h KX G hmg
    refine' My.law_end KX G hmg ?a_expand ?l_expand ?c_expand ?k_expand ?a__law_cell ?l__law_cell ?c__law_cell ?k__law_cell ?a__law_mix ?l__law_mix ?c__law_mix ?k__law_mix ?a__law_row ?l__law_row ?c__law_row ?k__law_row ?a__law_is_int ?l__law_is_int ?c__law_is_int ?k__law_is_int ?a__law_is_list ?l__law_is_list ?c__law_is_list ?k__law_is_list ?a__law_packed ?l__law_packed ?c__law_packed ?k__law_packed ?a__law_expand ?l__law_expand ?c__law_expand ?k__law_expand ?a__law_spoilt ?l__law_spoilt ?c__law_spoilt ?k__law_spoilt ?a_law ?l_law ?c_law ?k_law ?a_FIRST_COPY ?a_SHORTEST_COPY ?z_len ?z_range ?z_int ?z_abs ?z_isinstance ?z_bool ?z_list ?z_min ?z_max ?a_ArchiveError ?x_ArchiveError ?k_ArchiveError ?b_ArchiveError ?t_ArchiveError ?g_ArchiveError ?h_ArchiveError ?d_ArchiveError ?o_ArchiveError ?n_ArchiveError ?m_ArchiveError ?r_ArchiveError ?i_ArchiveError ?a_TooLong ?x_TooLong ?k_TooLong ?b_TooLong ?t_TooLong ?g_TooLong ?h_TooLong ?d_TooLong ?o_TooLong ?n_TooLong ?m_TooLong ?r_TooLong ?i_TooLong ?a_PackedError ?k_PackedError ?b_PackedError ?t_PackedError ?d_PackedError ?i_PackedError ?ea_PackedError ?ei_PackedError ?et_PackedError ?el_PackedError ?ec_PackedError ?ef_PackedError ?efv_PackedError ?eff_PackedError ?ece_PackedError ?exL_PackedError ?exb_PackedError ?esa_PackedError ?eb_PackedError ?etc_PackedError ?ek_PackedError ?ese_PackedError ?esu_PackedError ?eop_PackedError ?enx_PackedError ?eve_PackedError ?etp_PackedError ?efl_PackedError ?ega_PackedError ?egg_PackedError ?ehd_PackedError ?eha_PackedError ?ehn_PackedError ?eht_PackedError ?ehm_PackedError ?hs_TooLong_ArchiveError ?hq_TooLong_TooLong ?hq_TooLong_PackedError ?he_TooLong_PackedError ?hs_PackedError_ArchiveError ?hq_PackedError_TooLong ?he_PackedError_TooLong ?hq_PackedError_PackedError
    (case a_expand => k_is)
    (case l_expand => k_is)
    (case c_expand => k_is)
    (case k_expand => k_is)
    (case a__law_cell => k_is)
    (case l__law_cell => k_is)
    (case c__law_cell => k_is)
    (case k__law_cell => k_is)
    (case a__law_mix => k_is)
    (case l__law_mix => k_is)
    (case c__law_mix => k_is)
    (case k__law_mix => k_is)
    (case a__law_row => k_is)
    (case l__law_row => k_is)
    (case c__law_row => k_is)
    (case k__law_row => k_is)
    (case a__law_is_int => k_is)
    (case l__law_is_int => k_is)
    (case c__law_is_int => k_is)
    (case k__law_is_int => k_is)
    (case a__law_is_list => k_is)
    (case l__law_is_list => k_is)
    (case c__law_is_list => k_is)
    (case k__law_is_list => k_is)
    (case a__law_packed => k_is)
    (case l__law_packed => k_is)
    (case c__law_packed => k_is)
    (case k__law_packed => k_is)
    (case a__law_expand => k_is)
    (case l__law_expand => k_is)
    (case c__law_expand => k_is)
    (case k__law_expand => k_is)
    (case a__law_spoilt => k_is)
    (case l__law_spoilt => k_is)
    (case c__law_spoilt => k_is)
    (case k__law_spoilt => k_is)
    (case a_law => k_is)
    (case l_law => k_is)
    (case c_law => k_is)
    (case k_law => k_is)
    (case a_FIRST_COPY => k_is)
    (case a_SHORTEST_COPY => k_is)
    (case z_len => k_is)
    (case z_range => k_is)
    (case z_int => k_is)
    (case z_abs => k_is)
    (case z_isinstance => k_is)
    (case z_bool => k_is)
    (case z_list => k_is)
    (case z_min => k_is)
    (case z_max => k_is)
    (case a_ArchiveError => k_is)
    (case x_ArchiveError => k_exc)
    (case k_ArchiveError => k_is)
    (case b_ArchiveError => k_is)
    (case t_ArchiveError => k_is)
    (case g_ArchiveError => k_is)
    (case h_ArchiveError => k_is)
    (case d_ArchiveError => k_is)
    (case o_ArchiveError => k_is)
    (case n_ArchiveError => k_is)
    (case m_ArchiveError => k_is)
    (case r_ArchiveError => k_is)
    (case i_ArchiveError => k_is)
    (case a_TooLong => k_is)
    (case x_TooLong => k_exc)
    (case k_TooLong => k_is)
    (case b_TooLong => k_is)
    (case t_TooLong => k_is)
    (case g_TooLong => k_is)
    (case h_TooLong => k_is)
    (case d_TooLong => k_is)
    (case o_TooLong => k_is)
    (case n_TooLong => k_is)
    (case m_TooLong => k_is)
    (case r_TooLong => k_is)
    (case i_TooLong => k_is)
    (case a_PackedError => k_is)
    (case k_PackedError => k_is)
    (case b_PackedError => k_is)
    (case t_PackedError => k_is)
    (case d_PackedError => k_is)
    (case i_PackedError => k_is)
    (case ea_PackedError => k_is)
    (case ei_PackedError => k_is)
    (case et_PackedError => k_is)
    (case el_PackedError => k_is)
    (case ec_PackedError => k_is)
    (case ef_PackedError => k_is)
    (case efv_PackedError => rfl)
    (case eff_PackedError => first | rfl | decide +kernel)
    (case ece_PackedError => k_is)
    (case exL_PackedError => k_is)
    (case exb_PackedError => first | rfl | decide +kernel)
    (case esa_PackedError => k_is)
    (case eb_PackedError => k_is)
    (case etc_PackedError => k_is)
    (case ek_PackedError => k_is)
    (case ese_PackedError => k_is)
    (case esu_PackedError => k_is)
    (case eop_PackedError => k_is)
    (case enx_PackedError => first | k_is | ks_is)
    (case eve_PackedError => k_is)
    (case etp_PackedError => first | rfl | decide +kernel)
    (case efl_PackedError => k_is)
    (case ega_PackedError => k_is)
    (case egg_PackedError => k_is)
    (case ehd_PackedError => k_is)
    (case eha_PackedError => k_is)
    (case ehn_PackedError => k_is)
    (case eht_PackedError => k_is)
    (case ehm_PackedError => k_is)
    (case hs_TooLong_ArchiveError => first | k_is | rfl)
    (case hq_TooLong_TooLong => first | k_is | rfl)
    (case hq_TooLong_PackedError => first | k_is | rfl)
    (case he_TooLong_PackedError => first | rfl | decide)
    (case hs_PackedError_ArchiveError => first | k_is | rfl)
    (case hq_PackedError_TooLong => first | k_is | rfl)
    (case he_PackedError_TooLong => first | rfl | decide)
    (case hq_PackedError_PackedError => first | k_is | rfl)
#print axioms PySem.Challenge.cw_scanpages_k18_expand_holds
