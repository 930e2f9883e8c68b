import PyProof.Rows.All
import Wide.All
import OpenK.AllK
import Wide.FinOn
import PyProof.EqAt
import PyProof.EqKinds
import PyProof.TupleCall
import HandS.ForMost
import HandS.ForExc
import HandS.RaiseMore
import HandS.FStr
import HandS.IsInst
import HandS.ExcIs
import HandS.Wide
import HandS.Flow
import HandS.Conv
import HandS.Evl
import HandS.TupAny
import HandS.Style
import HandS.ExcCtx
import HandS.HotCalls
import HandS.ExcInit
import HandS.Nested
import HandS.ExcField
import KE.KExcSuper
import KE.KSuper
import KE.RegKSuper
import PySem.Challenge.RW_scanpages_k02_read_number
set_option Elab.async false
set_option linter.all false
set_option maxRecDepth 100000
set_option maxHeartbeats 4000000
/-! Cm: what all our proofs share -/
namespace Cm
open PySem PySem.Spec PyProof.Rows L2

/-! ### defs of the module, and what they promise -/
/-- the def x stands at some address behind the top -/
def Dn (K : PySem.W.Frag) (mg : Str → Option Value) (x : Str) (st : Stmt) (ps : List Str) : Prop :=
  ∃ (f : Addr) (fd : FuncData), Fun K x x st f fd ∧ mg x = some (.ref f) ∧ Binds K fd ps []
/-- the def x keeps the promise sp -/
def Ok (P : Program) (w : World) (K : PySem.W.Frag) (mg : Str → Option Value) (base : Heap) (CX : CXT) (k : Nat) (x : Str) (ps : List Str) (sp : Sp) : Prop :=
  ∃ (f : Addr) (fd : FuncData), FnOk P w K mg base CX k f fd ps sp ∧ mg x = some (.ref f) ∧ PySem.W.keepIn K (.ref f) = true ∧ Binds K fd ps []
theorem ok_of {P : Program} {w : World} {K : PySem.W.Frag} {mg : Str → Option Value} {base : Heap} {CX : CXT} {k : Nat} {x : Str} {st : Stmt} {ps : List Str} {sp : Sp} (d : Dn K mg x st ps)
    (h : ∀ f fd, Fun K x x st f fd → FnOk P w K mg base CX k f fd ps sp) : Ok P w K mg base CX k x ps sp := by
  obtain ⟨f, fd, F, g, b⟩ := d
  exact ⟨f, fd, h f fd F, g, F.kp, b⟩
section
variable {X : Cx} {CX : CXT} {k : Nat} {ps : List Str} {sp : Sp} {E : XK} {x : Str} {p pos : Pos} {e : Expr} {es : List Expr} {t : TA}
theorem pe_callO (G : Ok X.prog X.w X.K X.mg X.base CX k x ps sp) (hr : Room k X.A) (hx : Passes CX X E) (ha : PA X (e :: es) t) (hg : Gl X x := by rfl)
    (hdb : (x == ("__debug__" : Str)) = false := by decide) (he : starEach (e :: es) X.env = (false, eval e X.env) :: starEach es X.env := by rfl) (hpl : (backTo pos (starEach es X.env)).any (·.1) = false := by rfl) :
    PE X (.Call (.Name x p) (e :: es) [] pos) (tCall sp [] E t) := by
  obtain ⟨f, fd, F, g, kp, b⟩ := G
  exact pe_call F hr hg g kp b .nil hx ha hdb he hpl
theorem pe_callO0 (G : Ok X.prog X.w X.K X.mg X.base CX k x ps sp) (hr : Room k X.A) (hx : Passes CX X E) (hg : Gl X x := by rfl) (hdb : (x == ("__debug__" : Str)) = false := by decide) :
    PE X (.Call (.Name x p) [] [] pos) (tCall sp [] E tNil) := by
  obtain ⟨f, fd, F, g, kp, b⟩ := G
  exact pe_call0 F hr hg g kp b .nil hx hdb
theorem pe_callT {Es : L2.St → XK} (G : Ok X.prog X.w X.K X.mg X.base CX k x ps sp) (hr : Room k X.A) (hx : ∀ σ, PassesAt CX X σ (Es σ)) (ha : PA X (e :: es) t) (hg : Gl X x := by rfl)
    (hdb : (x == ("__debug__" : Str)) = false := by decide) (he : starEach (e :: es) X.env = (false, eval e X.env) :: starEach es X.env := by rfl) (hpl : (backTo pos (starEach es X.env)).any (·.1) = false := by rfl) :
    PE X (.Call (.Name x p) (e :: es) [] pos) (tCallS sp Es t) := by
  obtain ⟨f, fd, F, g, kp, b⟩ := G
  exact pe_callS F hr hg g kp b hx ha hdb he hpl
end
/-! ### errors: raised where nothing is handled -/
/-- what leaves a def: L2N's way -/
abbrev CXN (P : Program) (w : World) : CXT := L2N.CX P w
theorem passN {X : Cx} : Passes (CXN X.prog X.w) X E0 := fun _ _ _ _ _ _ _ h => by
  obtain ⟨_, _, _, _, _, _, _, _, _, _, _, _, z⟩ := h
  exact z.elim
theorem takesN {X : Cx} : L2N.Takes X (fun _ _ _ _ => False) := fun _ _ x => by
  obtain ⟨_, _, _, _, _, _, _, _, _, _, _, _, _, _, _, _, z⟩ := x
  exact z.elim
theorem passX {X : Cx} {E E' : XK} (tk : L2N.Takes X (fun cls d _ H => E cls d H)) (h : ∀ cls d H, E' cls d H → E cls d H) : Passes (CXN X.prog X.w) X E' := fun pins σ H s e s' I c => tk e s' (L2N.XE.of_call I (fun cls d H' q => h cls d H' q) c)
theorem okN {P : Program} {w : World} {K : PySem.W.Frag} {mg : Str → Option Value} {base : Heap} {x qual : Str} {st : Stmt} {f : Addr} {fd : FuncData} {N ps : List Str} {k : Nat} {sp : Sp} (F : Fun K x qual st f fd) (S : FnScope N ps (defScope st)) (len : ∀ vs H Q E, sp vs H Q E → vs.length = ps.length)
    (hbody : ∀ (cdv : Value) (A : Around) (outer : List Env) (s : Shared) (H : Hp) (vs : List V) (Q : VK) (E : XK), Room k (A.deeper (envOfC qual (defScope st) s.heap.objs.size f cdv)) → sp vs H Q E →
      ∃ t, PSs (cxOf (CXN P w) P w K mg base N qual (defScope st) f cdv A outer s H E) (defBody st) t ∧ t { nx := fun _ H' => Q .non H', rt := Q } (L2.start N vs) H) : FnOk P w K mg base (CXN P w) (k + 1) f fd ps sp := by
  obtain ⟨oc, od, kV, doc, pm, an, cdv, ct, osl, rfl, lk, hcd⟩ := F.ex
  exact fn_of lk hcd S len fun A outer s H vs Q E hr hsp => hbody cdv A outer s H vs Q E hr hsp
section
variable {X : Cx}
/-- X(e) -/
theorem pmk_own1 {C : Addr} {bmB : List Value} {B newId initId : String} {x : Str} {e : Expr} {ta : TE} {p pos : Pos} (F : ExcBaseFacts B newId initId bmB) (q : PySem.W.excIn X.K C bmB newId = true) (gC : X.mg x = some (.ref C)) (kC : PySem.W.keepIn X.K (.ref C) = true) (r : Raises X (.ref C)) (hg : Gl X x)
    (he : PE X e ta) (hs : starEach [e] X.env = (false, eval e X.env) :: starEach [] X.env := by rfl) (hdb : (x == ("__debug__" : Str)) = false := by decide) :
    L2N.PMk X (.Call (.Name x p) [e] [] pos) (fun σ H Q => ta σ H fun _ H1 => Q (.ref C) none H1) := by
  intro pins s σ H Q I h
  refine wpAny_Call_Name_kw (ld_glob I hg gC ?_ hdb)
  refine PySem.W.callWith_K (h₀ := X.base) I.ok.mod.kin kC ?_ hs (by rfl)
  rw [hs]
  show wpAny _ _ (spliced ((false, eval e X.env) :: backTo pos (starEach [] X.env))) _ _ s
  refine Calls.spliced_cons (thn (he.run pins s σ H _ I h) fun u s1 ⟨v, H1, I1, r1, q1⟩ => ?_)
  refine Calls.spliced_nil ⟨I1.kIn, ?_⟩
  show wpAny _ _ (call (.ref C) [u]) _ _ _
  obtain ⟨bm, N, nm, qn, bs, hdct, sn, sub, ab, col, dd, k0, k1, k2, k3, k5, mN, hC, hN, hni, T⟩ := exc_obj I1.kIn q
  refine wpAny_call_exc_subT F T hC hN hni (fun h' e hm => ?_) (by show 1 ≤ sizeLine; rw [sizeLine_eq]; omega)
  exact L2N.mk_of I1 hm r q1 (I1.hok.gone hm.new)
end
/-! ### defs called within an except suite -/
def OkH (P : Program) (w : World) (K : PySem.W.Frag) (mg : Str → Option Value) (base : Heap) (CX : CXT) (k : Nat) (x : Str) (ps : List Str) (sp : Sp) : Prop :=
  ∃ (f : Addr) (fd : FuncData), L2H.FnH P w K mg base CX k f fd ps sp ∧ mg x = some (.ref f) ∧ PySem.W.keepIn K (.ref f) = true ∧ Binds K fd ps []
theorem okH_of {P : Program} {w : World} {K : PySem.W.Frag} {mg : Str → Option Value} {base : Heap} {k : Nat} {x : Str} {st : Stmt} {N ps : List Str} {sp : Sp} (d : Dn K mg x st ps) (S : FnScope N ps (defScope st)) (len : ∀ vs H Q E, sp vs H Q E → vs.length = ps.length)
    (hbody : ∀ (f : Addr) (cdv : Value) (A : Around) (outer : List Env) (s : Shared) (H : Hp) (vs : List V) (Q : VK) (E : XK) (p : Addr × Obj), L2H.Hot1 A p → L2H.RoomH k (A.deeper (envOfC x (defScope st) s.heap.objs.size f cdv)) → sp vs H Q E →
      ∃ t, PSs (L2H.cxH CX0 P w K mg base N x (defScope st) f cdv A outer s H E p) (defBody st) t ∧ t { nx := fun _ H' => Q .non H', rt := Q } (L2.start N vs) H) : OkH P w K mg base CX0 (k + 1) x ps sp := by
  obtain ⟨f, fd, F, g, b⟩ := d
  refine ⟨f, fd, ?_, g, F.kp, b⟩
  obtain ⟨oc, od, kV, doc, pm, an, cdv, ct, osl, rfl, lk, hcd⟩ := F.ex
  exact L2H.fn_ofH lk hcd S len fun A outer s H vs Q E p hot hr hsp => hbody f cdv A outer s H vs Q E p hot hr hsp
section
variable {X : Cx} {k : Nat} {ps : List Str} {sp : Sp} {x : Str} {p pos : Pos} {e : Expr} {es : List Expr} {t : TA}
theorem pe_callHO (G : OkH X.prog X.w X.K X.mg X.base CX0 k x ps sp) (hr : L2H.RoomH k X.A) (hc : L2H.HotC X) (ha : PA X (e :: es) t) (hg : Gl X x := by rfl)
    (hdb : (x == ("__debug__" : Str)) = false := by decide) (he : starEach (e :: es) X.env = (false, eval e X.env) :: starEach es X.env := by rfl) (hpl : (backTo pos (starEach es X.env)).any (·.1) = false := by rfl) :
    PE X (.Call (.Name x p) (e :: es) [] pos) (tCallS sp (fun _ => E0) t) := by
  obtain ⟨f, fd, F, g, kp, b⟩ := G
  exact L2H.pe_callH F hr hc hg g kp b (fun _ _ _ _ _ _ _ h => h.elim) ha hdb he hpl
theorem roomS {k j : Nat} {A : Around} {h : Option Value} (hr : Room k A) (hj : j ≤ k) : L2H.RoomH j (A.mark h) := L2H.RoomH.mono (k := k) ⟨hr.dp, hr.un⟩ hj
theorem hotS {a : Addr} {oe : Obj} {cls : Value} {d : Option Addr} {pn : List (Addr × Obj)} (hz : L2N.Zn cls d oe) (hf : ∃ vs, oe.data = .fields vs) : L2H.HotC (X.suite a ((a, oe) :: pn)) := by
  obtain ⟨vs, e⟩ := hf
  exact ⟨(a, oe), ⟨rfl, vs, e, hz.2.2 vs e⟩, List.mem_cons_self⟩
end
/-! ### names of the module -/
/-- the name x of the module holds v -/
def CV (mg : Str → Option Value) (x : Str) (v : V) : Prop := ∃ u, mg x = some u ∧ RelV v u
theorem pe_globC {X : Cx} {x : Str} {v : V} {pos : Pos} (hg : Gl X x) (h : CV X.mg x v) (hd : (x == ("__debug__" : Str)) = false := by decide) : PE X (.Name x pos) (tC v) := by
  obtain ⟨u, hm, r⟩ := h
  exact pe_glob hg hm r hd
theorem pe_globR {X : Cx} {x : Str} {a : Addr} {pos : Pos} (hg : Gl X x) (h : X.mg x = some (.ref a)) (hd : (x == ("__debug__" : Str)) = false := by decide) : PE X (.Name x pos) (tC (.ref a)) := pe_glob hg h rfl hd
/-! ### tests -/
theorem itd {p A B : Prop} [Decidable p] (h1 : p → A) (h2 : ¬ p → B) : if decide p = true then A else B := by
  by_cases h : p
  · rw [if_pos (decide_eq_true h)]
    exact h1 h
  · rw [if_neg (by simp [h])]
    exact h2 h
theorem itb {b : Bool} {A B : Prop} (h1 : b = true → A) (h2 : b = false → B) : if b = true then A else B := by
  cases b with
  | true => exact iteT (h1 rfl)
  | false => exact iteF (h2 rfl)
/-! ### error classes -/
/-- an error class that may have an own __init__ -/
structure XB (K : PySem.W.Frag) (mg : Str → Option Value) (x : Str) (C : Addr) : Prop where
  g : mg x = some (.ref C)
  k : PySem.W.keepIn K (.ref C) = true
  b : PySem.W.subIn K (.ref C) (.type "BaseException") = some true
  t : PySem.W.typeIn K (.ref C) = some (.type "type")
  d : PySem.W.hasDictIn K C = true
  i : PySem.W.isClsIn K C = true
/-- an error class without an own __init__ -/
structure XCl (K : PySem.W.Frag) (mg : Str → Option Value) (x : Str) (C : Addr) : Prop extends XB K mg x C where
  x : PySem.W.excIn K C [.type "ValueError", .type "Exception", .type "BaseException", .type "object"] "ValueError.__new__" = true
  e : ExcC K C
section
variable {K : PySem.W.Frag} {h : Heap} {mg : Str → Option Value} {x : Str} {C : Addr}
theorem xb_mk (X : K.In h) (G : h.Ns mainGlobals mg) (a : PySem.W.nsIn K mainGlobals x = some (some (.ref C))) (k : PySem.W.keepIn K (.ref C) = true) (b : PySem.W.subIn K (.ref C) (.type "BaseException") = some true)
    (t : PySem.W.typeIn K (.ref C) = some (.type "type")) (d : PySem.W.hasDictIn K C = true) (i : PySem.W.isClsIn K C = true) : XB K mg x C := ⟨PySem.W.mg_of X G a, k, b, t, d, i⟩
theorem xcl_mk (X : K.In h) (G : h.Ns mainGlobals mg) (a : PySem.W.nsIn K mainGlobals x = some (some (.ref C)))
    (q : PySem.W.excIn K C [.type "ValueError", .type "Exception", .type "BaseException", .type "object"] "ValueError.__new__" = true) (k : PySem.W.keepIn K (.ref C) = true)
    (b : PySem.W.subIn K (.ref C) (.type "BaseException") = some true) (t : PySem.W.typeIn K (.ref C) = some (.type "type"))
    (hg : PySem.W.findIn K (.ref C) "__getattribute__" = some (some (.builtin "BaseException.__getattribute__"))) (hk : PySem.W.findIn K (.ref C) "__getattr__" = some none) (hd : PySem.W.hasDictIn K C = true)
    (ha : PySem.W.findIn K (.ref C) "__class__" = some (some (.builtin "object.__class__"))) (hn : PySem.W.specialIn K (.builtin "object.__class__") "__get__" = some (some (.builtin "getset_descriptor.__get__")))
    (ht : PySem.W.takesIn K (.builtin "object.__class__") = some true) (hm : PySem.W.mroIn K C (.type "object") = some true) (i : PySem.W.isClsIn K C = true) : XCl K mg x C :=
  ⟨⟨PySem.W.mg_of X G a, k, b, t, hd, i⟩, q, ⟨hg, hk, b, hd, ha, hn, ht, hm⟩⟩
/-- isinstance of an own class -/
theorem kit_own {D : Addr} {r : Bool} (i : PySem.W.isClsIn K C = true) (t : PySem.W.typeIn K (.ref C) = some (.type "type")) (s : PySem.W.subIn K (.ref D) (.ref C) = some r) (hne : (Value.ref D == Value.ref C) = true → r = true) :
    PySem.W.kitOne K (.ref D) (.ref C) = some r := by
  unfold PySem.W.kitOne
  cases e : (Value.ref D == Value.ref C) with
  | true => rw [if_pos rfl, hne e]
  | false =>
    rw [if_neg Bool.false_ne_true]
    have h2 : ((PySem.W.clsIn K C).isSome && PySem.W.typeIn K (.ref C) == some (.type "type")) = true := by
      have h2' : (PySem.W.clsIn K C).isSome = true := i
      rw [h2', t] <;> rfl
    show (if ((PySem.W.clsIn K C).isSome && PySem.W.typeIn K (.ref C) == some (.type "type")) = true then PySem.W.subIn K (.ref D) (.ref C) else none) = some r
    rw [if_pos h2, s]
theorem kit_ve {D : Addr} (s : PySem.W.subIn K (.ref D) (.type "ValueError") = some true) : PySem.W.kitOne K (.ref D) (.type "ValueError") = some true := by
  have e : (Value.ref D == Value.type "ValueError") = false := rfl
  unfold PySem.W.kitOne
  rw [e, if_neg Bool.false_ne_true]
  show (if PySem.W.kitMeta "ValueError" = true then PySem.W.subIn K (.ref D) (.type "ValueError") else none) = some true
  rw [if_pos (by decide +kernel), s]
/-- except C takes an error of the class at D -/
theorem exm_own {D : Addr} {r : Bool} {y : Str} (c : XB K mg y C) (s : PySem.W.subIn K (.ref D) (.ref C) = some r) : PySem.W.exmOne K (.ref D) (.ref C) = some r := PySem.W.exm_ref c.b c.d c.t s
/-! ### the facts of the top -/
theorem dn_mk {st : Stmt} {ps : List Str} {f : Addr} {oc : Value} {od an : Option Addr} {osl : Array (Option Value)} {kV doc pm cdv ct : Value} (X : K.In h) (G : h.Ns mainGlobals mg) (a : PySem.W.nsIn K mainGlobals x = some (some (.ref f)))
    (l : K.lookup f = some ⟨oc, od, .func (PySem.W.fnOf x x (defArgs st) (defBody st) (defScope st) .none kV doc pm an cdv ct), osl⟩) (c : PySem.W.codeIn K cdv x = true) (k : PySem.W.keepIn K (.ref f) = true)
    (hb : ∀ (kV doc pm : Value) (an : Option Addr) (cdv ct : Value) (us : List Value), us.length = ps.length → bindArgs (PySem.W.fnOf x x (defArgs st) (defBody st) (defScope st) .none kV doc pm an cdv ct) ⟨us, []⟩ = pure (ps.zip us)) : Dn K mg x st ps :=
  ⟨f, _, fun_mk l c k, PySem.W.mg_of X G a, (fun_mk l c k).binds hb⟩
theorem cv_int {i : Int} {t : Tok} (X : K.In h) (G : h.Ns mainGlobals mg) (a : PySem.W.nsIn K mainGlobals x = some (some (.int i t))) : CV mg x (.int i) := ⟨_, PySem.W.mg_of X G a, _, rfl⟩
theorem cv_str {i : Str} {t : Tok} (X : K.In h) (G : h.Ns mainGlobals mg) (a : PySem.W.nsIn K mainGlobals x = some (some (.str i t))) : CV mg x (.str i) := ⟨_, PySem.W.mg_of X G a, _, rfl⟩
theorem cv_bl {i : Bool} (X : K.In h) (G : h.Ns mainGlobals mg) (a : PySem.W.nsIn K mainGlobals x = some (some (.bool i))) : CV mg x (.bl i) := ⟨_, PySem.W.mg_of X G a, rfl⟩
/-- the name x of the module holds a tuple of the written part -/
def CT (K : PySem.W.Frag) (mg : Str → Option Value) (x : Str) (xs : List V) : Prop := ∃ p, mg x = some (.ref p) ∧ ∀ H, SqT K H p xs
theorem ct_mk {p : Addr} {od : Option Addr} {its : Array Value} {n : Nat} {sl : Array (Option Value)} {xs : List V} (X : K.In h) (G : h.Ns mainGlobals mg) (a : PySem.W.nsIn K mainGlobals x = some (some (.ref p)))
    (l : K.lookup p = some ⟨.type "tuple", od, .seq its n, sl⟩) (hs : its.size ≤ sizeLine) (hv : Vals xs its.toList) : CT K mg x xs :=
  ⟨p, PySem.W.mg_of X G a, fun _ => .inr ⟨_, its, n, l, rfl, rfl, hs, hv⟩⟩
end
theorem pe_globT {X : Cx} {x : Str} {xs : List V} {pos : Pos} (hg : Gl X x) (h : CT X.K X.mg x xs) (hd : (x == ("__debug__" : Str)) = false := by decide) :
    PE X (.Name x pos) (fun _ H Q => ∀ p, (∀ H', SqT X.K H' p xs) → Q (.ref p) H) := by
  obtain ⟨p, hm, hs⟩ := h
  exact ⟨fun pins s σ H Q I h => (pe_glob hg hm (v := .ref p) rfl hd).run pins s σ H Q I (h p hs)⟩
/-! ### a suite that is read for known errors alone -/
theorem pss_guard {X : Cx} {st : List Stmt} {p : Prop} {t : TS} (h : p → PSs X st t) : PSs X st (fun D σ H => p ∧ t D σ H) :=
  ⟨fun pins s σ H D I q => (h q.1).run pins s σ H D I q.2⟩
theorem to_true {Q : VK} {b : Bool} {H : Hp} (h : b = true) (q : Q (.bl true) H) : Q (.bl b) H := h ▸ q
/-- a new object at p stays the only one that changes -/
theorem same_new {H H' : Hp} {p : Addr} {o : HO} (e : Same H H') (hp : H p = none) : Same H (upd H' p o) := Evl.Ex.mut e hp
theorem same_upd {H : Hp} {p : Addr} {o : HO} (hp : H p = none) : Same H (upd H p o) := Evl.Ex.new hp
theorem tyx_list {K : PySem.W.Frag} {H : Hp} {a : Addr} {xs : List V} (h : SqL K H a xs) : TyX K H (.ref a) (.type "list") := by
  rcases h with (h | ⟨o, h⟩) | ⟨o, its, n, h, hc, _⟩
  · exact .base (.lst h)
  · exact .base (.frz h)
  · exact .kList h hc
theorem tyx_tuple {K : PySem.W.Frag} {H : Hp} {a : Addr} {xs : List V} (h : SqT K H a xs) : TyX K H (.ref a) (.type "tuple") := by
  rcases h with (h | ⟨o, h⟩) | ⟨o, its, n, h, hc, _⟩
  · exact .base (.tup h)
  · exact .fTuple h
  · exact .kTuple h hc
theorem small {n : Nat} (h : n ≤ 100000) : n < sizeLine := Nat.lt_of_le_of_lt h (by decide)
theorem smallE {n : Nat} (h : n ≤ 100000) : n ≤ sizeLine := Nat.le_trans h (by decide)
/-- for .. in enumerate(list) -/
theorem for_enum {K : PySem.W.Frag} {a : Addr} {xs : List V} {g : TG} {tb : TS} {D : Ends} {σ : L2.St} {H : Hp} (Pv : Nat → L2.St → Hp → Prop) (h0 : Pv 0 σ H) (hl : ∀ i σ H, i ≤ xs.length → Pv i σ H → SqL K H a xs)
    (hs : ∀ i x T σ H, xs[i]? = some x → Pv i σ H → H T = none → g (.ref T) σ (upd H T (.tup [.int (i : Nat), x])) fun σ2 H2 => tb { D with nx := Pv (i + 1), ct := Pv (i + 1), bk := D.nx } σ2 H2) (hd : ∀ σ H, Pv xs.length σ H → D.nx σ H) :
    ∃ W : Nat → Nat → L2.St → Hp → Prop, (∃ m, W 0 m σ H) ∧ ∀ i m σ H, W i m σ H →
      ((Ite K a).stop i H ∧ D.nx σ H) ∨ ((Ite K a).go i H ∧ ∃ N : L2.St → Hp → Prop, (∀ σ' H', N σ' H' → ∃ m', m' < m ∧ W (i + 1) m' σ' H') ∧ ∀ x H', (Ite K a).yld i H x H' → g x σ H' fun σ2 H2 => tb { D with nx := N, ct := N, bk := D.nx } σ2 H2) := by
  refine ⟨fun i m σ H => m = xs.length - i ∧ i ≤ xs.length ∧ Pv i σ H, ⟨xs.length, by simp, Nat.zero_le _, h0⟩, ?_⟩
  rintro i m σ H ⟨rfl, hi, p⟩
  have q := hl i σ H hi p
  by_cases hlt : i < xs.length
  · refine .inr ⟨⟨xs, xs[i], q, by simp [hlt]⟩, Pv (i + 1), fun σ' H' p' => ⟨xs.length - (i + 1), by omega, rfl, hlt, p'⟩, fun x H' y => ?_⟩
    obtain ⟨T, z, rfl, hT, rfl, y⟩ := y
    exact hs i z T σ H (y xs q) p hT
  · have e : i = xs.length := by omega
    subst e
    exact .inl ⟨⟨xs, q, Nat.le_refl _⟩, hd σ H p⟩
/-- an item of a list by a number that is told -/
theorem at_nat {α : Type} {xs : List α} {i : Int} {j : Nat} {v : α} (e : i = (j : Int)) (h : xs[j]? = some v) : atI xs i = some v := e ▸ atI_nat h
theorem ix_nat {n j : Nat} {i : Int} (e : i = (j : Int)) (h : j < n) : ixN n i = some j := e ▸ Evl.ixN_nat h
/-! ### rules whose reading names the written part by itself (for the bodies and suites of a try) -/
def rLenK (K : PySem.W.Frag) : List V → Hp → VK → Prop := fun xs H Q => ∃ p ys, xs = [.ref p] ∧ (SqL K H p ys ∨ SqT K H p ys) ∧ Q (.int ys.length) H
theorem call_lenK {X : Cx} {K : PySem.W.Frag} (h : X.K = K := by rfl) : CallR X (.builtin "len") (rLenK K) := by
  subst h
  exact call_len_seq
theorem op_eqDK {X : Cx} {K : PySem.W.Frag} (hu : X.A.units + 64 < cLine) (h : X.K = K := by rfl) : OpR X (compareOp .Eq) (rEqD K) := by
  subst h
  exact op_eqD hu
theorem op_neDK {X : Cx} {K : PySem.W.Frag} (hu : X.A.units + 64 < cLine) (h : X.K = K := by rfl) : OpR X (compareOp .NotEq) (rNeD K) := by
  subst h
  exact op_neD hu
theorem call_isiK' {X : Cx} {K : PySem.W.Frag} (h : X.K = K := by rfl) : CallR X (.builtin "isinstance") (rIsi K) := by
  subst h
  exact call_isi
def rListK (K : PySem.W.Frag) : List V → Hp → VK → Prop := fun xs H Q => ∃ p ys, xs = [.ref p] ∧ (SqL K H p ys ∨ SqT K H p ys) ∧ ∀ l, H l = none → Q (.ref l) (upd H l (.lst ys))
theorem call_list_ofK {X : Cx} {K : PySem.W.Frag} (h : X.K = K := by rfl) : CallR X (.type "list") (rListK K) := by
  subst h
  exact call_list_of
theorem sl_listK {X : Cx} {K : PySem.W.Frag} (h : X.K = K := by rfl) : SlR X (rSlL K) := by
  subst h
  exact sl_list
/-! ### slices -/
theorem sIx_nat {n k : Nat} (d : Nat) (h : k ≤ n) : HT.sIx n d (some (k : Int)) = k := by
  simp only [HT.sIx]
  split <;> omega
theorem cut_to {xs : List V} {k : Nat} (h : k ≤ xs.length) : cutV xs none (some (k : Int)) = xs.take k := by
  unfold cutV
  rw [sIx_nat _ h]
  simp [HT.sIx]
theorem cut_from {xs : List V} {k : Nat} (h : k ≤ xs.length) : cutV xs (some (k : Int)) none = xs.drop k := by
  unfold cutV
  rw [sIx_nat _ h]
  simp only [HT.sIx]
  rw [List.take_of_length_le (by rw [List.length_drop]; omega)]
theorem cut_mid {xs : List V} {j k : Nat} (h1 : j ≤ k) (h : k ≤ xs.length) : cutV xs (some (j : Int)) (some (k : Int)) = (xs.drop j).take (k - j) := by
  unfold cutV
  rw [sIx_nat _ h, sIx_nat _ (Nat.le_trans h1 h)]
/-! ### data -/
mutual
theorem dp_mono {K : PySem.W.Frag} {H H' : Hp} (e : Same H H') : ∀ {d : PyData} {v : V}, Dp K H v d → Dp K H' v d
  | _, _, .non => .non
  | _, _, .bl b => .bl b
  | _, _, .int i => .int i
  | _, _, .str x => .str x
  | _, _, .lst h r => .lst (e.seq h) (dpAll_mono e r)
  | _, _, .tup h r => .tup (Evl.ex_t e h) (dpAll_mono e r)
theorem dpAll_mono {K : PySem.W.Frag} {H H' : Hp} (e : Same H H') : ∀ {ds : List PyData} {vs : List V}, DpAll K H vs ds → DpAll K H' vs ds
  | _, _, .nil => .nil
  | _, _, .cons h r => .cons (dp_mono e h) (dpAll_mono e r)
end
theorem dp_ints {K : PySem.W.Frag} {H : Hp} : ∀ (ns : List Int), DpAll K H (ns.map V.int) (ns.map PyData.int)
  | [] => .nil
  | n :: ns => .cons (.int n) (dp_ints ns)
theorem canLayAll_ints : ∀ (ns : List Int), PyData.canLayAll0 (ns.map PyData.int) = true
  | [] => rfl
  | n :: ns => by simp [PyData.canLayAll0, PyData.canLay0, canLayAll_ints ns]
theorem depthAll_ints : ∀ (ns : List Int), PyData.depthAll (ns.map PyData.int) = 0
  | [] => rfl
  | n :: ns => by simp [PyData.depthAll, PyData.depth, depthAll_ints ns]
theorem shaped_ints (ns : List Int) : SeqAt.shaped (.list (ns.map PyData.int)) = true := by
  simp [SeqAt.shaped, PyData.canLay0, PyData.depth, canLayAll_ints, depthAll_ints]
theorem eqvAll_ints : ∀ (ns ms : List Int), PyData.eqvAll (ns.map PyData.int) (ms.map PyData.int) = decide (ns = ms)
  | [], [] => by simp [PyData.eqvAll]
  | [], m :: ms => by simp [PyData.eqvAll]
  | n :: ns, [] => by simp [PyData.eqvAll]
  | n :: ns, m :: ms => by
    by_cases h : n = m <;> simp [PyData.eqvAll, PyData.eqv, eqvAll_ints ns ms, h]
theorem eqv_ints (ns ms : List Int) : PyData.eqv (.list (ns.map PyData.int)) (.list (ms.map PyData.int)) = decide (ns = ms) := by
  rw [PyData.eqv]
  exact eqvAll_ints ns ms
theorem shaped_pair (as bs : List Int) : SeqAt.shaped (.tuple [.list (as.map PyData.int), .list (bs.map PyData.int)]) = true := by
  simp [SeqAt.shaped, PyData.canLay0, PyData.canLayAll0, PyData.depth, PyData.depthAll, canLayAll_ints, depthAll_ints]
theorem eqv_refl' {d : PyData} (h : SeqAt.shaped d = true) : PyData.eqv d d = true := SeqAt.eqv_refl _ (SeqAt.canLay_of_shaped h)
theorem dp_list {K : PySem.W.Frag} {H : Hp} {a : Addr} {ns : List Int} (h : SqL K H a (ns.map V.int)) : Dp K H (.ref a) (.list (ns.map PyData.int)) := .lst h (dp_ints ns)
theorem get_ints {ns : List Int} {i : Nat} {y : V} (h : (ns.map V.int)[i]? = some y) : ∃ (hi : i < ns.length), y = V.int ns[i] := by
  rw [List.getElem?_map] at h
  by_cases hi : i < ns.length
  · rw [List.getElem?_eq_getElem hi] at h
    exact ⟨hi, (Option.some.inj h).symm⟩
  · rw [List.getElem?_eq_none (Nat.le_of_not_lt hi)] at h
    cases h
theorem take_snoc {α : Type} {l : List α} {i : Nat} (hi : i < l.length) : l.take (i + 1) = l.take i ++ [l[i]] := by
  rw [List.take_add_one, List.getElem?_eq_getElem hi]
  rfl
/-! ### the script's cells -/
def cell (ns : List Int) (k : Nat) : Int := ns.getD k 0
theorem cell_in {ns : List Int} {k : Nat} (hk : k < ns.length) : cell ns k = ns[k] := by simp [cell, List.getD_eq_getElem?_getD, List.getElem?_eq_getElem hk]
theorem cell_out {ns : List Int} {k : Nat} (hk : ¬ k < ns.length) : cell ns k = 0 := by simp [cell, List.getD_eq_getElem?_getD, List.getElem?_eq_none (Nat.le_of_not_lt hk)]
end Cm

/-! ### an own exception class over ValueError: def __init__(self, p): super().__init__(f'..{p}..'); self.f = p -/
namespace OE
open PySem PySem.Spec PyProof.Rows L2
def iniB (p0 p1 pa pc pe ps pf pp pz pj : Pos) (js : List Expr) (prm fld : Str) : List Stmt :=
  [.Expr (.Call (.Attribute (.Call (.Name "super" p0) [] [] p1) "__init__" pa) [.JoinedStr js pj] [] pc) pe, .Assign [.Attribute (.Name "self" ps) fld pf] (.Name prm pp) pz]
/-- what the written part says of the class and its __init__ -/
structure Ini (P : Program) (K : PySem.W.Frag) (mg : Str → Option Value) (C fI cc cda : Addr) (qual prm fld : Str) (params : Arguments) (scope : Scope) (fd : FuncData) (bd : List Stmt) : Prop where
  fdE : ∃ kV doc pm an ct, fd = PySem.W.fnX "__init__" qual params bd scope [("__class__", cc)] .none kV doc pm an (.ref cda) ct
  lk : ∃ oc od sl, K.lookup fI = some ⟨oc, od, .func fd, sl⟩
  code : PySem.W.codeIn K (.ref cda) qual = true
  file : ∃ ccl cdd vs ccs file tf, K.lookup cda = some ⟨ccl, cdd, .fields vs, ccs⟩ ∧ vs[2]? = some (.str file tf) ∧ ((P.main.file : Str) == file) = true
  cell : ∃ cl cld csl, K.lookup cc = some ⟨cl, cld, .cell (some (.ref C)), csl⟩
  T : OexC K C
  cd : ∃ cd, PySem.W.clsIn K C = some cd
  self : PySem.W.mroIn K C (.ref C) = some true
  sup : mg "super" = none
  opq : PySem.W.nsIn K cStatics "thirdparty.any" = some none
  nxt : PySem.W.ks_superIn K C C "__init__" = some (some (.builtin "ValueError.__init__"))
  ve : PySem.W.subIn K (.ref C) (.type "ValueError") = some true
  top : (P.main.scope.names.lookup ("super" : Str)).isSome = false
  fld : PySem.W.findIn K (.ref C) fld = some none
  S : NdefX.NScope ["self", prm, "__class__"] ["self", prm] ["__class__"] scope
  hs : scope.names.lookup ("super" : Str) = some .globalImplicit
  dbg : (prm == ("__debug__" : Str)) = false
  cdt : (prm == ("__classdict__" : Str)) = false
  par : ∃ ar : Arg, (params.posonlyargs ++ params.args).head? = some ar ∧ ar.arg = "self"
section
open Builtin
variable {prog : Program} {w : World} {A : Around} {E : Value → Shared → Prop} {h : Heap} {g : Array GenState} {d : Drawn} {t : Nat} {os : OsState}
variable {nm q : Str} {C N : Addr} {bs bm : List Value} {hdct : Bool} {sn : List Str} {sub : List Value} {ab : Bool} {col : Option Bool} {dd : Option Addr} {k0 k1 k2 k3 k5 : Option Value}
theorem call_mw {u e t0 : Addr} {rest : List Value} {Q : Value → Shared → Prop}
    (hC : h.get? C = some (excClassObj nm q C N bs bm hdct sn sub ab col dd k0 k1 k2 k3 k5 "ValueError.__new__")) (he : h.get? e = some (PySem.HandSPX.excO C t0)) (hu : h.get? u = some (PySem.W.kxs_mw "ValueError.__init__" e)) (hrest : rest.length ≤ sizeLine)
    (hq : ∀ h' t1, (∀ b o, b ≠ e → h.get? b = some o → h'.get? b = some o) → h'.get? e = some (PySem.HandSPX.excO C t1) → Q .none ⟨h', g, d, t, os⟩) :
    wpAny (model prog w) A (call (.ref u) rest) Q E ⟨h, g, d, t, os⟩ := by
  refine wpAny_call (codeAny_of_tree ?_)
  show wpAny _ A.in1 (callAny (.ref u) ⟨rest, []⟩) _ _ _
  simp only [callAny]
  refine wpAny_bind (wpAny_load hu ?_)
  simp only [PySem.W.kxs_mw, show (Value.type "method-wrapper" == Value.type "method" || Value.type "method-wrapper" == Value.type "builtin_function_or_method" || Value.type "method-wrapper" == Value.type "method-wrapper") = true by decide, if_true]
  refine PySem.W.KFB.if_so (by decide) ?_
  refine wpAny_bind (PySem.W.check_bound_init PySem.F.excBase_ValueError.toExcCallFacts hC he rfl ?_)
  refine wpAny_bind (wpAny_pure (wpAny_pure ?_))
  refine ⟨plainId_quiet PySem.F.excBase_ValueError.init.plain _, codeAny_builtin PySem.F.excBase_ValueError.initEntry ?_⟩
  rw [Around.under_plainId PySem.F.excBase_ValueError.init.plain _]
  wp_walk
  refine hq _ h.objs.size (fun b o hb ho => ?_) ?_
  · rw [Heap.get?_update_other _ _ (Ne.symm hb)]
    exact Heap.get?_push_of_some _ ho
  · rw [Heap.get?_update_self _ (Heap.get?_push_of_some _ he) rfl]
    rfl
end
def spIni (C : Addr) (fld : Str) : Sp := fun vs H Q _ => ∃ (a : Addr) (i : Int), vs = [.ref a, .int i] ∧ i.natAbs.log2 < 1920 ∧ H a = some (exo a C none) ∧ ∀ d, H d = none → d ≠ a → Q .non (upd (upd H d (exd d [(fld, .int i)])) a (exo a C (some d)))
section
variable {P : Program} {w : World} {K : PySem.W.Frag} {mg : Str → Option Value} {base : Heap} {CX : CXT} {k : Nat} {C fI cc cda : Addr} {qual prm fld : Str} {params : Arguments} {scope : Scope} {js : List Expr} {pj : Pos} {fd : FuncData} {bd : List Stmt}
abbrev nf (qual : Str) (params : Arguments) (bd : List Stmt) (scope : Scope) (cc cda : Addr) : NdefX.NF := ⟨"__init__", qual, params, bd, scope, [("__class__", cc)], cda⟩
theorem look1 {x y : Str} {c c' : Addr} (h : List.lookup y [(x, c)] = some c') : y = x ∧ c' = c := by
  simp only [List.lookup] at h
  split at h
  · rename_i e
    exact ⟨by simpa using e, (Option.some.inj h).symm⟩
  · cases h
theorem ini_ok {p0 p1 pa pc pe ps pf pp pz : Pos} (D : Ini P K mg C fI cc cda qual prm fld params scope fd bd) (hbd : bd = iniB p0 p1 pa pc pe ps pf pp pz pj js prm fld)
    (hcall : ∀ env : Env, ∃ pl : Sem Bool, eval (.Call (.Attribute (.Call (.Name "super" p0) [] [] p1) "__init__" pa) [.JoinedStr js pj] [] pc) env = (do
      let ov ← attributeBase (.Call (.Name "super" p0) [] [] p1) "__init__" env (eval (.Call (.Name "super" p0) [] [] p1) env)
      standAt pa.atName
      let (f, first) ← holding [ov] (getMethod ov "__init__" pl)
      callWith pc f first (backTo pc (starEach [.JoinedStr js pj] env)) []))
    (hj : ∀ (A : Around) (outer : List Env) (s : Shared) (H : Hp) (E : XK), ∃ tj, PE (NdefX.ncx CX P w K mg base ["self", prm, "__class__"] (nf qual params bd scope cc cda) fI A outer s H E) (.JoinedStr js pj) tj ∧
      ∀ (a : Addr) (i : Int) (Q : VK) (H : Hp), i.natAbs.log2 < 1920 → (∀ z, Q (.str z) H) → tj [some (.ref a), some (.int i), some (.ref C)] H Q) :
    FnOk P w K mg base CX (k + 1) fI fd ["self", prm] (spIni C fld) := by
  obtain ⟨kV, doc, pm, an, ct, rfl⟩ := D.fdE
  subst hbd
  obtain ⟨oc, od, sl, lk⟩ := D.lk
  obtain ⟨cl, cld, csl, hcell⟩ := D.cell
  obtain ⟨ccl, cdd, vs0, ccs, file, tf, hcode, hvs, hfile⟩ := D.file
  obtain ⟨ar, har, hself⟩ := D.par
  obtain ⟨cd, hcd⟩ := D.cd
  obtain ⟨nm, q, N, bs, bm, sn, sub, ab, col, dd, k0, k1, k2, k3, k5, hC, hbm⟩ := D.T.cls
  have S := D.S
  refine ⟨fun vs H Q E h => ?_, fun A outer s H args us vs Q E hr e0 hb r hsp => ?_⟩
  · obtain ⟨a, i, rfl, _⟩ := h
    rfl
  obtain ⟨a, i, rfl, hi, ea, kq⟩ := hsp
  have lim : s.heap.NoLimit := e0.mod.nolimit.keeps fun b o e => (e0.bs b o e).1
  have kin : K.In s.heap := e0.mod.kin.keeps fun b o e => (e0.bs b o e).1
  obtain ⟨tj, pj', hjr⟩ := hj A outer s H E
  have CA : NdefX.CellsAt [("__class__", cc)] ["__class__"] [some (.ref C)] s.heap H := {
    len := rfl
    all := fun y c e => by
      obtain ⟨_, rfl⟩ := look1 e
      exact ⟨(e0.bs _ _ (e0.mod.kin _ _ hcell)).2, _, _, kin _ _ hcell, rfl⟩
    inj := fun x y c e1 e2 => (look1 e1).1.trans (look1 e2).1.symm
    has := fun j y e => by
      cases j with
      | zero =>
        cases e
        refine ⟨cc, rfl, fun v ev => ?_⟩
        cases ev
        exact ⟨.ref C, rfl, _, kin _ _ hcell, rfl⟩
      | succ j => cases e }
  cases r with
  | @cons _ u0 _ ur ra r1 =>
  cases r1 with
  | @cons _ u1 _ ur' ri r2 =>
  cases r2
  obtain rfl : u0 = Value.ref a := ra
  have rv : Vals [V.ref a, V.int i] [Value.ref a, u1] := .cons rfl (.cons ri .nil)
  refine ks_codeAny_call_defAt (binds := (["self", prm] : List Str).zip [Value.ref a, u1]) hr.depth (kin _ _ lk) rfl lim (PySem.W.codeRec_of kin D.code) rfl hb S.nocell (fun ⟨n, _⟩ hy => S.par n (List.of_mem_zip hy).1) (fun h₁ hns kp => ?_) S.co S.gen S.kind
  have I : Inv (NdefX.ncx CX P w K mg base ["self", prm, "__class__"] (nf qual params (iniB p0 p1 pa pc pe ps pf pp pz pj js prm fld) scope cc cda) fI A outer s H E) [] [some (.ref a), some (.int i), some (.ref C)] H { s with heap := h₁, toks := s.toks + ((["self", prm] : List Str).zip [Value.ref a, u1]).length } :=
    NdefX.inv_startN (F := nf qual params (iniB p0 p1 pa pc pe ps pf pp pz pj js prm fld) scope cc cda) S hr.hd e0 rfl rv CA hns kp
  have kin1 : K.In h₁ := kin.keeps kp
  have ndP : ((["self", prm] : List Str)).Nodup := S.nd.sublist (List.take_sublist 2 (["self", prm, "__class__"] : List Str))
  obtain ⟨t1, hxo⟩ := exo_at I.hok ea
  have hmro : PySem.W.Looks (model P w) h₁ (PySem.isSubtype (.ref C) (.ref C)) true := PySem.W.looks_mroIn kin1 D.self
  obtain ⟨hh, g, d, t, os⟩ := s
  dsimp only at hxo
  obtain ⟨pl, hc⟩ := hcall (callEnv (PySem.W.fnX "__init__" qual params (iniB p0 p1 pa pc pe ps pf pp pz pj js prm fld) scope [("__class__", cc)] .none kV doc pm an (.ref cda) ct) hh.objs.size fI)
  refine ks_wpAt_execs_cons (ks_wpAt_Expr_any (ks_wpAt_MethodCall (pl := pl) ?_ hc) (hi := by
    have e : (callEnv (PySem.W.fnX "__init__" qual params (iniB p0 p1 pa pc pe ps pf pp pz pj js prm fld) scope [("__class__", cc)] .none kV doc pm an (.ref cda) ct) hh.objs.size fI).scope.kind = .function := S.kind
    unfold interactive
    rw [e]
    rfl))
  refine ks_wpAt_super_base D.hs (S.frk _ (by simp)) (by rfl) rfl (kin1 _ _ lk) rfl har rfl (kin1 _ _ hcode) rfl hvs hfile D.top ?_
  obtain ⟨mb, hb1, hb2⟩ := I.mod.blt
  refine PySem.W.ks_loadName_global S.kind D.hs (Calls.loadGlobal_builtin (by rw [show (callEnv _ _ _).globals = mainGlobals from rfl]; exact I.mod.glob.keeps I.bk) D.sup (hb1.keeps I.bk) ((hb2 _ (by decide)).trans (show bootBuiltins "super" = some (.type "super") by rfl)) ⟨rfl, ?_⟩)
  refine wpAny_loadName_free S.kind (S.frk _ (by simp)) rfl ⟨_, kin1 _ _ hcell, rfl⟩ ?_
  rw [hself]
  refine wpAny_loadName_local S.kind (S.par _ (by simp)) hns (v := .ref a) (NdefX.zip_look (ps := (["self", prm] : List Str)) (us := [Value.ref a, u1]) (i := 0) ndP rfl rfl) ?_
  refine ks_wpAny_isType_cls (kin1 _ _ hC) rfl ⟨rfl, ?_⟩
  refine ks_wpAny_call_super (kin1 _ _ hC) rfl hxo rfl (fun c e => by cases e) hmro (fun h₂ hso k2 => ?_)
  have kin2 : K.In h₂ := kin1.keeps k2
  have hxo2 := k2 _ _ hxo
  have hC2 := kin2 _ _ hC
  have Ix : PySem.W.InstAt h₂ a ({ cls := .ref C, dict := none, data := .fields #[.ref t1, .none, .none, .none, .bool false, .none] } : Obj) C none := ⟨hxo2, rfl, rfl, trivial⟩
  have hnxt := D.nxt
  unfold PySem.W.ks_superIn at hnxt
  rw [hcd] at hnxt
  have I1 := I.kept (t' := t + ((["self", prm] : List Str).zip [Value.ref a, u1]).length) k2
  refine PySem.W.kxs_getMethod (K := K) PySem.W.kxs_ValueError hso (PySem.W.looks_opaque kin2 D.opq) (l₀ := cd.mro) (fun A Q E s k q => wpAny_bind ((PySem.W.looks_clsIn kin2 hcd) A _ E s k (wpAny_pure q))) rfl kin2 hnxt (Ix.type.andThen (PySem.W.looks_subIn kin2 D.ve)) (PySem.W.ks_ne kin2 Ix hcd) (by rfl) ?_
  dsimp only
  have hn : H h₂.objs.size = none := I1.hok.fresh (Nat.le_refl _)
  have fpo := I1.fpOk (b := h₂.objs.size) (H' := H) (Nat.le_refl _) hn
  have I2 := I1.kept (h' := h₂.push (PySem.W.kxs_mw "ValueError.__init__" a)) (t' := t + ((["self", prm] : List Str).zip [Value.ref a, u1]).length + 1) fun b o e => Heap.get?_push_of_some _ e
  have I3 := I2.pins_of (pins' := [(h₂.objs.size, PySem.W.kxs_mw "ValueError.__init__" a)]) (fun p hp => by
    rw [List.mem_singleton.mp hp]
    exact ⟨Heap.get?_push_size _ rfl, hn, fpo.2.1, fpo.2.2.1, fun v e => by cases e⟩)
  refine PySem.W.kxs_callWith (i := "ValueError.__init__") (x := a) rfl (Calls.evalArgs_plain ?_)
  refine Calls.spliced_cons (thn (pj'.run _ _ _ _ (fun v H1 => (∃ z, v = V.str z) ∧ H = H1) I3 (hjr a i _ H hi fun z => ⟨⟨z, rfl⟩, rfl⟩)) fun u s1 hh1 => ?_)
  obtain ⟨v, H1, I4, rv4, ⟨z, rfl⟩, rfl⟩ := hh1
  obtain ⟨h₄, g4, d4, t4, os4⟩ := s1
  have hmw := (I4.pin (h₂.objs.size, PySem.W.kxs_mw "ValueError.__init__" a) (by simp)).1
  obtain ⟨t5, hxo4⟩ := exo_at I4.hok ea
  refine Calls.spliced_nil ⟨hmw, ?_⟩
  refine call_mw (I4.kIn _ _ hC) hxo4 hmw (by show 1 ≤ sizeLine; decide) fun h₅ t6 k5' hx5 => ?_
  have J0 := I4.write (t' := t4) (x := a) (e := a) (o := exo a C none) (by rw [ea]; exact True.intro) (.inl rfl) k5' ⟨_, hx5⟩ (exo_ok hx5)
  have eu : upd H a (exo a C none) = H := by
    funext b
    by_cases hb : b = a
    · rw [hb, upd_same, ea]
    · rw [upd_ne hb]
  rw [eu] at J0
  refine wpAt_of_wpAny ?_
  have ht : PSs (NdefX.ncx CX P w K mg base ["self", prm, "__class__"] (nf qual params (iniB p0 p1 pa pc pe ps pf pp pz pj js prm fld) scope cc cda) fI A outer ⟨hh, g, d, t, os⟩ H E) [.Assign [.Attribute (.Name "self" ps) fld pf] (.Name prm pp) pz] _ :=
    pss_one (ps_ost (pe_var (i := 0) rfl (.inl (S.par _ (by simp)))) (pe_var (i := 1) rfl (.inl (S.par _ (by simp))) (hd := D.dbg) (hcd := D.cdt)))
  refine wpAny_mono (ht.run _ _ _ H { nx := fun _ H' => Q .non H', rt := Q } J0 ⟨_, rfl, _, rfl, a, C, rfl, D.T, D.fld, .inl ⟨ea, fun dx hn hne => kq dx hn hne⟩⟩) (fun fl s' hs => ?_) fun e s' hs => hs
  cases fl with
  | ret u =>
    obtain ⟨v, σ', H', J, rv, q⟩ := hs
    exact ⟨v, H', J.os, J.bare, J.base, J.hok, rv, q⟩
  | next =>
    obtain ⟨σ', H', J, q⟩ := hs
    exact ⟨V.non, H', J.os, J.bare, J.base, J.hok, rfl, q⟩
  | brk =>
    obtain ⟨_, _, _, q⟩ := hs
    exact False.elim q
  | cont =>
    obtain ⟨_, _, _, q⟩ := hs
    exact False.elim q
end
/-- making one: what is promised -/
def OIni (P : Program) (w : World) (K : PySem.W.Frag) (mg : Str → Option Value) (base : Heap) (x : Str) (C : Addr) (fld : Str) : Prop :=
  ∃ (fI : Addr) (fd : FuncData) (prm : Str), FnOk P w K mg base CX0 1 fI fd ["self", prm] (spIni C fld) ∧ PySem.W.findIn K (.ref C) "__init__" = some (some (.ref fI)) ∧ PySem.W.typeIn K (.ref fI) = some (.type "function") ∧ Binds K fd ["self", prm] [] ∧ OexC K C ∧ mg x = some (.ref C)
/-- X(e): the error and its one field -/
def tErr (C : Addr) (fld : Str) (ta : TA) : L2.St → Hp → XK → Prop := fun σ H Q => ta σ H fun vs H1 => ∃ i : Int, vs = [.int i] ∧ i.natAbs.log2 < 1920 ∧ ∀ d, H1 d = none → Q (.ref C) (some d) (upd H1 d (.xd [(fld, .int i)]))
section
variable {X : Cx} {x fld : Str} {C : Addr} {e : Expr} {ta : TA} {p pos : Pos}
theorem pmk_err (O : OIni X.prog X.w X.K X.mg X.base x C fld) (hr : Room 2 X.A) (hx : Passes CX0 X (fun _ _ _ => False)) (hg : Gl X x) (ha : PA X [e] ta)
    (hdb : (x == ("__debug__" : Str)) = false := by decide) (he : starEach [e] X.env = (false, eval e X.env) :: starEach [] X.env := by rfl) (hpl : (backTo pos (starEach [] X.env)).any (·.1) = false := by rfl) :
    L2N.PMk X (.Call (.Name x p) [e] [] pos) (tErr C fld ta) := by
  intro pins s σ H Q I h
  obtain ⟨fI, fd, prm, F1, iC, tI, hb, T, hm⟩ := O
  obtain ⟨nm, q, N, bs, bm, sn, sub, ab, col, dd, k0, k1, k2, k3, k5, hC, hbm⟩ := T.cls
  refine wpAny_Call_Name_kw (ld_glob I hg hm ?_ hdb)
  refine PySem.W.callWith_K (h₀ := X.base) I.ok.mod.kin T.kC (thn (ha.run pos pins s σ H _ I h) fun us s1 ⟨vs, H1, I1, r1, i, ev, hi, q1⟩ => ⟨I1.kIn, ?_⟩) he hpl
  subst ev
  show wpAny _ _ (call (.ref C) us) _ _ _
  obtain ⟨hp, g, dr, tk, os⟩ := s1
  have hul : us.length = 1 := by
    have z := Paired.length r1
    exact z.symm
  obtain ⟨u1, rfl⟩ : ∃ u1, us = [u1] := match us, hul with | [u1], _ => ⟨u1, rfl⟩
  have hsz : hp.objs.size ≤ hp.objs.size + 1 := Nat.le_succ _
  have hn : H1 (hp.objs.size + 1) = none := I1.hok.fresh hsz
  have kk : ∀ b o, hp.get? b = some o → ((hp.push (PySem.W.kdv_tup [u1])).push (PySem.HandSPX.excO C hp.objs.size)).get? b = some o := fun b o e => Heap.get?_push_of_some _ (Heap.get?_push_of_some _ e)
  have hget : ((hp.push (PySem.W.kdv_tup [u1])).push (PySem.HandSPX.excO C hp.objs.size)).get? (hp.objs.size + 1) = some (PySem.HandSPX.excO C hp.objs.size) := by heap_get
  have I2 : Inv X pins σ (upd H1 (hp.objs.size + 1) (exo (hp.objs.size + 1) C none)) ⟨(hp.push (PySem.W.kdv_tup [u1])).push (PySem.HandSPX.excO C hp.objs.size), g, dr, tk, os⟩ :=
    I1.laid (t' := tk) (a := hp.objs.size + 1) (o := exo (hp.objs.size + 1) C none) (h' := (hp.push (PySem.W.kdv_tup [u1])).push (PySem.HandSPX.excO C hp.objs.size)) kk hsz (exo_ok hget)
  have r2 : Vals [V.ref (hp.objs.size + 1), V.int i] [Value.ref (hp.objs.size + 1), u1] := .cons rfl r1
  have hq : spIni C fld [V.ref (hp.objs.size + 1), V.int i] (upd H1 (hp.objs.size + 1) (exo (hp.objs.size + 1) C none)) (fun v H2 => v = .non ∧ ∃ d, H1 d = none ∧ d ≠ hp.objs.size + 1 ∧ H2 = upd (upd (upd H1 (hp.objs.size + 1) (exo (hp.objs.size + 1) C none)) d (exd d [(fld, .int i)])) (hp.objs.size + 1) (exo (hp.objs.size + 1) C (some d))) (fun _ _ _ => False) :=
    ⟨_, i, rfl, hi, upd_same, fun d hd hne => ⟨rfl, d, by rw [upd_ne hne] at hd; exact hd, hne, rfl⟩⟩
  have hl : ([Value.ref (hp.objs.size + 1), u1] ++ []).length = ([("self" : Str), prm] : List Str).length := rfl
  have hus : [u1].length ≤ sizeLine := by show 1 ≤ sizeLine; decide
  refine wpAny_call (PySem.HandSPX.call_own PySem.F.excBase_ValueError (fun Y => PySem.HandSPX.refsVE_contains Y bm hbm) (I1.kIn _ _ hC) (PySem.W.looks_findIn I1.kIn iC) (fun self => PySem.W.bind_fn I1.kIn self tI) hus
    (codeAny_mono (F1.run _ X.stack _ _ ⟨[Value.ref (hp.objs.size + 1), u1], []⟩ [Value.ref (hp.objs.size + 1), u1] _ _ (fun _ _ _ => False) (hr.make C [u1] []) (I2.env0.make C [u1] []) (hb _ [Value.ref (hp.objs.size + 1), u1] I2.kIn hl) r2 hq) fun r s' hq' => ?_))
  cases r with
  | error er => exact hx pins σ _ _ er s' I2 hq'
  | ok fl =>
    cases fl with
    | ret u =>
      obtain ⟨v, H2, os2, bare2, un2, hok2, rv, ev, d, hd1, hne, eH⟩ := hq'
      subst ev
      obtain ⟨h2, g2, d2, t2, os'⟩ := s'
      refine ⟨rv, ?_⟩
      have ea : H2 (hp.objs.size + 1) = some (exo (hp.objs.size + 1) C (some d)) := by rw [eH, upd_same]
      have ed : H2 d = some (exd d [(fld, .int i)]) := by rw [eH, upd_ne hne, upd_same]
      obtain ⟨t0, G, J, kG, ge, hoe, na⟩ := mk_end0 (d2 := d2) (t2 := t2) I1 hsz kk un2 hok2 os2 bare2 ea ed hd1
      have eE : upd (del H2 (hp.objs.size + 1)) d (.xd [(fld, .int i)]) = upd H1 d (.xd [(fld, .int i)]) := by
        funext b
        by_cases hb1 : b = d
        · rw [hb1, upd_same, upd_same]
        · rw [upd_ne hb1, upd_ne hb1]
          by_cases hb2 : b = hp.objs.size + 1
          · rw [hb2, del_same, hn]
          · rw [del_ne hb2, eH, upd_ne hb2, upd_ne hb1, upd_ne hb2]
      rw [eE] at J na
      exact ⟨_, _, _, ⟨G, g2, d2, t2, os'⟩, _, .ref C, some d, rfl, J, kG, ge, hoe, ⟨rfl, rfl, fun vs e => by cases e; rfl⟩, rfl, rfl, na, rfl, bare2, raises_own T.exC T.tyC, q1 d hd1⟩
    | next => exact False.elim hq'
    | brk => exact False.elim hq'
    | cont => exact False.elim hq'
end
end OE
namespace PySem.W
open PySem PySem.Spec PySem.Calls PyProof.Rows
/-! isinstance of a caught error that has its dict -/
section
variable {prog : Program} {w : World} {A : Around} {E : Value → Shared → Prop} {s : Shared} {K : Frag} {x D : Addr} {ox : Obj} {od : Option Obj}
theorem findObj_dataD {name : Str} {a g : Value} (hc : (clsIn K D).isSome = true) (ha : findIn K (.ref D) name = some (some a)) (hg : specialIn K a "__get__" = some (some g)) (ht : takesIn K a = some true) : findObj K D od name = some (.bind g a) := by
  obtain ⟨cd, hc⟩ := Option.isSome_iff_exists.mp hc
  unfold findObj
  rw [hc, Option.bind_some, ha, Option.bind_some]
  simp [hg, ht]
theorem classE (C : L2.ExcC K D) (X : K.In s.heap) (I : InstAt s.heap x ox D od) {Q : Option Value → Shared → Prop} (h : Q (some (.ref D)) { s with toks := s.toks + 1 }) : wpAny (model prog w) A (getAttr? (.ref x) "__class__") Q E s := by
  have hf : findObj K D od "__class__" = some (.bind (.builtin "getset_descriptor.__get__") (.builtin "object.__class__")) := findObj_dataD (by obtain ⟨cd, hc, _⟩ := any_some C.hd; rw [hc]; rfl) C.ha C.hn C.ht
  obtain ⟨hp, g, d, t, os⟩ := s
  have L0 := I.type (M := model prog w)
  have sub : Looks (model prog w) hp (isInstance (.ref x) (.type "BaseException")) true := L0.andThen (looks_subIn X C.hs)
  have hx0 : (false && onTheHeap (Value.builtin "BaseException.__getattribute__")) = false := rfl
  have hx1 : (onTheHeap (Value.ref D) && Value.builtin "BaseException.__getattribute__" == Value.builtin "object.__getattribute__") = false := by
    rw [show (Value.builtin "BaseException.__getattribute__" == Value.builtin "object.__getattribute__") = false by decide +kernel]
    rfl
  unfold getAttr? getAttrBy? getAttrBy
  refine wpAny_bind (wpAny_mkText (wpAny_bind (wpAny_attempt (wpAny_holding (wpAny_bind (L0.at (wpAny_bind ((looks_findIn X C.hg).at ?_))))))))
  show wpAny _ _ (if (onTheHeap (Value.ref D) && Value.builtin "BaseException.__getattribute__" == Value.builtin "object.__getattribute__") = true then _ else _) _ _ _
  rw [hx1, if_neg Bool.false_ne_true]
  unfold getAttrByItsOwn hookBefore
  refine wpAny_bind ?_
  rw [if_pos (show onTheHeap (Value.ref D) = true from rfl)]
  refine (looks_findIn X C.hk).at ?_
  refine wpAny_bind (wpAny_attempt (wpAny_holding ?_))
  unfold callGetattribute
  rw [hx0, if_neg Bool.false_ne_true]
  unfold boundAndCalled
  rw [PySem.F.excAttr_ValueError.ga.bind (.ref x)]
  refine wpAny_bind (wpAny_pure ?_)
  show wpAny _ _ (call (.builtin "BaseException.__getattribute__") [.ref x, .str "__class__" t]) _ _ _
  refine wpAny_call (codeAny_call_builtin PySem.F.excAttr_ValueError.ga.plain PySem.F.entry_bexc_ga ?_)
  refine @check_slot (model prog w) _ _ ⟨hp, g, d, t + 1, os⟩ "BaseException.__getattribute__" "BaseException" "__getattribute__" (.ref x) [.str "__class__" t] [] _ (by decide +kernel) (by decide +kernel) sub (PySem.F.args_bexc_ga (.ref x) (.str "__class__" t)) ?_
  unfold Builtin.«object.__getattribute__»
  refine wpAny_bind (wpAny_of_eq (a := ((Value.ref x : Value), [Value.str "__class__" t])) (by first | rfl | (simp only [slotArgs]; rfl)) ?_)
  refine wpAny_bind (wpAny_pure (wpAny_bind (L0.at (wpAny_bind ((looks_find X I hf).at ?_)))))
  show wpAny _ _ (holding [Value.builtin "object.__class__"] (call (.builtin "getset_descriptor.__get__") [.builtin "object.__class__", .ref x, .ref D]) >>= ret) _ _ _
  refine wpAny_bind (wpAny_holding (wpAny_call (class_get (s := ⟨hp, g, d, t + 1, os⟩) (ox := ox) (od := od) X I C.hm ?_)))
  refine wpAny_pure ?_
  show wpAny _ _ (handedOut (.ref D)) _ _ _
  rw [handedOut_of (v := .ref D) rfl]
  first
    | exact wpAny_pure (wpAny_pure h)
    | exact wpAny_pure h
    | exact wpAny_pure (wpAny_bind (wpAny_pure (wpAny_pure h)))
theorem kitx_err (C : L2.ExcC K D) : KitX K (.ref x) (.ref D) (fun h => InstAt h x ox D od) where
  ty := fun _ _ _ I => I.type
  it := fun _ _ X _ => by
    obtain ⟨cdD, hcD, _⟩ := any_some C.hd
    unfold clsIn at hcD
    split at hcD
    · rename_i c' d' cd' sl' ho
      intro A' Q' E' s' k q
      unfold isType loadHead
      exact wpAny_bind (wpAny_loadPart (k _ _ (X _ _ ho)) (wpAny_pure q))
    · cases hcD
  ne := fun h tp dd its n sl X htp => by
    obtain ⟨cdD, hcD, _⟩ := any_some C.hd
    refine Bool.eq_false_iff.mpr fun q => ?_
    have e : D = tp := Value.ref.inj (beq_iff_eq.mp q)
    subst e
    unfold clsIn at hcD
    split at hcD
    · rename_i c' d' cd' sl' ho
      have z := (X _ _ ho).symm.trans htp
      cases z
    · cases hcD
  ca := fun X I k => classE C X I k
end
end PySem.W
namespace OE
open PySem PySem.Spec PyProof.Rows L2
/-- isinstance(e, c), e the error that the suite holds, d its dict -/
def rIsX (K : PySem.W.Frag) (D a : Addr) (cls : Value) (d : Option Addr) : List V → Hp → VK → Prop := fun xs H Q => ∃ (c : V) (cv : Value) (b : Bool) (dd : Addr) (fs : List (Str × V)), xs = [.ref a, c] ∧ cls = .ref D ∧ (∀ u, RelV c u → u = cv) ∧ PySem.W.kitOne K (.ref D) cv = some b ∧ d = some dd ∧ H dd = some (.xd fs) ∧ Q (.bl b) H
theorem call_isX {X : Cx} {a D : Addr} {oe : Obj} {cls : Value} {d : Option Addr} {pn : List (Addr × Obj)} (C : ExcC X.K D) (hz : Zc cls d oe) (hf : ∃ vs, oe.data = .fields vs) : CallR (X.suite a ((a, oe) :: pn)) (.builtin "isinstance") (rIsX X.K D a cls d) := by
  intro pins s σ H xs us Q I r h
  obtain ⟨c, cv, b, dd, fs, rfl, rfl, hcv, e, rfl, hd, q⟩ := h
  cases r with
  | cons rx rr =>
    cases rr with
    | cons rt rr =>
      cases rr
      cases rx
      have ec := hcv _ rt
      subst ec
      obtain ⟨hget, _⟩ := I.pin (a, oe) (List.mem_append.mpr (.inl List.mem_cons_self))
      obtain ⟨vs, hv⟩ := hf
      have hx : ObjOk X.prog X.w H s.heap dd (.xd fs) := I.hok dd _ hd
      obtain ⟨mA, hns, _⟩ := hx
      obtain ⟨od, ho, _⟩ := lookIn_ns hns
      have J : PySem.W.InstAt s.heap a oe D (some od) := ⟨hget, hz.1, by unfold PySem.W.notCls; rw [hv] <;> rfl, by rw [hz.2]; exact ho⟩
      exact PySem.W.kia_one (PySem.W.kitx_err C) I.kIn J e (fun z => nomatch z) fun tk => ⟨.bl b, H, I.kept (t' := tk) fun _ _ z => z, rfl, q⟩
/-- the same of an error that has no dict -/
def rIsN (K : PySem.W.Frag) (D a : Addr) (cls : Value) (d : Option Addr) : List V → Hp → VK → Prop := fun xs H Q => ∃ (c : V) (cv : Value) (b : Bool), xs = [.ref a, c] ∧ cls = .ref D ∧ d = none ∧ (∀ u, RelV c u → u = cv) ∧ PySem.W.kitOne K (.ref D) cv = some b ∧ Q (.bl b) H
theorem call_isB {X : Cx} {a D D2 : Addr} {oe : Obj} {cls : Value} {d : Option Addr} {pn : List (Addr × Obj)} (C : ExcC X.K D) (C2 : ExcC X.K D2) (hz : Zc cls d oe) (hf : ∃ vs, oe.data = .fields vs) :
    CallR (X.suite a ((a, oe) :: pn)) (.builtin "isinstance") (fun xs H Q => rIsX X.K D a cls d xs H Q ∨ rIsN X.K D2 a cls d xs H Q) := by
  intro pins s σ H xs us Q I r h
  rcases h with h | ⟨c, cv, b, rfl, rfl, rfl, hcv, e, q⟩
  · exact call_isX C hz hf pins s σ H xs us Q I r h
  · exact call_isE C2 hz hf pins s σ H _ us Q I r ⟨c, cv, b, rfl, hcv, e, q⟩
/-- what the written part says of the class x -/
def OErr (P : Program) (K : PySem.W.Frag) (mg : Str → Option Value) (x : Str) (C : Addr) (prm fld : Str) (params : Arguments) (scope : Scope) (bd : List Stmt) : Prop :=
  ∃ (fI cc cda : Addr) (qual : Str) (fd : FuncData), Ini P K mg C fI cc cda qual prm fld params scope fd bd ∧ PySem.W.findIn K (.ref C) "__init__" = some (some (.ref fI)) ∧ PySem.W.typeIn K (.ref fI) = some (.type "function") ∧ Binds K fd ["self", prm] [] ∧ mg x = some (.ref C) ∧ XfC K C ∧ ExcC K C
theorem OErr.f {P : Program} {K : PySem.W.Frag} {mg : Str → Option Value} {x : Str} {C : Addr} {prm fld : Str} {params : Arguments} {scope : Scope} {bd : List Stmt} (O : OErr P K mg x C prm fld params scope bd) : XfC K C := by
  obtain ⟨fI, cc, cda, qual, fd, _, _, _, _, _, h, _⟩ := O
  exact h
theorem OErr.e {P : Program} {K : PySem.W.Frag} {mg : Str → Option Value} {x : Str} {C : Addr} {prm fld : Str} {params : Arguments} {scope : Scope} {bd : List Stmt} (O : OErr P K mg x C prm fld params scope bd) : ExcC K C := by
  obtain ⟨fI, cc, cda, qual, fd, _, _, _, _, _, _, h⟩ := O
  exact h
theorem OErr.n {P : Program} {K : PySem.W.Frag} {mg : Str → Option Value} {x : Str} {C : Addr} {prm fld : Str} {params : Arguments} {scope : Scope} {bd : List Stmt} (O : OErr P K mg x C prm fld params scope bd) : PySem.W.findIn K (.ref C) fld = some none := by
  obtain ⟨fI, cc, cda, qual, fd, h, _⟩ := O
  exact h.fld
theorem oini_of {P : Program} {w : World} {K : PySem.W.Frag} {mg : Str → Option Value} {base : Heap} {x : Str} {C : Addr} {prm fld : Str} {params : Arguments} {scope : Scope} {bd : List Stmt} {js : List Expr} {pj p0 p1 pa pc pe ps pf pp pz : Pos} (O : OErr P K mg x C prm fld params scope bd) (hbd : bd = iniB p0 p1 pa pc pe ps pf pp pz pj js prm fld)
    (hcall : ∀ env : Env, ∃ pl : Sem Bool, eval (.Call (.Attribute (.Call (.Name "super" p0) [] [] p1) "__init__" pa) [.JoinedStr js pj] [] pc) env = (do
      let ov ← attributeBase (.Call (.Name "super" p0) [] [] p1) "__init__" env (eval (.Call (.Name "super" p0) [] [] p1) env)
      standAt pa.atName
      let (f, first) ← holding [ov] (getMethod ov "__init__" pl)
      callWith pc f first (backTo pc (starEach [.JoinedStr js pj] env)) []))
    (hj : ∀ (cc cda fI : Addr) (qual : Str) (A : Around) (outer : List Env) (s : Shared) (H : Hp) (E : XK), ∃ tj, PE (NdefX.ncx CX0 P w K mg base ["self", prm, "__class__"] (nf qual params bd scope cc cda) fI A outer s H E) (.JoinedStr js pj) tj ∧
      ∀ (a : Addr) (i : Int) (Q : VK) (H : Hp), i.natAbs.log2 < 1920 → (∀ z, Q (.str z) H) → tj [some (.ref a), some (.int i), some (.ref C)] H Q) : OIni P w K mg base x C fld := by
  obtain ⟨fI, cc, cda, qual, fd, D, h1, h2, h3, h4, _⟩ := O
  exact ⟨fI, fd, prm, ini_ok D hbd hcall (hj cc cda fI qual), h1, h2, h3, D.T, h4⟩
theorem oerr_mk {P : Program} {K : PySem.W.Frag} {h : Heap} {mg : Str → Option Value} {x qual prm fld file : Str} {C fI cc cda N : Addr} {params : Arguments} {scope : Scope} {bd : List Stmt} {nm q : Str} {bs bm : List Value} {sn : List Str} {sub : List Value} {ab : Bool} {col : Option Bool} {dd od an cdd cld : Option Addr} {k0 k1 k2 k3 k5 : Option Value} {kV doc pm ct oc ccl cl : Value} {sl ccs csl : Array (Option Value)} {vs : Array Value} {tf : Tok}
    (X : K.In h) (G : h.Ns mainGlobals mg) (S : NdefX.NScope ["self", prm, "__class__"] ["self", prm] ["__class__"] scope) (hs : scope.names.lookup ("super" : Str) = some .globalImplicit) (dbg : (prm == ("__debug__" : Str)) = false) (cdt : (prm == ("__classdict__" : Str)) = false)
    (par : ∃ ar : Arg, (params.posonlyargs ++ params.args).head? = some ar ∧ ar.arg = "self")
    (hb : ∀ (kV doc pm : Value) (an : Option Addr) (cdv ct : Value) (us : List Value), us.length = 2 → bindArgs (PySem.W.fnX "__init__" qual params bd scope [("__class__", cc)] .none kV doc pm an cdv ct) ⟨us, []⟩ = pure (([("self" : Str), prm] : List Str).zip us))
    (a : PySem.W.nsIn K mainGlobals x = some (some (.ref C))) (i : PySem.W.findIn K (.ref C) "__init__" = some (some (.ref fI))) (t : PySem.W.typeIn K (.ref fI) = some (.type "function"))
    (l : K.lookup fI = some ⟨oc, od, .func (PySem.W.fnX "__init__" qual params bd scope [("__class__", cc)] .none kV doc pm an (.ref cda) ct), sl⟩) (c : PySem.W.codeIn K (.ref cda) qual = true)
    (f : K.lookup cda = some ⟨ccl, cdd, .fields vs, ccs⟩) (fv : vs[2]? = some (.str file tf)) (ff : ((P.main.file : Str) == file) = true) (ce : K.lookup cc = some ⟨cl, cld, .cell (some (.ref C)), csl⟩)
    (xL : K.lookup C = some (excClassObj nm q C N bs bm true sn sub ab col dd k0 k1 k2 k3 k5 "ValueError.__new__")) (xb : PySem.HandSPX.refsVE bm = true) (sa : PySem.W.findIn K (.ref C) "__setattr__" = some (some (.builtin "object.__setattr__")))
    (b : PySem.W.subIn K (.ref C) (.type "BaseException") = some true) (tc : PySem.W.typeIn K (.ref C) = some (.type "type")) (k : PySem.W.keepIn K (.ref C) = true) (se : PySem.W.mroIn K C (.ref C) = some true) (su : PySem.W.nsIn K mainGlobals "super" = some none)
    (op : PySem.W.nsIn K cStatics "thirdparty.any" = some none) (nx : PySem.W.ks_superIn K C C "__init__" = some (some (.builtin "ValueError.__init__"))) (ve : PySem.W.subIn K (.ref C) (.type "ValueError") = some true) (tp : (P.main.scope.names.lookup ("super" : Str)).isSome = false)
    (fl : PySem.W.findIn K (.ref C) fld = some none) (ga : PySem.W.findIn K (.ref C) "__getattribute__" = some (some (.builtin "BaseException.__getattribute__"))) (gg : PySem.W.findIn K (.ref C) "__getattr__" = some none) (hd : PySem.W.hasDictIn K C = true)
    (ha : PySem.W.findIn K (.ref C) "__class__" = some (some (.builtin "object.__class__"))) (hn : PySem.W.specialIn K (.builtin "object.__class__") "__get__" = some (some (.builtin "getset_descriptor.__get__"))) (ht : PySem.W.takesIn K (.builtin "object.__class__") = some true) (hm : PySem.W.mroIn K C (.type "object") = some true) :
    OErr P K mg x C prm fld params scope bd :=
  ⟨fI, cc, cda, qual, _, ⟨⟨_, _, _, _, _, rfl⟩, ⟨_, _, _, l⟩, c, ⟨_, _, _, _, _, _, f, fv, ff⟩, ⟨_, _, _, ce⟩, ⟨⟨_, _, _, _, _, _, _, _, _, _, _, _, _, _, _, xL, xb⟩, sa, b, tc, k⟩,
      ⟨_, (by unfold PySem.W.clsIn; rw [xL] <;> rfl)⟩, se, PySem.W.mg_none_of X G su, op, nx, ve, tp, fl, S, hs, dbg, cdt, par⟩,
    i, t, Binds.all fun us hl => hb _ _ _ _ _ _ us hl, PySem.W.mg_of X G a, ⟨ga, gg, b, hd⟩, ⟨ga, gg, b, hd, ha, hn, ht, hm⟩⟩
end OE

namespace My
open PySem PySem.Spec PyProof.Rows L2 Cm 
def top (i : Nat) : Stmt := PySem.Challenge.pw_scanpages_k02_read_number.main.body.getD i (.Pass ⟨0, 0, 0, 0⟩)
abbrev s_EncodingError___init__ : Stmt := (inClass (top 3) 0)
abbrev N_EncodingError___init__ : List Str := ["self", "position"]
abbrev s_read_number : Stmt := (top 7)
abbrev N_read_number : List Str := ["octets", "start", "number", "weight", "at", "octet"]
theorem sc_read_number : FnScope N_read_number ["octets", "start"] (defScope s_read_number) := ⟨rfl, rfl, rfl, by decide +kernel, rfl, by decide +kernel, by decide +kernel⟩
abbrev s__law_cell : Stmt := (top 9)
abbrev N__law_cell : List Str := ["script", "k"]
theorem sc__law_cell : FnScope N__law_cell ["script", "k"] (defScope s__law_cell) := ⟨rfl, rfl, rfl, by decide +kernel, rfl, by decide +kernel, by decide +kernel⟩
abbrev s__law_mix : Stmt := (top 10)
abbrev N__law_mix : List Str := ["cell", "k", "number"]
theorem sc__law_mix : FnScope N__law_mix ["cell", "k"] (defScope s__law_mix) := ⟨rfl, rfl, rfl, by decide +kernel, rfl, by decide +kernel, by decide +kernel⟩
abbrev s__law_row : Stmt := (top 11)
abbrev N__law_row : List Str := ["cell", "count", "bound", "found", "rest", "k"]
theorem sc__law_row : FnScope N__law_row ["cell", "count", "bound"] (defScope s__law_row) := ⟨rfl, rfl, rfl, by decide +kernel, rfl, by decide +kernel, by decide +kernel⟩
abbrev s__law_is_int : Stmt := (top 12)
abbrev N__law_is_int : List Str := ["value"]
theorem sc__law_is_int : FnScope N__law_is_int ["value"] (defScope s__law_is_int) := ⟨rfl, rfl, rfl, by decide +kernel, rfl, by decide +kernel, by decide +kernel⟩
abbrev s__law_number : Stmt := (top 13)
abbrev N__law_number : List Str := ["number", "octets", "rest", "k"]
theorem sc__law_number : FnScope N__law_number ["number"] (defScope s__law_number) := ⟨rfl, rfl, rfl, by decide +kernel, rfl, by decide +kernel, by decide +kernel⟩
abbrev s__law_read : Stmt := (top 14)
abbrev N__law_read : List Str := ["octets", "start", "number", "weight", "k", "at"]
theorem sc__law_read : FnScope N__law_read ["octets", "start"] (defScope s__law_read) := ⟨rfl, rfl, rfl, by decide +kernel, rfl, by decide +kernel, by decide +kernel⟩
abbrev s_law : Stmt := (top 15)
abbrev N_law : List Str := ["script", "size", "octets", "kind", "octet", "start", "due", "copy", "actual", "e"]
theorem sc_law : FnScope N_law ["script"] (defScope s_law) := ⟨rfl, rfl, rfl, by decide +kernel, rfl, by decide +kernel, by decide +kernel⟩
structure Txt (P : Program) (K : PySem.W.Frag) (mg : Str → Option Value) (C_InvalidNumber C_EncodingError : Addr) : Prop where
  d_read_number : Dn K mg "read_number" s_read_number ["octets", "start"]
  d__law_cell : Dn K mg "_law_cell" s__law_cell ["script", "k"]
  d__law_mix : Dn K mg "_law_mix" s__law_mix ["cell", "k"]
  d__law_row : Dn K mg "_law_row" s__law_row ["cell", "count", "bound"]
  d__law_is_int : Dn K mg "_law_is_int" s__law_is_int ["value"]
  d__law_number : Dn K mg "_law_number" s__law_number ["number"]
  d__law_read : Dn K mg "_law_read" s__law_read ["octets", "start"]
  d_law : Dn K mg "law" s_law ["script"]
  c_BASE : CV mg "BASE" (.int 128)
  c_MOST_DIGITS : CV mg "MOST_DIGITS" (.int 5)
  n_range : mg "range" = none
  n_len : mg "len" = none
  n_int : mg "int" = none
  n_abs : mg "abs" = none
  n_isinstance : mg "isinstance" = none
  n_bool : mg "bool" = none
  n_list : mg "list" = none
  n_tuple : mg "tuple" = none
  x_InvalidNumber : XCl K mg "InvalidNumber" C_InvalidNumber
  x_EncodingError : XB K mg "EncodingError" C_EncodingError
  o_EncodingError : OE.OErr P K mg "EncodingError" C_EncodingError "position" "position" (defArgs s_EncodingError___init__) (defScope s_EncodingError___init__) (defBody s_EncodingError___init__)
  q_EncodingError_InvalidNumber : PySem.W.kitOne K (.ref C_EncodingError) (.ref C_InvalidNumber) = some false
  s_EncodingError_EncodingError : PySem.W.subIn K (.ref C_EncodingError) (.ref C_EncodingError) = some true
section
variable {P : Program} {w : World} {K : PySem.W.Frag} {mg : Str → Option Value} {base : Heap} {C_InvalidNumber C_EncodingError : Addr}
/-- the cell's promise -/
def spCell (K : PySem.W.Frag) : Sp := fun vs H Q _ => ∃ (l : Addr) (ns : List Int) (k : Nat), vs = [.ref l, .int (k : Int)] ∧ SqL K H l (ns.map V.int) ∧ Q (.int (cell ns k)) H
theorem ok__law_cell (T : Txt P K mg C_InvalidNumber C_EncodingError) : Ok P w K mg base CX0 1 "_law_cell" ["script", "k"] (spCell K) := by
  refine ok_of T.d__law_cell fun f fd F => F.ok sc__law_cell (fun vs H Q E h => ?_) (fun cdv A outer s H vs Q E hr h => ?_)
  · obtain ⟨l, ns, k, rfl, _⟩ := h
    rfl
  · obtain ⟨l, ns, k, rfl, hs, q⟩ := h
    refine ⟨_,       (pss_cons (ps_if (pt_cmpR op_lt (pv 1) (pe_callB call_len_seq (by rfl) T.n_len PySem.boot_len (pa_cons (pv 0) pa_nil)) (nomark _))
        (pss_one (ps_ret (pe_callTy call_int1 (by rfl) T.n_int (by decide +kernel) (pa_cons (pe_ix ix_list (pv 0) (pv 1) (fun _ _ => rfl)) pa_nil)))) pss_nil)
      (pss_one (ps_ret pe_int))), ?_⟩
    refine ⟨_, rfl, _, rfl, l, _, rfl, .inl hs, _, _, rfl, rfl, _, rfl, itd (fun h => ?_) (fun h => ?_)⟩
    · have hk : k < ns.length := by
        rw [List.length_map] at h
        omega
      refine ⟨_, rfl, _, rfl, l, _, _, .int ns[k], rfl, rfl, hs, atI_nat (by rw [List.getElem?_map, List.getElem?_eq_getElem hk]; rfl), .inl ⟨_, rfl, ?_⟩⟩
      rw [Cm.cell_in hk] at q
      exact q
    · have hk : ¬ k < ns.length := by
        rw [List.length_map] at h
        omega
      rw [Cm.cell_out hk] at q
      exact q

def mixI (c k : Int) : Int := ((c * 48271 + k * 69621 + 12345) % 2147483647 * 16807 + k * 40692 + 777) % 2147483629 / 997
def spMix : Sp := fun vs H Q _ => ∃ c k : Int, vs = [.int c, .int k] ∧ Q (.int (mixI c k)) H
theorem ok__law_mix (T : Txt P K mg C_InvalidNumber C_EncodingError) : Ok P w K mg base CX0 1 "_law_mix" ["cell", "k"] spMix := by
  refine ok_of T.d__law_mix fun f fd F => F.ok sc__law_mix (fun vs H Q E h => ?_) (fun cdv A outer s H vs Q E hr h => ?_)
  · obtain ⟨c, k, rfl, _⟩ := h
    rfl
  · obtain ⟨c, k, rfl, q⟩ := h
    have nd := sc__law_mix.nd
    refine ⟨_,       (pss_cons (ps_set (i := 2) nd rfl (Or.inl rfl) (pe_op op_mod (pe_callTy call_int1 (by rfl) T.n_int (by decide +kernel) (pa_cons (pe_op op_add (pe_op op_add (pe_op op_mul (pv 0) pe_int) (pe_op op_mul (pv 1) pe_int)) pe_int) pa_nil)) pe_int))
      (pss_cons (ps_set (i := 2) nd rfl (Or.inl rfl) (pe_op op_mod (pe_callTy call_int1 (by rfl) T.n_int (by decide +kernel) (pa_cons (pe_op op_add (pe_op op_add (pe_op op_mul (pv 2) pe_int) (pe_op op_mul (pv 1) pe_int)) pe_int) pa_nil)) pe_int))
      (pss_one (ps_ret (pe_op op_fdiv (pv 2) pe_int))))), ?_⟩
    refine ⟨_, rfl, _, _, rfl, rfl, .inr (by decide), _, rfl, _, _, rfl, rfl, .inr (by decide), _, _, rfl, rfl, _, _, rfl, rfl, .inl ⟨_, rfl, _, _, rfl, rfl, (by show (0 : Int) < 2147483647; decide), ?_⟩⟩
    refine ⟨_, rfl, _, _, rfl, rfl, .inr (by decide), _, rfl, _, _, rfl, rfl, .inr (by decide), _, _, rfl, rfl, _, _, rfl, rfl, .inl ⟨_, rfl, _, _, rfl, rfl, (by show (0 : Int) < 2147483629; decide), ?_⟩⟩
    exact ⟨_, rfl, _, _, rfl, rfl, ⟨by decide, by decide⟩, q⟩

def divs : Nat → Int → Int → Int
  | 0, x, _ => x
  | k + 1, x, b => divs k x b / b
def rowAt (c : Int) (b : Int) (k : Nat) : Int := if 1000000000000000000 ≤ (if c < 0 then -c else c) then divs k (if c < 0 then -c else c) b % b else mixI c k % b
/-- the digits of a cell, or its mixture -/
def rowL (c : Int) (n : Nat) (b : Int) : List Int := (List.range n).map (rowAt c b)
theorem rowL_len (c : Int) (n : Nat) (b : Int) : (rowL c n b).length = n := by simp [rowL]
theorem rowL_in {c : Int} {n : Nat} {b x : Int} (hb : 0 < b) (h : x ∈ rowL c n b) : 0 ≤ x ∧ x < b := by
  obtain ⟨k, _, rfl⟩ := List.mem_map.mp h
  have z : ∀ y : Int, 0 ≤ y % b ∧ y % b < b := fun y => ⟨Int.emod_nonneg _ (by omega), Int.emod_lt_of_pos _ hb⟩
  by_cases hc : 1000000000000000000 ≤ (if c < 0 then -c else c)
  · rw [rowAt, if_pos hc]
    exact z _
  · rw [rowAt, if_neg hc]
    exact z _
theorem rowL_succ (c : Int) (n : Nat) (b : Int) : rowL c (n + 1) b = rowL c n b ++ [rowAt c b n] := by simp [rowL, List.range_succ]
def spRow : Sp := fun vs H Q _ => ∃ (c : Int) (n : Nat) (b : Int), vs = [.int c, .int (n : Int), .int b] ∧ n ≤ 60000 ∧ 0 < b ∧ b < 1073741824 ∧ ∀ p H', H p = none → Same H H' → H' p = some (.lst ((rowL c n b).map V.int)) → Q (.ref p) H'
theorem ok__law_row (T : Txt P K mg C_InvalidNumber C_EncodingError) : Ok P w K mg base CX0 2 "_law_row" ["cell", "count", "bound"] spRow := by
  have G__law_mix := ok__law_mix (P := P) (w := w) (base := base) T
  refine ok_of T.d__law_row fun f fd F => F.ok sc__law_row (fun vs H Q E h => ?_) (fun cdv A outer s H vs Q E hr h => ?_)
  · obtain ⟨c, n, b, rfl, _⟩ := h
    rfl
  · obtain ⟨c, n, b, rfl, hn, hb0, hb1, kQ⟩ := h
    have nd := sc__law_row.nd
    refine ⟨_,       (pss_cons (ps_set (i := 3) nd rfl (Or.inl rfl) (pe_lst pa_nil))
      (pss_cons (ps_set (i := 4) nd rfl (Or.inl rfl) (pe_callB call_abs (by rfl) T.n_abs (by decide +kernel) (pa_cons (pv 0) pa_nil)))
      (pss_cons (ps_for PassesOwn.never rfl (pi_range1 rfl T.n_range (pa_cons (pv 1) pa_nil)) (pg_name (i := 5) nd rfl (Or.inl rfl))
        (pss_one (ps_if (pt_cmpR op_ge (pe_callB call_abs (by rfl) T.n_abs (by decide +kernel) (pa_cons (pv 0) pa_nil)) pe_int (nomark _))
          (pss_cons (ps_expr (pe_bm PySem.F.plainAttrs_list PySem.F.slot_list_append PySem.F.type_list_append mt_append (pv 3) (pa_cons (pe_op op_mod (pe_callTy call_int1 (by rfl) T.n_int (by decide +kernel) (pa_cons (pv 4) pa_nil)) (pv 2)) pa_nil)))
          (pss_one (ps_set (i := 4) nd rfl (Or.inl rfl) (pe_op op_fdiv (pv 4) (pv 2)))))
          (pss_one (ps_expr (pe_bm PySem.F.plainAttrs_list PySem.F.slot_list_append PySem.F.type_list_append mt_append (pv 3) (pa_cons (pe_op op_mod (pe_callTy call_int1 (by rfl) T.n_int (by decide +kernel) (pa_cons (pe_callO G__law_mix (hr.mono (by decide)) pass0 (pa_cons (pv 0) (pa_cons (pv 5) pa_nil))) pa_nil)) (pv 2)) pa_nil)))))))
      (pss_one (ps_ret (pv 3)))))), ?_⟩
    refine ⟨by decide, fun p hp => ⟨_, rfl, _, rfl, ?_⟩⟩
    refine ⟨_, rfl, (n : Int), rfl, by omega, by omega, for_range (lo := 0) (n := (n : Int).toNat) (fun i σ H' => ∃ (r : Int) (v : Option V), (1000000000000000000 ≤ (if c < 0 then -c else c) → r = divs i (if c < 0 then -c else c) b) ∧ σ = [some (.int c), some (.int (n : Int)), some (.int b), some (.ref p), some (.int r), v] ∧ Same H H' ∧ H' p = some (.lst ((rowL c i b).map V.int))) ⟨_, none, fun _ => rfl, rfl, same_upd hp, upd_same⟩ ?_ ?_⟩
    · rintro i σ H' hi ⟨r, v, hr', rfl, e, hL⟩
      have ei : (0 : Int) + (i : Int) = (i : Int) := by omega
      have hsz : ((rowL c i b).map V.int).length < sizeLine := small (by rw [List.length_map, rowL_len]; omega)
      refine ⟨_, rfl, _, rfl, _, _, rfl, rfl, _, rfl, itd (fun h => ?_) (fun h => ?_)⟩
      · refine ⟨_, rfl, .inl ⟨rfl, _, SqL.of hL⟩, _, rfl, .inl ⟨_, rfl, _, rfl, _, _, rfl, rfl, hb0, p, _, _, rfl, rfl, hL, hsz, ?_⟩⟩
        refine ⟨_, rfl, _, rfl, _, _, rfl, rfl, ⟨hb0, hb1⟩, ?_⟩
        refine ⟨r / b, _, fun z => ?_, rfl, same_new e hp, ?_⟩
        · rw [hr' z]
          rfl
        · rw [upd_same, rowL_succ, rowAt, if_pos h, ← hr' h]
          simp
      · refine ⟨_, rfl, .inl ⟨rfl, _, SqL.of hL⟩, _, rfl, _, rfl, c, 0 + (i : Int), rfl, .inl ⟨_, rfl, _, rfl, _, _, rfl, rfl, hb0, p, _, _, rfl, rfl, hL, hsz, ?_⟩⟩
        refine ⟨r, _, fun z => absurd z h, rfl, same_new e hp, ?_⟩
        rw [upd_same, rowL_succ, rowAt, if_neg h, ei]
        simp
    · rintro σ H' ⟨r, v, _, rfl, e, hL⟩
      refine ⟨_, rfl, kQ p _ hp e ?_⟩
      rw [Int.toNat_natCast] at hL
      exact hL

def spIsInt : Sp := fun vs H Q _ => ∃ i : Int, vs = [.int i] ∧ Q (.bl true) H
theorem ok__law_is_int (T : Txt P K mg C_InvalidNumber C_EncodingError) : Ok P w K mg base CX0 1 "_law_is_int" ["value"] spIsInt := by
  refine ok_of T.d__law_is_int fun f fd F => F.ok sc__law_is_int (fun vs H Q E h => ?_) (fun cdv A outer s H vs Q E hr h => ?_)
  · obtain ⟨i, rfl, _⟩ := h
    rfl
  · obtain ⟨i, rfl, q⟩ := h
    refine ⟨_,       (pss_one (ps_ret (pe_and (pe_callB call_isi (by rfl) T.n_isinstance (by decide +kernel) (pa_cons (pv 0) (pa_cons (pe_bltn (v := .ty "int") (by rfl) T.n_int (by decide +kernel) rfl) pa_nil))) (pe_one (pe_not (pe_callB call_isi (by rfl) T.n_isinstance (by decide +kernel) (pa_cons (pv 0) (pa_cons (pe_bltn (v := .ty "bool") (by rfl) T.n_bool (by decide +kernel) rfl) pa_nil)))))))), ?_⟩
    refine ⟨_, rfl, _, _, _, _, true, rfl, .ty _, .base (.int i), kit_ty (by decide +kernel), true, rfl, iteT ?_⟩
    exact ⟨_, rfl, _, _, _, _, false, rfl, .ty _, .base (.int i), kit_ty (by decide +kernel), false, rfl, q⟩

theorem okH__law_is_int (T : Txt P K mg C_InvalidNumber C_EncodingError) : OkH P w K mg base CX0 1 "_law_is_int" ["value"] spIsInt := by
  refine okH_of T.d__law_is_int sc__law_is_int (fun vs H Q E h => ?_) (fun f cdv A outer s H vs Q E p hot1 hr h => ?_)
  · obtain ⟨i, rfl, _⟩ := h
    rfl
  · obtain ⟨i, rfl, q⟩ := h
    have hot : L2H.HotC (L2H.cxH CX0 P w K mg base N__law_is_int "_law_is_int" (defScope s__law_is_int) f cdv A outer s H E p) := ⟨p, hot1, List.mem_cons_self⟩
    refine ⟨_,       (pss_one (ps_ret (pe_and (pe_callB call_isi (by rfl) T.n_isinstance (by decide +kernel) (pa_cons (pv 0) (pa_cons (pe_bltn (v := .ty "int") (by rfl) T.n_int (by decide +kernel) rfl) pa_nil))) (pe_one (pe_not (pe_callB call_isi (by rfl) T.n_isinstance (by decide +kernel) (pa_cons (pv 0) (pa_cons (pe_bltn (v := .ty "bool") (by rfl) T.n_bool (by decide +kernel) rfl) pa_nil)))))))), ?_⟩
    refine ⟨_, rfl, _, _, _, _, true, rfl, .ty _, .base (.int i), kit_ty (by decide +kernel), true, rfl, iteT ?_⟩
    exact ⟨_, rfl, _, _, _, _, false, rfl, .ty _, .base (.int i), kit_ty (by decide +kernel), false, rfl, q⟩

/-- the digits in base 128 -/
def digs : Nat → Int → List Int
  | 0, r => [r]
  | j + 1, r => if r < 128 then [r] else (r % 128 + 128) :: digs j (r / 128)
def bnd : Nat → Int
  | 0 => 128
  | j + 1 => 128 * bnd j

def spLawNum : Sp := fun vs H Q _ => ∃ n : Int, vs = [.int n] ∧ 0 ≤ n ∧ n ≤ 34359738367 ∧ ∀ p H', H p = none → Same H H' → H' p = some (.lst ((digs 5 n).map V.int)) → Q (.ref p) H'
theorem ok__law_number (T : Txt P K mg C_InvalidNumber C_EncodingError) : Ok P w K mg base CX0 1 "_law_number" ["number"] spLawNum := by
  refine ok_of T.d__law_number fun f fd F => F.ok sc__law_number (fun vs H Q E h => ?_) (fun cdv A outer s H vs Q E hr h => ?_)
  · obtain ⟨n, rfl, _⟩ := h
    rfl
  · obtain ⟨n, rfl, h0, h1, kQ⟩ := h
    have nd := sc__law_number.nd
    refine ⟨_,       (pss_cons (ps_set (i := 1) nd rfl (Or.inl rfl) (pe_lst pa_nil))
      (pss_cons (ps_set (i := 2) nd rfl (Or.inl rfl) (pv 0))
      (pss_cons (ps_for PassesOwn.never rfl (pi_range1 rfl T.n_range (pa_cons pe_int pa_nil)) (pg_name (i := 3) nd rfl (Or.inl rfl))
        (pss_cons (ps_if (pt_cmpR op_lt (pv 2) pe_int (nomark _))
          (pss_cons (ps_expr (pe_bm PySem.F.plainAttrs_list PySem.F.slot_list_append PySem.F.type_list_append mt_append (pv 1) (pa_cons (pv 2) pa_nil)))
          (pss_one (ps_ret (pv 1)))) pss_nil)
        (pss_cons (ps_expr (pe_bm PySem.F.plainAttrs_list PySem.F.slot_list_append PySem.F.type_list_append mt_append (pv 1) (pa_cons (pe_op op_add pe_int (pe_op op_mod (pe_callTy call_int1 (by rfl) T.n_int (by decide +kernel) (pa_cons (pv 2) pa_nil)) pe_int)) pa_nil)))
        (pss_one (ps_set (i := 2) nd rfl (Or.inl rfl) (pe_op op_fdiv (pv 2) pe_int))))))
      (pss_one (ps_ret (pv 1)))))), ?_⟩
    refine ⟨Nat.zero_le _, fun p hp => ⟨_, rfl, 6, rfl, by decide, by decide, for_range (lo := 0) (n := 6) (fun i σ H' => ∃ (r : Int) (acc : List Int) (v : Option V), 0 ≤ r ∧ i ≤ 5 ∧ r < bnd (5 - i) ∧ acc.length = i ∧ acc ++ digs (5 - i) r = digs 5 n ∧ σ = [some (.int n), some (.ref p), some (.int r), v] ∧ Same H H' ∧ H' p = some (.lst (acc.map V.int))) ?_ ?_ ?_⟩⟩
    · refine ⟨n, [], none, h0, by decide, ?_, rfl, rfl, rfl, same_upd hp, upd_same⟩
      show n < 128 * (128 * (128 * (128 * (128 * 128))))
      omega
    · rintro i σ H' hi ⟨r, acc, v, hr0, hi5, hrb, hl, hd, rfl, e, hL⟩
      refine ⟨_, rfl, _, _, rfl, rfl, _, rfl, itd (fun hlt => ?_) (fun hge => ?_)⟩
      · refine ⟨_, rfl, .inl ⟨rfl, _, SqL.of hL⟩, _, rfl, p, _, _, rfl, rfl, hL, small (by rw [List.length_map]; omega), ?_⟩
        refine ⟨_, rfl, kQ p _ hp (same_new e hp) ?_⟩
        have hd2 : digs (5 - i) r = [r] := by
          cases 5 - i with
          | zero => rfl
          | succ i => exact if_pos (by omega)
        rw [← hd, hd2, upd_same]
        simp
      · obtain ⟨j, hj⟩ : ∃ j, 5 - i = j + 1 := by
          cases e5 : 5 - i with
          | zero =>
            rw [e5] at hrb
            exact absurd hrb (by show ¬ r < 128; omega)
          | succ j => exact ⟨j, rfl⟩
        have hb : bnd (j + 1) = 128 * bnd j := rfl
        rw [hj] at hrb hd
        refine ⟨_, rfl, .inl ⟨rfl, _, SqL.of hL⟩, _, rfl, .inl ⟨_, rfl, _, _, rfl, rfl, (by show (0 : Int) < 128; decide), _, _, rfl, rfl, p, _, _, rfl, rfl, hL, small (by rw [List.length_map]; omega), ?_⟩⟩
        refine ⟨_, rfl, _, _, rfl, rfl, ⟨by decide, by decide⟩, ?_⟩
        have e4 : 5 - (i + 1) = j := by omega
        refine ⟨r / 128, acc ++ [128 + r % 128], _, by omega, by omega, by rw [e4]; omega, by simp [hl], ?_, rfl, same_new e hp, by rw [upd_same]; simp⟩
        rw [← hd, e4]
        show _ = acc ++ (if r < 128 then [r] else (r % 128 + 128) :: digs j (r / 128))
        rw [if_neg (by omega), Int.add_comm]
        simp
    · rintro σ H' ⟨r, acc, v, hr0, hi5, _⟩
      exact absurd hi5 (by decide)

def ipC (f : Int → Int → Int) : TIp := fun x y H Q => ∃ i j, x = .int i ∧ y = .int j ∧ CMul i j ∧ Q (.int (f i j)) H
theorem ip_mulC {X : Cx} : PIp X .Mult (ipC fun i j => i * j) := by
  intro pins s σ H x y v u Q I r1 r2 h
  obtain ⟨i, j, e1, e2, hc, q⟩ := h
  subst e1; subst e2
  obtain ⟨t, rfl⟩ := r1
  obtain ⟨t', rfl⟩ := r2
  exact imul_int ⟨.int _, H, I.tok _, ⟨_, rfl⟩, q⟩ hc.ok
theorem log_small {e : Int} (h : e.natAbs ≤ 1000) : e.natAbs.log2 < 1920 := Nat.lt_of_le_of_lt (Nat.log2_le_self _) (by omega)
theorem log_mid {e : Int} (h : e.natAbs ≤ 1000000) : e.natAbs.log2 < 1920 := by
  by_cases h0 : e.natAbs = 0
  · rw [h0]
    decide
  · exact (Nat.log2_lt h0).mpr (Nat.lt_of_le_of_lt h (Nat.lt_of_lt_of_le (by decide : 1000000 < 2 ^ 20) (Nat.pow_le_pow_right (by decide) (by decide))))
theorem fit_int (m : Str) {i : Int} (hm : m.length ≤ 10000) (hi : i.natAbs.log2 < 1920) : (m ++ PySem.Str.ofString (toString i)).length ≤ sizeLine := by
  rw [PySem.Str.length_append]
  have h := PySem.int_text_fits hi
  have h2 := PyProof.Rows.int_text_len_1921 hi
  rw [sizeLine_eq]
  omega
theorem getD_int {os : List Int} {k : Nat} (h : k < os.length) : (os.map V.int)[k]? = some (V.int (os.getD k 0)) := by
  rw [List.getElem?_map, List.getElem?_eq_getElem h, List.getD_eq_getElem?_getD, List.getElem?_eq_getElem h]
  rfl

theorem oini_EncodingError (T : Txt P K mg C_InvalidNumber C_EncodingError) : OE.OIni P w K mg base "EncodingError" C_EncodingError "position" :=
  OE.oini_of T.o_EncodingError rfl (fun env => ⟨_, rfl⟩) (fun cc cda fI qual A outer s H E => ⟨_, pe_joined (.cons pe_str (.cons (pe_fmt (pe_var (i := 1) rfl (.inl (show (defScope s_EncodingError___init__).names.lookup ("position" : Str) = some .local by decide +kernel)))) .nil)), fun a i Q H hi hz =>
    ⟨_, rfl, by decide +kernel, _, rfl, .inr ⟨i, rfl, hi, _, rfl, fit_int _ (by decide +kernel) hi, hz _⟩⟩⟩)

/-- what is read: f digits may still come -/
def rd (os : List Int) : Nat → Nat → Bool → Int → Int → Except Int (Int × Int)
  | 0, at_, _, _, _ => .error ((at_ : Int) - 1)
  | f + 1, at_, first, n, w => if at_ < os.length then
      (if os.getD at_ 0 < 128 then (if os.getD at_ 0 = 0 ∧ first = false then .error (at_ : Int) else .ok (n + os.getD at_ 0 * w, (at_ : Int) + 1)) else rd os f (at_ + 1) false (n + (os.getD at_ 0 - 128) * w) (w * 128))
    else .error (os.length : Int)
theorem rd_err {os : List Int} : ∀ {f at_ : Nat} {b : Bool} {n w e : Int}, rd os f at_ b n w = .error e → at_ ≤ os.length → e.natAbs ≤ os.length + 1
  | 0, at_, b, n, w, e, h, ha => by
    have h' : ((at_ : Int) - 1) = e := Except.error.inj h
    omega
  | f + 1, at_, b, n, w, e, h, ha => by
    unfold rd at h
    split at h
    · split at h
      · split at h
        · have h' : (at_ : Int) = e := Except.error.inj h
          omega
        · cases h
      · exact rd_err h (by omega)
    · have h' : (os.length : Int) = e := Except.error.inj h
      omega
theorem rd_ok {os : List Int} (ho : ∀ o ∈ os, 0 ≤ o) : ∀ {f at_ : Nat} {b : Bool} {n w m e : Int}, rd os f at_ b n w = .ok (m, e) → 0 ≤ n → 0 ≤ w → 0 ≤ m
  | 0, at_, b, n, w, m, e, h, _, _ => by cases h
  | f + 1, at_, b, n, w, m, e, h, hn, hw => by
    unfold rd at h
    split at h
    · rename_i hl
      have h0 : 0 ≤ os.getD at_ 0 := by
        rw [List.getD_eq_getElem?_getD, List.getElem?_eq_getElem hl]
        exact ho _ (List.getElem_mem hl)
      split at h
      · split at h
        · cases h
        · have h' : n + os.getD at_ 0 * w = m := (Prod.mk.inj (Except.ok.inj h)).1
          have := Int.mul_nonneg h0 hw
          omega
      · rename_i h128
        have h1 : 0 ≤ (os.getD at_ 0 - 128) * w := Int.mul_nonneg (by omega) hw
        exact rd_ok ho h (by omega) (by omega)
    · cases h
def wAt : Nat → Int
  | 0 => 1
  | k + 1 => wAt k * 128
theorem wAt_le : ∀ k : Nat, k ≤ 5 → 0 ≤ wAt k ∧ wAt k ≤ 34359738368
  | 0, _ => by decide
  | 1, _ => by decide
  | 2, _ => by decide
  | 3, _ => by decide
  | 4, _ => by decide
  | 5, _ => by decide
  | k + 6, h => by omega
def spRd (K : PySem.W.Frag) (C : Addr) : Sp := fun vs H Q E => ∃ (p : Addr) (os : List Int) (s : Nat), vs = [.ref p, .int (s : Int)] ∧ SqL K H p (os.map V.int) ∧ os.length ≤ 100 ∧ s ≤ os.length ∧
  (∀ e, rd os 5 s true 0 1 = .error e → ∀ d, H d = none → E (.ref C) (some d) (upd H d (.xd [("position", .int e)]))) ∧
  (∀ n e, rd os 5 s true 0 1 = .ok (n, e) → ∀ t H', Same H H' → H' t = some (.tup [.int n, .int e]) → Q (.ref t) H')
theorem ok_read_number (T : Txt P K mg C_InvalidNumber C_EncodingError) : Ok P w K mg base (CXN P w) 3 "read_number" ["octets", "start"] (spRd K C_EncodingError) := by
  have O_EncodingError := oini_EncodingError (P := P) (w := w) (base := base) T
  refine ok_of T.d_read_number fun f fd F => okN F sc_read_number (fun vs H Q E h => ?_) (fun cdv A outer s H vs Q E hr h => ?_)
  · obtain ⟨p, os, s, rfl, _⟩ := h
    rfl
  · obtain ⟨p, os, s0, rfl, hA, hlen, hs0, kE, kQ⟩ := h
    have nd := sc_read_number.nd
    have po := passes_of (X := cxOf (CXN P w) P w K mg base N_read_number "read_number" (defScope s_read_number) f cdv A outer s H E) rfl
    refine ⟨_,       (pss_cons (ps_set (i := 2) nd rfl (Or.inl rfl) pe_int)
      (pss_cons (ps_set (i := 3) nd rfl (Or.inl rfl) pe_int)
      (pss_cons (ps_for po rfl (pi_range2 rfl T.n_range (pa_cons (pv 1) (pa_cons (pe_op op_add (pv 1) (pe_globC rfl T.c_MOST_DIGITS)) pa_nil))) (pg_name (i := 4) nd rfl (Or.inl rfl))
        (pss_cons (ps_if (pt_cmpR op_ge (pv 4) (pe_callB call_len_seq (by rfl) T.n_len PySem.boot_len (pa_cons (pv 0) pa_nil)) (nomark _))
          (pss_one (L2N.ps_raise rfl (L2N.takes_of rfl rfl rfl rfl) (OE.pmk_err O_EncodingError (hr.mono (by decide)) pass0 rfl (pa_cons (pe_callB call_len_seq (by rfl) T.n_len PySem.boot_len (pa_cons (pv 0) pa_nil)) pa_nil)))) pss_nil)
        (pss_cons (ps_set (i := 5) nd rfl (Or.inl rfl) (pe_ix ix_list (pv 0) (pv 4) (fun _ _ => rfl)))
        (pss_cons (ps_if (pt_cmpR op_lt (pv 5) (pe_globC rfl T.c_BASE) (nomark _))
          (pss_cons (ps_if (PW.pt (pw_and (pt_cmpR op_eq (pv 5) pe_int (nomark _)) (pw_and1 (pt_cmpR op_gt (pv 4) (pv 1) (nomark _)))))
            (pss_one (L2N.ps_raise rfl (L2N.takes_of rfl rfl rfl rfl) (OE.pmk_err O_EncodingError (hr.mono (by decide)) pass0 rfl (pa_cons (pv 4) pa_nil)))) pss_nil)
          (pss_one (ps_ret (pe_tup (pa_cons (pe_op op_add (pv 2) (pe_op op_mul (pv 5) (pv 3))) (pa_cons (pe_op op_add (pv 4) pe_int) pa_nil)))))) pss_nil)
        (pss_cons (ps_aug (i := 2) nd rfl (Or.inl rfl) (pe_op op_mul (pe_op op_sub (pv 5) (pe_globC rfl T.c_BASE)) (pv 3)) ip_add)
        (pss_one (ps_aug (i := 3) nd rfl (Or.inl rfl) (pe_globC rfl T.c_BASE) ip_mulC)))))))
      (pss_one (L2N.ps_raise rfl (L2N.takes_of rfl rfl rfl rfl) (OE.pmk_err O_EncodingError (hr.mono (by decide)) pass0 rfl (pa_cons (pe_op op_sub (pe_op op_add (pv 1) (pe_globC rfl T.c_MOST_DIGITS)) pe_int) pa_nil))))))), ?_⟩
    refine ⟨_, rfl, _, rfl, _, _, rfl, rfl, _, _, rfl, ⟨by omega, by omega, by omega, by omega⟩, ?_⟩
    rw [show ((s0 : Int) + 5 - (s0 : Int)).toNat = 5 by omega]
    refine for_range (lo := (s0 : Int)) (n := 5) (fun i σ H' => H = H' ∧ ∃ (n : Int) (v4 v5 : Option V), s0 + i ≤ os.length ∧ rd os (5 - i) (s0 + i) (decide (i = 0)) n (wAt i) = rd os 5 s0 true 0 1 ∧ σ = [some (.ref p), some (.int (s0 : Int)), some (.int n), some (.int (wAt i)), v4, v5]) ⟨rfl, 0, none, none, hs0, rfl, rfl⟩ ?_ ?_
    · rintro i σ H' hi ⟨rfl, n, v4, v5, hil, hrd, rfl⟩
      have hw := wAt_le i (by omega)
      obtain ⟨f1, hf1⟩ : ∃ f1, 5 - i = f1 + 1 := ⟨4 - i, by omega⟩
      rw [hf1] at hrd
      unfold rd at hrd
      refine ⟨_, rfl, _, rfl, p, _, rfl, .inl hA, _, _, rfl, rfl, _, rfl, itd (fun h1 => ?_) (fun h1 => ?_)⟩
      · rw [List.length_map] at h1
        rw [if_neg (by omega)] at hrd
        refine ⟨_, rfl, p, _, rfl, .inl hA, _, rfl, log_small (by rw [List.length_map]; omega), fun d hd => ?_⟩
        rw [List.length_map]
        exact kE _ hrd.symm d hd
      · rw [List.length_map] at h1
        have hlt : s0 + i < os.length := by omega
        rw [if_pos hlt] at hrd
        have hg : atI (os.map V.int) ((s0 : Int) + (i : Int)) = some (V.int (os.getD (s0 + i) 0)) := at_nat (j := s0 + i) (by omega) (getD_int hlt)
        refine ⟨_, rfl, _, rfl, p, _, _, _, rfl, rfl, hA, hg, ?_⟩
        generalize os.getD (s0 + i) 0 = o at hrd ⊢
        refine ⟨_, rfl, _, _, rfl, rfl, _, rfl, itd (fun h2 => ?_) (fun h2 => ?_)⟩
        · rw [if_pos h2] at hrd
          refine ⟨_, rfl, rfl, _, rfl, itd (fun h3 => ?_) (fun h3 => ?_)⟩
          · have h3 : o = 0 := V.int.inj h3
            refine ⟨_, rfl, _, rfl, _, _, rfl, rfl, _, rfl, itd (fun h4 => ?_) (fun h4 => ?_)⟩
            · have h4 : (s0 : Int) < (s0 : Int) + (i : Int) := h4
              rw [if_pos ⟨h3, decide_eq_false (by omega)⟩] at hrd
              refine ⟨_, rfl, _, rfl, log_small (by omega), fun d hd => ?_⟩
              have e1 : (((s0 + i : Nat) : Int)) = (s0 : Int) + (i : Int) := by omega
              rw [e1] at hrd
              exact kE _ hrd.symm d hd
            · have h4 : ¬ ((s0 : Int) < (s0 : Int) + (i : Int)) := h4
              have hi0 : i = 0 := by omega
              rw [if_neg (fun z => by simp [hi0] at z)] at hrd
              refine ⟨_, rfl, _, rfl, _, rfl, _, _, rfl, rfl, .inr ⟨by omega, by omega⟩, _, _, rfl, rfl, _, rfl, _, _, rfl, rfl, (by show 2 ≤ sizeLine; decide), fun t ht => ?_⟩
              have e1 : (((s0 + i : Nat) : Int) + 1) = (s0 : Int) + (i : Int) + 1 := by omega
              rw [e1] at hrd
              exact kQ _ _ hrd.symm t _ (same_upd ht) upd_same
          · have h3 : ¬ o = 0 := fun z => h3 (congrArg V.int z)
            rw [if_neg (fun z => h3 z.1)] at hrd
            refine ⟨_, rfl, _, rfl, _, rfl, _, _, rfl, rfl, .inr ⟨by omega, by omega⟩, _, _, rfl, rfl, _, rfl, _, _, rfl, rfl, (by show 2 ≤ sizeLine; decide), fun t ht => ?_⟩
            have e1 : (((s0 + i : Nat) : Int) + 1) = (s0 : Int) + (i : Int) + 1 := by omega
            rw [e1] at hrd
            exact kQ _ _ hrd.symm t _ (same_upd ht) upd_same
        · rw [if_neg h2] at hrd
          refine ⟨_, rfl, _, rfl, _, _, rfl, rfl, _, rfl, _, _, rfl, rfl, .inr ⟨by omega, by omega⟩, _, _, rfl, rfl, ?_⟩
          refine ⟨_, rfl, _, _, rfl, rfl, .inr ⟨by decide, by decide⟩, ?_⟩
          refine ⟨rfl, _, _, _, by omega, ?_, rfl⟩
          rw [show 5 - (i + 1) = f1 by omega, decide_eq_false (show ¬ i + 1 = 0 by omega)]
          exact hrd
    · rintro σ H' ⟨rfl, n, v4, v5, hil, hrd, rfl⟩
      have hrd : rd os 0 (s0 + 5) false n (wAt 5) = rd os 5 s0 true 0 1 := hrd
      refine ⟨_, rfl, _, _, rfl, rfl, _, _, rfl, rfl, _, rfl, log_small (by omega), fun d hd => ?_⟩
      have e1 : (((s0 + 5 : Nat) : Int) - 1) = (s0 : Int) + 5 - 1 := by omega
      unfold rd at hrd
      rw [e1] at hrd
      exact kE _ hrd.symm d hd
def rdT : Except Int (Int × Int) → List V
  | .error e => [.int (-1), .int e]
  | .ok x => [.int x.1, .int x.2]
def spLR (K : PySem.W.Frag) : Sp := fun vs H Q _ => ∃ (p : Addr) (os : List Int) (s : Nat), vs = [.ref p, .int (s : Int)] ∧ SqL K H p (os.map V.int) ∧ os.length ≤ 100 ∧ s ≤ os.length ∧
  ∀ t H', Same H H' → H t = none → H' t = some (.tup (rdT (rd os 5 s true 0 1))) → Q (.ref t) H'
theorem ok__law_read (T : Txt P K mg C_InvalidNumber C_EncodingError) : Ok P w K mg base CX0 1 "_law_read" ["octets", "start"] (spLR K) := by
  refine ok_of T.d__law_read fun f fd F => F.ok sc__law_read (fun vs H Q E h => ?_) (fun cdv A outer s H vs Q E hr h => ?_)
  · obtain ⟨p, os, s, rfl, _⟩ := h
    rfl
  · obtain ⟨p, os, s0, rfl, hA, hlen, hs0, kQ⟩ := h
    have nd := sc__law_read.nd
    refine ⟨_,       (pss_cons (ps_set (i := 2) nd rfl (Or.inl rfl) pe_int)
      (pss_cons (ps_set (i := 3) nd rfl (Or.inl rfl) pe_int)
      (pss_cons (ps_for PassesOwn.never rfl (pi_range1 rfl T.n_range (pa_cons pe_int pa_nil)) (pg_name (i := 4) nd rfl (Or.inl rfl))
        (pss_cons (ps_set (i := 5) nd rfl (Or.inl rfl) (pe_op op_add (pv 1) (pv 4)))
        (pss_cons (ps_if (pt_cmpR op_ge (pv 5) (pe_callB call_len_seq (by rfl) T.n_len PySem.boot_len (pa_cons (pv 0) pa_nil)) (nomark _))
          (pss_one (ps_ret (pe_tup (pa_cons (pe_un un_neg pe_int) (pa_cons (pe_callB call_len_seq (by rfl) T.n_len PySem.boot_len (pa_cons (pv 0) pa_nil)) pa_nil))))) pss_nil)
        (pss_cons (ps_if (PW.pt (pw_and (pt_cmpR op_ge (pe_ix ix_list (pv 0) (pv 5) (fun _ _ => rfl)) pe_int (nomark _)) (pw_and1 (pt_cmpR op_eq (pv 4) pe_int (nomark _)))))
          (pss_one (ps_ret (pe_tup (pa_cons (pe_un un_neg pe_int) (pa_cons (pv 5) pa_nil))))) pss_nil)
        (pss_cons (ps_if (pt_cmpR op_lt (pe_ix ix_list (pv 0) (pv 5) (fun _ _ => rfl)) pe_int (nomark _))
          (pss_cons (ps_if (PW.pt (pw_and (pt_cmpR op_eq (pe_ix ix_list (pv 0) (pv 5) (fun _ _ => rfl)) pe_int (nomark _)) (pw_and1 (pt_cmpR op_gt (pv 4) pe_int (nomark _)))))
            (pss_one (ps_ret (pe_tup (pa_cons (pe_un un_neg pe_int) (pa_cons (pv 5) pa_nil))))) pss_nil)
          (pss_one (ps_ret (pe_tup (pa_cons (pe_op op_add (pv 2) (pe_op op_mul (pv 3) (pe_ix ix_list (pv 0) (pv 5) (fun _ _ => rfl)))) (pa_cons (pe_op op_add (pv 5) pe_int) pa_nil)))))) pss_nil)
        (pss_cons (ps_set (i := 2) nd rfl (Or.inl rfl) (pe_op op_add (pv 2) (pe_op op_mul (pv 3) (pe_op op_sub (pe_ix ix_list (pv 0) (pv 5) (fun _ _ => rfl)) pe_int))))
        (pss_one (ps_set (i := 3) nd rfl (Or.inl rfl) (pe_op op_mul (pv 3) pe_int)))))))))
      (pss_one (ps_ret (pe_tup (pa_cons (pe_un un_neg pe_int) (pa_cons (pv 1) pa_nil)))))))), ?_⟩
    generalize hR : rd os 5 s0 true 0 1 = R at kQ
    refine ⟨(5 : Int), rfl, by decide, by decide, for_range (lo := 0) (n := 5) (fun i σ H' => H = H' ∧ i ≤ 4 ∧ ∃ (n : Int) (v4 v5 : Option V), s0 + i ≤ os.length ∧ rd os (5 - i) (s0 + i) (decide (i = 0)) n (wAt i) = R ∧ σ = [some (.ref p), some (.int (s0 : Int)), some (.int n), some (.int (wAt i)), v4, v5]) ⟨rfl, by decide, 0, none, none, hs0, hR, rfl⟩ ?_ ?_⟩
    · rintro i σ H' hi ⟨rfl, hi4, n, v4, v5, hil, hrd, rfl⟩
      have hw := wAt_le i (by omega)
      obtain ⟨f1, hf1⟩ : ∃ f1, 5 - i = f1 + 1 := ⟨4 - i, by omega⟩
      rw [hf1] at hrd
      unfold rd at hrd
      refine ⟨_, rfl, _, rfl, _, _, rfl, rfl, ?_⟩
      refine ⟨_, rfl, _, rfl, p, _, rfl, .inl hA, _, _, rfl, rfl, _, rfl, itd (fun h1 => ?_) (fun h1 => ?_)⟩
      · rw [List.length_map] at h1
        rw [if_neg (by omega)] at hrd
        refine ⟨_, rfl, _, rfl, p, _, rfl, .inl hA, (by show 2 ≤ sizeLine; decide), fun t ht => kQ t _ (same_upd ht) ht ?_⟩
        rw [upd_same, ← hrd, List.length_map]
        rfl
      · rw [List.length_map] at h1
        have hlt : s0 + i < os.length := by omega
        rw [if_pos hlt] at hrd
        have hg : atI (os.map V.int) ((s0 : Int) + (0 + (i : Int))) = some (V.int (os.getD (s0 + i) 0)) := at_nat (j := s0 + i) (by omega) (getD_int hlt)
        generalize os.getD (s0 + i) 0 = o at hrd hg
        refine ⟨_, rfl, _, rfl, p, _, _, _, rfl, rfl, hA, hg, _, _, rfl, rfl, _, rfl, itd (fun h2 => ?_) (fun h2 => ?_)⟩
        · rw [if_neg (show ¬ o < 128 by omega)] at hrd
          refine ⟨_, rfl, rfl, _, rfl, itd (fun h3 => ?_) (fun h3 => ?_)⟩
          · have h3 : (0 : Int) + (i : Int) = 4 := V.int.inj h3
            have hi4' : i = 4 := by omega
            have hf0 : f1 = 0 := by omega
            rw [hf0] at hrd
            unfold rd at hrd
            refine ⟨_, rfl, _, rfl, (by show 2 ≤ sizeLine; decide), fun t ht => kQ t _ (same_upd ht) ht ?_⟩
            rw [upd_same, ← hrd]
            have e1 : (((s0 + i + 1 : Nat) : Int) - 1) = (s0 : Int) + (0 + (i : Int)) := by omega
            rw [e1]
            rfl
          · have h3 : ¬ (0 : Int) + (i : Int) = 4 := fun z => h3 (congrArg V.int z)
            refine ⟨_, rfl, _, rfl, p, _, _, _, rfl, rfl, hA, hg, _, _, rfl, rfl, _, rfl, itd (fun h4 => absurd h4 (by omega)) (fun _ => ?_)⟩
            refine ⟨_, rfl, _, rfl, _, rfl, _, rfl, p, _, _, _, rfl, rfl, hA, hg, _, _, rfl, rfl, _, _, rfl, rfl, .inl ⟨by omega, by omega⟩, _, _, rfl, rfl, ?_⟩
            refine ⟨_, rfl, _, _, rfl, rfl, .inr ⟨by decide, by decide⟩, ?_⟩
            refine ⟨rfl, by omega, _, _, _, by omega, ?_, rfl⟩
            rw [show 5 - (i + 1) = f1 by omega, decide_eq_false (show ¬ i + 1 = 0 by omega), Int.mul_comm (wAt i) (o - 128)]
            exact hrd
        · have ho : o < 128 := by omega
          rw [if_pos ho] at hrd
          refine ⟨_, rfl, _, rfl, p, _, _, _, rfl, rfl, hA, hg, _, _, rfl, rfl, _, rfl, itd (fun _ => ?_) (fun h4 => absurd ho h4)⟩
          refine ⟨_, rfl, _, rfl, p, _, _, _, rfl, rfl, hA, hg, rfl, _, rfl, itd (fun h3 => ?_) (fun h3 => ?_)⟩
          · have h3 : o = 0 := V.int.inj h3
            refine ⟨_, rfl, _, _, rfl, rfl, _, rfl, itd (fun h4 => ?_) (fun h4 => ?_)⟩
            · have h4 : (0 : Int) < 0 + (i : Int) := h4
              rw [if_pos ⟨h3, decide_eq_false (by omega)⟩] at hrd
              refine ⟨_, rfl, _, rfl, (by show 2 ≤ sizeLine; decide), fun t ht => kQ t _ (same_upd ht) ht ?_⟩
              rw [upd_same, ← hrd]
              have e1 : (((s0 + i : Nat) : Int)) = (s0 : Int) + (0 + (i : Int)) := by omega
              rw [e1]
              rfl
            · have h4 : ¬ (0 : Int) < 0 + (i : Int) := h4
              have hi0 : i = 0 := by omega
              rw [if_neg (fun z => by simp [hi0] at z)] at hrd
              refine ⟨_, rfl, _, rfl, _, rfl, _, rfl, p, _, _, _, rfl, rfl, hA, hg, _, _, rfl, rfl, .inl ⟨by omega, by omega⟩, _, _, rfl, rfl, _, rfl, _, _, rfl, rfl, (by show 2 ≤ sizeLine; decide), fun t ht => kQ t _ (same_upd ht) ht ?_⟩
              rw [upd_same, ← hrd]
              have e1 : (((s0 + i : Nat) : Int) + 1) = (s0 : Int) + (0 + (i : Int)) + 1 := by omega
              rw [e1, Int.mul_comm o (wAt i)]
              rfl
          · have h3 : ¬ o = 0 := fun z => h3 (congrArg V.int z)
            rw [if_neg (fun z => h3 z.1)] at hrd
            refine ⟨_, rfl, _, rfl, _, rfl, _, rfl, p, _, _, _, rfl, rfl, hA, hg, _, _, rfl, rfl, .inl ⟨by omega, by omega⟩, _, _, rfl, rfl, _, rfl, _, _, rfl, rfl, (by show 2 ≤ sizeLine; decide), fun t ht => kQ t _ (same_upd ht) ht ?_⟩
            rw [upd_same, ← hrd]
            have e1 : (((s0 + i : Nat) : Int) + 1) = (s0 : Int) + (0 + (i : Int)) + 1 := by omega
            rw [e1, Int.mul_comm o (wAt i)]
            rfl
    · rintro σ H' ⟨rfl, hi4, _⟩
      omega

-- @@LAW
theorem ne_no {d e : PyData} {A B : Prop} (h : PyData.eqv d e = true) (hb : B) : ∃ k, V.bl (!PyData.eqv d e) = V.bl k ∧ if k = true then A else B := ⟨_, rfl, by rw [h]; exact iteF hb⟩
theorem nm_no {x y : V} {A B : Prop} (h : x = y) (hb : B) : ∃ k, V.bl (!decide (x = y)) = V.bl k ∧ if k = true then A else B := ⟨_, rfl, by rw [h]; simpa using hb⟩
theorem digs_ok : ∀ (j : Nat) (r : Int), 0 ≤ r → (digs j r).length ≤ j + 1 ∧ ∀ o ∈ digs j r, 0 ≤ o
  | 0, r, h => ⟨Nat.le_refl _, fun o ho => by rw [List.mem_singleton.mp ho]; exact h⟩
  | j + 1, r, h => by
    unfold digs
    split
    · exact ⟨by show 1 ≤ j + 1 + 1; omega, fun o ho => by rw [List.mem_singleton.mp ho]; exact h⟩
    · have ih := digs_ok j (r / 128) (by omega)
      refine ⟨by rw [List.length_cons]; have := ih.1; omega, fun o ho => ?_⟩
      rcases List.mem_cons.mp ho with e | ho
      · rw [e]
        omega
      · exact ih.2 o ho
theorem nonneg_cut {os mid : List Int} {s : Nat} (h : ∀ o ∈ os, 0 ≤ o) (hm : ∀ o ∈ mid, 0 ≤ o) : ∀ o ∈ os.take s ++ mid ++ os.drop s, 0 ≤ o := fun o ho => by
  rcases List.mem_append.mp ho with ho | ho
  · rcases List.mem_append.mp ho with ho | ho
    · exact h o (List.mem_of_mem_take ho)
    · exact hm o ho
  · exact h o (List.mem_of_mem_drop ho)
theorem len_cut {os mid : List Int} {s : Nat} (hs : s ≤ os.length) : (os.take s ++ mid ++ os.drop s).length = os.length + mid.length := by
  rw [List.length_append, List.length_append, List.length_take, List.length_drop]
  omega
def spLaw (K : PySem.W.Frag) : Sp := fun vs H Q _ => ∃ (a : Addr) (ns : List Int), vs = [.ref a] ∧ SqL K H a (ns.map V.int) ∧ ns.length ≤ 63 ∧ ∀ H', Q (.bl true) H'
theorem ok_law0 (T : Txt P K mg C_InvalidNumber C_EncodingError) (f : Addr) (fd : FuncData) (F : Fun K "law" "law" s_law f fd) : FnOk P w K mg base CX0 4 f fd ["script"] (spLaw K) := by
  have G__law_cell := ok__law_cell (P := P) (w := w) (base := base) T
  have G__law_row := ok__law_row (P := P) (w := w) (base := base) T
  have G__law_is_int := ok__law_is_int (P := P) (w := w) (base := base) T
  have GH__law_is_int := okH__law_is_int (P := P) (w := w) (base := base) T
  have G__law_number := ok__law_number (P := P) (w := w) (base := base) T
  have G__law_read := ok__law_read (P := P) (w := w) (base := base) T
  have G_read_number := ok_read_number (P := P) (w := w) (base := base) T
  refine F.ok sc_law (fun vs H Q E h => ?_) (fun cdv A outer s H vs Q E hr h => ?_)
  · obtain ⟨a, ns, rfl, _⟩ := h
    rfl
  · obtain ⟨a, ns, rfl, hS, hlen, kQ⟩ := h
    have nd := sc_law.nd
    have hu64 : (A.deeper (envOfC "law" (defScope s_law) s.heap.objs.size f cdv)).units + 64 < cLine := by
      have := hr.un
      omega
    refine ⟨_,       (Evl.pss_cut (ps_set (i := 1) nd rfl (Or.inl rfl) (pe_op op_mod (pe_callO G__law_cell (hr.mono (by decide)) pass0 (pa_cons (pv 0) (pa_cons pe_int pa_nil))) pe_int))
      (pss_cons (ps_set (i := 2) nd rfl (Or.inl rfl) (pe_callO G__law_row (hr.mono (by decide)) pass0 (pa_cons (pe_callO G__law_cell (hr.mono (by decide)) pass0 (pa_cons (pv 0) (pa_cons pe_int pa_nil))) (pa_cons (pv 1) (pa_cons pe_int pa_nil)))))
      (Evl.pss_cut (ps_set (i := 3) nd rfl (Or.inl rfl) (pe_op op_mod (pe_op op_fdiv (pe_callO G__law_cell (hr.mono (by decide)) pass0 (pa_cons (pv 0) (pa_cons pe_int pa_nil))) pe_int) pe_int))
      (Evl.pss_cut (ps_if (pt_cmpR op_lt (pv 3) pe_int (nomark _))
        (pss_one (ps_setLc (i := 2) (own := [("octet", 4)]) (g := gName 4) (tt := tYes) rfl nd rfl rfl (sw_true rfl rfl rfl (by decide +kernel)) (pi_list (pv 2)) (blkOk_by (N := N_law) (sc := defScope s_law) (by decide +kernel)) (fun _ _ _ _ _ => (pg_name (i := 4) nd rfl (Or.inl rfl))) (fun _ _ _ _ _ => pts_nil) (fun _ _ _ _ _ => (pe_op op_add (pe_op op_fdiv (pv 4) pe_int) pe_int)))) pss_nil)
      (Evl.pss_cut (ps_set (i := 5) nd rfl (Or.inl rfl) (pe_op op_mod (pe_callO G__law_cell (hr.mono (by decide)) pass0 (pa_cons (pv 0) (pa_cons pe_int pa_nil))) (pe_op op_add (pe_callB call_len_seq (by rfl) T.n_len PySem.boot_len (pa_cons (pv 2) pa_nil)) pe_int)))
      (Evl.pss_cut (ps_if (pt_cmpR op_gt (pv 3) pe_int (nomark _))
        (pss_one (ps_set (i := 2) nd rfl (Or.inl rfl) (pe_op op_cat (pe_op op_cat (pe_slice sl_list (pv 2) po_none (po_some (pv 5))) (pe_callO G__law_number (hr.mono (by decide)) pass0 (pa_cons (pe_op op_mod (pe_callO G__law_cell (hr.mono (by decide)) pass0 (pa_cons (pv 0) (pa_cons pe_int pa_nil))) pe_int) pa_nil))) (pe_slice sl_list (pv 2) (po_some (pv 5)) po_none)))) pss_nil)
      (Evl.pss_cut (ps_if (pt_cmpR op_eq (pv 3) pe_int (nomark _))
        (pss_one (ps_set (i := 2) nd rfl (Or.inl rfl) (pe_op op_cat (pe_op op_cat (pe_slice sl_list (pv 2) po_none (po_some (pv 5))) (pe_lst (pa_cons (pe_op op_add pe_int (pe_op op_mod (pe_callO G__law_cell (hr.mono (by decide)) pass0 (pa_cons (pv 0) (pa_cons pe_int pa_nil))) pe_int)) (pa_cons pe_int pa_nil)))) (pe_slice sl_list (pv 2) (po_some (pv 5)) po_none)))) pss_nil)
      (Evl.pss_cut (ps_set (i := 6) nd rfl (Or.inl rfl) (pe_callO G__law_read (hr.mono (by decide)) pass0 (pa_cons (pv 2) (pa_cons (pv 5) pa_nil))))
      (Evl.pss_cut (ps_set (i := 7) nd rfl (Or.inl rfl) (pe_callTy call_list_of (by rfl) T.n_list (by decide +kernel) (pa_cons (pv 2) pa_nil)))
      (pss_cons (L2N.ps_try_as (i := 9) (Wout := fun _ _ _ _ => False) rfl rfl nd rfl rfl ⟨rfl, by decide, Or.inl T.x_EncodingError.g⟩ takesN
        (fun W pn xe tk po => 
          (pss_one (ps_set (i := 8) nd rfl (Or.inl rfl) (pe_callT G_read_number (hr.mono (by decide)) (fun σ => L2N.passAt tk σ) (pa_cons (pv 7) (pa_cons (pv 5) pa_nil))))))
        (fun a oe cls d pn hz hf => 
          (pss_one (ps_ret (pe_and (pe_cmpR op_eq (pe_ix (r := rIxT K) ix_tup (pv 6) pe_int (fun _ _ => rfl)) (pe_un un_neg pe_int) (nomark _)) (pe_and (pe_callHO GH__law_is_int (roomS hr (by decide)) (hotS hz hf) (pa_cons (pe_xf T.o_EncodingError.f T.o_EncodingError.n hz.zc hf (pv 9)) pa_nil)) (pe_and (pe_cmpR op_eq (pe_xf T.o_EncodingError.f T.o_EncodingError.n hz.zc hf (pv 9)) (pe_ix (r := rIxT K) ix_tup (pv 6) pe_int (fun _ _ => rfl)) (nomark _)) (pe_one (pe_not (pe_callB (OE.call_isX T.o_EncodingError.e hz.zc hf) (by rfl) T.n_isinstance (by decide +kernel) (pa_cons (pv 9) (pa_cons (pe_globR rfl T.x_InvalidNumber.g) pa_nil))))))))))))
      (pss_cons (ps_if (PW.pt (pw_or (pt_not (pt_val (pe_callB call_isi (by rfl) T.n_isinstance (by decide +kernel) (pa_cons (pv 8) (pa_cons (pe_bltn (v := .ty "tuple") (by rfl) T.n_tuple (by decide +kernel) rfl) pa_nil))))) (pw_or (pt_cmpR op_ne (pe_callB call_len_seq (by rfl) T.n_len PySem.boot_len (pa_cons (pv 8) pa_nil)) pe_int (nomark _)) (pw_or1 (pt_cmpR (op_neD hu64) (pv 7) (pv 2) (nomark _))))))
        (pss_one (ps_ret pe_bl)) pss_nil)
      (pss_one (ps_ret (pe_and (pe_cmpR op_ge (pe_ix ix_tup (pv 6) pe_int (fun _ _ => rfl)) pe_int (nomark _)) (pe_and (pe_callO G__law_is_int (hr.mono (by decide)) pass0 (pa_cons (pe_ix ix_tup (pv 8) pe_int (fun _ _ => rfl)) pa_nil)) (pe_and (pe_callO G__law_is_int (hr.mono (by decide)) pass0 (pa_cons (pe_ix ix_tup (pv 8) pe_int (fun _ _ => rfl)) pa_nil)) (pe_one (pe_cmpR (op_eqD hu64) (pv 8) (pv 6) (nomark _))))))))))))))))))), ?_⟩
    -- size
    refine ⟨fun σ' H' => H = H' ∧ ∃ n0 : Nat, n0 ≤ 12 ∧ σ' = [some (.ref a), some (.int (n0 : Int)), none, none, none, none, none, none, none, none], ?_, ?_⟩
    · obtain ⟨n0, hn0, h12⟩ : ∃ n0 : Nat, cell ns 0 % 13 = (n0 : Int) ∧ n0 ≤ 12 := ⟨(cell ns 0 % 13).toNat, by omega, by omega⟩
      refine ⟨_, rfl, a, ns, 0, rfl, hS, _, _, rfl, rfl, (by show (0 : Int) < 13; decide), rfl, n0, h12, ?_⟩
      rw [← hn0]
      rfl
    rintro σ1 H1 ⟨rfl, n0, hn0, rfl⟩
    refine ⟨_, rfl, a, ns, 1, rfl, hS, _, rfl, cell ns 1, n0, 256, rfl, by omega, by decide, by decide, fun p1 H1 hp1 e1 hL1 => ?_⟩
    have hS1 := e1.seq hS
    have hnn : ∀ o ∈ rowL (cell ns 1) n0 256, 0 ≤ o := fun o ho => (rowL_in (by decide) ho).1
    have hrl : (rowL (cell ns 1) n0 256).length ≤ 12 := by rw [rowL_len]; exact hn0
    generalize rowL (cell ns 1) n0 256 = os0 at hL1 hnn hrl
    -- kind
    refine ⟨fun σ' H' => H1 = H' ∧ ∃ kd : Int, σ' = [some (.ref a), some (.int (n0 : Int)), some (.ref p1), some (.int kd), none, none, none, none, none, none], ?_, ?_⟩
    · exact ⟨_, rfl, a, ns, 0, rfl, hS1, _, _, rfl, rfl, ⟨by decide, by decide⟩, _, _, rfl, rfl, (by show (0 : Int) < 9; decide), rfl, _, rfl⟩
    rintro σ2 H2 ⟨rfl, kd, rfl⟩
    -- if kind < 3
    refine ⟨fun σ' H' => Same H1 H' ∧ ∃ (p2 : Addr) (os : List Int), os.length ≤ 12 ∧ (∀ o ∈ os, 0 ≤ o) ∧ H' p2 = some (.lst (os.map V.int)) ∧ σ' = [some (.ref a), some (.int (n0 : Int)), some (.ref p2), some (.int kd), none, none, none, none, none, none], ?_, ?_⟩
    · refine ⟨_, rfl, _, _, rfl, rfl, _, rfl, itd (fun h => ?_) (fun h => ⟨Same.refl _, p1, os0, hrl, hnn, hL1, rfl⟩)⟩
      refine ⟨_, rfl, p1, rfl, ⟨_, SqL.of hL1⟩, fun D hD => lc_list (K := K) (a := p1) (xs := os0.map V.int) (fun i H' => Same H1 H' ∧ H' D = some (.lst (((os0.take i).map fun o => o / 2 + 128).map V.int))) ⟨same_upd hD, upd_same⟩ (fun i H' _ ⟨e, _⟩ => e.seq (SqL.of hL1)) ?_ ?_⟩
      · rintro i x H' hx ⟨e, hDl⟩
        obtain ⟨hig, rfl⟩ := get_ints hx
        refine ⟨rfl, ?_⟩
        dsimp only [tYes]
        try rw [if_pos rfl]
        refine ⟨_, rfl, _, _, rfl, rfl, ⟨by decide, by decide⟩, _, _, rfl, rfl, _, hDl, small (by simp; omega), same_new e hD, ?_⟩
        rw [upd_same, take_snoc hig, List.map_append, List.map_append]
        rfl
      · rintro H' ⟨e, hDl⟩
        rw [List.length_map, List.take_length] at hDl
        refine ⟨e, D, _, by rw [List.length_map]; exact hrl, fun o ho => ?_, hDl, rfl⟩
        obtain ⟨o', ho', rfl⟩ := List.mem_map.mp ho
        have := hnn o' ho'
        omega
    clear hL1 hnn hrl
    rintro σ3 H3 ⟨e3, p2, os, hol, hon, hO, rfl⟩
    have hS3 := e3.seq hS1
    -- start
    refine ⟨fun σ' H' => H3 = H' ∧ ∃ s0 : Nat, s0 ≤ os.length ∧ σ' = [some (.ref a), some (.int (n0 : Int)), some (.ref p2), some (.int kd), none, some (.int (s0 : Int)), none, none, none, none], ?_, ?_⟩
    · obtain ⟨s0, hs0, hsl⟩ : ∃ s0 : Nat, cell ns 2 % (((os.length : Nat) : Int) + 1) = (s0 : Int) ∧ s0 ≤ os.length := by
        have z1 := Int.emod_nonneg (cell ns 2) (show (((os.length : Nat) : Int) + 1) ≠ 0 by omega)
        have z2 := Int.emod_lt_of_pos (cell ns 2) (show (0 : Int) < ((os.length : Nat) : Int) + 1 by omega)
        exact ⟨(cell ns 2 % (((os.length : Nat) : Int) + 1)).toNat, by omega, by omega⟩
      refine ⟨_, rfl, a, ns, 2, rfl, hS3, _, rfl, p2, _, rfl, .inl (SqL.of hO), _, _, rfl, rfl, _, _, rfl, rfl, (by show (0 : Int) < _; rw [List.length_map]; omega), rfl, s0, hsl, ?_⟩
      rw [← hs0, List.length_map]
      rfl
    rintro σ4 H4 ⟨rfl, s0, hs0, rfl⟩
    -- if kind > 5
    refine ⟨fun σ' H' => Same H3 H' ∧ ∃ (p2 : Addr) (os : List Int), os.length ≤ 20 ∧ (∀ o ∈ os, 0 ≤ o) ∧ s0 ≤ os.length ∧ H' p2 = some (.lst (os.map V.int)) ∧ σ' = [some (.ref a), some (.int (n0 : Int)), some (.ref p2), some (.int kd), none, some (.int (s0 : Int)), none, none, none, none], ?_, ?_⟩
    · refine ⟨_, rfl, _, _, rfl, rfl, _, rfl, itd (fun h => ?_) (fun h => ⟨Same.refl _, p2, os, by omega, hon, hs0, hO, rfl⟩)⟩
      refine ⟨_, rfl, _, rfl, _, rfl, p2, _, rfl, SqL.of hO, fun r1 hr1 => ?_⟩
      rw [show cutV (os.map V.int) none (some (s0 : Int)) = (os.take s0).map V.int by rw [cut_to (by rw [List.length_map]; exact hs0), List.map_take]]
      have f1 := same_upd (o := .lst ((os.take s0).map V.int)) hr1
      have hnum : 0 ≤ cell ns 3 % 34359738368 ∧ cell ns 3 % 34359738368 ≤ 34359738367 := ⟨by omega, by omega⟩
      refine ⟨_, rfl, a, ns, 3, rfl, f1.seq hS3, _, _, rfl, rfl, (by show (0 : Int) < 34359738368; decide), _, rfl, hnum.1, hnum.2, fun r2 H5 hr2 e5 hD => ?_⟩
      generalize cell ns 3 % 34359738368 = num at hnum hD
      have hdg := digs_ok 5 num hnum.1
      refine ⟨r1, r2, _, _, rfl, rfl, e5 _ _ upd_same, hD, smallE (by simp; omega), fun r3 hr3 => ?_⟩
      rw [← List.map_append]
      have f3 := (f1.trans e5).trans (same_upd (o := .lst ((os.take s0 ++ digs 5 num).map V.int)) hr3)
      refine ⟨_, rfl, _, rfl, _, rfl, p2, _, rfl, SqL.of (f3 _ _ hO), fun r4 hr4 => ?_⟩
      rw [show cutV (os.map V.int) (some (s0 : Int)) none = (os.drop s0).map V.int by rw [cut_from (by rw [List.length_map]; exact hs0), List.map_drop]]
      have f4 := f3.trans (same_upd (o := .lst ((os.drop s0).map V.int)) hr4)
      refine ⟨r3, r4, _, _, rfl, rfl, same_upd hr4 _ _ upd_same, upd_same, smallE (by simp; omega), fun r5 hr5 => ?_⟩
      rw [← List.map_append]
      have hcl := len_cut (mid := digs 5 num) hs0
      exact ⟨f4.trans (same_upd hr5), r5, os.take s0 ++ digs 5 num ++ os.drop s0, by omega, nonneg_cut hon hdg.2, by omega, upd_same, rfl⟩
    clear hO hol hon hs0
    rintro σ5 H5 ⟨e5, p5, os, hol, hon, hs0, hO, rfl⟩
    have hS5 := e5.seq hS3
    -- if kind == 2
    refine ⟨fun σ' H' => Same H5 H' ∧ ∃ (p2 : Addr) (os : List Int), os.length ≤ 30 ∧ (∀ o ∈ os, 0 ≤ o) ∧ s0 ≤ os.length ∧ H' p2 = some (.lst (os.map V.int)) ∧ σ' = [some (.ref a), some (.int (n0 : Int)), some (.ref p2), some (.int kd), none, some (.int (s0 : Int)), none, none, none, none], ?_, ?_⟩
    · refine ⟨_, rfl, rfl, _, rfl, itd (fun h => ?_) (fun h => ⟨Same.refl _, p5, os, by omega, hon, hs0, hO, rfl⟩)⟩
      refine ⟨_, rfl, _, rfl, _, rfl, p5, _, rfl, SqL.of hO, fun r1 hr1 => ?_⟩
      rw [show cutV (os.map V.int) none (some (s0 : Int)) = (os.take s0).map V.int by rw [cut_to (by rw [List.length_map]; exact hs0), List.map_take]]
      have f1 := same_upd (o := .lst ((os.take s0).map V.int)) hr1
      refine ⟨_, rfl, a, ns, 3, rfl, f1.seq hS5, _, _, rfl, rfl, (by show (0 : Int) < 128; decide), _, _, rfl, rfl, (by show 2 ≤ sizeLine; decide), fun r2 hr2 => ?_⟩
      have hmid : ∀ o ∈ [128 + cell ns 3 % 128, 0], 0 ≤ o := fun o ho => by
        simp only [List.mem_cons, List.not_mem_nil, or_false] at ho
        rcases ho with e | e <;> omega
      have f2 := same_upd (o := .lst ([128 + cell ns 3 % 128, 0].map V.int)) hr2
      refine ⟨r1, r2, _, _, rfl, rfl, f2 _ _ upd_same, upd_same, smallE (by simp; omega), fun r3 hr3 => ?_⟩
      have f3 := (f1.trans f2).trans (same_upd (o := .lst ((os.take s0).map V.int ++ [V.int (128 + cell ns 3 % 128), V.int 0])) hr3)
      refine ⟨_, rfl, _, rfl, _, rfl, p5, _, rfl, SqL.of (f3 _ _ hO), fun r4 hr4 => ?_⟩
      rw [show cutV (os.map V.int) (some (s0 : Int)) none = (os.drop s0).map V.int by rw [cut_from (by rw [List.length_map]; exact hs0), List.map_drop]]
      have f4 := f3.trans (same_upd (o := .lst ((os.drop s0).map V.int)) hr4)
      refine ⟨r3, r4, _, _, rfl, rfl, same_upd hr4 _ _ upd_same, upd_same, smallE (by simp; omega), fun r5 hr5 => ?_⟩
      have hcl := len_cut (mid := [128 + cell ns 3 % 128, 0]) hs0
      have hml : [128 + cell ns 3 % 128, 0].length = 2 := rfl
      refine ⟨f4.trans (same_upd hr5), r5, os.take s0 ++ [128 + cell ns 3 % 128, 0] ++ os.drop s0, by omega, nonneg_cut hon hmid, by omega, ?_, rfl⟩
      rw [upd_same, List.map_append, List.map_append]
      rfl
    clear hO hol hon hs0
    rintro σ6 H6 ⟨e6, p6, os, hol, hon, hs0, hO, rfl⟩
    have hS6 := e6.seq hS5
    -- due
    refine ⟨fun σ' H' => Same H6 H' ∧ ∃ td : Addr, H' td = some (.tup (rdT (rd os 5 s0 true 0 1))) ∧ σ' = [some (.ref a), some (.int (n0 : Int)), some (.ref p6), some (.int kd), none, some (.int (s0 : Int)), some (.ref td), none, none, none], ?_, ?_⟩
    · exact ⟨_, rfl, _, rfl, p6, os, s0, rfl, SqL.of hO, by omega, hs0, fun td H' e _ hT => ⟨e, td, hT, rfl⟩⟩
    rintro σ7 H7 ⟨e7, td, hD, rfl⟩
    have hO7 := e7 _ _ hO
    -- copy
    refine ⟨fun σ' H' => Same H7 H' ∧ ∃ pc : Addr, H' pc = some (.lst (os.map V.int)) ∧ σ' = [some (.ref a), some (.int (n0 : Int)), some (.ref p6), some (.int kd), none, some (.int (s0 : Int)), some (.ref td), some (.ref pc), none, none], ?_, ?_⟩
    · exact ⟨_, rfl, p6, _, rfl, .inl (SqL.of hO7), fun pc hpc => ⟨same_upd hpc, pc, upd_same, rfl⟩⟩
    rintro σ8 H8 ⟨e8, pc, hC, rfl⟩
    have hO8 := e8 _ _ hO7
    have hD8 := e8 _ _ hD
    refine ⟨_, rfl, _, rfl, pc, os, s0, rfl, SqL.of hC, by omega, hs0, fun er her d hd => ?_, fun n e hok t H9 e9 hT => ?_⟩
    · refine ⟨true, exm_own T.x_EncodingError T.s_EncodingError_EncodingError, fun _ ea hea => ?_, fun q => nomatch q⟩
      have hxd : upd H8 d (.xd [("position", .int er)]) d = some (.xd [("position", .int er)]) := upd_same
      have hDx := same_upd (o := .xd [("position", .int er)]) hd _ _ hD8
      rw [her] at hDx
      refine ⟨_, rfl, td, _, _, V.int (-1), rfl, rfl, SqT.of hDx, rfl, _, rfl, rfl, _, rfl, itd (fun _ => ?_) (fun h => absurd rfl h)⟩
      refine ⟨_, rfl, rfl, rfl, d, _, V.int er, rfl, hxd, rfl, er, rfl, true, rfl, iteT ?_⟩
      refine ⟨_, rfl, rfl, rfl, d, _, V.int er, rfl, hxd, rfl, _, rfl, td, _, _, V.int er, rfl, rfl, SqT.of hDx, rfl, rfl, _, rfl, itd (fun _ => ?_) (fun h => absurd rfl h)⟩
      exact ⟨_, rfl, _, _, false, d, _, rfl, rfl, fun _ h => h, T.q_EncodingError_InvalidNumber, rfl, hxd, false, rfl, kQ _⟩
    · have hD9 := e9 _ _ hD8
      rw [hok] at hD9
      refine ⟨_, rfl, _, _, _, _, true, rfl, .ty _, tyx_tuple (SqT.of hT), kit_ty (by decide +kernel), true, rfl, iteF ?_⟩
      refine ⟨_, rfl, t, _, rfl, .inr (SqT.of hT), rfl, nm_no rfl ?_⟩
      refine ⟨_, rfl, _, rfl, _, _, dp_list (SqL.of (e9 _ _ hC)), dp_list (SqL.of (e9 _ _ hO8)), shaped_ints _, shaped_ints _, ne_no (eqv_refl' (shaped_ints _)) ?_⟩
      refine ⟨_, rfl, td, _, _, V.int n, rfl, rfl, SqT.of hD9, rfl, _, _, rfl, rfl, _, rfl, itd (fun _ => ?_) (fun h => absurd (rd_ok hon hok (by decide) (by decide)) (by omega))⟩
      refine ⟨_, rfl, t, _, _, V.int n, rfl, rfl, SqT.of hT, rfl, n, rfl, true, rfl, iteT ?_⟩
      refine ⟨_, rfl, t, _, _, V.int e, rfl, rfl, SqT.of hT, rfl, e, rfl, true, rfl, iteT ?_⟩
      have hsh : SeqAt.shaped (.tuple [.int n, .int e]) = true := rfl
      refine ⟨_, rfl, _, rfl, _, _, .tup (SqT.of hT) (.cons (.int n) (.cons (.int e) .nil)), .tup (SqT.of hD9) (.cons (.int n) (.cons (.int e) .nil)), hsh, hsh, ?_⟩
      exact to_true (Q := Q) (eqv_refl' hsh) (kQ _)

end
theorem law_mk {P : Program} {w : World} {K : PySem.W.Frag} {mg : Str → Option Value} {C_InvalidNumber C_EncodingError : Addr} {C_fa : Addr} (T : Txt P K mg C_InvalidNumber C_EncodingError) (hfa : mg "law" = some (.ref C_fa)) : ∃ fd : FuncData, (∀ (s : Shared) (v : Value), BindsTo s fd ⟨[v], []⟩ [("script", v)]) ∧ ∀ base : Heap, K.In base → base.Ns mainGlobals mg → FnOk P w K mg base CX0 4 C_fa fd ["script"] (spLaw K) := by
  obtain ⟨f, fd, F, g, b⟩ := id T.d_law
  have e := hfa.symm.trans g
  cases e
  refine ⟨fd, fun s v => ?_, fun base _ _ => ?_⟩
  · obtain ⟨oc, od, kV, doc, pm, an, cdv, ct, osl, rfl, lk, hcd⟩ := F.ex
    exact .of_eq rfl
  · exact ok_law0 T _ fd F
theorem law_end {P : Program} {w : World} {K : PySem.W.Frag} {h : Heap} {mg : Str → Option Value} {fa : Addr} {C_InvalidNumber C_EncodingError : Addr} {f_read_number : Addr} {oc_read_number kV_read_number dc_read_number pm_read_number cd_read_number ct_read_number : Value} {od_read_number an_read_number : Option Addr} {sl_read_number : Array (Option Value)} {f__law_cell : Addr} {oc__law_cell kV__law_cell dc__law_cell pm__law_cell cd__law_cell ct__law_cell : Value} {od__law_cell an__law_cell : Option Addr} {sl__law_cell : Array (Option Value)} {f__law_mix : Addr} {oc__law_mix kV__law_mix dc__law_mix pm__law_mix cd__law_mix ct__law_mix : Value} {od__law_mix an__law_mix : Option Addr} {sl__law_mix : Array (Option Value)} {f__law_row : Addr} {oc__law_row kV__law_row dc__law_row pm__law_row cd__law_row ct__law_row : Value} {od__law_row an__law_row : Option Addr} {sl__law_row : Array (Option Value)} {f__law_is_int : Addr} {oc__law_is_int kV__law_is_int dc__law_is_int pm__law_is_int cd__law_is_int ct__law_is_int : Value} {od__law_is_int an__law_is_int : Option Addr} {sl__law_is_int : Array (Option Value)} {f__law_number : Addr} {oc__law_number kV__law_number dc__law_number pm__law_number cd__law_number ct__law_number : Value} {od__law_number an__law_number : Option Addr} {sl__law_number : Array (Option Value)} {f__law_read : Addr} {oc__law_read kV__law_read dc__law_read pm__law_read cd__law_read ct__law_read : Value} {od__law_read an__law_read : Option Addr} {sl__law_read : Array (Option Value)} {f_law : Addr} {oc_law kV_law dc_law pm_law cd_law ct_law : Value} {od_law an_law : Option Addr} {sl_law : Array (Option Value)} {t_BASE : Tok} {t_MOST_DIGITS : Tok} {fI_EncodingError cc_EncodingError cda_EncodingError NN_EncodingError : Addr} {file_EncodingError nm_EncodingError q_EncodingError : Str} {bs_EncodingError bm_EncodingError sub_EncodingError : List Value} {sn_EncodingError : List Str} {ab_EncodingError : Bool} {col_EncodingError : Option Bool} {dd_EncodingError od_EncodingError an_EncodingError cdd_EncodingError cld_EncodingError : Option Addr} {k0_EncodingError k1_EncodingError k2_EncodingError k3_EncodingError k5_EncodingError : Option Value} {kV_EncodingError doc_EncodingError pm_EncodingError ct_EncodingError oc_EncodingError ccl_EncodingError cl_EncodingError : Value} {sl_EncodingError ccs_EncodingError csl_EncodingError : Array (Option Value)} {vs_EncodingError : Array Value} {tf_EncodingError : Tok} (X : K.In h) (G : h.Ns mainGlobals mg) (hfa : mg "law" = some (.ref fa))
    (a_read_number : PySem.W.nsIn K mainGlobals "read_number" = some (some (.ref f_read_number)))
    (l_read_number : K.lookup f_read_number = some ⟨oc_read_number, od_read_number, .func (PySem.W.fnOf "read_number" "read_number" (defArgs s_read_number) (defBody s_read_number) (defScope s_read_number) .none kV_read_number dc_read_number pm_read_number an_read_number cd_read_number ct_read_number), sl_read_number⟩)
    (c_read_number : PySem.W.codeIn K cd_read_number "read_number" = true)
    (k_read_number : PySem.W.keepIn K (.ref f_read_number) = true)
    (a__law_cell : PySem.W.nsIn K mainGlobals "_law_cell" = some (some (.ref f__law_cell)))
    (l__law_cell : K.lookup f__law_cell = some ⟨oc__law_cell, od__law_cell, .func (PySem.W.fnOf "_law_cell" "_law_cell" (defArgs s__law_cell) (defBody s__law_cell) (defScope s__law_cell) .none kV__law_cell dc__law_cell pm__law_cell an__law_cell cd__law_cell ct__law_cell), sl__law_cell⟩)
    (c__law_cell : PySem.W.codeIn K cd__law_cell "_law_cell" = true)
    (k__law_cell : PySem.W.keepIn K (.ref f__law_cell) = true)
    (a__law_mix : PySem.W.nsIn K mainGlobals "_law_mix" = some (some (.ref f__law_mix)))
    (l__law_mix : K.lookup f__law_mix = some ⟨oc__law_mix, od__law_mix, .func (PySem.W.fnOf "_law_mix" "_law_mix" (defArgs s__law_mix) (defBody s__law_mix) (defScope s__law_mix) .none kV__law_mix dc__law_mix pm__law_mix an__law_mix cd__law_mix ct__law_mix), sl__law_mix⟩)
    (c__law_mix : PySem.W.codeIn K cd__law_mix "_law_mix" = true)
    (k__law_mix : PySem.W.keepIn K (.ref f__law_mix) = true)
    (a__law_row : PySem.W.nsIn K mainGlobals "_law_row" = some (some (.ref f__law_row)))
    (l__law_row : K.lookup f__law_row = some ⟨oc__law_row, od__law_row, .func (PySem.W.fnOf "_law_row" "_law_row" (defArgs s__law_row) (defBody s__law_row) (defScope s__law_row) .none kV__law_row dc__law_row pm__law_row an__law_row cd__law_row ct__law_row), sl__law_row⟩)
    (c__law_row : PySem.W.codeIn K cd__law_row "_law_row" = true)
    (k__law_row : PySem.W.keepIn K (.ref f__law_row) = true)
    (a__law_is_int : PySem.W.nsIn K mainGlobals "_law_is_int" = some (some (.ref f__law_is_int)))
    (l__law_is_int : K.lookup f__law_is_int = some ⟨oc__law_is_int, od__law_is_int, .func (PySem.W.fnOf "_law_is_int" "_law_is_int" (defArgs s__law_is_int) (defBody s__law_is_int) (defScope s__law_is_int) .none kV__law_is_int dc__law_is_int pm__law_is_int an__law_is_int cd__law_is_int ct__law_is_int), sl__law_is_int⟩)
    (c__law_is_int : PySem.W.codeIn K cd__law_is_int "_law_is_int" = true)
    (k__law_is_int : PySem.W.keepIn K (.ref f__law_is_int) = true)
    (a__law_number : PySem.W.nsIn K mainGlobals "_law_number" = some (some (.ref f__law_number)))
    (l__law_number : K.lookup f__law_number = some ⟨oc__law_number, od__law_number, .func (PySem.W.fnOf "_law_number" "_law_number" (defArgs s__law_number) (defBody s__law_number) (defScope s__law_number) .none kV__law_number dc__law_number pm__law_number an__law_number cd__law_number ct__law_number), sl__law_number⟩)
    (c__law_number : PySem.W.codeIn K cd__law_number "_law_number" = true)
    (k__law_number : PySem.W.keepIn K (.ref f__law_number) = true)
    (a__law_read : PySem.W.nsIn K mainGlobals "_law_read" = some (some (.ref f__law_read)))
    (l__law_read : K.lookup f__law_read = some ⟨oc__law_read, od__law_read, .func (PySem.W.fnOf "_law_read" "_law_read" (defArgs s__law_read) (defBody s__law_read) (defScope s__law_read) .none kV__law_read dc__law_read pm__law_read an__law_read cd__law_read ct__law_read), sl__law_read⟩)
    (c__law_read : PySem.W.codeIn K cd__law_read "_law_read" = true)
    (k__law_read : PySem.W.keepIn K (.ref f__law_read) = true)
    (a_law : PySem.W.nsIn K mainGlobals "law" = some (some (.ref f_law)))
    (l_law : K.lookup f_law = some ⟨oc_law, od_law, .func (PySem.W.fnOf "law" "law" (defArgs s_law) (defBody s_law) (defScope s_law) .none kV_law dc_law pm_law an_law cd_law ct_law), sl_law⟩)
    (c_law : PySem.W.codeIn K cd_law "law" = true)
    (k_law : PySem.W.keepIn K (.ref f_law) = true)
    (a_BASE : PySem.W.nsIn K mainGlobals "BASE" = some (some (.int 128 t_BASE)))
    (a_MOST_DIGITS : PySem.W.nsIn K mainGlobals "MOST_DIGITS" = some (some (.int 5 t_MOST_DIGITS)))
    (z_range : PySem.W.nsIn K mainGlobals "range" = some none)
    (z_len : PySem.W.nsIn K mainGlobals "len" = some none)
    (z_int : PySem.W.nsIn K mainGlobals "int" = some none)
    (z_abs : PySem.W.nsIn K mainGlobals "abs" = some none)
    (z_isinstance : PySem.W.nsIn K mainGlobals "isinstance" = some none)
    (z_bool : PySem.W.nsIn K mainGlobals "bool" = some none)
    (z_list : PySem.W.nsIn K mainGlobals "list" = some none)
    (z_tuple : PySem.W.nsIn K mainGlobals "tuple" = some none)
    (a_InvalidNumber : PySem.W.nsIn K mainGlobals "InvalidNumber" = some (some (.ref C_InvalidNumber)))
    (x_InvalidNumber : PySem.W.excIn K C_InvalidNumber [.type "ValueError", .type "Exception", .type "BaseException", .type "object"] "ValueError.__new__" = true)
    (k_InvalidNumber : PySem.W.keepIn K (.ref C_InvalidNumber) = true)
    (b_InvalidNumber : PySem.W.subIn K (.ref C_InvalidNumber) (.type "BaseException") = some true)
    (t_InvalidNumber : PySem.W.typeIn K (.ref C_InvalidNumber) = some (.type "type"))
    (g_InvalidNumber : PySem.W.findIn K (.ref C_InvalidNumber) "__getattribute__" = some (some (.builtin "BaseException.__getattribute__")))
    (h_InvalidNumber : PySem.W.findIn K (.ref C_InvalidNumber) "__getattr__" = some none)
    (d_InvalidNumber : PySem.W.hasDictIn K C_InvalidNumber = true)
    (o_InvalidNumber : PySem.W.findIn K (.ref C_InvalidNumber) "__class__" = some (some (.builtin "object.__class__")))
    (n_InvalidNumber : PySem.W.specialIn K (.builtin "object.__class__") "__get__" = some (some (.builtin "getset_descriptor.__get__")))
    (m_InvalidNumber : PySem.W.takesIn K (.builtin "object.__class__") = some true)
    (r_InvalidNumber : PySem.W.mroIn K C_InvalidNumber (.type "object") = some true)
    (i_InvalidNumber : PySem.W.isClsIn K C_InvalidNumber = true)
    (a_EncodingError : PySem.W.nsIn K mainGlobals "EncodingError" = some (some (.ref C_EncodingError)))
    (k_EncodingError : PySem.W.keepIn K (.ref C_EncodingError) = true)
    (b_EncodingError : PySem.W.subIn K (.ref C_EncodingError) (.type "BaseException") = some true)
    (t_EncodingError : PySem.W.typeIn K (.ref C_EncodingError) = some (.type "type"))
    (d_EncodingError : PySem.W.hasDictIn K C_EncodingError = true)
    (i_EncodingError : PySem.W.isClsIn K C_EncodingError = true)
    (ea_EncodingError : PySem.W.nsIn K mainGlobals "EncodingError" = some (some (.ref C_EncodingError)))
    (ei_EncodingError : PySem.W.findIn K (.ref C_EncodingError) "__init__" = some (some (.ref fI_EncodingError)))
    (et_EncodingError : PySem.W.typeIn K (.ref fI_EncodingError) = some (.type "function"))
    (el_EncodingError : K.lookup fI_EncodingError = some ⟨oc_EncodingError, od_EncodingError, .func (PySem.W.fnX "__init__" "EncodingError.__init__" (defArgs s_EncodingError___init__) (defBody s_EncodingError___init__) (defScope s_EncodingError___init__) [("__class__", cc_EncodingError)] .none kV_EncodingError doc_EncodingError pm_EncodingError an_EncodingError (.ref cda_EncodingError) ct_EncodingError), sl_EncodingError⟩)
    (ec_EncodingError : PySem.W.codeIn K (.ref cda_EncodingError) "EncodingError.__init__" = true)
    (ef_EncodingError : K.lookup cda_EncodingError = some ⟨ccl_EncodingError, cdd_EncodingError, .fields vs_EncodingError, ccs_EncodingError⟩)
    (efv_EncodingError : vs_EncodingError[2]? = some (.str file_EncodingError tf_EncodingError))
    (eff_EncodingError : ((P.main.file : Str) == file_EncodingError) = true)
    (ece_EncodingError : K.lookup cc_EncodingError = some ⟨cl_EncodingError, cld_EncodingError, .cell (some (.ref C_EncodingError)), csl_EncodingError⟩)
    (exL_EncodingError : K.lookup C_EncodingError = some (excClassObj nm_EncodingError q_EncodingError C_EncodingError NN_EncodingError bs_EncodingError bm_EncodingError true sn_EncodingError sub_EncodingError ab_EncodingError col_EncodingError dd_EncodingError k0_EncodingError k1_EncodingError k2_EncodingError k3_EncodingError k5_EncodingError "ValueError.__new__"))
    (exb_EncodingError : PySem.HandSPX.refsVE bm_EncodingError = true)
    (esa_EncodingError : PySem.W.findIn K (.ref C_EncodingError) "__setattr__" = some (some (.builtin "object.__setattr__")))
    (eb_EncodingError : PySem.W.subIn K (.ref C_EncodingError) (.type "BaseException") = some true)
    (etc_EncodingError : PySem.W.typeIn K (.ref C_EncodingError) = some (.type "type"))
    (ek_EncodingError : PySem.W.keepIn K (.ref C_EncodingError) = true)
    (ese_EncodingError : PySem.W.mroIn K C_EncodingError (.ref C_EncodingError) = some true)
    (esu_EncodingError : PySem.W.nsIn K mainGlobals "super" = some none)
    (eop_EncodingError : PySem.W.nsIn K cStatics "thirdparty.any" = some none)
    (enx_EncodingError : PySem.W.ks_superIn K C_EncodingError C_EncodingError "__init__" = some (some (.builtin "ValueError.__init__")))
    (eve_EncodingError : PySem.W.subIn K (.ref C_EncodingError) (.type "ValueError") = some true)
    (etp_EncodingError : (P.main.scope.names.lookup ("super" : Str)).isSome = false)
    (efl_EncodingError : PySem.W.findIn K (.ref C_EncodingError) "position" = some none)
    (ega_EncodingError : PySem.W.findIn K (.ref C_EncodingError) "__getattribute__" = some (some (.builtin "BaseException.__getattribute__")))
    (egg_EncodingError : PySem.W.findIn K (.ref C_EncodingError) "__getattr__" = some none)
    (ehd_EncodingError : PySem.W.hasDictIn K C_EncodingError = true)
    (eha_EncodingError : PySem.W.findIn K (.ref C_EncodingError) "__class__" = some (some (.builtin "object.__class__")))
    (ehn_EncodingError : PySem.W.specialIn K (.builtin "object.__class__") "__get__" = some (some (.builtin "getset_descriptor.__get__")))
    (eht_EncodingError : PySem.W.takesIn K (.builtin "object.__class__") = some true)
    (ehm_EncodingError : PySem.W.mroIn K C_EncodingError (.type "object") = some true)
    (hq_EncodingError_InvalidNumber : PySem.W.subIn K (.ref C_EncodingError) (.ref C_InvalidNumber) = some false)
    (he_EncodingError_InvalidNumber : (Value.ref C_EncodingError == Value.ref C_InvalidNumber) = false)
    (hs_EncodingError_EncodingError : PySem.W.subIn K (.ref C_EncodingError) (.ref C_EncodingError) = some true)
    : ∃ fd : FuncData, (∀ (s : Shared) (v : Value), BindsTo s fd ⟨[v], []⟩ [("script", v)]) ∧ ∀ base : Heap, K.In base → base.Ns mainGlobals mg → FnOk P w K mg base CX0 4 fa fd ["script"] (spLaw K) :=
  law_mk (T := ⟨dn_mk X G a_read_number l_read_number c_read_number k_read_number (fun _ _ _ _ _ _ us hl => match us, hl with | [_, _], _ => rfl),
    dn_mk X G a__law_cell l__law_cell c__law_cell k__law_cell (fun _ _ _ _ _ _ us hl => match us, hl with | [_, _], _ => rfl),
    dn_mk X G a__law_mix l__law_mix c__law_mix k__law_mix (fun _ _ _ _ _ _ us hl => match us, hl with | [_, _], _ => rfl),
    dn_mk X G a__law_row l__law_row c__law_row k__law_row (fun _ _ _ _ _ _ us hl => match us, hl with | [_, _, _], _ => rfl),
    dn_mk X G a__law_is_int l__law_is_int c__law_is_int k__law_is_int (fun _ _ _ _ _ _ us hl => match us, hl with | [_], _ => rfl),
    dn_mk X G a__law_number l__law_number c__law_number k__law_number (fun _ _ _ _ _ _ us hl => match us, hl with | [_], _ => rfl),
    dn_mk X G a__law_read l__law_read c__law_read k__law_read (fun _ _ _ _ _ _ us hl => match us, hl with | [_, _], _ => rfl),
    dn_mk X G a_law l_law c_law k_law (fun _ _ _ _ _ _ us hl => match us, hl with | [_], _ => rfl),
    cv_int X G a_BASE,
    cv_int X G a_MOST_DIGITS,
    PySem.W.mg_none_of X G z_range,
    PySem.W.mg_none_of X G z_len,
    PySem.W.mg_none_of X G z_int,
    PySem.W.mg_none_of X G z_abs,
    PySem.W.mg_none_of X G z_isinstance,
    PySem.W.mg_none_of X G z_bool,
    PySem.W.mg_none_of X G z_list,
    PySem.W.mg_none_of X G z_tuple,
    xcl_mk X G a_InvalidNumber x_InvalidNumber k_InvalidNumber b_InvalidNumber t_InvalidNumber g_InvalidNumber h_InvalidNumber d_InvalidNumber o_InvalidNumber n_InvalidNumber m_InvalidNumber r_InvalidNumber i_InvalidNumber,
    xb_mk X G a_EncodingError k_EncodingError b_EncodingError t_EncodingError d_EncodingError i_EncodingError,
    OE.oerr_mk X G (NdefX.nscope_by (by decide +kernel)) (by decide +kernel) (by decide) (by decide) ⟨_, rfl, rfl⟩ (fun _ _ _ _ _ _ us hl => match us, hl with | [_, _], _ => rfl) ea_EncodingError ei_EncodingError et_EncodingError el_EncodingError ec_EncodingError ef_EncodingError efv_EncodingError eff_EncodingError ece_EncodingError exL_EncodingError exb_EncodingError esa_EncodingError eb_EncodingError etc_EncodingError ek_EncodingError ese_EncodingError esu_EncodingError eop_EncodingError enx_EncodingError eve_EncodingError etp_EncodingError efl_EncodingError ega_EncodingError egg_EncodingError ehd_EncodingError eha_EncodingError ehn_EncodingError eht_EncodingError ehm_EncodingError,
    kit_own i_InvalidNumber t_InvalidNumber hq_EncodingError_InvalidNumber (fun z => absurd (he_EncodingError_InvalidNumber.symm.trans z) (by decide)),
    hs_EncodingError_EncodingError⟩) hfa
theorem walk {l : PySem.W.OpenLaw} {q : Program} {loose : List Str} {XP : (Str → Option Value) → Heap → Prop} {YP : World → Heap → Prop} {d : DefRec} {K : Params → PySem.W.Frag} (hn : l.most = some 63) (hdf : d.params.defaults = [])
    (hY : ∀ (w : World) (h : Heap), YP w h → (K w.params).In h)
    (F : ∀ (w : World) (mg : Str → Option Value) (fa : Addr) (h : Heap), (K w.params).In h → h.Ns mainGlobals mg → mg d.name = some (.ref fa) →
      ∃ fd : FuncData, (∀ (s : Shared) (u : Value), BindsTo s fd ⟨[u], []⟩ [("script", u)]) ∧ ∀ base : Heap, (K w.params).In base → base.Ns mainGlobals mg → FnOk l.prog w (K w.params) mg base CX0 4 fa fd ["script"] (spLaw (K w.params))) :
    PySem.W.WalkO q loose XP YP l.row.toRowW d [] (fun f vs => PySem.call f vs) :=
  L2.walk_of (n := 63) (k := 4) (x := "script") (CX := fun _ => CX0) (sp := fun w => spLaw (K w.params)) hn (by decide) hdf ⟨rfl, by decide, by decide⟩ hY F (fun _ _ a ns hl _ hS => ⟨a, ns, rfl, hS, hl, fun _ => rfl⟩) fun _ _ _ _ _ z => z
end My
open PySem PySem.W PyProof.Rows in
set_option maxRecDepth 100000 in
set_option maxHeartbeats 0 in
theorem PySem.Challenge.cw_scanpages_k02_read_number_holds : PySem.Challenge.rw_scanpages_k02_read_number.Holds := by
  w_on; o_law; k_head; (case hw => w_witness2)
  k_fill
  refine My.walk (l := PySem.Challenge.rw_scanpages_k02_read_number) rfl rfl (fun w h Y => PySem.W.kIn_of Y) ?F
  case F =>
    intro w mg fa h KX G hmg
    refine' My.law_end KX G hmg ?a_read_number ?l_read_number ?c_read_number ?k_read_number ?a__law_cell ?l__law_cell ?c__law_cell ?k__law_cell ?a__law_mix ?l__law_mix ?c__law_mix ?k__law_mix ?a__law_row ?l__law_row ?c__law_row ?k__law_row ?a__law_is_int ?l__law_is_int ?c__law_is_int ?k__law_is_int ?a__law_number ?l__law_number ?c__law_number ?k__law_number ?a__law_read ?l__law_read ?c__law_read ?k__law_read ?a_law ?l_law ?c_law ?k_law ?a_BASE ?a_MOST_DIGITS ?z_range ?z_len ?z_int ?z_abs ?z_isinstance ?z_bool ?z_list ?z_tuple ?a_InvalidNumber ?x_InvalidNumber ?k_InvalidNumber ?b_InvalidNumber ?t_InvalidNumber ?g_InvalidNumber ?h_InvalidNumber ?d_InvalidNumber ?o_InvalidNumber ?n_InvalidNumber ?m_InvalidNumber ?r_InvalidNumber ?i_InvalidNumber ?a_EncodingError ?k_EncodingError ?b_EncodingError ?t_EncodingError ?d_EncodingError ?i_EncodingError ?ea_EncodingError ?ei_EncodingError ?et_EncodingError ?el_EncodingError ?ec_EncodingError ?ef_EncodingError ?efv_EncodingError ?eff_EncodingError ?ece_EncodingError ?exL_EncodingError ?exb_EncodingError ?esa_EncodingError ?eb_EncodingError ?etc_EncodingError ?ek_EncodingError ?ese_EncodingError ?esu_EncodingError ?eop_EncodingError ?enx_EncodingError ?eve_EncodingError ?etp_EncodingError ?efl_EncodingError ?ega_EncodingError ?egg_EncodingError ?ehd_EncodingError ?eha_EncodingError ?ehn_EncodingError ?eht_EncodingError ?ehm_EncodingError ?hq_EncodingError_InvalidNumber ?he_EncodingError_InvalidNumber ?hs_EncodingError_EncodingError
    (case a_read_number => k_is)
    (case l_read_number => k_is)
    (case c_read_number => k_is)
    (case k_read_number => k_is)
    (case a__law_cell => k_is)
    (case l__law_cell => k_is)
    (case c__law_cell => k_is)
    (case k__law_cell => k_is)
    (case a__law_mix => k_is)
    (case l__law_mix => k_is)
    (case c__law_mix => k_is)
    (case k__law_mix => k_is)
    (case a__law_row => k_is)
    (case l__law_row => k_is)
    (case c__law_row => k_is)
    (case k__law_row => k_is)
    (case a__law_is_int => k_is)
    (case l__law_is_int => k_is)
    (case c__law_is_int => k_is)
    (case k__law_is_int => k_is)
    (case a__law_number => k_is)
    (case l__law_number => k_is)
    (case c__law_number => k_is)
    (case k__law_number => k_is)
    (case a__law_read => k_is)
    (case l__law_read => k_is)
    (case c__law_read => k_is)
    (case k__law_read => k_is)
    (case a_law => k_is)
    (case l_law => k_is)
    (case c_law => k_is)
    (case k_law => k_is)
    (case a_BASE => k_is)
    (case a_MOST_DIGITS => k_is)
    (case z_range => k_is)
    (case z_len => k_is)
    (case z_int => k_is)
    (case z_abs => k_is)
    (case z_isinstance => k_is)
    (case z_bool => k_is)
    (case z_list => k_is)
    (case z_tuple => k_is)
    (case a_InvalidNumber => k_is)
    (case x_InvalidNumber => k_exc)
    (case k_InvalidNumber => k_is)
    (case b_InvalidNumber => k_is)
    (case t_InvalidNumber => k_is)
    (case g_InvalidNumber => k_is)
    (case h_InvalidNumber => k_is)
    (case d_InvalidNumber => k_is)
    (case o_InvalidNumber => k_is)
    (case n_InvalidNumber => k_is)
    (case m_InvalidNumber => k_is)
    (case r_InvalidNumber => k_is)
    (case i_InvalidNumber => k_is)
    (case a_EncodingError => k_is)
    (case k_EncodingError => k_is)
    (case b_EncodingError => k_is)
    (case t_EncodingError => k_is)
    (case d_EncodingError => k_is)
    (case i_EncodingError => k_is)
    (case ea_EncodingError => k_is)
    (case ei_EncodingError => k_is)
    (case et_EncodingError => k_is)
    (case el_EncodingError => k_is)
    (case ec_EncodingError => k_is)
    (case ef_EncodingError => k_is)
    (case efv_EncodingError => rfl)
    (case eff_EncodingError => first | rfl | decide +kernel)
    (case ece_EncodingError => k_is)
    (case exL_EncodingError => k_is)
    (case exb_EncodingError => first | rfl | decide +kernel)
    (case esa_EncodingError => k_is)
    (case eb_EncodingError => k_is)
    (case etc_EncodingError => k_is)
    (case ek_EncodingError => k_is)
    (case ese_EncodingError => k_is)
    (case esu_EncodingError => k_is)
    (case eop_EncodingError => k_is)
    (case enx_EncodingError => first | k_is | ks_is)
    (case eve_EncodingError => k_is)
    (case etp_EncodingError => first | rfl | decide +kernel)
    (case efl_EncodingError => k_is)
    (case ega_EncodingError => k_is)
    (case egg_EncodingError => k_is)
    (case ehd_EncodingError => k_is)
    (case eha_EncodingError => k_is)
    (case ehn_EncodingError => k_is)
    (case eht_EncodingError => k_is)
    (case ehm_EncodingError => k_is)
    (case hq_EncodingError_InvalidNumber => first | k_is | rfl)
    (case he_EncodingError_InvalidNumber => first | rfl | decide)
    (case hs_EncodingError_EncodingError => first | k_is | rfl)
#print axioms PySem.Challenge.cw_scanpages_k02_read_number_holds
