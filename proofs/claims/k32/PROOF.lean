import PyProof.Rows.All
import Wide.All
import OpenK.AllK
import Wide.FinOn
import PyProof.EqAt
import PyProof.EqKinds
import PyProof.TupleCall
import HandS.ForMost
import HandS.ForExc
import HandS.RaiseMore
import HandS.FStr
import HandS.IsInst
import HandS.ExcIs
import HandS.Wide
import HandS.Flow
import HandS.Conv
import HandS.Evl
import HandS.TupAny
import HandS.Style
import HandS.ExcCtx
import HandS.HotCalls
import HandS.Property
import PySem.Challenge.RW_scanpages_k32_formats
set_option Elab.async false
set_option linter.all false
set_option maxRecDepth 100000
set_option maxHeartbeats 4000000
/-! Cm: what all our proofs share -/
namespace Cm
open PySem PySem.Spec PyProof.Rows L2

/-! ### defs of the module, and what they promise -/
/-- the def x stands at some address behind the top -/
def Dn (K : PySem.W.Frag) (mg : Str → Option Value) (x : Str) (st : Stmt) (ps : List Str) : Prop :=
  ∃ (f : Addr) (fd : FuncData), Fun K x x st f fd ∧ mg x = some (.ref f) ∧ Binds K fd ps []
/-- the def x keeps the promise sp -/
def Ok (P : Program) (w : World) (K : PySem.W.Frag) (mg : Str → Option Value) (base : Heap) (CX : CXT) (k : Nat) (x : Str) (ps : List Str) (sp : Sp) : Prop :=
  ∃ (f : Addr) (fd : FuncData), FnOk P w K mg base CX k f fd ps sp ∧ mg x = some (.ref f) ∧ PySem.W.keepIn K (.ref f) = true ∧ Binds K fd ps []
theorem ok_of {P : Program} {w : World} {K : PySem.W.Frag} {mg : Str → Option Value} {base : Heap} {CX : CXT} {k : Nat} {x : Str} {st : Stmt} {ps : List Str} {sp : Sp} (d : Dn K mg x st ps)
    (h : ∀ f fd, Fun K x x st f fd → FnOk P w K mg base CX k f fd ps sp) : Ok P w K mg base CX k x ps sp := by
  obtain ⟨f, fd, F, g, b⟩ := d
  exact ⟨f, fd, h f fd F, g, F.kp, b⟩
section
variable {X : Cx} {CX : CXT} {k : Nat} {ps : List Str} {sp : Sp} {E : XK} {x : Str} {p pos : Pos} {e : Expr} {es : List Expr} {t : TA}
theorem pe_callO (G : Ok X.prog X.w X.K X.mg X.base CX k x ps sp) (hr : Room k X.A) (hx : Passes CX X E) (ha : PA X (e :: es) t) (hg : Gl X x := by rfl)
    (hdb : (x == ("__debug__" : Str)) = false := by decide) (he : starEach (e :: es) X.env = (false, eval e X.env) :: starEach es X.env := by rfl) (hpl : (backTo pos (starEach es X.env)).any (·.1) = false := by rfl) :
    PE X (.Call (.Name x p) (e :: es) [] pos) (tCall sp [] E t) := by
  obtain ⟨f, fd, F, g, kp, b⟩ := G
  exact pe_call F hr hg g kp b .nil hx ha hdb he hpl
theorem pe_callO0 (G : Ok X.prog X.w X.K X.mg X.base CX k x ps sp) (hr : Room k X.A) (hx : Passes CX X E) (hg : Gl X x := by rfl) (hdb : (x == ("__debug__" : Str)) = false := by decide) :
    PE X (.Call (.Name x p) [] [] pos) (tCall sp [] E tNil) := by
  obtain ⟨f, fd, F, g, kp, b⟩ := G
  exact pe_call0 F hr hg g kp b .nil hx hdb
theorem pe_callT {Es : L2.St → XK} (G : Ok X.prog X.w X.K X.mg X.base CX k x ps sp) (hr : Room k X.A) (hx : ∀ σ, PassesAt CX X σ (Es σ)) (ha : PA X (e :: es) t) (hg : Gl X x := by rfl)
    (hdb : (x == ("__debug__" : Str)) = false := by decide) (he : starEach (e :: es) X.env = (false, eval e X.env) :: starEach es X.env := by rfl) (hpl : (backTo pos (starEach es X.env)).any (·.1) = false := by rfl) :
    PE X (.Call (.Name x p) (e :: es) [] pos) (tCallS sp Es t) := by
  obtain ⟨f, fd, F, g, kp, b⟩ := G
  exact pe_callS F hr hg g kp b hx ha hdb he hpl
end
/-! ### errors: raised where nothing is handled -/
/-- what leaves a def: L2N's way -/
abbrev CXN (P : Program) (w : World) : CXT := L2N.CX P w
theorem passN {X : Cx} : Passes (CXN X.prog X.w) X E0 := fun _ _ _ _ _ _ _ h => by
  obtain ⟨_, _, _, _, _, _, _, _, _, _, _, _, z⟩ := h
  exact z.elim
theorem takesN {X : Cx} : L2N.Takes X (fun _ _ _ _ => False) := fun _ _ x => by
  obtain ⟨_, _, _, _, _, _, _, _, _, _, _, _, _, _, _, _, z⟩ := x
  exact z.elim
theorem passX {X : Cx} {E E' : XK} (tk : L2N.Takes X (fun cls d _ H => E cls d H)) (h : ∀ cls d H, E' cls d H → E cls d H) : Passes (CXN X.prog X.w) X E' := fun pins σ H s e s' I c => tk e s' (L2N.XE.of_call I (fun cls d H' q => h cls d H' q) c)
theorem okN {P : Program} {w : World} {K : PySem.W.Frag} {mg : Str → Option Value} {base : Heap} {x qual : Str} {st : Stmt} {f : Addr} {fd : FuncData} {N ps : List Str} {k : Nat} {sp : Sp} (F : Fun K x qual st f fd) (S : FnScope N ps (defScope st)) (len : ∀ vs H Q E, sp vs H Q E → vs.length = ps.length)
    (hbody : ∀ (cdv : Value) (A : Around) (outer : List Env) (s : Shared) (H : Hp) (vs : List V) (Q : VK) (E : XK), Room k (A.deeper (envOfC qual (defScope st) s.heap.objs.size f cdv)) → sp vs H Q E →
      ∃ t, PSs (cxOf (CXN P w) P w K mg base N qual (defScope st) f cdv A outer s H E) (defBody st) t ∧ t { nx := fun _ H' => Q .non H', rt := Q } (L2.start N vs) H) : FnOk P w K mg base (CXN P w) (k + 1) f fd ps sp := by
  obtain ⟨oc, od, kV, doc, pm, an, cdv, ct, osl, rfl, lk, hcd⟩ := F.ex
  exact fn_of lk hcd S len fun A outer s H vs Q E hr hsp => hbody cdv A outer s H vs Q E hr hsp
section
variable {X : Cx}
/-- X(e) -/
theorem pmk_own1 {C : Addr} {bmB : List Value} {B newId initId : String} {x : Str} {e : Expr} {ta : TE} {p pos : Pos} (F : ExcBaseFacts B newId initId bmB) (q : PySem.W.excIn X.K C bmB newId = true) (gC : X.mg x = some (.ref C)) (kC : PySem.W.keepIn X.K (.ref C) = true) (r : Raises X (.ref C)) (hg : Gl X x)
    (he : PE X e ta) (hs : starEach [e] X.env = (false, eval e X.env) :: starEach [] X.env := by rfl) (hdb : (x == ("__debug__" : Str)) = false := by decide) :
    L2N.PMk X (.Call (.Name x p) [e] [] pos) (fun σ H Q => ta σ H fun _ H1 => Q (.ref C) none H1) := by
  intro pins s σ H Q I h
  refine wpAny_Call_Name_kw (ld_glob I hg gC ?_ hdb)
  refine PySem.W.callWith_K (h₀ := X.base) I.ok.mod.kin kC ?_ hs (by rfl)
  rw [hs]
  show wpAny _ _ (spliced ((false, eval e X.env) :: backTo pos (starEach [] X.env))) _ _ s
  refine Calls.spliced_cons (thn (he.run pins s σ H _ I h) fun u s1 ⟨v, H1, I1, r1, q1⟩ => ?_)
  refine Calls.spliced_nil ⟨I1.kIn, ?_⟩
  show wpAny _ _ (call (.ref C) [u]) _ _ _
  obtain ⟨bm, N, nm, qn, bs, hdct, sn, sub, ab, col, dd, k0, k1, k2, k3, k5, mN, hC, hN, hni, T⟩ := exc_obj I1.kIn q
  refine wpAny_call_exc_subT F T hC hN hni (fun h' e hm => ?_) (by show 1 ≤ sizeLine; rw [sizeLine_eq]; omega)
  exact L2N.mk_of I1 hm r q1 (I1.hok.gone hm.new)
end
/-! ### defs called within an except suite -/
def OkH (P : Program) (w : World) (K : PySem.W.Frag) (mg : Str → Option Value) (base : Heap) (CX : CXT) (k : Nat) (x : Str) (ps : List Str) (sp : Sp) : Prop :=
  ∃ (f : Addr) (fd : FuncData), L2H.FnH P w K mg base CX k f fd ps sp ∧ mg x = some (.ref f) ∧ PySem.W.keepIn K (.ref f) = true ∧ Binds K fd ps []
theorem okH_of {P : Program} {w : World} {K : PySem.W.Frag} {mg : Str → Option Value} {base : Heap} {k : Nat} {x : Str} {st : Stmt} {N ps : List Str} {sp : Sp} (d : Dn K mg x st ps) (S : FnScope N ps (defScope st)) (len : ∀ vs H Q E, sp vs H Q E → vs.length = ps.length)
    (hbody : ∀ (f : Addr) (cdv : Value) (A : Around) (outer : List Env) (s : Shared) (H : Hp) (vs : List V) (Q : VK) (E : XK) (p : Addr × Obj), L2H.Hot1 A p → L2H.RoomH k (A.deeper (envOfC x (defScope st) s.heap.objs.size f cdv)) → sp vs H Q E →
      ∃ t, PSs (L2H.cxH CX0 P w K mg base N x (defScope st) f cdv A outer s H E p) (defBody st) t ∧ t { nx := fun _ H' => Q .non H', rt := Q } (L2.start N vs) H) : OkH P w K mg base CX0 (k + 1) x ps sp := by
  obtain ⟨f, fd, F, g, b⟩ := d
  refine ⟨f, fd, ?_, g, F.kp, b⟩
  obtain ⟨oc, od, kV, doc, pm, an, cdv, ct, osl, rfl, lk, hcd⟩ := F.ex
  exact L2H.fn_ofH lk hcd S len fun A outer s H vs Q E p hot hr hsp => hbody f cdv A outer s H vs Q E p hot hr hsp
section
variable {X : Cx} {k : Nat} {ps : List Str} {sp : Sp} {x : Str} {p pos : Pos} {e : Expr} {es : List Expr} {t : TA}
theorem pe_callHO (G : OkH X.prog X.w X.K X.mg X.base CX0 k x ps sp) (hr : L2H.RoomH k X.A) (hc : L2H.HotC X) (ha : PA X (e :: es) t) (hg : Gl X x := by rfl)
    (hdb : (x == ("__debug__" : Str)) = false := by decide) (he : starEach (e :: es) X.env = (false, eval e X.env) :: starEach es X.env := by rfl) (hpl : (backTo pos (starEach es X.env)).any (·.1) = false := by rfl) :
    PE X (.Call (.Name x p) (e :: es) [] pos) (tCallS sp (fun _ => E0) t) := by
  obtain ⟨f, fd, F, g, kp, b⟩ := G
  exact L2H.pe_callH F hr hc hg g kp b (fun _ _ _ _ _ _ _ h => h.elim) ha hdb he hpl
theorem roomS {k j : Nat} {A : Around} {h : Option Value} (hr : Room k A) (hj : j ≤ k) : L2H.RoomH j (A.mark h) := L2H.RoomH.mono (k := k) ⟨hr.dp, hr.un⟩ hj
theorem hotS {a : Addr} {oe : Obj} {cls : Value} {d : Option Addr} {pn : List (Addr × Obj)} (hz : L2N.Zn cls d oe) (hf : ∃ vs, oe.data = .fields vs) : L2H.HotC (X.suite a ((a, oe) :: pn)) := by
  obtain ⟨vs, e⟩ := hf
  exact ⟨(a, oe), ⟨rfl, vs, e, hz.2.2 vs e⟩, List.mem_cons_self⟩
end
/-! ### names of the module -/
/-- the name x of the module holds v -/
def CV (mg : Str → Option Value) (x : Str) (v : V) : Prop := ∃ u, mg x = some u ∧ RelV v u
theorem pe_globC {X : Cx} {x : Str} {v : V} {pos : Pos} (hg : Gl X x) (h : CV X.mg x v) (hd : (x == ("__debug__" : Str)) = false := by decide) : PE X (.Name x pos) (tC v) := by
  obtain ⟨u, hm, r⟩ := h
  exact pe_glob hg hm r hd
theorem pe_globR {X : Cx} {x : Str} {a : Addr} {pos : Pos} (hg : Gl X x) (h : X.mg x = some (.ref a)) (hd : (x == ("__debug__" : Str)) = false := by decide) : PE X (.Name x pos) (tC (.ref a)) := pe_glob hg h rfl hd
/-! ### tests -/
theorem itd {p A B : Prop} [Decidable p] (h1 : p → A) (h2 : ¬ p → B) : if decide p = true then A else B := by
  by_cases h : p
  · rw [if_pos (decide_eq_true h)]
    exact h1 h
  · rw [if_neg (by simp [h])]
    exact h2 h
theorem itb {b : Bool} {A B : Prop} (h1 : b = true → A) (h2 : b = false → B) : if b = true then A else B := by
  cases b with
  | true => exact iteT (h1 rfl)
  | false => exact iteF (h2 rfl)
/-! ### error classes -/
/-- an error class that may have an own __init__ -/
structure XB (K : PySem.W.Frag) (mg : Str → Option Value) (x : Str) (C : Addr) : Prop where
  g : mg x = some (.ref C)
  k : PySem.W.keepIn K (.ref C) = true
  b : PySem.W.subIn K (.ref C) (.type "BaseException") = some true
  t : PySem.W.typeIn K (.ref C) = some (.type "type")
  d : PySem.W.hasDictIn K C = true
  i : PySem.W.isClsIn K C = true
/-- an error class without an own __init__ -/
structure XCl (K : PySem.W.Frag) (mg : Str → Option Value) (x : Str) (C : Addr) : Prop extends XB K mg x C where
  x : PySem.W.excIn K C [.type "ValueError", .type "Exception", .type "BaseException", .type "object"] "ValueError.__new__" = true
  e : ExcC K C
section
variable {K : PySem.W.Frag} {h : Heap} {mg : Str → Option Value} {x : Str} {C : Addr}
theorem xb_mk (X : K.In h) (G : h.Ns mainGlobals mg) (a : PySem.W.nsIn K mainGlobals x = some (some (.ref C))) (k : PySem.W.keepIn K (.ref C) = true) (b : PySem.W.subIn K (.ref C) (.type "BaseException") = some true)
    (t : PySem.W.typeIn K (.ref C) = some (.type "type")) (d : PySem.W.hasDictIn K C = true) (i : PySem.W.isClsIn K C = true) : XB K mg x C := ⟨PySem.W.mg_of X G a, k, b, t, d, i⟩
theorem xcl_mk (X : K.In h) (G : h.Ns mainGlobals mg) (a : PySem.W.nsIn K mainGlobals x = some (some (.ref C)))
    (q : PySem.W.excIn K C [.type "ValueError", .type "Exception", .type "BaseException", .type "object"] "ValueError.__new__" = true) (k : PySem.W.keepIn K (.ref C) = true)
    (b : PySem.W.subIn K (.ref C) (.type "BaseException") = some true) (t : PySem.W.typeIn K (.ref C) = some (.type "type"))
    (hg : PySem.W.findIn K (.ref C) "__getattribute__" = some (some (.builtin "BaseException.__getattribute__"))) (hk : PySem.W.findIn K (.ref C) "__getattr__" = some none) (hd : PySem.W.hasDictIn K C = true)
    (ha : PySem.W.findIn K (.ref C) "__class__" = some (some (.builtin "object.__class__"))) (hn : PySem.W.specialIn K (.builtin "object.__class__") "__get__" = some (some (.builtin "getset_descriptor.__get__")))
    (ht : PySem.W.takesIn K (.builtin "object.__class__") = some true) (hm : PySem.W.mroIn K C (.type "object") = some true) (i : PySem.W.isClsIn K C = true) : XCl K mg x C :=
  ⟨⟨PySem.W.mg_of X G a, k, b, t, hd, i⟩, q, ⟨hg, hk, b, hd, ha, hn, ht, hm⟩⟩
/-- isinstance of an own class -/
theorem kit_own {D : Addr} {r : Bool} (i : PySem.W.isClsIn K C = true) (t : PySem.W.typeIn K (.ref C) = some (.type "type")) (s : PySem.W.subIn K (.ref D) (.ref C) = some r) (hne : (Value.ref D == Value.ref C) = true → r = true) :
    PySem.W.kitOne K (.ref D) (.ref C) = some r := by
  unfold PySem.W.kitOne
  cases e : (Value.ref D == Value.ref C) with
  | true => rw [if_pos rfl, hne e]
  | false =>
    rw [if_neg Bool.false_ne_true]
    have h2 : ((PySem.W.clsIn K C).isSome && PySem.W.typeIn K (.ref C) == some (.type "type")) = true := by
      have h2' : (PySem.W.clsIn K C).isSome = true := i
      rw [h2', t] <;> rfl
    show (if ((PySem.W.clsIn K C).isSome && PySem.W.typeIn K (.ref C) == some (.type "type")) = true then PySem.W.subIn K (.ref D) (.ref C) else none) = some r
    rw [if_pos h2, s]
theorem kit_ve {D : Addr} (s : PySem.W.subIn K (.ref D) (.type "ValueError") = some true) : PySem.W.kitOne K (.ref D) (.type "ValueError") = some true := by
  have e : (Value.ref D == Value.type "ValueError") = false := rfl
  unfold PySem.W.kitOne
  rw [e, if_neg Bool.false_ne_true]
  show (if PySem.W.kitMeta "ValueError" = true then PySem.W.subIn K (.ref D) (.type "ValueError") else none) = some true
  rw [if_pos (by decide +kernel), s]
/-- except C takes an error of the class at D -/
theorem exm_own {D : Addr} {r : Bool} {y : Str} (c : XB K mg y C) (s : PySem.W.subIn K (.ref D) (.ref C) = some r) : PySem.W.exmOne K (.ref D) (.ref C) = some r := PySem.W.exm_ref c.b c.d c.t s
/-! ### the facts of the top -/
theorem dn_mk {st : Stmt} {ps : List Str} {f : Addr} {oc : Value} {od an : Option Addr} {osl : Array (Option Value)} {kV doc pm cdv ct : Value} (X : K.In h) (G : h.Ns mainGlobals mg) (a : PySem.W.nsIn K mainGlobals x = some (some (.ref f)))
    (l : K.lookup f = some ⟨oc, od, .func (PySem.W.fnOf x x (defArgs st) (defBody st) (defScope st) .none kV doc pm an cdv ct), osl⟩) (c : PySem.W.codeIn K cdv x = true) (k : PySem.W.keepIn K (.ref f) = true)
    (hb : ∀ (kV doc pm : Value) (an : Option Addr) (cdv ct : Value) (us : List Value), us.length = ps.length → bindArgs (PySem.W.fnOf x x (defArgs st) (defBody st) (defScope st) .none kV doc pm an cdv ct) ⟨us, []⟩ = pure (ps.zip us)) : Dn K mg x st ps :=
  ⟨f, _, fun_mk l c k, PySem.W.mg_of X G a, (fun_mk l c k).binds hb⟩
theorem cv_int {i : Int} {t : Tok} (X : K.In h) (G : h.Ns mainGlobals mg) (a : PySem.W.nsIn K mainGlobals x = some (some (.int i t))) : CV mg x (.int i) := ⟨_, PySem.W.mg_of X G a, _, rfl⟩
theorem cv_str {i : Str} {t : Tok} (X : K.In h) (G : h.Ns mainGlobals mg) (a : PySem.W.nsIn K mainGlobals x = some (some (.str i t))) : CV mg x (.str i) := ⟨_, PySem.W.mg_of X G a, _, rfl⟩
theorem cv_bl {i : Bool} (X : K.In h) (G : h.Ns mainGlobals mg) (a : PySem.W.nsIn K mainGlobals x = some (some (.bool i))) : CV mg x (.bl i) := ⟨_, PySem.W.mg_of X G a, rfl⟩
/-- the name x of the module holds a tuple of the written part -/
def CT (K : PySem.W.Frag) (mg : Str → Option Value) (x : Str) (xs : List V) : Prop := ∃ p, mg x = some (.ref p) ∧ ∀ H, SqT K H p xs
theorem ct_mk {p : Addr} {od : Option Addr} {its : Array Value} {n : Nat} {sl : Array (Option Value)} {xs : List V} (X : K.In h) (G : h.Ns mainGlobals mg) (a : PySem.W.nsIn K mainGlobals x = some (some (.ref p)))
    (l : K.lookup p = some ⟨.type "tuple", od, .seq its n, sl⟩) (hs : its.size ≤ sizeLine) (hv : Vals xs its.toList) : CT K mg x xs :=
  ⟨p, PySem.W.mg_of X G a, fun _ => .inr ⟨_, its, n, l, rfl, rfl, hs, hv⟩⟩
end
theorem pe_globT {X : Cx} {x : Str} {xs : List V} {pos : Pos} (hg : Gl X x) (h : CT X.K X.mg x xs) (hd : (x == ("__debug__" : Str)) = false := by decide) :
    PE X (.Name x pos) (fun _ H Q => ∀ p, (∀ H', SqT X.K H' p xs) → Q (.ref p) H) := by
  obtain ⟨p, hm, hs⟩ := h
  exact ⟨fun pins s σ H Q I h => (pe_glob hg hm (v := .ref p) rfl hd).run pins s σ H Q I (h p hs)⟩
/-! ### a suite that is read for known errors alone -/
theorem pss_guard {X : Cx} {st : List Stmt} {p : Prop} {t : TS} (h : p → PSs X st t) : PSs X st (fun D σ H => p ∧ t D σ H) :=
  ⟨fun pins s σ H D I q => (h q.1).run pins s σ H D I q.2⟩
theorem to_true {Q : VK} {b : Bool} {H : Hp} (h : b = true) (q : Q (.bl true) H) : Q (.bl b) H := h ▸ q
/-- a new object at p stays the only one that changes -/
theorem same_new {H H' : Hp} {p : Addr} {o : HO} (e : Same H H') (hp : H p = none) : Same H (upd H' p o) := Evl.Ex.mut e hp
theorem same_upd {H : Hp} {p : Addr} {o : HO} (hp : H p = none) : Same H (upd H p o) := Evl.Ex.new hp
theorem tyx_list {K : PySem.W.Frag} {H : Hp} {a : Addr} {xs : List V} (h : SqL K H a xs) : TyX K H (.ref a) (.type "list") := by
  rcases h with (h | ⟨o, h⟩) | ⟨o, its, n, h, hc, _⟩
  · exact .base (.lst h)
  · exact .base (.frz h)
  · exact .kList h hc
theorem tyx_tuple {K : PySem.W.Frag} {H : Hp} {a : Addr} {xs : List V} (h : SqT K H a xs) : TyX K H (.ref a) (.type "tuple") := by
  rcases h with (h | ⟨o, h⟩) | ⟨o, its, n, h, hc, _⟩
  · exact .base (.tup h)
  · exact .fTuple h
  · exact .kTuple h hc
theorem small {n : Nat} (h : n ≤ 100000) : n < sizeLine := Nat.lt_of_le_of_lt h (by decide)
theorem smallE {n : Nat} (h : n ≤ 100000) : n ≤ sizeLine := Nat.le_trans h (by decide)
/-- for .. in enumerate(list) -/
theorem for_enum {K : PySem.W.Frag} {a : Addr} {xs : List V} {g : TG} {tb : TS} {D : Ends} {σ : L2.St} {H : Hp} (Pv : Nat → L2.St → Hp → Prop) (h0 : Pv 0 σ H) (hl : ∀ i σ H, i ≤ xs.length → Pv i σ H → SqL K H a xs)
    (hs : ∀ i x T σ H, xs[i]? = some x → Pv i σ H → H T = none → g (.ref T) σ (upd H T (.tup [.int (i : Nat), x])) fun σ2 H2 => tb { D with nx := Pv (i + 1), ct := Pv (i + 1), bk := D.nx } σ2 H2) (hd : ∀ σ H, Pv xs.length σ H → D.nx σ H) :
    ∃ W : Nat → Nat → L2.St → Hp → Prop, (∃ m, W 0 m σ H) ∧ ∀ i m σ H, W i m σ H →
      ((Ite K a).stop i H ∧ D.nx σ H) ∨ ((Ite K a).go i H ∧ ∃ N : L2.St → Hp → Prop, (∀ σ' H', N σ' H' → ∃ m', m' < m ∧ W (i + 1) m' σ' H') ∧ ∀ x H', (Ite K a).yld i H x H' → g x σ H' fun σ2 H2 => tb { D with nx := N, ct := N, bk := D.nx } σ2 H2) := by
  refine ⟨fun i m σ H => m = xs.length - i ∧ i ≤ xs.length ∧ Pv i σ H, ⟨xs.length, by simp, Nat.zero_le _, h0⟩, ?_⟩
  rintro i m σ H ⟨rfl, hi, p⟩
  have q := hl i σ H hi p
  by_cases hlt : i < xs.length
  · refine .inr ⟨⟨xs, xs[i], q, by simp [hlt]⟩, Pv (i + 1), fun σ' H' p' => ⟨xs.length - (i + 1), by omega, rfl, hlt, p'⟩, fun x H' y => ?_⟩
    obtain ⟨T, z, rfl, hT, rfl, y⟩ := y
    exact hs i z T σ H (y xs q) p hT
  · have e : i = xs.length := by omega
    subst e
    exact .inl ⟨⟨xs, q, Nat.le_refl _⟩, hd σ H p⟩
/-- an item of a list by a number that is told -/
theorem at_nat {α : Type} {xs : List α} {i : Int} {j : Nat} {v : α} (e : i = (j : Int)) (h : xs[j]? = some v) : atI xs i = some v := e ▸ atI_nat h
theorem ix_nat {n j : Nat} {i : Int} (e : i = (j : Int)) (h : j < n) : ixN n i = some j := e ▸ Evl.ixN_nat h
/-! ### rules whose reading names the written part by itself (for the bodies and suites of a try) -/
def rLenK (K : PySem.W.Frag) : List V → Hp → VK → Prop := fun xs H Q => ∃ p ys, xs = [.ref p] ∧ (SqL K H p ys ∨ SqT K H p ys) ∧ Q (.int ys.length) H
theorem call_lenK {X : Cx} {K : PySem.W.Frag} (h : X.K = K := by rfl) : CallR X (.builtin "len") (rLenK K) := by
  subst h
  exact call_len_seq
theorem op_eqDK {X : Cx} {K : PySem.W.Frag} (hu : X.A.units + 64 < cLine) (h : X.K = K := by rfl) : OpR X (compareOp .Eq) (rEqD K) := by
  subst h
  exact op_eqD hu
theorem op_neDK {X : Cx} {K : PySem.W.Frag} (hu : X.A.units + 64 < cLine) (h : X.K = K := by rfl) : OpR X (compareOp .NotEq) (rNeD K) := by
  subst h
  exact op_neD hu
theorem call_isiK' {X : Cx} {K : PySem.W.Frag} (h : X.K = K := by rfl) : CallR X (.builtin "isinstance") (rIsi K) := by
  subst h
  exact call_isi
def rListK (K : PySem.W.Frag) : List V → Hp → VK → Prop := fun xs H Q => ∃ p ys, xs = [.ref p] ∧ (SqL K H p ys ∨ SqT K H p ys) ∧ ∀ l, H l = none → Q (.ref l) (upd H l (.lst ys))
theorem call_list_ofK {X : Cx} {K : PySem.W.Frag} (h : X.K = K := by rfl) : CallR X (.type "list") (rListK K) := by
  subst h
  exact call_list_of
theorem sl_listK {X : Cx} {K : PySem.W.Frag} (h : X.K = K := by rfl) : SlR X (rSlL K) := by
  subst h
  exact sl_list
/-! ### slices -/
theorem sIx_nat {n k : Nat} (d : Nat) (h : k ≤ n) : HT.sIx n d (some (k : Int)) = k := by
  simp only [HT.sIx]
  split <;> omega
theorem cut_to {xs : List V} {k : Nat} (h : k ≤ xs.length) : cutV xs none (some (k : Int)) = xs.take k := by
  unfold cutV
  rw [sIx_nat _ h]
  simp [HT.sIx]
theorem cut_from {xs : List V} {k : Nat} (h : k ≤ xs.length) : cutV xs (some (k : Int)) none = xs.drop k := by
  unfold cutV
  rw [sIx_nat _ h]
  simp only [HT.sIx]
  rw [List.take_of_length_le (by rw [List.length_drop]; omega)]
theorem cut_mid {xs : List V} {j k : Nat} (h1 : j ≤ k) (h : k ≤ xs.length) : cutV xs (some (j : Int)) (some (k : Int)) = (xs.drop j).take (k - j) := by
  unfold cutV
  rw [sIx_nat _ h, sIx_nat _ (Nat.le_trans h1 h)]
/-! ### data -/
mutual
theorem dp_mono {K : PySem.W.Frag} {H H' : Hp} (e : Same H H') : ∀ {d : PyData} {v : V}, Dp K H v d → Dp K H' v d
  | _, _, .non => .non
  | _, _, .bl b => .bl b
  | _, _, .int i => .int i
  | _, _, .str x => .str x
  | _, _, .lst h r => .lst (e.seq h) (dpAll_mono e r)
  | _, _, .tup h r => .tup (Evl.ex_t e h) (dpAll_mono e r)
theorem dpAll_mono {K : PySem.W.Frag} {H H' : Hp} (e : Same H H') : ∀ {ds : List PyData} {vs : List V}, DpAll K H vs ds → DpAll K H' vs ds
  | _, _, .nil => .nil
  | _, _, .cons h r => .cons (dp_mono e h) (dpAll_mono e r)
end
theorem dp_ints {K : PySem.W.Frag} {H : Hp} : ∀ (ns : List Int), DpAll K H (ns.map V.int) (ns.map PyData.int)
  | [] => .nil
  | n :: ns => .cons (.int n) (dp_ints ns)
theorem canLayAll_ints : ∀ (ns : List Int), PyData.canLayAll0 (ns.map PyData.int) = true
  | [] => rfl
  | n :: ns => by simp [PyData.canLayAll0, PyData.canLay0, canLayAll_ints ns]
theorem depthAll_ints : ∀ (ns : List Int), PyData.depthAll (ns.map PyData.int) = 0
  | [] => rfl
  | n :: ns => by simp [PyData.depthAll, PyData.depth, depthAll_ints ns]
theorem shaped_ints (ns : List Int) : SeqAt.shaped (.list (ns.map PyData.int)) = true := by
  simp [SeqAt.shaped, PyData.canLay0, PyData.depth, canLayAll_ints, depthAll_ints]
theorem eqvAll_ints : ∀ (ns ms : List Int), PyData.eqvAll (ns.map PyData.int) (ms.map PyData.int) = decide (ns = ms)
  | [], [] => by simp [PyData.eqvAll]
  | [], m :: ms => by simp [PyData.eqvAll]
  | n :: ns, [] => by simp [PyData.eqvAll]
  | n :: ns, m :: ms => by
    by_cases h : n = m <;> simp [PyData.eqvAll, PyData.eqv, eqvAll_ints ns ms, h]
theorem eqv_ints (ns ms : List Int) : PyData.eqv (.list (ns.map PyData.int)) (.list (ms.map PyData.int)) = decide (ns = ms) := by
  rw [PyData.eqv]
  exact eqvAll_ints ns ms
theorem shaped_pair (as bs : List Int) : SeqAt.shaped (.tuple [.list (as.map PyData.int), .list (bs.map PyData.int)]) = true := by
  simp [SeqAt.shaped, PyData.canLay0, PyData.canLayAll0, PyData.depth, PyData.depthAll, canLayAll_ints, depthAll_ints]
theorem eqv_refl' {d : PyData} (h : SeqAt.shaped d = true) : PyData.eqv d d = true := SeqAt.eqv_refl _ (SeqAt.canLay_of_shaped h)
theorem dp_list {K : PySem.W.Frag} {H : Hp} {a : Addr} {ns : List Int} (h : SqL K H a (ns.map V.int)) : Dp K H (.ref a) (.list (ns.map PyData.int)) := .lst h (dp_ints ns)
theorem get_ints {ns : List Int} {i : Nat} {y : V} (h : (ns.map V.int)[i]? = some y) : ∃ (hi : i < ns.length), y = V.int ns[i] := by
  rw [List.getElem?_map] at h
  by_cases hi : i < ns.length
  · rw [List.getElem?_eq_getElem hi] at h
    exact ⟨hi, (Option.some.inj h).symm⟩
  · rw [List.getElem?_eq_none (Nat.le_of_not_lt hi)] at h
    cases h
theorem take_snoc {α : Type} {l : List α} {i : Nat} (hi : i < l.length) : l.take (i + 1) = l.take i ++ [l[i]] := by
  rw [List.take_add_one, List.getElem?_eq_getElem hi]
  rfl
/-! ### the script's cells -/
def cell (ns : List Int) (k : Nat) : Int := ns.getD k 0
theorem cell_in {ns : List Int} {k : Nat} (hk : k < ns.length) : cell ns k = ns[k] := by simp [cell, List.getD_eq_getElem?_getD, List.getElem?_eq_getElem hk]
theorem cell_out {ns : List Int} {k : Nat} (hk : ¬ k < ns.length) : cell ns k = 0 := by simp [cell, List.getD_eq_getElem?_getD, List.getElem?_eq_none (Nat.le_of_not_lt hk)]
end Cm

/-! ### own classes: made, their properties, their methods -/
namespace CL
open PySem PySem.Spec PyProof.Rows L2 Cm
/-- the class x at C has the __init__ st -/
def DnI (K : PySem.W.Frag) (mg : Str → Option Value) (x qual : Str) (C : Addr) (st : Stmt) (ps : List Str) : Prop := ∃ (g : Addr) (fd : FuncData), Mk K C g ∧ mg x = some (.ref C) ∧ Fun K "__init__" qual st g fd ∧ Binds K fd ps []
/-- the class at C has the property f -/
def DnP (K : PySem.W.Frag) (C : Addr) (f qual : Str) (st : Stmt) (ps : List Str) : Prop := ∃ (p g : Addr) (fd : FuncData), PropOf K C f p g ∧ Fun K f qual st g fd ∧ Binds K fd ps []
/-- the class at C has the method f -/
def DnM (K : PySem.W.Frag) (C : Addr) (f qual : Str) (st : Stmt) (ps : List Str) : Prop := ∃ (g : Addr) (fd : FuncData), Meth K C f g ∧ Fun K f qual st g fd ∧ Binds K fd ps []
section
variable {K : PySem.W.Frag} {h : Heap} {mg : Str → Option Value} {x qual f : Str} {C p g : Addr} {st : Stmt} {ps : List Str} {oc kV doc pm cdv ct : Value} {od an : Option Addr} {sl : Array (Option Value)}
theorem dni_mk (X : K.In h) (G : h.Ns mainGlobals mg) (a : PySem.W.nsIn K mainGlobals x = some (some (.ref C))) (m : PySem.W.makesIn K C = true) (i : PySem.W.findIn K (.ref C) "__init__" = some (some (.ref g))) (t : PySem.W.isFn K (.ref g) = true) (kc : PySem.W.keepIn K (.ref C) = true)
    (l : K.lookup g = some ⟨oc, od, .func (PySem.W.fnOf "__init__" qual (defArgs st) (defBody st) (defScope st) .none kV doc pm an cdv ct), sl⟩) (c : PySem.W.codeIn K cdv qual = true) (k : PySem.W.keepIn K (.ref g) = true)
    (hb : ∀ (kV doc pm : Value) (an : Option Addr) (cdv ct : Value) (us : List Value), us.length = ps.length → bindArgs (PySem.W.fnOf "__init__" qual (defArgs st) (defBody st) (defScope st) .none kV doc pm an cdv ct) ⟨us, []⟩ = pure (ps.zip us)) : DnI K mg x qual C st ps :=
  ⟨g, _, ⟨m, i, t, kc⟩, PySem.W.mg_of X G a, fun_mk l c k, (fun_mk l c k).binds hb⟩
theorem dnp_mk (a : PySem.W.findIn K (.ref C) f = some (some (.ref p))) (b : PySem.W.specialIn K (.ref p) "__get__" = some (some (.builtin "property.__get__"))) (t : PySem.W.takesIn K (.ref p) = some true) {rest : List Value} (r : PySem.W.recIn K p "property" = some (.ref g :: rest))
    (l : K.lookup g = some ⟨oc, od, .func (PySem.W.fnOf f qual (defArgs st) (defBody st) (defScope st) .none kV doc pm an cdv ct), sl⟩) (c : PySem.W.codeIn K cdv qual = true) (k : PySem.W.keepIn K (.ref g) = true)
    (hb : ∀ (kV doc pm : Value) (an : Option Addr) (cdv ct : Value) (us : List Value), us.length = ps.length → bindArgs (PySem.W.fnOf f qual (defArgs st) (defBody st) (defScope st) .none kV doc pm an cdv ct) ⟨us, []⟩ = pure (ps.zip us)) : DnP K C f qual st ps :=
  ⟨p, g, _, ⟨a, b, t, _, r⟩, fun_mk l c k, (fun_mk l c k).binds hb⟩
theorem dnm_mk (a : PySem.W.findIn K (.ref C) f = some (some (.ref g))) (t : PySem.W.isFn K (.ref g) = true)
    (l : K.lookup g = some ⟨oc, od, .func (PySem.W.fnOf f qual (defArgs st) (defBody st) (defScope st) .none kV doc pm an cdv ct), sl⟩) (c : PySem.W.codeIn K cdv qual = true) (k : PySem.W.keepIn K (.ref g) = true)
    (hb : ∀ (kV doc pm : Value) (an : Option Addr) (cdv ct : Value) (us : List Value), us.length = ps.length → bindArgs (PySem.W.fnOf f qual (defArgs st) (defBody st) (defScope st) .none kV doc pm an cdv ct) ⟨us, []⟩ = pure (ps.zip us)) : DnM K C f qual st ps :=
  ⟨g, _, ⟨a, t, k⟩, fun_mk l c k, (fun_mk l c k).binds hb⟩
end
section
variable (P : Program) (w : World) (K : PySem.W.Frag) (mg : Str → Option Value) (base : Heap) (CX : CXT) (k : Nat)
def OkI (x : Str) (C : Addr) (ps : List Str) (sp : Sp) : Prop := ∃ (g : Addr) (fd : FuncData), FnOk P w K mg base CX k g fd ps sp ∧ Mk K C g ∧ mg x = some (.ref C) ∧ Binds K fd ps []
def OkP (C : Addr) (f : Str) (ps : List Str) (sp : Sp) : Prop := ∃ (p g : Addr) (fd : FuncData), FnOk P w K mg base CX k g fd ps sp ∧ PropOf K C f p g ∧ Binds K fd ps []
def OkM (C : Addr) (f : Str) (ps : List Str) (sp : Sp) : Prop := ∃ (g : Addr) (fd : FuncData), FnOk P w K mg base CX k g fd ps sp ∧ Meth K C f g ∧ Binds K fd ps []
end
section
variable {P : Program} {w : World} {K : PySem.W.Frag} {mg : Str → Option Value} {base : Heap} {CX : CXT} {k : Nat} {x f qual : Str} {C : Addr} {st : Stmt} {ps : List Str} {sp : Sp}
theorem oki_of (d : DnI K mg x qual C st ps) (h : ∀ g fd, Fun K "__init__" qual st g fd → FnOk P w K mg base CX k g fd ps sp) : OkI P w K mg base CX k x C ps sp := by
  obtain ⟨g, fd, M, hm, F, b⟩ := d
  exact ⟨g, fd, h g fd F, M, hm, b⟩
theorem okp_of (d : DnP K C f qual st ps) (h : ∀ g fd, Fun K f qual st g fd → FnOk P w K mg base CX k g fd ps sp) : OkP P w K mg base CX k C f ps sp := by
  obtain ⟨p, g, fd, hp, F, b⟩ := d
  exact ⟨p, g, fd, h g fd F, hp, b⟩
theorem okm_of (d : DnM K C f qual st ps) (h : ∀ g fd, Fun K f qual st g fd → FnOk P w K mg base CX k g fd ps sp) : OkM P w K mg base CX k C f ps sp := by
  obtain ⟨g, fd, hp, F, b⟩ := d
  exact ⟨g, fd, h g fd F, hp, b⟩
end
section
variable {X : Cx} {CX : CXT} {k : Nat} {C : Addr} {ps : List Str} {sp : Sp} {E : XK} {Es : L2.St → XK} {x f : Str} {p pos apos : Pos} {e : Expr} {es : List Expr} {ta : TE} {t : TA}
/-- e.f, a property -/
theorem pe_propO (he : PE X e ta) (c : Cls X.K C) (G : OkP X.prog X.w X.K X.mg X.base CX k C f ps sp) (hr : Room (k + 1) X.A) (hx : Passes CX X.nox E) (hab : attributeBase e f X.env (eval e X.env) = eval e X.env := by rfl) :
    PE X (.Attribute e f pos) (tProp C sp [] E ta) := by
  obtain ⟨p, g, fd, F, hp, b⟩ := G
  exact pe_prop he c hp F hr b .nil hx hab
/-- C(e, ..) -/
theorem pe_makeO (G : OkI X.prog X.w X.K X.mg X.base CX k x C ps sp) (hr : Room (k + 1) X.A) (hx : Passes CX X E) (ha : PA X (e :: es) t) (hg : Gl X x := by rfl)
    (hdb : (x == ("__debug__" : Str)) = false := by decide) (he : starEach (e :: es) X.env = (false, eval e X.env) :: starEach es X.env := by rfl) (hpl : (backTo pos (starEach es X.env)).any (·.1) = false := by rfl) :
    PE X (.Call (.Name x p) (e :: es) [] pos) (tMake C sp [] E t) := by
  obtain ⟨g, fd, F, M, hm, b⟩ := G
  exact pe_make M F hr hg hm b .nil hx ha hdb he hpl
/-- C(e, ..) where what it raises is wished for at the slots -/
def tMakeT (C : Addr) (sp : Sp) (Es : L2.St → XK) (t : TA) : TE := fun σ H Q => t σ H fun vs Hm => ∀ o d, Hm o = none → Hm d = none → d ≠ o →
  sp (.ref o :: vs) (upd (upd Hm d (.own o)) o (.ins C d [])) (fun v He => v = .non ∧ Q (.ref o) He) (Es σ)
theorem make_at {pins : List (Addr × Obj)} {σ : L2.St} {Hm : Hp} {sm : Shared} {Q : VK} {us : List Value} {vs : List V} {g : Addr} {fd : FuncData} (M : Mk X.K C g) (F : FnOk X.prog X.w X.K X.mg X.base CX k g fd ps sp) (hr : Room (k + 1) X.A) (hb : Binds X.K fd ps [])
    (px : PassesAt CX X σ (Es σ)) (J : Inv X pins σ Hm sm) (r : Vals vs us)
    (want : ∀ o d, Hm o = none → Hm d = none → d ≠ o → sp (.ref o :: vs) (upd (upd Hm d (.own o)) o (.ins C d [])) (fun v He => v = .non ∧ Q (.ref o) He) (Es σ)) :
    wpAny (model X.prog X.w) X.A (call (.ref C) us) (EP X pins σ Q) X.xe sm := by
  have n0 := J.hok.fresh (Nat.le_refl sm.heap.objs.size)
  have n1 := J.hok.fresh (Nat.le_succ sm.heap.objs.size)
  have wh := want _ _ n1 n0 (Nat.ne_of_lt (Nat.lt_succ_self _))
  have Jm := Inv.made (C := C) J
  have rr : Vals (V.ref (sm.heap.objs.size + 1) :: vs) (Value.ref (sm.heap.objs.size + 1) :: us) := .cons rfl r
  have len : (Value.ref (sm.heap.objs.size + 1) :: us).length = ps.length := by rw [← rr.length]; exact F.len _ _ _ _ wh
  have bd := hb _ (Value.ref (sm.heap.objs.size + 1) :: us) Jm.kIn (by rw [List.append_nil]; exact len)
  rw [List.append_nil] at bd
  have go := F.run _ X.stack _ _ ⟨Value.ref (sm.heap.objs.size + 1) :: us, []⟩ _ _ _ (Es σ) (hr.make C us []) (Jm.env0.make C us []) bd rr wh
  refine wpAny_call (make_map (f := g) J.kIn M.makes M.init (beq_iff_eq.mp M.fn) (codeAny_mono go fun res se got => ?_))
  match res, got with
  | .error er, got => exact px pins _ _ er se Jm got
  | .ok (.ret u), got =>
    obtain ⟨v, He, Je, rv, ev, qe⟩ := Jm.after got
    cases ev
    exact ⟨rv, ⟨V.ref (sm.heap.objs.size + 1), He, Je, rfl, qe⟩⟩
  | .ok .next, got => exact got.elim
  | .ok .brk, got => exact got.elim
  | .ok .cont, got => exact got.elim
theorem pe_makeT (G : OkI X.prog X.w X.K X.mg X.base CX k x C ps sp) (hr : Room (k + 1) X.A) (px : ∀ σ, PassesAt CX X σ (Es σ)) (ha : PA X (e :: es) t) (hg : Gl X x := by rfl)
    (hdb : (x == ("__debug__" : Str)) = false := by decide) (he : starEach (e :: es) X.env = (false, eval e X.env) :: starEach es X.env := by rfl) (hpl : (backTo pos (starEach es X.env)).any (·.1) = false := by rfl) :
    PE X (.Call (.Name x p) (e :: es) [] pos) (tMakeT C sp Es t) := by
  obtain ⟨g, fd, F, M, hm, b⟩ := G
  constructor
  intro pins sm σ Hm Q J want
  refine wpAny_Call_Name_kw (ld_glob J hg hm ?_ hdb)
  refine PySem.W.callWith_K (h₀ := X.base) J.ok.mod.kin M.kp ?_ he hpl
  refine thn (ha.run pos pins sm σ Hm _ J want) fun us sn ⟨vs, Hn, Jn, r, wn⟩ => ?_
  exact ⟨Jn.kIn, make_at M F hr b (px σ) Jn r wn⟩
end
end CL

namespace My
open PySem PySem.Spec PyProof.Rows L2 Cm 
def top (i : Nat) : Stmt := PySem.Challenge.pw_scanpages_k32_formats.main.body.getD i (.Pass ⟨0, 0, 0, 0⟩)
abbrev s_Format___init__ : Stmt := (inClass (top 11) 0)
abbrev N_Format___init__ : List Str := ["self", "side", "checks"]
theorem sc_Format___init__ : FnScope N_Format___init__ ["self", "side", "checks"] (defScope s_Format___init__) := ⟨rfl, rfl, rfl, by decide +kernel, rfl, by decide +kernel, by decide +kernel⟩
abbrev s_Format_data_symbols : Stmt := (inClass (top 11) 1)
abbrev N_Format_data_symbols : List Str := ["self"]
theorem sc_Format_data_symbols : FnScope N_Format_data_symbols ["self"] (defScope s_Format_data_symbols) := ⟨rfl, rfl, rfl, by decide +kernel, rfl, by decide +kernel, by decide +kernel⟩
abbrev s_Format_codewords : Stmt := (inClass (top 11) 2)
abbrev N_Format_codewords : List Str := ["self", "width"]
theorem sc_Format_codewords : FnScope N_Format_codewords ["self"] (defScope s_Format_codewords) := ⟨rfl, rfl, rfl, by decide +kernel, rfl, by decide +kernel, by decide +kernel⟩
abbrev s_Format_body_size : Stmt := (inClass (top 11) 3)
abbrev N_Format_body_size : List Str := ["self"]
theorem sc_Format_body_size : FnScope N_Format_body_size ["self"] (defScope s_Format_body_size) := ⟨rfl, rfl, rfl, by decide +kernel, rfl, by decide +kernel, by decide +kernel⟩
abbrev s_Format_capacity : Stmt := (inClass (top 11) 4)
abbrev N_Format_capacity : List Str := ["self"]
theorem sc_Format_capacity : FnScope N_Format_capacity ["self"] (defScope s_Format_capacity) := ⟨rfl, rfl, rfl, by decide +kernel, rfl, by decide +kernel, by decide +kernel⟩
abbrev s__law_cell : Stmt := (top 13)
abbrev N__law_cell : List Str := ["script", "k"]
theorem sc__law_cell : FnScope N__law_cell ["script", "k"] (defScope s__law_cell) := ⟨rfl, rfl, rfl, by decide +kernel, rfl, by decide +kernel, by decide +kernel⟩
abbrev s__law_is_int : Stmt := (top 14)
abbrev N__law_is_int : List Str := ["value"]
theorem sc__law_is_int : FnScope N__law_is_int ["value"] (defScope s__law_is_int) := ⟨rfl, rfl, rfl, by decide +kernel, rfl, by decide +kernel, by decide +kernel⟩
abbrev s__law_form : Stmt := (top 15)
abbrev N__law_form : List Str := ["cell", "side", "checks"]
theorem sc__law_form : FnScope N__law_form ["cell"] (defScope s__law_form) := ⟨rfl, rfl, rfl, by decide +kernel, rfl, by decide +kernel, by decide +kernel⟩
abbrev s__law_words : Stmt := (top 16)
abbrev N__law_words : List Str := ["side"]
theorem sc__law_words : FnScope N__law_words ["side"] (defScope s__law_words) := ⟨rfl, rfl, rfl, by decide +kernel, rfl, by decide +kernel, by decide +kernel⟩
abbrev s__law_body_size : Stmt := (top 17)
abbrev N__law_body_size : List Str := ["side", "checks"]
theorem sc__law_body_size : FnScope N__law_body_size ["side", "checks"] (defScope s__law_body_size) := ⟨rfl, rfl, rfl, by decide +kernel, rfl, by decide +kernel, by decide +kernel⟩
abbrev s__law_capacity : Stmt := (top 18)
abbrev N__law_capacity : List Str := ["side", "checks"]
theorem sc__law_capacity : FnScope N__law_capacity ["side", "checks"] (defScope s__law_capacity) := ⟨rfl, rfl, rfl, by decide +kernel, rfl, by decide +kernel, by decide +kernel⟩
abbrev s_law : Stmt := (top 19)
abbrev N_law : List Str := ["script", "side", "checks", "good", "form", "e", "told", "value", "due"]
theorem sc_law : FnScope N_law ["script"] (defScope s_law) := ⟨rfl, rfl, rfl, by decide +kernel, rfl, by decide +kernel, by decide +kernel⟩
structure Txt (K : PySem.W.Frag) (mg : Str → Option Value) (C_ArchiveError C_InvalidFormat C_Format : Addr) : Prop where
  d__law_cell : Dn K mg "_law_cell" s__law_cell ["script", "k"]
  d__law_is_int : Dn K mg "_law_is_int" s__law_is_int ["value"]
  d__law_words : Dn K mg "_law_words" s__law_words ["side"]
  d__law_body_size : Dn K mg "_law_body_size" s__law_body_size ["side", "checks"]
  d__law_capacity : Dn K mg "_law_capacity" s__law_capacity ["side", "checks"]
  d_law : Dn K mg "law" s_law ["script"]
  i_Format : CL.DnI K mg "Format" "Format.__init__" C_Format s_Format___init__ ["self", "side", "checks"]
  cl_Format : Cls K C_Format
  na_Format_side : NoAttr K C_Format "side"
  na_Format_checks : NoAttr K C_Format "checks"
  p_Format_data_symbols : CL.DnP K C_Format "data_symbols" "Format.data_symbols" s_Format_data_symbols ["self"]
  p_Format_codewords : CL.DnP K C_Format "codewords" "Format.codewords" s_Format_codewords ["self"]
  p_Format_body_size : CL.DnP K C_Format "body_size" "Format.body_size" s_Format_body_size ["self"]
  p_Format_capacity : CL.DnP K C_Format "capacity" "Format.capacity" s_Format_capacity ["self"]
  c_CHECKS : CT K mg "CHECKS" [V.int 2, V.int 4, V.int 6, V.int 8]
  c_LEAST_SIDE : CV mg "LEAST_SIDE" (.int 16)
  c_GREATEST_SIDE : CV mg "GREATEST_SIDE" (.int 40)
  c_CODEWORD_SIZE : CV mg "CODEWORD_SIZE" (.int 16)
  c_MARGIN : CV mg "MARGIN" (.int 2)
  c_SYMBOL_CELLS : CV mg "SYMBOL_CELLS" (.int 4)
  c_HEAD_SYMBOLS : CV mg "HEAD_SYMBOLS" (.int 10)
  n_len : mg "len" = none
  n_int : mg "int" = none
  n_isinstance : mg "isinstance" = none
  n_bool : mg "bool" = none
  x_ArchiveError : XCl K mg "ArchiveError" C_ArchiveError
  x_InvalidFormat : XCl K mg "InvalidFormat" C_InvalidFormat
  s_InvalidFormat_ArchiveError : PySem.W.subIn K (.ref C_InvalidFormat) (.ref C_ArchiveError) = some true
  q_InvalidFormat_InvalidFormat : PySem.W.kitOne K (.ref C_InvalidFormat) (.ref C_InvalidFormat) = some true
section
variable {P : Program} {w : World} {K : PySem.W.Frag} {mg : Str → Option Value} {base : Heap} {C_ArchiveError C_InvalidFormat C_Format : Addr}
/-- the cell's promise -/
def spCell (K : PySem.W.Frag) : Sp := fun vs H Q _ => ∃ (l : Addr) (ns : List Int) (k : Nat), vs = [.ref l, .int (k : Int)] ∧ SqL K H l (ns.map V.int) ∧ Q (.int (cell ns k)) H
theorem ok__law_cell (T : Txt K mg C_ArchiveError C_InvalidFormat C_Format) : Ok P w K mg base CX0 1 "_law_cell" ["script", "k"] (spCell K) := by
  refine ok_of T.d__law_cell fun f fd F => F.ok sc__law_cell (fun vs H Q E h => ?_) (fun cdv A outer s H vs Q E hr h => ?_)
  · obtain ⟨l, ns, k, rfl, _⟩ := h
    rfl
  · obtain ⟨l, ns, k, rfl, hs, q⟩ := h
    refine ⟨_,       (pss_cons (ps_if (pt_cmpR op_lt (pv 1) (pe_callB call_len_seq (by rfl) T.n_len PySem.boot_len (pa_cons (pv 0) pa_nil)) (nomark _))
        (pss_one (ps_ret (pe_callTy call_int1 (by rfl) T.n_int (by decide +kernel) (pa_cons (pe_ix ix_list (pv 0) (pv 1) (fun _ _ => rfl)) pa_nil)))) pss_nil)
      (pss_one (ps_ret pe_int))), ?_⟩
    refine ⟨_, rfl, _, rfl, l, _, rfl, .inl hs, _, _, rfl, rfl, _, rfl, itd (fun h => ?_) (fun h => ?_)⟩
    · have hk : k < ns.length := by
        rw [List.length_map] at h
        omega
      refine ⟨_, rfl, _, rfl, l, _, _, .int ns[k], rfl, rfl, hs, atI_nat (by rw [List.getElem?_map, List.getElem?_eq_getElem hk]; rfl), .inl ⟨_, rfl, ?_⟩⟩
      rw [Cm.cell_in hk] at q
      exact q
    · have hk : ¬ k < ns.length := by
        rw [List.length_map] at h
        omega
      rw [Cm.cell_out hk] at q
      exact q

def spIsInt : Sp := fun vs H Q _ => ∃ i : Int, vs = [.int i] ∧ Q (.bl true) H
theorem ok__law_is_int (T : Txt K mg C_ArchiveError C_InvalidFormat C_Format) : Ok P w K mg base CX0 1 "_law_is_int" ["value"] spIsInt := by
  refine ok_of T.d__law_is_int fun f fd F => F.ok sc__law_is_int (fun vs H Q E h => ?_) (fun cdv A outer s H vs Q E hr h => ?_)
  · obtain ⟨i, rfl, _⟩ := h
    rfl
  · obtain ⟨i, rfl, q⟩ := h
    refine ⟨_,       (pss_one (ps_ret (pe_and (pe_callB call_isi (by rfl) T.n_isinstance (by decide +kernel) (pa_cons (pv 0) (pa_cons (pe_bltn (v := .ty "int") (by rfl) T.n_int (by decide +kernel) rfl) pa_nil))) (pe_one (pe_not (pe_callB call_isi (by rfl) T.n_isinstance (by decide +kernel) (pa_cons (pv 0) (pa_cons (pe_bltn (v := .ty "bool") (by rfl) T.n_bool (by decide +kernel) rfl) pa_nil)))))))), ?_⟩
    refine ⟨_, rfl, _, _, _, _, true, rfl, .ty _, .base (.int i), kit_ty (by decide +kernel), true, rfl, iteT ?_⟩
    exact ⟨_, rfl, _, _, _, _, false, rfl, .ty _, .base (.int i), kit_ty (by decide +kernel), false, rfl, q⟩

/-! ### formats -/
def wordsF (s : Int) : Int := (s - 4) * (s - 4) / 64
def bodyF (s c : Int) : Int := (wordsF s - 1) * (16 - c)
def capF (s c : Int) : Int := (bodyF s c - 10) / 2
def okForm (s c : Int) : Prop := (16 ≤ s ∧ s ≤ 40) ∧ (c = 2 ∨ c = 4 ∨ c = 6 ∨ c = 8) ∧ 1 ≤ capF s c
theorem kSC : ¬ (("side" : Str) = "checks") := by decide +kernel
def fF (s c : Int) : List (Str × V) := putF "checks" (.int c) (putF "side" (.int s) [])
theorem fF_side (s c : Int) : (fF s c).lookup ("side" : Str) = some (.int s) := by
  unfold fF
  rw [lookup_putF, if_neg kSC, lookup_putF, if_pos rfl]
theorem fF_checks (s c : Int) : (fF s c).lookup ("checks" : Str) = some (.int c) := by
  unfold fF
  rw [lookup_putF, if_pos rfl]
/-- a format stands at p -/
def FormAt (C : Addr) (H : Hp) (p : Addr) (s c : Int) : Prop := ∃ dx, H p = some (.ins C dx (fF s c))
theorem FormAt.mono {C : Addr} {H H' : Hp} {p : Addr} {s c : Int} (e : Same H H') (h : FormAt C H p s c) : FormAt C H' p s c := h.elim fun dx z => ⟨dx, e _ _ z⟩
theorem words_in {s : Int} (h : 16 ≤ s ∧ s ≤ 40) : 2 ≤ wordsF s ∧ wordsF s ≤ 20 := by
  unfold wordsF
  have a : 12 * 12 ≤ (s - 4) * (s - 4) := Int.mul_le_mul (by omega) (by omega) (by decide) (by omega)
  have b : (s - 4) * (s - 4) ≤ 36 * 36 := Int.mul_le_mul (by omega) (by omega) (by omega) (by omega)
  generalize (s - 4) * (s - 4) = z at *
  omega
def spProp (C : Addr) (g : Int → Int → Int) : Sp := fun vs H Q _ => ∃ (p : Addr) (s c : Int), vs = [.ref p] ∧ FormAt C H p s c ∧ (16 ≤ s ∧ s ≤ 40) ∧ (2 ≤ c ∧ c ≤ 8) ∧ Q (.int (g s c)) H
theorem okp_data (T : Txt K mg C_ArchiveError C_InvalidFormat C_Format) : CL.OkP P w K mg base CX0 1 C_Format "data_symbols" ["self"] (spProp C_Format fun _ c => 16 - c) := by
  refine CL.okp_of T.p_Format_data_symbols fun f fd F => F.ok sc_Format_data_symbols (fun vs H Q E h => ?_) (fun cdv A outer s H vs Q E hr h => ?_)
  · obtain ⟨p, s, c, rfl, _⟩ := h
    rfl
  · obtain ⟨p, s, c, rfl, ⟨dx, hp⟩, h1, h2, kQ⟩ := h
    have nd := sc_Format_data_symbols.nd
    refine ⟨_,       (pss_one (ps_ret (pe_op op_sub (pe_globC rfl T.c_CODEWORD_SIZE) (pe_fld (pv 0) rfl)))), ?_⟩
    exact ⟨_, rfl, p, C_Format, dx, _, _, rfl, hp, T.cl_Format, T.na_Format_checks, fF_checks _ _, _, _, rfl, rfl, kQ⟩
theorem okp_codewords (T : Txt K mg C_ArchiveError C_InvalidFormat C_Format) : CL.OkP P w K mg base CX0 1 C_Format "codewords" ["self"] (spProp C_Format fun s _ => wordsF s) := by
  refine CL.okp_of T.p_Format_codewords fun f fd F => F.ok sc_Format_codewords (fun vs H Q E h => ?_) (fun cdv A outer s H vs Q E hr h => ?_)
  · obtain ⟨p, s, c, rfl, _⟩ := h
    rfl
  · obtain ⟨p, s, c, rfl, ⟨dx, hp⟩, h1, h2, kQ⟩ := h
    have nd := sc_Format_codewords.nd
    refine ⟨_,       (pss_cons (ps_set (i := 1) nd rfl (Or.inl rfl) (pe_op op_sub (pe_fld (pv 0) rfl) (pe_op op_mul pe_int (pe_globC rfl T.c_MARGIN))))
      (pss_one (ps_ret (pe_op op_fdiv (pe_op op_mul (pv 1) (pv 1)) (pe_op op_mul (pe_globC rfl T.c_CODEWORD_SIZE) (pe_globC rfl T.c_SYMBOL_CELLS)))))), ?_⟩
    refine ⟨_, rfl, p, C_Format, dx, _, _, rfl, hp, T.cl_Format, T.na_Format_side, fF_side _ _, _, _, rfl, rfl, .inl ⟨by decide, by decide⟩, _, _, rfl, rfl, ?_⟩
    exact ⟨_, rfl, _, rfl, _, _, rfl, rfl, .inl ⟨by omega, by omega⟩, _, _, rfl, rfl, .inl ⟨by decide, by decide⟩, _, _, rfl, rfl, ⟨by decide, by decide⟩, kQ⟩
theorem okp_body (T : Txt K mg C_ArchiveError C_InvalidFormat C_Format) : CL.OkP P w K mg base CX0 3 C_Format "body_size" ["self"] (spProp C_Format bodyF) := by
  have G_Format_codewords := okp_codewords (P := P) (w := w) (base := base) T
  have G_Format_data_symbols := okp_data (P := P) (w := w) (base := base) T
  refine CL.okp_of T.p_Format_body_size fun f fd F => F.ok sc_Format_body_size (fun vs H Q E h => ?_) (fun cdv A outer s H vs Q E hr h => ?_)
  · obtain ⟨p, s, c, rfl, _⟩ := h
    rfl
  · obtain ⟨p, s, c, rfl, ⟨dx, hp⟩, h1, h2, kQ⟩ := h
    have nd := sc_Format_body_size.nd
    have hw := words_in h1
    refine ⟨_,       (pss_one (ps_ret (pe_op op_mul (pe_op op_sub (CL.pe_propO (pv 0) T.cl_Format G_Format_codewords (hr.mono (by decide)) pass0) pe_int) (CL.pe_propO (pv 0) T.cl_Format G_Format_data_symbols (hr.mono (by decide)) pass0)))), ?_⟩
    refine ⟨_, rfl, p, dx, _, rfl, hp, p, s, c, rfl, ⟨dx, hp⟩, h1, h2, _, _, rfl, rfl, ?_⟩
    exact ⟨_, rfl, p, dx, _, rfl, hp, p, s, c, rfl, ⟨dx, hp⟩, h1, h2, _, _, rfl, rfl, .inl ⟨by show -(2 ^ 64) < wordsF s - 1; omega, by show wordsF s - 1 < 2 ^ 64; omega⟩, kQ⟩
theorem okp_capacity (T : Txt K mg C_ArchiveError C_InvalidFormat C_Format) : CL.OkP P w K mg base CX0 5 C_Format "capacity" ["self"] (spProp C_Format capF) := by
  have G_Format_body_size := okp_body (P := P) (w := w) (base := base) T
  refine CL.okp_of T.p_Format_capacity fun f fd F => F.ok sc_Format_capacity (fun vs H Q E h => ?_) (fun cdv A outer s H vs Q E hr h => ?_)
  · obtain ⟨p, s, c, rfl, _⟩ := h
    rfl
  · obtain ⟨p, s, c, rfl, ⟨dx, hp⟩, h1, h2, kQ⟩ := h
    have nd := sc_Format_capacity.nd
    refine ⟨_,       (pss_one (ps_ret (pe_op op_fdiv (pe_op op_sub (CL.pe_propO (pv 0) T.cl_Format G_Format_body_size (hr.mono (by decide)) pass0) (pe_globC rfl T.c_HEAD_SYMBOLS)) pe_int))), ?_⟩
    exact ⟨_, rfl, p, dx, _, rfl, hp, p, s, c, rfl, ⟨dx, hp⟩, h1, h2, _, _, rfl, rfl, _, _, rfl, rfl, ⟨by decide, by decide⟩, kQ⟩
def SameBut (p : Addr) (H H' : Hp) : Prop := ∀ b o, H b = some o → b ≠ p → H' b = some o
theorem chk_in {c : Int} : inV (.int c) [V.int 2, V.int 4, V.int 6, V.int 8] = true ↔ (c = 2 ∨ c = 4 ∨ c = 6 ∨ c = 8) := by
  simp [inV, eqV]
  omega
def spFormInit (C CE : Addr) : Sp := fun vs H Q E => ∃ (p dx : Addr) (s c : Int), vs = [.ref p, .int s, .int c] ∧ H p = some (.ins C dx []) ∧ (¬ okForm s c → ∀ H', SameBut p H H' → E (.ref CE) none H') ∧ (okForm s c → ∀ H', SameBut p H H' → FormAt C H' p s c → Q .non H')
theorem oki_Format (T : Txt K mg C_ArchiveError C_InvalidFormat C_Format) : CL.OkI P w K mg base (CXN P w) 7 "Format" C_Format ["self", "side", "checks"] (spFormInit C_Format C_InvalidFormat) := by
  have G_Format_capacity := okp_capacity (P := P) (w := w) (base := base) T
  refine CL.oki_of T.i_Format fun f fd F => okN F sc_Format___init__ (fun vs H Q E h => ?_) (fun cdv A outer s H vs Q E hr h => ?_)
  · obtain ⟨p, dx, s, c, rfl, _⟩ := h
    rfl
  · obtain ⟨p, dx, s, c, rfl, hp, kE, kQ⟩ := h
    have nd := sc_Format___init__.nd
    refine ⟨_,       (pss_cons (ps_if (PW.pt (pw_or (pt_not (pt_chain op_le op_le (pe_globC rfl T.c_LEAST_SIDE) (pv 1) (pe_globC rfl T.c_GREATEST_SIDE))) (pw_or1 (pt_cmpR op_notIn_seq (pv 2) (pe_globT rfl T.c_CHECKS) (by with_unfolding_all rfl)))))
        (pss_one (L2N.ps_raise rfl (L2N.takes_of rfl rfl rfl rfl) (L2N.pmk_own PySem.F.excBase_ValueError T.x_InvalidFormat.x T.x_InvalidFormat.g T.x_InvalidFormat.k (raises_own T.x_InvalidFormat.b T.x_InvalidFormat.t) rfl))) pss_nil)
      (pss_cons (ps_fld (pv 0) (pv 1) rfl)
      (pss_cons (ps_fld (pv 0) (pv 2) rfl)
      (pss_one (ps_if (pt_cmpR op_lt (CL.pe_propO (pv 0) T.cl_Format G_Format_capacity (hr.mono (by decide)) pass0) pe_int (nomark _))
        (pss_one (L2N.ps_raise rfl (L2N.takes_of rfl rfl rfl rfl) (L2N.pmk_own PySem.F.excBase_ValueError T.x_InvalidFormat.x T.x_InvalidFormat.g T.x_InvalidFormat.k (raises_own T.x_InvalidFormat.b T.x_InvalidFormat.t) rfl))) pss_nil))))), ?_⟩
    have bad : ∀ {q : Prop}, ¬ q → (okForm s c → q) → E (.ref C_InvalidFormat) none H := fun hn hq => kE (fun z => hn (hq z)) H fun b o e _ => e
    refine ⟨_, rfl, _, _, rfl, rfl, _, rfl, itd (fun h1 => ⟨_, _, rfl, rfl, _, rfl, itb (fun h2 => iteT (bad (q := s ≤ 40) (by simpa using h2) fun z => z.1.2)) (fun h2 => ?_)⟩) (fun h1 => ⟨_, rfl, iteT (iteT (bad h1 fun z => z.1.1))⟩)⟩
    replace h2 : s ≤ 40 := by simpa using h2
    refine ⟨_, rfl, fun q hq => ⟨q, _, rfl, .inr (hq _), rfl, rfl, _, rfl, itb (fun h3 => ?_) (fun h3 => ?_)⟩⟩
    · refine bad (q := c = 2 ∨ c = 4 ∨ c = 6 ∨ c = 8) (fun z => ?_) fun z => z.2.1
      rw [← chk_in] at z
      simp [z] at h3
    have hc : c = 2 ∨ c = 4 ∨ c = 6 ∨ c = 8 := chk_in.mp (by simpa using h3)
    refine ⟨_, rfl, _, rfl, p, C_Format, dx, _, rfl, hp, T.cl_Format, T.na_Format_side, (by show 0 < 1000; decide), ?_⟩
    refine ⟨_, rfl, _, rfl, p, C_Format, dx, _, rfl, upd_same, T.cl_Format, T.na_Format_checks, (by show 1 < 1000; decide), ?_⟩
    have sb : SameBut p H (upd (upd H p (.ins C_Format dx (putF "side" (.int s) []))) p (.ins C_Format dx (putF "checks" (.int c) (putF "side" (.int s) [])))) := fun b o e hb => by
      rw [upd_ne hb, upd_ne hb]
      exact e
    refine ⟨_, rfl, p, dx, _, rfl, upd_same, p, s, c, rfl, ⟨dx, upd_same⟩, ⟨h1, h2⟩, by omega, _, _, rfl, rfl, _, rfl, itd (fun h4 => ?_) (fun h4 => ?_)⟩
    · exact kE (fun z => by have := z.2.2; omega) _ sb
    · exact kQ ⟨⟨h1, h2⟩, hc, by omega⟩ _ sb ⟨dx, upd_same⟩
/-! ### the law's own words -/
def spW1 (f : Int → Int) : Sp := fun vs H Q _ => ∃ s : Int, vs = [.int s] ∧ (16 ≤ s ∧ s ≤ 40) ∧ Q (.int (f s)) H
theorem ok__law_words (T : Txt K mg C_ArchiveError C_InvalidFormat C_Format) : Ok P w K mg base CX0 1 "_law_words" ["side"] (spW1 wordsF) := by
  refine ok_of T.d__law_words fun f fd F => F.ok sc__law_words (fun vs H Q E h => ?_) (fun cdv A outer s H vs Q E hr h => ?_)
  · obtain ⟨s, rfl, _⟩ := h
    rfl
  · obtain ⟨s, rfl, h1, kQ⟩ := h
    have nd := sc__law_words.nd
    refine ⟨_,       (pss_one (ps_ret (pe_op op_fdiv (pe_op op_mul (pe_op op_sub (pv 0) pe_int) (pe_op op_sub (pv 0) pe_int)) pe_int))), ?_⟩
    exact ⟨_, rfl, _, _, rfl, rfl, _, rfl, _, _, rfl, rfl, _, _, rfl, rfl, .inl ⟨by show -(2 ^ 64) < s - 4; omega, by show s - 4 < 2 ^ 64; omega⟩, _, _, rfl, rfl, ⟨by decide, by decide⟩, kQ⟩

def spW2 (f : Int → Int → Int) : Sp := fun vs H Q _ => ∃ s c : Int, vs = [.int s, .int c] ∧ (16 ≤ s ∧ s ≤ 40) ∧ Q (.int (f s c)) H
theorem ok__law_body_size (T : Txt K mg C_ArchiveError C_InvalidFormat C_Format) : Ok P w K mg base CX0 2 "_law_body_size" ["side", "checks"] (spW2 bodyF) := by
  have G__law_words := ok__law_words (P := P) (w := w) (base := base) T
  refine ok_of T.d__law_body_size fun f fd F => F.ok sc__law_body_size (fun vs H Q E h => ?_) (fun cdv A outer s H vs Q E hr h => ?_)
  · obtain ⟨s, c, rfl, _⟩ := h
    rfl
  · obtain ⟨s, c, rfl, h1, kQ⟩ := h
    have nd := sc__law_body_size.nd
    have hw := words_in h1
    refine ⟨_,       (pss_one (ps_ret (pe_op op_mul (pe_op op_sub (pe_callO G__law_words (hr.mono (by decide)) pass0 (pa_cons (pv 0) pa_nil)) pe_int) (pe_op op_sub pe_int (pv 1))))), ?_⟩
    exact ⟨_, rfl, s, rfl, h1, _, _, rfl, rfl, _, rfl, _, _, rfl, rfl, _, _, rfl, rfl, .inl ⟨by show -(2 ^ 64) < wordsF s - 1; omega, by show wordsF s - 1 < 2 ^ 64; omega⟩, kQ⟩
theorem ok__law_capacity (T : Txt K mg C_ArchiveError C_InvalidFormat C_Format) : Ok P w K mg base CX0 3 "_law_capacity" ["side", "checks"] (spW2 capF) := by
  have G__law_body_size := ok__law_body_size (P := P) (w := w) (base := base) T
  refine ok_of T.d__law_capacity fun f fd F => F.ok sc__law_capacity (fun vs H Q E h => ?_) (fun cdv A outer s H vs Q E hr h => ?_)
  · obtain ⟨s, c, rfl, _⟩ := h
    rfl
  · obtain ⟨s, c, rfl, h1, kQ⟩ := h
    have nd := sc__law_capacity.nd
    refine ⟨_,       (pss_one (ps_ret (pe_op op_fdiv (pe_op op_sub (pe_callO G__law_body_size (hr.mono (by decide)) pass0 (pa_cons (pv 0) (pa_cons (pv 1) pa_nil))) pe_int) pe_int))), ?_⟩
    exact ⟨_, rfl, _, rfl, s, c, rfl, h1, _, _, rfl, rfl, _, _, rfl, rfl, ⟨by decide, by decide⟩, kQ⟩

-- @@LAW
def spLaw (K : PySem.W.Frag) : Sp := fun vs H Q _ => ∃ (a : Addr) (ns : List Int), vs = [.ref a] ∧ SqL K H a (ns.map V.int) ∧ ns.length ≤ 63 ∧ ∀ H', Q (.bl true) H'
theorem ok_law0 (T : Txt K mg C_ArchiveError C_InvalidFormat C_Format) (f : Addr) (fd : FuncData) (F : Fun K "law" "law" s_law f fd) : FnOk P w K mg base CX0 9 f fd ["script"] (spLaw K) := by
  have G__law_cell := ok__law_cell (P := P) (w := w) (base := base) T
  have G__law_is_int := ok__law_is_int (P := P) (w := w) (base := base) T
  have G__law_words := ok__law_words (P := P) (w := w) (base := base) T
  have G__law_body_size := ok__law_body_size (P := P) (w := w) (base := base) T
  have G__law_capacity := ok__law_capacity (P := P) (w := w) (base := base) T
  have G_Format___init__ := oki_Format (P := P) (w := w) (base := base) T
  have G_Format_data_symbols := okp_data (P := P) (w := w) (base := base) T
  have G_Format_codewords := okp_codewords (P := P) (w := w) (base := base) T
  have G_Format_body_size := okp_body (P := P) (w := w) (base := base) T
  have G_Format_capacity := okp_capacity (P := P) (w := w) (base := base) T
  refine F.ok sc_law (fun vs H Q E h => ?_) (fun cdv A outer s H vs Q E hr h => ?_)
  · obtain ⟨a, ns, rfl, _⟩ := h
    rfl
  · obtain ⟨a, ns, rfl, hS, hlen, kQ⟩ := h
    have nd := sc_law.nd
    have hu64 : (A.deeper (envOfC "law" (defScope s_law) s.heap.objs.size f cdv)).units + 64 < cLine := by
      have := hr.un
      omega
    refine ⟨_,       (pss_cons (ps_set (i := 1) nd rfl (Or.inl rfl) (pe_op op_add pe_int (pe_op op_mod (pe_callO G__law_cell (hr.mono (by decide)) pass0 (pa_cons (pv 0) (pa_cons pe_int pa_nil))) pe_int)))
      (pss_cons (ps_set (i := 2) nd rfl (Or.inl rfl) (pe_op op_sub (pe_op op_mod (pe_callO G__law_cell (hr.mono (by decide)) pass0 (pa_cons (pv 0) (pa_cons pe_int pa_nil))) pe_int) pe_int))
      (Evl.pss_cut (ps_if (pt_cmpR op_eq (pe_op op_mod (pe_callO G__law_cell (hr.mono (by decide)) pass0 (pa_cons (pv 0) (pa_cons pe_int pa_nil))) pe_int) pe_int (nomark _))
        (pss_cons (ps_set (i := 1) nd rfl (Or.inl rfl) (pe_op op_add pe_int (pe_op op_mod (pe_callO G__law_cell (hr.mono (by decide)) pass0 (pa_cons (pv 0) (pa_cons pe_int pa_nil))) pe_int)))
        (pss_one (ps_set (i := 2) nd rfl (Or.inl rfl) (pe_op op_add pe_int (pe_op op_mul pe_int (pe_op op_mod (pe_callO G__law_cell (hr.mono (by decide)) pass0 (pa_cons (pv 0) (pa_cons pe_int pa_nil))) pe_int)))))) pss_nil)
      (Evl.pss_cut (ps_if (pt_cmpR op_eq (pe_op op_mod (pe_callO G__law_cell (hr.mono (by decide)) pass0 (pa_cons (pv 0) (pa_cons pe_int pa_nil))) pe_int) pe_int (nomark _))
        (pss_one (ps_set (i := 1) nd rfl (Or.inl rfl) (pe_op op_mul (pv 1) pe_int))) pss_nil)
      (Evl.pss_cut (ps_set (i := 3) nd rfl (Or.inl rfl) (pe_and (pe_chain op_le op_le pe_int (pv 1) pe_int) (pe_and (pe_cmpR op_in_seq (pv 2) (pe_tup (pa_cons pe_int (pa_cons pe_int (pa_cons pe_int (pa_cons pe_int pa_nil))))) (by with_unfolding_all rfl)) (pe_one (pe_cmpR op_ge (pe_callO G__law_capacity (hr.mono (by decide)) pass0 (pa_cons (pv 1) (pa_cons (pv 2) pa_nil))) pe_int (nomark _))))))
      (Evl.pss_cut (L2N.ps_try_as (i := 5) (Wout := fun _ _ _ _ => False) rfl rfl nd rfl rfl ⟨rfl, by decide, Or.inl T.x_ArchiveError.g⟩ takesN
        (fun W pn xe tk po => 
          (pss_one (ps_set (i := 4) nd rfl (Or.inl rfl) (CL.pe_makeT G_Format___init__ (hr.mono (by decide)) (fun σ => L2N.passAt tk σ) (pa_cons (pv 1) (pa_cons (pv 2) pa_nil))))))
        (fun a oe cls d pn hz hf => pss_guard (p := cls = .ref C_InvalidFormat ∧ d = none) (fun ee => by obtain ⟨e1, e2⟩ := ee; subst e1 e2; exact 
          (pss_one (ps_ret (pe_and (pe_callB (call_isE T.x_InvalidFormat.e hz.zc hf) (by rfl) T.n_isinstance (by decide +kernel) (pa_cons (pv 5) (pa_cons (pe_globR rfl T.x_InvalidFormat.g) pa_nil))) (pe_one (pe_not (pv 3)))))))))
      (pss_cons (ps_set (i := 6) nd rfl (Or.inl rfl) (pe_tup (pa_cons (pe_fld (pv 4) rfl) (pa_cons (pe_fld (pv 4) rfl) (pa_cons (CL.pe_propO (pv 4) T.cl_Format G_Format_data_symbols (hr.mono (by decide)) pass0) (pa_cons (CL.pe_propO (pv 4) T.cl_Format G_Format_codewords (hr.mono (by decide)) pass0) (pa_cons (CL.pe_propO (pv 4) T.cl_Format G_Format_body_size (hr.mono (by decide)) pass0) (pa_cons (CL.pe_propO (pv 4) T.cl_Format G_Format_capacity (hr.mono (by decide)) pass0) pa_nil))))))))
      (pss_cons (ps_for PassesOwn.never rfl (pi_tup (pv 6)) (pg_name (i := 7) nd rfl (Or.inl rfl))
        (pss_one (ps_if (pt_not (pt_val (pe_callO G__law_is_int (hr.mono (by decide)) pass0 (pa_cons (pv 7) pa_nil))))
          (pss_one (ps_ret pe_bl)) pss_nil)))
      (pss_cons (ps_set (i := 8) nd rfl (Or.inl rfl) (pe_tup (pa_cons (pv 1) (pa_cons (pv 2) (pa_cons (pe_op op_sub pe_int (pv 2)) (pa_cons (pe_callO G__law_words (hr.mono (by decide)) pass0 (pa_cons (pv 1) pa_nil)) (pa_cons (pe_callO G__law_body_size (hr.mono (by decide)) pass0 (pa_cons (pv 1) (pa_cons (pv 2) pa_nil))) (pa_cons (pe_callO G__law_capacity (hr.mono (by decide)) pass0 (pa_cons (pv 1) (pa_cons (pv 2) pa_nil))) pa_nil))))))))
      (pss_one (ps_ret (pe_and (pv 3) (pe_one (pe_cmpR (op_eqD hu64) (pv 6) (pv 8) (nomark _))))))))))))))), ?_⟩
    refine ⟨_, rfl, a, ns, 0, rfl, hS, _, _, rfl, rfl, (by show (0 : Int) < 36; decide), _, _, rfl, rfl, ?_⟩
    refine ⟨_, rfl, a, ns, 1, rfl, hS, _, _, rfl, rfl, (by show (0 : Int) < 12; decide), _, _, rfl, rfl, ?_⟩
    refine ⟨fun σ' H' => H = H' ∧ ∃ s c : Int, (0 ≤ s ∧ s ≤ 100) ∧ (-100 ≤ c ∧ c ≤ 100) ∧ σ' = [some (.ref a), some (.int s), some (.int c), none, none, none, none, none, none], ?_, ?_⟩
    · refine ⟨_, rfl, a, ns, 2, rfl, hS, _, _, rfl, rfl, (by show (0 : Int) < 2; decide), rfl, _, rfl, itd (fun _ => ?_) (fun _ => ⟨rfl, 10 + cell ns 0 % 36, cell ns 1 % 12 - 1, by omega, by omega, rfl⟩)⟩
      refine ⟨_, rfl, a, ns, 0, rfl, hS, _, _, rfl, rfl, (by show (0 : Int) < 25; decide), _, _, rfl, rfl, ?_⟩
      exact ⟨_, rfl, a, ns, 1, rfl, hS, _, _, rfl, rfl, (by show (0 : Int) < 4; decide), _, _, rfl, rfl, .inl ⟨by decide, by decide⟩, _, _, rfl, rfl, rfl, 16 + cell ns 0 % 25, 2 + 2 * (cell ns 1 % 4), by omega, by omega, rfl⟩
    rintro σ1 H1 ⟨rfl, s, c, hs, hc, rfl⟩
    refine ⟨fun σ' H' => H = H' ∧ ∃ s c : Int, (0 ≤ s ∧ s ≤ 100000000000) ∧ (-100 ≤ c ∧ c ≤ 100) ∧ σ' = [some (.ref a), some (.int s), some (.int c), none, none, none, none, none, none], ?_, ?_⟩
    · refine ⟨_, rfl, a, ns, 2, rfl, hS, _, _, rfl, rfl, (by show (0 : Int) < 7; decide), rfl, _, rfl, itd (fun _ => ?_) (fun _ => ⟨rfl, s, c, by omega, by omega, rfl⟩)⟩
      exact ⟨_, rfl, _, _, rfl, rfl, .inr ⟨by decide, by decide⟩, rfl, s * 1000003, c, by omega, by omega, rfl⟩
    clear hs hc s c
    rintro σ1 H1 ⟨rfl, s, c, hs, hc, rfl⟩
    refine ⟨fun σ' H' => Same H H' ∧ ∃ b : Bool, (b = true ↔ okForm s c) ∧ σ' = [some (.ref a), some (.int s), some (.int c), some (.bl b), none, none, none, none, none], ?_, ?_⟩
    · have no : ∀ {H' : Hp} {q : Prop}, Same H H' → ¬ q → (okForm s c → q) → Same H H' ∧ ∃ b : Bool, (b = true ↔ okForm s c) ∧ [some (.ref a), some (.int s), some (.int c), some (.bl false), none, none, none, none, none] = [some (.ref a), some (.int s), some (.int c), some (V.bl b), none, none, none, none, none] := fun e hn hq => ⟨e, false, ⟨fun z => (Bool.noConfusion z), fun z => absurd (hq z) hn⟩, rfl⟩
      refine ⟨_, rfl, _, _, rfl, rfl, _, rfl, itd (fun h1 => ?_) (fun h1 => ⟨_, rfl, iteF (no (Same.refl H) h1 fun z => z.1.1)⟩)⟩
      refine ⟨_, _, rfl, rfl, _, rfl, itb (fun h2 => ?_) (fun h2 => no (q := s ≤ 40) (Same.refl H) (by simpa using h2) fun z => z.1.2)⟩
      replace h2 : s ≤ 40 := by simpa using h2
      refine ⟨_, rfl, (by show 4 ≤ sizeLine; decide), fun q hq => ⟨q, _, rfl, .inr (SqT.of upd_same), rfl, rfl, _, rfl, itb (fun h3 => ?_) (fun h3 => ?_)⟩⟩
      · have h3 : c = 2 ∨ c = 4 ∨ c = 6 ∨ c = 8 := chk_in.mp h3
        refine ⟨_, rfl, _, rfl, s, c, rfl, ⟨h1, h2⟩, _, _, rfl, rfl, same_upd hq, _, ⟨fun z => ⟨⟨h1, h2⟩, h3, by simpa using z⟩, fun z => decide_eq_true z.2.2⟩, rfl⟩
      · refine no (q := c = 2 ∨ c = 4 ∨ c = 6 ∨ c = 8) (same_upd hq) (fun z => ?_) fun z => z.2.1
        have h3 : inV (.int c) [V.int 2, V.int 4, V.int 6, V.int 8] = false := h3
        rw [chk_in.mpr z] at h3
        cases h3
    rintro σ1 H1 ⟨e1, b, hb, rfl⟩
    refine ⟨fun σ' H' => ∃ o : Addr, FormAt C_Format H' o s c ∧ okForm s c ∧ σ' = [some (.ref a), some (.int s), some (.int c), some (.bl true), some (.ref o), none, none, none, none], ?_, ?_⟩
    · refine ⟨_, rfl, _, rfl, fun o d hno hnd hdo => ⟨o, d, s, c, rfl, upd_same, fun hn H2 sb => ?_, fun hok H2 sb hf => ⟨rfl, o, hf, hok, ?_⟩⟩⟩
      · refine ⟨true, exm_own T.x_ArchiveError.toXB T.s_InvalidFormat_ArchiveError, fun _ ea hea => ⟨⟨rfl, rfl⟩, ?_⟩, fun q => nomatch q⟩
        refine ⟨_, rfl, _, _, true, rfl, fun _ h => h, T.q_InvalidFormat_InvalidFormat, _, rfl, iteT ⟨_, rfl, b, rfl, ?_⟩⟩
        cases b with
        | true => exact absurd (hb.mp rfl) hn
        | false => exact kQ _
      · rw [hb.mpr hok]
        rfl
    rintro σ2 H2 ⟨o, ⟨dx, hp⟩, ⟨h1, h2, h3⟩, rfl⟩
    have hc2 : 2 ≤ c ∧ c ≤ 8 := by omega
    refine ⟨_, rfl, o, C_Format, dx, _, _, rfl, hp, T.cl_Format, T.na_Format_side, fF_side _ _, ?_⟩
    refine ⟨_, rfl, o, C_Format, dx, _, _, rfl, hp, T.cl_Format, T.na_Format_checks, fF_checks _ _, ?_⟩
    refine ⟨_, rfl, o, dx, _, rfl, hp, o, s, c, rfl, ⟨dx, hp⟩, h1, hc2, _, rfl, o, dx, _, rfl, hp, o, s, c, rfl, ⟨dx, hp⟩, h1, hc2, ?_⟩
    refine ⟨_, rfl, o, dx, _, rfl, hp, o, s, c, rfl, ⟨dx, hp⟩, h1, hc2, _, rfl, o, dx, _, rfl, hp, o, s, c, rfl, ⟨dx, hp⟩, h1, hc2, (by show 6 ≤ sizeLine; decide), fun t ht => ?_⟩
    have hT : upd H2 t (.tup ([s, c, 16 - c, wordsF s, bodyF s c, capF s c].map V.int)) t = some (.tup ([s, c, 16 - c, wordsF s, bodyF s c, capF s c].map V.int)) := upd_same
    refine ⟨_, rfl, t, rfl, ⟨_, SqT.of hT⟩, for_tup (K := K) (a := t) (xs := [s, c, 16 - c, wordsF s, bodyF s c, capF s c].map V.int) (fun i σ H' => H' = upd H2 t (.tup ([s, c, 16 - c, wordsF s, bodyF s c, capF s c].map V.int)) ∧ ∃ v, σ = [some (.ref a), some (.int s), some (.int c), some (.bl true), some (.ref o), none, some (.ref t), v, none]) ⟨rfl, none, rfl⟩ (fun i σ H' _ ⟨e, _⟩ => e ▸ SqT.of hT) ?_ ?_⟩
    · rintro i y σ H' hi ⟨rfl, v, rfl⟩
      obtain ⟨hin, rfl⟩ := get_ints hi
      exact ⟨_, rfl, _, rfl, true, rfl, iteF ⟨rfl, _, rfl⟩⟩
    · rintro σ H' ⟨rfl, v, rfl⟩
      refine ⟨_, rfl, _, rfl, _, rfl, _, _, rfl, rfl, _, rfl, s, rfl, h1, _, rfl, _, rfl, s, c, rfl, h1, _, rfl, _, rfl, s, c, rfl, h1, (by show 6 ≤ sizeLine; decide), fun u hu => ?_⟩
      have sh : ∀ ns : List Int, SeqAt.shaped (.tuple (ns.map PyData.int)) = true := fun ns => by simp [SeqAt.shaped, PyData.canLay0, PyData.depth, Cm.canLayAll_ints, Cm.depthAll_ints]
      refine ⟨_, rfl, true, rfl, iteT ⟨_, rfl, _, rfl, _, _, .tup (SqT.of ((same_upd hu) _ _ hT)) (dp_ints _), .tup (SqT.of upd_same) (dp_ints [s, c, 16 - c, wordsF s, bodyF s c, capF s c]), sh _, sh _, ?_⟩⟩
      exact to_true (Q := Q) (eqv_refl' (sh _)) (kQ _)

end
theorem law_mk {P : Program} {w : World} {K : PySem.W.Frag} {mg : Str → Option Value} {C_ArchiveError C_InvalidFormat C_Format : Addr} {C_fa : Addr} (T : Txt K mg C_ArchiveError C_InvalidFormat C_Format) (hfa : mg "law" = some (.ref C_fa)) : ∃ fd : FuncData, (∀ (s : Shared) (v : Value), BindsTo s fd ⟨[v], []⟩ [("script", v)]) ∧ ∀ base : Heap, K.In base → base.Ns mainGlobals mg → FnOk P w K mg base CX0 9 C_fa fd ["script"] (spLaw K) := by
  obtain ⟨f, fd, F, g, b⟩ := id T.d_law
  have e := hfa.symm.trans g
  cases e
  refine ⟨fd, fun s v => ?_, fun base _ _ => ?_⟩
  · obtain ⟨oc, od, kV, doc, pm, an, cdv, ct, osl, rfl, lk, hcd⟩ := F.ex
    exact .of_eq rfl
  · exact ok_law0 T _ fd F
theorem law_end {P : Program} {w : World} {K : PySem.W.Frag} {h : Heap} {mg : Str → Option Value} {fa : Addr} {C_ArchiveError C_InvalidFormat C_Format : Addr} {f__law_cell : Addr} {oc__law_cell kV__law_cell dc__law_cell pm__law_cell cd__law_cell ct__law_cell : Value} {od__law_cell an__law_cell : Option Addr} {sl__law_cell : Array (Option Value)} {f__law_is_int : Addr} {oc__law_is_int kV__law_is_int dc__law_is_int pm__law_is_int cd__law_is_int ct__law_is_int : Value} {od__law_is_int an__law_is_int : Option Addr} {sl__law_is_int : Array (Option Value)} {f__law_words : Addr} {oc__law_words kV__law_words dc__law_words pm__law_words cd__law_words ct__law_words : Value} {od__law_words an__law_words : Option Addr} {sl__law_words : Array (Option Value)} {f__law_body_size : Addr} {oc__law_body_size kV__law_body_size dc__law_body_size pm__law_body_size cd__law_body_size ct__law_body_size : Value} {od__law_body_size an__law_body_size : Option Addr} {sl__law_body_size : Array (Option Value)} {f__law_capacity : Addr} {oc__law_capacity kV__law_capacity dc__law_capacity pm__law_capacity cd__law_capacity ct__law_capacity : Value} {od__law_capacity an__law_capacity : Option Addr} {sl__law_capacity : Array (Option Value)} {f_law : Addr} {oc_law kV_law dc_law pm_law cd_law ct_law : Value} {od_law an_law : Option Addr} {sl_law : Array (Option Value)} {f_Format___init__ : Addr} {oc_Format___init__ kV_Format___init__ dc_Format___init__ pm_Format___init__ cd_Format___init__ ct_Format___init__ : Value} {od_Format___init__ an_Format___init__ : Option Addr} {sl_Format___init__ : Array (Option Value)} {f_Format_data_symbols : Addr} {oc_Format_data_symbols kV_Format_data_symbols dc_Format_data_symbols pm_Format_data_symbols cd_Format_data_symbols ct_Format_data_symbols : Value} {od_Format_data_symbols an_Format_data_symbols : Option Addr} {sl_Format_data_symbols : Array (Option Value)} {p_Format_data_symbols : Addr} {rs_Format_data_symbols : List Value} {f_Format_codewords : Addr} {oc_Format_codewords kV_Format_codewords dc_Format_codewords pm_Format_codewords cd_Format_codewords ct_Format_codewords : Value} {od_Format_codewords an_Format_codewords : Option Addr} {sl_Format_codewords : Array (Option Value)} {p_Format_codewords : Addr} {rs_Format_codewords : List Value} {f_Format_body_size : Addr} {oc_Format_body_size kV_Format_body_size dc_Format_body_size pm_Format_body_size cd_Format_body_size ct_Format_body_size : Value} {od_Format_body_size an_Format_body_size : Option Addr} {sl_Format_body_size : Array (Option Value)} {p_Format_body_size : Addr} {rs_Format_body_size : List Value} {f_Format_capacity : Addr} {oc_Format_capacity kV_Format_capacity dc_Format_capacity pm_Format_capacity cd_Format_capacity ct_Format_capacity : Value} {od_Format_capacity an_Format_capacity : Option Addr} {sl_Format_capacity : Array (Option Value)} {p_Format_capacity : Addr} {rs_Format_capacity : List Value} {p_CHECKS : Addr} {od_CHECKS : Option Addr} {sl_CHECKS : Array (Option Value)} {n_CHECKS : Nat} {t0_CHECKS t1_CHECKS t2_CHECKS t3_CHECKS : Tok} {t_LEAST_SIDE : Tok} {t_GREATEST_SIDE : Tok} {t_CODEWORD_SIZE : Tok} {t_MARGIN : Tok} {t_SYMBOL_CELLS : Tok} {t_HEAD_SYMBOLS : Tok} (X : K.In h) (G : h.Ns mainGlobals mg) (hfa : mg "law" = some (.ref fa))
    (a__law_cell : PySem.W.nsIn K mainGlobals "_law_cell" = some (some (.ref f__law_cell)))
    (l__law_cell : K.lookup f__law_cell = some ⟨oc__law_cell, od__law_cell, .func (PySem.W.fnOf "_law_cell" "_law_cell" (defArgs s__law_cell) (defBody s__law_cell) (defScope s__law_cell) .none kV__law_cell dc__law_cell pm__law_cell an__law_cell cd__law_cell ct__law_cell), sl__law_cell⟩)
    (c__law_cell : PySem.W.codeIn K cd__law_cell "_law_cell" = true)
    (k__law_cell : PySem.W.keepIn K (.ref f__law_cell) = true)
    (a__law_is_int : PySem.W.nsIn K mainGlobals "_law_is_int" = some (some (.ref f__law_is_int)))
    (l__law_is_int : K.lookup f__law_is_int = some ⟨oc__law_is_int, od__law_is_int, .func (PySem.W.fnOf "_law_is_int" "_law_is_int" (defArgs s__law_is_int) (defBody s__law_is_int) (defScope s__law_is_int) .none kV__law_is_int dc__law_is_int pm__law_is_int an__law_is_int cd__law_is_int ct__law_is_int), sl__law_is_int⟩)
    (c__law_is_int : PySem.W.codeIn K cd__law_is_int "_law_is_int" = true)
    (k__law_is_int : PySem.W.keepIn K (.ref f__law_is_int) = true)
    (a__law_words : PySem.W.nsIn K mainGlobals "_law_words" = some (some (.ref f__law_words)))
    (l__law_words : K.lookup f__law_words = some ⟨oc__law_words, od__law_words, .func (PySem.W.fnOf "_law_words" "_law_words" (defArgs s__law_words) (defBody s__law_words) (defScope s__law_words) .none kV__law_words dc__law_words pm__law_words an__law_words cd__law_words ct__law_words), sl__law_words⟩)
    (c__law_words : PySem.W.codeIn K cd__law_words "_law_words" = true)
    (k__law_words : PySem.W.keepIn K (.ref f__law_words) = true)
    (a__law_body_size : PySem.W.nsIn K mainGlobals "_law_body_size" = some (some (.ref f__law_body_size)))
    (l__law_body_size : K.lookup f__law_body_size = some ⟨oc__law_body_size, od__law_body_size, .func (PySem.W.fnOf "_law_body_size" "_law_body_size" (defArgs s__law_body_size) (defBody s__law_body_size) (defScope s__law_body_size) .none kV__law_body_size dc__law_body_size pm__law_body_size an__law_body_size cd__law_body_size ct__law_body_size), sl__law_body_size⟩)
    (c__law_body_size : PySem.W.codeIn K cd__law_body_size "_law_body_size" = true)
    (k__law_body_size : PySem.W.keepIn K (.ref f__law_body_size) = true)
    (a__law_capacity : PySem.W.nsIn K mainGlobals "_law_capacity" = some (some (.ref f__law_capacity)))
    (l__law_capacity : K.lookup f__law_capacity = some ⟨oc__law_capacity, od__law_capacity, .func (PySem.W.fnOf "_law_capacity" "_law_capacity" (defArgs s__law_capacity) (defBody s__law_capacity) (defScope s__law_capacity) .none kV__law_capacity dc__law_capacity pm__law_capacity an__law_capacity cd__law_capacity ct__law_capacity), sl__law_capacity⟩)
    (c__law_capacity : PySem.W.codeIn K cd__law_capacity "_law_capacity" = true)
    (k__law_capacity : PySem.W.keepIn K (.ref f__law_capacity) = true)
    (a_law : PySem.W.nsIn K mainGlobals "law" = some (some (.ref f_law)))
    (l_law : K.lookup f_law = some ⟨oc_law, od_law, .func (PySem.W.fnOf "law" "law" (defArgs s_law) (defBody s_law) (defScope s_law) .none kV_law dc_law pm_law an_law cd_law ct_law), sl_law⟩)
    (c_law : PySem.W.codeIn K cd_law "law" = true)
    (k_law : PySem.W.keepIn K (.ref f_law) = true)
    (a_Format___init__ : PySem.W.nsIn K mainGlobals "Format" = some (some (.ref C_Format)))
    (m_Format___init__ : PySem.W.makesIn K C_Format = true)
    (i_Format___init__ : PySem.W.findIn K (.ref C_Format) "__init__" = some (some (.ref f_Format___init__)))
    (t_Format___init__ : PySem.W.isFn K (.ref f_Format___init__) = true)
    (kc_Format___init__ : PySem.W.keepIn K (.ref C_Format) = true)
    (l_Format___init__ : K.lookup f_Format___init__ = some ⟨oc_Format___init__, od_Format___init__, .func (PySem.W.fnOf "__init__" "Format.__init__" (defArgs s_Format___init__) (defBody s_Format___init__) (defScope s_Format___init__) .none kV_Format___init__ dc_Format___init__ pm_Format___init__ an_Format___init__ cd_Format___init__ ct_Format___init__), sl_Format___init__⟩)
    (c_Format___init__ : PySem.W.codeIn K cd_Format___init__ "Format.__init__" = true)
    (k_Format___init__ : PySem.W.keepIn K (.ref f_Format___init__) = true)
    (pg_Format : PySem.W.plainGet K C_Format Str.empty = true)
    (hd_Format : PySem.W.hasDictIn K C_Format = true)
    (po_Format : PySem.W.plainOver K C_Format = true)
    (sa_Format : PySem.W.findIn K (.ref C_Format) "__setattr__" = some (some (.builtin "object.__setattr__")))
    (hna_Format_side : PySem.W.findIn K (.ref C_Format) "side" = some none)
    (hna_Format_checks : PySem.W.findIn K (.ref C_Format) "checks" = some none)
    (a_Format_data_symbols : PySem.W.findIn K (.ref C_Format) "data_symbols" = some (some (.ref p_Format_data_symbols)))
    (b_Format_data_symbols : PySem.W.specialIn K (.ref p_Format_data_symbols) "__get__" = some (some (.builtin "property.__get__")))
    (t_Format_data_symbols : PySem.W.takesIn K (.ref p_Format_data_symbols) = some true)
    (r_Format_data_symbols : PySem.W.recIn K p_Format_data_symbols "property" = some (.ref f_Format_data_symbols :: rs_Format_data_symbols))
    (l_Format_data_symbols : K.lookup f_Format_data_symbols = some ⟨oc_Format_data_symbols, od_Format_data_symbols, .func (PySem.W.fnOf "data_symbols" "Format.data_symbols" (defArgs s_Format_data_symbols) (defBody s_Format_data_symbols) (defScope s_Format_data_symbols) .none kV_Format_data_symbols dc_Format_data_symbols pm_Format_data_symbols an_Format_data_symbols cd_Format_data_symbols ct_Format_data_symbols), sl_Format_data_symbols⟩)
    (c_Format_data_symbols : PySem.W.codeIn K cd_Format_data_symbols "Format.data_symbols" = true)
    (k_Format_data_symbols : PySem.W.keepIn K (.ref f_Format_data_symbols) = true)
    (a_Format_codewords : PySem.W.findIn K (.ref C_Format) "codewords" = some (some (.ref p_Format_codewords)))
    (b_Format_codewords : PySem.W.specialIn K (.ref p_Format_codewords) "__get__" = some (some (.builtin "property.__get__")))
    (t_Format_codewords : PySem.W.takesIn K (.ref p_Format_codewords) = some true)
    (r_Format_codewords : PySem.W.recIn K p_Format_codewords "property" = some (.ref f_Format_codewords :: rs_Format_codewords))
    (l_Format_codewords : K.lookup f_Format_codewords = some ⟨oc_Format_codewords, od_Format_codewords, .func (PySem.W.fnOf "codewords" "Format.codewords" (defArgs s_Format_codewords) (defBody s_Format_codewords) (defScope s_Format_codewords) .none kV_Format_codewords dc_Format_codewords pm_Format_codewords an_Format_codewords cd_Format_codewords ct_Format_codewords), sl_Format_codewords⟩)
    (c_Format_codewords : PySem.W.codeIn K cd_Format_codewords "Format.codewords" = true)
    (k_Format_codewords : PySem.W.keepIn K (.ref f_Format_codewords) = true)
    (a_Format_body_size : PySem.W.findIn K (.ref C_Format) "body_size" = some (some (.ref p_Format_body_size)))
    (b_Format_body_size : PySem.W.specialIn K (.ref p_Format_body_size) "__get__" = some (some (.builtin "property.__get__")))
    (t_Format_body_size : PySem.W.takesIn K (.ref p_Format_body_size) = some true)
    (r_Format_body_size : PySem.W.recIn K p_Format_body_size "property" = some (.ref f_Format_body_size :: rs_Format_body_size))
    (l_Format_body_size : K.lookup f_Format_body_size = some ⟨oc_Format_body_size, od_Format_body_size, .func (PySem.W.fnOf "body_size" "Format.body_size" (defArgs s_Format_body_size) (defBody s_Format_body_size) (defScope s_Format_body_size) .none kV_Format_body_size dc_Format_body_size pm_Format_body_size an_Format_body_size cd_Format_body_size ct_Format_body_size), sl_Format_body_size⟩)
    (c_Format_body_size : PySem.W.codeIn K cd_Format_body_size "Format.body_size" = true)
    (k_Format_body_size : PySem.W.keepIn K (.ref f_Format_body_size) = true)
    (a_Format_capacity : PySem.W.findIn K (.ref C_Format) "capacity" = some (some (.ref p_Format_capacity)))
    (b_Format_capacity : PySem.W.specialIn K (.ref p_Format_capacity) "__get__" = some (some (.builtin "property.__get__")))
    (t_Format_capacity : PySem.W.takesIn K (.ref p_Format_capacity) = some true)
    (r_Format_capacity : PySem.W.recIn K p_Format_capacity "property" = some (.ref f_Format_capacity :: rs_Format_capacity))
    (l_Format_capacity : K.lookup f_Format_capacity = some ⟨oc_Format_capacity, od_Format_capacity, .func (PySem.W.fnOf "capacity" "Format.capacity" (defArgs s_Format_capacity) (defBody s_Format_capacity) (defScope s_Format_capacity) .none kV_Format_capacity dc_Format_capacity pm_Format_capacity an_Format_capacity cd_Format_capacity ct_Format_capacity), sl_Format_capacity⟩)
    (c_Format_capacity : PySem.W.codeIn K cd_Format_capacity "Format.capacity" = true)
    (k_Format_capacity : PySem.W.keepIn K (.ref f_Format_capacity) = true)
    (a_CHECKS : PySem.W.nsIn K mainGlobals "CHECKS" = some (some (.ref p_CHECKS)))
    (l_CHECKS : K.lookup p_CHECKS = some ⟨.type "tuple", od_CHECKS, .seq #[Value.int 2 t0_CHECKS, Value.int 4 t1_CHECKS, Value.int 6 t2_CHECKS, Value.int 8 t3_CHECKS] n_CHECKS, sl_CHECKS⟩)
    (a_LEAST_SIDE : PySem.W.nsIn K mainGlobals "LEAST_SIDE" = some (some (.int 16 t_LEAST_SIDE)))
    (a_GREATEST_SIDE : PySem.W.nsIn K mainGlobals "GREATEST_SIDE" = some (some (.int 40 t_GREATEST_SIDE)))
    (a_CODEWORD_SIZE : PySem.W.nsIn K mainGlobals "CODEWORD_SIZE" = some (some (.int 16 t_CODEWORD_SIZE)))
    (a_MARGIN : PySem.W.nsIn K mainGlobals "MARGIN" = some (some (.int 2 t_MARGIN)))
    (a_SYMBOL_CELLS : PySem.W.nsIn K mainGlobals "SYMBOL_CELLS" = some (some (.int 4 t_SYMBOL_CELLS)))
    (a_HEAD_SYMBOLS : PySem.W.nsIn K mainGlobals "HEAD_SYMBOLS" = some (some (.int 10 t_HEAD_SYMBOLS)))
    (z_len : PySem.W.nsIn K mainGlobals "len" = some none)
    (z_int : PySem.W.nsIn K mainGlobals "int" = some none)
    (z_isinstance : PySem.W.nsIn K mainGlobals "isinstance" = some none)
    (z_bool : PySem.W.nsIn K mainGlobals "bool" = some none)
    (a_ArchiveError : PySem.W.nsIn K mainGlobals "ArchiveError" = some (some (.ref C_ArchiveError)))
    (x_ArchiveError : PySem.W.excIn K C_ArchiveError [.type "ValueError", .type "Exception", .type "BaseException", .type "object"] "ValueError.__new__" = true)
    (k_ArchiveError : PySem.W.keepIn K (.ref C_ArchiveError) = true)
    (b_ArchiveError : PySem.W.subIn K (.ref C_ArchiveError) (.type "BaseException") = some true)
    (t_ArchiveError : PySem.W.typeIn K (.ref C_ArchiveError) = some (.type "type"))
    (g_ArchiveError : PySem.W.findIn K (.ref C_ArchiveError) "__getattribute__" = some (some (.builtin "BaseException.__getattribute__")))
    (h_ArchiveError : PySem.W.findIn K (.ref C_ArchiveError) "__getattr__" = some none)
    (d_ArchiveError : PySem.W.hasDictIn K C_ArchiveError = true)
    (o_ArchiveError : PySem.W.findIn K (.ref C_ArchiveError) "__class__" = some (some (.builtin "object.__class__")))
    (n_ArchiveError : PySem.W.specialIn K (.builtin "object.__class__") "__get__" = some (some (.builtin "getset_descriptor.__get__")))
    (m_ArchiveError : PySem.W.takesIn K (.builtin "object.__class__") = some true)
    (r_ArchiveError : PySem.W.mroIn K C_ArchiveError (.type "object") = some true)
    (i_ArchiveError : PySem.W.isClsIn K C_ArchiveError = true)
    (a_InvalidFormat : PySem.W.nsIn K mainGlobals "InvalidFormat" = some (some (.ref C_InvalidFormat)))
    (x_InvalidFormat : PySem.W.excIn K C_InvalidFormat [.type "ValueError", .type "Exception", .type "BaseException", .type "object"] "ValueError.__new__" = true)
    (k_InvalidFormat : PySem.W.keepIn K (.ref C_InvalidFormat) = true)
    (b_InvalidFormat : PySem.W.subIn K (.ref C_InvalidFormat) (.type "BaseException") = some true)
    (t_InvalidFormat : PySem.W.typeIn K (.ref C_InvalidFormat) = some (.type "type"))
    (g_InvalidFormat : PySem.W.findIn K (.ref C_InvalidFormat) "__getattribute__" = some (some (.builtin "BaseException.__getattribute__")))
    (h_InvalidFormat : PySem.W.findIn K (.ref C_InvalidFormat) "__getattr__" = some none)
    (d_InvalidFormat : PySem.W.hasDictIn K C_InvalidFormat = true)
    (o_InvalidFormat : PySem.W.findIn K (.ref C_InvalidFormat) "__class__" = some (some (.builtin "object.__class__")))
    (n_InvalidFormat : PySem.W.specialIn K (.builtin "object.__class__") "__get__" = some (some (.builtin "getset_descriptor.__get__")))
    (m_InvalidFormat : PySem.W.takesIn K (.builtin "object.__class__") = some true)
    (r_InvalidFormat : PySem.W.mroIn K C_InvalidFormat (.type "object") = some true)
    (i_InvalidFormat : PySem.W.isClsIn K C_InvalidFormat = true)
    (hs_InvalidFormat_ArchiveError : PySem.W.subIn K (.ref C_InvalidFormat) (.ref C_ArchiveError) = some true)
    (hq_InvalidFormat_InvalidFormat : PySem.W.subIn K (.ref C_InvalidFormat) (.ref C_InvalidFormat) = some true)
    : ∃ fd : FuncData, (∀ (s : Shared) (v : Value), BindsTo s fd ⟨[v], []⟩ [("script", v)]) ∧ ∀ base : Heap, K.In base → base.Ns mainGlobals mg → FnOk P w K mg base CX0 9 fa fd ["script"] (spLaw K) :=
  law_mk (T := ⟨dn_mk X G a__law_cell l__law_cell c__law_cell k__law_cell (fun _ _ _ _ _ _ us hl => match us, hl with | [_, _], _ => rfl),
    dn_mk X G a__law_is_int l__law_is_int c__law_is_int k__law_is_int (fun _ _ _ _ _ _ us hl => match us, hl with | [_], _ => rfl),
    dn_mk X G a__law_words l__law_words c__law_words k__law_words (fun _ _ _ _ _ _ us hl => match us, hl with | [_], _ => rfl),
    dn_mk X G a__law_body_size l__law_body_size c__law_body_size k__law_body_size (fun _ _ _ _ _ _ us hl => match us, hl with | [_, _], _ => rfl),
    dn_mk X G a__law_capacity l__law_capacity c__law_capacity k__law_capacity (fun _ _ _ _ _ _ us hl => match us, hl with | [_, _], _ => rfl),
    dn_mk X G a_law l_law c_law k_law (fun _ _ _ _ _ _ us hl => match us, hl with | [_], _ => rfl),
    CL.dni_mk X G a_Format___init__ m_Format___init__ i_Format___init__ t_Format___init__ kc_Format___init__ l_Format___init__ c_Format___init__ k_Format___init__ (fun _ _ _ _ _ _ us hl => match us, hl with | [_, _, _], _ => rfl),
    ⟨pg_Format, hd_Format, po_Format, sa_Format⟩,
    hna_Format_side,
    hna_Format_checks,
    CL.dnp_mk a_Format_data_symbols b_Format_data_symbols t_Format_data_symbols r_Format_data_symbols l_Format_data_symbols c_Format_data_symbols k_Format_data_symbols (fun _ _ _ _ _ _ us hl => match us, hl with | [_], _ => rfl),
    CL.dnp_mk a_Format_codewords b_Format_codewords t_Format_codewords r_Format_codewords l_Format_codewords c_Format_codewords k_Format_codewords (fun _ _ _ _ _ _ us hl => match us, hl with | [_], _ => rfl),
    CL.dnp_mk a_Format_body_size b_Format_body_size t_Format_body_size r_Format_body_size l_Format_body_size c_Format_body_size k_Format_body_size (fun _ _ _ _ _ _ us hl => match us, hl with | [_], _ => rfl),
    CL.dnp_mk a_Format_capacity b_Format_capacity t_Format_capacity r_Format_capacity l_Format_capacity c_Format_capacity k_Format_capacity (fun _ _ _ _ _ _ us hl => match us, hl with | [_], _ => rfl),
    ct_mk X G a_CHECKS l_CHECKS (by show 4 ≤ sizeLine; decide) (.cons ⟨_, rfl⟩ (.cons ⟨_, rfl⟩ (.cons ⟨_, rfl⟩ (.cons ⟨_, rfl⟩ .nil)))),
    cv_int X G a_LEAST_SIDE,
    cv_int X G a_GREATEST_SIDE,
    cv_int X G a_CODEWORD_SIZE,
    cv_int X G a_MARGIN,
    cv_int X G a_SYMBOL_CELLS,
    cv_int X G a_HEAD_SYMBOLS,
    PySem.W.mg_none_of X G z_len,
    PySem.W.mg_none_of X G z_int,
    PySem.W.mg_none_of X G z_isinstance,
    PySem.W.mg_none_of X G z_bool,
    xcl_mk X G a_ArchiveError x_ArchiveError k_ArchiveError b_ArchiveError t_ArchiveError g_ArchiveError h_ArchiveError d_ArchiveError o_ArchiveError n_ArchiveError m_ArchiveError r_ArchiveError i_ArchiveError,
    xcl_mk X G a_InvalidFormat x_InvalidFormat k_InvalidFormat b_InvalidFormat t_InvalidFormat g_InvalidFormat h_InvalidFormat d_InvalidFormat o_InvalidFormat n_InvalidFormat m_InvalidFormat r_InvalidFormat i_InvalidFormat,
    hs_InvalidFormat_ArchiveError,
    kit_own i_InvalidFormat t_InvalidFormat hq_InvalidFormat_InvalidFormat (fun _ => rfl)⟩) hfa
theorem walk {l : PySem.W.OpenLaw} {q : Program} {loose : List Str} {XP : (Str → Option Value) → Heap → Prop} {YP : World → Heap → Prop} {d : DefRec} {K : Params → PySem.W.Frag} (hn : l.most = some 63) (hdf : d.params.defaults = [])
    (hY : ∀ (w : World) (h : Heap), YP w h → (K w.params).In h)
    (F : ∀ (w : World) (mg : Str → Option Value) (fa : Addr) (h : Heap), (K w.params).In h → h.Ns mainGlobals mg → mg d.name = some (.ref fa) →
      ∃ fd : FuncData, (∀ (s : Shared) (u : Value), BindsTo s fd ⟨[u], []⟩ [("script", u)]) ∧ ∀ base : Heap, (K w.params).In base → base.Ns mainGlobals mg → FnOk l.prog w (K w.params) mg base CX0 9 fa fd ["script"] (spLaw (K w.params))) :
    PySem.W.WalkO q loose XP YP l.row.toRowW d [] (fun f vs => PySem.call f vs) :=
  L2.walk_of (n := 63) (k := 9) (x := "script") (CX := fun _ => CX0) (sp := fun w => spLaw (K w.params)) hn (by decide) hdf ⟨rfl, by decide, by decide⟩ hY F (fun _ _ a ns hl _ hS => ⟨a, ns, rfl, hS, hl, fun _ => rfl⟩) fun _ _ _ _ _ z => z
end My
open PySem PySem.W PyProof.Rows in
set_option maxRecDepth 100000 in
set_option maxHeartbeats 0 in
theorem PySem.Challenge.cw_scanpages_k32_formats_holds : PySem.Challenge.rw_scanpages_k32_formats.Holds := by
  w_on; o_law; k_head; (case hw => w_witness2)
  k_fill
  refine My.walk (l := PySem.Challenge.rw_scanpages_k32_formats) rfl rfl (fun w h Y => PySem.W.kIn_of Y) ?F
  case F =>
    intro w mg fa h KX G hmg
    refine' My.law_end KX G hmg ?a__law_cell ?l__law_cell ?c__law_cell ?k__law_cell ?a__law_is_int ?l__law_is_int ?c__law_is_int ?k__law_is_int ?a__law_words ?l__law_words ?c__law_words ?k__law_words ?a__law_body_size ?l__law_body_size ?c__law_body_size ?k__law_body_size ?a__law_capacity ?l__law_capacity ?c__law_capacity ?k__law_capacity ?a_law ?l_law ?c_law ?k_law ?a_Format___init__ ?m_Format___init__ ?i_Format___init__ ?t_Format___init__ ?kc_Format___init__ ?l_Format___init__ ?c_Format___init__ ?k_Format___init__ ?pg_Format ?hd_Format ?po_Format ?sa_Format ?hna_Format_side ?hna_Format_checks ?a_Format_data_symbols ?b_Format_data_symbols ?t_Format_data_symbols ?r_Format_data_symbols ?l_Format_data_symbols ?c_Format_data_symbols ?k_Format_data_symbols ?a_Format_codewords ?b_Format_codewords ?t_Format_codewords ?r_Format_codewords ?l_Format_codewords ?c_Format_codewords ?k_Format_codewords ?a_Format_body_size ?b_Format_body_size ?t_Format_body_size ?r_Format_body_size ?l_Format_body_size ?c_Format_body_size ?k_Format_body_size ?a_Format_capacity ?b_Format_capacity ?t_Format_capacity ?r_Format_capacity ?l_Format_capacity ?c_Format_capacity ?k_Format_capacity ?a_CHECKS ?l_CHECKS ?a_LEAST_SIDE ?a_GREATEST_SIDE ?a_CODEWORD_SIZE ?a_MARGIN ?a_SYMBOL_CELLS ?a_HEAD_SYMBOLS ?z_len ?z_int ?z_isinstance ?z_bool ?a_ArchiveError ?x_ArchiveError ?k_ArchiveError ?b_ArchiveError ?t_ArchiveError ?g_ArchiveError ?h_ArchiveError ?d_ArchiveError ?o_ArchiveError ?n_ArchiveError ?m_ArchiveError ?r_ArchiveError ?i_ArchiveError ?a_InvalidFormat ?x_InvalidFormat ?k_InvalidFormat ?b_InvalidFormat ?t_InvalidFormat ?g_InvalidFormat ?h_InvalidFormat ?d_InvalidFormat ?o_InvalidFormat ?n_InvalidFormat ?m_InvalidFormat ?r_InvalidFormat ?i_InvalidFormat ?hs_InvalidFormat_ArchiveError ?hq_InvalidFormat_InvalidFormat
    (case a__law_cell => k_is)
    (case l__law_cell => k_is)
    (case c__law_cell => k_is)
    (case k__law_cell => k_is)
    (case a__law_is_int => k_is)
    (case l__law_is_int => k_is)
    (case c__law_is_int => k_is)
    (case k__law_is_int => k_is)
    (case a__law_words => k_is)
    (case l__law_words => k_is)
    (case c__law_words => k_is)
    (case k__law_words => k_is)
    (case a__law_body_size => k_is)
    (case l__law_body_size => k_is)
    (case c__law_body_size => k_is)
    (case k__law_body_size => k_is)
    (case a__law_capacity => k_is)
    (case l__law_capacity => k_is)
    (case c__law_capacity => k_is)
    (case k__law_capacity => k_is)
    (case a_law => k_is)
    (case l_law => k_is)
    (case c_law => k_is)
    (case k_law => k_is)
    (case a_Format___init__ => k_is)
    (case m_Format___init__ => k_is)
    (case i_Format___init__ => k_is)
    (case t_Format___init__ => k_is)
    (case kc_Format___init__ => k_is)
    (case l_Format___init__ => k_is)
    (case c_Format___init__ => k_is)
    (case k_Format___init__ => k_is)
    (case pg_Format => k_is)
    (case hd_Format => k_is)
    (case po_Format => k_is)
    (case sa_Format => k_is)
    (case hna_Format_side => k_is)
    (case hna_Format_checks => k_is)
    (case a_Format_data_symbols => k_is)
    (case b_Format_data_symbols => k_is)
    (case t_Format_data_symbols => k_is)
    (case r_Format_data_symbols => k_is)
    (case l_Format_data_symbols => k_is)
    (case c_Format_data_symbols => k_is)
    (case k_Format_data_symbols => k_is)
    (case a_Format_codewords => k_is)
    (case b_Format_codewords => k_is)
    (case t_Format_codewords => k_is)
    (case r_Format_codewords => k_is)
    (case l_Format_codewords => k_is)
    (case c_Format_codewords => k_is)
    (case k_Format_codewords => k_is)
    (case a_Format_body_size => k_is)
    (case b_Format_body_size => k_is)
    (case t_Format_body_size => k_is)
    (case r_Format_body_size => k_is)
    (case l_Format_body_size => k_is)
    (case c_Format_body_size => k_is)
    (case k_Format_body_size => k_is)
    (case a_Format_capacity => k_is)
    (case b_Format_capacity => k_is)
    (case t_Format_capacity => k_is)
    (case r_Format_capacity => k_is)
    (case l_Format_capacity => k_is)
    (case c_Format_capacity => k_is)
    (case k_Format_capacity => k_is)
    (case a_CHECKS => k_is)
    (case l_CHECKS => k_is)
    (case a_LEAST_SIDE => k_is)
    (case a_GREATEST_SIDE => k_is)
    (case a_CODEWORD_SIZE => k_is)
    (case a_MARGIN => k_is)
    (case a_SYMBOL_CELLS => k_is)
    (case a_HEAD_SYMBOLS => k_is)
    (case z_len => k_is)
    (case z_int => k_is)
    (case z_isinstance => k_is)
    (case z_bool => k_is)
    (case a_ArchiveError => k_is)
    (case x_ArchiveError => k_exc)
    (case k_ArchiveError => k_is)
    (case b_ArchiveError => k_is)
    (case t_ArchiveError => k_is)
    (case g_ArchiveError => k_is)
    (case h_ArchiveError => k_is)
    (case d_ArchiveError => k_is)
    (case o_ArchiveError => k_is)
    (case n_ArchiveError => k_is)
    (case m_ArchiveError => k_is)
    (case r_ArchiveError => k_is)
    (case i_ArchiveError => k_is)
    (case a_InvalidFormat => k_is)
    (case x_InvalidFormat => k_exc)
    (case k_InvalidFormat => k_is)
    (case b_InvalidFormat => k_is)
    (case t_InvalidFormat => k_is)
    (case g_InvalidFormat => k_is)
    (case h_InvalidFormat => k_is)
    (case d_InvalidFormat => k_is)
    (case o_InvalidFormat => k_is)
    (case n_InvalidFormat => k_is)
    (case m_InvalidFormat => k_is)
    (case r_InvalidFormat => k_is)
    (case i_InvalidFormat => k_is)
    (case hs_InvalidFormat_ArchiveError => first | k_is | rfl)
    (case hq_InvalidFormat_InvalidFormat => first | k_is | rfl)
#print axioms PySem.Challenge.cw_scanpages_k32_formats_holds
