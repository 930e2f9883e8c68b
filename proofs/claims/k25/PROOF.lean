import PyProof.Rows.All
import Wide.All
import OpenK.AllK
import Wide.FinOn
import PyProof.EqAt
import PyProof.EqKinds
import PyProof.TupleCall
import HandS.ForMost
import HandS.ForExc
import HandS.RaiseMore
import HandS.FStr
import HandS.IsInst
import HandS.ExcIs
import HandS.Wide
import HandS.Flow
import HandS.Conv
import HandS.Evl
import HandS.TupAny
import HandS.Style
import HandS.ExcCtx
import HandS.HotCalls
import HandS.Strs
import PySem.Challenge.RW_scanpages_k25_field
set_option Elab.async false
set_option linter.all false
set_option maxRecDepth 100000
set_option maxHeartbeats 4000000
/-! Cm: what all our proofs share -/
namespace Cm
open PySem PySem.Spec PyProof.Rows L2

/-! ### defs of the module, and what they promise -/
/-- the def x stands at some address behind the top -/
def Dn (K : PySem.W.Frag) (mg : Str → Option Value) (x : Str) (st : Stmt) (ps : List Str) : Prop :=
  ∃ (f : Addr) (fd : FuncData), Fun K x x st f fd ∧ mg x = some (.ref f) ∧ Binds K fd ps []
/-- the def x keeps the promise sp -/
def Ok (P : Program) (w : World) (K : PySem.W.Frag) (mg : Str → Option Value) (base : Heap) (CX : CXT) (k : Nat) (x : Str) (ps : List Str) (sp : Sp) : Prop :=
  ∃ (f : Addr) (fd : FuncData), FnOk P w K mg base CX k f fd ps sp ∧ mg x = some (.ref f) ∧ PySem.W.keepIn K (.ref f) = true ∧ Binds K fd ps []
theorem ok_of {P : Program} {w : World} {K : PySem.W.Frag} {mg : Str → Option Value} {base : Heap} {CX : CXT} {k : Nat} {x : Str} {st : Stmt} {ps : List Str} {sp : Sp} (d : Dn K mg x st ps)
    (h : ∀ f fd, Fun K x x st f fd → FnOk P w K mg base CX k f fd ps sp) : Ok P w K mg base CX k x ps sp := by
  obtain ⟨f, fd, F, g, b⟩ := d
  exact ⟨f, fd, h f fd F, g, F.kp, b⟩
section
variable {X : Cx} {CX : CXT} {k : Nat} {ps : List Str} {sp : Sp} {E : XK} {x : Str} {p pos : Pos} {e : Expr} {es : List Expr} {t : TA}
theorem pe_callO (G : Ok X.prog X.w X.K X.mg X.base CX k x ps sp) (hr : Room k X.A) (hx : Passes CX X E) (ha : PA X (e :: es) t) (hg : Gl X x := by rfl)
    (hdb : (x == ("__debug__" : Str)) = false := by decide) (he : starEach (e :: es) X.env = (false, eval e X.env) :: starEach es X.env := by rfl) (hpl : (backTo pos (starEach es X.env)).any (·.1) = false := by rfl) :
    PE X (.Call (.Name x p) (e :: es) [] pos) (tCall sp [] E t) := by
  obtain ⟨f, fd, F, g, kp, b⟩ := G
  exact pe_call F hr hg g kp b .nil hx ha hdb he hpl
theorem pe_callO0 (G : Ok X.prog X.w X.K X.mg X.base CX k x ps sp) (hr : Room k X.A) (hx : Passes CX X E) (hg : Gl X x := by rfl) (hdb : (x == ("__debug__" : Str)) = false := by decide) :
    PE X (.Call (.Name x p) [] [] pos) (tCall sp [] E tNil) := by
  obtain ⟨f, fd, F, g, kp, b⟩ := G
  exact pe_call0 F hr hg g kp b .nil hx hdb
theorem pe_callT {Es : L2.St → XK} (G : Ok X.prog X.w X.K X.mg X.base CX k x ps sp) (hr : Room k X.A) (hx : ∀ σ, PassesAt CX X σ (Es σ)) (ha : PA X (e :: es) t) (hg : Gl X x := by rfl)
    (hdb : (x == ("__debug__" : Str)) = false := by decide) (he : starEach (e :: es) X.env = (false, eval e X.env) :: starEach es X.env := by rfl) (hpl : (backTo pos (starEach es X.env)).any (·.1) = false := by rfl) :
    PE X (.Call (.Name x p) (e :: es) [] pos) (tCallS sp Es t) := by
  obtain ⟨f, fd, F, g, kp, b⟩ := G
  exact pe_callS F hr hg g kp b hx ha hdb he hpl
end
/-! ### errors: raised where nothing is handled -/
/-- what leaves a def: L2N's way -/
abbrev CXN (P : Program) (w : World) : CXT := L2N.CX P w
theorem passN {X : Cx} : Passes (CXN X.prog X.w) X E0 := fun _ _ _ _ _ _ _ h => by
  obtain ⟨_, _, _, _, _, _, _, _, _, _, _, _, z⟩ := h
  exact z.elim
theorem takesN {X : Cx} : L2N.Takes X (fun _ _ _ _ => False) := fun _ _ x => by
  obtain ⟨_, _, _, _, _, _, _, _, _, _, _, _, _, _, _, _, z⟩ := x
  exact z.elim
theorem passX {X : Cx} {E E' : XK} (tk : L2N.Takes X (fun cls d _ H => E cls d H)) (h : ∀ cls d H, E' cls d H → E cls d H) : Passes (CXN X.prog X.w) X E' := fun pins σ H s e s' I c => tk e s' (L2N.XE.of_call I (fun cls d H' q => h cls d H' q) c)
theorem okN {P : Program} {w : World} {K : PySem.W.Frag} {mg : Str → Option Value} {base : Heap} {x qual : Str} {st : Stmt} {f : Addr} {fd : FuncData} {N ps : List Str} {k : Nat} {sp : Sp} (F : Fun K x qual st f fd) (S : FnScope N ps (defScope st)) (len : ∀ vs H Q E, sp vs H Q E → vs.length = ps.length)
    (hbody : ∀ (cdv : Value) (A : Around) (outer : List Env) (s : Shared) (H : Hp) (vs : List V) (Q : VK) (E : XK), Room k (A.deeper (envOfC qual (defScope st) s.heap.objs.size f cdv)) → sp vs H Q E →
      ∃ t, PSs (cxOf (CXN P w) P w K mg base N qual (defScope st) f cdv A outer s H E) (defBody st) t ∧ t { nx := fun _ H' => Q .non H', rt := Q } (L2.start N vs) H) : FnOk P w K mg base (CXN P w) (k + 1) f fd ps sp := by
  obtain ⟨oc, od, kV, doc, pm, an, cdv, ct, osl, rfl, lk, hcd⟩ := F.ex
  exact fn_of lk hcd S len fun A outer s H vs Q E hr hsp => hbody cdv A outer s H vs Q E hr hsp
section
variable {X : Cx}
/-- X(e) -/
theorem pmk_own1 {C : Addr} {bmB : List Value} {B newId initId : String} {x : Str} {e : Expr} {ta : TE} {p pos : Pos} (F : ExcBaseFacts B newId initId bmB) (q : PySem.W.excIn X.K C bmB newId = true) (gC : X.mg x = some (.ref C)) (kC : PySem.W.keepIn X.K (.ref C) = true) (r : Raises X (.ref C)) (hg : Gl X x)
    (he : PE X e ta) (hs : starEach [e] X.env = (false, eval e X.env) :: starEach [] X.env := by rfl) (hdb : (x == ("__debug__" : Str)) = false := by decide) :
    L2N.PMk X (.Call (.Name x p) [e] [] pos) (fun σ H Q => ta σ H fun _ H1 => Q (.ref C) none H1) := by
  intro pins s σ H Q I h
  refine wpAny_Call_Name_kw (ld_glob I hg gC ?_ hdb)
  refine PySem.W.callWith_K (h₀ := X.base) I.ok.mod.kin kC ?_ hs (by rfl)
  rw [hs]
  show wpAny _ _ (spliced ((false, eval e X.env) :: backTo pos (starEach [] X.env))) _ _ s
  refine Calls.spliced_cons (thn (he.run pins s σ H _ I h) fun u s1 ⟨v, H1, I1, r1, q1⟩ => ?_)
  refine Calls.spliced_nil ⟨I1.kIn, ?_⟩
  show wpAny _ _ (call (.ref C) [u]) _ _ _
  obtain ⟨bm, N, nm, qn, bs, hdct, sn, sub, ab, col, dd, k0, k1, k2, k3, k5, mN, hC, hN, hni, T⟩ := exc_obj I1.kIn q
  refine wpAny_call_exc_subT F T hC hN hni (fun h' e hm => ?_) (by show 1 ≤ sizeLine; rw [sizeLine_eq]; omega)
  exact L2N.mk_of I1 hm r q1 (I1.hok.gone hm.new)
end
/-! ### defs called within an except suite -/
def OkH (P : Program) (w : World) (K : PySem.W.Frag) (mg : Str → Option Value) (base : Heap) (CX : CXT) (k : Nat) (x : Str) (ps : List Str) (sp : Sp) : Prop :=
  ∃ (f : Addr) (fd : FuncData), L2H.FnH P w K mg base CX k f fd ps sp ∧ mg x = some (.ref f) ∧ PySem.W.keepIn K (.ref f) = true ∧ Binds K fd ps []
theorem okH_of {P : Program} {w : World} {K : PySem.W.Frag} {mg : Str → Option Value} {base : Heap} {k : Nat} {x : Str} {st : Stmt} {N ps : List Str} {sp : Sp} (d : Dn K mg x st ps) (S : FnScope N ps (defScope st)) (len : ∀ vs H Q E, sp vs H Q E → vs.length = ps.length)
    (hbody : ∀ (f : Addr) (cdv : Value) (A : Around) (outer : List Env) (s : Shared) (H : Hp) (vs : List V) (Q : VK) (E : XK) (p : Addr × Obj), L2H.Hot1 A p → L2H.RoomH k (A.deeper (envOfC x (defScope st) s.heap.objs.size f cdv)) → sp vs H Q E →
      ∃ t, PSs (L2H.cxH CX0 P w K mg base N x (defScope st) f cdv A outer s H E p) (defBody st) t ∧ t { nx := fun _ H' => Q .non H', rt := Q } (L2.start N vs) H) : OkH P w K mg base CX0 (k + 1) x ps sp := by
  obtain ⟨f, fd, F, g, b⟩ := d
  refine ⟨f, fd, ?_, g, F.kp, b⟩
  obtain ⟨oc, od, kV, doc, pm, an, cdv, ct, osl, rfl, lk, hcd⟩ := F.ex
  exact L2H.fn_ofH lk hcd S len fun A outer s H vs Q E p hot hr hsp => hbody f cdv A outer s H vs Q E p hot hr hsp
section
variable {X : Cx} {k : Nat} {ps : List Str} {sp : Sp} {x : Str} {p pos : Pos} {e : Expr} {es : List Expr} {t : TA}
theorem pe_callHO (G : OkH X.prog X.w X.K X.mg X.base CX0 k x ps sp) (hr : L2H.RoomH k X.A) (hc : L2H.HotC X) (ha : PA X (e :: es) t) (hg : Gl X x := by rfl)
    (hdb : (x == ("__debug__" : Str)) = false := by decide) (he : starEach (e :: es) X.env = (false, eval e X.env) :: starEach es X.env := by rfl) (hpl : (backTo pos (starEach es X.env)).any (·.1) = false := by rfl) :
    PE X (.Call (.Name x p) (e :: es) [] pos) (tCallS sp (fun _ => E0) t) := by
  obtain ⟨f, fd, F, g, kp, b⟩ := G
  exact L2H.pe_callH F hr hc hg g kp b (fun _ _ _ _ _ _ _ h => h.elim) ha hdb he hpl
theorem roomS {k j : Nat} {A : Around} {h : Option Value} (hr : Room k A) (hj : j ≤ k) : L2H.RoomH j (A.mark h) := L2H.RoomH.mono (k := k) ⟨hr.dp, hr.un⟩ hj
theorem hotS {a : Addr} {oe : Obj} {cls : Value} {d : Option Addr} {pn : List (Addr × Obj)} (hz : L2N.Zn cls d oe) (hf : ∃ vs, oe.data = .fields vs) : L2H.HotC (X.suite a ((a, oe) :: pn)) := by
  obtain ⟨vs, e⟩ := hf
  exact ⟨(a, oe), ⟨rfl, vs, e, hz.2.2 vs e⟩, List.mem_cons_self⟩
end
/-! ### names of the module -/
/-- the name x of the module holds v -/
def CV (mg : Str → Option Value) (x : Str) (v : V) : Prop := ∃ u, mg x = some u ∧ RelV v u
theorem pe_globC {X : Cx} {x : Str} {v : V} {pos : Pos} (hg : Gl X x) (h : CV X.mg x v) (hd : (x == ("__debug__" : Str)) = false := by decide) : PE X (.Name x pos) (tC v) := by
  obtain ⟨u, hm, r⟩ := h
  exact pe_glob hg hm r hd
theorem pe_globR {X : Cx} {x : Str} {a : Addr} {pos : Pos} (hg : Gl X x) (h : X.mg x = some (.ref a)) (hd : (x == ("__debug__" : Str)) = false := by decide) : PE X (.Name x pos) (tC (.ref a)) := pe_glob hg h rfl hd
/-! ### tests -/
theorem itd {p A B : Prop} [Decidable p] (h1 : p → A) (h2 : ¬ p → B) : if decide p = true then A else B := by
  by_cases h : p
  · rw [if_pos (decide_eq_true h)]
    exact h1 h
  · rw [if_neg (by simp [h])]
    exact h2 h
theorem itb {b : Bool} {A B : Prop} (h1 : b = true → A) (h2 : b = false → B) : if b = true then A else B := by
  cases b with
  | true => exact iteT (h1 rfl)
  | false => exact iteF (h2 rfl)
/-! ### error classes -/
/-- an error class that may have an own __init__ -/
structure XB (K : PySem.W.Frag) (mg : Str → Option Value) (x : Str) (C : Addr) : Prop where
  g : mg x = some (.ref C)
  k : PySem.W.keepIn K (.ref C) = true
  b : PySem.W.subIn K (.ref C) (.type "BaseException") = some true
  t : PySem.W.typeIn K (.ref C) = some (.type "type")
  d : PySem.W.hasDictIn K C = true
  i : PySem.W.isClsIn K C = true
/-- an error class without an own __init__ -/
structure XCl (K : PySem.W.Frag) (mg : Str → Option Value) (x : Str) (C : Addr) : Prop extends XB K mg x C where
  x : PySem.W.excIn K C [.type "ValueError", .type "Exception", .type "BaseException", .type "object"] "ValueError.__new__" = true
  e : ExcC K C
section
variable {K : PySem.W.Frag} {h : Heap} {mg : Str → Option Value} {x : Str} {C : Addr}
theorem xb_mk (X : K.In h) (G : h.Ns mainGlobals mg) (a : PySem.W.nsIn K mainGlobals x = some (some (.ref C))) (k : PySem.W.keepIn K (.ref C) = true) (b : PySem.W.subIn K (.ref C) (.type "BaseException") = some true)
    (t : PySem.W.typeIn K (.ref C) = some (.type "type")) (d : PySem.W.hasDictIn K C = true) (i : PySem.W.isClsIn K C = true) : XB K mg x C := ⟨PySem.W.mg_of X G a, k, b, t, d, i⟩
theorem xcl_mk (X : K.In h) (G : h.Ns mainGlobals mg) (a : PySem.W.nsIn K mainGlobals x = some (some (.ref C)))
    (q : PySem.W.excIn K C [.type "ValueError", .type "Exception", .type "BaseException", .type "object"] "ValueError.__new__" = true) (k : PySem.W.keepIn K (.ref C) = true)
    (b : PySem.W.subIn K (.ref C) (.type "BaseException") = some true) (t : PySem.W.typeIn K (.ref C) = some (.type "type"))
    (hg : PySem.W.findIn K (.ref C) "__getattribute__" = some (some (.builtin "BaseException.__getattribute__"))) (hk : PySem.W.findIn K (.ref C) "__getattr__" = some none) (hd : PySem.W.hasDictIn K C = true)
    (ha : PySem.W.findIn K (.ref C) "__class__" = some (some (.builtin "object.__class__"))) (hn : PySem.W.specialIn K (.builtin "object.__class__") "__get__" = some (some (.builtin "getset_descriptor.__get__")))
    (ht : PySem.W.takesIn K (.builtin "object.__class__") = some true) (hm : PySem.W.mroIn K C (.type "object") = some true) (i : PySem.W.isClsIn K C = true) : XCl K mg x C :=
  ⟨⟨PySem.W.mg_of X G a, k, b, t, hd, i⟩, q, ⟨hg, hk, b, hd, ha, hn, ht, hm⟩⟩
/-- isinstance of an own class -/
theorem kit_own {D : Addr} {r : Bool} (i : PySem.W.isClsIn K C = true) (t : PySem.W.typeIn K (.ref C) = some (.type "type")) (s : PySem.W.subIn K (.ref D) (.ref C) = some r) (hne : (Value.ref D == Value.ref C) = true → r = true) :
    PySem.W.kitOne K (.ref D) (.ref C) = some r := by
  unfold PySem.W.kitOne
  cases e : (Value.ref D == Value.ref C) with
  | true => rw [if_pos rfl, hne e]
  | false =>
    rw [if_neg Bool.false_ne_true]
    have h2 : ((PySem.W.clsIn K C).isSome && PySem.W.typeIn K (.ref C) == some (.type "type")) = true := by
      have h2' : (PySem.W.clsIn K C).isSome = true := i
      rw [h2', t] <;> rfl
    show (if ((PySem.W.clsIn K C).isSome && PySem.W.typeIn K (.ref C) == some (.type "type")) = true then PySem.W.subIn K (.ref D) (.ref C) else none) = some r
    rw [if_pos h2, s]
theorem kit_ve {D : Addr} (s : PySem.W.subIn K (.ref D) (.type "ValueError") = some true) : PySem.W.kitOne K (.ref D) (.type "ValueError") = some true := by
  have e : (Value.ref D == Value.type "ValueError") = false := rfl
  unfold PySem.W.kitOne
  rw [e, if_neg Bool.false_ne_true]
  show (if PySem.W.kitMeta "ValueError" = true then PySem.W.subIn K (.ref D) (.type "ValueError") else none) = some true
  rw [if_pos (by decide +kernel), s]
/-- except C takes an error of the class at D -/
theorem exm_own {D : Addr} {r : Bool} {y : Str} (c : XB K mg y C) (s : PySem.W.subIn K (.ref D) (.ref C) = some r) : PySem.W.exmOne K (.ref D) (.ref C) = some r := PySem.W.exm_ref c.b c.d c.t s
/-! ### the facts of the top -/
theorem dn_mk {st : Stmt} {ps : List Str} {f : Addr} {oc : Value} {od an : Option Addr} {osl : Array (Option Value)} {kV doc pm cdv ct : Value} (X : K.In h) (G : h.Ns mainGlobals mg) (a : PySem.W.nsIn K mainGlobals x = some (some (.ref f)))
    (l : K.lookup f = some ⟨oc, od, .func (PySem.W.fnOf x x (defArgs st) (defBody st) (defScope st) .none kV doc pm an cdv ct), osl⟩) (c : PySem.W.codeIn K cdv x = true) (k : PySem.W.keepIn K (.ref f) = true)
    (hb : ∀ (kV doc pm : Value) (an : Option Addr) (cdv ct : Value) (us : List Value), us.length = ps.length → bindArgs (PySem.W.fnOf x x (defArgs st) (defBody st) (defScope st) .none kV doc pm an cdv ct) ⟨us, []⟩ = pure (ps.zip us)) : Dn K mg x st ps :=
  ⟨f, _, fun_mk l c k, PySem.W.mg_of X G a, (fun_mk l c k).binds hb⟩
theorem cv_int {i : Int} {t : Tok} (X : K.In h) (G : h.Ns mainGlobals mg) (a : PySem.W.nsIn K mainGlobals x = some (some (.int i t))) : CV mg x (.int i) := ⟨_, PySem.W.mg_of X G a, _, rfl⟩
theorem cv_str {i : Str} {t : Tok} (X : K.In h) (G : h.Ns mainGlobals mg) (a : PySem.W.nsIn K mainGlobals x = some (some (.str i t))) : CV mg x (.str i) := ⟨_, PySem.W.mg_of X G a, _, rfl⟩
theorem cv_bl {i : Bool} (X : K.In h) (G : h.Ns mainGlobals mg) (a : PySem.W.nsIn K mainGlobals x = some (some (.bool i))) : CV mg x (.bl i) := ⟨_, PySem.W.mg_of X G a, rfl⟩
/-- the name x of the module holds a tuple of the written part -/
def CT (K : PySem.W.Frag) (mg : Str → Option Value) (x : Str) (xs : List V) : Prop := ∃ p, mg x = some (.ref p) ∧ ∀ H, SqT K H p xs
theorem ct_mk {p : Addr} {od : Option Addr} {its : Array Value} {n : Nat} {sl : Array (Option Value)} {xs : List V} (X : K.In h) (G : h.Ns mainGlobals mg) (a : PySem.W.nsIn K mainGlobals x = some (some (.ref p)))
    (l : K.lookup p = some ⟨.type "tuple", od, .seq its n, sl⟩) (hs : its.size ≤ sizeLine) (hv : Vals xs its.toList) : CT K mg x xs :=
  ⟨p, PySem.W.mg_of X G a, fun _ => .inr ⟨_, its, n, l, rfl, rfl, hs, hv⟩⟩
end
theorem pe_globT {X : Cx} {x : Str} {xs : List V} {pos : Pos} (hg : Gl X x) (h : CT X.K X.mg x xs) (hd : (x == ("__debug__" : Str)) = false := by decide) :
    PE X (.Name x pos) (fun _ H Q => ∀ p, (∀ H', SqT X.K H' p xs) → Q (.ref p) H) := by
  obtain ⟨p, hm, hs⟩ := h
  exact ⟨fun pins s σ H Q I h => (pe_glob hg hm (v := .ref p) rfl hd).run pins s σ H Q I (h p hs)⟩
/-! ### a suite that is read for known errors alone -/
theorem pss_guard {X : Cx} {st : List Stmt} {p : Prop} {t : TS} (h : p → PSs X st t) : PSs X st (fun D σ H => p ∧ t D σ H) :=
  ⟨fun pins s σ H D I q => (h q.1).run pins s σ H D I q.2⟩
theorem to_true {Q : VK} {b : Bool} {H : Hp} (h : b = true) (q : Q (.bl true) H) : Q (.bl b) H := h ▸ q
/-- a new object at p stays the only one that changes -/
theorem same_new {H H' : Hp} {p : Addr} {o : HO} (e : Same H H') (hp : H p = none) : Same H (upd H' p o) := Evl.Ex.mut e hp
theorem same_upd {H : Hp} {p : Addr} {o : HO} (hp : H p = none) : Same H (upd H p o) := Evl.Ex.new hp
theorem tyx_list {K : PySem.W.Frag} {H : Hp} {a : Addr} {xs : List V} (h : SqL K H a xs) : TyX K H (.ref a) (.type "list") := by
  rcases h with (h | ⟨o, h⟩) | ⟨o, its, n, h, hc, _⟩
  · exact .base (.lst h)
  · exact .base (.frz h)
  · exact .kList h hc
theorem tyx_tuple {K : PySem.W.Frag} {H : Hp} {a : Addr} {xs : List V} (h : SqT K H a xs) : TyX K H (.ref a) (.type "tuple") := by
  rcases h with (h | ⟨o, h⟩) | ⟨o, its, n, h, hc, _⟩
  · exact .base (.tup h)
  · exact .fTuple h
  · exact .kTuple h hc
theorem small {n : Nat} (h : n ≤ 100000) : n < sizeLine := Nat.lt_of_le_of_lt h (by decide)
theorem smallE {n : Nat} (h : n ≤ 100000) : n ≤ sizeLine := Nat.le_trans h (by decide)
/-- for .. in enumerate(list) -/
theorem for_enum {K : PySem.W.Frag} {a : Addr} {xs : List V} {g : TG} {tb : TS} {D : Ends} {σ : L2.St} {H : Hp} (Pv : Nat → L2.St → Hp → Prop) (h0 : Pv 0 σ H) (hl : ∀ i σ H, i ≤ xs.length → Pv i σ H → SqL K H a xs)
    (hs : ∀ i x T σ H, xs[i]? = some x → Pv i σ H → H T = none → g (.ref T) σ (upd H T (.tup [.int (i : Nat), x])) fun σ2 H2 => tb { D with nx := Pv (i + 1), ct := Pv (i + 1), bk := D.nx } σ2 H2) (hd : ∀ σ H, Pv xs.length σ H → D.nx σ H) :
    ∃ W : Nat → Nat → L2.St → Hp → Prop, (∃ m, W 0 m σ H) ∧ ∀ i m σ H, W i m σ H →
      ((Ite K a).stop i H ∧ D.nx σ H) ∨ ((Ite K a).go i H ∧ ∃ N : L2.St → Hp → Prop, (∀ σ' H', N σ' H' → ∃ m', m' < m ∧ W (i + 1) m' σ' H') ∧ ∀ x H', (Ite K a).yld i H x H' → g x σ H' fun σ2 H2 => tb { D with nx := N, ct := N, bk := D.nx } σ2 H2) := by
  refine ⟨fun i m σ H => m = xs.length - i ∧ i ≤ xs.length ∧ Pv i σ H, ⟨xs.length, by simp, Nat.zero_le _, h0⟩, ?_⟩
  rintro i m σ H ⟨rfl, hi, p⟩
  have q := hl i σ H hi p
  by_cases hlt : i < xs.length
  · refine .inr ⟨⟨xs, xs[i], q, by simp [hlt]⟩, Pv (i + 1), fun σ' H' p' => ⟨xs.length - (i + 1), by omega, rfl, hlt, p'⟩, fun x H' y => ?_⟩
    obtain ⟨T, z, rfl, hT, rfl, y⟩ := y
    exact hs i z T σ H (y xs q) p hT
  · have e : i = xs.length := by omega
    subst e
    exact .inl ⟨⟨xs, q, Nat.le_refl _⟩, hd σ H p⟩
/-- an item of a list by a number that is told -/
theorem at_nat {α : Type} {xs : List α} {i : Int} {j : Nat} {v : α} (e : i = (j : Int)) (h : xs[j]? = some v) : atI xs i = some v := e ▸ atI_nat h
theorem ix_nat {n j : Nat} {i : Int} (e : i = (j : Int)) (h : j < n) : ixN n i = some j := e ▸ Evl.ixN_nat h
/-! ### rules whose reading names the written part by itself (for the bodies and suites of a try) -/
def rLenK (K : PySem.W.Frag) : List V → Hp → VK → Prop := fun xs H Q => ∃ p ys, xs = [.ref p] ∧ (SqL K H p ys ∨ SqT K H p ys) ∧ Q (.int ys.length) H
theorem call_lenK {X : Cx} {K : PySem.W.Frag} (h : X.K = K := by rfl) : CallR X (.builtin "len") (rLenK K) := by
  subst h
  exact call_len_seq
theorem op_eqDK {X : Cx} {K : PySem.W.Frag} (hu : X.A.units + 64 < cLine) (h : X.K = K := by rfl) : OpR X (compareOp .Eq) (rEqD K) := by
  subst h
  exact op_eqD hu
theorem op_neDK {X : Cx} {K : PySem.W.Frag} (hu : X.A.units + 64 < cLine) (h : X.K = K := by rfl) : OpR X (compareOp .NotEq) (rNeD K) := by
  subst h
  exact op_neD hu
theorem call_isiK' {X : Cx} {K : PySem.W.Frag} (h : X.K = K := by rfl) : CallR X (.builtin "isinstance") (rIsi K) := by
  subst h
  exact call_isi
def rListK (K : PySem.W.Frag) : List V → Hp → VK → Prop := fun xs H Q => ∃ p ys, xs = [.ref p] ∧ (SqL K H p ys ∨ SqT K H p ys) ∧ ∀ l, H l = none → Q (.ref l) (upd H l (.lst ys))
theorem call_list_ofK {X : Cx} {K : PySem.W.Frag} (h : X.K = K := by rfl) : CallR X (.type "list") (rListK K) := by
  subst h
  exact call_list_of
theorem sl_listK {X : Cx} {K : PySem.W.Frag} (h : X.K = K := by rfl) : SlR X (rSlL K) := by
  subst h
  exact sl_list
/-! ### slices -/
theorem sIx_nat {n k : Nat} (d : Nat) (h : k ≤ n) : HT.sIx n d (some (k : Int)) = k := by
  simp only [HT.sIx]
  split <;> omega
theorem cut_to {xs : List V} {k : Nat} (h : k ≤ xs.length) : cutV xs none (some (k : Int)) = xs.take k := by
  unfold cutV
  rw [sIx_nat _ h]
  simp [HT.sIx]
theorem cut_from {xs : List V} {k : Nat} (h : k ≤ xs.length) : cutV xs (some (k : Int)) none = xs.drop k := by
  unfold cutV
  rw [sIx_nat _ h]
  simp only [HT.sIx]
  rw [List.take_of_length_le (by rw [List.length_drop]; omega)]
theorem cut_mid {xs : List V} {j k : Nat} (h1 : j ≤ k) (h : k ≤ xs.length) : cutV xs (some (j : Int)) (some (k : Int)) = (xs.drop j).take (k - j) := by
  unfold cutV
  rw [sIx_nat _ h, sIx_nat _ (Nat.le_trans h1 h)]
/-! ### data -/
mutual
theorem dp_mono {K : PySem.W.Frag} {H H' : Hp} (e : Same H H') : ∀ {d : PyData} {v : V}, Dp K H v d → Dp K H' v d
  | _, _, .non => .non
  | _, _, .bl b => .bl b
  | _, _, .int i => .int i
  | _, _, .str x => .str x
  | _, _, .lst h r => .lst (e.seq h) (dpAll_mono e r)
  | _, _, .tup h r => .tup (Evl.ex_t e h) (dpAll_mono e r)
theorem dpAll_mono {K : PySem.W.Frag} {H H' : Hp} (e : Same H H') : ∀ {ds : List PyData} {vs : List V}, DpAll K H vs ds → DpAll K H' vs ds
  | _, _, .nil => .nil
  | _, _, .cons h r => .cons (dp_mono e h) (dpAll_mono e r)
end
theorem dp_ints {K : PySem.W.Frag} {H : Hp} : ∀ (ns : List Int), DpAll K H (ns.map V.int) (ns.map PyData.int)
  | [] => .nil
  | n :: ns => .cons (.int n) (dp_ints ns)
theorem canLayAll_ints : ∀ (ns : List Int), PyData.canLayAll0 (ns.map PyData.int) = true
  | [] => rfl
  | n :: ns => by simp [PyData.canLayAll0, PyData.canLay0, canLayAll_ints ns]
theorem depthAll_ints : ∀ (ns : List Int), PyData.depthAll (ns.map PyData.int) = 0
  | [] => rfl
  | n :: ns => by simp [PyData.depthAll, PyData.depth, depthAll_ints ns]
theorem shaped_ints (ns : List Int) : SeqAt.shaped (.list (ns.map PyData.int)) = true := by
  simp [SeqAt.shaped, PyData.canLay0, PyData.depth, canLayAll_ints, depthAll_ints]
theorem eqvAll_ints : ∀ (ns ms : List Int), PyData.eqvAll (ns.map PyData.int) (ms.map PyData.int) = decide (ns = ms)
  | [], [] => by simp [PyData.eqvAll]
  | [], m :: ms => by simp [PyData.eqvAll]
  | n :: ns, [] => by simp [PyData.eqvAll]
  | n :: ns, m :: ms => by
    by_cases h : n = m <;> simp [PyData.eqvAll, PyData.eqv, eqvAll_ints ns ms, h]
theorem eqv_ints (ns ms : List Int) : PyData.eqv (.list (ns.map PyData.int)) (.list (ms.map PyData.int)) = decide (ns = ms) := by
  rw [PyData.eqv]
  exact eqvAll_ints ns ms
theorem shaped_pair (as bs : List Int) : SeqAt.shaped (.tuple [.list (as.map PyData.int), .list (bs.map PyData.int)]) = true := by
  simp [SeqAt.shaped, PyData.canLay0, PyData.canLayAll0, PyData.depth, PyData.depthAll, canLayAll_ints, depthAll_ints]
theorem eqv_refl' {d : PyData} (h : SeqAt.shaped d = true) : PyData.eqv d d = true := SeqAt.eqv_refl _ (SeqAt.canLay_of_shaped h)
theorem dp_list {K : PySem.W.Frag} {H : Hp} {a : Addr} {ns : List Int} (h : SqL K H a (ns.map V.int)) : Dp K H (.ref a) (.list (ns.map PyData.int)) := .lst h (dp_ints ns)
theorem get_ints {ns : List Int} {i : Nat} {y : V} (h : (ns.map V.int)[i]? = some y) : ∃ (hi : i < ns.length), y = V.int ns[i] := by
  rw [List.getElem?_map] at h
  by_cases hi : i < ns.length
  · rw [List.getElem?_eq_getElem hi] at h
    exact ⟨hi, (Option.some.inj h).symm⟩
  · rw [List.getElem?_eq_none (Nat.le_of_not_lt hi)] at h
    cases h
theorem take_snoc {α : Type} {l : List α} {i : Nat} (hi : i < l.length) : l.take (i + 1) = l.take i ++ [l[i]] := by
  rw [List.take_add_one, List.getElem?_eq_getElem hi]
  rfl
/-! ### the script's cells -/
def cell (ns : List Int) (k : Nat) : Int := ns.getD k 0
theorem cell_in {ns : List Int} {k : Nat} (hk : k < ns.length) : cell ns k = ns[k] := by simp [cell, List.getD_eq_getElem?_getD, List.getElem?_eq_getElem hk]
theorem cell_out {ns : List Int} {k : Nat} (hk : ¬ k < ns.length) : cell ns k = 0 := by simp [cell, List.getD_eq_getElem?_getD, List.getElem?_eq_none (Nat.le_of_not_lt hk)]
end Cm

/-! ### a constant of the module that is a tuple of tuples; tuple.index -/
namespace CT2
open PySem PySem.Spec PyProof.Rows L2 Cm
def TyT (K : PySem.W.Frag) (r : Addr) : Prop := ∃ o, K.lookup r = some o ∧ o.cls = .type "tuple" ∧ o.dict = none
theorem tyT {K : PySem.W.Frag} {r : Addr} {H : Hp} (h : TyT K r) : tyV K "tuple" (.ref r) H := .inr (.inl ⟨rfl, h⟩)
def RowAt (K : PySem.W.Frag) (r : Addr) (row : List V) : Prop := (∀ H, SqT K H r row) ∧ TyT K r
def CTT (K : PySem.W.Frag) (mg : Str → Option Value) (x : Str) (rows : List (List V)) : Prop := ∃ (p : Addr) (rs : List Addr), mg x = some (.ref p) ∧ (∀ H, SqT K H p (rs.map V.ref)) ∧ Paired (RowAt K) rs rows
theorem ctt_get {α β : Type} {R : α → β → Prop} : ∀ {rs : List α} {rows : List β} {i : Nat} {row : β}, Paired R rs rows → rows[i]? = some row → ∃ r, rs[i]? = some r ∧ R r row
  | _, _, i, _, .nil, h => by simp at h
  | _, _, 0, _, .cons h r, e => by
    simp at e
    subst e
    exact ⟨_, rfl, h⟩
  | _, _, i + 1, _, .cons h r, e => by
    obtain ⟨s, h1, h2⟩ := ctt_get r (by simpa using e)
    exact ⟨s, by simpa using h1, h2⟩
theorem vals_refs : ∀ rs : List Addr, Vals (rs.map V.ref) (rs.map Value.ref)
  | [] => .nil
  | r :: rs => .cons rfl (vals_refs rs)
theorem row_mk {K : PySem.W.Frag} {p : Addr} {od : Option Addr} {its : Array Value} {n : Nat} {sl : Array (Option Value)} {xs : List V} (l : K.lookup p = some ⟨.type "tuple", od, .seq its n, sl⟩) (hv : Vals xs its.toList) (hs : xs.length ≤ sizeLine) : ∀ H, SqT K H p xs := fun H => by
  have e : its.size ≤ sizeLine := by
    rw [← Array.length_toList, ← hv.length]
    exact hs
  exact .inr ⟨_, its, n, l, rfl, rfl, e, hv⟩
theorem rowAt_mk {K : PySem.W.Frag} {p : Addr} {its : Array Value} {n : Nat} {sl : Array (Option Value)} {xs : List V} (l : K.lookup p = some ⟨.type "tuple", none, .seq its n, sl⟩) (hv : Vals xs its.toList) (hs : xs.length ≤ sizeLine) : RowAt K p xs := ⟨row_mk l hv hs, _, l, rfl, rfl⟩
theorem ctt_mk {K : PySem.W.Frag} {h : Heap} {mg : Str → Option Value} {x : Str} {p : Addr} {od : Option Addr} {its : Array Value} {n : Nat} {sl : Array (Option Value)} {rs : List Addr} {rows : List (List V)} (X : K.In h) (G : h.Ns mainGlobals mg) (a : PySem.W.nsIn K mainGlobals x = some (some (.ref p)))
    (l : K.lookup p = some ⟨.type "tuple", od, .seq its n, sl⟩) (e : its.toList = rs.map Value.ref) (hs : rs.length ≤ sizeLine) (hr : Paired (RowAt K) rs rows) : CTT K mg x rows :=
  ⟨p, rs, PySem.W.mg_of X G a, row_mk l (by rw [e]; exact vals_refs rs) (by rw [List.length_map]; exact hs), hr⟩
theorem pe_globTT {X : Cx} {x : Str} {rows : List (List V)} {pos : Pos} (hg : Gl X x) (h : CTT X.K X.mg x rows) (hd : (x == ("__debug__" : Str)) = false := by decide) :
    PE X (.Name x pos) (fun _ H Q => ∀ (p : Addr) (rs : List Addr), (∀ H', SqT X.K H' p (rs.map V.ref)) → (∀ (i : Nat) (row : List V), rows[i]? = some row → ∃ r : Addr, (rs.map V.ref)[i]? = some (V.ref r) ∧ (∀ H', SqT X.K H' r row) ∧ TyT X.K r) → Q (.ref p) H) := by
  obtain ⟨p, rs, hm, hs, hr⟩ := h
  refine ⟨fun pins s σ H Q I h => (pe_glob hg hm (v := .ref p) rfl hd).run pins s σ H Q I (h p rs hs fun i row e => ?_)⟩
  obtain ⟨r, h1, h2⟩ := ctt_get hr e
  exact ⟨r, by rw [List.getElem?_map, h1]; rfl, h2⟩
def rIndexT (K : PySem.W.Frag) : V → List V → Hp → VK → Prop := fun x xs H Q => ∃ (a : Addr) (ys : List V) (y : V) (j : Nat) (z : V), x = V.ref a ∧ xs = [y] ∧ SqT K H a ys ∧ flatV y = true ∧ ys.all flatV = true ∧ ys[j]? = some z ∧ eqV z y = true ∧
  (∀ (m : Nat) (z' : V), m < j → ys[m]? = some z' → eqV z' y = false) ∧ Q (.int (j : Nat)) H
theorem mt_indexT {X : Cx} : MtR X "tuple.index" (rIndexT X.K) := by
  intro pins s σ H x xs v us Q I rx rxs h
  obtain ⟨a, ys, y, j, z, rfl, rfl, hs, fy, fys, hz, hzj, hno, q⟩ := h
  cases rx
  cases rxs with
  | cons ry rt =>
    rename_i uy ut
    cases rt
    obtain ⟨its, rv, pl, hlen⟩ := I.tuple hs
    obtain ⟨⟨cls, dd, data, sl⟩, ho, hc, n, hd⟩ := pl
    simp only at hc hd
    subst hc hd
    obtain ⟨u, hu, ru⟩ := rv.get hz
    obtain ⟨hjl, hje⟩ := List.getElem?_eq_some_iff.mp hu
    have hvl := rv.length
    have hj : j < its.toArray.size := by simpa using hjl
    refine call_meets PySem.F.slot_tuple_index ⟨_, ho, rfl⟩ PySem.F.entry_tuple_index (PySem.F.args_tuple_index_2 _ _)
      (TI.tuple_indexAt a its.toArray n dd sl uy (eqU y) j hj ?_ ?_) ⟨ho, fun u' hu' => mem_eqAt ry fy rv fys u' (by simpa using hu'), ?_⟩
    · have e1 : its.toArray[j] = u := by simpa using hje
      rw [e1, eqU_of ru (flat_at fys hz)]
      exact hzj
    · intro m hm hmj
      have hml : m < its.length := by simpa using hm
      have hmy : m < ys.length := by omega
      have hy' : ys[m]? = some ys[m] := List.getElem?_eq_getElem hmy
      obtain ⟨u2, hu2, ru2⟩ := rv.get hy'
      obtain ⟨_, hme⟩ := List.getElem?_eq_some_iff.mp hu2
      have e1 : its.toArray[m] = u2 := by simpa using hme
      rw [e1, eqU_of ru2 (flat_at fys hy')]
      exact hno m _ hmj hy'
    · exact ⟨.int (j : Nat), H, I.tok _, ⟨_, rfl⟩, q⟩
end CT2

namespace My
open PySem PySem.Spec PyProof.Rows L2 Cm 
def top (i : Nat) : Stmt := PySem.Challenge.pw_scanpages_k25_field.main.body.getD i (.Pass ⟨0, 0, 0, 0⟩)
abbrev s_is_symbol : Stmt := (top 6)
abbrev N_is_symbol : List Str := ["integer"]
theorem sc_is_symbol : FnScope N_is_symbol ["integer"] (defScope s_is_symbol) := ⟨rfl, rfl, rfl, by decide +kernel, rfl, by decide +kernel, by decide +kernel⟩
abbrev s_add : Stmt := (top 7)
abbrev N_add : List Str := ["a", "b"]
theorem sc_add : FnScope N_add ["a", "b"] (defScope s_add) := ⟨rfl, rfl, rfl, by decide +kernel, rfl, by decide +kernel, by decide +kernel⟩
abbrev s_multiply : Stmt := (top 8)
abbrev N_multiply : List Str := ["a", "b"]
theorem sc_multiply : FnScope N_multiply ["a", "b"] (defScope s_multiply) := ⟨rfl, rfl, rfl, by decide +kernel, rfl, by decide +kernel, by decide +kernel⟩
abbrev s_inverse : Stmt := (top 9)
abbrev N_inverse : List Str := ["a"]
theorem sc_inverse : FnScope N_inverse ["a"] (defScope s_inverse) := ⟨rfl, rfl, rfl, by decide +kernel, rfl, by decide +kernel, by decide +kernel⟩
abbrev s__check_symbol : Stmt := (top 10)
abbrev N__check_symbol : List Str := ["a"]
theorem sc__check_symbol : FnScope N__check_symbol ["a"] (defScope s__check_symbol) := ⟨rfl, rfl, rfl, by decide +kernel, rfl, by decide +kernel, by decide +kernel⟩
abbrev s__law_cell : Stmt := (top 12)
abbrev N__law_cell : List Str := ["script", "k"]
theorem sc__law_cell : FnScope N__law_cell ["script", "k"] (defScope s__law_cell) := ⟨rfl, rfl, rfl, by decide +kernel, rfl, by decide +kernel, by decide +kernel⟩
abbrev s__law_is_int : Stmt := (top 13)
abbrev N__law_is_int : List Str := ["value"]
theorem sc__law_is_int : FnScope N__law_is_int ["value"] (defScope s__law_is_int) := ⟨rfl, rfl, rfl, by decide +kernel, rfl, by decide +kernel, by decide +kernel⟩
abbrev s__law_times : Stmt := (top 14)
abbrev N__law_times : List Str := ["a", "b", "total", "factor", "k"]
theorem sc__law_times : FnScope N__law_times ["a", "b"] (defScope s__law_times) := ⟨rfl, rfl, rfl, by decide +kernel, rfl, by decide +kernel, by decide +kernel⟩
abbrev s__law_value_at : Stmt := (top 15)
abbrev N__law_value_at : List Str := ["poly", "point", "value", "symbol"]
theorem sc__law_value_at : FnScope N__law_value_at ["poly", "point"] (defScope s__law_value_at) := ⟨rfl, rfl, rfl, by decide +kernel, rfl, by decide +kernel, by decide +kernel⟩
abbrev s__law_reduced : Stmt := (top 16)
abbrev N__law_reduced : List Str := ["poly", "size", "k"]
theorem sc__law_reduced : FnScope N__law_reduced ["poly"] (defScope s__law_reduced) := ⟨rfl, rfl, rfl, by decide +kernel, rfl, by decide +kernel, by decide +kernel⟩
abbrev s__law_tried : Stmt := (top 17)
abbrev N__law_tried : List Str := ["question", "a", "b", "e"]
theorem sc__law_tried : FnScope N__law_tried ["question", "a", "b"] (defScope s__law_tried) := ⟨rfl, rfl, rfl, by decide +kernel, rfl, by decide +kernel, by decide +kernel⟩
abbrev s_law : Stmt := (top 18)
abbrev N_law : List Str := ["script", "a", "b", "c", "odd", "due", "k", "bad"]
theorem sc_law : FnScope N_law ["script"] (defScope s_law) := ⟨rfl, rfl, rfl, by decide +kernel, rfl, by decide +kernel, by decide +kernel⟩
structure Txt (K : PySem.W.Frag) (mg : Str → Option Value) (C_ArchiveError C_InvalidSymbol : Addr) : Prop where
  d_is_symbol : Dn K mg "is_symbol" s_is_symbol ["integer"]
  d_add : Dn K mg "add" s_add ["a", "b"]
  d_multiply : Dn K mg "multiply" s_multiply ["a", "b"]
  d_inverse : Dn K mg "inverse" s_inverse ["a"]
  d__check_symbol : Dn K mg "_check_symbol" s__check_symbol ["a"]
  d__law_cell : Dn K mg "_law_cell" s__law_cell ["script", "k"]
  d__law_is_int : Dn K mg "_law_is_int" s__law_is_int ["value"]
  d__law_times : Dn K mg "_law_times" s__law_times ["a", "b"]
  d__law_tried : Dn K mg "_law_tried" s__law_tried ["question", "a", "b"]
  d_law : Dn K mg "law" s_law ["script"]
  c_SYMBOLS : CV mg "SYMBOLS" (.int 16)
  c_PRODUCTS : CT2.CTT K mg "PRODUCTS" [[V.int 0, V.int 0, V.int 0, V.int 0, V.int 0, V.int 0, V.int 0, V.int 0, V.int 0, V.int 0, V.int 0, V.int 0, V.int 0, V.int 0, V.int 0, V.int 0], [V.int 0, V.int 1, V.int 2, V.int 3, V.int 4, V.int 5, V.int 6, V.int 7, V.int 8, V.int 9, V.int 10, V.int 11, V.int 12, V.int 13, V.int 14, V.int 15], [V.int 0, V.int 2, V.int 4, V.int 6, V.int 8, V.int 10, V.int 12, V.int 14, V.int 3, V.int 1, V.int 7, V.int 5, V.int 11, V.int 9, V.int 15, V.int 13], [V.int 0, V.int 3, V.int 6, V.int 5, V.int 12, V.int 15, V.int 10, V.int 9, V.int 11, V.int 8, V.int 13, V.int 14, V.int 7, V.int 4, V.int 1, V.int 2], [V.int 0, V.int 4, V.int 8, V.int 12, V.int 3, V.int 7, V.int 11, V.int 15, V.int 6, V.int 2, V.int 14, V.int 10, V.int 5, V.int 1, V.int 13, V.int 9], [V.int 0, V.int 5, V.int 10, V.int 15, V.int 7, V.int 2, V.int 13, V.int 8, V.int 14, V.int 11, V.int 4, V.int 1, V.int 9, V.int 12, V.int 3, V.int 6], [V.int 0, V.int 6, V.int 12, V.int 10, V.int 11, V.int 13, V.int 7, V.int 1, V.int 5, V.int 3, V.int 9, V.int 15, V.int 14, V.int 8, V.int 2, V.int 4], [V.int 0, V.int 7, V.int 14, V.int 9, V.int 15, V.int 8, V.int 1, V.int 6, V.int 13, V.int 10, V.int 3, V.int 4, V.int 2, V.int 5, V.int 12, V.int 11], [V.int 0, V.int 8, V.int 3, V.int 11, V.int 6, V.int 14, V.int 5, V.int 13, V.int 12, V.int 4, V.int 15, V.int 7, V.int 10, V.int 2, V.int 9, V.int 1], [V.int 0, V.int 9, V.int 1, V.int 8, V.int 2, V.int 11, V.int 3, V.int 10, V.int 4, V.int 13, V.int 5, V.int 12, V.int 6, V.int 15, V.int 7, V.int 14], [V.int 0, V.int 10, V.int 7, V.int 13, V.int 14, V.int 4, V.int 9, V.int 3, V.int 15, V.int 5, V.int 8, V.int 2, V.int 1, V.int 11, V.int 6, V.int 12], [V.int 0, V.int 11, V.int 5, V.int 14, V.int 10, V.int 1, V.int 15, V.int 4, V.int 7, V.int 12, V.int 2, V.int 9, V.int 13, V.int 6, V.int 8, V.int 3], [V.int 0, V.int 12, V.int 11, V.int 7, V.int 5, V.int 9, V.int 14, V.int 2, V.int 10, V.int 6, V.int 1, V.int 13, V.int 15, V.int 3, V.int 4, V.int 8], [V.int 0, V.int 13, V.int 9, V.int 4, V.int 1, V.int 12, V.int 8, V.int 5, V.int 2, V.int 15, V.int 11, V.int 6, V.int 3, V.int 14, V.int 10, V.int 7], [V.int 0, V.int 14, V.int 15, V.int 1, V.int 13, V.int 3, V.int 2, V.int 12, V.int 9, V.int 7, V.int 6, V.int 8, V.int 4, V.int 10, V.int 11, V.int 5], [V.int 0, V.int 15, V.int 13, V.int 2, V.int 9, V.int 6, V.int 4, V.int 11, V.int 1, V.int 14, V.int 12, V.int 3, V.int 8, V.int 7, V.int 5, V.int 10]]
  n_len : mg "len" = none
  n_int : mg "int" = none
  n_isinstance : mg "isinstance" = none
  n_bool : mg "bool" = none
  n_range : mg "range" = none
  x_ArchiveError : XCl K mg "ArchiveError" C_ArchiveError
  x_InvalidSymbol : XCl K mg "InvalidSymbol" C_InvalidSymbol
  s_InvalidSymbol_ArchiveError : PySem.W.subIn K (.ref C_InvalidSymbol) (.ref C_ArchiveError) = some true
  q_InvalidSymbol_InvalidSymbol : PySem.W.kitOne K (.ref C_InvalidSymbol) (.ref C_InvalidSymbol) = some true
section
variable {P : Program} {w : World} {K : PySem.W.Frag} {mg : Str → Option Value} {base : Heap} {C_ArchiveError C_InvalidSymbol : Addr}
/-- the cell's promise -/
def spCell (K : PySem.W.Frag) : Sp := fun vs H Q _ => ∃ (l : Addr) (ns : List Int) (k : Nat), vs = [.ref l, .int (k : Int)] ∧ SqL K H l (ns.map V.int) ∧ Q (.int (cell ns k)) H
theorem ok__law_cell (T : Txt K mg C_ArchiveError C_InvalidSymbol) : Ok P w K mg base CX0 1 "_law_cell" ["script", "k"] (spCell K) := by
  refine ok_of T.d__law_cell fun f fd F => F.ok sc__law_cell (fun vs H Q E h => ?_) (fun cdv A outer s H vs Q E hr h => ?_)
  · obtain ⟨l, ns, k, rfl, _⟩ := h
    rfl
  · obtain ⟨l, ns, k, rfl, hs, q⟩ := h
    refine ⟨_,       (pss_cons (ps_if (pt_cmpR op_lt (pv 1) (pe_callB call_len_seq (by rfl) T.n_len PySem.boot_len (pa_cons (pv 0) pa_nil)) (nomark _))
        (pss_one (ps_ret (pe_callTy call_int1 (by rfl) T.n_int (by decide +kernel) (pa_cons (pe_ix ix_list (pv 0) (pv 1) (fun _ _ => rfl)) pa_nil)))) pss_nil)
      (pss_one (ps_ret pe_int))), ?_⟩
    refine ⟨_, rfl, _, rfl, l, _, rfl, .inl hs, _, _, rfl, rfl, _, rfl, itd (fun h => ?_) (fun h => ?_)⟩
    · have hk : k < ns.length := by
        rw [List.length_map] at h
        omega
      refine ⟨_, rfl, _, rfl, l, _, _, .int ns[k], rfl, rfl, hs, atI_nat (by rw [List.getElem?_map, List.getElem?_eq_getElem hk]; rfl), .inl ⟨_, rfl, ?_⟩⟩
      rw [Cm.cell_in hk] at q
      exact q
    · have hk : ¬ k < ns.length := by
        rw [List.length_map] at h
        omega
      rw [Cm.cell_out hk] at q
      exact q

def spIsInt : Sp := fun vs H Q _ => ∃ i : Int, vs = [.int i] ∧ Q (.bl true) H
theorem ok__law_is_int (T : Txt K mg C_ArchiveError C_InvalidSymbol) : Ok P w K mg base CX0 1 "_law_is_int" ["value"] spIsInt := by
  refine ok_of T.d__law_is_int fun f fd F => F.ok sc__law_is_int (fun vs H Q E h => ?_) (fun cdv A outer s H vs Q E hr h => ?_)
  · obtain ⟨i, rfl, _⟩ := h
    rfl
  · obtain ⟨i, rfl, q⟩ := h
    refine ⟨_,       (pss_one (ps_ret (pe_and (pe_callB call_isi (by rfl) T.n_isinstance (by decide +kernel) (pa_cons (pv 0) (pa_cons (pe_bltn (v := .ty "int") (by rfl) T.n_int (by decide +kernel) rfl) pa_nil))) (pe_one (pe_not (pe_callB call_isi (by rfl) T.n_isinstance (by decide +kernel) (pa_cons (pv 0) (pa_cons (pe_bltn (v := .ty "bool") (by rfl) T.n_bool (by decide +kernel) rfl) pa_nil)))))))), ?_⟩
    refine ⟨_, rfl, _, _, _, _, true, rfl, .ty _, .base (.int i), kit_ty (by decide +kernel), true, rfl, iteT ?_⟩
    exact ⟨_, rfl, _, _, _, _, false, rfl, .ty _, .base (.int i), kit_ty (by decide +kernel), false, rfl, q⟩

/-! symbols -/
def powL : List Int := [1, 2, 4, 8, 3, 6, 12, 11, 5, 10, 7, 14, 15, 13, 9]
def expL : List Int := [0, 0, 1, 4, 2, 8, 5, 10, 3, 14, 9, 7, 6, 13, 11, 12]
def powV : List V := [V.int 1, V.int 2, V.int 4, V.int 8, V.int 3, V.int 6, V.int 12, V.int 11, V.int 5, V.int 10, V.int 7, V.int 14, V.int 15, V.int 13, V.int 9]
def expV : List V := [V.non, V.int 0, V.int 1, V.int 4, V.int 2, V.int 8, V.int 5, V.int 10, V.int 3, V.int 14, V.int 9, V.int 7, V.int 6, V.int 13, V.int 11, V.int 12]
def sym (a : Int) : Prop := 0 ≤ a ∧ a < 16
def addI (a b : Int) : Int := Builtin.bitXor a b
def mulI (a b : Int) : Int := if a = 0 ∨ b = 0 then 0 else powL.getD ((expL.getD a.toNat 0 + expL.getD b.toNat 0) % 15).toNat 0
def invI (a : Int) : Int := powL.getD ((15 - expL.getD a.toNat 0) % 15).toNat 0
theorem sym_all {p : Int → Prop} (h : ∀ i : Fin 16, p ((i.val : Nat) : Int)) {a : Int} (ha : sym a) : p a := by
  have e : ((a.toNat : Nat) : Int) = a := Int.toNat_of_nonneg ha.1
  have hlt : a.toNat < 16 := by have := ha.2; omega
  have z := h ⟨a.toNat, hlt⟩
  rw [e] at z
  exact z
theorem add_sym {a b : Int} (ha : sym a) (hb : sym b) : sym (addI a b) :=
  sym_all (p := fun a => sym (addI a b)) (fun i => sym_all (p := fun b => sym (addI i.val b)) (fun j => by revert i j; unfold sym addI; decide +kernel) hb) ha
theorem mul_sym {a b : Int} (ha : sym a) (hb : sym b) : sym (mulI a b) :=
  sym_all (p := fun a => sym (mulI a b)) (fun i => sym_all (p := fun b => sym (mulI i.val b)) (fun j => by revert i j; unfold sym mulI; decide +kernel) hb) ha
theorem exp_at {a : Int} (ha : sym a) (h0 : a ≠ 0) : atI expV a = some (.int (expL.getD a.toNat 0)) :=
  sym_all (p := fun a => a ≠ 0 → atI expV a = some (.int (expL.getD a.toNat 0))) (by decide +kernel) ha h0
theorem exp_in {a : Int} (ha : sym a) : 0 ≤ expL.getD a.toNat 0 ∧ expL.getD a.toNat 0 < 15 :=
  sym_all (p := fun a => 0 ≤ expL.getD a.toNat 0 ∧ expL.getD a.toNat 0 < 15) (by decide +kernel) ha
theorem pow_at {k : Int} (h0 : 0 ≤ k) (h1 : k < 15) : atI powV k = some (.int (powL.getD k.toNat 0)) :=
  sym_all (p := fun k => k < 15 → atI powV k = some (.int (powL.getD k.toNat 0))) (by decide +kernel) (a := k) ⟨h0, by omega⟩ h1
theorem mul_comm' {a b : Int} (ha : sym a) (hb : sym b) : mulI b a = mulI a b :=
  sym_all (p := fun a => mulI b a = mulI a b) (fun i => sym_all (p := fun b => mulI b i.val = mulI i.val b) (fun j => by revert i j; unfold mulI; decide +kernel) hb) ha
theorem mul_assoc' {a b c : Int} (ha : sym a) (hb : sym b) (hc : sym c) : mulI a (mulI b c) = mulI (mulI a b) c :=
  sym_all (p := fun a => mulI a (mulI b c) = mulI (mulI a b) c) (fun i => sym_all (p := fun b => mulI i.val (mulI b c) = mulI (mulI i.val b) c) (fun j => sym_all (p := fun c => mulI i.val (mulI j.val c) = mulI (mulI i.val j.val) c) (fun k => by revert i j k; unfold mulI; decide +kernel) hc) hb) ha
theorem mul_add' {a b c : Int} (ha : sym a) (hb : sym b) (hc : sym c) : mulI a (addI b c) = addI (mulI a b) (mulI a c) :=
  sym_all (p := fun a => mulI a (addI b c) = addI (mulI a b) (mulI a c)) (fun i => sym_all (p := fun b => mulI i.val (addI b c) = addI (mulI i.val b) (mulI i.val c)) (fun j => sym_all (p := fun c => mulI i.val (addI j.val c) = addI (mulI i.val j.val) (mulI i.val c)) (fun k => by revert i j k; unfold mulI addI; decide +kernel) hc) hb) ha

def spIsSym : Sp := fun vs H Q _ => ∃ n : Int, vs = [.int n] ∧ Q (.bl (decide (0 ≤ n ∧ n < 16))) H
theorem ok_is_symbol (T : Txt K mg C_ArchiveError C_InvalidSymbol) : Ok P w K mg base CX0 1 "is_symbol" ["integer"] spIsSym := by
  refine ok_of T.d_is_symbol fun f fd F => F.ok sc_is_symbol (fun vs H Q E h => ?_) (fun cdv A outer s H vs Q E hr h => ?_)
  · obtain ⟨n, rfl, _⟩ := h
    rfl
  · obtain ⟨n, rfl, q⟩ := h
    have nd := sc_is_symbol.nd
    refine ⟨_,       (pss_one (ps_ret (pe_chain op_le op_lt pe_int (pv 0) (pe_globC rfl T.c_SYMBOLS)))), ?_⟩
    refine ⟨_, rfl, _, _, rfl, rfl, _, rfl, itd (fun h0 => ?_) (fun h0 => ?_)⟩
    · refine ⟨_, _, rfl, rfl, ?_⟩
      have e : decide (0 ≤ n ∧ n < 16) = decide (n < 16) := by simp [h0]
      rw [e] at q
      exact q
    · have e : decide (0 ≤ n ∧ n < 16) = false := by simp [h0]
      rw [e] at q
      exact q
def spCheck (C : Addr) : Sp := fun vs H Q E => ∃ n : Int, vs = [.int n] ∧ (¬ sym n → E (.ref C) none H) ∧ (sym n → Q .non H)
theorem ok__check_symbol (T : Txt K mg C_ArchiveError C_InvalidSymbol) : Ok P w K mg base (CXN P w) 2 "_check_symbol" ["a"] (spCheck C_InvalidSymbol) := by
  have G_is_symbol := ok_is_symbol (P := P) (w := w) (base := base) T
  refine ok_of T.d__check_symbol fun f fd F => okN F sc__check_symbol (fun vs H Q E h => ?_) (fun cdv A outer s H vs Q E hr h => ?_)
  · obtain ⟨n, rfl, _⟩ := h
    rfl
  · obtain ⟨n, rfl, kE, kQ⟩ := h
    have nd := sc__check_symbol.nd
    refine ⟨_,       (pss_one (ps_if (pt_not (pt_val (pe_callO G_is_symbol (hr.mono (by decide)) pass0 (pa_cons (pv 0) pa_nil))))
        (pss_one (L2N.ps_raise rfl (L2N.takes_of rfl rfl rfl rfl) (L2N.pmk_own PySem.F.excBase_ValueError T.x_InvalidSymbol.x T.x_InvalidSymbol.g T.x_InvalidSymbol.k (raises_own T.x_InvalidSymbol.b T.x_InvalidSymbol.t) rfl))) pss_nil)), ?_⟩
    refine ⟨_, rfl, n, rfl, _, rfl, itb (fun h => ?_) (fun h => ?_)⟩
    · exact kE fun z => by
        have := z.1
        have := z.2
        simp at h
        omega
    · simp at h
      exact kQ ⟨h.1, h.2⟩

def sp2 (C : Addr) (op : Int → Int → Int) : Sp := fun vs H Q E => ∃ a b : Int, vs = [.int a, .int b] ∧ (¬ (sym a ∧ sym b) → E (.ref C) none H) ∧ (sym a → sym b → Q (.int (op a b)) H)
abbrev rowV : List (List V) := [[V.int 0, V.int 0, V.int 0, V.int 0, V.int 0, V.int 0, V.int 0, V.int 0, V.int 0, V.int 0, V.int 0, V.int 0, V.int 0, V.int 0, V.int 0, V.int 0], [V.int 0, V.int 1, V.int 2, V.int 3, V.int 4, V.int 5, V.int 6, V.int 7, V.int 8, V.int 9, V.int 10, V.int 11, V.int 12, V.int 13, V.int 14, V.int 15], [V.int 0, V.int 2, V.int 4, V.int 6, V.int 8, V.int 10, V.int 12, V.int 14, V.int 3, V.int 1, V.int 7, V.int 5, V.int 11, V.int 9, V.int 15, V.int 13], [V.int 0, V.int 3, V.int 6, V.int 5, V.int 12, V.int 15, V.int 10, V.int 9, V.int 11, V.int 8, V.int 13, V.int 14, V.int 7, V.int 4, V.int 1, V.int 2], [V.int 0, V.int 4, V.int 8, V.int 12, V.int 3, V.int 7, V.int 11, V.int 15, V.int 6, V.int 2, V.int 14, V.int 10, V.int 5, V.int 1, V.int 13, V.int 9], [V.int 0, V.int 5, V.int 10, V.int 15, V.int 7, V.int 2, V.int 13, V.int 8, V.int 14, V.int 11, V.int 4, V.int 1, V.int 9, V.int 12, V.int 3, V.int 6], [V.int 0, V.int 6, V.int 12, V.int 10, V.int 11, V.int 13, V.int 7, V.int 1, V.int 5, V.int 3, V.int 9, V.int 15, V.int 14, V.int 8, V.int 2, V.int 4], [V.int 0, V.int 7, V.int 14, V.int 9, V.int 15, V.int 8, V.int 1, V.int 6, V.int 13, V.int 10, V.int 3, V.int 4, V.int 2, V.int 5, V.int 12, V.int 11], [V.int 0, V.int 8, V.int 3, V.int 11, V.int 6, V.int 14, V.int 5, V.int 13, V.int 12, V.int 4, V.int 15, V.int 7, V.int 10, V.int 2, V.int 9, V.int 1], [V.int 0, V.int 9, V.int 1, V.int 8, V.int 2, V.int 11, V.int 3, V.int 10, V.int 4, V.int 13, V.int 5, V.int 12, V.int 6, V.int 15, V.int 7, V.int 14], [V.int 0, V.int 10, V.int 7, V.int 13, V.int 14, V.int 4, V.int 9, V.int 3, V.int 15, V.int 5, V.int 8, V.int 2, V.int 1, V.int 11, V.int 6, V.int 12], [V.int 0, V.int 11, V.int 5, V.int 14, V.int 10, V.int 1, V.int 15, V.int 4, V.int 7, V.int 12, V.int 2, V.int 9, V.int 13, V.int 6, V.int 8, V.int 3], [V.int 0, V.int 12, V.int 11, V.int 7, V.int 5, V.int 9, V.int 14, V.int 2, V.int 10, V.int 6, V.int 1, V.int 13, V.int 15, V.int 3, V.int 4, V.int 8], [V.int 0, V.int 13, V.int 9, V.int 4, V.int 1, V.int 12, V.int 8, V.int 5, V.int 2, V.int 15, V.int 11, V.int 6, V.int 3, V.int 14, V.int 10, V.int 7], [V.int 0, V.int 14, V.int 15, V.int 1, V.int 13, V.int 3, V.int 2, V.int 12, V.int 9, V.int 7, V.int 6, V.int 8, V.int 4, V.int 10, V.int 11, V.int 5], [V.int 0, V.int 15, V.int 13, V.int 2, V.int 9, V.int 6, V.int 4, V.int 11, V.int 1, V.int 14, V.int 12, V.int 3, V.int 8, V.int 7, V.int 5, V.int 10]]
def rowOf (a : Int) : List V := (List.range 16).map fun b => V.int (mulI a (b : Nat))
theorem rowV_at {a : Int} (ha : sym a) : rowV[a.toNat]? = some (rowOf a) := sym_all (p := fun a => rowV[a.toNat]? = some (rowOf a)) (by decide +kernel) ha
theorem rowOf_at {a b : Int} (ha : sym a) (hb : sym b) : atI (rowOf a) b = some (.int (mulI a b)) :=
  sym_all (p := fun b => atI (rowOf a) b = some (.int (mulI a b))) (fun j => by
    refine atI_nat ?_
    rw [rowOf, List.getElem?_map, List.getElem?_range j.isLt]
    rfl) hb
theorem row_at {a b : Int} (ha : sym a) (hb : sym b) : ∃ row, rowV[a.toNat]? = some row ∧ atI row b = some (.int (mulI a b)) := ⟨_, rowV_at ha, rowOf_at ha hb⟩
theorem ok_multiply (T : Txt K mg C_ArchiveError C_InvalidSymbol) : Ok P w K mg base (CXN P w) 3 "multiply" ["a", "b"] (sp2 C_InvalidSymbol mulI) := by
  have G__check_symbol := ok__check_symbol (P := P) (w := w) (base := base) T
  refine ok_of T.d_multiply fun f fd F => okN F sc_multiply (fun vs H Q E h => ?_) (fun cdv A outer s H vs Q E hr h => ?_)
  · obtain ⟨a, b, rfl, _⟩ := h
    rfl
  · obtain ⟨a, b, rfl, kE, kQ⟩ := h
    have nd := sc_multiply.nd
    refine ⟨_,       (pss_cons (ps_expr (pe_callO G__check_symbol (hr.mono (by decide)) (passX (L2N.takes_of rfl rfl rfl rfl) (fun _ _ _ z => z)) (pa_cons (pv 0) pa_nil)))
      (pss_cons (ps_expr (pe_callO G__check_symbol (hr.mono (by decide)) (passX (L2N.takes_of rfl rfl rfl rfl) (fun _ _ _ z => z)) (pa_cons (pv 1) pa_nil)))
      (pss_one (ps_ret (pe_ix ix_tup (pe_ix ix_tup (CT2.pe_globTT rfl T.c_PRODUCTS) (pv 0) (fun _ _ => rfl)) (pv 1) (fun _ _ => rfl)))))), ?_⟩
    refine ⟨_, rfl, a, rfl, fun hn => kE fun z => hn z.1, fun ha => ?_⟩
    refine ⟨_, rfl, b, rfl, fun hn => kE fun z => hn z.2, fun hb => ?_⟩
    intro p rs hp hr
    obtain ⟨row, h1, h2⟩ := row_at ha hb
    obtain ⟨r, h3, h4, _⟩ := hr a.toNat row h1
    refine ⟨_, rfl, p, _, a, .ref r, rfl, rfl, hp _, at_nat (j := a.toNat) (by have := ha.1; omega) h3, _, rfl, r, _, b, _, rfl, rfl, h4 _, h2, kQ ha hb⟩
theorem inv_nat {a : Int} (ha : sym a) : ((invI a).toNat : Int) = invI a := sym_all (p := fun a => ((invI a).toNat : Int) = invI a) (by decide +kernel) ha
theorem inv_at {a : Int} (ha : sym a) (h0 : a ≠ 0) : (rowOf a)[(invI a).toNat]? = some (V.int 1) ∧ ∀ (m : Nat) (z : V), m < (invI a).toNat → (rowOf a)[m]? = some z → eqV z (V.int 1) = false := by
  refine sym_all (p := fun a => a ≠ 0 → (rowOf a)[(invI a).toNat]? = some (V.int 1) ∧ ∀ (m : Nat) (z : V), m < (invI a).toNat → (rowOf a)[m]? = some z → eqV z (V.int 1) = false) (fun i => ?_) ha h0
  intro hi
  have h1 : ∀ i : Fin 16, ((i.val : Nat) : Int) ≠ 0 → (rowOf (i.val : Nat))[(invI (i.val : Nat)).toNat]? = some (V.int 1) := by decide +kernel
  have h2 : ∀ i : Fin 16, ((i.val : Nat) : Int) ≠ 0 → ∀ m : Fin 16, m.val < (invI (i.val : Nat)).toNat → mulI (i.val : Nat) (m.val : Nat) ≠ 1 := by decide +kernel
  refine ⟨h1 i hi, fun m z hm hz => ?_⟩
  have hm16 : m < 16 := by
    have := (List.getElem?_eq_some_iff.mp hz).1
    simp [rowOf] at this
    exact this
  have h3 := h2 i hi ⟨m, hm16⟩ hm
  rw [rowOf, List.getElem?_map, List.getElem?_range hm16] at hz
  cases hz
  show (mulI (i.val : Nat) (m : Nat) == 1) = false
  exact beq_eq_false_iff_ne.mpr h3
def spInv (C : Addr) : Sp := fun vs H Q E => ∃ a : Int, vs = [.int a] ∧ (¬ (sym a ∧ a ≠ 0) → E (.ref C) none H) ∧ (sym a → a ≠ 0 → Q (.int (invI a)) H)
theorem ok_inverse (T : Txt K mg C_ArchiveError C_InvalidSymbol) : Ok P w K mg base (CXN P w) 3 "inverse" ["a"] (spInv C_InvalidSymbol) := by
  have G__check_symbol := ok__check_symbol (P := P) (w := w) (base := base) T
  refine ok_of T.d_inverse fun f fd F => okN F sc_inverse (fun vs H Q E h => ?_) (fun cdv A outer s H vs Q E hr h => ?_)
  · obtain ⟨a, rfl, _⟩ := h
    rfl
  · obtain ⟨a, rfl, kE, kQ⟩ := h
    have nd := sc_inverse.nd
    refine ⟨_,       (pss_cons (ps_expr (pe_callO G__check_symbol (hr.mono (by decide)) (passX (L2N.takes_of rfl rfl rfl rfl) (fun _ _ _ z => z)) (pa_cons (pv 0) pa_nil)))
      (pss_cons (ps_if (pt_cmpR op_eq (pv 0) pe_int (nomark _))
        (pss_one (L2N.ps_raise rfl (L2N.takes_of rfl rfl rfl rfl) (L2N.pmk_own PySem.F.excBase_ValueError T.x_InvalidSymbol.x T.x_InvalidSymbol.g T.x_InvalidSymbol.k (raises_own T.x_InvalidSymbol.b T.x_InvalidSymbol.t) rfl))) pss_nil)
      (pss_one (ps_ret (pe_bm PySem.F.plainAttrs_tuple PySem.F.slot_tuple_index PySem.F.type_tuple_index CT2.mt_indexT (pe_ix ix_tup (CT2.pe_globTT rfl T.c_PRODUCTS) (pv 0) (fun _ _ => rfl)) (pa_cons pe_int pa_nil)))))), ?_⟩
    refine ⟨_, rfl, a, rfl, fun hn => kE fun z => hn z.1, fun ha => ?_⟩
    have e0 : ∀ z : Int, decide (V.int z = V.int 0) = decide (z = 0) := fun z => by simp
    refine ⟨_, rfl, rfl, _, rfl, ?_⟩
    rw [e0]
    refine itd (fun h0 => kE fun z => z.2 h0) (fun h0 => ?_)
    intro p rs hp hr
    obtain ⟨r, h3, h4, h5⟩ := hr a.toNat (rowOf a) (rowV_at ha)
    refine ⟨_, rfl, p, _, a, .ref r, rfl, rfl, hp _, at_nat (j := a.toNat) (by have := ha.1; omega) h3, CT2.tyT h5, r, rowOf a, V.int 1, (invI a).toNat, V.int 1, rfl, rfl, h4 _, rfl, ?_, ?_, rfl, ?_, ?_⟩
    · rw [rowOf, List.all_map]
      exact List.all_eq_true.mpr fun _ _ => rfl
    · exact (inv_at ha h0).1
    · exact (inv_at ha h0).2
    · have e : ((invI a).toNat : Int) = invI a := (inv_nat ha)
      rw [e]
      exact kQ ha h0

theorem ok_add (T : Txt K mg C_ArchiveError C_InvalidSymbol) : Ok P w K mg base (CXN P w) 3 "add" ["a", "b"] (sp2 C_InvalidSymbol addI) := by
  have G__check_symbol := ok__check_symbol (P := P) (w := w) (base := base) T
  refine ok_of T.d_add fun f fd F => okN F sc_add (fun vs H Q E h => ?_) (fun cdv A outer s H vs Q E hr h => ?_)
  · obtain ⟨a, b, rfl, _⟩ := h
    rfl
  · obtain ⟨a, b, rfl, kE, kQ⟩ := h
    have nd := sc_add.nd
    refine ⟨_,       (pss_cons (ps_expr (pe_callO G__check_symbol (hr.mono (by decide)) (passX (L2N.takes_of rfl rfl rfl rfl) (fun _ _ _ z => z)) (pa_cons (pv 0) pa_nil)))
      (pss_cons (ps_expr (pe_callO G__check_symbol (hr.mono (by decide)) (passX (L2N.takes_of rfl rfl rfl rfl) (fun _ _ _ z => z)) (pa_cons (pv 1) pa_nil)))
      (pss_one (ps_ret (pe_op op_xor (pv 0) (pv 1)))))), ?_⟩
    refine ⟨_, rfl, a, rfl, fun hn => kE fun z => hn z.1, fun ha => ?_⟩
    refine ⟨_, rfl, b, rfl, fun hn => kE fun z => hn z.2, fun hb => ?_⟩
    exact ⟨_, rfl, _, rfl, _, _, rfl, rfl, kQ ha hb⟩

def stepF (f : Int) : Int := if 15 < f * 2 then Builtin.bitXor (f * 2) 19 else f * 2
def stepT (b : Int) (k : Nat) (t f : Int) : Int := if Builtin.bitAnd (b / 2 ^ k) 1 = 1 then Builtin.bitXor t f else t
def timesF : Nat → Int → Int
  | 0, a => a
  | k + 1, a => stepF (timesF k a)
def timesT : Nat → Int → Int → Int
  | 0, _, _ => 0
  | k + 1, a, b => stepT b k (timesT k a b) (timesF k a)
theorem times_mul {a b : Int} (ha : sym a) (hb : sym b) : timesT 4 a b = mulI a b :=
  sym_all (p := fun a => timesT 4 a b = mulI a b) (fun i => sym_all (p := fun b => timesT 4 i.val b = mulI i.val b) (fun j => by revert i j; unfold mulI; decide +kernel) hb) ha
theorem timesF_in {a : Int} (ha : sym a) (k : Nat) (hk : k < 4) : sym (timesF k a) := by
  have z : ∀ k : Fin 4, sym (timesF k.val a) := sym_all (p := fun a => ∀ k : Fin 4, sym (timesF k.val a)) (by unfold sym; decide +kernel) ha
  exact z ⟨k, hk⟩
def spTimes : Sp := fun vs H Q _ => ∃ a b : Int, vs = [.int a, .int b] ∧ sym a ∧ sym b ∧ Q (.int (mulI a b)) H
theorem ok__law_times (T : Txt K mg C_ArchiveError C_InvalidSymbol) : Ok P w K mg base CX0 1 "_law_times" ["a", "b"] spTimes := by
  refine ok_of T.d__law_times fun f fd F => F.ok sc__law_times (fun vs H Q E h => ?_) (fun cdv A outer s H vs Q E hr h => ?_)
  · obtain ⟨a, b, rfl, _⟩ := h
    rfl
  · obtain ⟨a, b, rfl, ha, hb, kQ⟩ := h
    have nd := sc__law_times.nd
    refine ⟨_,       (pss_cons (ps_set (i := 2) nd rfl (Or.inl rfl) pe_int)
      (pss_cons (ps_set (i := 3) nd rfl (Or.inl rfl) (pv 0))
      (pss_cons (ps_for PassesOwn.never rfl (pi_range1 rfl T.n_range (pa_cons pe_int pa_nil)) (pg_name (i := 4) nd rfl (Or.inl rfl))
        (Evl.pss_cut (ps_if (pt_cmpR op_eq (pe_op op_and (pe_op op_shr (pv 1) (pv 4)) pe_int) pe_int (nomark _))
          (pss_one (ps_set (i := 2) nd rfl (Or.inl rfl) (pe_op op_xor (pv 2) (pv 3)))) pss_nil)
        (pss_cons (ps_set (i := 3) nd rfl (Or.inl rfl) (pe_op op_mul (pv 3) pe_int))
        (pss_one (ps_if (pt_cmpR op_gt (pv 3) pe_int (nomark _))
          (pss_one (ps_set (i := 3) nd rfl (Or.inl rfl) (pe_op op_xor (pv 3) pe_int))) pss_nil)))))
      (pss_one (ps_ret (pv 2)))))), ?_⟩
    refine ⟨_, rfl, 4, rfl, by decide, by decide, for_range (lo := 0) (n := 4) (fun i σ H' => H = H' ∧ ∃ v, σ = [some (.int a), some (.int b), some (.int (timesT i a b)), some (.int (timesF i a)), v]) ⟨rfl, none, rfl⟩ ?_ ?_⟩
    · rintro i σ H' hi ⟨rfl, v, rfl⟩
      refine ⟨fun σ' H' => H = H' ∧ ∃ v, σ' = [some (.int a), some (.int b), some (.int (timesT (i + 1) a b)), some (.int (timesF i a)), v], ?_, ?_⟩
      · refine ⟨_, rfl, _, rfl, _, _, rfl, rfl, (by show (0 : Int) ≤ 0 + (i : Int); omega), _, _, rfl, rfl, rfl, _, rfl, ?_⟩
        have e0 : ((0 : Int) + (i : Int)).toNat = i := by omega
        have e1 : ∀ z : Int, decide (V.int z = V.int 1) = decide (z = 1) := fun z => by simp
        rw [e1, e0]
        refine itd (fun h => ?_) (fun h => ?_)
        · exact ⟨_, rfl, _, rfl, _, _, rfl, rfl, rfl, _, by show _ = [_, _, some (V.int (stepT b i (timesT i a b) (timesF i a))), _, _]; unfold stepT; rw [if_pos h]; rfl⟩
        · exact ⟨rfl, _, by show _ = [_, _, some (V.int (stepT b i (timesT i a b) (timesF i a))), _, _]; unfold stepT; rw [if_neg h]; rfl⟩
      · rintro σ1 H1 ⟨rfl, v, rfl⟩
        refine ⟨_, rfl, _, _, rfl, rfl, .inr (by decide), _, rfl, _, _, rfl, rfl, _, rfl, itd (fun h => ?_) (fun h => ?_)⟩
        · exact ⟨_, rfl, _, _, rfl, rfl, rfl, _, by show _ = [_, _, _, some (V.int (stepF (timesF i a))), _]; unfold stepF; rw [if_pos h]; rfl⟩
        · exact ⟨rfl, _, by show _ = [_, _, _, some (V.int (stepF (timesF i a))), _]; unfold stepF; rw [if_neg h]; rfl⟩
    · rintro σ H' ⟨rfl, v, rfl⟩
      rw [← times_mul ha hb] at kQ
      exact ⟨_, rfl, kQ⟩

def refusedD : PyData := .tuple [.str "refused", .bool true]
open Classical in
noncomputable def triedD (q a b : Int) : PyData := if q = 0 then (if sym a ∧ sym b then .int (addI a b) else refusedD) else if q = 1 then (if sym a ∧ sym b then .int (mulI a b) else refusedD) else (if sym a ∧ a ≠ 0 then .int (invI a) else refusedD)
def spTried (K : PySem.W.Frag) : Sp := fun vs H Q _ => ∃ q a b : Int, vs = [.int q, .int a, .int b] ∧ ∀ v H', Same H H' → Dp K H' v (triedD q a b) → Q v H'
theorem dp_refused {K : PySem.W.Frag} {H : Hp} {p : Addr} (h : H p = some (.tup [.str "refused", .bl true])) : Dp K H (.ref p) refusedD := .tup (SqT.of h) (.cons (.str _) (.cons (.bl _) .nil))
theorem ok__law_tried (T : Txt K mg C_ArchiveError C_InvalidSymbol) : Ok P w K mg base CX0 4 "_law_tried" ["question", "a", "b"] (spTried K) := by
  have G_add := ok_add (P := P) (w := w) (base := base) T
  have G_multiply := ok_multiply (P := P) (w := w) (base := base) T
  have G_inverse := ok_inverse (P := P) (w := w) (base := base) T
  refine ok_of T.d__law_tried fun f fd F => F.ok sc__law_tried (fun vs H Q E h => ?_) (fun cdv A outer s H vs Q E hr h => ?_)
  · obtain ⟨q, a, b, rfl, _⟩ := h
    rfl
  · obtain ⟨q, a, b, rfl, kQ⟩ := h
    have nd := sc__law_tried.nd
    refine ⟨_,       (pss_one (L2N.ps_try_as (i := 3) (Wout := fun _ _ _ _ => False) rfl rfl nd rfl rfl ⟨rfl, by decide, Or.inl T.x_ArchiveError.g⟩ takesN
        (fun W pn xe tk po => 
          (pss_cons (ps_if (pt_cmpR op_eq (pv 0) pe_int (nomark _))
            (pss_one (ps_ret (pe_callT G_add (hr.mono (by decide)) (fun σ => L2N.passAt tk σ) (pa_cons (pv 1) (pa_cons (pv 2) pa_nil))))) pss_nil)
          (pss_cons (ps_if (pt_cmpR op_eq (pv 0) pe_int (nomark _))
            (pss_one (ps_ret (pe_callT G_multiply (hr.mono (by decide)) (fun σ => L2N.passAt tk σ) (pa_cons (pv 1) (pa_cons (pv 2) pa_nil))))) pss_nil)
          (pss_one (ps_ret (pe_callT G_inverse (hr.mono (by decide)) (fun σ => L2N.passAt tk σ) (pa_cons (pv 1) pa_nil)))))))
        (fun a oe cls d pn hz hf => pss_guard (p := cls = .ref C_InvalidSymbol ∧ d = none) (fun ee => by obtain ⟨e1, e2⟩ := ee; subst e1 e2; exact 
          (pss_one (ps_ret (pe_tup (pa_cons pe_str (pa_cons (pe_callB (call_isE T.x_InvalidSymbol.e hz.zc hf) (by rfl) T.n_isinstance (by decide +kernel) (pa_cons (pv 3) (pa_cons (pe_globR rfl T.x_InvalidSymbol.g) pa_nil))) pa_nil))))))))), ?_⟩
    have e0 : ∀ z y : Int, decide (V.int z = V.int y) = decide (z = y) := fun z y => by simp
    refine ⟨_, rfl, rfl, _, rfl, ?_⟩
    rw [e0]
    refine itd (fun h0 => ?_) (fun h0 => ?_)
    · refine ⟨_, rfl, _, rfl, a, b, rfl, fun hn => ?_, fun ha hb => ?_⟩
      · refine ⟨true, exm_own T.x_ArchiveError.toXB T.s_InvalidSymbol_ArchiveError, fun _ ea hea => ⟨⟨rfl, rfl⟩, ?_⟩, fun q => nomatch q⟩
        refine ⟨_, rfl, _, _, true, rfl, fun _ h => h, T.q_InvalidSymbol_InvalidSymbol, by decide, fun p hp => ?_⟩
        have e : triedD q a b = refusedD := by rw [triedD, if_pos h0, if_neg hn]
        rw [e] at kQ
        exact kQ _ _ (same_upd hp) (dp_refused upd_same)
      · have e : triedD q a b = .int (addI a b) := by rw [triedD, if_pos h0, if_pos ⟨ha, hb⟩]
        rw [e] at kQ
        exact kQ _ _ (Same.refl H) (.int _)
    refine ⟨_, rfl, rfl, _, rfl, ?_⟩
    rw [e0]
    refine itd (fun h1 => ?_) (fun h1 => ?_)
    · refine ⟨_, rfl, _, rfl, a, b, rfl, fun hn => ?_, fun ha hb => ?_⟩
      · refine ⟨true, exm_own T.x_ArchiveError.toXB T.s_InvalidSymbol_ArchiveError, fun _ ea hea => ⟨⟨rfl, rfl⟩, ?_⟩, fun q => nomatch q⟩
        refine ⟨_, rfl, _, _, true, rfl, fun _ h => h, T.q_InvalidSymbol_InvalidSymbol, by decide, fun p hp => ?_⟩
        have e : triedD q a b = refusedD := by rw [triedD, if_neg h0, if_pos h1, if_neg hn]
        rw [e] at kQ
        exact kQ _ _ (same_upd hp) (dp_refused upd_same)
      · have e : triedD q a b = .int (mulI a b) := by rw [triedD, if_neg h0, if_pos h1, if_pos ⟨ha, hb⟩]
        rw [e] at kQ
        exact kQ _ _ (Same.refl H) (.int _)
    · refine ⟨_, rfl, a, rfl, fun hn => ?_, fun ha hb => ?_⟩
      · refine ⟨true, exm_own T.x_ArchiveError.toXB T.s_InvalidSymbol_ArchiveError, fun _ ea hea => ⟨⟨rfl, rfl⟩, ?_⟩, fun q => nomatch q⟩
        refine ⟨_, rfl, _, _, true, rfl, fun _ h => h, T.q_InvalidSymbol_InvalidSymbol, by decide, fun p hp => ?_⟩
        have e : triedD q a b = refusedD := by rw [triedD, if_neg h0, if_neg h1, if_neg hn]
        rw [e] at kQ
        exact kQ _ _ (same_upd hp) (dp_refused upd_same)
      · have e : triedD q a b = .int (invI a) := by rw [triedD, if_neg h0, if_neg h1, if_pos ⟨ha, hb⟩]
        rw [e] at kQ
        exact kQ _ _ (Same.refl H) (.int _)

-- @@LAW
def spLaw (K : PySem.W.Frag) : Sp := fun vs H Q _ => ∃ (a : Addr) (ns : List Int), vs = [.ref a] ∧ SqL K H a (ns.map V.int) ∧ ns.length ≤ 63 ∧ ∀ H', Q (.bl true) H'
theorem mod_sym (n : Int) : sym (n % 16) := ⟨by omega, by omega⟩
theorem not_nm {H : Hp} {x y : Int} {A B : Prop} (e : x = y) (h : B) : ∃ k, V.bl (!decide (V.int x = V.int y)) = V.bl k ∧ if k = true then A else B :=
  ⟨_, rfl, by rw [e]; simpa using h⟩
theorem inv_only {a : Int} (ha : sym a) (h0 : a ≠ 0) {k : Int} (hk : sym k) : (mulI a k = 1) = (k = invI a) :=
  sym_all (p := fun a => a ≠ 0 → (mulI a k = 1) = (k = invI a)) (fun i => sym_all (p := fun k => ((i.val : Nat) : Int) ≠ 0 → (mulI i.val k = 1) = (k = invI i.val)) (fun j => by
    intro h
    have z : ∀ i j : Fin 16, ((i.val : Nat) : Int) ≠ 0 → (mulI i.val j.val = 1 ↔ ((j.val : Nat) : Int) = invI i.val) := by unfold mulI invI; decide +kernel
    exact propext (z i j h)) hk) ha h0
theorem inv_sym {a : Int} (ha : sym a) : sym (invI a) := sym_all (p := fun a => sym (invI a)) (by unfold sym invI; decide +kernel) ha
theorem eqv_tried : PyData.eqv refusedD refusedD = true := by decide +kernel
theorem shaped_refused : SeqAt.shaped refusedD = true := by decide +kernel
theorem shaped_int (i : Int) : SeqAt.shaped (.int i) = true := rfl
theorem eqv_int (i : Int) : PyData.eqv (.int i) (.int i) = true := by simp [PyData.eqv]
theorem ok_law0 (T : Txt K mg C_ArchiveError C_InvalidSymbol) (f : Addr) (fd : FuncData) (F : Fun K "law" "law" s_law f fd) : FnOk P w K mg base CX0 5 f fd ["script"] (spLaw K) := by
  have G__law_cell := ok__law_cell (P := P) (w := w) (base := base) T
  have G__law_is_int := ok__law_is_int (P := P) (w := w) (base := base) T
  have G_multiply := ok_multiply (P := P) (w := w) (base := base) T
  have G_add := ok_add (P := P) (w := w) (base := base) T
  have G__law_times := ok__law_times (P := P) (w := w) (base := base) T
  have G__law_tried := ok__law_tried (P := P) (w := w) (base := base) T
  refine F.ok sc_law (fun vs H Q E h => ?_) (fun cdv A outer s H vs Q E hr h => ?_)
  · obtain ⟨a, ns, rfl, _⟩ := h
    rfl
  · obtain ⟨a, ns, rfl, hS, hlen, kQ⟩ := h
    have nd := sc_law.nd
    have hu64 : (A.deeper (envOfC "law" (defScope s_law) s.heap.objs.size f cdv)).units + 64 < cLine := by
      have := hr.un
      omega
    refine ⟨_,       (pss_cons (ps_set (i := 1) nd rfl (Or.inr rfl) (pe_op op_mod (pe_callO G__law_cell (hr.mono (by decide)) pass0 (pa_cons (pv 0) (pa_cons pe_int pa_nil))) pe_int))
      (pss_cons (ps_set (i := 2) nd rfl (Or.inl rfl) (pe_op op_mod (pe_callO G__law_cell (hr.mono (by decide)) pass0 (pa_cons (pv 0) (pa_cons pe_int pa_nil))) pe_int))
      (pss_cons (ps_set (i := 3) nd rfl (Or.inl rfl) (pe_op op_mod (pe_callO G__law_cell (hr.mono (by decide)) pass0 (pa_cons (pv 0) (pa_cons pe_int pa_nil))) pe_int))
      (pss_cons (ps_set (i := 4) nd rfl (Or.inl rfl) (pe_op op_sub (pe_op op_mod (pe_callO G__law_cell (hr.mono (by decide)) pass0 (pa_cons (pv 0) (pa_cons pe_int pa_nil))) pe_int) pe_int))
      (Evl.pss_cut (ps_if (pt_cmpR op_eq (pe_op op_mod (pe_op op_fdiv (pe_callO G__law_cell (hr.mono (by decide)) pass0 (pa_cons (pv 0) (pa_cons pe_int pa_nil))) pe_int) pe_int) pe_int (nomark _))
        (pss_one (ps_set (i := 4) nd rfl (Or.inl rfl) (pe_op op_add (pe_op op_mul (pv 4) pe_int) pe_int))) pss_nil)
      (pss_cons (ps_if (PW.pt (pw_or (pt_not (pt_val (pe_callO G__law_is_int (hr.mono (by decide)) pass0 (pa_cons (pe_callO G_multiply (hr.mono (by decide)) passN (pa_cons (pv 1) (pa_cons (pv 2) pa_nil))) pa_nil)))) (pw_or1 (pt_not (pt_val (pe_callO G__law_is_int (hr.mono (by decide)) pass0 (pa_cons (pe_callO G_add (hr.mono (by decide)) passN (pa_cons (pv 1) (pa_cons (pv 2) pa_nil))) pa_nil)))))))
        (pss_one (ps_ret pe_bl)) pss_nil)
      (pss_cons (ps_if (PW.pt (pw_or (pt_cmpR op_ne (pe_callO G_multiply (hr.mono (by decide)) passN (pa_cons (pv 1) (pa_cons (pv 2) pa_nil))) (pe_callO G__law_times (hr.mono (by decide)) pass0 (pa_cons (pv 1) (pa_cons (pv 2) pa_nil))) (nomark _)) (pw_or (pt_cmpR op_ne (pe_callO G_add (hr.mono (by decide)) passN (pa_cons (pv 1) (pa_cons (pv 2) pa_nil))) (pe_op op_xor (pv 1) (pv 2)) (nomark _)) (pw_or1 (pt_cmpR op_ne (pe_callO G_multiply (hr.mono (by decide)) passN (pa_cons (pv 2) (pa_cons (pv 1) pa_nil))) (pe_callO G_multiply (hr.mono (by decide)) passN (pa_cons (pv 1) (pa_cons (pv 2) pa_nil))) (nomark _))))))
        (pss_one (ps_ret pe_bl)) pss_nil)
      (pss_cons (ps_if (pt_cmpR op_ne (pe_callO G_multiply (hr.mono (by decide)) passN (pa_cons (pv 1) (pa_cons (pe_callO G_multiply (hr.mono (by decide)) passN (pa_cons (pv 2) (pa_cons (pv 3) pa_nil))) pa_nil))) (pe_callO G_multiply (hr.mono (by decide)) passN (pa_cons (pe_callO G_multiply (hr.mono (by decide)) passN (pa_cons (pv 1) (pa_cons (pv 2) pa_nil))) (pa_cons (pv 3) pa_nil))) (nomark _))
        (pss_one (ps_ret pe_bl)) pss_nil)
      (pss_cons (ps_if (pt_cmpR op_ne (pe_callO G_multiply (hr.mono (by decide)) passN (pa_cons (pv 1) (pa_cons (pe_callO G_add (hr.mono (by decide)) passN (pa_cons (pv 2) (pa_cons (pv 3) pa_nil))) pa_nil))) (pe_callO G_add (hr.mono (by decide)) passN (pa_cons (pe_callO G_multiply (hr.mono (by decide)) passN (pa_cons (pv 1) (pa_cons (pv 2) pa_nil))) (pa_cons (pe_callO G_multiply (hr.mono (by decide)) passN (pa_cons (pv 1) (pa_cons (pv 3) pa_nil))) pa_nil))) (nomark _))
        (pss_one (ps_ret pe_bl)) pss_nil)
      (pss_cons (ps_set (i := 5) nd rfl (Or.inl rfl) (pe_tup (pa_cons pe_str (pa_cons pe_bl pa_nil))))
      (Evl.pss_cut (ps_if (pt_cmpR op_gt (pv 1) pe_int (nomark _))
        (pss_one (ps_set (i := 5) nd rfl (Or.inl rfl) (pe_ix ix_list (pe_lc (own := [("k", 6)]) (g := gName 6) rfl nd (pi_range1 rfl T.n_range (pa_cons pe_int pa_nil)) (blkOk_by (N := N_law) (sc := defScope s_law) (by decide +kernel)) (fun _ _ _ _ _ => (pg_name (i := 6) nd rfl (Or.inl rfl))) (fun _ _ _ _ _ => (pts_one (pt_cmpR op_eq (pe_callO G__law_times (hr.mono (by decide)) pass0 (pa_cons (pv 1) (pa_cons (pv 6) pa_nil))) pe_int (nomark _)))) (fun _ _ _ _ _ => (pv 6))) pe_int (fun _ _ => rfl)))) pss_nil)
      (pss_cons (ps_if (pt_cmpR (op_neD hu64) (pe_callO G__law_tried (hr.mono (by decide)) pass0 (pa_cons pe_int (pa_cons (pv 1) (pa_cons pe_int pa_nil)))) (pv 5) (nomark _))
        (pss_one (ps_ret pe_bl)) pss_nil)
      (pss_cons (ps_if (PW.pt (pw_or (pt_cmpR op_lt (pv 4) pe_int (nomark _)) (pw_or1 (pt_cmpR op_gt (pv 4) pe_int (nomark _)))))
        (pss_cons (ps_set (i := 7) nd rfl (Or.inl rfl) (pe_lst (pa_cons (pe_callO G__law_tried (hr.mono (by decide)) pass0 (pa_cons pe_int (pa_cons (pv 4) (pa_cons (pv 1) pa_nil)))) (pa_cons (pe_callO G__law_tried (hr.mono (by decide)) pass0 (pa_cons pe_int (pa_cons (pv 1) (pa_cons (pv 4) pa_nil)))) (pa_cons (pe_callO G__law_tried (hr.mono (by decide)) pass0 (pa_cons pe_int (pa_cons (pv 4) (pa_cons (pv 1) pa_nil)))) (pa_cons (pe_callO G__law_tried (hr.mono (by decide)) pass0 (pa_cons pe_int (pa_cons (pv 1) (pa_cons (pv 4) pa_nil)))) (pa_cons (pe_callO G__law_tried (hr.mono (by decide)) pass0 (pa_cons pe_int (pa_cons (pv 4) (pa_cons pe_int pa_nil)))) pa_nil)))))))
        (pss_one (ps_ret (pe_cmpR (op_eqD hu64) (pv 7) (pe_op op_rep (pe_lst (pa_cons (pe_tup (pa_cons pe_str (pa_cons pe_bl pa_nil))) pa_nil)) pe_int) (nomark _))))) pss_nil)
      (pss_one (ps_ret (pe_cmpR op_eq (pe_callO G__law_tried (hr.mono (by decide)) pass0 (pa_cons pe_int (pa_cons (pv 4) (pa_cons (pv 1) pa_nil)))) (pe_callO G__law_times (hr.mono (by decide)) pass0 (pa_cons (pv 4) (pa_cons (pv 1) pa_nil))) (nomark _))))))))))))))))), ?_⟩
    refine ⟨_, rfl, _, ns, 0, rfl, hS, _, _, rfl, rfl, (by show (0 : Int) < 16; decide), ?_⟩
    refine ⟨_, rfl, _, ns, 1, rfl, hS, _, _, rfl, rfl, (by show (0 : Int) < 16; decide), ?_⟩
    refine ⟨_, rfl, _, ns, 2, rfl, hS, _, _, rfl, rfl, (by show (0 : Int) < 16; decide), ?_⟩
    refine ⟨_, rfl, _, ns, 3, rfl, hS, _, _, rfl, rfl, (by show (0 : Int) < 23; decide), _, _, rfl, rfl, ?_⟩
    refine ⟨fun σ' H' => H = H' ∧ ∃ x y z odd : Int, sym x ∧ sym y ∧ sym z ∧ σ' = [some (.ref a), some (.int x), some (.int y), some (.int z), some (.int odd), none, none, none], ?_, ?_⟩
    · refine ⟨_, rfl, _, ns, 3, rfl, hS, _, _, rfl, rfl, ⟨by decide, by decide⟩, _, _, rfl, rfl, (by show (0 : Int) < 5; decide), rfl, _, rfl, itd (fun h => ?_) (fun h => ?_)⟩
      · exact ⟨_, rfl, _, _, rfl, rfl, .inr (by decide), _, _, rfl, rfl, rfl, _, _, _, _, mod_sym _, mod_sym _, mod_sym _, rfl⟩
      · exact ⟨rfl, _, _, _, _, mod_sym _, mod_sym _, mod_sym _, rfl⟩
    rintro σ1 H1 ⟨rfl, x, y, z, odd, hx, hy, hz, rfl⟩
    -- the kinds
    refine ⟨_, rfl, _, rfl, x, y, rfl, fun hn => absurd ⟨hx, hy⟩ hn, fun _ _ => ⟨_, rfl, true, rfl, iteF ?_⟩⟩
    refine ⟨_, rfl, _, rfl, x, y, rfl, fun hn => absurd ⟨hx, hy⟩ hn, fun _ _ => ⟨_, rfl, true, rfl, iteF ?_⟩⟩
    -- multiply(a, b) != _law_times(a, b) or add(a, b) != a ^ b or multiply(b, a) != multiply(a, b)
    refine ⟨_, rfl, _, rfl, x, y, rfl, fun hn => absurd ⟨hx, hy⟩ hn, fun _ _ => ⟨_, rfl, _, rfl, x, y, rfl, hx, hy, rfl, not_nm (H := H) rfl ?_⟩⟩
    refine ⟨_, rfl, _, rfl, x, y, rfl, fun hn => absurd ⟨hx, hy⟩ hn, fun _ _ => ⟨_, rfl, _, rfl, _, _, rfl, rfl, rfl, not_nm (H := H) rfl ?_⟩⟩
    refine ⟨_, rfl, _, rfl, y, x, rfl, fun hn => absurd ⟨hy, hx⟩ hn, fun _ _ => ⟨_, rfl, _, rfl, x, y, rfl, fun hn => absurd ⟨hx, hy⟩ hn, fun _ _ => ⟨rfl, not_nm (H := H) (mul_comm' hx hy) ?_⟩⟩⟩
    have hxy := mul_sym hx hy
    have hyz := mul_sym hy hz
    have hxz := mul_sym hx hz
    have hayz := add_sym hy hz
    refine ⟨_, rfl, _, rfl, _, rfl, y, z, rfl, fun hn => absurd ⟨hy, hz⟩ hn, fun _ _ => ⟨x, _, rfl, fun hn => absurd ⟨hx, hyz⟩ hn, fun _ _ => ⟨_, rfl, _, rfl, x, y, rfl, fun hn => absurd ⟨hx, hy⟩ hn, fun _ _ => ⟨_, rfl, _, z, rfl, fun hn => absurd ⟨hxy, hz⟩ hn, fun _ _ => ⟨rfl, not_nm (H := H) (mul_assoc' hx hy hz) ?_⟩⟩⟩⟩⟩
    refine ⟨_, rfl, _, rfl, _, rfl, y, z, rfl, fun hn => absurd ⟨hy, hz⟩ hn, fun _ _ => ⟨x, _, rfl, fun hn => absurd ⟨hx, hayz⟩ hn, fun _ _ => ⟨_, rfl, _, rfl, x, y, rfl, fun hn => absurd ⟨hx, hy⟩ hn, fun _ _ => ⟨_, rfl, _, rfl, x, z, rfl, fun hn => absurd ⟨hx, hz⟩ hn, fun _ _ => ⟨_, _, rfl, fun hn => absurd ⟨hxy, hxz⟩ hn, fun _ _ => ⟨rfl, not_nm (H := H) (mul_add' hx hy hz) ?_⟩⟩⟩⟩⟩⟩
    -- due = ('refused', True); if a > 0: due = [..][0]
    refine ⟨by decide, fun p hp => ?_⟩
    refine ⟨fun σ' H' => Same H H' ∧ ∃ v : V, σ' = [some (.ref a), some (.int x), some (.int y), some (.int z), some (.int odd), some v, none, none] ∧ Dp K H' v (triedD 2 x 0), ?_, ?_⟩
    · refine ⟨_, rfl, _, _, rfl, rfl, _, rfl, itd (fun h => ?_) (fun h => ?_)⟩
      · have hx0 : x ≠ 0 := by omega
        have hi := inv_sym hx
        refine ⟨16, rfl, by decide, by decide, fun D hD => lc_range (lo := 0) (n := 16) (fun i H' => Same (upd H p (.tup [.str "refused", .bl true])) H' ∧ H' D = some (.lst (if invI x < (i : Int) then [.int (invI x)] else []))) ⟨same_upd hD, ?_⟩ ?_ ?_⟩
        · rw [upd_same, if_neg (by have := hi.1; omega)]
        · rintro i H' hi16 ⟨e, hL⟩
          have hs : sym (0 + (i : Int)) := ⟨by omega, by omega⟩
          refine ⟨rfl, _, rfl, _, rfl, x, 0 + (i : Int), rfl, hx, hs, rfl, _, rfl, ?_⟩
          have e1 : ∀ z : Int, decide (V.int z = V.int 1) = decide (z = 1) := fun z => by simp
          rw [e1]
          refine itd (fun hm => ?_) (fun hm => ?_)
          · rw [inv_only hx hx0 hs] at hm
            refine ⟨_, rfl, _, hL, ?_, same_new e hD, ?_⟩
            · refine small ?_
              rw [if_neg (by omega)]
              decide
            · rw [upd_same, if_neg (by omega), if_pos (by omega), ← hm]
              rfl
          · rw [inv_only hx hx0 hs] at hm
            refine ⟨e, ?_⟩
            by_cases hlt : invI x < (i : Int)
            · rw [hL, if_pos hlt, if_pos (by omega)]
            · rw [hL, if_neg hlt, if_neg (by omega)]
        · rintro H' ⟨e, hL⟩
          rw [if_pos (by have := hi.2; omega)] at hL
          refine ⟨D, _, 0, .int (invI x), rfl, rfl, SqL.of hL, rfl, (same_upd hp).trans e, _, rfl, ?_⟩
          have e : triedD 2 x 0 = .int (invI x) := by rw [triedD, if_neg (by decide), if_neg (by decide), if_pos ⟨hx, hx0⟩]
          rw [e]
          exact .int _
      · refine ⟨same_upd hp, _, rfl, ?_⟩
        have e : triedD 2 x 0 = refusedD := by rw [triedD, if_neg (by decide), if_neg (by decide), if_neg (fun z => by have := hx.1; have := z.2; omega)]
        rw [e]
        exact dp_refused upd_same
    rintro σ1 H1 ⟨e1, v, rfl, hv⟩
    have shT : ∀ q a b, SeqAt.shaped (triedD q a b) = true := fun q a b => by
      unfold triedD
      split
      · split
        · rfl
        · exact shaped_refused
      · split
        · split
          · rfl
          · exact shaped_refused
        · split
          · rfl
          · exact shaped_refused
    have eqT : ∀ q a b, PyData.eqv (triedD q a b) (triedD q a b) = true := fun q a b => SeqAt.eqv_refl _ (SeqAt.canLay_of_shaped (shT q a b))
    -- if _law_tried(2, a, 0) != due
    refine ⟨_, rfl, 2, x, 0, rfl, fun v2 H2 e2 d2 => ⟨_, rfl, _, _, d2, dp_mono e2 hv, shT _ _ _, shT _ _ _, _, rfl, ?_⟩⟩
    rw [eqT]
    refine iteF ?_
    have t0 : ¬ sym odd → triedD 0 odd x = refusedD := fun hn => by rw [triedD, if_pos rfl, if_neg fun z => hn z.1]
    have t1 : ¬ sym odd → triedD 0 x odd = refusedD := fun hn => by rw [triedD, if_pos rfl, if_neg fun z => hn z.2]
    have t2 : ¬ sym odd → triedD 1 odd x = refusedD := fun hn => by rw [triedD, if_neg (by decide), if_pos rfl, if_neg fun z => hn z.1]
    have t3 : ¬ sym odd → triedD 1 x odd = refusedD := fun hn => by rw [triedD, if_neg (by decide), if_pos rfl, if_neg fun z => hn z.2]
    have t4 : ¬ sym odd → triedD 2 odd 0 = refusedD := fun hn => by rw [triedD, if_neg (by decide), if_neg (by decide), if_neg fun z => hn z.1]
    have e5 : PyData.eqv (.list [refusedD, refusedD, refusedD, refusedD, refusedD]) (.list [refusedD, refusedD, refusedD, refusedD, refusedD]) = true := by decide +kernel
    have s5 : SeqAt.shaped (.list [refusedD, refusedD, refusedD, refusedD, refusedD]) = true := by decide +kernel
    refine ⟨_, rfl, _, _, rfl, rfl, _, rfl, ?_⟩
    refine itd (fun h1 => iteT ?wayA) (fun h1 => ⟨_, rfl, _, _, rfl, rfl, _, rfl, itd (fun h2 => ?wayB) (fun h2 => ?wayC)⟩)
    case wayC =>
      have hs : sym odd := ⟨by omega, by omega⟩
      have e : triedD 1 odd x = .int (mulI odd x) := by rw [triedD, if_neg (by decide), if_pos rfl, if_pos ⟨hs, hx⟩]
      refine ⟨_, rfl, _, rfl, 1, odd, x, rfl, fun v1 K1 f1 d1 => ?_⟩
      rw [e] at d1
      cases d1
      exact ⟨_, rfl, _, rfl, odd, x, rfl, hs, hx, rfl, to_true (Q := Q) (by simp) (kQ _)⟩
    case' wayA => (have hn : ¬ sym odd := fun z => by have := z.1; omega)
    case' wayB => (have hn : ¬ sym odd := fun z => by have := z.2; omega)
    all_goals
      refine ⟨_, rfl, _, rfl, 0, odd, x, rfl, fun v1 K1 f1 d1 => ?_⟩
      rw [t0 hn] at d1
      refine ⟨_, rfl, _, rfl, 0, x, odd, rfl, fun v2 K2 f2 d2 => ?_⟩
      rw [t1 hn] at d2
      refine ⟨_, rfl, _, rfl, 1, odd, x, rfl, fun v3 K3 f3 d3 => ?_⟩
      rw [t2 hn] at d3
      refine ⟨_, rfl, _, rfl, 1, x, odd, rfl, fun v4 K4 f4 d4 => ?_⟩
      rw [t3 hn] at d4
      refine ⟨_, rfl, 2, odd, 0, rfl, fun v5 K5 f5 d5 => ?_⟩
      rw [t4 hn] at d5
      refine ⟨by show 5 ≤ sizeLine; decide, fun l hl => ⟨_, rfl, by decide, fun t ht => ⟨by show 1 ≤ sizeLine; decide, fun m hm => ⟨m, 5, _, rfl, rfl, upd_same, by decide, by decide, by show 5 ≤ sizeLine; decide, fun r hr => ?_⟩⟩⟩⟩
      have gt := (same_upd (o := .lst [V.ref t]) hm).trans (same_upd (o := .lst (List.replicate 5 [V.ref t]).flatten) hr)
      have gl := (same_upd (o := .tup [.str "refused", .bl true]) ht).trans gt
      have g5 := (same_upd (o := .lst [v1, v2, v3, v4, v5]) hl).trans gl
      have g4 := f5.trans g5
      have g3 := f4.trans g4
      have g2 := f3.trans g3
      have g1 := f2.trans g2
      refine ⟨.list [refusedD, refusedD, refusedD, refusedD, refusedD], .list [refusedD, refusedD, refusedD, refusedD, refusedD], .lst (SqL.of (gl _ _ upd_same)) (.cons (dp_mono g1 d1) (.cons (dp_mono g2 d2) (.cons (dp_mono g3 d3) (.cons (dp_mono g4 d4) (.cons (dp_mono g5 d5) .nil))))), ?_, s5, s5, ?_⟩
      · have dt := dp_mono (K := K) gt (dp_refused (K := K) (p := t) upd_same)
        exact .lst (SqL.of upd_same) (.cons dt (.cons dt (.cons dt (.cons dt (.cons dt .nil)))))
      · exact to_true (Q := Q) e5 (kQ _)

end
theorem law_mk {P : Program} {w : World} {K : PySem.W.Frag} {mg : Str → Option Value} {C_ArchiveError C_InvalidSymbol : Addr} {C_fa : Addr} (T : Txt K mg C_ArchiveError C_InvalidSymbol) (hfa : mg "law" = some (.ref C_fa)) : ∃ fd : FuncData, (∀ (s : Shared) (v : Value), BindsTo s fd ⟨[v], []⟩ [("script", v)]) ∧ ∀ base : Heap, K.In base → base.Ns mainGlobals mg → FnOk P w K mg base CX0 5 C_fa fd ["script"] (spLaw K) := by
  obtain ⟨f, fd, F, g, b⟩ := id T.d_law
  have e := hfa.symm.trans g
  cases e
  refine ⟨fd, fun s v => ?_, fun base _ _ => ?_⟩
  · obtain ⟨oc, od, kV, doc, pm, an, cdv, ct, osl, rfl, lk, hcd⟩ := F.ex
    exact .of_eq rfl
  · exact ok_law0 T _ fd F
theorem law_end {P : Program} {w : World} {K : PySem.W.Frag} {h : Heap} {mg : Str → Option Value} {fa : Addr} {C_ArchiveError C_InvalidSymbol : Addr} {f_is_symbol : Addr} {oc_is_symbol kV_is_symbol dc_is_symbol pm_is_symbol cd_is_symbol ct_is_symbol : Value} {od_is_symbol an_is_symbol : Option Addr} {sl_is_symbol : Array (Option Value)} {f_add : Addr} {oc_add kV_add dc_add pm_add cd_add ct_add : Value} {od_add an_add : Option Addr} {sl_add : Array (Option Value)} {f_multiply : Addr} {oc_multiply kV_multiply dc_multiply pm_multiply cd_multiply ct_multiply : Value} {od_multiply an_multiply : Option Addr} {sl_multiply : Array (Option Value)} {f_inverse : Addr} {oc_inverse kV_inverse dc_inverse pm_inverse cd_inverse ct_inverse : Value} {od_inverse an_inverse : Option Addr} {sl_inverse : Array (Option Value)} {f__check_symbol : Addr} {oc__check_symbol kV__check_symbol dc__check_symbol pm__check_symbol cd__check_symbol ct__check_symbol : Value} {od__check_symbol an__check_symbol : Option Addr} {sl__check_symbol : Array (Option Value)} {f__law_cell : Addr} {oc__law_cell kV__law_cell dc__law_cell pm__law_cell cd__law_cell ct__law_cell : Value} {od__law_cell an__law_cell : Option Addr} {sl__law_cell : Array (Option Value)} {f__law_is_int : Addr} {oc__law_is_int kV__law_is_int dc__law_is_int pm__law_is_int cd__law_is_int ct__law_is_int : Value} {od__law_is_int an__law_is_int : Option Addr} {sl__law_is_int : Array (Option Value)} {f__law_times : Addr} {oc__law_times kV__law_times dc__law_times pm__law_times cd__law_times ct__law_times : Value} {od__law_times an__law_times : Option Addr} {sl__law_times : Array (Option Value)} {f__law_tried : Addr} {oc__law_tried kV__law_tried dc__law_tried pm__law_tried cd__law_tried ct__law_tried : Value} {od__law_tried an__law_tried : Option Addr} {sl__law_tried : Array (Option Value)} {f_law : Addr} {oc_law kV_law dc_law pm_law cd_law ct_law : Value} {od_law an_law : Option Addr} {sl_law : Array (Option Value)} {t_SYMBOLS : Tok} {p_PRODUCTS : Addr} {od_PRODUCTS : Option Addr} {sl_PRODUCTS : Array (Option Value)} {n_PRODUCTS : Nat} {its_PRODUCTS : Array Value} {r0_PRODUCTS : Addr} {rz0_PRODUCTS : Array (Option Value)} {rn0_PRODUCTS : Nat} {ri0_PRODUCTS : Array Value} {r1_PRODUCTS : Addr} {rz1_PRODUCTS : Array (Option Value)} {rn1_PRODUCTS : Nat} {ri1_PRODUCTS : Array Value} {r2_PRODUCTS : Addr} {rz2_PRODUCTS : Array (Option Value)} {rn2_PRODUCTS : Nat} {ri2_PRODUCTS : Array Value} {r3_PRODUCTS : Addr} {rz3_PRODUCTS : Array (Option Value)} {rn3_PRODUCTS : Nat} {ri3_PRODUCTS : Array Value} {r4_PRODUCTS : Addr} {rz4_PRODUCTS : Array (Option Value)} {rn4_PRODUCTS : Nat} {ri4_PRODUCTS : Array Value} {r5_PRODUCTS : Addr} {rz5_PRODUCTS : Array (Option Value)} {rn5_PRODUCTS : Nat} {ri5_PRODUCTS : Array Value} {r6_PRODUCTS : Addr} {rz6_PRODUCTS : Array (Option Value)} {rn6_PRODUCTS : Nat} {ri6_PRODUCTS : Array Value} {r7_PRODUCTS : Addr} {rz7_PRODUCTS : Array (Option Value)} {rn7_PRODUCTS : Nat} {ri7_PRODUCTS : Array Value} {r8_PRODUCTS : Addr} {rz8_PRODUCTS : Array (Option Value)} {rn8_PRODUCTS : Nat} {ri8_PRODUCTS : Array Value} {r9_PRODUCTS : Addr} {rz9_PRODUCTS : Array (Option Value)} {rn9_PRODUCTS : Nat} {ri9_PRODUCTS : Array Value} {r10_PRODUCTS : Addr} {rz10_PRODUCTS : Array (Option Value)} {rn10_PRODUCTS : Nat} {ri10_PRODUCTS : Array Value} {r11_PRODUCTS : Addr} {rz11_PRODUCTS : Array (Option Value)} {rn11_PRODUCTS : Nat} {ri11_PRODUCTS : Array Value} {r12_PRODUCTS : Addr} {rz12_PRODUCTS : Array (Option Value)} {rn12_PRODUCTS : Nat} {ri12_PRODUCTS : Array Value} {r13_PRODUCTS : Addr} {rz13_PRODUCTS : Array (Option Value)} {rn13_PRODUCTS : Nat} {ri13_PRODUCTS : Array Value} {r14_PRODUCTS : Addr} {rz14_PRODUCTS : Array (Option Value)} {rn14_PRODUCTS : Nat} {ri14_PRODUCTS : Array Value} {r15_PRODUCTS : Addr} {rz15_PRODUCTS : Array (Option Value)} {rn15_PRODUCTS : Nat} {ri15_PRODUCTS : Array Value} (X : K.In h) (G : h.Ns mainGlobals mg) (hfa : mg "law" = some (.ref fa))
    (a_is_symbol : PySem.W.nsIn K mainGlobals "is_symbol" = some (some (.ref f_is_symbol)))
    (l_is_symbol : K.lookup f_is_symbol = some ⟨oc_is_symbol, od_is_symbol, .func (PySem.W.fnOf "is_symbol" "is_symbol" (defArgs s_is_symbol) (defBody s_is_symbol) (defScope s_is_symbol) .none kV_is_symbol dc_is_symbol pm_is_symbol an_is_symbol cd_is_symbol ct_is_symbol), sl_is_symbol⟩)
    (c_is_symbol : PySem.W.codeIn K cd_is_symbol "is_symbol" = true)
    (k_is_symbol : PySem.W.keepIn K (.ref f_is_symbol) = true)
    (a_add : PySem.W.nsIn K mainGlobals "add" = some (some (.ref f_add)))
    (l_add : K.lookup f_add = some ⟨oc_add, od_add, .func (PySem.W.fnOf "add" "add" (defArgs s_add) (defBody s_add) (defScope s_add) .none kV_add dc_add pm_add an_add cd_add ct_add), sl_add⟩)
    (c_add : PySem.W.codeIn K cd_add "add" = true)
    (k_add : PySem.W.keepIn K (.ref f_add) = true)
    (a_multiply : PySem.W.nsIn K mainGlobals "multiply" = some (some (.ref f_multiply)))
    (l_multiply : K.lookup f_multiply = some ⟨oc_multiply, od_multiply, .func (PySem.W.fnOf "multiply" "multiply" (defArgs s_multiply) (defBody s_multiply) (defScope s_multiply) .none kV_multiply dc_multiply pm_multiply an_multiply cd_multiply ct_multiply), sl_multiply⟩)
    (c_multiply : PySem.W.codeIn K cd_multiply "multiply" = true)
    (k_multiply : PySem.W.keepIn K (.ref f_multiply) = true)
    (a_inverse : PySem.W.nsIn K mainGlobals "inverse" = some (some (.ref f_inverse)))
    (l_inverse : K.lookup f_inverse = some ⟨oc_inverse, od_inverse, .func (PySem.W.fnOf "inverse" "inverse" (defArgs s_inverse) (defBody s_inverse) (defScope s_inverse) .none kV_inverse dc_inverse pm_inverse an_inverse cd_inverse ct_inverse), sl_inverse⟩)
    (c_inverse : PySem.W.codeIn K cd_inverse "inverse" = true)
    (k_inverse : PySem.W.keepIn K (.ref f_inverse) = true)
    (a__check_symbol : PySem.W.nsIn K mainGlobals "_check_symbol" = some (some (.ref f__check_symbol)))
    (l__check_symbol : K.lookup f__check_symbol = some ⟨oc__check_symbol, od__check_symbol, .func (PySem.W.fnOf "_check_symbol" "_check_symbol" (defArgs s__check_symbol) (defBody s__check_symbol) (defScope s__check_symbol) .none kV__check_symbol dc__check_symbol pm__check_symbol an__check_symbol cd__check_symbol ct__check_symbol), sl__check_symbol⟩)
    (c__check_symbol : PySem.W.codeIn K cd__check_symbol "_check_symbol" = true)
    (k__check_symbol : PySem.W.keepIn K (.ref f__check_symbol) = true)
    (a__law_cell : PySem.W.nsIn K mainGlobals "_law_cell" = some (some (.ref f__law_cell)))
    (l__law_cell : K.lookup f__law_cell = some ⟨oc__law_cell, od__law_cell, .func (PySem.W.fnOf "_law_cell" "_law_cell" (defArgs s__law_cell) (defBody s__law_cell) (defScope s__law_cell) .none kV__law_cell dc__law_cell pm__law_cell an__law_cell cd__law_cell ct__law_cell), sl__law_cell⟩)
    (c__law_cell : PySem.W.codeIn K cd__law_cell "_law_cell" = true)
    (k__law_cell : PySem.W.keepIn K (.ref f__law_cell) = true)
    (a__law_is_int : PySem.W.nsIn K mainGlobals "_law_is_int" = some (some (.ref f__law_is_int)))
    (l__law_is_int : K.lookup f__law_is_int = some ⟨oc__law_is_int, od__law_is_int, .func (PySem.W.fnOf "_law_is_int" "_law_is_int" (defArgs s__law_is_int) (defBody s__law_is_int) (defScope s__law_is_int) .none kV__law_is_int dc__law_is_int pm__law_is_int an__law_is_int cd__law_is_int ct__law_is_int), sl__law_is_int⟩)
    (c__law_is_int : PySem.W.codeIn K cd__law_is_int "_law_is_int" = true)
    (k__law_is_int : PySem.W.keepIn K (.ref f__law_is_int) = true)
    (a__law_times : PySem.W.nsIn K mainGlobals "_law_times" = some (some (.ref f__law_times)))
    (l__law_times : K.lookup f__law_times = some ⟨oc__law_times, od__law_times, .func (PySem.W.fnOf "_law_times" "_law_times" (defArgs s__law_times) (defBody s__law_times) (defScope s__law_times) .none kV__law_times dc__law_times pm__law_times an__law_times cd__law_times ct__law_times), sl__law_times⟩)
    (c__law_times : PySem.W.codeIn K cd__law_times "_law_times" = true)
    (k__law_times : PySem.W.keepIn K (.ref f__law_times) = true)
    (a__law_tried : PySem.W.nsIn K mainGlobals "_law_tried" = some (some (.ref f__law_tried)))
    (l__law_tried : K.lookup f__law_tried = some ⟨oc__law_tried, od__law_tried, .func (PySem.W.fnOf "_law_tried" "_law_tried" (defArgs s__law_tried) (defBody s__law_tried) (defScope s__law_tried) .none kV__law_tried dc__law_tried pm__law_tried an__law_tried cd__law_tried ct__law_tried), sl__law_tried⟩)
    (c__law_tried : PySem.W.codeIn K cd__law_tried "_law_tried" = true)
    (k__law_tried : PySem.W.keepIn K (.ref f__law_tried) = true)
    (a_law : PySem.W.nsIn K mainGlobals "law" = some (some (.ref f_law)))
    (l_law : K.lookup f_law = some ⟨oc_law, od_law, .func (PySem.W.fnOf "law" "law" (defArgs s_law) (defBody s_law) (defScope s_law) .none kV_law dc_law pm_law an_law cd_law ct_law), sl_law⟩)
    (c_law : PySem.W.codeIn K cd_law "law" = true)
    (k_law : PySem.W.keepIn K (.ref f_law) = true)
    (a_SYMBOLS : PySem.W.nsIn K mainGlobals "SYMBOLS" = some (some (.int 16 t_SYMBOLS)))
    (a_PRODUCTS : PySem.W.nsIn K mainGlobals "PRODUCTS" = some (some (.ref p_PRODUCTS)))
    (l_PRODUCTS : K.lookup p_PRODUCTS = some ⟨.type "tuple", od_PRODUCTS, .seq its_PRODUCTS n_PRODUCTS, sl_PRODUCTS⟩)
    (e_PRODUCTS : its_PRODUCTS.toList = [Value.ref r0_PRODUCTS, Value.ref r1_PRODUCTS, Value.ref r2_PRODUCTS, Value.ref r3_PRODUCTS, Value.ref r4_PRODUCTS, Value.ref r5_PRODUCTS, Value.ref r6_PRODUCTS, Value.ref r7_PRODUCTS, Value.ref r8_PRODUCTS, Value.ref r9_PRODUCTS, Value.ref r10_PRODUCTS, Value.ref r11_PRODUCTS, Value.ref r12_PRODUCTS, Value.ref r13_PRODUCTS, Value.ref r14_PRODUCTS, Value.ref r15_PRODUCTS])
    (rl0_PRODUCTS : K.lookup r0_PRODUCTS = some ⟨.type "tuple", none, .seq ri0_PRODUCTS rn0_PRODUCTS, rz0_PRODUCTS⟩)
    (rv0_PRODUCTS : Vals [V.int 0, V.int 0, V.int 0, V.int 0, V.int 0, V.int 0, V.int 0, V.int 0, V.int 0, V.int 0, V.int 0, V.int 0, V.int 0, V.int 0, V.int 0, V.int 0] ri0_PRODUCTS.toList)
    (rl1_PRODUCTS : K.lookup r1_PRODUCTS = some ⟨.type "tuple", none, .seq ri1_PRODUCTS rn1_PRODUCTS, rz1_PRODUCTS⟩)
    (rv1_PRODUCTS : Vals [V.int 0, V.int 1, V.int 2, V.int 3, V.int 4, V.int 5, V.int 6, V.int 7, V.int 8, V.int 9, V.int 10, V.int 11, V.int 12, V.int 13, V.int 14, V.int 15] ri1_PRODUCTS.toList)
    (rl2_PRODUCTS : K.lookup r2_PRODUCTS = some ⟨.type "tuple", none, .seq ri2_PRODUCTS rn2_PRODUCTS, rz2_PRODUCTS⟩)
    (rv2_PRODUCTS : Vals [V.int 0, V.int 2, V.int 4, V.int 6, V.int 8, V.int 10, V.int 12, V.int 14, V.int 3, V.int 1, V.int 7, V.int 5, V.int 11, V.int 9, V.int 15, V.int 13] ri2_PRODUCTS.toList)
    (rl3_PRODUCTS : K.lookup r3_PRODUCTS = some ⟨.type "tuple", none, .seq ri3_PRODUCTS rn3_PRODUCTS, rz3_PRODUCTS⟩)
    (rv3_PRODUCTS : Vals [V.int 0, V.int 3, V.int 6, V.int 5, V.int 12, V.int 15, V.int 10, V.int 9, V.int 11, V.int 8, V.int 13, V.int 14, V.int 7, V.int 4, V.int 1, V.int 2] ri3_PRODUCTS.toList)
    (rl4_PRODUCTS : K.lookup r4_PRODUCTS = some ⟨.type "tuple", none, .seq ri4_PRODUCTS rn4_PRODUCTS, rz4_PRODUCTS⟩)
    (rv4_PRODUCTS : Vals [V.int 0, V.int 4, V.int 8, V.int 12, V.int 3, V.int 7, V.int 11, V.int 15, V.int 6, V.int 2, V.int 14, V.int 10, V.int 5, V.int 1, V.int 13, V.int 9] ri4_PRODUCTS.toList)
    (rl5_PRODUCTS : K.lookup r5_PRODUCTS = some ⟨.type "tuple", none, .seq ri5_PRODUCTS rn5_PRODUCTS, rz5_PRODUCTS⟩)
    (rv5_PRODUCTS : Vals [V.int 0, V.int 5, V.int 10, V.int 15, V.int 7, V.int 2, V.int 13, V.int 8, V.int 14, V.int 11, V.int 4, V.int 1, V.int 9, V.int 12, V.int 3, V.int 6] ri5_PRODUCTS.toList)
    (rl6_PRODUCTS : K.lookup r6_PRODUCTS = some ⟨.type "tuple", none, .seq ri6_PRODUCTS rn6_PRODUCTS, rz6_PRODUCTS⟩)
    (rv6_PRODUCTS : Vals [V.int 0, V.int 6, V.int 12, V.int 10, V.int 11, V.int 13, V.int 7, V.int 1, V.int 5, V.int 3, V.int 9, V.int 15, V.int 14, V.int 8, V.int 2, V.int 4] ri6_PRODUCTS.toList)
    (rl7_PRODUCTS : K.lookup r7_PRODUCTS = some ⟨.type "tuple", none, .seq ri7_PRODUCTS rn7_PRODUCTS, rz7_PRODUCTS⟩)
    (rv7_PRODUCTS : Vals [V.int 0, V.int 7, V.int 14, V.int 9, V.int 15, V.int 8, V.int 1, V.int 6, V.int 13, V.int 10, V.int 3, V.int 4, V.int 2, V.int 5, V.int 12, V.int 11] ri7_PRODUCTS.toList)
    (rl8_PRODUCTS : K.lookup r8_PRODUCTS = some ⟨.type "tuple", none, .seq ri8_PRODUCTS rn8_PRODUCTS, rz8_PRODUCTS⟩)
    (rv8_PRODUCTS : Vals [V.int 0, V.int 8, V.int 3, V.int 11, V.int 6, V.int 14, V.int 5, V.int 13, V.int 12, V.int 4, V.int 15, V.int 7, V.int 10, V.int 2, V.int 9, V.int 1] ri8_PRODUCTS.toList)
    (rl9_PRODUCTS : K.lookup r9_PRODUCTS = some ⟨.type "tuple", none, .seq ri9_PRODUCTS rn9_PRODUCTS, rz9_PRODUCTS⟩)
    (rv9_PRODUCTS : Vals [V.int 0, V.int 9, V.int 1, V.int 8, V.int 2, V.int 11, V.int 3, V.int 10, V.int 4, V.int 13, V.int 5, V.int 12, V.int 6, V.int 15, V.int 7, V.int 14] ri9_PRODUCTS.toList)
    (rl10_PRODUCTS : K.lookup r10_PRODUCTS = some ⟨.type "tuple", none, .seq ri10_PRODUCTS rn10_PRODUCTS, rz10_PRODUCTS⟩)
    (rv10_PRODUCTS : Vals [V.int 0, V.int 10, V.int 7, V.int 13, V.int 14, V.int 4, V.int 9, V.int 3, V.int 15, V.int 5, V.int 8, V.int 2, V.int 1, V.int 11, V.int 6, V.int 12] ri10_PRODUCTS.toList)
    (rl11_PRODUCTS : K.lookup r11_PRODUCTS = some ⟨.type "tuple", none, .seq ri11_PRODUCTS rn11_PRODUCTS, rz11_PRODUCTS⟩)
    (rv11_PRODUCTS : Vals [V.int 0, V.int 11, V.int 5, V.int 14, V.int 10, V.int 1, V.int 15, V.int 4, V.int 7, V.int 12, V.int 2, V.int 9, V.int 13, V.int 6, V.int 8, V.int 3] ri11_PRODUCTS.toList)
    (rl12_PRODUCTS : K.lookup r12_PRODUCTS = some ⟨.type "tuple", none, .seq ri12_PRODUCTS rn12_PRODUCTS, rz12_PRODUCTS⟩)
    (rv12_PRODUCTS : Vals [V.int 0, V.int 12, V.int 11, V.int 7, V.int 5, V.int 9, V.int 14, V.int 2, V.int 10, V.int 6, V.int 1, V.int 13, V.int 15, V.int 3, V.int 4, V.int 8] ri12_PRODUCTS.toList)
    (rl13_PRODUCTS : K.lookup r13_PRODUCTS = some ⟨.type "tuple", none, .seq ri13_PRODUCTS rn13_PRODUCTS, rz13_PRODUCTS⟩)
    (rv13_PRODUCTS : Vals [V.int 0, V.int 13, V.int 9, V.int 4, V.int 1, V.int 12, V.int 8, V.int 5, V.int 2, V.int 15, V.int 11, V.int 6, V.int 3, V.int 14, V.int 10, V.int 7] ri13_PRODUCTS.toList)
    (rl14_PRODUCTS : K.lookup r14_PRODUCTS = some ⟨.type "tuple", none, .seq ri14_PRODUCTS rn14_PRODUCTS, rz14_PRODUCTS⟩)
    (rv14_PRODUCTS : Vals [V.int 0, V.int 14, V.int 15, V.int 1, V.int 13, V.int 3, V.int 2, V.int 12, V.int 9, V.int 7, V.int 6, V.int 8, V.int 4, V.int 10, V.int 11, V.int 5] ri14_PRODUCTS.toList)
    (rl15_PRODUCTS : K.lookup r15_PRODUCTS = some ⟨.type "tuple", none, .seq ri15_PRODUCTS rn15_PRODUCTS, rz15_PRODUCTS⟩)
    (rv15_PRODUCTS : Vals [V.int 0, V.int 15, V.int 13, V.int 2, V.int 9, V.int 6, V.int 4, V.int 11, V.int 1, V.int 14, V.int 12, V.int 3, V.int 8, V.int 7, V.int 5, V.int 10] ri15_PRODUCTS.toList)
    (z_len : PySem.W.nsIn K mainGlobals "len" = some none)
    (z_int : PySem.W.nsIn K mainGlobals "int" = some none)
    (z_isinstance : PySem.W.nsIn K mainGlobals "isinstance" = some none)
    (z_bool : PySem.W.nsIn K mainGlobals "bool" = some none)
    (z_range : PySem.W.nsIn K mainGlobals "range" = some none)
    (a_ArchiveError : PySem.W.nsIn K mainGlobals "ArchiveError" = some (some (.ref C_ArchiveError)))
    (x_ArchiveError : PySem.W.excIn K C_ArchiveError [.type "ValueError", .type "Exception", .type "BaseException", .type "object"] "ValueError.__new__" = true)
    (k_ArchiveError : PySem.W.keepIn K (.ref C_ArchiveError) = true)
    (b_ArchiveError : PySem.W.subIn K (.ref C_ArchiveError) (.type "BaseException") = some true)
    (t_ArchiveError : PySem.W.typeIn K (.ref C_ArchiveError) = some (.type "type"))
    (g_ArchiveError : PySem.W.findIn K (.ref C_ArchiveError) "__getattribute__" = some (some (.builtin "BaseException.__getattribute__")))
    (h_ArchiveError : PySem.W.findIn K (.ref C_ArchiveError) "__getattr__" = some none)
    (d_ArchiveError : PySem.W.hasDictIn K C_ArchiveError = true)
    (o_ArchiveError : PySem.W.findIn K (.ref C_ArchiveError) "__class__" = some (some (.builtin "object.__class__")))
    (n_ArchiveError : PySem.W.specialIn K (.builtin "object.__class__") "__get__" = some (some (.builtin "getset_descriptor.__get__")))
    (m_ArchiveError : PySem.W.takesIn K (.builtin "object.__class__") = some true)
    (r_ArchiveError : PySem.W.mroIn K C_ArchiveError (.type "object") = some true)
    (i_ArchiveError : PySem.W.isClsIn K C_ArchiveError = true)
    (a_InvalidSymbol : PySem.W.nsIn K mainGlobals "InvalidSymbol" = some (some (.ref C_InvalidSymbol)))
    (x_InvalidSymbol : PySem.W.excIn K C_InvalidSymbol [.type "ValueError", .type "Exception", .type "BaseException", .type "object"] "ValueError.__new__" = true)
    (k_InvalidSymbol : PySem.W.keepIn K (.ref C_InvalidSymbol) = true)
    (b_InvalidSymbol : PySem.W.subIn K (.ref C_InvalidSymbol) (.type "BaseException") = some true)
    (t_InvalidSymbol : PySem.W.typeIn K (.ref C_InvalidSymbol) = some (.type "type"))
    (g_InvalidSymbol : PySem.W.findIn K (.ref C_InvalidSymbol) "__getattribute__" = some (some (.builtin "BaseException.__getattribute__")))
    (h_InvalidSymbol : PySem.W.findIn K (.ref C_InvalidSymbol) "__getattr__" = some none)
    (d_InvalidSymbol : PySem.W.hasDictIn K C_InvalidSymbol = true)
    (o_InvalidSymbol : PySem.W.findIn K (.ref C_InvalidSymbol) "__class__" = some (some (.builtin "object.__class__")))
    (n_InvalidSymbol : PySem.W.specialIn K (.builtin "object.__class__") "__get__" = some (some (.builtin "getset_descriptor.__get__")))
    (m_InvalidSymbol : PySem.W.takesIn K (.builtin "object.__class__") = some true)
    (r_InvalidSymbol : PySem.W.mroIn K C_InvalidSymbol (.type "object") = some true)
    (i_InvalidSymbol : PySem.W.isClsIn K C_InvalidSymbol = true)
    (hs_InvalidSymbol_ArchiveError : PySem.W.subIn K (.ref C_InvalidSymbol) (.ref C_ArchiveError) = some true)
    (hq_InvalidSymbol_InvalidSymbol : PySem.W.subIn K (.ref C_InvalidSymbol) (.ref C_InvalidSymbol) = some true)
    : ∃ fd : FuncData, (∀ (s : Shared) (v : Value), BindsTo s fd ⟨[v], []⟩ [("script", v)]) ∧ ∀ base : Heap, K.In base → base.Ns mainGlobals mg → FnOk P w K mg base CX0 5 fa fd ["script"] (spLaw K) :=
  law_mk (T := ⟨dn_mk X G a_is_symbol l_is_symbol c_is_symbol k_is_symbol (fun _ _ _ _ _ _ us hl => match us, hl with | [_], _ => rfl),
    dn_mk X G a_add l_add c_add k_add (fun _ _ _ _ _ _ us hl => match us, hl with | [_, _], _ => rfl),
    dn_mk X G a_multiply l_multiply c_multiply k_multiply (fun _ _ _ _ _ _ us hl => match us, hl with | [_, _], _ => rfl),
    dn_mk X G a_inverse l_inverse c_inverse k_inverse (fun _ _ _ _ _ _ us hl => match us, hl with | [_], _ => rfl),
    dn_mk X G a__check_symbol l__check_symbol c__check_symbol k__check_symbol (fun _ _ _ _ _ _ us hl => match us, hl with | [_], _ => rfl),
    dn_mk X G a__law_cell l__law_cell c__law_cell k__law_cell (fun _ _ _ _ _ _ us hl => match us, hl with | [_, _], _ => rfl),
    dn_mk X G a__law_is_int l__law_is_int c__law_is_int k__law_is_int (fun _ _ _ _ _ _ us hl => match us, hl with | [_], _ => rfl),
    dn_mk X G a__law_times l__law_times c__law_times k__law_times (fun _ _ _ _ _ _ us hl => match us, hl with | [_, _], _ => rfl),
    dn_mk X G a__law_tried l__law_tried c__law_tried k__law_tried (fun _ _ _ _ _ _ us hl => match us, hl with | [_, _, _], _ => rfl),
    dn_mk X G a_law l_law c_law k_law (fun _ _ _ _ _ _ us hl => match us, hl with | [_], _ => rfl),
    cv_int X G a_SYMBOLS,
    CT2.ctt_mk (rs := [r0_PRODUCTS, r1_PRODUCTS, r2_PRODUCTS, r3_PRODUCTS, r4_PRODUCTS, r5_PRODUCTS, r6_PRODUCTS, r7_PRODUCTS, r8_PRODUCTS, r9_PRODUCTS, r10_PRODUCTS, r11_PRODUCTS, r12_PRODUCTS, r13_PRODUCTS, r14_PRODUCTS, r15_PRODUCTS]) X G a_PRODUCTS l_PRODUCTS e_PRODUCTS (by show 16 ≤ sizeLine; decide) (.cons (CT2.rowAt_mk rl0_PRODUCTS rv0_PRODUCTS (by decide)) (.cons (CT2.rowAt_mk rl1_PRODUCTS rv1_PRODUCTS (by decide)) (.cons (CT2.rowAt_mk rl2_PRODUCTS rv2_PRODUCTS (by decide)) (.cons (CT2.rowAt_mk rl3_PRODUCTS rv3_PRODUCTS (by decide)) (.cons (CT2.rowAt_mk rl4_PRODUCTS rv4_PRODUCTS (by decide)) (.cons (CT2.rowAt_mk rl5_PRODUCTS rv5_PRODUCTS (by decide)) (.cons (CT2.rowAt_mk rl6_PRODUCTS rv6_PRODUCTS (by decide)) (.cons (CT2.rowAt_mk rl7_PRODUCTS rv7_PRODUCTS (by decide)) (.cons (CT2.rowAt_mk rl8_PRODUCTS rv8_PRODUCTS (by decide)) (.cons (CT2.rowAt_mk rl9_PRODUCTS rv9_PRODUCTS (by decide)) (.cons (CT2.rowAt_mk rl10_PRODUCTS rv10_PRODUCTS (by decide)) (.cons (CT2.rowAt_mk rl11_PRODUCTS rv11_PRODUCTS (by decide)) (.cons (CT2.rowAt_mk rl12_PRODUCTS rv12_PRODUCTS (by decide)) (.cons (CT2.rowAt_mk rl13_PRODUCTS rv13_PRODUCTS (by decide)) (.cons (CT2.rowAt_mk rl14_PRODUCTS rv14_PRODUCTS (by decide)) (.cons (CT2.rowAt_mk rl15_PRODUCTS rv15_PRODUCTS (by decide)) .nil)))))))))))))))),
    PySem.W.mg_none_of X G z_len,
    PySem.W.mg_none_of X G z_int,
    PySem.W.mg_none_of X G z_isinstance,
    PySem.W.mg_none_of X G z_bool,
    PySem.W.mg_none_of X G z_range,
    xcl_mk X G a_ArchiveError x_ArchiveError k_ArchiveError b_ArchiveError t_ArchiveError g_ArchiveError h_ArchiveError d_ArchiveError o_ArchiveError n_ArchiveError m_ArchiveError r_ArchiveError i_ArchiveError,
    xcl_mk X G a_InvalidSymbol x_InvalidSymbol k_InvalidSymbol b_InvalidSymbol t_InvalidSymbol g_InvalidSymbol h_InvalidSymbol d_InvalidSymbol o_InvalidSymbol n_InvalidSymbol m_InvalidSymbol r_InvalidSymbol i_InvalidSymbol,
    hs_InvalidSymbol_ArchiveError,
    kit_own i_InvalidSymbol t_InvalidSymbol hq_InvalidSymbol_InvalidSymbol (fun _ => rfl)⟩) hfa
theorem walk {l : PySem.W.OpenLaw} {q : Program} {loose : List Str} {XP : (Str → Option Value) → Heap → Prop} {YP : World → Heap → Prop} {d : DefRec} {K : Params → PySem.W.Frag} (hn : l.most = some 63) (hdf : d.params.defaults = [])
    (hY : ∀ (w : World) (h : Heap), YP w h → (K w.params).In h)
    (F : ∀ (w : World) (mg : Str → Option Value) (fa : Addr) (h : Heap), (K w.params).In h → h.Ns mainGlobals mg → mg d.name = some (.ref fa) →
      ∃ fd : FuncData, (∀ (s : Shared) (u : Value), BindsTo s fd ⟨[u], []⟩ [("script", u)]) ∧ ∀ base : Heap, (K w.params).In base → base.Ns mainGlobals mg → FnOk l.prog w (K w.params) mg base CX0 5 fa fd ["script"] (spLaw (K w.params))) :
    PySem.W.WalkO q loose XP YP l.row.toRowW d [] (fun f vs => PySem.call f vs) :=
  L2.walk_of (n := 63) (k := 5) (x := "script") (CX := fun _ => CX0) (sp := fun w => spLaw (K w.params)) hn (by decide) hdf ⟨rfl, by decide, by decide⟩ hY F (fun _ _ a ns hl _ hS => ⟨a, ns, rfl, hS, hl, fun _ => rfl⟩) fun _ _ _ _ _ z => z
end My
open PySem PySem.W PyProof.Rows in
set_option maxRecDepth 100000 in
set_option maxHeartbeats 0 in
theorem PySem.Challenge.cw_scanpages_k25_field_holds : PySem.Challenge.rw_scanpages_k25_field.Holds := by
  w_on; o_law; k_head; (case hw => w_witness2)
  k_fill
  refine My.walk (l := PySem.Challenge.rw_scanpages_k25_field) rfl rfl (fun w h Y => PySem.W.kIn_of Y) ?F
  case F =>
    intro w mg fa h KX G hmg
    refine' My.law_end KX G hmg ?a_is_symbol ?l_is_symbol ?c_is_symbol ?k_is_symbol ?a_add ?l_add ?c_add ?k_add ?a_multiply ?l_multiply ?c_multiply ?k_multiply ?a_inverse ?l_inverse ?c_inverse ?k_inverse ?a__check_symbol ?l__check_symbol ?c__check_symbol ?k__check_symbol ?a__law_cell ?l__law_cell ?c__law_cell ?k__law_cell ?a__law_is_int ?l__law_is_int ?c__law_is_int ?k__law_is_int ?a__law_times ?l__law_times ?c__law_times ?k__law_times ?a__law_tried ?l__law_tried ?c__law_tried ?k__law_tried ?a_law ?l_law ?c_law ?k_law ?a_SYMBOLS ?a_PRODUCTS ?l_PRODUCTS ?e_PRODUCTS ?rl0_PRODUCTS ?rv0_PRODUCTS ?rl1_PRODUCTS ?rv1_PRODUCTS ?rl2_PRODUCTS ?rv2_PRODUCTS ?rl3_PRODUCTS ?rv3_PRODUCTS ?rl4_PRODUCTS ?rv4_PRODUCTS ?rl5_PRODUCTS ?rv5_PRODUCTS ?rl6_PRODUCTS ?rv6_PRODUCTS ?rl7_PRODUCTS ?rv7_PRODUCTS ?rl8_PRODUCTS ?rv8_PRODUCTS ?rl9_PRODUCTS ?rv9_PRODUCTS ?rl10_PRODUCTS ?rv10_PRODUCTS ?rl11_PRODUCTS ?rv11_PRODUCTS ?rl12_PRODUCTS ?rv12_PRODUCTS ?rl13_PRODUCTS ?rv13_PRODUCTS ?rl14_PRODUCTS ?rv14_PRODUCTS ?rl15_PRODUCTS ?rv15_PRODUCTS ?z_len ?z_int ?z_isinstance ?z_bool ?z_range ?a_ArchiveError ?x_ArchiveError ?k_ArchiveError ?b_ArchiveError ?t_ArchiveError ?g_ArchiveError ?h_ArchiveError ?d_ArchiveError ?o_ArchiveError ?n_ArchiveError ?m_ArchiveError ?r_ArchiveError ?i_ArchiveError ?a_InvalidSymbol ?x_InvalidSymbol ?k_InvalidSymbol ?b_InvalidSymbol ?t_InvalidSymbol ?g_InvalidSymbol ?h_InvalidSymbol ?d_InvalidSymbol ?o_InvalidSymbol ?n_InvalidSymbol ?m_InvalidSymbol ?r_InvalidSymbol ?i_InvalidSymbol ?hs_InvalidSymbol_ArchiveError ?hq_InvalidSymbol_InvalidSymbol
    (case a_is_symbol => k_is)
    (case l_is_symbol => k_is)
    (case c_is_symbol => k_is)
    (case k_is_symbol => k_is)
    (case a_add => k_is)
    (case l_add => k_is)
    (case c_add => k_is)
    (case k_add => k_is)
    (case a_multiply => k_is)
    (case l_multiply => k_is)
    (case c_multiply => k_is)
    (case k_multiply => k_is)
    (case a_inverse => k_is)
    (case l_inverse => k_is)
    (case c_inverse => k_is)
    (case k_inverse => k_is)
    (case a__check_symbol => k_is)
    (case l__check_symbol => k_is)
    (case c__check_symbol => k_is)
    (case k__check_symbol => k_is)
    (case a__law_cell => k_is)
    (case l__law_cell => k_is)
    (case c__law_cell => k_is)
    (case k__law_cell => k_is)
    (case a__law_is_int => k_is)
    (case l__law_is_int => k_is)
    (case c__law_is_int => k_is)
    (case k__law_is_int => k_is)
    (case a__law_times => k_is)
    (case l__law_times => k_is)
    (case c__law_times => k_is)
    (case k__law_times => k_is)
    (case a__law_tried => k_is)
    (case l__law_tried => k_is)
    (case c__law_tried => k_is)
    (case k__law_tried => k_is)
    (case a_law => k_is)
    (case l_law => k_is)
    (case c_law => k_is)
    (case k_law => k_is)
    (case a_SYMBOLS => k_is)
    (case a_PRODUCTS => k_is)
    (case l_PRODUCTS => k_is)
    (case e_PRODUCTS => rfl)
    (case rl0_PRODUCTS => k_is)
    (case rv0_PRODUCTS => exact .cons ⟨_, rfl⟩ (.cons ⟨_, rfl⟩ (.cons ⟨_, rfl⟩ (.cons ⟨_, rfl⟩ (.cons ⟨_, rfl⟩ (.cons ⟨_, rfl⟩ (.cons ⟨_, rfl⟩ (.cons ⟨_, rfl⟩ (.cons ⟨_, rfl⟩ (.cons ⟨_, rfl⟩ (.cons ⟨_, rfl⟩ (.cons ⟨_, rfl⟩ (.cons ⟨_, rfl⟩ (.cons ⟨_, rfl⟩ (.cons ⟨_, rfl⟩ (.cons ⟨_, rfl⟩ (.nil)))))))))))))))))
    (case rl1_PRODUCTS => k_is)
    (case rv1_PRODUCTS => exact .cons ⟨_, rfl⟩ (.cons ⟨_, rfl⟩ (.cons ⟨_, rfl⟩ (.cons ⟨_, rfl⟩ (.cons ⟨_, rfl⟩ (.cons ⟨_, rfl⟩ (.cons ⟨_, rfl⟩ (.cons ⟨_, rfl⟩ (.cons ⟨_, rfl⟩ (.cons ⟨_, rfl⟩ (.cons ⟨_, rfl⟩ (.cons ⟨_, rfl⟩ (.cons ⟨_, rfl⟩ (.cons ⟨_, rfl⟩ (.cons ⟨_, rfl⟩ (.cons ⟨_, rfl⟩ (.nil)))))))))))))))))
    (case rl2_PRODUCTS => k_is)
    (case rv2_PRODUCTS => exact .cons ⟨_, rfl⟩ (.cons ⟨_, rfl⟩ (.cons ⟨_, rfl⟩ (.cons ⟨_, rfl⟩ (.cons ⟨_, rfl⟩ (.cons ⟨_, rfl⟩ (.cons ⟨_, rfl⟩ (.cons ⟨_, rfl⟩ (.cons ⟨_, rfl⟩ (.cons ⟨_, rfl⟩ (.cons ⟨_, rfl⟩ (.cons ⟨_, rfl⟩ (.cons ⟨_, rfl⟩ (.cons ⟨_, rfl⟩ (.cons ⟨_, rfl⟩ (.cons ⟨_, rfl⟩ (.nil)))))))))))))))))
    (case rl3_PRODUCTS => k_is)
    (case rv3_PRODUCTS => exact .cons ⟨_, rfl⟩ (.cons ⟨_, rfl⟩ (.cons ⟨_, rfl⟩ (.cons ⟨_, rfl⟩ (.cons ⟨_, rfl⟩ (.cons ⟨_, rfl⟩ (.cons ⟨_, rfl⟩ (.cons ⟨_, rfl⟩ (.cons ⟨_, rfl⟩ (.cons ⟨_, rfl⟩ (.cons ⟨_, rfl⟩ (.cons ⟨_, rfl⟩ (.cons ⟨_, rfl⟩ (.cons ⟨_, rfl⟩ (.cons ⟨_, rfl⟩ (.cons ⟨_, rfl⟩ (.nil)))))))))))))))))
    (case rl4_PRODUCTS => k_is)
    (case rv4_PRODUCTS => exact .cons ⟨_, rfl⟩ (.cons ⟨_, rfl⟩ (.cons ⟨_, rfl⟩ (.cons ⟨_, rfl⟩ (.cons ⟨_, rfl⟩ (.cons ⟨_, rfl⟩ (.cons ⟨_, rfl⟩ (.cons ⟨_, rfl⟩ (.cons ⟨_, rfl⟩ (.cons ⟨_, rfl⟩ (.cons ⟨_, rfl⟩ (.cons ⟨_, rfl⟩ (.cons ⟨_, rfl⟩ (.cons ⟨_, rfl⟩ (.cons ⟨_, rfl⟩ (.cons ⟨_, rfl⟩ (.nil)))))))))))))))))
    (case rl5_PRODUCTS => k_is)
    (case rv5_PRODUCTS => exact .cons ⟨_, rfl⟩ (.cons ⟨_, rfl⟩ (.cons ⟨_, rfl⟩ (.cons ⟨_, rfl⟩ (.cons ⟨_, rfl⟩ (.cons ⟨_, rfl⟩ (.cons ⟨_, rfl⟩ (.cons ⟨_, rfl⟩ (.cons ⟨_, rfl⟩ (.cons ⟨_, rfl⟩ (.cons ⟨_, rfl⟩ (.cons ⟨_, rfl⟩ (.cons ⟨_, rfl⟩ (.cons ⟨_, rfl⟩ (.cons ⟨_, rfl⟩ (.cons ⟨_, rfl⟩ (.nil)))))))))))))))))
    (case rl6_PRODUCTS => k_is)
    (case rv6_PRODUCTS => exact .cons ⟨_, rfl⟩ (.cons ⟨_, rfl⟩ (.cons ⟨_, rfl⟩ (.cons ⟨_, rfl⟩ (.cons ⟨_, rfl⟩ (.cons ⟨_, rfl⟩ (.cons ⟨_, rfl⟩ (.cons ⟨_, rfl⟩ (.cons ⟨_, rfl⟩ (.cons ⟨_, rfl⟩ (.cons ⟨_, rfl⟩ (.cons ⟨_, rfl⟩ (.cons ⟨_, rfl⟩ (.cons ⟨_, rfl⟩ (.cons ⟨_, rfl⟩ (.cons ⟨_, rfl⟩ (.nil)))))))))))))))))
    (case rl7_PRODUCTS => k_is)
    (case rv7_PRODUCTS => exact .cons ⟨_, rfl⟩ (.cons ⟨_, rfl⟩ (.cons ⟨_, rfl⟩ (.cons ⟨_, rfl⟩ (.cons ⟨_, rfl⟩ (.cons ⟨_, rfl⟩ (.cons ⟨_, rfl⟩ (.cons ⟨_, rfl⟩ (.cons ⟨_, rfl⟩ (.cons ⟨_, rfl⟩ (.cons ⟨_, rfl⟩ (.cons ⟨_, rfl⟩ (.cons ⟨_, rfl⟩ (.cons ⟨_, rfl⟩ (.cons ⟨_, rfl⟩ (.cons ⟨_, rfl⟩ (.nil)))))))))))))))))
    (case rl8_PRODUCTS => k_is)
    (case rv8_PRODUCTS => exact .cons ⟨_, rfl⟩ (.cons ⟨_, rfl⟩ (.cons ⟨_, rfl⟩ (.cons ⟨_, rfl⟩ (.cons ⟨_, rfl⟩ (.cons ⟨_, rfl⟩ (.cons ⟨_, rfl⟩ (.cons ⟨_, rfl⟩ (.cons ⟨_, rfl⟩ (.cons ⟨_, rfl⟩ (.cons ⟨_, rfl⟩ (.cons ⟨_, rfl⟩ (.cons ⟨_, rfl⟩ (.cons ⟨_, rfl⟩ (.cons ⟨_, rfl⟩ (.cons ⟨_, rfl⟩ (.nil)))))))))))))))))
    (case rl9_PRODUCTS => k_is)
    (case rv9_PRODUCTS => exact .cons ⟨_, rfl⟩ (.cons ⟨_, rfl⟩ (.cons ⟨_, rfl⟩ (.cons ⟨_, rfl⟩ (.cons ⟨_, rfl⟩ (.cons ⟨_, rfl⟩ (.cons ⟨_, rfl⟩ (.cons ⟨_, rfl⟩ (.cons ⟨_, rfl⟩ (.cons ⟨_, rfl⟩ (.cons ⟨_, rfl⟩ (.cons ⟨_, rfl⟩ (.cons ⟨_, rfl⟩ (.cons ⟨_, rfl⟩ (.cons ⟨_, rfl⟩ (.cons ⟨_, rfl⟩ (.nil)))))))))))))))))
    (case rl10_PRODUCTS => k_is)
    (case rv10_PRODUCTS => exact .cons ⟨_, rfl⟩ (.cons ⟨_, rfl⟩ (.cons ⟨_, rfl⟩ (.cons ⟨_, rfl⟩ (.cons ⟨_, rfl⟩ (.cons ⟨_, rfl⟩ (.cons ⟨_, rfl⟩ (.cons ⟨_, rfl⟩ (.cons ⟨_, rfl⟩ (.cons ⟨_, rfl⟩ (.cons ⟨_, rfl⟩ (.cons ⟨_, rfl⟩ (.cons ⟨_, rfl⟩ (.cons ⟨_, rfl⟩ (.cons ⟨_, rfl⟩ (.cons ⟨_, rfl⟩ (.nil)))))))))))))))))
    (case rl11_PRODUCTS => k_is)
    (case rv11_PRODUCTS => exact .cons ⟨_, rfl⟩ (.cons ⟨_, rfl⟩ (.cons ⟨_, rfl⟩ (.cons ⟨_, rfl⟩ (.cons ⟨_, rfl⟩ (.cons ⟨_, rfl⟩ (.cons ⟨_, rfl⟩ (.cons ⟨_, rfl⟩ (.cons ⟨_, rfl⟩ (.cons ⟨_, rfl⟩ (.cons ⟨_, rfl⟩ (.cons ⟨_, rfl⟩ (.cons ⟨_, rfl⟩ (.cons ⟨_, rfl⟩ (.cons ⟨_, rfl⟩ (.cons ⟨_, rfl⟩ (.nil)))))))))))))))))
    (case rl12_PRODUCTS => k_is)
    (case rv12_PRODUCTS => exact .cons ⟨_, rfl⟩ (.cons ⟨_, rfl⟩ (.cons ⟨_, rfl⟩ (.cons ⟨_, rfl⟩ (.cons ⟨_, rfl⟩ (.cons ⟨_, rfl⟩ (.cons ⟨_, rfl⟩ (.cons ⟨_, rfl⟩ (.cons ⟨_, rfl⟩ (.cons ⟨_, rfl⟩ (.cons ⟨_, rfl⟩ (.cons ⟨_, rfl⟩ (.cons ⟨_, rfl⟩ (.cons ⟨_, rfl⟩ (.cons ⟨_, rfl⟩ (.cons ⟨_, rfl⟩ (.nil)))))))))))))))))
    (case rl13_PRODUCTS => k_is)
    (case rv13_PRODUCTS => exact .cons ⟨_, rfl⟩ (.cons ⟨_, rfl⟩ (.cons ⟨_, rfl⟩ (.cons ⟨_, rfl⟩ (.cons ⟨_, rfl⟩ (.cons ⟨_, rfl⟩ (.cons ⟨_, rfl⟩ (.cons ⟨_, rfl⟩ (.cons ⟨_, rfl⟩ (.cons ⟨_, rfl⟩ (.cons ⟨_, rfl⟩ (.cons ⟨_, rfl⟩ (.cons ⟨_, rfl⟩ (.cons ⟨_, rfl⟩ (.cons ⟨_, rfl⟩ (.cons ⟨_, rfl⟩ (.nil)))))))))))))))))
    (case rl14_PRODUCTS => k_is)
    (case rv14_PRODUCTS => exact .cons ⟨_, rfl⟩ (.cons ⟨_, rfl⟩ (.cons ⟨_, rfl⟩ (.cons ⟨_, rfl⟩ (.cons ⟨_, rfl⟩ (.cons ⟨_, rfl⟩ (.cons ⟨_, rfl⟩ (.cons ⟨_, rfl⟩ (.cons ⟨_, rfl⟩ (.cons ⟨_, rfl⟩ (.cons ⟨_, rfl⟩ (.cons ⟨_, rfl⟩ (.cons ⟨_, rfl⟩ (.cons ⟨_, rfl⟩ (.cons ⟨_, rfl⟩ (.cons ⟨_, rfl⟩ (.nil)))))))))))))))))
    (case rl15_PRODUCTS => k_is)
    (case rv15_PRODUCTS => exact .cons ⟨_, rfl⟩ (.cons ⟨_, rfl⟩ (.cons ⟨_, rfl⟩ (.cons ⟨_, rfl⟩ (.cons ⟨_, rfl⟩ (.cons ⟨_, rfl⟩ (.cons ⟨_, rfl⟩ (.cons ⟨_, rfl⟩ (.cons ⟨_, rfl⟩ (.cons ⟨_, rfl⟩ (.cons ⟨_, rfl⟩ (.cons ⟨_, rfl⟩ (.cons ⟨_, rfl⟩ (.cons ⟨_, rfl⟩ (.cons ⟨_, rfl⟩ (.cons ⟨_, rfl⟩ (.nil)))))))))))))))))
    (case z_len => k_is)
    (case z_int => k_is)
    (case z_isinstance => k_is)
    (case z_bool => k_is)
    (case z_range => k_is)
    (case a_ArchiveError => k_is)
    (case x_ArchiveError => k_exc)
    (case k_ArchiveError => k_is)
    (case b_ArchiveError => k_is)
    (case t_ArchiveError => k_is)
    (case g_ArchiveError => k_is)
    (case h_ArchiveError => k_is)
    (case d_ArchiveError => k_is)
    (case o_ArchiveError => k_is)
    (case n_ArchiveError => k_is)
    (case m_ArchiveError => k_is)
    (case r_ArchiveError => k_is)
    (case i_ArchiveError => k_is)
    (case a_InvalidSymbol => k_is)
    (case x_InvalidSymbol => k_exc)
    (case k_InvalidSymbol => k_is)
    (case b_InvalidSymbol => k_is)
    (case t_InvalidSymbol => k_is)
    (case g_InvalidSymbol => k_is)
    (case h_InvalidSymbol => k_is)
    (case d_InvalidSymbol => k_is)
    (case o_InvalidSymbol => k_is)
    (case n_InvalidSymbol => k_is)
    (case m_InvalidSymbol => k_is)
    (case r_InvalidSymbol => k_is)
    (case i_InvalidSymbol => k_is)
    (case hs_InvalidSymbol_ArchiveError => first | k_is | rfl)
    (case hq_InvalidSymbol_InvalidSymbol => first | k_is | rfl)
#print axioms PySem.Challenge.cw_scanpages_k25_field_holds
