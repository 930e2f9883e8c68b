import PyProof.Rows.All
import Wide.All
import OpenK.AllK
import Wide.FinOn
import PyProof.EqAt
import PyProof.EqKinds
import PyProof.TupleCall
import HandS.ForMost
import HandS.ForExc
import HandS.RaiseMore
import HandS.FStr
import HandS.IsInst
import HandS.ExcIs
import HandS.Wide
import HandS.Flow
import HandS.Conv
import HandS.Evl
import HandS.TupAny
import HandS.Style
import HandS.ExcCtx
import HandS.HotCalls
import HandS.Walk
import HandS.DictTup
import HandS.RevRange
import PySem.Challenge.RW_scanpages_k19_pack
set_option Elab.async false
set_option linter.all false
set_option maxRecDepth 100000
set_option maxHeartbeats 4000000
/-! Cm: what all our proofs share -/
namespace Cm
open PySem PySem.Spec PyProof.Rows L2

/-! ### defs of the module, and what they promise -/
/-- the def x stands at some address behind the top -/
def Dn (K : PySem.W.Frag) (mg : Str → Option Value) (x : Str) (st : Stmt) (ps : List Str) : Prop :=
  ∃ (f : Addr) (fd : FuncData), Fun K x x st f fd ∧ mg x = some (.ref f) ∧ Binds K fd ps []
/-- the def x keeps the promise sp -/
def Ok (P : Program) (w : World) (K : PySem.W.Frag) (mg : Str → Option Value) (base : Heap) (CX : CXT) (k : Nat) (x : Str) (ps : List Str) (sp : Sp) : Prop :=
  ∃ (f : Addr) (fd : FuncData), FnOk P w K mg base CX k f fd ps sp ∧ mg x = some (.ref f) ∧ PySem.W.keepIn K (.ref f) = true ∧ Binds K fd ps []
theorem ok_of {P : Program} {w : World} {K : PySem.W.Frag} {mg : Str → Option Value} {base : Heap} {CX : CXT} {k : Nat} {x : Str} {st : Stmt} {ps : List Str} {sp : Sp} (d : Dn K mg x st ps)
    (h : ∀ f fd, Fun K x x st f fd → FnOk P w K mg base CX k f fd ps sp) : Ok P w K mg base CX k x ps sp := by
  obtain ⟨f, fd, F, g, b⟩ := d
  exact ⟨f, fd, h f fd F, g, F.kp, b⟩
section
variable {X : Cx} {CX : CXT} {k : Nat} {ps : List Str} {sp : Sp} {E : XK} {x : Str} {p pos : Pos} {e : Expr} {es : List Expr} {t : TA}
theorem pe_callO (G : Ok X.prog X.w X.K X.mg X.base CX k x ps sp) (hr : Room k X.A) (hx : Passes CX X E) (ha : PA X (e :: es) t) (hg : Gl X x := by rfl)
    (hdb : (x == ("__debug__" : Str)) = false := by decide) (he : starEach (e :: es) X.env = (false, eval e X.env) :: starEach es X.env := by rfl) (hpl : (backTo pos (starEach es X.env)).any (·.1) = false := by rfl) :
    PE X (.Call (.Name x p) (e :: es) [] pos) (tCall sp [] E t) := by
  obtain ⟨f, fd, F, g, kp, b⟩ := G
  exact pe_call F hr hg g kp b .nil hx ha hdb he hpl
theorem pe_callO0 (G : Ok X.prog X.w X.K X.mg X.base CX k x ps sp) (hr : Room k X.A) (hx : Passes CX X E) (hg : Gl X x := by rfl) (hdb : (x == ("__debug__" : Str)) = false := by decide) :
    PE X (.Call (.Name x p) [] [] pos) (tCall sp [] E tNil) := by
  obtain ⟨f, fd, F, g, kp, b⟩ := G
  exact pe_call0 F hr hg g kp b .nil hx hdb
theorem pe_callT {Es : L2.St → XK} (G : Ok X.prog X.w X.K X.mg X.base CX k x ps sp) (hr : Room k X.A) (hx : ∀ σ, PassesAt CX X σ (Es σ)) (ha : PA X (e :: es) t) (hg : Gl X x := by rfl)
    (hdb : (x == ("__debug__" : Str)) = false := by decide) (he : starEach (e :: es) X.env = (false, eval e X.env) :: starEach es X.env := by rfl) (hpl : (backTo pos (starEach es X.env)).any (·.1) = false := by rfl) :
    PE X (.Call (.Name x p) (e :: es) [] pos) (tCallS sp Es t) := by
  obtain ⟨f, fd, F, g, kp, b⟩ := G
  exact pe_callS F hr hg g kp b hx ha hdb he hpl
end
/-! ### errors: raised where nothing is handled -/
/-- what leaves a def: L2N's way -/
abbrev CXN (P : Program) (w : World) : CXT := L2N.CX P w
theorem passN {X : Cx} : Passes (CXN X.prog X.w) X E0 := fun _ _ _ _ _ _ _ h => by
  obtain ⟨_, _, _, _, _, _, _, _, _, _, _, _, z⟩ := h
  exact z.elim
theorem takesN {X : Cx} : L2N.Takes X (fun _ _ _ _ => False) := fun _ _ x => by
  obtain ⟨_, _, _, _, _, _, _, _, _, _, _, _, _, _, _, _, z⟩ := x
  exact z.elim
theorem passX {X : Cx} {E E' : XK} (tk : L2N.Takes X (fun cls d _ H => E cls d H)) (h : ∀ cls d H, E' cls d H → E cls d H) : Passes (CXN X.prog X.w) X E' := fun pins σ H s e s' I c => tk e s' (L2N.XE.of_call I (fun cls d H' q => h cls d H' q) c)
theorem okN {P : Program} {w : World} {K : PySem.W.Frag} {mg : Str → Option Value} {base : Heap} {x qual : Str} {st : Stmt} {f : Addr} {fd : FuncData} {N ps : List Str} {k : Nat} {sp : Sp} (F : Fun K x qual st f fd) (S : FnScope N ps (defScope st)) (len : ∀ vs H Q E, sp vs H Q E → vs.length = ps.length)
    (hbody : ∀ (cdv : Value) (A : Around) (outer : List Env) (s : Shared) (H : Hp) (vs : List V) (Q : VK) (E : XK), Room k (A.deeper (envOfC qual (defScope st) s.heap.objs.size f cdv)) → sp vs H Q E →
      ∃ t, PSs (cxOf (CXN P w) P w K mg base N qual (defScope st) f cdv A outer s H E) (defBody st) t ∧ t { nx := fun _ H' => Q .non H', rt := Q } (L2.start N vs) H) : FnOk P w K mg base (CXN P w) (k + 1) f fd ps sp := by
  obtain ⟨oc, od, kV, doc, pm, an, cdv, ct, osl, rfl, lk, hcd⟩ := F.ex
  exact fn_of lk hcd S len fun A outer s H vs Q E hr hsp => hbody cdv A outer s H vs Q E hr hsp
section
variable {X : Cx}
/-- X(e) -/
theorem pmk_own1 {C : Addr} {bmB : List Value} {B newId initId : String} {x : Str} {e : Expr} {ta : TE} {p pos : Pos} (F : ExcBaseFacts B newId initId bmB) (q : PySem.W.excIn X.K C bmB newId = true) (gC : X.mg x = some (.ref C)) (kC : PySem.W.keepIn X.K (.ref C) = true) (r : Raises X (.ref C)) (hg : Gl X x)
    (he : PE X e ta) (hs : starEach [e] X.env = (false, eval e X.env) :: starEach [] X.env := by rfl) (hdb : (x == ("__debug__" : Str)) = false := by decide) :
    L2N.PMk X (.Call (.Name x p) [e] [] pos) (fun σ H Q => ta σ H fun _ H1 => Q (.ref C) none H1) := by
  intro pins s σ H Q I h
  refine wpAny_Call_Name_kw (ld_glob I hg gC ?_ hdb)
  refine PySem.W.callWith_K (h₀ := X.base) I.ok.mod.kin kC ?_ hs (by rfl)
  rw [hs]
  show wpAny _ _ (spliced ((false, eval e X.env) :: backTo pos (starEach [] X.env))) _ _ s
  refine Calls.spliced_cons (thn (he.run pins s σ H _ I h) fun u s1 ⟨v, H1, I1, r1, q1⟩ => ?_)
  refine Calls.spliced_nil ⟨I1.kIn, ?_⟩
  show wpAny _ _ (call (.ref C) [u]) _ _ _
  obtain ⟨bm, N, nm, qn, bs, hdct, sn, sub, ab, col, dd, k0, k1, k2, k3, k5, mN, hC, hN, hni, T⟩ := exc_obj I1.kIn q
  refine wpAny_call_exc_subT F T hC hN hni (fun h' e hm => ?_) (by show 1 ≤ sizeLine; rw [sizeLine_eq]; omega)
  exact L2N.mk_of I1 hm r q1 (I1.hok.gone hm.new)
end
/-! ### defs called within an except suite -/
def OkH (P : Program) (w : World) (K : PySem.W.Frag) (mg : Str → Option Value) (base : Heap) (CX : CXT) (k : Nat) (x : Str) (ps : List Str) (sp : Sp) : Prop :=
  ∃ (f : Addr) (fd : FuncData), L2H.FnH P w K mg base CX k f fd ps sp ∧ mg x = some (.ref f) ∧ PySem.W.keepIn K (.ref f) = true ∧ Binds K fd ps []
theorem okH_of {P : Program} {w : World} {K : PySem.W.Frag} {mg : Str → Option Value} {base : Heap} {k : Nat} {x : Str} {st : Stmt} {N ps : List Str} {sp : Sp} (d : Dn K mg x st ps) (S : FnScope N ps (defScope st)) (len : ∀ vs H Q E, sp vs H Q E → vs.length = ps.length)
    (hbody : ∀ (f : Addr) (cdv : Value) (A : Around) (outer : List Env) (s : Shared) (H : Hp) (vs : List V) (Q : VK) (E : XK) (p : Addr × Obj), L2H.Hot1 A p → L2H.RoomH k (A.deeper (envOfC x (defScope st) s.heap.objs.size f cdv)) → sp vs H Q E →
      ∃ t, PSs (L2H.cxH CX0 P w K mg base N x (defScope st) f cdv A outer s H E p) (defBody st) t ∧ t { nx := fun _ H' => Q .non H', rt := Q } (L2.start N vs) H) : OkH P w K mg base CX0 (k + 1) x ps sp := by
  obtain ⟨f, fd, F, g, b⟩ := d
  refine ⟨f, fd, ?_, g, F.kp, b⟩
  obtain ⟨oc, od, kV, doc, pm, an, cdv, ct, osl, rfl, lk, hcd⟩ := F.ex
  exact L2H.fn_ofH lk hcd S len fun A outer s H vs Q E p hot hr hsp => hbody f cdv A outer s H vs Q E p hot hr hsp
section
variable {X : Cx} {k : Nat} {ps : List Str} {sp : Sp} {x : Str} {p pos : Pos} {e : Expr} {es : List Expr} {t : TA}
theorem pe_callHO (G : OkH X.prog X.w X.K X.mg X.base CX0 k x ps sp) (hr : L2H.RoomH k X.A) (hc : L2H.HotC X) (ha : PA X (e :: es) t) (hg : Gl X x := by rfl)
    (hdb : (x == ("__debug__" : Str)) = false := by decide) (he : starEach (e :: es) X.env = (false, eval e X.env) :: starEach es X.env := by rfl) (hpl : (backTo pos (starEach es X.env)).any (·.1) = false := by rfl) :
    PE X (.Call (.Name x p) (e :: es) [] pos) (tCallS sp (fun _ => E0) t) := by
  obtain ⟨f, fd, F, g, kp, b⟩ := G
  exact L2H.pe_callH F hr hc hg g kp b (fun _ _ _ _ _ _ _ h => h.elim) ha hdb he hpl
theorem roomS {k j : Nat} {A : Around} {h : Option Value} (hr : Room k A) (hj : j ≤ k) : L2H.RoomH j (A.mark h) := L2H.RoomH.mono (k := k) ⟨hr.dp, hr.un⟩ hj
theorem hotS {a : Addr} {oe : Obj} {cls : Value} {d : Option Addr} {pn : List (Addr × Obj)} (hz : L2N.Zn cls d oe) (hf : ∃ vs, oe.data = .fields vs) : L2H.HotC (X.suite a ((a, oe) :: pn)) := by
  obtain ⟨vs, e⟩ := hf
  exact ⟨(a, oe), ⟨rfl, vs, e, hz.2.2 vs e⟩, List.mem_cons_self⟩
end
/-! ### names of the module -/
/-- the name x of the module holds v -/
def CV (mg : Str → Option Value) (x : Str) (v : V) : Prop := ∃ u, mg x = some u ∧ RelV v u
theorem pe_globC {X : Cx} {x : Str} {v : V} {pos : Pos} (hg : Gl X x) (h : CV X.mg x v) (hd : (x == ("__debug__" : Str)) = false := by decide) : PE X (.Name x pos) (tC v) := by
  obtain ⟨u, hm, r⟩ := h
  exact pe_glob hg hm r hd
theorem pe_globR {X : Cx} {x : Str} {a : Addr} {pos : Pos} (hg : Gl X x) (h : X.mg x = some (.ref a)) (hd : (x == ("__debug__" : Str)) = false := by decide) : PE X (.Name x pos) (tC (.ref a)) := pe_glob hg h rfl hd
/-! ### tests -/
theorem itd {p A B : Prop} [Decidable p] (h1 : p → A) (h2 : ¬ p → B) : if decide p = true then A else B := by
  by_cases h : p
  · rw [if_pos (decide_eq_true h)]
    exact h1 h
  · rw [if_neg (by simp [h])]
    exact h2 h
theorem itb {b : Bool} {A B : Prop} (h1 : b = true → A) (h2 : b = false → B) : if b = true then A else B := by
  cases b with
  | true => exact iteT (h1 rfl)
  | false => exact iteF (h2 rfl)
/-! ### error classes -/
/-- an error class that may have an own __init__ -/
structure XB (K : PySem.W.Frag) (mg : Str → Option Value) (x : Str) (C : Addr) : Prop where
  g : mg x = some (.ref C)
  k : PySem.W.keepIn K (.ref C) = true
  b : PySem.W.subIn K (.ref C) (.type "BaseException") = some true
  t : PySem.W.typeIn K (.ref C) = some (.type "type")
  d : PySem.W.hasDictIn K C = true
  i : PySem.W.isClsIn K C = true
/-- an error class without an own __init__ -/
structure XCl (K : PySem.W.Frag) (mg : Str → Option Value) (x : Str) (C : Addr) : Prop extends XB K mg x C where
  x : PySem.W.excIn K C [.type "ValueError", .type "Exception", .type "BaseException", .type "object"] "ValueError.__new__" = true
  e : ExcC K C
section
variable {K : PySem.W.Frag} {h : Heap} {mg : Str → Option Value} {x : Str} {C : Addr}
theorem xb_mk (X : K.In h) (G : h.Ns mainGlobals mg) (a : PySem.W.nsIn K mainGlobals x = some (some (.ref C))) (k : PySem.W.keepIn K (.ref C) = true) (b : PySem.W.subIn K (.ref C) (.type "BaseException") = some true)
    (t : PySem.W.typeIn K (.ref C) = some (.type "type")) (d : PySem.W.hasDictIn K C = true) (i : PySem.W.isClsIn K C = true) : XB K mg x C := ⟨PySem.W.mg_of X G a, k, b, t, d, i⟩
theorem xcl_mk (X : K.In h) (G : h.Ns mainGlobals mg) (a : PySem.W.nsIn K mainGlobals x = some (some (.ref C)))
    (q : PySem.W.excIn K C [.type "ValueError", .type "Exception", .type "BaseException", .type "object"] "ValueError.__new__" = true) (k : PySem.W.keepIn K (.ref C) = true)
    (b : PySem.W.subIn K (.ref C) (.type "BaseException") = some true) (t : PySem.W.typeIn K (.ref C) = some (.type "type"))
    (hg : PySem.W.findIn K (.ref C) "__getattribute__" = some (some (.builtin "BaseException.__getattribute__"))) (hk : PySem.W.findIn K (.ref C) "__getattr__" = some none) (hd : PySem.W.hasDictIn K C = true)
    (ha : PySem.W.findIn K (.ref C) "__class__" = some (some (.builtin "object.__class__"))) (hn : PySem.W.specialIn K (.builtin "object.__class__") "__get__" = some (some (.builtin "getset_descriptor.__get__")))
    (ht : PySem.W.takesIn K (.builtin "object.__class__") = some true) (hm : PySem.W.mroIn K C (.type "object") = some true) (i : PySem.W.isClsIn K C = true) : XCl K mg x C :=
  ⟨⟨PySem.W.mg_of X G a, k, b, t, hd, i⟩, q, ⟨hg, hk, b, hd, ha, hn, ht, hm⟩⟩
/-- isinstance of an own class -/
theorem kit_own {D : Addr} {r : Bool} (i : PySem.W.isClsIn K C = true) (t : PySem.W.typeIn K (.ref C) = some (.type "type")) (s : PySem.W.subIn K (.ref D) (.ref C) = some r) (hne : (Value.ref D == Value.ref C) = true → r = true) :
    PySem.W.kitOne K (.ref D) (.ref C) = some r := by
  unfold PySem.W.kitOne
  cases e : (Value.ref D == Value.ref C) with
  | true => rw [if_pos rfl, hne e]
  | false =>
    rw [if_neg Bool.false_ne_true]
    have h2 : ((PySem.W.clsIn K C).isSome && PySem.W.typeIn K (.ref C) == some (.type "type")) = true := by
      have h2' : (PySem.W.clsIn K C).isSome = true := i
      rw [h2', t] <;> rfl
    show (if ((PySem.W.clsIn K C).isSome && PySem.W.typeIn K (.ref C) == some (.type "type")) = true then PySem.W.subIn K (.ref D) (.ref C) else none) = some r
    rw [if_pos h2, s]
theorem kit_ve {D : Addr} (s : PySem.W.subIn K (.ref D) (.type "ValueError") = some true) : PySem.W.kitOne K (.ref D) (.type "ValueError") = some true := by
  have e : (Value.ref D == Value.type "ValueError") = false := rfl
  unfold PySem.W.kitOne
  rw [e, if_neg Bool.false_ne_true]
  show (if PySem.W.kitMeta "ValueError" = true then PySem.W.subIn K (.ref D) (.type "ValueError") else none) = some true
  rw [if_pos (by decide +kernel), s]
/-- except C takes an error of the class at D -/
theorem exm_own {D : Addr} {r : Bool} {y : Str} (c : XB K mg y C) (s : PySem.W.subIn K (.ref D) (.ref C) = some r) : PySem.W.exmOne K (.ref D) (.ref C) = some r := PySem.W.exm_ref c.b c.d c.t s
/-! ### the facts of the top -/
theorem dn_mk {st : Stmt} {ps : List Str} {f : Addr} {oc : Value} {od an : Option Addr} {osl : Array (Option Value)} {kV doc pm cdv ct : Value} (X : K.In h) (G : h.Ns mainGlobals mg) (a : PySem.W.nsIn K mainGlobals x = some (some (.ref f)))
    (l : K.lookup f = some ⟨oc, od, .func (PySem.W.fnOf x x (defArgs st) (defBody st) (defScope st) .none kV doc pm an cdv ct), osl⟩) (c : PySem.W.codeIn K cdv x = true) (k : PySem.W.keepIn K (.ref f) = true)
    (hb : ∀ (kV doc pm : Value) (an : Option Addr) (cdv ct : Value) (us : List Value), us.length = ps.length → bindArgs (PySem.W.fnOf x x (defArgs st) (defBody st) (defScope st) .none kV doc pm an cdv ct) ⟨us, []⟩ = pure (ps.zip us)) : Dn K mg x st ps :=
  ⟨f, _, fun_mk l c k, PySem.W.mg_of X G a, (fun_mk l c k).binds hb⟩
theorem cv_int {i : Int} {t : Tok} (X : K.In h) (G : h.Ns mainGlobals mg) (a : PySem.W.nsIn K mainGlobals x = some (some (.int i t))) : CV mg x (.int i) := ⟨_, PySem.W.mg_of X G a, _, rfl⟩
theorem cv_str {i : Str} {t : Tok} (X : K.In h) (G : h.Ns mainGlobals mg) (a : PySem.W.nsIn K mainGlobals x = some (some (.str i t))) : CV mg x (.str i) := ⟨_, PySem.W.mg_of X G a, _, rfl⟩
theorem cv_bl {i : Bool} (X : K.In h) (G : h.Ns mainGlobals mg) (a : PySem.W.nsIn K mainGlobals x = some (some (.bool i))) : CV mg x (.bl i) := ⟨_, PySem.W.mg_of X G a, rfl⟩
/-- the name x of the module holds a tuple of the written part -/
def CT (K : PySem.W.Frag) (mg : Str → Option Value) (x : Str) (xs : List V) : Prop := ∃ p, mg x = some (.ref p) ∧ ∀ H, SqT K H p xs
theorem ct_mk {p : Addr} {od : Option Addr} {its : Array Value} {n : Nat} {sl : Array (Option Value)} {xs : List V} (X : K.In h) (G : h.Ns mainGlobals mg) (a : PySem.W.nsIn K mainGlobals x = some (some (.ref p)))
    (l : K.lookup p = some ⟨.type "tuple", od, .seq its n, sl⟩) (hs : its.size ≤ sizeLine) (hv : Vals xs its.toList) : CT K mg x xs :=
  ⟨p, PySem.W.mg_of X G a, fun _ => .inr ⟨_, its, n, l, rfl, rfl, hs, hv⟩⟩
end
theorem pe_globT {X : Cx} {x : Str} {xs : List V} {pos : Pos} (hg : Gl X x) (h : CT X.K X.mg x xs) (hd : (x == ("__debug__" : Str)) = false := by decide) :
    PE X (.Name x pos) (fun _ H Q => ∀ p, (∀ H', SqT X.K H' p xs) → Q (.ref p) H) := by
  obtain ⟨p, hm, hs⟩ := h
  exact ⟨fun pins s σ H Q I h => (pe_glob hg hm (v := .ref p) rfl hd).run pins s σ H Q I (h p hs)⟩
/-! ### a suite that is read for known errors alone -/
theorem pss_guard {X : Cx} {st : List Stmt} {p : Prop} {t : TS} (h : p → PSs X st t) : PSs X st (fun D σ H => p ∧ t D σ H) :=
  ⟨fun pins s σ H D I q => (h q.1).run pins s σ H D I q.2⟩
theorem to_true {Q : VK} {b : Bool} {H : Hp} (h : b = true) (q : Q (.bl true) H) : Q (.bl b) H := h ▸ q
/-- a new object at p stays the only one that changes -/
theorem same_new {H H' : Hp} {p : Addr} {o : HO} (e : Same H H') (hp : H p = none) : Same H (upd H' p o) := Evl.Ex.mut e hp
theorem same_upd {H : Hp} {p : Addr} {o : HO} (hp : H p = none) : Same H (upd H p o) := Evl.Ex.new hp
theorem tyx_list {K : PySem.W.Frag} {H : Hp} {a : Addr} {xs : List V} (h : SqL K H a xs) : TyX K H (.ref a) (.type "list") := by
  rcases h with (h | ⟨o, h⟩) | ⟨o, its, n, h, hc, _⟩
  · exact .base (.lst h)
  · exact .base (.frz h)
  · exact .kList h hc
theorem tyx_tuple {K : PySem.W.Frag} {H : Hp} {a : Addr} {xs : List V} (h : SqT K H a xs) : TyX K H (.ref a) (.type "tuple") := by
  rcases h with (h | ⟨o, h⟩) | ⟨o, its, n, h, hc, _⟩
  · exact .base (.tup h)
  · exact .fTuple h
  · exact .kTuple h hc
theorem small {n : Nat} (h : n ≤ 100000) : n < sizeLine := Nat.lt_of_le_of_lt h (by decide)
theorem smallE {n : Nat} (h : n ≤ 100000) : n ≤ sizeLine := Nat.le_trans h (by decide)
/-- for .. in enumerate(list) -/
theorem for_enum {K : PySem.W.Frag} {a : Addr} {xs : List V} {g : TG} {tb : TS} {D : Ends} {σ : L2.St} {H : Hp} (Pv : Nat → L2.St → Hp → Prop) (h0 : Pv 0 σ H) (hl : ∀ i σ H, i ≤ xs.length → Pv i σ H → SqL K H a xs)
    (hs : ∀ i x T σ H, xs[i]? = some x → Pv i σ H → H T = none → g (.ref T) σ (upd H T (.tup [.int (i : Nat), x])) fun σ2 H2 => tb { D with nx := Pv (i + 1), ct := Pv (i + 1), bk := D.nx } σ2 H2) (hd : ∀ σ H, Pv xs.length σ H → D.nx σ H) :
    ∃ W : Nat → Nat → L2.St → Hp → Prop, (∃ m, W 0 m σ H) ∧ ∀ i m σ H, W i m σ H →
      ((Ite K a).stop i H ∧ D.nx σ H) ∨ ((Ite K a).go i H ∧ ∃ N : L2.St → Hp → Prop, (∀ σ' H', N σ' H' → ∃ m', m' < m ∧ W (i + 1) m' σ' H') ∧ ∀ x H', (Ite K a).yld i H x H' → g x σ H' fun σ2 H2 => tb { D with nx := N, ct := N, bk := D.nx } σ2 H2) := by
  refine ⟨fun i m σ H => m = xs.length - i ∧ i ≤ xs.length ∧ Pv i σ H, ⟨xs.length, by simp, Nat.zero_le _, h0⟩, ?_⟩
  rintro i m σ H ⟨rfl, hi, p⟩
  have q := hl i σ H hi p
  by_cases hlt : i < xs.length
  · refine .inr ⟨⟨xs, xs[i], q, by simp [hlt]⟩, Pv (i + 1), fun σ' H' p' => ⟨xs.length - (i + 1), by omega, rfl, hlt, p'⟩, fun x H' y => ?_⟩
    obtain ⟨T, z, rfl, hT, rfl, y⟩ := y
    exact hs i z T σ H (y xs q) p hT
  · have e : i = xs.length := by omega
    subst e
    exact .inl ⟨⟨xs, q, Nat.le_refl _⟩, hd σ H p⟩
/-- an item of a list by a number that is told -/
theorem at_nat {α : Type} {xs : List α} {i : Int} {j : Nat} {v : α} (e : i = (j : Int)) (h : xs[j]? = some v) : atI xs i = some v := e ▸ atI_nat h
theorem ix_nat {n j : Nat} {i : Int} (e : i = (j : Int)) (h : j < n) : ixN n i = some j := e ▸ Evl.ixN_nat h
/-! ### rules whose reading names the written part by itself (for the bodies and suites of a try) -/
def rLenK (K : PySem.W.Frag) : List V → Hp → VK → Prop := fun xs H Q => ∃ p ys, xs = [.ref p] ∧ (SqL K H p ys ∨ SqT K H p ys) ∧ Q (.int ys.length) H
theorem call_lenK {X : Cx} {K : PySem.W.Frag} (h : X.K = K := by rfl) : CallR X (.builtin "len") (rLenK K) := by
  subst h
  exact call_len_seq
theorem op_eqDK {X : Cx} {K : PySem.W.Frag} (hu : X.A.units + 64 < cLine) (h : X.K = K := by rfl) : OpR X (compareOp .Eq) (rEqD K) := by
  subst h
  exact op_eqD hu
theorem op_neDK {X : Cx} {K : PySem.W.Frag} (hu : X.A.units + 64 < cLine) (h : X.K = K := by rfl) : OpR X (compareOp .NotEq) (rNeD K) := by
  subst h
  exact op_neD hu
theorem call_isiK' {X : Cx} {K : PySem.W.Frag} (h : X.K = K := by rfl) : CallR X (.builtin "isinstance") (rIsi K) := by
  subst h
  exact call_isi
def rListK (K : PySem.W.Frag) : List V → Hp → VK → Prop := fun xs H Q => ∃ p ys, xs = [.ref p] ∧ (SqL K H p ys ∨ SqT K H p ys) ∧ ∀ l, H l = none → Q (.ref l) (upd H l (.lst ys))
theorem call_list_ofK {X : Cx} {K : PySem.W.Frag} (h : X.K = K := by rfl) : CallR X (.type "list") (rListK K) := by
  subst h
  exact call_list_of
theorem sl_listK {X : Cx} {K : PySem.W.Frag} (h : X.K = K := by rfl) : SlR X (rSlL K) := by
  subst h
  exact sl_list
/-! ### slices -/
theorem sIx_nat {n k : Nat} (d : Nat) (h : k ≤ n) : HT.sIx n d (some (k : Int)) = k := by
  simp only [HT.sIx]
  split <;> omega
theorem cut_to {xs : List V} {k : Nat} (h : k ≤ xs.length) : cutV xs none (some (k : Int)) = xs.take k := by
  unfold cutV
  rw [sIx_nat _ h]
  simp [HT.sIx]
theorem cut_from {xs : List V} {k : Nat} (h : k ≤ xs.length) : cutV xs (some (k : Int)) none = xs.drop k := by
  unfold cutV
  rw [sIx_nat _ h]
  simp only [HT.sIx]
  rw [List.take_of_length_le (by rw [List.length_drop]; omega)]
theorem cut_mid {xs : List V} {j k : Nat} (h1 : j ≤ k) (h : k ≤ xs.length) : cutV xs (some (j : Int)) (some (k : Int)) = (xs.drop j).take (k - j) := by
  unfold cutV
  rw [sIx_nat _ h, sIx_nat _ (Nat.le_trans h1 h)]
/-! ### data -/
mutual
theorem dp_mono {K : PySem.W.Frag} {H H' : Hp} (e : Same H H') : ∀ {d : PyData} {v : V}, Dp K H v d → Dp K H' v d
  | _, _, .non => .non
  | _, _, .bl b => .bl b
  | _, _, .int i => .int i
  | _, _, .str x => .str x
  | _, _, .lst h r => .lst (e.seq h) (dpAll_mono e r)
  | _, _, .tup h r => .tup (Evl.ex_t e h) (dpAll_mono e r)
theorem dpAll_mono {K : PySem.W.Frag} {H H' : Hp} (e : Same H H') : ∀ {ds : List PyData} {vs : List V}, DpAll K H vs ds → DpAll K H' vs ds
  | _, _, .nil => .nil
  | _, _, .cons h r => .cons (dp_mono e h) (dpAll_mono e r)
end
theorem dp_ints {K : PySem.W.Frag} {H : Hp} : ∀ (ns : List Int), DpAll K H (ns.map V.int) (ns.map PyData.int)
  | [] => .nil
  | n :: ns => .cons (.int n) (dp_ints ns)
theorem canLayAll_ints : ∀ (ns : List Int), PyData.canLayAll0 (ns.map PyData.int) = true
  | [] => rfl
  | n :: ns => by simp [PyData.canLayAll0, PyData.canLay0, canLayAll_ints ns]
theorem depthAll_ints : ∀ (ns : List Int), PyData.depthAll (ns.map PyData.int) = 0
  | [] => rfl
  | n :: ns => by simp [PyData.depthAll, PyData.depth, depthAll_ints ns]
theorem shaped_ints (ns : List Int) : SeqAt.shaped (.list (ns.map PyData.int)) = true := by
  simp [SeqAt.shaped, PyData.canLay0, PyData.depth, canLayAll_ints, depthAll_ints]
theorem eqvAll_ints : ∀ (ns ms : List Int), PyData.eqvAll (ns.map PyData.int) (ms.map PyData.int) = decide (ns = ms)
  | [], [] => by simp [PyData.eqvAll]
  | [], m :: ms => by simp [PyData.eqvAll]
  | n :: ns, [] => by simp [PyData.eqvAll]
  | n :: ns, m :: ms => by
    by_cases h : n = m <;> simp [PyData.eqvAll, PyData.eqv, eqvAll_ints ns ms, h]
theorem eqv_ints (ns ms : List Int) : PyData.eqv (.list (ns.map PyData.int)) (.list (ms.map PyData.int)) = decide (ns = ms) := by
  rw [PyData.eqv]
  exact eqvAll_ints ns ms
theorem shaped_pair (as bs : List Int) : SeqAt.shaped (.tuple [.list (as.map PyData.int), .list (bs.map PyData.int)]) = true := by
  simp [SeqAt.shaped, PyData.canLay0, PyData.canLayAll0, PyData.depth, PyData.depthAll, canLayAll_ints, depthAll_ints]
theorem eqv_refl' {d : PyData} (h : SeqAt.shaped d = true) : PyData.eqv d d = true := SeqAt.eqv_refl _ (SeqAt.canLay_of_shaped h)
theorem dp_list {K : PySem.W.Frag} {H : Hp} {a : Addr} {ns : List Int} (h : SqL K H a (ns.map V.int)) : Dp K H (.ref a) (.list (ns.map PyData.int)) := .lst h (dp_ints ns)
theorem get_ints {ns : List Int} {i : Nat} {y : V} (h : (ns.map V.int)[i]? = some y) : ∃ (hi : i < ns.length), y = V.int ns[i] := by
  rw [List.getElem?_map] at h
  by_cases hi : i < ns.length
  · rw [List.getElem?_eq_getElem hi] at h
    exact ⟨hi, (Option.some.inj h).symm⟩
  · rw [List.getElem?_eq_none (Nat.le_of_not_lt hi)] at h
    cases h
theorem take_snoc {α : Type} {l : List α} {i : Nat} (hi : i < l.length) : l.take (i + 1) = l.take i ++ [l[i]] := by
  rw [List.take_add_one, List.getElem?_eq_getElem hi]
  rfl
/-! ### the script's cells -/
def cell (ns : List Int) (k : Nat) : Int := ns.getD k 0
theorem cell_in {ns : List Int} {k : Nat} (hk : k < ns.length) : cell ns k = ns[k] := by simp [cell, List.getD_eq_getElem?_getD, List.getElem?_eq_getElem hk]
theorem cell_out {ns : List Int} {k : Nat} (hk : ¬ k < ns.length) : cell ns k = 0 := by simp [cell, List.getD_eq_getElem?_getD, List.getElem?_eq_none (Nat.le_of_not_lt hk)]
end Cm

namespace My
open PySem PySem.Spec PyProof.Rows L2 Cm 
def top (i : Nat) : Stmt := PySem.Challenge.pw_scanpages_k19_pack.main.body.getD i (.Pass ⟨0, 0, 0, 0⟩)
abbrev s_pack : Stmt := (top 6)
abbrev N_pack : List Str := ["octets", "earlier", "packed", "plain", "at", "length", "distance"]
theorem sc_pack : FnScope N_pack ["octets"] (defScope s_pack) := ⟨rfl, rfl, rfl, by decide +kernel, rfl, by decide +kernel, by decide +kernel⟩
abbrev s__earlier_places : Stmt := (top 7)
abbrev N__earlier_places : List Str := ["octets", "last", "earlier", "at", "beginning"]
theorem sc__earlier_places : FnScope N__earlier_places ["octets"] (defScope s__earlier_places) := ⟨rfl, rfl, rfl, by decide +kernel, rfl, by decide +kernel, by decide +kernel⟩
abbrev s__longest_copy : Stmt := (top 8)
abbrev N__longest_copy : List Str := ["octets", "at", "earlier", "most", "best", "distance", "place", "length"]
theorem sc__longest_copy : FnScope N__longest_copy ["octets", "at", "earlier"] (defScope s__longest_copy) := ⟨rfl, rfl, rfl, by decide +kernel, rfl, by decide +kernel, by decide +kernel⟩
abbrev s__plain_steps : Stmt := (top 9)
abbrev N__plain_steps : List Str := ["octets", "packed", "start", "piece"]
theorem sc__plain_steps : FnScope N__plain_steps ["octets"] (defScope s__plain_steps) := ⟨rfl, rfl, rfl, by decide +kernel, rfl, by decide +kernel, by decide +kernel⟩
abbrev s__law_cell : Stmt := (top 11)
abbrev N__law_cell : List Str := ["script", "k"]
theorem sc__law_cell : FnScope N__law_cell ["script", "k"] (defScope s__law_cell) := ⟨rfl, rfl, rfl, by decide +kernel, rfl, by decide +kernel, by decide +kernel⟩
abbrev s__law_mix : Stmt := (top 12)
abbrev N__law_mix : List Str := ["cell", "k", "number"]
theorem sc__law_mix : FnScope N__law_mix ["cell", "k"] (defScope s__law_mix) := ⟨rfl, rfl, rfl, by decide +kernel, rfl, by decide +kernel, by decide +kernel⟩
abbrev s__law_row : Stmt := (top 13)
abbrev N__law_row : List Str := ["cell", "count", "bound", "found", "rest", "k"]
theorem sc__law_row : FnScope N__law_row ["cell", "count", "bound"] (defScope s__law_row) := ⟨rfl, rfl, rfl, by decide +kernel, rfl, by decide +kernel, by decide +kernel⟩
abbrev s__law_is_int : Stmt := (top 14)
abbrev N__law_is_int : List Str := ["value"]
theorem sc__law_is_int : FnScope N__law_is_int ["value"] (defScope s__law_is_int) := ⟨rfl, rfl, rfl, by decide +kernel, rfl, by decide +kernel, by decide +kernel⟩
abbrev s__law_is_list : Stmt := (top 15)
abbrev N__law_is_list : List Str := ["value", "least", "greatest", "item"]
theorem sc__law_is_list : FnScope N__law_is_list ["value", "least", "greatest"] (defScope s__law_is_list) := ⟨rfl, rfl, rfl, by decide +kernel, rfl, by decide +kernel, by decide +kernel⟩
abbrev s__law_items : Stmt := (top 16)
abbrev N__law_items : List Str := ["cell", "size", "bound"]
theorem sc__law_items : FnScope N__law_items ["cell", "size"] (defScope s__law_items) := ⟨rfl, rfl, rfl, by decide +kernel, rfl, by decide +kernel, by decide +kernel⟩
abbrev s__law_expand : Stmt := (top 17)
abbrev N__law_expand : List Str := ["packed", "limit", "octets", "at", "k", "control", "j"]
theorem sc__law_expand : FnScope N__law_expand ["packed", "limit"] (defScope s__law_expand) := ⟨rfl, rfl, rfl, by decide +kernel, rfl, by decide +kernel, by decide +kernel⟩
abbrev s_law : Stmt := (top 18)
abbrev N_law : List Str := ["script", "kind", "octets", "piece", "k", "cell", "octet", "copy", "actual"]
theorem sc_law : FnScope N_law ["script"] (defScope s_law) := ⟨rfl, rfl, rfl, by decide +kernel, rfl, by decide +kernel, by decide +kernel⟩
structure Txt (K : PySem.W.Frag) (mg : Str → Option Value) : Prop where
  d_pack : Dn K mg "pack" s_pack ["octets"]
  d__earlier_places : Dn K mg "_earlier_places" s__earlier_places ["octets"]
  d__longest_copy : Dn K mg "_longest_copy" s__longest_copy ["octets", "at", "earlier"]
  d__plain_steps : Dn K mg "_plain_steps" s__plain_steps ["octets"]
  d__law_cell : Dn K mg "_law_cell" s__law_cell ["script", "k"]
  d__law_mix : Dn K mg "_law_mix" s__law_mix ["cell", "k"]
  d__law_row : Dn K mg "_law_row" s__law_row ["cell", "count", "bound"]
  d__law_is_int : Dn K mg "_law_is_int" s__law_is_int ["value"]
  d__law_is_list : Dn K mg "_law_is_list" s__law_is_list ["value", "least", "greatest"]
  d__law_items : Dn K mg "_law_items" s__law_items ["cell", "size"]
  d__law_expand : Dn K mg "_law_expand" s__law_expand ["packed", "limit"]
  d_law : Dn K mg "law" s_law ["script"]
  c_SHORTEST_COPY : CV mg "SHORTEST_COPY" (.int 3)
  c_FIRST_COPY : CV mg "FIRST_COPY" (.int 128)
  c_LONGEST_COPY : CV mg "LONGEST_COPY" (.int 130)
  c_FARTHEST_COPY : CV mg "FARTHEST_COPY" (.int 255)
  c_MOST_PLAIN : CV mg "MOST_PLAIN" (.int 128)
  n_len : mg "len" = none
  n_range : mg "range" = none
  n_tuple : mg "tuple" = none
  n_min : mg "min" = none
  n_int : mg "int" = none
  n_abs : mg "abs" = none
  n_isinstance : mg "isinstance" = none
  n_bool : mg "bool" = none
  n_list : mg "list" = none
section
variable {P : Program} {w : World} {K : PySem.W.Frag} {mg : Str → Option Value} {base : Heap}
/-- the cell's promise -/
def spCell (K : PySem.W.Frag) : Sp := fun vs H Q _ => ∃ (l : Addr) (ns : List Int) (k : Nat), vs = [.ref l, .int (k : Int)] ∧ SqL K H l (ns.map V.int) ∧ Q (.int (cell ns k)) H
theorem ok__law_cell (T : Txt K mg) : Ok P w K mg base CX0 1 "_law_cell" ["script", "k"] (spCell K) := by
  refine ok_of T.d__law_cell fun f fd F => F.ok sc__law_cell (fun vs H Q E h => ?_) (fun cdv A outer s H vs Q E hr h => ?_)
  · obtain ⟨l, ns, k, rfl, _⟩ := h
    rfl
  · obtain ⟨l, ns, k, rfl, hs, q⟩ := h
    refine ⟨_,       (pss_cons (ps_if (pt_cmpR op_lt (pv 1) (pe_callB call_len_seq (by rfl) T.n_len PySem.boot_len (pa_cons (pv 0) pa_nil)) (nomark _))
        (pss_one (ps_ret (pe_callTy call_int1 (by rfl) T.n_int (by decide +kernel) (pa_cons (pe_ix ix_list (pv 0) (pv 1) (fun _ _ => rfl)) pa_nil)))) pss_nil)
      (pss_one (ps_ret pe_int))), ?_⟩
    refine ⟨_, rfl, _, rfl, l, _, rfl, .inl hs, _, _, rfl, rfl, _, rfl, itd (fun h => ?_) (fun h => ?_)⟩
    · have hk : k < ns.length := by
        rw [List.length_map] at h
        omega
      refine ⟨_, rfl, _, rfl, l, _, _, .int ns[k], rfl, rfl, hs, atI_nat (by rw [List.getElem?_map, List.getElem?_eq_getElem hk]; rfl), .inl ⟨_, rfl, ?_⟩⟩
      rw [Cm.cell_in hk] at q
      exact q
    · have hk : ¬ k < ns.length := by
        rw [List.length_map] at h
        omega
      rw [Cm.cell_out hk] at q
      exact q

def mixI (c k : Int) : Int := ((c * 48271 + k * 69621 + 12345) % 2147483647 * 16807 + k * 40692 + 777) % 2147483629 / 997
def spMix : Sp := fun vs H Q _ => ∃ c k : Int, vs = [.int c, .int k] ∧ Q (.int (mixI c k)) H
theorem ok__law_mix (T : Txt K mg) : Ok P w K mg base CX0 1 "_law_mix" ["cell", "k"] spMix := by
  refine ok_of T.d__law_mix fun f fd F => F.ok sc__law_mix (fun vs H Q E h => ?_) (fun cdv A outer s H vs Q E hr h => ?_)
  · obtain ⟨c, k, rfl, _⟩ := h
    rfl
  · obtain ⟨c, k, rfl, q⟩ := h
    have nd := sc__law_mix.nd
    refine ⟨_,       (pss_cons (ps_set (i := 2) nd rfl (Or.inl rfl) (pe_op op_mod (pe_callTy call_int1 (by rfl) T.n_int (by decide +kernel) (pa_cons (pe_op op_add (pe_op op_add (pe_op op_mul (pv 0) pe_int) (pe_op op_mul (pv 1) pe_int)) pe_int) pa_nil)) pe_int))
      (pss_cons (ps_set (i := 2) nd rfl (Or.inl rfl) (pe_op op_mod (pe_callTy call_int1 (by rfl) T.n_int (by decide +kernel) (pa_cons (pe_op op_add (pe_op op_add (pe_op op_mul (pv 2) pe_int) (pe_op op_mul (pv 1) pe_int)) pe_int) pa_nil)) pe_int))
      (pss_one (ps_ret (pe_op op_fdiv (pv 2) pe_int))))), ?_⟩
    refine ⟨_, rfl, _, _, rfl, rfl, .inr (by decide), _, rfl, _, _, rfl, rfl, .inr (by decide), _, _, rfl, rfl, _, _, rfl, rfl, .inl ⟨_, rfl, _, _, rfl, rfl, (by show (0 : Int) < 2147483647; decide), ?_⟩⟩
    refine ⟨_, rfl, _, _, rfl, rfl, .inr (by decide), _, rfl, _, _, rfl, rfl, .inr (by decide), _, _, rfl, rfl, _, _, rfl, rfl, .inl ⟨_, rfl, _, _, rfl, rfl, (by show (0 : Int) < 2147483629; decide), ?_⟩⟩
    exact ⟨_, rfl, _, _, rfl, rfl, ⟨by decide, by decide⟩, q⟩

def divs : Nat → Int → Int → Int
  | 0, x, _ => x
  | k + 1, x, b => divs k x b / b
def rowAt (c : Int) (b : Int) (k : Nat) : Int := if 1000000000000000000 ≤ (if c < 0 then -c else c) then divs k (if c < 0 then -c else c) b % b else mixI c k % b
/-- the digits of a cell, or its mixture -/
def rowL (c : Int) (n : Nat) (b : Int) : List Int := (List.range n).map (rowAt c b)
theorem rowL_len (c : Int) (n : Nat) (b : Int) : (rowL c n b).length = n := by simp [rowL]
theorem rowL_in {c : Int} {n : Nat} {b x : Int} (hb : 0 < b) (h : x ∈ rowL c n b) : 0 ≤ x ∧ x < b := by
  obtain ⟨k, _, rfl⟩ := List.mem_map.mp h
  have z : ∀ y : Int, 0 ≤ y % b ∧ y % b < b := fun y => ⟨Int.emod_nonneg _ (by omega), Int.emod_lt_of_pos _ hb⟩
  by_cases hc : 1000000000000000000 ≤ (if c < 0 then -c else c)
  · rw [rowAt, if_pos hc]
    exact z _
  · rw [rowAt, if_neg hc]
    exact z _
theorem rowL_succ (c : Int) (n : Nat) (b : Int) : rowL c (n + 1) b = rowL c n b ++ [rowAt c b n] := by simp [rowL, List.range_succ]
def spRow : Sp := fun vs H Q _ => ∃ (c : Int) (n : Nat) (b : Int), vs = [.int c, .int (n : Int), .int b] ∧ n ≤ 60000 ∧ 0 < b ∧ b < 1073741824 ∧ ∀ p H', H p = none → Same H H' → H' p = some (.lst ((rowL c n b).map V.int)) → Q (.ref p) H'
theorem ok__law_row (T : Txt K mg) : Ok P w K mg base CX0 2 "_law_row" ["cell", "count", "bound"] spRow := by
  have G__law_mix := ok__law_mix (P := P) (w := w) (base := base) T
  refine ok_of T.d__law_row fun f fd F => F.ok sc__law_row (fun vs H Q E h => ?_) (fun cdv A outer s H vs Q E hr h => ?_)
  · obtain ⟨c, n, b, rfl, _⟩ := h
    rfl
  · obtain ⟨c, n, b, rfl, hn, hb0, hb1, kQ⟩ := h
    have nd := sc__law_row.nd
    refine ⟨_,       (pss_cons (ps_set (i := 3) nd rfl (Or.inl rfl) (pe_lst pa_nil))
      (pss_cons (ps_set (i := 4) nd rfl (Or.inl rfl) (pe_callB call_abs (by rfl) T.n_abs (by decide +kernel) (pa_cons (pv 0) pa_nil)))
      (pss_cons (ps_for PassesOwn.never rfl (pi_range1 rfl T.n_range (pa_cons (pv 1) pa_nil)) (pg_name (i := 5) nd rfl (Or.inl rfl))
        (pss_one (ps_if (pt_cmpR op_ge (pe_callB call_abs (by rfl) T.n_abs (by decide +kernel) (pa_cons (pv 0) pa_nil)) pe_int (nomark _))
          (pss_cons (ps_expr (pe_bm PySem.F.plainAttrs_list PySem.F.slot_list_append PySem.F.type_list_append mt_append (pv 3) (pa_cons (pe_op op_mod (pe_callTy call_int1 (by rfl) T.n_int (by decide +kernel) (pa_cons (pv 4) pa_nil)) (pv 2)) pa_nil)))
          (pss_one (ps_set (i := 4) nd rfl (Or.inl rfl) (pe_op op_fdiv (pv 4) (pv 2)))))
          (pss_one (ps_expr (pe_bm PySem.F.plainAttrs_list PySem.F.slot_list_append PySem.F.type_list_append mt_append (pv 3) (pa_cons (pe_op op_mod (pe_callTy call_int1 (by rfl) T.n_int (by decide +kernel) (pa_cons (pe_callO G__law_mix (hr.mono (by decide)) pass0 (pa_cons (pv 0) (pa_cons (pv 5) pa_nil))) pa_nil)) (pv 2)) pa_nil)))))))
      (pss_one (ps_ret (pv 3)))))), ?_⟩
    refine ⟨by decide, fun p hp => ⟨_, rfl, _, rfl, ?_⟩⟩
    refine ⟨_, rfl, (n : Int), rfl, by omega, by omega, for_range (lo := 0) (n := (n : Int).toNat) (fun i σ H' => ∃ (r : Int) (v : Option V), (1000000000000000000 ≤ (if c < 0 then -c else c) → r = divs i (if c < 0 then -c else c) b) ∧ σ = [some (.int c), some (.int (n : Int)), some (.int b), some (.ref p), some (.int r), v] ∧ Same H H' ∧ H' p = some (.lst ((rowL c i b).map V.int))) ⟨_, none, fun _ => rfl, rfl, same_upd hp, upd_same⟩ ?_ ?_⟩
    · rintro i σ H' hi ⟨r, v, hr', rfl, e, hL⟩
      have ei : (0 : Int) + (i : Int) = (i : Int) := by omega
      have hsz : ((rowL c i b).map V.int).length < sizeLine := small (by rw [List.length_map, rowL_len]; omega)
      refine ⟨_, rfl, _, rfl, _, _, rfl, rfl, _, rfl, itd (fun h => ?_) (fun h => ?_)⟩
      · refine ⟨_, rfl, .inl ⟨rfl, _, SqL.of hL⟩, _, rfl, .inl ⟨_, rfl, _, rfl, _, _, rfl, rfl, hb0, p, _, _, rfl, rfl, hL, hsz, ?_⟩⟩
        refine ⟨_, rfl, _, rfl, _, _, rfl, rfl, ⟨hb0, hb1⟩, ?_⟩
        refine ⟨r / b, _, fun z => ?_, rfl, same_new e hp, ?_⟩
        · rw [hr' z]
          rfl
        · rw [upd_same, rowL_succ, rowAt, if_pos h, ← hr' h]
          simp
      · refine ⟨_, rfl, .inl ⟨rfl, _, SqL.of hL⟩, _, rfl, _, rfl, c, 0 + (i : Int), rfl, .inl ⟨_, rfl, _, rfl, _, _, rfl, rfl, hb0, p, _, _, rfl, rfl, hL, hsz, ?_⟩⟩
        refine ⟨r, _, fun z => absurd z h, rfl, same_new e hp, ?_⟩
        rw [upd_same, rowL_succ, rowAt, if_neg h, ei]
        simp
    · rintro σ H' ⟨r, v, _, rfl, e, hL⟩
      refine ⟨_, rfl, kQ p _ hp e ?_⟩
      rw [Int.toNat_natCast] at hL
      exact hL

def spIsInt : Sp := fun vs H Q _ => ∃ i : Int, vs = [.int i] ∧ Q (.bl true) H
theorem ok__law_is_int (T : Txt K mg) : Ok P w K mg base CX0 1 "_law_is_int" ["value"] spIsInt := by
  refine ok_of T.d__law_is_int fun f fd F => F.ok sc__law_is_int (fun vs H Q E h => ?_) (fun cdv A outer s H vs Q E hr h => ?_)
  · obtain ⟨i, rfl, _⟩ := h
    rfl
  · obtain ⟨i, rfl, q⟩ := h
    refine ⟨_,       (pss_one (ps_ret (pe_and (pe_callB call_isi (by rfl) T.n_isinstance (by decide +kernel) (pa_cons (pv 0) (pa_cons (pe_bltn (v := .ty "int") (by rfl) T.n_int (by decide +kernel) rfl) pa_nil))) (pe_one (pe_not (pe_callB call_isi (by rfl) T.n_isinstance (by decide +kernel) (pa_cons (pv 0) (pa_cons (pe_bltn (v := .ty "bool") (by rfl) T.n_bool (by decide +kernel) rfl) pa_nil)))))))), ?_⟩
    refine ⟨_, rfl, _, _, _, _, true, rfl, .ty _, .base (.int i), kit_ty (by decide +kernel), true, rfl, iteT ?_⟩
    exact ⟨_, rfl, _, _, _, _, false, rfl, .ty _, .base (.int i), kit_ty (by decide +kernel), false, rfl, q⟩

def allIn (lo hi : Int) (ns : List Int) : Bool := ns.all fun n => decide (lo ≤ n) && decide (n ≤ hi)
def spIsList (K : PySem.W.Frag) : Sp := fun vs H Q _ => ∃ (a : Addr) (ns : List Int) (lo hi : Int), vs = [.ref a, .int lo, .int hi] ∧ SqL K H a (ns.map V.int) ∧ Q (.bl (allIn lo hi ns)) H
theorem ok__law_is_list (T : Txt K mg) : Ok P w K mg base CX0 2 "_law_is_list" ["value", "least", "greatest"] (spIsList K) := by
  have G__law_is_int := ok__law_is_int (P := P) (w := w) (base := base) T
  refine ok_of T.d__law_is_list fun f fd F => F.ok sc__law_is_list (fun vs H Q E h => ?_) (fun cdv A outer s H vs Q E hr h => ?_)
  · obtain ⟨a, ns, lo, hi, rfl, _⟩ := h
    rfl
  · obtain ⟨a, ns, lo, hi, rfl, hs, q⟩ := h
    have nd := sc__law_is_list.nd
    refine ⟨_,       (pss_cons (ps_if (pt_not (pt_val (pe_callB call_isi (by rfl) T.n_isinstance (by decide +kernel) (pa_cons (pv 0) (pa_cons (pe_bltn (v := .ty "list") (by rfl) T.n_list (by decide +kernel) rfl) pa_nil)))))
        (pss_one (ps_ret pe_bl)) pss_nil)
      (pss_cons (ps_for PassesOwn.never rfl (pi_list (pv 0)) (pg_name (i := 3) nd rfl (Or.inl rfl))
        (pss_one (ps_if (PW.pt (pw_or (pt_not (pt_val (pe_callO G__law_is_int (hr.mono (by decide)) pass0 (pa_cons (pv 3) pa_nil)))) (pw_or (pt_cmpR op_lt (pv 3) (pv 1) (nomark _)) (pw_or1 (pt_cmpR op_gt (pv 3) (pv 2) (nomark _))))))
          (pss_one (ps_ret pe_bl)) pss_nil)))
      (pss_one (ps_ret pe_bl)))), ?_⟩
    refine ⟨_, rfl, _, _, _, _, true, rfl, .ty _, tyx_list hs, kit_ty (by decide +kernel), true, rfl, iteF ?_⟩
    refine ⟨_, rfl, a, rfl, ⟨_, hs⟩, for_list (K := K) (a := a) (xs := ns.map V.int) (fun i σ H' => H' = H ∧ allIn lo hi (ns.take i) = true ∧ ∃ v, σ = [some (.ref a), some (.int lo), some (.int hi), v]) ⟨rfl, rfl, none, rfl⟩ (fun i σ H' _ ⟨e, _⟩ => e ▸ hs) ?_ ?_⟩
    · rintro i y σ H' hi' ⟨rfl, ht, v, rfl⟩
      obtain ⟨hin, rfl⟩ := get_ints hi'
      have bad : ¬ (lo ≤ ns[i] ∧ ns[i] ≤ hi) → allIn lo hi ns = false := fun hb => by
        rw [allIn, List.all_eq_false]
        exact ⟨ns[i], List.getElem_mem hin, by simpa using fun h1 => Int.not_le.mp fun h2 => hb ⟨h1, h2⟩⟩
      refine ⟨_, rfl, _, rfl, true, rfl, iteF ?_⟩
      refine ⟨_, rfl, _, rfl, _, _, rfl, rfl, _, rfl, itd (fun h1 => ?_) (fun h1 => ?_)⟩
      · refine iteT ?_
        rw [bad (by omega)] at q
        exact q
      · refine ⟨_, rfl, _, rfl, _, _, rfl, rfl, _, rfl, itd (fun h2 => ?_) (fun h2 => ?_)⟩
        · rw [bad (by omega)] at q
          exact q
        · refine ⟨rfl, ?_, _, rfl⟩
          have e1 : (decide (lo ≤ ns[i]) && decide (ns[i] ≤ hi)) = true := by
            rw [decide_eq_true (show lo ≤ ns[i] by omega), decide_eq_true (show ns[i] ≤ hi by omega)]
            rfl
          unfold allIn at ht ⊢
          rw [take_snoc hin, List.all_append, ht, List.all_cons, e1]
          rfl
    · rintro σ H' ⟨rfl, ht, v, rfl⟩
      rw [List.length_map, List.take_length] at ht
      rw [ht] at q
      exact q

theorem getD_int {os : List Int} {k : Nat} (h : k < os.length) : (os.map V.int)[k]? = some (V.int (os.getD k 0)) := by
  rw [List.getElem?_map, List.getElem?_eq_getElem h, List.getD_eq_getElem?_getD, List.getElem?_eq_getElem h]
  rfl

theorem cut_midG {xs : List V} {j k : Nat} (h : j ≤ k) : cutV xs (some (j : Int)) (some (k : Int)) = (xs.drop j).take (k - j) := by
  unfold cutV
  have e1 : HT.sIx xs.length 0 (some (j : Int)) = min j xs.length := HT.sIx_nat _ _ j
  have e2 : HT.sIx xs.length xs.length (some (k : Int)) = min k xs.length := HT.sIx_nat _ _ k
  rw [e1, e2]
  by_cases h1 : j ≤ xs.length
  · rw [Nat.min_eq_left h1]
    by_cases h2 : k ≤ xs.length
    · rw [Nat.min_eq_left h2]
    · rw [Nat.min_eq_right (by omega), List.take_of_length_le (by rw [List.length_drop]; omega), List.take_of_length_le (by rw [List.length_drop]; omega)]
  · rw [List.drop_of_length_le (by omega), List.drop_of_length_le (by omega), List.take_nil, List.take_nil]
theorem cut_toG {xs : List V} {k : Nat} : cutV xs none (some (k : Int)) = xs.take k := by
  unfold cutV
  have e2 : HT.sIx xs.length xs.length (some (k : Int)) = min k xs.length := HT.sIx_nat _ _ k
  have e1 : HT.sIx xs.length 0 none = 0 := rfl
  rw [e1, e2, List.drop_zero, Nat.sub_zero]
  by_cases h2 : k ≤ xs.length
  · rw [Nat.min_eq_left h2]
  · rw [Nat.min_eq_right (by omega), List.take_of_length_le (Nat.le_refl _), List.take_of_length_le (by omega)]
theorem tru_l {K : PySem.W.Frag} {H : Hp} {p : Addr} {xs : List V} (h : SqL K H p xs) : TruV K (.ref p) H (!xs.isEmpty) := .inl ⟨xs, h, rfl⟩
theorem tru_t {K : PySem.W.Frag} {H : Hp} {p : Addr} {xs : List V} (h : SqT K H p xs) : TruV K (.ref p) H (!xs.isEmpty) := .inr (.inl ⟨xs, h, rfl⟩)
theorem ne_noG {d e : PyData} {A B : Prop} (h : PyData.eqv d e = true) (hb : B) : ∃ k, V.bl (!PyData.eqv d e) = V.bl k ∧ if k = true then A else B := ⟨_, rfl, by rw [h]; exact iteF hb⟩
theorem nm_noG {x y : V} {A B : Prop} (h : x = y) (hb : B) : ∃ k, V.bl (!decide (x = y)) = V.bl k ∧ if k = true then A else B := ⟨_, rfl, by rw [h]; simpa using hb⟩
theorem if_ff {A B : Prop} (h : B) : if (true = false) then A else B := by
  rw [if_neg (by decide)]
  exact h
theorem if_tf {A B : Prop} (h : A) : if (false = false) then A else B := by
  rw [if_pos rfl]
  exact h

inductive XR where
  | wrong (e : Int)
  | long
  | done (l : List Int)
/-- n times the octet that stands d places before the end -/
def cpy : Nat → Nat → List Int → List Int
  | 0, _, ex => ex
  | n + 1, d, ex => cpy n d (ex ++ [ex.getD (ex.length - d) 0])
theorem cpy_len : ∀ (n d : Nat) (ex : List Int), (cpy n d ex).length = ex.length + n
  | 0, _, _ => rfl
  | n + 1, d, ex => by
    rw [cpy, cpy_len, List.length_append]
    show ex.length + 1 + n = _
    omega
theorem cpy_snoc : ∀ (n d : Nat) (ex : List Int), cpy (n + 1) d ex = cpy n d ex ++ [(cpy n d ex).getD ((cpy n d ex).length - d) 0]
  | 0, _, _ => rfl
  | n + 1, d, ex => by
    rw [cpy, cpy_snoc n d, cpy]
def xp (ps : List Int) (lim : Int) : Nat → Nat → List Int → XR
  | 0, _, ex => .done ex
  | f + 1, at_, ex => if at_ < ps.length then
      (if ps.getD at_ 0 < 128 then
        (if (ps.length : Int) < (at_ : Int) + ps.getD at_ 0 + 2 then .wrong (ps.length : Int)
          else if lim < ((ex ++ (ps.drop (at_ + 1)).take ((ps.getD at_ 0).toNat + 1)).length : Int) then .long else xp ps lim f (at_ + (ps.getD at_ 0).toNat + 2) (ex ++ (ps.drop (at_ + 1)).take ((ps.getD at_ 0).toNat + 1)))
      else
        (if ps.length < at_ + 2 then .wrong (ps.length : Int)
          else if ps.getD (at_ + 1) 0 < 1 ∨ (ex.length : Int) < ps.getD (at_ + 1) 0 then .wrong ((at_ : Int) + 1)
          else if lim < ((cpy ((ps.getD at_ 0).toNat - 125) (ps.getD (at_ + 1) 0).toNat ex).length : Int) then .long else xp ps lim f (at_ + 2) (cpy ((ps.getD at_ 0).toNat - 125) (ps.getD (at_ + 1) 0).toNat ex)))
    else .done ex
theorem xp_end {ps : List Int} {lim : Int} {f at_ : Nat} {ex : List Int} (h : ps.length ≤ at_) : xp ps lim f at_ ex = .done ex := by
  cases f with
  | zero => rfl
  | succ f => rw [xp, if_neg (by omega)]
theorem xp_wrong {ps : List Int} {lim : Int} : ∀ {f at_ : Nat} {ex : List Int} {e : Int}, xp ps lim f at_ ex = .wrong e → 0 ≤ e ∧ e ≤ ps.length
  | 0, _, _, _, h => by cases h
  | f + 1, at_, ex, e, h => by
    rw [xp] at h
    split at h
    · split at h
      · split at h
        · cases h
          omega
        · split at h
          · cases h
          · exact xp_wrong h
      · split at h
        · cases h
          omega
        · split at h
          · cases h
            omega
          · split at h
            · cases h
            · exact xp_wrong h
    · cases h
def octs (ps : List Int) : Prop := ∀ o ∈ ps, 0 ≤ o ∧ o ≤ 255
theorem octs_at {ps : List Int} (h : octs ps) {i : Nat} (hi : i < ps.length) : 0 ≤ ps.getD i 0 ∧ ps.getD i 0 ≤ 255 := by
  rw [List.getD_eq_getElem?_getD, List.getElem?_eq_getElem hi]
  exact h _ (List.getElem_mem hi)

def spLX (K : PySem.W.Frag) : Sp := fun vs H Q _ => ∃ (p : Addr) (ps : List Int) (lim : Int), vs = [.ref p, .int lim] ∧ SqL K H p (ps.map V.int) ∧ ps.length ≤ 10000 ∧ octs ps ∧
  (∀ e, xp ps lim ps.length 0 [] = .wrong e → ∀ t H', Same H H' → H' t = some (.tup [.str "wrong", .int e]) → Q (.ref t) H') ∧
  (xp ps lim ps.length 0 [] = .long → ∀ t H', Same H H' → H' t = some (.tup [.str "long", .int 0]) → Q (.ref t) H') ∧
  (∀ l, xp ps lim ps.length 0 [] = .done l → ∀ t a H', Same H H' → H' a = some (.lst (l.map V.int)) → H' t = some (.tup [.str "done", .ref a]) → Q (.ref t) H')
theorem ok__law_expand (T : Txt K mg) : Ok P w K mg base CX0 1 "_law_expand" ["packed", "limit"] (spLX K) := by
  refine ok_of T.d__law_expand fun f fd F => F.ok sc__law_expand (fun vs H Q E h => ?_) (fun cdv A outer s H vs Q E hr h => ?_)
  · obtain ⟨p, ps, lim, rfl, _⟩ := h
    rfl
  · obtain ⟨p, ps, lim, rfl, hA, hlen, hps, kW, kL, kQ⟩ := h
    have nd := sc__law_expand.nd
    refine ⟨_,       (pss_cons (ps_set (i := 2) nd rfl (Or.inl rfl) (pe_lst pa_nil))
      (pss_cons (ps_set (i := 3) nd rfl (Or.inl rfl) pe_int)
      (pss_cons (ps_for PassesOwn.never rfl (pi_range1 rfl T.n_range (pa_cons (pe_callB call_len_seq (by rfl) T.n_len PySem.boot_len (pa_cons (pv 0) pa_nil)) pa_nil)) (pg_name (i := 4) nd rfl (Or.inl rfl))
        (pss_one (ps_if (pt_cmpR op_lt (pv 3) (pe_callB call_len_seq (by rfl) T.n_len PySem.boot_len (pa_cons (pv 0) pa_nil)) (nomark _))
          (pss_cons (ps_set (i := 5) nd rfl (Or.inl rfl) (pe_ix ix_list (pv 0) (pv 3) (fun _ _ => rfl)))
          (pss_cons (ps_if (pt_cmpR op_lt (pv 5) pe_int (nomark _))
            (pss_cons (ps_if (pt_cmpR op_gt (pe_op op_add (pe_op op_add (pv 3) (pv 5)) pe_int) (pe_callB call_len_seq (by rfl) T.n_len PySem.boot_len (pa_cons (pv 0) pa_nil)) (nomark _))
              (pss_one (ps_ret (pe_tup (pa_cons pe_str (pa_cons (pe_callB call_len_seq (by rfl) T.n_len PySem.boot_len (pa_cons (pv 0) pa_nil)) pa_nil))))) pss_nil)
            (pss_cons (ps_set (i := 2) nd rfl (Or.inl rfl) (pe_op op_cat (pv 2) (pe_slice sl_list (pv 0) (po_some (pe_op op_add (pv 3) pe_int)) (po_some (pe_op op_add (pe_op op_add (pv 3) (pv 5)) pe_int)))))
            (pss_one (ps_set (i := 3) nd rfl (Or.inl rfl) (pe_op op_add (pe_op op_add (pv 3) (pv 5)) pe_int)))))
            (pss_cons (ps_if (PW.pt (pw_or (pt_cmpR op_eq (pe_op op_add (pv 3) pe_int) (pe_callB call_len_seq (by rfl) T.n_len PySem.boot_len (pa_cons (pv 0) pa_nil)) (nomark _)) (pw_or (pt_cmpR op_eq (pe_ix ix_list (pv 0) (pe_op op_add (pv 3) pe_int) (fun _ _ => rfl)) pe_int (nomark _)) (pw_or1 (pt_cmpR op_gt (pe_ix ix_list (pv 0) (pe_op op_add (pv 3) pe_int) (fun _ _ => rfl)) (pe_callB call_len_seq (by rfl) T.n_len PySem.boot_len (pa_cons (pv 2) pa_nil)) (nomark _))))))
              (pss_one (ps_ret (pe_tup (pa_cons pe_str (pa_cons (pe_op op_add (pv 3) pe_int) pa_nil))))) pss_nil)
            (pss_cons (ps_for PassesOwn.never rfl (pi_range1 rfl T.n_range (pa_cons (pe_op op_sub (pv 5) pe_int) pa_nil)) (pg_name (i := 6) nd rfl (Or.inl rfl))
              (pss_one (ps_expr (pe_bm PySem.F.plainAttrs_list PySem.F.slot_list_append PySem.F.type_list_append mt_append (pv 2) (pa_cons (pe_ix ix_list (pv 2) (pe_op op_sub (pe_callB call_len_seq (by rfl) T.n_len PySem.boot_len (pa_cons (pv 2) pa_nil)) (pe_ix ix_list (pv 0) (pe_op op_add (pv 3) pe_int) (fun _ _ => rfl))) (fun _ _ => rfl)) pa_nil)))))
            (pss_one (ps_set (i := 3) nd rfl (Or.inl rfl) (pe_op op_add (pv 3) pe_int))))))
          (pss_one (ps_if (pt_cmpR op_gt (pe_callB call_len_seq (by rfl) T.n_len PySem.boot_len (pa_cons (pv 2) pa_nil)) (pv 1) (nomark _))
            (pss_one (ps_ret (pe_tup (pa_cons pe_str (pa_cons pe_int pa_nil))))) pss_nil)))) pss_nil)))
      (pss_one (ps_ret (pe_tup (pa_cons pe_str (pa_cons (pv 2) pa_nil)))))))), ?_⟩
    generalize hR : xp ps lim ps.length 0 [] = R at kW kL kQ
    refine ⟨by decide, fun px0 hpx0 => ⟨_, rfl, p, _, rfl, .inl ((same_upd hpx0).seq hA), ((ps.length : Nat) : Int), by rw [List.length_map], by omega, by omega, ?_⟩⟩
    rw [Int.toNat_natCast]
    refine for_range (lo := 0) (n := ps.length) (fun i σ H' => ∃ (px at_ f : Nat) (ex : List Int) (v4 v5 v6 : Option V), i ≤ at_ ∧ ps.length - at_ ≤ f ∧ at_ ≤ ps.length ∧ ex.length ≤ 130 * at_ ∧ xp ps lim f at_ ex = R ∧ Same H H' ∧ H px = none ∧ H' px = some (.lst (ex.map V.int)) ∧ σ = [some (.ref p), some (.int lim), some (.ref px), some (.int (at_ : Int)), v4, v5, v6]) ⟨px0, 0, ps.length, [], none, none, none, Nat.le_refl _, Nat.le_refl _, Nat.zero_le _, Nat.zero_le _, hR, same_upd hpx0, hpx0, upd_same, rfl⟩ ?_ ?_
    · rintro i σ H' hi ⟨px, at_, f, ex, v4, v5, v6, hia, hf, hat, hex, hxp, e, hpx, hX, rfl⟩
      have hA' := e.seq hA
      refine ⟨_, rfl, _, rfl, p, _, rfl, .inl hA', _, _, rfl, rfl, _, rfl, itd (fun h1 => ?_) (fun h1 => ?_)⟩
      · rw [List.length_map] at h1
        have hlt : at_ < ps.length := by omega
        obtain ⟨f, rfl⟩ : ∃ g, f = g + 1 := ⟨f - 1, by omega⟩
        rw [xp, if_pos hlt] at hxp
        have ho := octs_at hps hlt
        refine ⟨_, rfl, _, rfl, p, _, _, _, rfl, rfl, hA', at_nat (j := at_) rfl (getD_int hlt), ?_⟩
        generalize ps.getD at_ 0 = o at hxp ho ⊢
        refine ⟨_, rfl, _, _, rfl, rfl, _, rfl, itd (fun h2 => ?_) (fun h2 => ?_)⟩
        · rw [if_pos h2] at hxp
          refine ⟨_, rfl, _, rfl, _, _, rfl, rfl, _, _, rfl, rfl, _, rfl, p, _, rfl, .inl hA', _, _, rfl, rfl, _, rfl, itd (fun h3 => ?_) (fun h3 => ?_)⟩
          · rw [List.length_map] at h3
            rw [if_pos h3] at hxp
            refine ⟨_, rfl, p, _, rfl, .inl hA', (by show 2 ≤ sizeLine; decide), fun t ht => kW _ hxp.symm t _ (e.trans (same_upd ht)) ?_⟩
            rw [upd_same, List.length_map]
          · rw [List.length_map] at h3
            rw [if_neg h3] at hxp
            have hcut : cutV (ps.map V.int) (some ((at_ : Int) + 1)) (some ((at_ : Int) + o + 2)) = ((ps.drop (at_ + 1)).take (o.toNat + 1)).map V.int := by
              rw [show (at_ : Int) + 1 = ((at_ + 1 : Nat) : Int) by omega, show (at_ : Int) + o + 2 = ((at_ + o.toNat + 2 : Nat) : Int) by omega, cut_mid (by omega) (by rw [List.length_map]; omega), show at_ + o.toNat + 2 - (at_ + 1) = o.toNat + 1 by omega, List.map_take, List.map_drop]
            refine ⟨_, rfl, _, rfl, _, rfl, _, _, rfl, rfl, _, rfl, _, rfl, _, rfl, _, _, rfl, rfl, _, _, rfl, rfl, _, rfl, p, _, rfl, hA', fun r hr => ?_⟩
            rw [hcut]
            have hX1 := same_upd (o := .lst (((ps.drop (at_ + 1)).take (o.toNat + 1)).map V.int)) hr _ _ hX
            have htl : ((ps.drop (at_ + 1)).take (o.toNat + 1)).length ≤ 128 := by
              rw [List.length_take]
              omega
            refine ⟨px, r, _, _, rfl, rfl, hX1, upd_same, by rw [List.length_map, List.length_map, sizeLine_eq]; omega, fun q hq => ?_⟩
            rw [← List.map_append]
            have e2 := (e.trans (same_upd (o := .lst (((ps.drop (at_ + 1)).take (o.toNat + 1)).map V.int)) hr)).trans (same_upd (o := .lst ((ex ++ (ps.drop (at_ + 1)).take (o.toNat + 1)).map V.int)) hq)
            have hq0 : H q = none := (e.trans (same_upd (o := .lst (((ps.drop (at_ + 1)).take (o.toNat + 1)).map V.int)) hr)).free hq
            refine ⟨_, rfl, _, rfl, _, _, rfl, rfl, _, _, rfl, rfl, ?_⟩
            refine ⟨_, rfl, q, _, rfl, .inl (SqL.of upd_same), _, rfl, _, _, rfl, rfl, _, rfl, itd (fun h4 => ?_) (fun h4 => ?_)⟩
            · rw [List.length_map] at h4
              rw [if_pos h4] at hxp
              exact ⟨(by show 2 ≤ sizeLine; decide), fun t ht => kL hxp.symm t _ (e2.trans (same_upd ht)) upd_same⟩
            · rw [List.length_map] at h4
              rw [if_neg h4] at hxp
              refine ⟨q, at_ + o.toNat + 2, f, _, some (.int (0 + (i : Int))), some (.int o), v6, by omega, by omega, by omega, by rw [List.length_append]; omega, hxp, e2, hq0, upd_same, ?_⟩
              rw [show ((at_ + o.toNat + 2 : Nat) : Int) = (at_ : Int) + o + 2 by omega]
              rfl
        · rw [if_neg h2] at hxp
          refine ⟨_, rfl, _, _, rfl, rfl, _, rfl, p, _, rfl, .inl hA', rfl, _, rfl, itd (fun h3 => ?_) (fun h3 => ?_)⟩
          · have h3 : (at_ : Int) + 1 = (((ps.map V.int).length : Nat) : Int) := V.int.inj h3
            rw [List.length_map] at h3
            rw [if_pos (by omega)] at hxp
            refine ⟨_, rfl, _, _, rfl, rfl, (by show 2 ≤ sizeLine; decide), fun t ht => kW _ hxp.symm t _ (e.trans (same_upd ht)) ?_⟩
            rw [upd_same, ← h3]
          · have h3 : ¬ (at_ : Int) + 1 = (((ps.map V.int).length : Nat) : Int) := fun z => h3 (congrArg V.int z)
            rw [List.length_map] at h3
            rw [if_neg (by omega)] at hxp
            have hlt1 : at_ + 1 < ps.length := by omega
            have hd := octs_at hps hlt1
            have hg : atI (ps.map V.int) ((at_ : Int) + 1) = some (V.int (ps.getD (at_ + 1) 0)) := at_nat (j := at_ + 1) (by omega) (getD_int hlt1)
            generalize ps.getD (at_ + 1) 0 = ds at hxp hd hg
            refine ⟨_, rfl, _, rfl, _, _, rfl, rfl, p, _, _, _, rfl, rfl, hA', hg, rfl, _, rfl, itd (fun h5 => ?_) (fun h5 => ?_)⟩
            · have h5 : ds = 0 := V.int.inj h5
              rw [if_pos (.inl (by omega))] at hxp
              exact ⟨_, rfl, _, _, rfl, rfl, (by show 2 ≤ sizeLine; decide), fun t ht => kW _ hxp.symm t _ (e.trans (same_upd ht)) upd_same⟩
            · have h5 : ¬ ds = 0 := fun z => h5 (congrArg V.int z)
              refine ⟨_, rfl, _, rfl, _, _, rfl, rfl, p, _, _, _, rfl, rfl, hA', hg, _, rfl, px, _, rfl, .inl (SqL.of hX), _, _, rfl, rfl, _, rfl, itd (fun h6 => ?_) (fun h6 => ?_)⟩
              · rw [List.length_map] at h6
                rw [if_pos (.inr (by omega))] at hxp
                exact ⟨_, rfl, _, _, rfl, rfl, (by show 2 ≤ sizeLine; decide), fun t ht => kW _ hxp.symm t _ (e.trans (same_upd ht)) upd_same⟩
              · rw [List.length_map] at h6
                rw [if_neg (by omega)] at hxp
                refine ⟨_, rfl, _, _, rfl, rfl, _, rfl, by omega, by omega, ?_⟩
                rw [show (o - 125).toNat = o.toNat - 125 by omega]
                have cln := cpy_len (o.toNat - 125) ds.toNat ex
                refine for_range (lo := 0) (n := o.toNat - 125) (fun j σ H'' => Same H H'' ∧ H'' px = some (.lst ((cpy j ds.toNat ex).map V.int)) ∧ ∃ v6, σ = [some (.ref p), some (.int lim), some (.ref px), some (.int (at_ : Int)), some (.int (0 + (i : Int))), some (.int o), v6]) ⟨e, hX, v6, rfl⟩ ?_ ?_
                · rintro j σ H'' hj ⟨e2, hL, v6, rfl⟩
                  have cl := cpy_len j ds.toNat ex
                  refine ⟨_, rfl, .inl ⟨rfl, _, SqL.of hL⟩, _, rfl, _, rfl, px, _, rfl, .inl (SqL.of hL), _, rfl, _, rfl, _, _, rfl, rfl, p, _, _, _, rfl, rfl, e2.seq hA, hg, _, _, rfl, rfl, px, _, _, _, rfl, rfl, SqL.of hL, at_nat (j := (cpy j ds.toNat ex).length - ds.toNat) (by rw [List.length_map]; omega) (getD_int (by omega)), px, _, _, rfl, rfl, hL, by rw [List.length_map, sizeLine_eq]; omega, ?_⟩
                  refine ⟨same_new e2 hpx, ?_, _, rfl⟩
                  rw [upd_same, cpy_snoc, List.map_append]
                  rfl
                · rintro σ H'' ⟨e2, hL, v6, rfl⟩
                  generalize cpy (o.toNat - 125) ds.toNat ex = ex2 at hxp cln hL
                  refine ⟨_, rfl, _, _, rfl, rfl, ?_⟩
                  refine ⟨_, rfl, px, _, rfl, .inl (SqL.of hL), _, rfl, _, _, rfl, rfl, _, rfl, itd (fun h4 => ?_) (fun h4 => ?_)⟩
                  · rw [List.length_map] at h4
                    rw [if_pos h4] at hxp
                    exact ⟨(by show 2 ≤ sizeLine; decide), fun t ht => kL hxp.symm t _ (e2.trans (same_upd ht)) upd_same⟩
                  · rw [List.length_map] at h4
                    rw [if_neg h4] at hxp
                    refine ⟨px, at_ + 2, f, _, some (.int (0 + (i : Int))), some (.int o), v6, by omega, by omega, by omega, by omega, hxp, e2, hpx, hL, ?_⟩
                    rw [show ((at_ + 2 : Nat) : Int) = (at_ : Int) + 2 by omega]
                    rfl
      · rw [List.length_map] at h1
        exact ⟨px, at_, f, ex, _, v5, v6, by omega, hf, hat, hex, hxp, e, hpx, hX, rfl⟩
    · rintro σ H' ⟨px, at_, f, ex, v4, v5, v6, hia, hf, hat, hex, hxp, e, hpx, hX, rfl⟩
      rw [xp_end hia] at hxp
      exact ⟨_, rfl, (by show 2 ≤ sizeLine; decide), fun t ht => kQ _ hxp.symm t px _ (e.trans (same_upd ht)) (same_upd ht _ _ hX) upd_same⟩

-- @@CUT
/-! ### packed lists -/
theorem getD_app_l {a b : List Int} {i : Nat} (h : i < a.length) : (a ++ b).getD i 0 = a.getD i 0 := by
  rw [List.getD_eq_getElem?_getD, List.getD_eq_getElem?_getD, List.getElem?_append_left h]
theorem getD_app_r {a b : List Int} {i j : Nat} (h : i = a.length + j) : (a ++ b).getD i 0 = b.getD j 0 := by
  rw [List.getD_eq_getElem?_getD, List.getD_eq_getElem?_getD, List.getElem?_append_right (by omega), show i - a.length = j by omega]
def Exp (pk ex : List Int) : Prop := ∃ c, c ≤ pk.length ∧ ∀ (post : List Int) (f : Nat), xp (pk ++ post) 1000000 (c + f) 0 [] = xp (pk ++ post) 1000000 f pk.length ex
theorem Exp.nil : Exp [] [] := ⟨0, Nat.le_refl _, fun post f => by rw [Nat.zero_add]; rfl⟩
theorem Exp.done {pk ex : List Int} (h : Exp pk ex) : xp pk 1000000 pk.length 0 [] = .done ex := by
  obtain ⟨c, hc, h⟩ := h
  have := h [] (pk.length - c)
  rw [List.append_nil, show c + (pk.length - c) = pk.length by omega, xp_end (Nat.le_refl _)] at this
  exact this
theorem Exp.plain {pk ex p : List Int} (h : Exp pk ex) (h0 : p ≠ []) (h1 : p.length ≤ 128) (h2 : ex.length + p.length ≤ 1000000) : Exp (pk ++ (((p.length : Int) - 1) :: p)) (ex ++ p) := by
  obtain ⟨c, hc, h⟩ := h
  have hp : 1 ≤ p.length := by
    cases p with
    | nil => exact absurd rfl h0
    | cons _ _ => exact Nat.succ_le_succ (Nat.zero_le _)
  refine ⟨c + 1, by rw [List.length_append, List.length_cons]; omega, fun post f => ?_⟩
  have e := h ((((p.length : Int) - 1) :: p) ++ post) (1 + f)
  rw [← List.append_assoc] at e
  rw [show c + 1 + f = c + (1 + f) by omega, e, show 1 + f = f + 1 by omega, xp]
  have g0 : (pk ++ (((p.length : Int) - 1) :: p) ++ post).getD pk.length 0 = (p.length : Int) - 1 := by
    rw [List.append_assoc, getD_app_r (j := 0) (by omega)]
    rfl
  have hl : (pk ++ (((p.length : Int) - 1) :: p) ++ post).length = pk.length + (p.length + 1) + post.length := by
    rw [List.length_append, List.length_append, List.length_cons]
  have hd : ((pk ++ (((p.length : Int) - 1) :: p) ++ post).drop (pk.length + 1)).take (((p.length : Int) - 1).toNat + 1) = p := by
    rw [List.append_assoc, show pk.length + 1 = pk.length + 1 by rfl, List.drop_append, show pk.length + 1 - pk.length = 1 by omega, List.drop_of_length_le (by omega), List.nil_append]
    show (p ++ post).take _ = p
    rw [show ((p.length : Int) - 1).toNat + 1 = p.length by omega, List.take_left]
  rw [if_pos (by omega), g0, if_pos (by omega), if_neg (by omega), hd, if_neg (by rw [List.length_append]; omega)]
  congr 1
  rw [List.length_append, List.length_cons]
  omega
theorem Exp.copy {pk ex : List Int} {l d : Nat} (h : Exp pk ex) (h0 : 3 ≤ l) (h1 : l ≤ 130) (h2 : 1 ≤ d) (h3 : d ≤ ex.length) (h5 : ex.length + l ≤ 1000000) : Exp (pk ++ [125 + (l : Int), (d : Int)]) (cpy l d ex) := by
  obtain ⟨c, hc, h⟩ := h
  refine ⟨c + 1, by rw [List.length_append]; show c + 1 ≤ pk.length + 2; omega, fun post f => ?_⟩
  have e := h ([125 + (l : Int), (d : Int)] ++ post) (1 + f)
  rw [← List.append_assoc] at e
  rw [show c + 1 + f = c + (1 + f) by omega, e, show 1 + f = f + 1 by omega, xp]
  have g0 : (pk ++ [125 + (l : Int), (d : Int)] ++ post).getD pk.length 0 = 125 + (l : Int) := by
    rw [List.append_assoc, getD_app_r (j := 0) (by omega)]
    rfl
  have g1 : (pk ++ [125 + (l : Int), (d : Int)] ++ post).getD (pk.length + 1) 0 = (d : Int) := by
    rw [List.append_assoc, getD_app_r (j := 1) (by omega)]
    rfl
  have hl : (pk ++ [125 + (l : Int), (d : Int)] ++ post).length = pk.length + 2 + post.length := by
    rw [List.length_append, List.length_append]
    rfl
  have hcl := cpy_len l d ex
  rw [if_pos (by omega), g0, g1, if_neg (by omega), if_neg (by omega), if_neg (by omega), show (125 + (l : Int)).toNat - 125 = l by omega, show (d : Int).toNat = d by omega, if_neg (by omega)]
  congr 1
  rw [List.length_append]
  rfl
/-- plain steps -/
def chunk (xs : List Int) (k : Nat) : List Int := (xs.drop (128 * k)).take 128
def plS (xs : List Int) (m : Nat) : List Int := (List.range m).flatMap fun k => (((chunk xs k).length : Int) - 1) :: chunk xs k
theorem plS_succ (xs : List Int) (m : Nat) : plS xs (m + 1) = plS xs m ++ ((((chunk xs m).length : Int) - 1) :: chunk xs m) := by simp [plS, List.range_succ]
theorem chunk_len (xs : List Int) (k : Nat) : (chunk xs k).length = min 128 (xs.length - 128 * k) := by
  unfold chunk
  rw [List.length_take, List.length_drop]
theorem plS_len (xs : List Int) : ∀ m, 128 * m ≤ xs.length + 127 → (plS xs m).length = min (128 * m) xs.length + m
  | 0, _ => by simp [plS]
  | m + 1, h => by
    rw [plS_succ, List.length_append, plS_len xs m (by omega), List.length_cons, chunk_len]
    omega
def nch (n : Nat) : Nat := (n + 127) / 128
theorem take_chunk (xs : List Int) (k : Nat) : xs.take (128 * k) ++ chunk xs k = xs.take (128 * (k + 1)) := by
  unfold chunk
  rw [show 128 * (k + 1) = 128 * k + 128 by omega, List.take_add]
theorem Exp.plains {pk ex xs : List Int} (h : Exp pk ex) (hz : ex.length + xs.length ≤ 1000000) : ∀ m, 128 * m ≤ xs.length + 127 → Exp (pk ++ plS xs m) (ex ++ xs.take (128 * m))
  | 0, _ => by simpa [plS] using h
  | m + 1, hm => by
    have ih := Exp.plains h hz m (by omega)
    have hl := chunk_len xs m
    have hne : chunk xs m ≠ [] := fun z => by
      rw [z] at hl
      simp at hl
      omega
    have := ih.plain (p := chunk xs m) hne (by omega) (by rw [List.length_append, List.length_take]; omega)
    rw [plS_succ, ← take_chunk, ← List.append_assoc, ← List.append_assoc]
    exact this
theorem Exp.all {pk ex xs : List Int} (h : Exp pk ex) (hz : ex.length + xs.length ≤ 1000000) : Exp (pk ++ plS xs (nch xs.length)) (ex ++ xs) := by
  have := h.plains hz (nch xs.length) (by unfold nch; omega)
  rw [List.take_of_length_le (by unfold nch; omega)] at this
  exact this
theorem plS_all_len (xs : List Int) : (plS xs (nch xs.length)).length = xs.length + nch xs.length := by
  rw [plS_len _ _ (by unfold nch; omega)]
  unfold nch
  omega
/-- a copy that is right -/
theorem cpy_take {xs : List Int} {at_ d : Nat} (hd : 1 ≤ d) (hda : d ≤ at_) : ∀ l, at_ + l ≤ xs.length → (∀ t, t < l → xs.getD (at_ + t) 0 = xs.getD (at_ - d + t) 0) → cpy l d (xs.take at_) = xs.take (at_ + l)
  | 0, _, _ => rfl
  | l + 1, h1, h2 => by
    have ih := cpy_take hd hda l (by omega) (fun t ht => h2 t (by omega))
    have hl : (xs.take (at_ + l)).length = at_ + l := by rw [List.length_take]; omega
    rw [cpy_snoc, ih, hl, show at_ + (l + 1) = at_ + l + 1 by omega, take_snoc (show at_ + l < xs.length by omega)]
    congr 2
    have e1 := h2 l (by omega)
    have e2 : (xs.take (at_ + l)).getD (at_ + l - d) 0 = xs.getD (at_ + l - d) 0 := by
      rw [List.getD_eq_getElem?_getD, List.getD_eq_getElem?_getD, List.getElem?_take_of_lt (by omega)]
    rw [e2, show at_ + l - d = at_ - d + l by omega, ← e1, List.getD_eq_getElem?_getD, List.getElem?_eq_getElem (by omega)]
    rfl
/-- the three octets at a place -/
def sl3 (xs : List Int) (i : Nat) : List Int := (xs.drop i).take 3
theorem sl3_len (xs : List Int) (i : Nat) : (sl3 xs i).length = min 3 (xs.length - i) := by
  unfold sl3
  rw [List.length_take, List.length_drop]
theorem sl3_at {xs : List Int} {i t : Nat} (ht : t < 3) : (sl3 xs i).getD t 0 = xs.getD (i + t) 0 := by
  unfold sl3
  rw [List.getD_eq_getElem?_getD, List.getD_eq_getElem?_getD, List.getElem?_take_of_lt ht, List.getElem?_drop]
/-- the last place before it with the same three octets -/
def Last (xs : List Int) (i : Nat) (e : Int) : Prop := (e = -1 ∧ ∀ j, j < i → sl3 xs j ≠ sl3 xs i) ∨ ∃ j : Nat, e = (j : Int) ∧ j < i ∧ sl3 xs j = sl3 xs i ∧ ∀ k, j < k → k < i → sl3 xs k ≠ sl3 xs i
theorem Last.same {xs : List Int} {i : Nat} {e : Int} (h : Last xs i e) (hi : i < xs.length) (h0 : 0 ≤ e) : ∃ j : Nat, e = (j : Int) ∧ j < i ∧ i + 3 ≤ xs.length ∧ ∀ t, t < 3 → xs.getD (i + t) 0 = xs.getD (j + t) 0 := by
  rcases h with ⟨rfl, _⟩ | ⟨j, rfl, hj, hs, _⟩
  · exact absurd h0 (by decide)
  · have h1 := sl3_len xs i
    have h2 := sl3_len xs j
    rw [hs] at h2
    refine ⟨j, rfl, hj, by omega, fun t ht => ?_⟩
    rw [← sl3_at ht, ← sl3_at ht, hs]
def AllEq (xs : List Int) : Prop := ∃ c, ∀ i, i < xs.length → xs.getD i 0 = c
theorem sl3_eq {xs : List Int} (h : AllEq xs) {i j : Nat} (hi : i + 3 ≤ xs.length) (hj : j + 3 ≤ xs.length) : sl3 xs i = sl3 xs j := by
  obtain ⟨c, h⟩ := h
  have e : ∀ i, i + 3 ≤ xs.length → sl3 xs i = [c, c, c] := fun i hi => by
    refine List.ext_getElem (by rw [sl3_len]; show _ = 3; omega) fun t h1 h2 => ?_
    have ht : t < 3 := h2
    have e1 := sl3_at (xs := xs) (i := i) ht
    rw [h _ (by omega), List.getD_eq_getElem?_getD, List.getElem?_eq_getElem h1] at e1
    have e1 : (sl3 xs i)[t] = c := e1
    rw [e1]
    match t, ht with
    | 0, _ => rfl
    | 1, _ => rfl
    | 2, _ => rfl
  rw [e i hi, e j hj]
theorem Last.equal {xs : List Int} (h : AllEq xs) {i : Nat} {e : Int} (hi : i < xs.length) (l : Last xs i e) : (e = -1 ∧ (i = 0 ∨ xs.length < i + 3)) ∨ (1 ≤ i ∧ i + 3 ≤ xs.length ∧ e = (i : Int) - 1) := by
  rcases l with ⟨rfl, l⟩ | ⟨j, rfl, hj, hs, l⟩
  · refine .inl ⟨rfl, Classical.byContradiction fun z => ?_⟩
    exact l (i - 1) (by omega) (sl3_eq h (by omega) (by omega))
  · have h1 := sl3_len xs i
    have h2 := sl3_len xs j
    rw [hs] at h2
    refine .inr ⟨by omega, by omega, ?_⟩
    rcases Nat.lt_or_ge j (i - 1) with z | z
    · exact absurd (sl3_eq h (by omega) (by omega)) (l (i - 1) z (by omega))
    · omega

-- @@CUT
theorem rgs128 (n : Nat) : Builtin.Range.rangeSize 0 (n : Int) 128 = (nch n : Int) := by
  unfold Builtin.Range.rangeSize nch
  rw [if_pos (by decide)]
  split
  · omega
  · omega
theorem fits_long {i : Int} (h1 : -1000000 ≤ i) (h2 : i ≤ 1000000) : Builtin.Range.rangeFitsLong i = true := by
  unfold Builtin.Range.rangeFitsLong
  refine Bool.and_eq_true_iff.mpr ⟨decide_eq_true ?_, decide_eq_true ?_⟩
  · omega
  · omega
theorem rgc128 {n : Nat} (h : n ≤ 100000) : RgC 0 (n : Int) 128 (nch n) := by
  have hn : nch n ≤ 100000 := by unfold nch; omega
  refine ⟨by decide, by decide, ?_, rgs128 n⟩
  unfold Builtin.Range.small
  rw [rgs128, fits_long (by omega) (by omega), fits_long (by omega) (by omega), fits_long (by omega) (by omega), fits_long (by omega) (by omega), if_pos (by decide), fits_long (by omega) (by omega)]
  rw [Bool.or_true]
  rfl
def spPlain (K : PySem.W.Frag) : Sp := fun vs H Q _ => ∃ (a : Addr) (xs : List Int), vs = [.ref a] ∧ SqL K H a (xs.map V.int) ∧ xs.length ≤ 60000 ∧ ∀ p H', H p = none → Same H H' → H' p = some (.lst ((plS xs (nch xs.length)).map V.int)) → Q (.ref p) H'
theorem ok__plain_steps (T : Txt K mg) : Ok P w K mg base CX0 1 "_plain_steps" ["octets"] (spPlain K) := by
  refine ok_of T.d__plain_steps fun f fd F => F.ok sc__plain_steps (fun vs H Q E h => ?_) (fun cdv A outer s H vs Q E hr h => ?_)
  · obtain ⟨a, xs, rfl, _⟩ := h
    rfl
  · obtain ⟨a, xs, rfl, hA, hl, kQ⟩ := h
    have nd := sc__plain_steps.nd
    refine ⟨_,       (pss_cons (ps_set (i := 1) nd rfl (Or.inl rfl) (pe_lst pa_nil))
      (pss_cons (ps_for PassesOwn.never rfl (pi_range3 rfl T.n_range (pa_cons pe_int (pa_cons (pe_callB call_len_seq (by rfl) T.n_len PySem.boot_len (pa_cons (pv 0) pa_nil)) (pa_cons (pe_globC rfl T.c_MOST_PLAIN) pa_nil)))) (pg_name (i := 2) nd rfl (Or.inl rfl))
        (pss_cons (ps_set (i := 3) nd rfl (Or.inl rfl) (pe_slice sl_list (pv 0) (po_some (pv 2)) (po_some (pe_op op_add (pv 2) (pe_globC rfl T.c_MOST_PLAIN)))))
        (pss_cons (ps_expr (pe_bm PySem.F.plainAttrs_list PySem.F.slot_list_append PySem.F.type_list_append mt_append (pv 1) (pa_cons (pe_op op_sub (pe_callB call_len_seq (by rfl) T.n_len PySem.boot_len (pa_cons (pv 3) pa_nil)) pe_int) pa_nil)))
        (pss_one (ps_expr (pe_bm PySem.F.plainAttrs_list PySem.F.slot_list_extend PySem.F.type_list_extend mt_extend (pv 1) (pa_cons (pv 3) pa_nil)))))))
      (pss_one (ps_ret (pv 1))))), ?_⟩
    refine ⟨by decide, fun D hD => ?_⟩
    refine ⟨_, rfl, a, _, rfl, .inl ((same_upd hD).seq hA), 0, _, 128, nch xs.length, rfl, by rw [List.length_map]; exact rgc128 (by omega), ?_⟩
    have hle : 128 * nch xs.length ≤ xs.length + 127 := by unfold nch; omega
    refine for_rangeC (lo := 0) (c := 128) (n := nch xs.length) (fun i σ H' => Same H H' ∧ H' D = some (.lst ((plS xs i).map V.int)) ∧ ∃ v2 v3 : Option V, σ = [some (.ref a), some (.ref D), v2, v3]) ⟨same_upd hD, upd_same, none, none, rfl⟩ ?_ ?_
    · rintro i σ H1 hi ⟨e1, hDl, v2, v3, rfl⟩
      have hpl := plS_len xs i (by omega)
      have hcl := chunk_len xs i
      have ez : (0 : Int) + (i : Nat) * 128 = ((128 * i : Nat) : Int) := by omega
      have hcut : cutV (xs.map V.int) (some ((0 : Int) + (i : Nat) * 128)) (some ((0 : Int) + (i : Nat) * 128 + 128)) = (chunk xs i).map V.int := by
        rw [ez, show ((128 * i : Nat) : Int) + 128 = ((128 * i + 128 : Nat) : Int) by omega, cut_midG (by omega), show 128 * i + 128 - 128 * i = 128 by omega, chunk, List.map_take, List.map_drop]
      refine ⟨_, rfl, _, rfl, _, rfl, _, rfl, _, _, rfl, rfl, _, rfl, a, _, rfl, e1.seq hA, fun r hr => ?_⟩
      rw [hcut]
      have g1 := same_upd (o := .lst ((chunk xs i).map V.int)) hr
      have hD1 := g1 _ _ hDl
      refine ⟨_, rfl, .inl ⟨rfl, _, SqL.of hD1⟩, _, rfl, r, _, rfl, .inl (SqL.of upd_same), _, _, rfl, rfl, D, _, _, rfl, rfl, hD1, small (by rw [List.length_map]; omega), ?_⟩
      have nD : r ≠ D := fun z => by rw [z, hDl] at hr; cases hr
      refine ⟨_, rfl, .inl ⟨rfl, _, SqL.of upd_same⟩, _, rfl, D, r, _, _, rfl, rfl, upd_same, by rw [upd_ne nD]; exact upd_same, by rw [List.length_append, List.length_map, List.length_map, List.length_singleton, sizeLine_eq]; omega, ?_⟩
      refine ⟨same_new (same_new (e1.trans g1) hD) hD, ?_, some _, some _, rfl⟩
      rw [upd_same, plS_succ, List.map_append, List.map_cons, List.length_map, List.append_assoc]
      rfl
    · rintro σ H1 ⟨e1, hDl, v2, v3, rfl⟩
      exact ⟨_, rfl, kQ D H1 hD e1 hDl⟩

-- @@CUT
theorem upd_keepN {H : Hp} {l b : Addr} {o q : HO} (hb : H b = some o) (hl : b ≠ l) : (upd H l q) b = some o := by
  rw [upd_ne hl]
  exact hb
def keyL (xs : List Int) : List L2.Key := xs.map Sum.inl
theorem keyL_inj : ∀ {a b : List Int}, keyL a = keyL b → a = b
  | [], [], _ => rfl
  | [], _ :: _, h => by cases h
  | _ :: _, [], h => by cases h
  | x :: a, y :: b, h => by
    have h : (Sum.inl x : L2.Key) :: keyL a = Sum.inl y :: keyL b := h
    injection h with h1 h2
    injection h1 with h1
    rw [h1, keyL_inj h2]
theorem keyL_kV (xs : List Int) : (keyL xs).map kV = xs.map V.int := by
  rw [keyL, List.map_map]
  rfl
/-- what the dict says when i places are done -/
def LastD (xs : List Int) (i : Nat) (kvs : List (List L2.Key × V)) : Prop := ∀ s : List Int, (valV kvs (keyL s) = none ∧ ∀ j, j < i → sl3 xs j ≠ s) ∨ ∃ j : Nat, valV kvs (keyL s) = some (V.int (j : Int)) ∧ j < i ∧ sl3 xs j = s ∧ ∀ k, j < k → k < i → sl3 xs k ≠ s
def spEarlier (K : PySem.W.Frag) : Sp := fun vs H Q _ => ∃ (a : Addr) (xs : List Int), vs = [.ref a] ∧ SqL K H a (xs.map V.int) ∧ xs.length ≤ 60000 ∧ ∀ p H' (es : List Int), H p = none → Same H H' → H' p = some (.lst (es.map V.int)) → es.length = xs.length → (∀ i, i < xs.length → Last xs i (es.getD i 0)) → Q (.ref p) H'
theorem ok__earlier_places (T : Txt K mg) : Ok P w K mg base CX0 1 "_earlier_places" ["octets"] (spEarlier K) := by
  refine ok_of T.d__earlier_places fun f fd F => F.ok sc__earlier_places (fun vs H Q E h => ?_) (fun cdv A outer s H vs Q E hr h => ?_)
  · obtain ⟨a, xs, rfl, _⟩ := h
    rfl
  · obtain ⟨a, xs, rfl, hA, hl, kQ⟩ := h
    have nd := sc__earlier_places.nd
    refine ⟨_,       (pss_cons (ps_set (i := 1) nd rfl (Or.inl rfl) pe_dnewT)
      (pss_cons (ps_set (i := 2) nd rfl (Or.inl rfl) (pe_lst pa_nil))
      (pss_cons (ps_for PassesOwn.never rfl (pi_range1 rfl T.n_range (pa_cons (pe_callB call_len_seq (by rfl) T.n_len PySem.boot_len (pa_cons (pv 0) pa_nil)) pa_nil)) (pg_name (i := 3) nd rfl (Or.inl rfl))
        (pss_cons (ps_set (i := 4) nd rfl (Or.inl rfl) (pe_callTy call_tuple_of (by rfl) T.n_tuple (by decide +kernel) (pa_cons (pe_slice sl_list (pv 0) (po_some (pv 3)) (po_some (pe_op op_add (pv 3) (pe_globC rfl T.c_SHORTEST_COPY)))) pa_nil)))
        (pss_cons (ps_expr (pe_bm PySem.F.plainAttrs_list PySem.F.slot_list_append PySem.F.type_list_append mt_append (pv 2) (pa_cons (pe_dget2 (hu_of hr) (pv 1) (pv 4) (pe_un un_neg pe_int) ⟨rfl, rfl, rfl, rfl⟩) pa_nil)))
        (pss_one (ps_dput (hu_of hr) (pv 1) (pv 4) (pv 3) rfl)))))
      (pss_one (ps_ret (pv 2)))))), ?_⟩
    intro dp hdp
    refine ⟨by decide, fun ep hep => ?_⟩
    have g1 := same_upd (o := .dT ([] : List (List L2.Key × V))) hdp
    have g2 := same_upd (o := .lst ([] : List V)) hep
    have hep0 : H ep = none := by
      cases q : H ep with
      | none => rfl
      | some o =>
        rw [g1 _ _ q] at hep
        cases hep
    have nde : dp ≠ ep := fun z => by rw [← z, upd_same] at hep; cases hep
    refine ⟨_, rfl, a, _, rfl, .inl ((g1.trans g2).seq hA), xs.length, by rw [List.length_map], by omega, by omega, ?_⟩
    refine for_range (lo := 0) (n := xs.length) (fun i σ H' => Same H H' ∧ ∃ (kvs : List (List L2.Key × V)) (es : List Int) (v3 v4 : Option V), H' dp = some (.dT kvs) ∧ H' ep = some (.lst (es.map V.int)) ∧ es.length = i ∧ LastD xs i kvs ∧ kvs.length ≤ i ∧ (∀ j, j < i → Last xs j (es.getD j 0)) ∧ σ = [some (.ref a), some (.ref dp), some (.ref ep), v3, v4])
      ⟨g1.trans g2, [], [], none, none, by rw [upd_ne nde]; exact upd_same, upd_same, rfl, fun s => .inl ⟨rfl, fun _ h => absurd h (Nat.not_lt_zero _)⟩, Nat.zero_le _, fun _ h => absurd h (Nat.not_lt_zero _), rfl⟩ ?_ ?_
    · clear g1 g2 hep
      rintro i σ H1 hi ⟨e1, kvs, es, v3, v4, hD, hE, hel, hL, hkl, hes, rfl⟩
      have ez : (0 : Int) + (i : Int) = ((i : Nat) : Int) := by omega
      have hcut : cutV (xs.map V.int) (some ((0 : Int) + (i : Int))) (some ((0 : Int) + (i : Int) + 3)) = (sl3 xs i).map V.int := by
        rw [ez, show ((i : Nat) : Int) + 3 = ((i + 3 : Nat) : Int) by omega, cut_midG (by omega), show i + 3 - i = 3 by omega, sl3, List.map_take, List.map_drop]
      refine ⟨_, rfl, _, rfl, _, rfl, _, rfl, _, _, rfl, rfl, _, rfl, a, _, rfl, e1.seq hA, fun r hr => ?_⟩
      rw [hcut]
      have g1 := same_upd (o := .lst ((sl3 xs i).map V.int)) hr
      refine ⟨r, _, rfl, .inl ⟨SqL.of upd_same, fun l hl => ?_⟩⟩
      have g2 := same_upd (o := .tup ((sl3 xs i).map V.int)) hl
      have hD2 := g2 _ _ (g1 _ _ hD)
      have hE2 := g2 _ _ (g1 _ _ hE)
      have hB2 : (upd (upd H1 r (.lst ((sl3 xs i).map V.int))) l (.tup ((sl3 xs i).map V.int))) l = some (.tup ((keyL (sl3 xs i)).map kV)) := by rw [keyL_kV]; exact upd_same
      have e2 := e1.trans (g1.trans g2)
      have nle : l ≠ ep := fun z => by rw [z, g1 _ _ hE] at hl; cases hl
      generalize upd (upd H1 r (.lst ((sl3 xs i).map V.int))) l (.tup ((sl3 xs i).map V.int)) = H2 at hD2 hE2 hB2 e2 ⊢
      clear g1 g2 hr hl
      refine ⟨_, rfl, .inl ⟨rfl, _, SqL.of hE2⟩, _, rfl, dp, rfl, .inr ⟨kvs, .inl hD2⟩, _, rfl, _, rfl, _, DGet.t (k := keyL (sl3 xs i)) hD2 hB2, ep, _, _, rfl, rfl, hE2, small (by rw [List.length_map]; omega), ?_⟩
      have nDE : dp ≠ ep := nde
      have hl2 : H2 l = some (.tup ((keyL (sl3 xs i)).map kV)) := hB2
      have hval : ((valV kvs (keyL (sl3 xs i))).getD (V.int (-1))) = V.int (match valV kvs (keyL (sl3 xs i)) with | some (V.int j) => j | _ => -1) := by
        rcases hL (sl3 xs i) with ⟨h1, _⟩ | ⟨j, h1, _⟩
        · rw [h1]
          rfl
        · rw [h1]
          rfl
      generalize hev : (match valV kvs (keyL (sl3 xs i)) with | some (V.int j) => j | _ => -1) = ev at hval
      refine ⟨_, rfl, _, rfl, _, rfl, dp, _, rfl, DPut.t (k := keyL (sl3 xs i)) (upd_keepN hD2 nDE) (upd_keepN hl2 nle) (small (by omega)), ?_⟩
      refine ⟨same_new (same_new e2 hep0) hdp, putK kvs (keyL (sl3 xs i)) (V.int (0 + (i : Int))), es ++ [ev], some _, some _, upd_same, ?_, by rw [List.length_append, List.length_singleton, hel], fun s => ?_, ?_, fun j hj => ?_, rfl⟩
      · rw [upd_ne (fun z => nDE z.symm), upd_same, List.map_append]
        show some (HO.lst (_ ++ [(valV kvs (keyL (sl3 xs i))).getD (V.int (-1))])) = _
        rw [hval]
        rfl
      · rw [valV_put]
        by_cases h : keyL s = keyL (sl3 xs i)
        · rw [if_pos h, ez]
          refine .inr ⟨i, rfl, by omega, (keyL_inj h).symm, fun k h1 h2 => absurd h1 (by omega)⟩
        · rw [if_neg h]
          have hne : sl3 xs i ≠ s := fun z => h (by rw [z])
          rcases hL s with ⟨h1, h2⟩ | ⟨j, h1, h2, h3, h4⟩
          · refine .inl ⟨h1, fun j hj => ?_⟩
            rcases Nat.lt_or_ge j i with z | z
            · exact h2 j z
            · rw [show j = i by omega]
              exact hne
          · refine .inr ⟨j, h1, by omega, h3, fun k h5 h6 => ?_⟩
            rcases Nat.lt_or_ge k i with z | z
            · exact h4 k h5 z
            · rw [show k = i by omega]
              exact hne
      · have := length_putK kvs (keyL (sl3 xs i)) (V.int (0 + (i : Int)))
        omega
      · rcases Nat.lt_or_ge j i with z | z
        · rw [getD_app_l (by omega)]
          exact hes j z
        · rw [show j = i by omega, getD_app_r (j := 0) (by omega)]
          show Last xs i ev
          rw [← hev]
          rcases hL (sl3 xs i) with ⟨h1, h2⟩ | ⟨j, h1, h2, h3, h4⟩
          · rw [h1]
            exact .inl ⟨rfl, h2⟩
          · rw [h1]
            exact .inr ⟨j, rfl, h2, h3, h4⟩
    · rintro σ H1 ⟨e1, kvs, es, v3, v4, hD, hE, hel, hL, hkl, hes, rfl⟩
      exact ⟨_, rfl, kQ ep H1 es hep0 e1 hE hel hes⟩

-- @@CUT
/-- a copy of b octets from d before -/
def CopyOk (xs : List Int) (at_ b d : Nat) : Prop := b = 0 ∨ (3 ≤ b ∧ b ≤ 130 ∧ at_ + b ≤ xs.length ∧ 1 ≤ d ∧ d ≤ 255 ∧ d ≤ at_ ∧ ∀ t, t < b → xs.getD (at_ + t) 0 = xs.getD (at_ - d + t) 0)
def exl (xs : List Int) (at_ k mo : Nat) : Nat → Nat → Nat
  | 0, l => l
  | f + 1, l => if l < mo ∧ xs.getD (k + l) 0 = xs.getD (at_ + l) 0 then exl xs at_ k mo f (l + 1) else l
def lcg (xs es : List Int) (at_ mo : Nat) : Nat → Int → Nat → Nat → Nat × Nat
  | 0, _, b, d => (b, d)
  | f + 1, p, b, d => if 0 ≤ p ∧ (at_ : Int) - p ≤ 255 ∧ b < mo then (if b < exl xs at_ p.toNat mo mo 3 then lcg xs es at_ mo f (es.getD p.toNat 0) (exl xs at_ p.toNat mo mo 3) (at_ - p.toNat) else lcg xs es at_ mo f (es.getD p.toNat 0) b d) else (b, d)
def lcR (xs es : List Int) (at_ : Nat) : Nat × Nat := lcg xs es at_ (min 130 (xs.length - at_)) (at_ + 1) (es.getD at_ 0) 0 0
theorem lcg_end {xs es : List Int} {at_ mo f b d : Nat} {p : Int} (h : ¬ (0 ≤ p ∧ (at_ : Int) - p ≤ 255 ∧ b < mo)) : lcg xs es at_ mo f p b d = (b, d) := by
  cases f with
  | zero => rfl
  | succ f => rw [lcg, if_neg h]
theorem exl_end {xs : List Int} {at_ k mo f l : Nat} (h : ¬ (l < mo ∧ xs.getD (k + l) 0 = xs.getD (at_ + l) 0)) : exl xs at_ k mo f l = l := by
  cases f with
  | zero => rfl
  | succ f => rw [exl, if_neg h]
def spLong (K : PySem.W.Frag) : Sp := fun vs H Q _ => ∃ (a e : Addr) (xs es : List Int) (at_ : Nat), vs = [.ref a, .int (at_ : Int), .ref e] ∧ SqL K H a (xs.map V.int) ∧ SqL K H e (es.map V.int) ∧ xs.length ≤ 60000 ∧ es.length = xs.length ∧ at_ < xs.length ∧ (∀ i, i < xs.length → Last xs i (es.getD i 0)) ∧
  ∀ u H' (b d : Nat), Same H H' → H' u = some (.tup [.int (b : Int), .int (d : Int)]) → (b, d) = lcR xs es at_ → CopyOk xs at_ b d → (es.getD at_ 0 < 0 → b = 0) → (AllEq xs → 1 ≤ at_ → at_ + 3 ≤ xs.length → b = min 130 (xs.length - at_)) → Q (.ref u) H'
@[reducible] def stC (a e : Addr) (at_ mo b d : Nat) (p : Int) (v7 : Option V) : L2.St := [some (.ref a), some (.int (at_ : Int)), some (.ref e), some (.int (mo : Int)), some (.int (b : Int)), some (.int (d : Int)), some (.int p), v7]
def PlOk (xs : List Int) (at_ : Nat) (p : Int) : Prop := p = -1 ∨ ∃ k : Nat, p = (k : Int) ∧ k < at_ ∧ at_ + 3 ≤ xs.length ∧ ∀ t, t < 3 → xs.getD (at_ + t) 0 = xs.getD (k + t) 0
theorem PlOk.of {xs : List Int} {at_ : Nat} {p : Int} (l : Last xs at_ p) (h : at_ < xs.length) : PlOk xs at_ p := by
  by_cases h0 : 0 ≤ p
  · obtain ⟨j, h1, h2, h3, h4⟩ := l.same h h0
    exact .inr ⟨j, h1, h2, h3, h4⟩
  · rcases l with ⟨z, _⟩ | ⟨j, z, _⟩
    · exact .inl z
    · omega
theorem PlOk.next {xs : List Int} {at_ k : Nat} {p : Int} (hk : k < at_) (ha : at_ + 3 ≤ xs.length) (hm : ∀ t, t < 3 → xs.getD (at_ + t) 0 = xs.getD (k + t) 0) (l : Last xs k p) : PlOk xs at_ p := by
  rcases PlOk.of l (by omega) with z | ⟨j, h1, h2, h3, h4⟩
  · exact .inl z
  · exact .inr ⟨j, h1, by omega, ha, fun t ht => (hm t ht).trans (h4 t ht)⟩
theorem Last.lt {xs : List Int} {k : Nat} {p : Int} (l : Last xs k p) : -1 ≤ p ∧ p < k := by
  rcases l with ⟨z, _⟩ | ⟨j, z, h, _⟩
  · omega
  · omega
theorem ok__longest_copy (T : Txt K mg) : Ok P w K mg base CX0 1 "_longest_copy" ["octets", "at", "earlier"] (spLong K) := by
  refine ok_of T.d__longest_copy fun f fd F => F.ok sc__longest_copy (fun vs H Q E h => ?_) (fun cdv A outer s H vs Q E hr h => ?_)
  · obtain ⟨a, e, xs, es, at_, rfl, _⟩ := h
    rfl
  · obtain ⟨a, e, xs, es, at_, rfl, hA, hE, hl, hel, hat, hLs, kQ⟩ := h
    have nd := sc__longest_copy.nd
    refine ⟨_,       (pss_cons (ps_set (i := 3) nd rfl (Or.inl rfl) (pe_callB (call_min2 rfl) (by rfl) T.n_min (by decide +kernel) (pa_cons (pe_globC rfl T.c_LONGEST_COPY) (pa_cons (pe_op op_sub (pe_callB call_len_seq (by rfl) T.n_len PySem.boot_len (pa_cons (pv 0) pa_nil)) (pv 1)) pa_nil))))
      (pss_cons (ps_set (i := 4) nd rfl (Or.inl rfl) pe_int)
      (pss_cons (ps_set (i := 5) nd rfl (Or.inl rfl) pe_int)
      (pss_cons (ps_set (i := 6) nd rfl (Or.inl rfl) (pe_ix ix_list (pv 2) (pv 1) (fun _ _ => rfl)))
      (pss_cons (ps_while PassesOwn.never (PW.pt (pw_and (pt_cmpR op_ge (pv 6) pe_int (nomark _)) (pw_and (pt_cmpR op_le (pe_op op_sub (pv 1) (pv 6)) (pe_globC rfl T.c_FARTHEST_COPY) (nomark _)) (pw_and1 (pt_cmpR op_lt (pv 4) (pv 3) (nomark _))))))
        (pss_cons (ps_set (i := 7) nd rfl (Or.inl rfl) (pe_globC rfl T.c_SHORTEST_COPY))
        (pss_cons (ps_while PassesOwn.never (PW.pt (pw_and (pt_cmpR op_lt (pv 7) (pv 3) (nomark _)) (pw_and1 (pt_cmpR op_eq (pe_ix ix_list (pv 0) (pe_op op_add (pv 6) (pv 7)) (fun _ _ => rfl)) (pe_ix ix_list (pv 0) (pe_op op_add (pv 1) (pv 7)) (fun _ _ => rfl)) (nomark _)))))
          (pss_one (ps_aug (i := 7) nd rfl (Or.inl rfl) pe_int ip_add)))
        (Evl.pss_cut (ps_if (pt_cmpR op_gt (pv 7) (pv 4) (nomark _))
          (pss_cons (ps_set (i := 4) nd rfl (Or.inl rfl) (pv 7))
          (pss_one (ps_set (i := 5) nd rfl (Or.inl rfl) (pe_op op_sub (pv 1) (pv 6))))) pss_nil)
        (pss_one (ps_set (i := 6) nd rfl (Or.inl rfl) (pe_ix ix_list (pv 2) (pv 6) (fun _ _ => rfl))))))))
      (pss_one (ps_ret (pe_tup (pa_cons (pv 4) (pa_cons (pv 5) pa_nil)))))))))), ?_⟩
    obtain ⟨mo, hmo⟩ : ∃ mo : Nat, mo = min 130 (xs.length - at_) := ⟨_, rfl⟩
    have hmi : (if ((xs.length : Int) - (at_ : Int)) < 130 then ((xs.length : Int) - (at_ : Int)) else 130) = (mo : Int) := by split <;> omega
    have hL0 := hLs at_ hat
    have hp0 := PlOk.of hL0 hat
    have hb0 := hL0.lt
    refine ⟨_, rfl, a, _, rfl, .inl hA, _, rfl, _, _, rfl, rfl, _, _, rfl, ?_⟩
    rw [List.length_map, hmi]
    refine ⟨_, rfl, _, rfl, e, _, _, .int (es.getD at_ 0), rfl, rfl, hE, at_nat rfl (getD_int (by omega)), ?_⟩
    refine ⟨fun m σ H' => H = H' ∧ ∃ (b d : Nat) (p : Int) (v7 : Option V) (f : Nat), m = (p + 1).toNat ∧ (p + 1).toNat ≤ f ∧ lcg xs es at_ mo f p b d = lcR xs es at_ ∧ -1 ≤ p ∧ PlOk xs at_ p ∧ CopyOk xs at_ b d ∧ (es.getD at_ 0 < 0 → p = -1 ∧ b = 0) ∧ (AllEq xs → 1 ≤ at_ → at_ + 3 ≤ xs.length → (b = 0 ∧ p = (at_ : Int) - 1) ∨ b = mo) ∧ σ = stC a e at_ mo b d p v7,
      ⟨_, rfl, 0, 0, es.getD at_ 0, none, at_ + 1, rfl, by omega, by rw [hmo]; rfl, hb0.1, hp0, .inl rfl, fun h => ⟨by omega, rfl⟩, fun hq h1 h2 => .inl ⟨rfl, ?_⟩, rfl⟩, ?_⟩
    · rcases hL0.equal hq hat with ⟨z, z2⟩ | ⟨_, _, z⟩
      · omega
      · exact z
    rintro m σ H' ⟨rfl, b, d, p, v7, f, rfl, hff, hlc, hpm, hpl, hc, hneg, heq, rfl⟩
    have fin : ¬ (0 ≤ p ∧ (at_ : Int) - p ≤ 255 ∧ b < mo) → (AllEq xs → 1 ≤ at_ → at_ + 3 ≤ xs.length → b = mo) → ∀ u, H u = none → Q (.ref u) (upd H u (.tup [.int (b : Int), .int (d : Int)])) := fun hx hq u hu => kQ u _ b d (same_upd hu) upd_same (by rw [← hlc, lcg_end hx]) hc (fun h => (hneg h).2) fun q1 q2 q3 => (hq q1 q2 q3).trans hmo
    refine ⟨_, rfl, _, _, rfl, rfl, _, rfl, itd (fun h1 => ?_) (fun h1 => ?_)⟩
    · refine ⟨_, rfl, _, rfl, _, _, rfl, rfl, _, _, rfl, rfl, _, rfl, itd (fun h2 => ?_) (fun h2 => ?_)⟩
      · refine ⟨_, rfl, _, rfl, _, _, rfl, rfl, _, rfl, itd (fun h3 => ?_) (fun h3 => ?_)⟩
        · obtain ⟨k, rfl, hk, ha3, hm3⟩ : ∃ k : Nat, p = (k : Int) ∧ k < at_ ∧ at_ + 3 ≤ xs.length ∧ ∀ t, t < 3 → xs.getD (at_ + t) 0 = xs.getD (k + t) 0 := by
            rcases hpl with z | z
            · omega
            · exact z
          have hLk := hLs k (by omega)
          have hLkl := hLk.lt
          refine ⟨fun σ' H' => H = H' ∧ ∃ (b' d' : Nat) (p' : Int) (v7' : Option V) (f' : Nat), (p' + 1).toNat ≤ f' ∧ lcg xs es at_ mo f' p' b' d' = lcR xs es at_ ∧ -1 ≤ p' ∧ p' < (k : Int) ∧ PlOk xs at_ p' ∧ CopyOk xs at_ b' d' ∧ (AllEq xs → 1 ≤ at_ → at_ + 3 ≤ xs.length → b' = mo) ∧ σ' = stC a e at_ mo b' d' p' v7',
            fun σ' H' ⟨r1, b', d', p', v7', f', s1, s2, r2, r3, r4, r5, r6, r7⟩ => ⟨(p' + 1).toNat, by omega, r1, b', d', p', v7', f', rfl, s1, s2, r2, r4, r5, fun h => absurd (hneg h).1 (by omega), fun q1 q2 q3 => .inr (r6 q1 q2 q3), r7⟩, ?_⟩
          refine ⟨fun m σ H' => H = H' ∧ ∃ l g : Nat, m = mo - l ∧ mo - l ≤ g ∧ exl xs at_ k mo g l = exl xs at_ k mo mo 3 ∧ 3 ≤ l ∧ l ≤ mo ∧ (∀ t, t < l → xs.getD (at_ + t) 0 = xs.getD (k + t) 0) ∧ σ = stC a e at_ mo b d (k : Int) (some (.int (l : Int))), ⟨_, rfl, 3, mo, rfl, by omega, rfl, Nat.le_refl _, by omega, hm3, rfl⟩, ?_⟩
          rintro m σ H' ⟨rfl, l, g, rfl, hgg, hex, hl3, hlm, hmt, rfl⟩
          refine ⟨_, rfl, _, rfl, _, _, rfl, rfl, _, rfl, itd (fun q1 => ?_) (fun q1 => ?_)⟩
          · refine ⟨_, rfl, _, rfl, _, rfl, _, _, rfl, rfl, a, _, _, .int (xs.getD (k + l) 0), rfl, rfl, hA, at_nat (j := k + l) (by omega) (getD_int (by omega)), _, rfl, _, rfl, _, rfl, _, _, rfl, rfl, a, _, _, .int (xs.getD (at_ + l) 0), rfl, rfl, hA, at_nat (j := at_ + l) (by omega) (getD_int (by omega)), rfl, _, rfl, itd (fun q2 => ?_) (fun q2 => ?_)⟩
            · have q1' : l < mo := by omega
              have q2 : xs.getD (k + l) 0 = xs.getD (at_ + l) 0 := by injection q2
              refine ⟨fun σ' H' => H = H' ∧ ∃ l' : Nat, l' = l + 1 ∧ σ' = stC a e at_ mo b d (k : Int) (some (.int (l' : Int))), fun σ' H' ⟨r1, l', r2, r3⟩ => ⟨mo - l', by omega, r1, l', g - 1, rfl, by omega, ?_, by omega, by omega, fun t ht => ?_, r3⟩, ?_⟩
              · obtain ⟨g', rfl⟩ : ∃ g', g = g' + 1 := ⟨g - 1, by omega⟩
                rw [exl, if_pos ⟨q1', q2⟩] at hex
                rw [r2]
                exact hex
              · rcases Nat.lt_or_ge t l with z | z
                · exact hmt t z
                · rw [show t = l by omega]
                  exact q2.symm
              · refine ⟨_, rfl, _, _, rfl, rfl, rfl, l + 1, rfl, rfl⟩
            · have hxl : exl xs at_ k mo mo 3 = l := by
                rw [← hex, exl_end fun z => q2 (by rw [z.2])]
              have hne : AllEq xs → l = mo := fun ⟨c, hc'⟩ => absurd (by rw [hc' _ (by omega), hc' _ (by omega)]) q2
              -- if length > best
              obtain ⟨f', rfl⟩ : ∃ f', f = f' + 1 := ⟨f - 1, by omega⟩
              rw [lcg, if_pos ⟨h1, h2, by omega⟩, Int.toNat_natCast, hxl] at hlc
              refine ⟨fun σ' H' => H = H' ∧ ∃ b' d' : Nat, lcg xs es at_ mo f' (es.getD k 0) b' d' = lcR xs es at_ ∧ CopyOk xs at_ b' d' ∧ (AllEq xs → b' = mo) ∧ σ' = stC a e at_ mo b' d' (k : Int) (some (.int (l : Int))), ?_, ?_⟩
              · refine ⟨_, rfl, _, rfl, _, _, rfl, rfl, _, rfl, itd (fun hg => ?_) (fun hg => ⟨rfl, b, d, by rw [if_neg (by omega)] at hlc; exact hlc, hc, fun z => by have := hne z; omega, rfl⟩)⟩
                refine ⟨_, rfl, _, rfl, _, rfl, _, _, rfl, rfl, rfl, l, at_ - k, by rw [if_pos (by omega)] at hlc; exact hlc, .inr ⟨hl3, by omega, by omega, by omega, by omega, by omega, fun t ht => ?_⟩, hne, ?_⟩
                · rw [show at_ - (at_ - k) = k by omega]
                  exact hmt t ht
                · unfold stC
                  rw [show ((at_ - k : Nat) : Int) = (at_ : Int) - (k : Int) by omega]
                  rfl
              rintro σ2 H2 ⟨rfl, b2, d2, hlc2, hc2, hb2, rfl⟩
              refine ⟨_, rfl, _, rfl, e, _, _, .int (es.getD k 0), rfl, rfl, hE, at_nat rfl (getD_int (by omega)), ?_⟩
              exact ⟨rfl, b2, d2, es.getD k 0, _, f', by omega, hlc2, hLkl.1, hLkl.2, PlOk.next hk ha3 hm3 hLk, hc2, fun z _ _ => hb2 z, rfl⟩
          · have hxl : exl xs at_ k mo mo 3 = l := by
              rw [← hex, exl_end fun z => q1 (by omega)]
            have hne : AllEq xs → l = mo := fun _ => by omega
            -- if length > best
            obtain ⟨f', rfl⟩ : ∃ f', f = f' + 1 := ⟨f - 1, by omega⟩
            rw [lcg, if_pos ⟨h1, h2, by omega⟩, Int.toNat_natCast, hxl] at hlc
            refine ⟨fun σ' H' => H = H' ∧ ∃ b' d' : Nat, lcg xs es at_ mo f' (es.getD k 0) b' d' = lcR xs es at_ ∧ CopyOk xs at_ b' d' ∧ (AllEq xs → b' = mo) ∧ σ' = stC a e at_ mo b' d' (k : Int) (some (.int (l : Int))), ?_, ?_⟩
            · refine ⟨_, rfl, _, rfl, _, _, rfl, rfl, _, rfl, itd (fun hg => ?_) (fun hg => ⟨rfl, b, d, by rw [if_neg (by omega)] at hlc; exact hlc, hc, fun z => by have := hne z; omega, rfl⟩)⟩
              refine ⟨_, rfl, _, rfl, _, rfl, _, _, rfl, rfl, rfl, l, at_ - k, by rw [if_pos (by omega)] at hlc; exact hlc, .inr ⟨hl3, by omega, by omega, by omega, by omega, by omega, fun t ht => ?_⟩, hne, ?_⟩
              · rw [show at_ - (at_ - k) = k by omega]
                exact hmt t ht
              · unfold stC
                rw [show ((at_ - k : Nat) : Int) = (at_ : Int) - (k : Int) by omega]
                rfl
            rintro σ2 H2 ⟨rfl, b2, d2, hlc2, hc2, hb2, rfl⟩
            refine ⟨_, rfl, _, rfl, e, _, _, .int (es.getD k 0), rfl, rfl, hE, at_nat rfl (getD_int (by omega)), ?_⟩
            exact ⟨rfl, b2, d2, es.getD k 0, _, f', by omega, hlc2, hLkl.1, hLkl.2, PlOk.next hk ha3 hm3 hLk, hc2, fun z _ _ => hb2 z, rfl⟩
        · refine ⟨_, rfl, _, rfl, (by show 2 ≤ sizeLine; decide), fun u hu => fin (by omega) (fun q1 q2 q3 => ?_) u hu⟩
          rcases heq q1 q2 q3 with z | z
          · omega
          · exact z
      · refine ⟨_, rfl, _, rfl, (by show 2 ≤ sizeLine; decide), fun u hu => fin (by omega) (fun q1 q2 q3 => ?_) u hu⟩
        rcases heq q1 q2 q3 with z | z
        · omega
        · exact z
    · refine ⟨_, rfl, _, rfl, (by show 2 ≤ sizeLine; decide), fun u hu => fin (by omega) (fun q1 q2 q3 => ?_) u hu⟩
      rcases heq q1 q2 q3 with z | z
      · omega
      · exact z

-- @@CUT
theorem cut_fromP {xs : List V} {k : Nat} : cutV xs (some (k : Int)) none = xs.drop k := by
  unfold cutV
  have e : HT.sIx xs.length 0 (some (k : Int)) = min k xs.length := HT.sIx_nat _ _ k
  rw [e]
  simp only [HT.sIx]
  rw [List.take_of_length_le (by rw [List.length_drop]; exact Nat.le_refl _)]
  by_cases h : k ≤ xs.length
  · rw [Nat.min_eq_left h]
  · rw [Nat.min_eq_right (by omega), List.drop_of_length_le (Nat.le_refl _), List.drop_of_length_le (by omega)]
def sub (xs : List Int) (i j : Nat) : List Int := (xs.drop i).take (j - i)
theorem sub_len {xs : List Int} {i j : Nat} (h : i ≤ j) (hj : j ≤ xs.length) : (sub xs i j).length = j - i := by
  unfold sub
  rw [List.length_take, List.length_drop]
  omega
theorem take_sub {xs : List Int} {i j : Nat} (h : i ≤ j) : xs.take i ++ sub xs i j = xs.take j := by
  unfold sub
  rw [show j = i + (j - i) by omega, List.take_add, show i + (j - i) - i = j - i by omega]
def allP (xs : List Int) : List Int := plS xs (nch xs.length)
def pkg (xs es : List Int) : Nat → Nat → Nat → List Int → List Int
  | 0, _, pl, pk => pk ++ allP (xs.drop pl)
  | f + 1, at_, pl, pk => if at_ < xs.length then (if (lcR xs es at_).1 < 3 then pkg xs es f (at_ + 1) pl pk else pkg xs es f (at_ + (lcR xs es at_).1) (at_ + (lcR xs es at_).1) ((pk ++ allP (sub xs pl at_)) ++ [125 + ((lcR xs es at_).1 : Int), ((lcR xs es at_).2 : Int)])) else pk ++ allP (xs.drop pl)
def packF (xs es : List Int) : List Int := pkg xs es (xs.length + 1) 0 0 []
theorem pkg_end {xs es pk : List Int} {f at_ pl : Nat} (h : ¬ at_ < xs.length) : pkg xs es f at_ pl pk = pk ++ allP (xs.drop pl) := by
  cases f with
  | zero => rfl
  | succ f => rw [pkg, if_neg h]
theorem octs_app {a b : List Int} (ha : octs a) (hb : octs b) : octs (a ++ b) := fun o ho => by
  rcases List.mem_append.mp ho with z | z
  · exact ha o z
  · exact hb o z
theorem octs_sub {xs : List Int} (h : octs xs) (i j : Nat) : octs (sub xs i j) := fun o ho => h o (List.mem_of_mem_drop (List.mem_of_mem_take ho))
theorem octs_plS {xs : List Int} (h : octs xs) (m : Nat) (hm : 128 * m ≤ xs.length + 127) : octs (plS xs m) := fun o ho => by
  obtain ⟨k, hk, z⟩ := List.mem_flatMap.mp ho
  have hk := List.mem_range.mp hk
  have hl := chunk_len xs k
  rcases List.mem_cons.mp z with z | z
  · omega
  · exact h o (List.mem_of_mem_drop (List.mem_of_mem_take z))
theorem octs_all {xs : List Int} (h : octs xs) : octs (allP xs) := octs_plS h _ (by unfold nch; omega)
theorem allP_len (xs : List Int) : (allP xs).length = xs.length + nch xs.length := plS_all_len xs
/-- how long the packed list of equal octets is -/
def Zq (n at_ pl m : Nat) : Prop := (pl = 0 ∧ at_ ≤ 1 ∧ m = 0) ∨ (∃ j, 1 ≤ j ∧ m = 2 + 2 * j ∧ pl = 1 + 130 * j ∧ (at_ = pl ∨ n < pl + 3)) ∨ (∃ j, m = 4 + 2 * j ∧ pl = n ∧ at_ = n ∧ 1 + 130 * j + 3 ≤ n)
def PackOk (xs pk : List Int) : Prop := Exp pk xs ∧ octs pk ∧ pk.length ≤ xs.length + xs.length / 128 + 1 ∧ (AllEq xs → 4 ≤ xs.length → pk.length ≤ 5 + 2 * (xs.length / 130)) ∧ (xs.length = 0 → pk.length = 0)
def spPack (K : PySem.W.Frag) : Sp := fun vs H Q _ => ∃ (a : Addr) (xs : List Int), vs = [.ref a] ∧ SqL K H a (xs.map V.int) ∧ xs.length ≤ 50000 ∧ octs xs ∧ ∀ p H' (es : List Int), Same H H' → H' p = some (.lst ((packF xs es).map V.int)) → es.length = xs.length → (∀ i, i < xs.length → Last xs i (es.getD i 0)) → PackOk xs (packF xs es) → Q (.ref p) H'
@[reducible] def stP (a e pp : Addr) (pl at_ : Nat) (v5 v6 : Option V) : L2.St := [some (.ref a), some (.ref e), some (.ref pp), some (.int (pl : Int)), some (.int (at_ : Int)), v5, v6]
theorem ok_pack (T : Txt K mg) : Ok P w K mg base CX0 2 "pack" ["octets"] (spPack K) := by
  have G__earlier_places := ok__earlier_places (P := P) (w := w) (base := base) T
  have G__longest_copy := ok__longest_copy (P := P) (w := w) (base := base) T
  have G__plain_steps := ok__plain_steps (P := P) (w := w) (base := base) T
  refine ok_of T.d_pack fun f fd F => F.ok sc_pack (fun vs H Q E h => ?_) (fun cdv A outer s H vs Q E hr h => ?_)
  · obtain ⟨a, xs, rfl, _⟩ := h
    rfl
  · obtain ⟨a, xs, rfl, hA, hl, hxo, kQ⟩ := h
    have nd := sc_pack.nd
    refine ⟨_,       (pss_cons (ps_set (i := 1) nd rfl (Or.inl rfl) (pe_callO G__earlier_places (hr.mono (by decide)) pass0 (pa_cons (pv 0) pa_nil)))
      (pss_cons (ps_set (i := 2) nd rfl (Or.inl rfl) (pe_lst pa_nil))
      (pss_cons (ps_set (i := 3) nd rfl (Or.inl rfl) pe_int)
      (pss_cons (ps_set (i := 4) nd rfl (Or.inl rfl) pe_int)
      (pss_cons (ps_while PassesOwn.never (pt_cmpR op_lt (pv 4) (pe_callB call_len_seq (by rfl) T.n_len PySem.boot_len (pa_cons (pv 0) pa_nil)) (nomark _))
        (pss_cons (ps_asg (pe_callO G__longest_copy (hr.mono (by decide)) pass0 (pa_cons (pv 0) (pa_cons (pv 4) (pa_cons (pv 1) pa_nil)))) (pg_tup rfl (pgs_cons (pg_name (i := 5) nd rfl (Or.inl rfl)) (pgs_cons (pg_name (i := 6) nd rfl (Or.inl rfl)) pgs_nil))))
        (pss_cons (ps_if (pt_cmpR op_lt (pv 5) (pe_globC rfl T.c_SHORTEST_COPY) (nomark _))
          (pss_cons (ps_aug (i := 4) nd rfl (Or.inl rfl) pe_int ip_add)
          (pss_one ps_continue)) pss_nil)
        (pss_cons (ps_expr (pe_bm PySem.F.plainAttrs_list PySem.F.slot_list_extend PySem.F.type_list_extend mt_extend (pv 2) (pa_cons (pe_callO G__plain_steps (hr.mono (by decide)) pass0 (pa_cons (pe_slice sl_list (pv 0) (po_some (pv 3)) (po_some (pv 4))) pa_nil)) pa_nil)))
        (pss_cons (ps_expr (pe_bm PySem.F.plainAttrs_list PySem.F.slot_list_extend PySem.F.type_list_extend mt_extend (pv 2) (pa_cons (pe_lst (pa_cons (pe_op op_sub (pe_op op_add (pe_globC rfl T.c_FIRST_COPY) (pv 5)) (pe_globC rfl T.c_SHORTEST_COPY)) (pa_cons (pv 6) pa_nil))) pa_nil)))
        (pss_cons (ps_aug (i := 4) nd rfl (Or.inl rfl) (pv 5) ip_add)
        (pss_one (ps_set (i := 3) nd rfl (Or.inl rfl) (pv 4)))))))))
      (pss_one (ps_ret (pe_op op_cat (pv 2) (pe_callO G__plain_steps (hr.mono (by decide)) pass0 (pa_cons (pe_slice sl_list (pv 0) (po_some (pv 3)) po_none) pa_nil)))))))))), ?_⟩
    refine ⟨_, rfl, a, xs, rfl, hA, by omega, fun e H1 es he e1 hE hel hLs => ?_⟩
    refine ⟨by decide, fun pp hpp => ?_⟩
    have g2 := same_upd (o := .lst ([] : List V)) hpp
    have hpp0 : H pp = none := by
      cases q : H pp with
      | none => rfl
      | some o =>
        rw [e1 _ _ q] at hpp
        cases hpp
    have nep : e ≠ pp := fun z => by rw [← z, hE] at hpp; cases hpp
    refine ⟨fun m σ H' => Same H H' ∧ H' e = some (.lst (es.map V.int)) ∧ ∃ (at_ pl g : Nat) (pk : List Int) (v5 v6 : Option V), m = xs.length - at_ ∧ xs.length - at_ ≤ g ∧ pkg xs es g at_ pl pk = packF xs es ∧ at_ ≤ xs.length ∧ pl ≤ at_ ∧ H' pp = some (.lst (pk.map V.int)) ∧ Exp pk (xs.take pl) ∧ octs pk ∧ pk.length ≤ pl + pl / 128 ∧ (AllEq xs → 4 ≤ xs.length → Zq xs.length at_ pl pk.length) ∧ σ = stP a e pp pl at_ v5 v6,
      ⟨_, e1.trans g2, g2 _ _ hE, 0, 0, xs.length + 1, [], none, none, rfl, by omega, rfl, Nat.zero_le _, Nat.le_refl _, upd_same, Exp.nil, (fun _ h => nomatch h), Nat.zero_le _, fun _ _ => .inl ⟨rfl, Nat.zero_le _, rfl⟩, rfl⟩, ?_⟩
    clear g2 hpp hE e1
    rintro m σ H2 ⟨e2, hE, at_, pl, g, pk, v5, v6, rfl, hg, hpk, hat, hpl, hP, hX, hO, hB, hZ, rfl⟩
    have hA2 := e2.seq hA
    refine ⟨_, rfl, _, rfl, a, _, rfl, .inl hA2, _, _, rfl, rfl, _, rfl, itd (fun h1 => ?_) (fun h1 => ?_)⟩
    · rw [List.length_map] at h1
      have hlt : at_ < xs.length := by omega
      obtain ⟨g', rfl⟩ : ∃ g', g = g' + 1 := ⟨g - 1, by omega⟩
      rw [pkg, if_pos hlt] at hpk
      refine ⟨fun σ' H' => Same H H' ∧ H' e = some (.lst (es.map V.int)) ∧ ∃ (at2 pl g : Nat) (pk : List Int) (v5 v6 : Option V), at_ < at2 ∧ xs.length - at2 ≤ g ∧ pkg xs es g at2 pl pk = packF xs es ∧ at2 ≤ xs.length ∧ pl ≤ at2 ∧ H' pp = some (.lst (pk.map V.int)) ∧ Exp pk (xs.take pl) ∧ octs pk ∧ pk.length ≤ pl + pl / 128 ∧ (AllEq xs → 4 ≤ xs.length → Zq xs.length at2 pl pk.length) ∧ σ' = stP a e pp pl at2 v5 v6,
        fun σ' H' ⟨r1, r2, at2, pl, g, pk, v5, v6, r3, r4, r5, r6, r7, r8, r9, r10, r11, r12, r13⟩ => ⟨xs.length - at2, by omega, r1, r2, at2, pl, g, pk, v5, v6, rfl, r4, r5, r6, r7, r8, r9, r10, r11, r12, r13⟩, ?_⟩
      refine ⟨_, rfl, _, rfl, _, rfl, a, e, xs, es, at_, rfl, hA2, SqL.of hE, by omega, hel, hlt, hLs, fun u H3 b d e3 hu hbd hc hneg heq => ?_⟩
      have hb1 : (lcR xs es at_).1 = b := by rw [← hbd]
      have hb2 : (lcR xs es at_).2 = d := by rw [← hbd]
      rw [hb1, hb2] at hpk
      refine ⟨u, _, rfl, SqT.of hu, rfl, _, _, rfl, _, _, rfl, rfl, ?_⟩
      have e23 := e2.trans e3
      have hE3 := e3 _ _ hE
      have hP3 := e3 _ _ hP
      have hA3 := e23.seq hA
      refine ⟨_, rfl, _, _, rfl, rfl, _, rfl, itd (fun h2 => ?_) (fun h2 => ?_)⟩
      · rw [if_pos (by omega)] at hpk
        refine ⟨_, rfl, _, _, rfl, rfl, ?_⟩
        refine ⟨e23, hE3, at_ + 1, pl, g', pk, some _, some _, by omega, by omega, hpk, by omega, by omega, hP3, hX, hO, hB, fun q1 q2 => ?_, rfl⟩
        have hq := heq q1
        rcases hZ q1 q2 with ⟨z1, z2, z3⟩ | ⟨j, z1, z2, z3, z4⟩ | ⟨j, z1, z2, z3, z4⟩
        · left
          have : at_ = 0 := Classical.byContradiction fun hn => by have := hq (by omega) (by omega); omega
          omega
        · right; left
          refine ⟨j, z1, z2, z3, .inr (Classical.byContradiction fun hn => ?_)⟩
          have := hq (by omega) (by omega)
          omega
        · omega
      · rw [if_neg (by omega)] at hpk
        obtain ⟨c3, c130, cn, d1, d255, da, cm⟩ : 3 ≤ b ∧ b ≤ 130 ∧ at_ + b ≤ xs.length ∧ 1 ≤ d ∧ d ≤ 255 ∧ d ≤ at_ ∧ ∀ t, t < b → xs.getD (at_ + t) 0 = xs.getD (at_ - d + t) 0 := by
          rcases hc with z | z
          · omega
          · exact z
        have hcut : cutV (xs.map V.int) (some (pl : Int)) (some (at_ : Int)) = (sub xs pl at_).map V.int := by
          rw [cut_midG hpl, sub, List.map_take, List.map_drop]
        have hsl := sub_len hpl (by omega : at_ ≤ xs.length)
        have hal := allP_len (sub xs pl at_)
        rw [hsl] at hal
        have hnc : nch (at_ - pl) ≤ (at_ - pl) / 128 + 1 := by unfold nch; omega
        have hnc0 : pl = at_ → nch (at_ - pl) = 0 := fun z => by rw [z, Nat.sub_self]; rfl
        refine ⟨_, rfl, .inl ⟨rfl, _, SqL.of hP3⟩, _, rfl, _, rfl, _, rfl, _, rfl, _, rfl, a, _, rfl, hA3, fun r hr => ?_⟩
        rw [hcut]
        have f1 := same_upd (o := .lst ((sub xs pl at_).map V.int)) hr
        refine ⟨r, sub xs pl at_, rfl, SqL.of upd_same, by omega, fun q H4 hq e4 hQ4 => ?_⟩
        have e34 := f1.trans e4
        have hP4 := e34 _ _ hP3
        have hpkl : pk.length ≤ 60000 := by omega
        refine ⟨pp, q, _, _, rfl, rfl, hP4, hQ4, by rw [List.length_map, List.length_map, sizeLine_eq]; show pk.length + (allP (sub xs pl at_)).length ≤ _; omega, ?_⟩
        rw [← List.map_append]
        have e24 := same_new (o := .lst ((pk ++ plS (sub xs pl at_) (nch (sub xs pl at_).length)).map V.int)) (e23.trans e34) hpp0
        have hE4 : (upd H4 pp (.lst ((pk ++ plS (sub xs pl at_) (nch (sub xs pl at_).length)).map V.int))) e = some (.lst (es.map V.int)) := by
          rw [upd_ne nep]
          exact e34 _ _ hE3
        have hP5 : (upd H4 pp (.lst ((pk ++ plS (sub xs pl at_) (nch (sub xs pl at_).length)).map V.int))) pp = some (.lst ((pk ++ allP (sub xs pl at_)).map V.int)) := upd_same
        generalize upd H4 pp (.lst ((pk ++ plS (sub xs pl at_) (nch (sub xs pl at_).length)).map V.int)) = H5 at e24 hE4 hP5 ⊢
        refine ⟨_, rfl, .inl ⟨rfl, _, SqL.of hP5⟩, _, rfl, _, _, rfl, rfl, _, _, rfl, rfl, _, rfl, (by show 2 ≤ sizeLine; decide), fun l hl5 => ?_⟩
        have f2 := same_upd (o := .lst [V.int (128 + (b : Int) - 3), V.int (d : Int)]) hl5
        refine ⟨pp, l, _, _, rfl, rfl, f2 _ _ hP5, upd_same, by rw [List.length_map, List.length_append, sizeLine_eq]; show _ + 2 ≤ _; omega, ?_⟩
        refine ⟨_, rfl, _, rfl, _, _, rfl, rfl, ?_⟩
        refine ⟨_, rfl, ?_⟩
        have hXs := hX.all (xs := sub xs pl at_) (by rw [List.length_take]; omega)
        rw [take_sub hpl] at hXs
        have hXc := hXs.copy (l := b) (d := d) c3 c130 d1 (by rw [List.length_take]; omega) (by rw [List.length_take]; omega)
        rw [cpy_take d1 da b cn cm] at hXc
        refine ⟨same_new (e24.trans f2) hpp0, ?_, at_ + b, at_ + b, g', (pk ++ allP (sub xs pl at_)) ++ [125 + (b : Int), (d : Int)], some (.int (b : Int)), some (.int (d : Int)), by omega, by omega, hpk, cn, Nat.le_refl _, ?_, hXc, ?_, ?_, fun q1 q2 => ?_, rfl⟩
        · rw [upd_ne nep]
          exact f2 _ _ hE4
        · rw [upd_same, List.map_append (l₁ := pk ++ allP (sub xs pl at_))]
          show some (HO.lst (_ ++ [V.int (128 + (b : Int) - 3), V.int (d : Int)])) = some (HO.lst (_ ++ [V.int (125 + (b : Int)), V.int (d : Int)]))
          rw [show 128 + (b : Int) - 3 = 125 + (b : Int) by omega]
        · refine octs_app (octs_app hO (octs_all (octs_sub hxo _ _))) fun o ho => ?_
          rcases List.mem_cons.mp ho with z | z
          · omega
          · have := List.mem_singleton.mp z
            omega
        · rw [List.length_append, List.length_append, hal]
          show pk.length + (at_ - pl + nch (at_ - pl)) + 2 ≤ _
          omega
        · have hq := heq q1
          rw [List.length_append, List.length_append, hal]
          show Zq xs.length (at_ + b) (at_ + b) (pk.length + (at_ - pl + nch (at_ - pl)) + 2)
          rcases hZ q1 q2 with ⟨z1, z2, z3⟩ | ⟨j, z1, z2, z3, z4⟩ | ⟨j, z1, z2, z3, z4⟩
          · have ha1 : at_ = 1 := by omega
            have hbm := hq (by omega) (by omega)
            have hn1 : nch (at_ - pl) = 1 := by rw [z1, ha1]; rfl
            by_cases h130 : 130 ≤ xs.length - 1
            · exact .inr (.inl ⟨1, Nat.le_refl _, by omega, by omega, .inl rfl⟩)
            · exact .inr (.inr ⟨0, by omega, by omega, by omega, by omega⟩)
          · rcases z4 with z4 | z4
            · have hbm := hq (by omega) (by omega)
              have hn0 := hnc0 z4.symm
              by_cases h130 : 130 ≤ xs.length - at_
              · exact .inr (.inl ⟨j + 1, by omega, by omega, by omega, .inl rfl⟩)
              · exact .inr (.inr ⟨j, by omega, by omega, by omega, by omega⟩)
            · omega
          · omega
    · rw [List.length_map] at h1
      have hae : at_ = xs.length := by omega
      have hpk2 := hpk
      rw [pkg_end (by omega)] at hpk2
      have hcut : cutV (xs.map V.int) (some (pl : Int)) none = (xs.drop pl).map V.int := by
        rw [cut_fromP, List.map_drop]
      have hdl : (xs.drop pl).length = xs.length - pl := List.length_drop
      have hal := allP_len (xs.drop pl)
      rw [hdl] at hal
      have hnc : nch (xs.length - pl) ≤ (xs.length - pl) / 128 + 1 := by unfold nch; omega
      have hXs := hX.all (xs := xs.drop pl) (by rw [List.length_take]; omega)
      rw [List.take_append_drop] at hXs
      refine ⟨_, rfl, _, rfl, _, rfl, _, rfl, a, _, rfl, hA2, fun r hr => ?_⟩
      rw [hcut]
      have f1 := same_upd (o := .lst ((xs.drop pl).map V.int)) hr
      refine ⟨r, xs.drop pl, rfl, SqL.of upd_same, by omega, fun q H4 hq e4 hQ4 => ?_⟩
      have e34 := f1.trans e4
      refine ⟨pp, q, _, _, rfl, rfl, e34 _ _ hP, hQ4, smallE (by rw [List.length_map, List.length_map]; show pk.length + (allP (xs.drop pl)).length ≤ _; omega), fun r2 hr2 => ?_⟩
      refine kQ r2 _ es ((e2.trans e34).trans (same_upd hr2)) ?_ hel hLs ?_
      · rw [upd_same, ← hpk2, List.map_append]
        rfl
      · rw [← hpk2]
        refine ⟨hXs, octs_app hO (octs_all fun o ho => hxo o (List.mem_of_mem_drop ho)), ?_, fun q1 q2 => ?_, fun z => ?_⟩
        · rw [List.length_append, hal]
          omega
        · rw [List.length_append, hal]
          rcases hZ q1 q2 with ⟨z1, z2, z3⟩ | ⟨j, z1, z2, z3, z4⟩ | ⟨j, z1, z2, z3, z4⟩
          · omega
          · have : xs.length - pl ≤ 128 → nch (xs.length - pl) ≤ 1 := fun _ => by unfold nch; omega
            have h0 : xs.length = pl → nch (xs.length - pl) = 0 := fun z => by rw [z, Nat.sub_self]; rfl
            omega
          · have h0 : nch (xs.length - pl) = 0 := by rw [z2, Nat.sub_self]; rfl
            omega
        · rw [List.length_append, hal]
          have h0 : nch (xs.length - pl) = 0 := by rw [z, Nat.zero_sub]; rfl
          omega

-- @@CUT
def spItems : Sp := fun vs H Q _ => ∃ (c : Int) (n : Nat), vs = [.int c, .int (n : Int)] ∧ n ≤ 60000 ∧ ∀ p H' (xs : List Int), H p = none → Same H H' → H' p = some (.lst (xs.map V.int)) → xs.length = n → (∀ o ∈ xs, 0 ≤ o ∧ o ≤ 255) → Q (.ref p) H'
theorem ok__law_items (T : Txt K mg) : Ok P w K mg base CX0 3 "_law_items" ["cell", "size"] spItems := by
  have G__law_row := ok__law_row (P := P) (w := w) (base := base) T
  refine ok_of T.d__law_items fun f fd F => F.ok sc__law_items (fun vs H Q E h => ?_) (fun cdv A outer s H vs Q E hr h => ?_)
  · obtain ⟨c, n, rfl, _⟩ := h
    rfl
  · obtain ⟨c, n, rfl, hn, kQ⟩ := h
    have nd := sc__law_items.nd
    refine ⟨_,       (pss_cons (ps_set (i := 2) nd rfl (Or.inl rfl) (pe_ix ix_tup (pe_tup (pa_cons pe_int (pa_cons pe_int (pa_cons pe_int pa_nil)))) (pe_op op_mod (pv 0) pe_int) (fun _ _ => rfl)))
      (pss_one (ps_ret (pe_callO G__law_row (hr.mono (by decide)) pass0 (pa_cons (pe_op op_fdiv (pv 0) pe_int) (pa_cons (pv 1) (pa_cons (pv 2) pa_nil))))))), ?_⟩
    refine ⟨(by show 3 ≤ sizeLine; decide), fun u hu => ?_⟩
    have z : c % 3 = 0 ∨ c % 3 = 1 ∨ c % 3 = 2 := by omega
    obtain ⟨b, hb0, hb1, hb2, hb⟩ : ∃ b : Int, 0 < b ∧ b < 1073741824 ∧ b ≤ 256 ∧ atI [V.int 2, V.int 3, V.int 256] (c % 3) = some (V.int b) := by
      rcases z with z | z | z
      · exact ⟨2, by decide, by decide, by decide, by rw [z]; rfl⟩
      · exact ⟨3, by decide, by decide, by decide, by rw [z]; rfl⟩
      · exact ⟨256, by decide, by decide, by decide, by rw [z]; rfl⟩
    refine ⟨_, rfl, _, _, rfl, rfl, (by show (0 : Int) < 3; decide), u, _, _, _, rfl, rfl, SqT.of upd_same, hb, ?_⟩
    refine ⟨_, rfl, _, _, rfl, rfl, ⟨by decide, by decide⟩, _, rfl, _, rfl, c / 3, n, b, rfl, hn, hb0, hb1, fun p H' hp e hL => ?_⟩
    exact kQ p H' _ (by
      cases q : H p with
      | none => rfl
      | some o =>
        have q2 := same_upd (o := .tup [V.int 2, V.int 3, V.int 256]) hu _ _ q
        rw [hp] at q2
        cases q2) ((same_upd hu).trans e) hL (rowL_len _ _ _) (fun o ho => by have := rowL_in hb0 ho; omega)

-- @@LAW
def spLaw (K : PySem.W.Frag) : Sp := fun vs H Q _ => ∃ (a : Addr) (ns : List Int), vs = [.ref a] ∧ SqL K H a (ns.map V.int) ∧ ns.length ≤ 63 ∧ ∀ H', Q (.bl true) H'
theorem allIn_octs {ps : List Int} (h : octs ps) : allIn 0 255 ps = true := by
  unfold allIn
  refine List.all_eq_true.mpr fun x hx => ?_
  have := h x hx
  simp only [Bool.and_eq_true, decide_eq_true_eq, Bool.or_eq_true]
  omega
theorem Last.uniq {xs : List Int} {i : Nat} {e e' : Int} (h : Last xs i e) (h' : Last xs i e') : e = e' := by
  rcases h with ⟨rfl, h1⟩ | ⟨j, rfl, h1, h2, h3⟩
  · rcases h' with ⟨rfl, _⟩ | ⟨j, rfl, g1, g2, _⟩
    · rfl
    · exact absurd g2 (h1 j g1)
  · rcases h' with ⟨rfl, g1⟩ | ⟨k, rfl, g1, g2, g3⟩
    · exact absurd h2 (g1 j h1)
    · rcases Nat.lt_trichotomy j k with z | z | z
      · exact absurd g2 (h3 k z g1)
      · rw [z]
      · exact absurd h2 (g3 j z h1)
theorem es_uniq {xs es es' : List Int} (h1 : es.length = xs.length) (h2 : es'.length = xs.length) (g1 : ∀ i, i < xs.length → Last xs i (es.getD i 0)) (g2 : ∀ i, i < xs.length → Last xs i (es'.getD i 0)) : es = es' := by
  refine List.ext_getElem (by omega) fun i a b => ?_
  have := (g1 i (by omega)).uniq (g2 i (by omega))
  rw [List.getD_eq_getElem?_getD, List.getD_eq_getElem?_getD, List.getElem?_eq_getElem a, List.getElem?_eq_getElem b] at this
  exact this
theorem shaped_done (xs : List Int) : SeqAt.shaped (.tuple [.str (Str.ofString "done"), .list (xs.map PyData.int)]) = true := by
  refine Bool.and_eq_true_iff.mpr ⟨?_, decide_eq_true ?_⟩
  · show (PyData.canLay0 (.str (Str.ofString "done")) && (PyData.canLayAll0 (xs.map PyData.int) && true)) = true
    rw [Cm.canLayAll_ints]
    decide +kernel
  · show max (PyData.depth (.str (Str.ofString "done"))) (max (PyData.depthAll (xs.map PyData.int) + 1) 0) + 1 ≤ 64
    rw [Cm.depthAll_ints]
    show max 0 _ + 1 ≤ 64
    omega
@[reducible] def st19 (a : Addr) (kd : Int) (op : Addr) (v3 v4 v5 v6 : Option V) : L2.St := [some (.ref a), some (.int kd), some (.ref op), v3, v4, v5, v6, none, none]
def MidP (H H' : Hp) (op : Addr) (xs : List Int) : Prop := Same H H' ∧ H' op = some (.lst (xs.map V.int)) ∧ octs xs ∧ xs.length ≤ 2000
theorem ok_law0 (T : Txt K mg) (f : Addr) (fd : FuncData) (F : Fun K "law" "law" s_law f fd) : FnOk P w K mg base CX0 4 f fd ["script"] (spLaw K) := by
  have G__law_cell := ok__law_cell (P := P) (w := w) (base := base) T
  have G__law_items := ok__law_items (P := P) (w := w) (base := base) T
  have G__law_is_list := ok__law_is_list (P := P) (w := w) (base := base) T
  have G__law_expand := ok__law_expand (P := P) (w := w) (base := base) T
  have G_pack := ok_pack (P := P) (w := w) (base := base) T
  refine F.ok sc_law (fun vs H Q E h => ?_) (fun cdv A outer s H vs Q E hr h => ?_)
  · obtain ⟨a, ns, rfl, _⟩ := h
    rfl
  · obtain ⟨a, ns, rfl, hS, hlen, kQ⟩ := h
    have nd := sc_law.nd
    have hu64 : (A.deeper (envOfC "law" (defScope s_law) s.heap.objs.size f cdv)).units + 64 < cLine := by
      have := hr.un
      omega
    refine ⟨_,       (Evl.pss_cut (ps_set (i := 1) nd rfl (Or.inl rfl) (pe_op op_mod (pe_callO G__law_cell (hr.mono (by decide)) pass0 (pa_cons (pv 0) (pa_cons pe_int pa_nil))) pe_int))
      (Evl.pss_cut (ps_set (i := 2) nd rfl (Or.inl rfl) (pe_callO G__law_items (hr.mono (by decide)) pass0 (pa_cons (pe_callO G__law_cell (hr.mono (by decide)) pass0 (pa_cons (pv 0) (pa_cons pe_int pa_nil))) (pa_cons (pe_op op_mod (pe_op op_fdiv (pe_callO G__law_cell (hr.mono (by decide)) pass0 (pa_cons (pv 0) (pa_cons pe_int pa_nil))) pe_int) pe_int) pa_nil))))
      (Evl.pss_cut (ps_if (pt_cmpR op_eq (pv 1) pe_int (nomark _))
        (pss_cons (ps_set (i := 3) nd rfl (Or.inl rfl) (pe_callTy call_list_of (by rfl) T.n_list (by decide +kernel) (pa_cons (pv 2) pa_nil)))
        (pss_one (ps_for PassesOwn.never rfl (pi_range1 rfl T.n_range (pa_cons (pe_op op_mod (pe_callO G__law_cell (hr.mono (by decide)) pass0 (pa_cons (pv 0) (pa_cons pe_int pa_nil))) pe_int) pa_nil)) (pg_name (i := 4) nd rfl (Or.inl rfl))
          (pss_cons (ps_set (i := 5) nd rfl (Or.inl rfl) (pe_callO G__law_cell (hr.mono (by decide)) pass0 (pa_cons (pv 0) (pa_cons (pe_op op_add pe_int (pv 4)) pa_nil))))
          (pss_one (ps_set (i := 2) nd rfl (Or.inl rfl) (pe_op op_cat (pv 2) (pe_op op_rep (pe_slice sl_list (pv 3) (po_some (pe_op op_mod (pv 5) pe_int)) (po_some (pe_op op_add (pe_op op_add (pe_op op_mod (pv 5) pe_int) pe_int) (pe_op op_mod (pe_op op_fdiv (pv 5) pe_int) pe_int)))) (pe_op op_add pe_int (pe_op op_mod (pe_op op_fdiv (pv 5) pe_int) pe_int)))))))))) pss_nil)
      (Evl.pss_cut (ps_if (pt_cmpR op_eq (pv 1) pe_int (nomark _))
        (pss_cons (ps_set (i := 6) nd rfl (Or.inr rfl) (pe_op op_mod (pe_callO G__law_cell (hr.mono (by decide)) pass0 (pa_cons (pv 0) (pa_cons pe_int pa_nil))) pe_int))
        (pss_one (ps_setLc (i := 2) (own := [("k", 4)]) (g := gName 4) (tt := tYes) rfl nd rfl rfl (sw_true rfl rfl rfl (by decide +kernel)) (pi_range1 rfl T.n_range (pa_cons (pe_op op_mod (pe_callO G__law_cell (hr.mono (by decide)) pass0 (pa_cons (pv 0) (pa_cons pe_int pa_nil))) pe_int) pa_nil)) (blkOk_by (N := N_law) (sc := defScope s_law) (by decide +kernel)) (fun _ _ _ _ _ => (pg_name (i := 4) nd rfl (Or.inl rfl))) (fun _ _ _ _ _ => pts_nil) (fun _ _ _ _ _ => (pv 6))))) pss_nil)
      (Evl.pss_cut (ps_if (pt_cmpR op_eq (pv 1) pe_int (nomark _))
        (pss_one (ps_set (i := 2) nd rfl (Or.inl rfl) (pe_slice sl_list (pv 2) po_none (po_some (pe_op op_mod (pe_callO G__law_cell (hr.mono (by decide)) pass0 (pa_cons (pv 0) (pa_cons pe_int pa_nil))) pe_int))))) pss_nil)
      (pss_cons (ps_set (i := 7) nd rfl (Or.inl rfl) (pe_callTy call_list_of (by rfl) T.n_list (by decide +kernel) (pa_cons (pv 2) pa_nil)))
      (pss_cons (ps_set (i := 8) nd rfl (Or.inl rfl) (pe_callO G_pack (hr.mono (by decide)) pass0 (pa_cons (pv 7) pa_nil)))
      (pss_cons (ps_if (PW.pt (pw_or (pt_not (pt_val (pe_callO G__law_is_list (hr.mono (by decide)) pass0 (pa_cons (pv 8) (pa_cons pe_int (pa_cons pe_int pa_nil)))))) (pw_or (pt_cmpR (op_neD hu64) (pv 7) (pv 2) (nomark _)) (pw_or1 (pt_cmpR (op_neD hu64) (pe_callO G_pack (hr.mono (by decide)) pass0 (pa_cons (pe_callTy call_list_of (by rfl) T.n_list (by decide +kernel) (pa_cons (pv 2) pa_nil)) pa_nil)) (pv 8) (nomark _))))))
        (pss_one (ps_ret pe_bl)) pss_nil)
      (pss_cons (ps_if (PW.pt (pw_or (pt_cmpR (op_neD hu64) (pe_callO G__law_expand (hr.mono (by decide)) pass0 (pa_cons (pv 8) (pa_cons pe_int pa_nil))) (pe_tup (pa_cons pe_str (pa_cons (pv 2) pa_nil))) (nomark _)) (pw_or1 (PW.pt (pw_and (pt_cmpR op_eq (pe_callB call_len_seq (by rfl) T.n_len PySem.boot_len (pa_cons (pv 2) pa_nil)) pe_int (nomark _)) (pw_and1 (pt_cmpR op_gt (pe_callB call_len_seq (by rfl) T.n_len PySem.boot_len (pa_cons (pv 8) pa_nil)) pe_int (nomark _))))))))
        (pss_one (ps_ret pe_bl)) pss_nil)
      (pss_cons (ps_if (PW.pt (pw_and (pt_cmpR op_eq (pv 1) pe_int (nomark _)) (pw_and (pt_cmpR op_ge (pe_callB call_len_seq (by rfl) T.n_len PySem.boot_len (pa_cons (pv 2) pa_nil)) pe_int (nomark _)) (pw_and1 (pt_cmpR op_gt (pe_callB call_len_seq (by rfl) T.n_len PySem.boot_len (pa_cons (pv 8) pa_nil)) (pe_op op_add pe_int (pe_op op_mul pe_int (pe_op op_fdiv (pe_callB call_len_seq (by rfl) T.n_len PySem.boot_len (pa_cons (pv 2) pa_nil)) pe_int))) (nomark _))))))
        (pss_one (ps_ret pe_bl)) pss_nil)
      (pss_one (ps_ret (pe_cmpR op_le (pe_callB call_len_seq (by rfl) T.n_len PySem.boot_len (pa_cons (pv 8) pa_nil)) (pe_op op_add (pe_op op_add (pe_callB call_len_seq (by rfl) T.n_len PySem.boot_len (pa_cons (pv 2) pa_nil)) (pe_op op_fdiv (pe_callB call_len_seq (by rfl) T.n_len PySem.boot_len (pa_cons (pv 2) pa_nil)) pe_int)) pe_int) (nomark _)))))))))))))), ?_⟩
    refine ⟨fun σ' H' => H = H' ∧ ∃ kd : Int, σ' = [some (.ref a), some (.int kd), none, none, none, none, none, none, none], ?_, ?_⟩
    · exact ⟨_, rfl, a, ns, 0, rfl, hS, _, _, rfl, rfl, (by show (0 : Int) < 5; decide), rfl, _, rfl⟩
    rintro σ0 H0 ⟨rfl, kd, rfl⟩
    refine ⟨fun σ' H' => ∃ (op : Addr) (xs : List Int), Same H H' ∧ H' op = some (.lst (xs.map V.int)) ∧ octs xs ∧ xs.length ≤ 60 ∧ σ' = st19 a kd op none none none none, ?_, ?_⟩
    · obtain ⟨n0, hn0, hn1⟩ : ∃ n0 : Nat, cell ns 0 / 5 % 61 = (n0 : Int) ∧ n0 ≤ 60 := ⟨(cell ns 0 / 5 % 61).toNat, by omega, by omega⟩
      exact ⟨_, rfl, a, ns, 1, rfl, hS, _, rfl, a, ns, 0, rfl, hS, _, _, rfl, rfl, ⟨by decide, by decide⟩, _, _, rfl, rfl, (by show (0 : Int) < 61; decide), cell ns 1, n0, (by show [V.int (cell ns 1), V.int (cell ns 0 / 5 % 61)] = _; rw [hn0]), by omega, fun p1 H1 xs hp1 e1 hL1 hx1 ho => ⟨p1, xs, e1, hL1, ho, by omega, rfl⟩⟩
    rintro σ1 H1 ⟨op, xs, e1, hO, hxo, hxl, rfl⟩
    -- repeated pieces
    refine ⟨fun σ' H' => ∃ (op : Addr) (xs : List Int) (v3 v4 v5 : Option V), MidP H H' op xs ∧ σ' = st19 a kd op v3 v4 v5 none, ?_, ?_⟩
    · refine ⟨_, rfl, rfl, _, rfl, itd (fun _ => ?_) (fun _ => ⟨op, xs, none, none, none, ⟨e1, hO, hxo, by omega⟩, rfl⟩)⟩
      have hS1 := e1.seq hS
      refine ⟨_, rfl, op, _, rfl, .inl (SqL.of hO), fun pc hpc => ?_⟩
      have g1 := same_upd (o := .lst (xs.map V.int)) hpc
      have hPc : (upd H1 pc (.lst (xs.map V.int))) pc = some (.lst (xs.map V.int)) := upd_same
      have hO1 := g1 _ _ hO
      have e11 := e1.trans g1
      generalize upd H1 pc (.lst (xs.map V.int)) = H2 at g1 hPc hO1 e11 ⊢
      refine ⟨_, rfl, a, ns, 2, rfl, e11.seq hS, _, _, rfl, rfl, (by show (0 : Int) < 9; decide), _, rfl, by omega, by omega, ?_⟩
      refine for_range (lo := 0) (n := (cell ns 2 % 9).toNat) (fun i σ H' => Same H H' ∧ H' pc = some (.lst (xs.map V.int)) ∧ ∃ (op : Addr) (ys : List Int) (v4 v5 : Option V), H' op = some (.lst (ys.map V.int)) ∧ octs ys ∧ ys.length ≤ 60 + 180 * i ∧ σ = st19 a kd op (some (.ref pc)) v4 v5 none) ⟨e11, hPc, op, xs, none, none, hO1, hxo, by omega, rfl⟩ ?_ ?_
      · rintro i σ H3 hi ⟨e3, hP3, op3, ys, v4, v5, hO3, hyo, hyl, rfl⟩
        refine ⟨_, rfl, _, rfl, _, _, rfl, rfl, a, ns, 3 + i, by show [V.ref a, V.int (3 + (0 + (i : Int)))] = [V.ref a, V.int ((3 + i : Nat) : Int)]; congr 2; congr 1; omega, e3.seq hS, ?_⟩
        generalize cell ns (3 + i) = cl
        refine ⟨_, rfl, _, rfl, _, rfl, _, _, rfl, rfl, (by show (0 : Int) < 7; decide), _, rfl, _, rfl, _, _, rfl, rfl, (by show (0 : Int) < 7; decide), _, _, rfl, rfl, _, rfl, _, _, rfl, rfl, ⟨by decide, by decide⟩, _, _, rfl, rfl, (by show (0 : Int) < 60; decide), _, _, rfl, rfl, _, rfl, pc, _, rfl, SqL.of hP3, fun r hr => ?_⟩
        obtain ⟨j, hj⟩ : ∃ j : Nat, cl % 7 = (j : Int) := ⟨(cl % 7).toNat, by omega⟩
        obtain ⟨m, hm, hm2⟩ : ∃ m : Nat, cl / 7 % 60 = (m : Int) ∧ m ≤ 59 := ⟨(cl / 7 % 60).toNat, by omega, by omega⟩
        have hcut : cutV (xs.map V.int) (some (cl % 7)) (some (cl % 7 + 1 + cl / 7 % 60)) = ((xs.drop j).take (1 + m)).map V.int := by
          rw [hj, hm, show (j : Int) + 1 + (m : Int) = ((j + 1 + m : Nat) : Int) by omega, cut_midG (by omega), show j + 1 + m - j = 1 + m by omega, List.map_take, List.map_drop]
        rw [hcut]
        have f1 := same_upd (o := .lst (((xs.drop j).take (1 + m)).map V.int)) hr
        obtain ⟨c, hcc, hc3⟩ : ∃ c : Nat, 1 + cl / 420 % 3 = (c : Int) ∧ c ≤ 3 := ⟨(1 + cl / 420 % 3).toNat, by omega, by omega⟩
        have hsl : ((xs.drop j).take (1 + m)).length ≤ 60 := by
          rw [List.length_take]
          omega
        have hso : octs ((xs.drop j).take (1 + m)) := fun o ho => hxo o (List.mem_of_mem_drop (List.mem_of_mem_take ho))
        generalize (xs.drop j).take (1 + m) = sg at f1 hsl hso ⊢
        have hfl : (List.replicate c sg).flatten.length = c * sg.length := by simp
        have hbl : c * sg.length ≤ 180 := Nat.le_trans (Nat.mul_le_mul hc3 hsl) (by decide)
        have hmf : (List.replicate c (sg.map V.int)).flatten = ((List.replicate c sg).flatten).map V.int := by rw [List.map_flatten, List.map_replicate]
        refine ⟨_, rfl, _, _, rfl, rfl, ⟨by decide, by decide⟩, _, _, rfl, rfl, (by show (0 : Int) < 3; decide), _, _, rfl, rfl, r, _, _, rfl, rfl, upd_same, by omega, by omega, smallE (by rw [hcc, List.length_map, Int.toNat_natCast, Nat.mul_comm]; omega), fun q hq => ?_⟩
        rw [hcc, Int.toNat_natCast, hmf]
        have f2 := same_upd (o := .lst (((List.replicate c sg).flatten).map V.int)) hq
        refine ⟨op3, q, _, _, rfl, rfl, f2 _ _ (f1 _ _ hO3), upd_same, smallE (by rw [List.length_map, List.length_map, hfl]; omega), fun q2 hq2 => ?_⟩
        have f3 := same_upd (o := .lst (ys.map V.int ++ ((List.replicate c sg).flatten).map V.int)) hq2
        refine ⟨e3.trans (f1.trans (f2.trans f3)), f3 _ _ (f2 _ _ (f1 _ _ hP3)), q2, ys ++ (List.replicate c sg).flatten, some _, some _, by rw [upd_same, List.map_append], octs_app hyo (fun o ho => ?_), by rw [List.length_append, hfl]; omega, rfl⟩
        obtain ⟨l', h1, h2⟩ := List.mem_flatten.mp ho
        rw [List.eq_of_mem_replicate h1] at h2
        exact hso o h2
      · rintro σ H3 ⟨e3, hP3, op3, ys, v4, v5, hO3, hyo, hyl, rfl⟩
        exact ⟨op3, ys, some (.ref pc), v4, v5, ⟨e3, hO3, hyo, by omega⟩, rfl⟩
    clear e1 hO hxo hxl op xs
    rintro σ2 H2 ⟨op, xs, v3, v4, v5, M, rfl⟩
    -- equal octets
    refine ⟨fun σ' H' => ∃ (op : Addr) (xs : List Int) (v4 v6 : Option V), MidP H H' op xs ∧ (kd = 2 → AllEq xs) ∧ σ' = st19 a kd op v3 v4 v5 v6, ?_, ?_⟩
    · refine ⟨_, rfl, rfl, _, rfl, itd (fun _ => ?_) (fun h => ⟨op, xs, v4, none, M, fun z => absurd (by rw [z]) h, rfl⟩)⟩
      obtain ⟨m1, m2, m3, m4⟩ := M
      refine ⟨_, rfl, a, ns, 1, rfl, m1.seq hS, _, _, rfl, rfl, (by show (0 : Int) < 256; decide), ?_⟩
      have z1 := Int.emod_nonneg (cell ns 1) (show (256 : Int) ≠ 0 by decide)
      have z2 := Int.emod_lt_of_pos (cell ns 1) (show (0 : Int) < 256 by decide)
      refine ⟨_, rfl, a, ns, 2, rfl, m1.seq hS, _, _, rfl, rfl, (by show (0 : Int) < 700; decide), _, rfl, by omega, by omega, fun D hD => ?_⟩
      refine lc_range (lo := 0) (n := (cell ns 2 % 700).toNat) (fun i H'' => Same H2 H'' ∧ H'' D = some (.lst ((List.replicate i (cell ns 1 % 256)).map V.int))) ⟨same_upd hD, upd_same⟩ ?_ ?_
      · rintro i H'' hi ⟨e2, hDl⟩
        refine ⟨rfl, ?_⟩
        dsimp only [tYes]
        try rw [if_pos rfl]
        refine ⟨_, rfl, _, hDl, small (by rw [List.length_map, List.length_replicate]; omega), same_new e2 hD, ?_⟩
        rw [upd_same, List.replicate_succ', List.map_append]
        rfl
      · rintro H'' ⟨e2, hDl⟩
        refine ⟨D, _, _, _, ⟨m1.trans e2, hDl, fun o ho => ?_, by rw [List.length_replicate]; omega⟩, fun _ => ⟨cell ns 1 % 256, fun i hi => ?_⟩, rfl⟩
        · rw [List.eq_of_mem_replicate ho]
          omega
        · rw [List.length_replicate] at hi
          rw [List.getD_eq_getElem?_getD, List.getElem?_replicate, if_pos hi]
          rfl
    clear M op xs v4
    rintro σ3 H3 ⟨op, xs, v4, v6, M, hq, rfl⟩
    -- few octets
    refine ⟨fun σ' H' => ∃ (op : Addr) (xs : List Int), MidP H H' op xs ∧ (kd = 2 → AllEq xs) ∧ σ' = st19 a kd op v3 v4 v5 v6, ?_, ?_⟩
    · refine ⟨_, rfl, rfl, _, rfl, itd (fun h => ?_) (fun h => ⟨op, xs, M, hq, rfl⟩)⟩
      obtain ⟨m1, m2, m3, m4⟩ := M
      obtain ⟨n0, hn0, hn1⟩ : ∃ n0 : Nat, cell ns 2 % 4 = (n0 : Int) ∧ n0 ≤ 3 := ⟨(cell ns 2 % 4).toNat, by omega, by omega⟩
      refine ⟨_, rfl, _, rfl, a, ns, 2, rfl, m1.seq hS, _, _, rfl, rfl, (by show (0 : Int) < 4; decide), _, rfl, op, _, rfl, SqL.of m2, fun r hr => ?_⟩
      have hcut : cutV (xs.map V.int) none (some (cell ns 2 % 4)) = (xs.take n0).map V.int := by
        rw [hn0, cut_toG, List.map_take]
      rw [hcut]
      exact ⟨r, xs.take n0, ⟨m1.trans (same_upd hr), upd_same, fun o ho => m3 o (List.mem_of_mem_take ho), by rw [List.length_take]; omega⟩, fun z => absurd h (by rw [z]; decide), rfl⟩
    clear M hq op xs
    rintro σ4 H4 ⟨op, xs, ⟨e4, hO, hxo, hxl⟩, hq, rfl⟩
    -- copy, actual
    refine ⟨_, rfl, op, _, rfl, .inl (SqL.of hO), fun cp hcp => ?_⟩
    have g1 := same_upd (o := .lst (xs.map V.int)) hcp
    refine ⟨_, rfl, cp, xs, rfl, SqL.of upd_same, by omega, hxo, fun p H6 es e6 hP hel hLs ⟨k1, k2, k3, k4, k5⟩ => ?_⟩
    have hO6 := e6 _ _ (g1 _ _ hO)
    have hC6 := e6 _ _ (show (upd H4 cp (.lst (xs.map V.int))) cp = some (.lst (xs.map V.int)) from upd_same)
    refine ⟨_, rfl, p, packF xs es, 0, 255, rfl, SqL.of hP, ?_⟩
    rw [allIn_octs k2]
    refine ⟨true, rfl, iteF ?_⟩
    refine ⟨_, rfl, _, rfl, _, _, dp_list (SqL.of hC6), dp_list (SqL.of hO6), shaped_ints _, shaped_ints _, ne_noG (eqv_refl' (shaped_ints _)) ?_⟩
    refine ⟨_, rfl, op, _, rfl, .inl (SqL.of hO6), fun l hl => ?_⟩
    have g2 := same_upd (o := .lst (xs.map V.int)) hl
    refine ⟨l, xs, rfl, SqL.of upd_same, by omega, hxo, fun p2 H7 es2 e7 hP2 hel2 hLs2 _ => ?_⟩
    have hes := es_uniq hel2 hel hLs2 hLs
    subst hes
    have hP7 := e7 _ _ (g2 _ _ hP)
    have hO7 := e7 _ _ (g2 _ _ hO6)
    refine ⟨_, rfl, _, _, dp_list (SqL.of hP2), dp_list (SqL.of hP7), shaped_ints _, shaped_ints _, ne_noG (eqv_refl' (shaped_ints _)) ?_⟩
    generalize hpk : packF xs es2 = pk at k1 k2 k3 k4 k5 hP7
    have hdone := k1.done
    refine ⟨_, rfl, p, pk, 1000000, rfl, SqL.of hP7, by omega, k2, (fun e h => by rw [hdone] at h; cases h), (fun h => by rw [hdone] at h; cases h), fun l2 h t a2 H8 e8 ha2 ht => ?_⟩
    obtain rfl : xs = l2 := by
      rw [hdone] at h
      injection h
    have hO8 := e8 _ _ hO7
    have hP8 := e8 _ _ hP7
    refine ⟨_, rfl, (by show 2 ≤ sizeLine; decide), fun u hu => ?_⟩
    have g9 := same_upd (o := .tup [V.str "done", V.ref op]) hu
    refine ⟨_, _, .tup (SqT.of (g9 _ _ ht)) (.cons (.str _) (.cons (dp_list (SqL.of (g9 _ _ ha2))) .nil)), .tup (SqT.of upd_same) (.cons (.str _) (.cons (dp_list (SqL.of (g9 _ _ hO8))) .nil)), shaped_done _, shaped_done _, ne_noG (eqv_refl' (shaped_done _)) ?_⟩
    have hO9 := g9 _ _ hO8
    have hP9 := g9 _ _ hP8
    have fin : ∀ Hx, Same H8 Hx → True := fun _ _ => trivial
    have hQd : decide ((pk.length : Int) ≤ (xs.length : Int) + (xs.length : Int) / 128 + 1) = true := decide_eq_true (by omega)
    refine ⟨_, rfl, op, _, rfl, .inl (SqL.of hO9), rfl, _, rfl, itd (fun h0 => ⟨_, rfl, p, _, rfl, .inl (SqL.of hP9), _, _, rfl, rfl, _, rfl, itd (fun h1 => ?_) (fun h1 => ?_)⟩) (fun h0 => ?_)⟩
    · have h0 : ((xs.map V.int).length : Int) = 0 := by injection h0
      rw [List.length_map] at h0 h1
      have := k5 (by omega)
      omega
    all_goals
      refine ⟨_, rfl, rfl, _, rfl, itd (fun q1 => ⟨_, rfl, op, _, rfl, .inl (SqL.of hO9), _, _, rfl, rfl, _, rfl, itd (fun q2 => ⟨_, rfl, p, _, rfl, .inl (SqL.of hP9), _, rfl, op, _, rfl, .inl (SqL.of hO9), _, _, rfl, rfl, ⟨by decide, by decide⟩, _, _, rfl, rfl, .inl ⟨by decide, by decide⟩, _, _, rfl, rfl, _, _, rfl, rfl, _, rfl, itd (fun q3 => ?_) (fun q3 => ?_)⟩) (fun q2 => ?_)⟩) (fun q1 => ?_)⟩
      · have q1 : kd = 2 := by injection q1
        rw [List.length_map] at q2 q3
        rw [List.length_map] at q3
        have := k4 (hq q1) (by omega)
        omega
      all_goals
        refine ⟨_, rfl, p, _, rfl, .inl (SqL.of hP9), _, rfl, op, _, rfl, .inl (SqL.of hO9), _, rfl, op, _, rfl, .inl (SqL.of hO9), _, _, rfl, rfl, ⟨by decide, by decide⟩, _, _, rfl, rfl, _, _, rfl, rfl, _, _, rfl, rfl, ?_⟩
        rw [List.length_map, List.length_map]
        exact to_true (Q := Q) hQd (kQ _)

end
theorem law_mk {P : Program} {w : World} {K : PySem.W.Frag} {mg : Str → Option Value} {C_fa : Addr} (T : Txt K mg) (hfa : mg "law" = some (.ref C_fa)) : ∃ fd : FuncData, (∀ (s : Shared) (v : Value), BindsTo s fd ⟨[v], []⟩ [("script", v)]) ∧ ∀ base : Heap, K.In base → base.Ns mainGlobals mg → FnOk P w K mg base CX0 4 C_fa fd ["script"] (spLaw K) := by
  obtain ⟨f, fd, F, g, b⟩ := id T.d_law
  have e := hfa.symm.trans g
  cases e
  refine ⟨fd, fun s v => ?_, fun base _ _ => ?_⟩
  · obtain ⟨oc, od, kV, doc, pm, an, cdv, ct, osl, rfl, lk, hcd⟩ := F.ex
    exact .of_eq rfl
  · exact ok_law0 T _ fd F
theorem law_end {P : Program} {w : World} {K : PySem.W.Frag} {h : Heap} {mg : Str → Option Value} {fa : Addr} {f_pack : Addr} {oc_pack kV_pack dc_pack pm_pack cd_pack ct_pack : Value} {od_pack an_pack : Option Addr} {sl_pack : Array (Option Value)} {f__earlier_places : Addr} {oc__earlier_places kV__earlier_places dc__earlier_places pm__earlier_places cd__earlier_places ct__earlier_places : Value} {od__earlier_places an__earlier_places : Option Addr} {sl__earlier_places : Array (Option Value)} {f__longest_copy : Addr} {oc__longest_copy kV__longest_copy dc__longest_copy pm__longest_copy cd__longest_copy ct__longest_copy : Value} {od__longest_copy an__longest_copy : Option Addr} {sl__longest_copy : Array (Option Value)} {f__plain_steps : Addr} {oc__plain_steps kV__plain_steps dc__plain_steps pm__plain_steps cd__plain_steps ct__plain_steps : Value} {od__plain_steps an__plain_steps : Option Addr} {sl__plain_steps : Array (Option Value)} {f__law_cell : Addr} {oc__law_cell kV__law_cell dc__law_cell pm__law_cell cd__law_cell ct__law_cell : Value} {od__law_cell an__law_cell : Option Addr} {sl__law_cell : Array (Option Value)} {f__law_mix : Addr} {oc__law_mix kV__law_mix dc__law_mix pm__law_mix cd__law_mix ct__law_mix : Value} {od__law_mix an__law_mix : Option Addr} {sl__law_mix : Array (Option Value)} {f__law_row : Addr} {oc__law_row kV__law_row dc__law_row pm__law_row cd__law_row ct__law_row : Value} {od__law_row an__law_row : Option Addr} {sl__law_row : Array (Option Value)} {f__law_is_int : Addr} {oc__law_is_int kV__law_is_int dc__law_is_int pm__law_is_int cd__law_is_int ct__law_is_int : Value} {od__law_is_int an__law_is_int : Option Addr} {sl__law_is_int : Array (Option Value)} {f__law_is_list : Addr} {oc__law_is_list kV__law_is_list dc__law_is_list pm__law_is_list cd__law_is_list ct__law_is_list : Value} {od__law_is_list an__law_is_list : Option Addr} {sl__law_is_list : Array (Option Value)} {f__law_items : Addr} {oc__law_items kV__law_items dc__law_items pm__law_items cd__law_items ct__law_items : Value} {od__law_items an__law_items : Option Addr} {sl__law_items : Array (Option Value)} {f__law_expand : Addr} {oc__law_expand kV__law_expand dc__law_expand pm__law_expand cd__law_expand ct__law_expand : Value} {od__law_expand an__law_expand : Option Addr} {sl__law_expand : Array (Option Value)} {f_law : Addr} {oc_law kV_law dc_law pm_law cd_law ct_law : Value} {od_law an_law : Option Addr} {sl_law : Array (Option Value)} {t_SHORTEST_COPY : Tok} {t_FIRST_COPY : Tok} {t_LONGEST_COPY : Tok} {t_FARTHEST_COPY : Tok} {t_MOST_PLAIN : Tok} (X : K.In h) (G : h.Ns mainGlobals mg) (hfa : mg "law" = some (.ref fa))
    (a_pack : PySem.W.nsIn K mainGlobals "pack" = some (some (.ref f_pack)))
    (l_pack : K.lookup f_pack = some ⟨oc_pack, od_pack, .func (PySem.W.fnOf "pack" "pack" (defArgs s_pack) (defBody s_pack) (defScope s_pack) .none kV_pack dc_pack pm_pack an_pack cd_pack ct_pack), sl_pack⟩)
    (c_pack : PySem.W.codeIn K cd_pack "pack" = true)
    (k_pack : PySem.W.keepIn K (.ref f_pack) = true)
    (a__earlier_places : PySem.W.nsIn K mainGlobals "_earlier_places" = some (some (.ref f__earlier_places)))
    (l__earlier_places : K.lookup f__earlier_places = some ⟨oc__earlier_places, od__earlier_places, .func (PySem.W.fnOf "_earlier_places" "_earlier_places" (defArgs s__earlier_places) (defBody s__earlier_places) (defScope s__earlier_places) .none kV__earlier_places dc__earlier_places pm__earlier_places an__earlier_places cd__earlier_places ct__earlier_places), sl__earlier_places⟩)
    (c__earlier_places : PySem.W.codeIn K cd__earlier_places "_earlier_places" = true)
    (k__earlier_places : PySem.W.keepIn K (.ref f__earlier_places) = true)
    (a__longest_copy : PySem.W.nsIn K mainGlobals "_longest_copy" = some (some (.ref f__longest_copy)))
    (l__longest_copy : K.lookup f__longest_copy = some ⟨oc__longest_copy, od__longest_copy, .func (PySem.W.fnOf "_longest_copy" "_longest_copy" (defArgs s__longest_copy) (defBody s__longest_copy) (defScope s__longest_copy) .none kV__longest_copy dc__longest_copy pm__longest_copy an__longest_copy cd__longest_copy ct__longest_copy), sl__longest_copy⟩)
    (c__longest_copy : PySem.W.codeIn K cd__longest_copy "_longest_copy" = true)
    (k__longest_copy : PySem.W.keepIn K (.ref f__longest_copy) = true)
    (a__plain_steps : PySem.W.nsIn K mainGlobals "_plain_steps" = some (some (.ref f__plain_steps)))
    (l__plain_steps : K.lookup f__plain_steps = some ⟨oc__plain_steps, od__plain_steps, .func (PySem.W.fnOf "_plain_steps" "_plain_steps" (defArgs s__plain_steps) (defBody s__plain_steps) (defScope s__plain_steps) .none kV__plain_steps dc__plain_steps pm__plain_steps an__plain_steps cd__plain_steps ct__plain_steps), sl__plain_steps⟩)
    (c__plain_steps : PySem.W.codeIn K cd__plain_steps "_plain_steps" = true)
    (k__plain_steps : PySem.W.keepIn K (.ref f__plain_steps) = true)
    (a__law_cell : PySem.W.nsIn K mainGlobals "_law_cell" = some (some (.ref f__law_cell)))
    (l__law_cell : K.lookup f__law_cell = some ⟨oc__law_cell, od__law_cell, .func (PySem.W.fnOf "_law_cell" "_law_cell" (defArgs s__law_cell) (defBody s__law_cell) (defScope s__law_cell) .none kV__law_cell dc__law_cell pm__law_cell an__law_cell cd__law_cell ct__law_cell), sl__law_cell⟩)
    (c__law_cell : PySem.W.codeIn K cd__law_cell "_law_cell" = true)
    (k__law_cell : PySem.W.keepIn K (.ref f__law_cell) = true)
    (a__law_mix : PySem.W.nsIn K mainGlobals "_law_mix" = some (some (.ref f__law_mix)))
    (l__law_mix : K.lookup f__law_mix = some ⟨oc__law_mix, od__law_mix, .func (PySem.W.fnOf "_law_mix" "_law_mix" (defArgs s__law_mix) (defBody s__law_mix) (defScope s__law_mix) .none kV__law_mix dc__law_mix pm__law_mix an__law_mix cd__law_mix ct__law_mix), sl__law_mix⟩)
    (c__law_mix : PySem.W.codeIn K cd__law_mix "_law_mix" = true)
    (k__law_mix : PySem.W.keepIn K (.ref f__law_mix) = true)
    (a__law_row : PySem.W.nsIn K mainGlobals "_law_row" = some (some (.ref f__law_row)))
    (l__law_row : K.lookup f__law_row = some ⟨oc__law_row, od__law_row, .func (PySem.W.fnOf "_law_row" "_law_row" (defArgs s__law_row) (defBody s__law_row) (defScope s__law_row) .none kV__law_row dc__law_row pm__law_row an__law_row cd__law_row ct__law_row), sl__law_row⟩)
    (c__law_row : PySem.W.codeIn K cd__law_row "_law_row" = true)
    (k__law_row : PySem.W.keepIn K (.ref f__law_row) = true)
    (a__law_is_int : PySem.W.nsIn K mainGlobals "_law_is_int" = some (some (.ref f__law_is_int)))
    (l__law_is_int : K.lookup f__law_is_int = some ⟨oc__law_is_int, od__law_is_int, .func (PySem.W.fnOf "_law_is_int" "_law_is_int" (defArgs s__law_is_int) (defBody s__law_is_int) (defScope s__law_is_int) .none kV__law_is_int dc__law_is_int pm__law_is_int an__law_is_int cd__law_is_int ct__law_is_int), sl__law_is_int⟩)
    (c__law_is_int : PySem.W.codeIn K cd__law_is_int "_law_is_int" = true)
    (k__law_is_int : PySem.W.keepIn K (.ref f__law_is_int) = true)
    (a__law_is_list : PySem.W.nsIn K mainGlobals "_law_is_list" = some (some (.ref f__law_is_list)))
    (l__law_is_list : K.lookup f__law_is_list = some ⟨oc__law_is_list, od__law_is_list, .func (PySem.W.fnOf "_law_is_list" "_law_is_list" (defArgs s__law_is_list) (defBody s__law_is_list) (defScope s__law_is_list) .none kV__law_is_list dc__law_is_list pm__law_is_list an__law_is_list cd__law_is_list ct__law_is_list), sl__law_is_list⟩)
    (c__law_is_list : PySem.W.codeIn K cd__law_is_list "_law_is_list" = true)
    (k__law_is_list : PySem.W.keepIn K (.ref f__law_is_list) = true)
    (a__law_items : PySem.W.nsIn K mainGlobals "_law_items" = some (some (.ref f__law_items)))
    (l__law_items : K.lookup f__law_items = some ⟨oc__law_items, od__law_items, .func (PySem.W.fnOf "_law_items" "_law_items" (defArgs s__law_items) (defBody s__law_items) (defScope s__law_items) .none kV__law_items dc__law_items pm__law_items an__law_items cd__law_items ct__law_items), sl__law_items⟩)
    (c__law_items : PySem.W.codeIn K cd__law_items "_law_items" = true)
    (k__law_items : PySem.W.keepIn K (.ref f__law_items) = true)
    (a__law_expand : PySem.W.nsIn K mainGlobals "_law_expand" = some (some (.ref f__law_expand)))
    (l__law_expand : K.lookup f__law_expand = some ⟨oc__law_expand, od__law_expand, .func (PySem.W.fnOf "_law_expand" "_law_expand" (defArgs s__law_expand) (defBody s__law_expand) (defScope s__law_expand) .none kV__law_expand dc__law_expand pm__law_expand an__law_expand cd__law_expand ct__law_expand), sl__law_expand⟩)
    (c__law_expand : PySem.W.codeIn K cd__law_expand "_law_expand" = true)
    (k__law_expand : PySem.W.keepIn K (.ref f__law_expand) = true)
    (a_law : PySem.W.nsIn K mainGlobals "law" = some (some (.ref f_law)))
    (l_law : K.lookup f_law = some ⟨oc_law, od_law, .func (PySem.W.fnOf "law" "law" (defArgs s_law) (defBody s_law) (defScope s_law) .none kV_law dc_law pm_law an_law cd_law ct_law), sl_law⟩)
    (c_law : PySem.W.codeIn K cd_law "law" = true)
    (k_law : PySem.W.keepIn K (.ref f_law) = true)
    (a_SHORTEST_COPY : PySem.W.nsIn K mainGlobals "SHORTEST_COPY" = some (some (.int 3 t_SHORTEST_COPY)))
    (a_FIRST_COPY : PySem.W.nsIn K mainGlobals "FIRST_COPY" = some (some (.int 128 t_FIRST_COPY)))
    (a_LONGEST_COPY : PySem.W.nsIn K mainGlobals "LONGEST_COPY" = some (some (.int 130 t_LONGEST_COPY)))
    (a_FARTHEST_COPY : PySem.W.nsIn K mainGlobals "FARTHEST_COPY" = some (some (.int 255 t_FARTHEST_COPY)))
    (a_MOST_PLAIN : PySem.W.nsIn K mainGlobals "MOST_PLAIN" = some (some (.int 128 t_MOST_PLAIN)))
    (z_len : PySem.W.nsIn K mainGlobals "len" = some none)
    (z_range : PySem.W.nsIn K mainGlobals "range" = some none)
    (z_tuple : PySem.W.nsIn K mainGlobals "tuple" = some none)
    (z_min : PySem.W.nsIn K mainGlobals "min" = some none)
    (z_int : PySem.W.nsIn K mainGlobals "int" = some none)
    (z_abs : PySem.W.nsIn K mainGlobals "abs" = some none)
    (z_isinstance : PySem.W.nsIn K mainGlobals "isinstance" = some none)
    (z_bool : PySem.W.nsIn K mainGlobals "bool" = some none)
    (z_list : PySem.W.nsIn K mainGlobals "list" = some none)
    : ∃ fd : FuncData, (∀ (s : Shared) (v : Value), BindsTo s fd ⟨[v], []⟩ [("script", v)]) ∧ ∀ base : Heap, K.In base → base.Ns mainGlobals mg → FnOk P w K mg base CX0 4 fa fd ["script"] (spLaw K) :=
  law_mk (T := ⟨dn_mk X G a_pack l_pack c_pack k_pack (fun _ _ _ _ _ _ us hl => match us, hl with | [_], _ => rfl),
    dn_mk X G a__earlier_places l__earlier_places c__earlier_places k__earlier_places (fun _ _ _ _ _ _ us hl => match us, hl with | [_], _ => rfl),
    dn_mk X G a__longest_copy l__longest_copy c__longest_copy k__longest_copy (fun _ _ _ _ _ _ us hl => match us, hl with | [_, _, _], _ => rfl),
    dn_mk X G a__plain_steps l__plain_steps c__plain_steps k__plain_steps (fun _ _ _ _ _ _ us hl => match us, hl with | [_], _ => rfl),
    dn_mk X G a__law_cell l__law_cell c__law_cell k__law_cell (fun _ _ _ _ _ _ us hl => match us, hl with | [_, _], _ => rfl),
    dn_mk X G a__law_mix l__law_mix c__law_mix k__law_mix (fun _ _ _ _ _ _ us hl => match us, hl with | [_, _], _ => rfl),
    dn_mk X G a__law_row l__law_row c__law_row k__law_row (fun _ _ _ _ _ _ us hl => match us, hl with | [_, _, _], _ => rfl),
    dn_mk X G a__law_is_int l__law_is_int c__law_is_int k__law_is_int (fun _ _ _ _ _ _ us hl => match us, hl with | [_], _ => rfl),
    dn_mk X G a__law_is_list l__law_is_list c__law_is_list k__law_is_list (fun _ _ _ _ _ _ us hl => match us, hl with | [_, _, _], _ => rfl),
    dn_mk X G a__law_items l__law_items c__law_items k__law_items (fun _ _ _ _ _ _ us hl => match us, hl with | [_, _], _ => rfl),
    dn_mk X G a__law_expand l__law_expand c__law_expand k__law_expand (fun _ _ _ _ _ _ us hl => match us, hl with | [_, _], _ => rfl),
    dn_mk X G a_law l_law c_law k_law (fun _ _ _ _ _ _ us hl => match us, hl with | [_], _ => rfl),
    cv_int X G a_SHORTEST_COPY,
    cv_int X G a_FIRST_COPY,
    cv_int X G a_LONGEST_COPY,
    cv_int X G a_FARTHEST_COPY,
    cv_int X G a_MOST_PLAIN,
    PySem.W.mg_none_of X G z_len,
    PySem.W.mg_none_of X G z_range,
    PySem.W.mg_none_of X G z_tuple,
    PySem.W.mg_none_of X G z_min,
    PySem.W.mg_none_of X G z_int,
    PySem.W.mg_none_of X G z_abs,
    PySem.W.mg_none_of X G z_isinstance,
    PySem.W.mg_none_of X G z_bool,
    PySem.W.mg_none_of X G z_list⟩) hfa
theorem walk {l : PySem.W.OpenLaw} {q : Program} {loose : List Str} {XP : (Str → Option Value) → Heap → Prop} {YP : World → Heap → Prop} {d : DefRec} {K : Params → PySem.W.Frag} (hn : l.most = some 63) (hdf : d.params.defaults = [])
    (hY : ∀ (w : World) (h : Heap), YP w h → (K w.params).In h)
    (F : ∀ (w : World) (mg : Str → Option Value) (fa : Addr) (h : Heap), (K w.params).In h → h.Ns mainGlobals mg → mg d.name = some (.ref fa) →
      ∃ fd : FuncData, (∀ (s : Shared) (u : Value), BindsTo s fd ⟨[u], []⟩ [("script", u)]) ∧ ∀ base : Heap, (K w.params).In base → base.Ns mainGlobals mg → FnOk l.prog w (K w.params) mg base CX0 4 fa fd ["script"] (spLaw (K w.params))) :
    PySem.W.WalkO q loose XP YP l.row.toRowW d [] (fun f vs => PySem.call f vs) :=
  L2.walk_of (n := 63) (k := 4) (x := "script") (CX := fun _ => CX0) (sp := fun w => spLaw (K w.params)) hn (by decide) hdf ⟨rfl, by decide, by decide⟩ hY F (fun _ _ a ns hl _ hS => ⟨a, ns, rfl, hS, hl, fun _ => rfl⟩) fun _ _ _ _ _ z => z
end My
open PySem PySem.W PyProof.Rows in
set_option maxRecDepth 100000 in
set_option maxHeartbeats 0 in
theorem PySem.Challenge.cw_scanpages_k19_pack_holds : PySem.Challenge.rw_scanpages_k19_pack.Holds := by
  w_on; o_law; k_head; (case hw => w_witness2)
  k_fill
  refine My.walk (l := PySem.Challenge.rw_scanpages_k19_pack) rfl rfl (fun w h Y => PySem.W.kIn_of Y) ?F
  case F =>
    intro w mg fa h KX G hmg
    refine' My.law_end KX G hmg ?a_pack ?l_pack ?c_pack ?k_pack ?a__earlier_places ?l__earlier_places ?c__earlier_places ?k__earlier_places ?a__longest_copy ?l__longest_copy ?c__longest_copy ?k__longest_copy ?a__plain_steps ?l__plain_steps ?c__plain_steps ?k__plain_steps ?a__law_cell ?l__law_cell ?c__law_cell ?k__law_cell ?a__law_mix ?l__law_mix ?c__law_mix ?k__law_mix ?a__law_row ?l__law_row ?c__law_row ?k__law_row ?a__law_is_int ?l__law_is_int ?c__law_is_int ?k__law_is_int ?a__law_is_list ?l__law_is_list ?c__law_is_list ?k__law_is_list ?a__law_items ?l__law_items ?c__law_items ?k__law_items ?a__law_expand ?l__law_expand ?c__law_expand ?k__law_expand ?a_law ?l_law ?c_law ?k_law ?a_SHORTEST_COPY ?a_FIRST_COPY ?a_LONGEST_COPY ?a_FARTHEST_COPY ?a_MOST_PLAIN ?z_len ?z_range ?z_tuple ?z_min ?z_int ?z_abs ?z_isinstance ?z_bool ?z_list
    (case a_pack => k_is)
    (case l_pack => k_is)
    (case c_pack => k_is)
    (case k_pack => k_is)
    (case a__earlier_places => k_is)
    (case l__earlier_places => k_is)
    (case c__earlier_places => k_is)
    (case k__earlier_places => k_is)
    (case a__longest_copy => k_is)
    (case l__longest_copy => k_is)
    (case c__longest_copy => k_is)
    (case k__longest_copy => k_is)
    (case a__plain_steps => k_is)
    (case l__plain_steps => k_is)
    (case c__plain_steps => k_is)
    (case k__plain_steps => k_is)
    (case a__law_cell => k_is)
    (case l__law_cell => k_is)
    (case c__law_cell => k_is)
    (case k__law_cell => k_is)
    (case a__law_mix => k_is)
    (case l__law_mix => k_is)
    (case c__law_mix => k_is)
    (case k__law_mix => k_is)
    (case a__law_row => k_is)
    (case l__law_row => k_is)
    (case c__law_row => k_is)
    (case k__law_row => k_is)
    (case a__law_is_int => k_is)
    (case l__law_is_int => k_is)
    (case c__law_is_int => k_is)
    (case k__law_is_int => k_is)
    (case a__law_is_list => k_is)
    (case l__law_is_list => k_is)
    (case c__law_is_list => k_is)
    (case k__law_is_list => k_is)
    (case a__law_items => k_is)
    (case l__law_items => k_is)
    (case c__law_items => k_is)
    (case k__law_items => k_is)
    (case a__law_expand => k_is)
    (case l__law_expand => k_is)
    (case c__law_expand => k_is)
    (case k__law_expand => k_is)
    (case a_law => k_is)
    (case l_law => k_is)
    (case c_law => k_is)
    (case k_law => k_is)
    (case a_SHORTEST_COPY => k_is)
    (case a_FIRST_COPY => k_is)
    (case a_LONGEST_COPY => k_is)
    (case a_FARTHEST_COPY => k_is)
    (case a_MOST_PLAIN => k_is)
    (case z_len => k_is)
    (case z_range => k_is)
    (case z_tuple => k_is)
    (case z_min => k_is)
    (case z_int => k_is)
    (case z_abs => k_is)
    (case z_isinstance => k_is)
    (case z_bool => k_is)
    (case z_list => k_is)
#print axioms PySem.Challenge.cw_scanpages_k19_pack_holds
