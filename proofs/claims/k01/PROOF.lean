import PyProof.Rows.All
import Wide.All
import OpenK.AllK
import Wide.FinOn
import PyProof.EqAt
import PyProof.EqKinds
import PyProof.TupleCall
import HandS.ForMost
import HandS.ForExc
import HandS.RaiseMore
import HandS.FStr
import HandS.IsInst
import HandS.ExcIs
import HandS.Wide
import HandS.Flow
import HandS.Conv
import HandS.Evl
import HandS.TupAny
import HandS.Style
import HandS.ExcCtx
import HandS.HotCalls
import PySem.Challenge.RW_scanpages_k01_number_octets
set_option Elab.async false
set_option linter.all false
set_option maxRecDepth 100000
set_option maxHeartbeats 4000000
/-! Cm: what all our proofs share -/
namespace Cm
open PySem PySem.Spec PyProof.Rows L2

/-! ### defs of the module, and what they promise -/
/-- the def x stands at some address behind the top -/
def Dn (K : PySem.W.Frag) (mg : Str → Option Value) (x : Str) (st : Stmt) (ps : List Str) : Prop :=
  ∃ (f : Addr) (fd : FuncData), Fun K x x st f fd ∧ mg x = some (.ref f) ∧ Binds K fd ps []
/-- the def x keeps the promise sp -/
def Ok (P : Program) (w : World) (K : PySem.W.Frag) (mg : Str → Option Value) (base : Heap) (CX : CXT) (k : Nat) (x : Str) (ps : List Str) (sp : Sp) : Prop :=
  ∃ (f : Addr) (fd : FuncData), FnOk P w K mg base CX k f fd ps sp ∧ mg x = some (.ref f) ∧ PySem.W.keepIn K (.ref f) = true ∧ Binds K fd ps []
theorem ok_of {P : Program} {w : World} {K : PySem.W.Frag} {mg : Str → Option Value} {base : Heap} {CX : CXT} {k : Nat} {x : Str} {st : Stmt} {ps : List Str} {sp : Sp} (d : Dn K mg x st ps)
    (h : ∀ f fd, Fun K x x st f fd → FnOk P w K mg base CX k f fd ps sp) : Ok P w K mg base CX k x ps sp := by
  obtain ⟨f, fd, F, g, b⟩ := d
  exact ⟨f, fd, h f fd F, g, F.kp, b⟩
section
variable {X : Cx} {CX : CXT} {k : Nat} {ps : List Str} {sp : Sp} {E : XK} {x : Str} {p pos : Pos} {e : Expr} {es : List Expr} {t : TA}
theorem pe_callO (G : Ok X.prog X.w X.K X.mg X.base CX k x ps sp) (hr : Room k X.A) (hx : Passes CX X E) (ha : PA X (e :: es) t) (hg : Gl X x := by rfl)
    (hdb : (x == ("__debug__" : Str)) = false := by decide) (he : starEach (e :: es) X.env = (false, eval e X.env) :: starEach es X.env := by rfl) (hpl : (backTo pos (starEach es X.env)).any (·.1) = false := by rfl) :
    PE X (.Call (.Name x p) (e :: es) [] pos) (tCall sp [] E t) := by
  obtain ⟨f, fd, F, g, kp, b⟩ := G
  exact pe_call F hr hg g kp b .nil hx ha hdb he hpl
theorem pe_callO0 (G : Ok X.prog X.w X.K X.mg X.base CX k x ps sp) (hr : Room k X.A) (hx : Passes CX X E) (hg : Gl X x := by rfl) (hdb : (x == ("__debug__" : Str)) = false := by decide) :
    PE X (.Call (.Name x p) [] [] pos) (tCall sp [] E tNil) := by
  obtain ⟨f, fd, F, g, kp, b⟩ := G
  exact pe_call0 F hr hg g kp b .nil hx hdb
theorem pe_callT {Es : L2.St → XK} (G : Ok X.prog X.w X.K X.mg X.base CX k x ps sp) (hr : Room k X.A) (hx : ∀ σ, PassesAt CX X σ (Es σ)) (ha : PA X (e :: es) t) (hg : Gl X x := by rfl)
    (hdb : (x == ("__debug__" : Str)) = false := by decide) (he : starEach (e :: es) X.env = (false, eval e X.env) :: starEach es X.env := by rfl) (hpl : (backTo pos (starEach es X.env)).any (·.1) = false := by rfl) :
    PE X (.Call (.Name x p) (e :: es) [] pos) (tCallS sp Es t) := by
  obtain ⟨f, fd, F, g, kp, b⟩ := G
  exact pe_callS F hr hg g kp b hx ha hdb he hpl
end
/-! ### errors: raised where nothing is handled -/
/-- what leaves a def: L2N's way -/
abbrev CXN (P : Program) (w : World) : CXT := L2N.CX P w
theorem passN {X : Cx} : Passes (CXN X.prog X.w) X E0 := fun _ _ _ _ _ _ _ h => by
  obtain ⟨_, _, _, _, _, _, _, _, _, _, _, _, z⟩ := h
  exact z.elim
theorem takesN {X : Cx} : L2N.Takes X (fun _ _ _ _ => False) := fun _ _ x => by
  obtain ⟨_, _, _, _, _, _, _, _, _, _, _, _, _, _, _, _, z⟩ := x
  exact z.elim
theorem passX {X : Cx} {E E' : XK} (tk : L2N.Takes X (fun cls d _ H => E cls d H)) (h : ∀ cls d H, E' cls d H → E cls d H) : Passes (CXN X.prog X.w) X E' := fun pins σ H s e s' I c => tk e s' (L2N.XE.of_call I (fun cls d H' q => h cls d H' q) c)
theorem okN {P : Program} {w : World} {K : PySem.W.Frag} {mg : Str → Option Value} {base : Heap} {x qual : Str} {st : Stmt} {f : Addr} {fd : FuncData} {N ps : List Str} {k : Nat} {sp : Sp} (F : Fun K x qual st f fd) (S : FnScope N ps (defScope st)) (len : ∀ vs H Q E, sp vs H Q E → vs.length = ps.length)
    (hbody : ∀ (cdv : Value) (A : Around) (outer : List Env) (s : Shared) (H : Hp) (vs : List V) (Q : VK) (E : XK), Room k (A.deeper (envOfC qual (defScope st) s.heap.objs.size f cdv)) → sp vs H Q E →
      ∃ t, PSs (cxOf (CXN P w) P w K mg base N qual (defScope st) f cdv A outer s H E) (defBody st) t ∧ t { nx := fun _ H' => Q .non H', rt := Q } (L2.start N vs) H) : FnOk P w K mg base (CXN P w) (k + 1) f fd ps sp := by
  obtain ⟨oc, od, kV, doc, pm, an, cdv, ct, osl, rfl, lk, hcd⟩ := F.ex
  exact fn_of lk hcd S len fun A outer s H vs Q E hr hsp => hbody cdv A outer s H vs Q E hr hsp
section
variable {X : Cx}
/-- X(e) -/
theorem pmk_own1 {C : Addr} {bmB : List Value} {B newId initId : String} {x : Str} {e : Expr} {ta : TE} {p pos : Pos} (F : ExcBaseFacts B newId initId bmB) (q : PySem.W.excIn X.K C bmB newId = true) (gC : X.mg x = some (.ref C)) (kC : PySem.W.keepIn X.K (.ref C) = true) (r : Raises X (.ref C)) (hg : Gl X x)
    (he : PE X e ta) (hs : starEach [e] X.env = (false, eval e X.env) :: starEach [] X.env := by rfl) (hdb : (x == ("__debug__" : Str)) = false := by decide) :
    L2N.PMk X (.Call (.Name x p) [e] [] pos) (fun σ H Q => ta σ H fun _ H1 => Q (.ref C) none H1) := by
  intro pins s σ H Q I h
  refine wpAny_Call_Name_kw (ld_glob I hg gC ?_ hdb)
  refine PySem.W.callWith_K (h₀ := X.base) I.ok.mod.kin kC ?_ hs (by rfl)
  rw [hs]
  show wpAny _ _ (spliced ((false, eval e X.env) :: backTo pos (starEach [] X.env))) _ _ s
  refine Calls.spliced_cons (thn (he.run pins s σ H _ I h) fun u s1 ⟨v, H1, I1, r1, q1⟩ => ?_)
  refine Calls.spliced_nil ⟨I1.kIn, ?_⟩
  show wpAny _ _ (call (.ref C) [u]) _ _ _
  obtain ⟨bm, N, nm, qn, bs, hdct, sn, sub, ab, col, dd, k0, k1, k2, k3, k5, mN, hC, hN, hni, T⟩ := exc_obj I1.kIn q
  refine wpAny_call_exc_subT F T hC hN hni (fun h' e hm => ?_) (by show 1 ≤ sizeLine; rw [sizeLine_eq]; omega)
  exact L2N.mk_of I1 hm r q1 (I1.hok.gone hm.new)
end
/-! ### defs called within an except suite -/
def OkH (P : Program) (w : World) (K : PySem.W.Frag) (mg : Str → Option Value) (base : Heap) (CX : CXT) (k : Nat) (x : Str) (ps : List Str) (sp : Sp) : Prop :=
  ∃ (f : Addr) (fd : FuncData), L2H.FnH P w K mg base CX k f fd ps sp ∧ mg x = some (.ref f) ∧ PySem.W.keepIn K (.ref f) = true ∧ Binds K fd ps []
theorem okH_of {P : Program} {w : World} {K : PySem.W.Frag} {mg : Str → Option Value} {base : Heap} {k : Nat} {x : Str} {st : Stmt} {N ps : List Str} {sp : Sp} (d : Dn K mg x st ps) (S : FnScope N ps (defScope st)) (len : ∀ vs H Q E, sp vs H Q E → vs.length = ps.length)
    (hbody : ∀ (f : Addr) (cdv : Value) (A : Around) (outer : List Env) (s : Shared) (H : Hp) (vs : List V) (Q : VK) (E : XK) (p : Addr × Obj), L2H.Hot1 A p → L2H.RoomH k (A.deeper (envOfC x (defScope st) s.heap.objs.size f cdv)) → sp vs H Q E →
      ∃ t, PSs (L2H.cxH CX0 P w K mg base N x (defScope st) f cdv A outer s H E p) (defBody st) t ∧ t { nx := fun _ H' => Q .non H', rt := Q } (L2.start N vs) H) : OkH P w K mg base CX0 (k + 1) x ps sp := by
  obtain ⟨f, fd, F, g, b⟩ := d
  refine ⟨f, fd, ?_, g, F.kp, b⟩
  obtain ⟨oc, od, kV, doc, pm, an, cdv, ct, osl, rfl, lk, hcd⟩ := F.ex
  exact L2H.fn_ofH lk hcd S len fun A outer s H vs Q E p hot hr hsp => hbody f cdv A outer s H vs Q E p hot hr hsp
section
variable {X : Cx} {k : Nat} {ps : List Str} {sp : Sp} {x : Str} {p pos : Pos} {e : Expr} {es : List Expr} {t : TA}
theorem pe_callHO (G : OkH X.prog X.w X.K X.mg X.base CX0 k x ps sp) (hr : L2H.RoomH k X.A) (hc : L2H.HotC X) (ha : PA X (e :: es) t) (hg : Gl X x := by rfl)
    (hdb : (x == ("__debug__" : Str)) = false := by decide) (he : starEach (e :: es) X.env = (false, eval e X.env) :: starEach es X.env := by rfl) (hpl : (backTo pos (starEach es X.env)).any (·.1) = false := by rfl) :
    PE X (.Call (.Name x p) (e :: es) [] pos) (tCallS sp (fun _ => E0) t) := by
  obtain ⟨f, fd, F, g, kp, b⟩ := G
  exact L2H.pe_callH F hr hc hg g kp b (fun _ _ _ _ _ _ _ h => h.elim) ha hdb he hpl
theorem roomS {k j : Nat} {A : Around} {h : Option Value} (hr : Room k A) (hj : j ≤ k) : L2H.RoomH j (A.mark h) := L2H.RoomH.mono (k := k) ⟨hr.dp, hr.un⟩ hj
theorem hotS {a : Addr} {oe : Obj} {cls : Value} {d : Option Addr} {pn : List (Addr × Obj)} (hz : L2N.Zn cls d oe) (hf : ∃ vs, oe.data = .fields vs) : L2H.HotC (X.suite a ((a, oe) :: pn)) := by
  obtain ⟨vs, e⟩ := hf
  exact ⟨(a, oe), ⟨rfl, vs, e, hz.2.2 vs e⟩, List.mem_cons_self⟩
end
/-! ### names of the module -/
/-- the name x of the module holds v -/
def CV (mg : Str → Option Value) (x : Str) (v : V) : Prop := ∃ u, mg x = some u ∧ RelV v u
theorem pe_globC {X : Cx} {x : Str} {v : V} {pos : Pos} (hg : Gl X x) (h : CV X.mg x v) (hd : (x == ("__debug__" : Str)) = false := by decide) : PE X (.Name x pos) (tC v) := by
  obtain ⟨u, hm, r⟩ := h
  exact pe_glob hg hm r hd
theorem pe_globR {X : Cx} {x : Str} {a : Addr} {pos : Pos} (hg : Gl X x) (h : X.mg x = some (.ref a)) (hd : (x == ("__debug__" : Str)) = false := by decide) : PE X (.Name x pos) (tC (.ref a)) := pe_glob hg h rfl hd
/-! ### tests -/
theorem itd {p A B : Prop} [Decidable p] (h1 : p → A) (h2 : ¬ p → B) : if decide p = true then A else B := by
  by_cases h : p
  · rw [if_pos (decide_eq_true h)]
    exact h1 h
  · rw [if_neg (by simp [h])]
    exact h2 h
theorem itb {b : Bool} {A B : Prop} (h1 : b = true → A) (h2 : b = false → B) : if b = true then A else B := by
  cases b with
  | true => exact iteT (h1 rfl)
  | false => exact iteF (h2 rfl)
/-! ### error classes -/
/-- an error class that may have an own __init__ -/
structure XB (K : PySem.W.Frag) (mg : Str → Option Value) (x : Str) (C : Addr) : Prop where
  g : mg x = some (.ref C)
  k : PySem.W.keepIn K (.ref C) = true
  b : PySem.W.subIn K (.ref C) (.type "BaseException") = some true
  t : PySem.W.typeIn K (.ref C) = some (.type "type")
  d : PySem.W.hasDictIn K C = true
  i : PySem.W.isClsIn K C = true
/-- an error class without an own __init__ -/
structure XCl (K : PySem.W.Frag) (mg : Str → Option Value) (x : Str) (C : Addr) : Prop extends XB K mg x C where
  x : PySem.W.excIn K C [.type "ValueError", .type "Exception", .type "BaseException", .type "object"] "ValueError.__new__" = true
  e : ExcC K C
section
variable {K : PySem.W.Frag} {h : Heap} {mg : Str → Option Value} {x : Str} {C : Addr}
theorem xb_mk (X : K.In h) (G : h.Ns mainGlobals mg) (a : PySem.W.nsIn K mainGlobals x = some (some (.ref C))) (k : PySem.W.keepIn K (.ref C) = true) (b : PySem.W.subIn K (.ref C) (.type "BaseException") = some true)
    (t : PySem.W.typeIn K (.ref C) = some (.type "type")) (d : PySem.W.hasDictIn K C = true) (i : PySem.W.isClsIn K C = true) : XB K mg x C := ⟨PySem.W.mg_of X G a, k, b, t, d, i⟩
theorem xcl_mk (X : K.In h) (G : h.Ns mainGlobals mg) (a : PySem.W.nsIn K mainGlobals x = some (some (.ref C)))
    (q : PySem.W.excIn K C [.type "ValueError", .type "Exception", .type "BaseException", .type "object"] "ValueError.__new__" = true) (k : PySem.W.keepIn K (.ref C) = true)
    (b : PySem.W.subIn K (.ref C) (.type "BaseException") = some true) (t : PySem.W.typeIn K (.ref C) = some (.type "type"))
    (hg : PySem.W.findIn K (.ref C) "__getattribute__" = some (some (.builtin "BaseException.__getattribute__"))) (hk : PySem.W.findIn K (.ref C) "__getattr__" = some none) (hd : PySem.W.hasDictIn K C = true)
    (ha : PySem.W.findIn K (.ref C) "__class__" = some (some (.builtin "object.__class__"))) (hn : PySem.W.specialIn K (.builtin "object.__class__") "__get__" = some (some (.builtin "getset_descriptor.__get__")))
    (ht : PySem.W.takesIn K (.builtin "object.__class__") = some true) (hm : PySem.W.mroIn K C (.type "object") = some true) (i : PySem.W.isClsIn K C = true) : XCl K mg x C :=
  ⟨⟨PySem.W.mg_of X G a, k, b, t, hd, i⟩, q, ⟨hg, hk, b, hd, ha, hn, ht, hm⟩⟩
/-- isinstance of an own class -/
theorem kit_own {D : Addr} {r : Bool} (i : PySem.W.isClsIn K C = true) (t : PySem.W.typeIn K (.ref C) = some (.type "type")) (s : PySem.W.subIn K (.ref D) (.ref C) = some r) (hne : (Value.ref D == Value.ref C) = true → r = true) :
    PySem.W.kitOne K (.ref D) (.ref C) = some r := by
  unfold PySem.W.kitOne
  cases e : (Value.ref D == Value.ref C) with
  | true => rw [if_pos rfl, hne e]
  | false =>
    rw [if_neg Bool.false_ne_true]
    have h2 : ((PySem.W.clsIn K C).isSome && PySem.W.typeIn K (.ref C) == some (.type "type")) = true := by
      have h2' : (PySem.W.clsIn K C).isSome = true := i
      rw [h2', t] <;> rfl
    show (if ((PySem.W.clsIn K C).isSome && PySem.W.typeIn K (.ref C) == some (.type "type")) = true then PySem.W.subIn K (.ref D) (.ref C) else none) = some r
    rw [if_pos h2, s]
theorem kit_ve {D : Addr} (s : PySem.W.subIn K (.ref D) (.type "ValueError") = some true) : PySem.W.kitOne K (.ref D) (.type "ValueError") = some true := by
  have e : (Value.ref D == Value.type "ValueError") = false := rfl
  unfold PySem.W.kitOne
  rw [e, if_neg Bool.false_ne_true]
  show (if PySem.W.kitMeta "ValueError" = true then PySem.W.subIn K (.ref D) (.type "ValueError") else none) = some true
  rw [if_pos (by decide +kernel), s]
/-- except C takes an error of the class at D -/
theorem exm_own {D : Addr} {r : Bool} {y : Str} (c : XB K mg y C) (s : PySem.W.subIn K (.ref D) (.ref C) = some r) : PySem.W.exmOne K (.ref D) (.ref C) = some r := PySem.W.exm_ref c.b c.d c.t s
/-! ### the facts of the top -/
theorem dn_mk {st : Stmt} {ps : List Str} {f : Addr} {oc : Value} {od an : Option Addr} {osl : Array (Option Value)} {kV doc pm cdv ct : Value} (X : K.In h) (G : h.Ns mainGlobals mg) (a : PySem.W.nsIn K mainGlobals x = some (some (.ref f)))
    (l : K.lookup f = some ⟨oc, od, .func (PySem.W.fnOf x x (defArgs st) (defBody st) (defScope st) .none kV doc pm an cdv ct), osl⟩) (c : PySem.W.codeIn K cdv x = true) (k : PySem.W.keepIn K (.ref f) = true)
    (hb : ∀ (kV doc pm : Value) (an : Option Addr) (cdv ct : Value) (us : List Value), us.length = ps.length → bindArgs (PySem.W.fnOf x x (defArgs st) (defBody st) (defScope st) .none kV doc pm an cdv ct) ⟨us, []⟩ = pure (ps.zip us)) : Dn K mg x st ps :=
  ⟨f, _, fun_mk l c k, PySem.W.mg_of X G a, (fun_mk l c k).binds hb⟩
theorem cv_int {i : Int} {t : Tok} (X : K.In h) (G : h.Ns mainGlobals mg) (a : PySem.W.nsIn K mainGlobals x = some (some (.int i t))) : CV mg x (.int i) := ⟨_, PySem.W.mg_of X G a, _, rfl⟩
theorem cv_str {i : Str} {t : Tok} (X : K.In h) (G : h.Ns mainGlobals mg) (a : PySem.W.nsIn K mainGlobals x = some (some (.str i t))) : CV mg x (.str i) := ⟨_, PySem.W.mg_of X G a, _, rfl⟩
theorem cv_bl {i : Bool} (X : K.In h) (G : h.Ns mainGlobals mg) (a : PySem.W.nsIn K mainGlobals x = some (some (.bool i))) : CV mg x (.bl i) := ⟨_, PySem.W.mg_of X G a, rfl⟩
/-- the name x of the module holds a tuple of the written part -/
def CT (K : PySem.W.Frag) (mg : Str → Option Value) (x : Str) (xs : List V) : Prop := ∃ p, mg x = some (.ref p) ∧ ∀ H, SqT K H p xs
theorem ct_mk {p : Addr} {od : Option Addr} {its : Array Value} {n : Nat} {sl : Array (Option Value)} {xs : List V} (X : K.In h) (G : h.Ns mainGlobals mg) (a : PySem.W.nsIn K mainGlobals x = some (some (.ref p)))
    (l : K.lookup p = some ⟨.type "tuple", od, .seq its n, sl⟩) (hs : its.size ≤ sizeLine) (hv : Vals xs its.toList) : CT K mg x xs :=
  ⟨p, PySem.W.mg_of X G a, fun _ => .inr ⟨_, its, n, l, rfl, rfl, hs, hv⟩⟩
end
theorem pe_globT {X : Cx} {x : Str} {xs : List V} {pos : Pos} (hg : Gl X x) (h : CT X.K X.mg x xs) (hd : (x == ("__debug__" : Str)) = false := by decide) :
    PE X (.Name x pos) (fun _ H Q => ∀ p, (∀ H', SqT X.K H' p xs) → Q (.ref p) H) := by
  obtain ⟨p, hm, hs⟩ := h
  exact ⟨fun pins s σ H Q I h => (pe_glob hg hm (v := .ref p) rfl hd).run pins s σ H Q I (h p hs)⟩
/-! ### a suite that is read for known errors alone -/
theorem pss_guard {X : Cx} {st : List Stmt} {p : Prop} {t : TS} (h : p → PSs X st t) : PSs X st (fun D σ H => p ∧ t D σ H) :=
  ⟨fun pins s σ H D I q => (h q.1).run pins s σ H D I q.2⟩
theorem to_true {Q : VK} {b : Bool} {H : Hp} (h : b = true) (q : Q (.bl true) H) : Q (.bl b) H := h ▸ q
/-- a new object at p stays the only one that changes -/
theorem same_new {H H' : Hp} {p : Addr} {o : HO} (e : Same H H') (hp : H p = none) : Same H (upd H' p o) := Evl.Ex.mut e hp
theorem same_upd {H : Hp} {p : Addr} {o : HO} (hp : H p = none) : Same H (upd H p o) := Evl.Ex.new hp
theorem tyx_list {K : PySem.W.Frag} {H : Hp} {a : Addr} {xs : List V} (h : SqL K H a xs) : TyX K H (.ref a) (.type "list") := by
  rcases h with (h | ⟨o, h⟩) | ⟨o, its, n, h, hc, _⟩
  · exact .base (.lst h)
  · exact .base (.frz h)
  · exact .kList h hc
theorem tyx_tuple {K : PySem.W.Frag} {H : Hp} {a : Addr} {xs : List V} (h : SqT K H a xs) : TyX K H (.ref a) (.type "tuple") := by
  rcases h with (h | ⟨o, h⟩) | ⟨o, its, n, h, hc, _⟩
  · exact .base (.tup h)
  · exact .fTuple h
  · exact .kTuple h hc
theorem small {n : Nat} (h : n ≤ 100000) : n < sizeLine := Nat.lt_of_le_of_lt h (by decide)
theorem smallE {n : Nat} (h : n ≤ 100000) : n ≤ sizeLine := Nat.le_trans h (by decide)
/-- for .. in enumerate(list) -/
theorem for_enum {K : PySem.W.Frag} {a : Addr} {xs : List V} {g : TG} {tb : TS} {D : Ends} {σ : L2.St} {H : Hp} (Pv : Nat → L2.St → Hp → Prop) (h0 : Pv 0 σ H) (hl : ∀ i σ H, i ≤ xs.length → Pv i σ H → SqL K H a xs)
    (hs : ∀ i x T σ H, xs[i]? = some x → Pv i σ H → H T = none → g (.ref T) σ (upd H T (.tup [.int (i : Nat), x])) fun σ2 H2 => tb { D with nx := Pv (i + 1), ct := Pv (i + 1), bk := D.nx } σ2 H2) (hd : ∀ σ H, Pv xs.length σ H → D.nx σ H) :
    ∃ W : Nat → Nat → L2.St → Hp → Prop, (∃ m, W 0 m σ H) ∧ ∀ i m σ H, W i m σ H →
      ((Ite K a).stop i H ∧ D.nx σ H) ∨ ((Ite K a).go i H ∧ ∃ N : L2.St → Hp → Prop, (∀ σ' H', N σ' H' → ∃ m', m' < m ∧ W (i + 1) m' σ' H') ∧ ∀ x H', (Ite K a).yld i H x H' → g x σ H' fun σ2 H2 => tb { D with nx := N, ct := N, bk := D.nx } σ2 H2) := by
  refine ⟨fun i m σ H => m = xs.length - i ∧ i ≤ xs.length ∧ Pv i σ H, ⟨xs.length, by simp, Nat.zero_le _, h0⟩, ?_⟩
  rintro i m σ H ⟨rfl, hi, p⟩
  have q := hl i σ H hi p
  by_cases hlt : i < xs.length
  · refine .inr ⟨⟨xs, xs[i], q, by simp [hlt]⟩, Pv (i + 1), fun σ' H' p' => ⟨xs.length - (i + 1), by omega, rfl, hlt, p'⟩, fun x H' y => ?_⟩
    obtain ⟨T, z, rfl, hT, rfl, y⟩ := y
    exact hs i z T σ H (y xs q) p hT
  · have e : i = xs.length := by omega
    subst e
    exact .inl ⟨⟨xs, q, Nat.le_refl _⟩, hd σ H p⟩
/-- an item of a list by a number that is told -/
theorem at_nat {α : Type} {xs : List α} {i : Int} {j : Nat} {v : α} (e : i = (j : Int)) (h : xs[j]? = some v) : atI xs i = some v := e ▸ atI_nat h
theorem ix_nat {n j : Nat} {i : Int} (e : i = (j : Int)) (h : j < n) : ixN n i = some j := e ▸ Evl.ixN_nat h
/-! ### rules whose reading names the written part by itself (for the bodies and suites of a try) -/
def rLenK (K : PySem.W.Frag) : List V → Hp → VK → Prop := fun xs H Q => ∃ p ys, xs = [.ref p] ∧ (SqL K H p ys ∨ SqT K H p ys) ∧ Q (.int ys.length) H
theorem call_lenK {X : Cx} {K : PySem.W.Frag} (h : X.K = K := by rfl) : CallR X (.builtin "len") (rLenK K) := by
  subst h
  exact call_len_seq
theorem op_eqDK {X : Cx} {K : PySem.W.Frag} (hu : X.A.units + 64 < cLine) (h : X.K = K := by rfl) : OpR X (compareOp .Eq) (rEqD K) := by
  subst h
  exact op_eqD hu
theorem op_neDK {X : Cx} {K : PySem.W.Frag} (hu : X.A.units + 64 < cLine) (h : X.K = K := by rfl) : OpR X (compareOp .NotEq) (rNeD K) := by
  subst h
  exact op_neD hu
theorem call_isiK' {X : Cx} {K : PySem.W.Frag} (h : X.K = K := by rfl) : CallR X (.builtin "isinstance") (rIsi K) := by
  subst h
  exact call_isi
def rListK (K : PySem.W.Frag) : List V → Hp → VK → Prop := fun xs H Q => ∃ p ys, xs = [.ref p] ∧ (SqL K H p ys ∨ SqT K H p ys) ∧ ∀ l, H l = none → Q (.ref l) (upd H l (.lst ys))
theorem call_list_ofK {X : Cx} {K : PySem.W.Frag} (h : X.K = K := by rfl) : CallR X (.type "list") (rListK K) := by
  subst h
  exact call_list_of
theorem sl_listK {X : Cx} {K : PySem.W.Frag} (h : X.K = K := by rfl) : SlR X (rSlL K) := by
  subst h
  exact sl_list
/-! ### slices -/
theorem sIx_nat {n k : Nat} (d : Nat) (h : k ≤ n) : HT.sIx n d (some (k : Int)) = k := by
  simp only [HT.sIx]
  split <;> omega
theorem cut_to {xs : List V} {k : Nat} (h : k ≤ xs.length) : cutV xs none (some (k : Int)) = xs.take k := by
  unfold cutV
  rw [sIx_nat _ h]
  simp [HT.sIx]
theorem cut_from {xs : List V} {k : Nat} (h : k ≤ xs.length) : cutV xs (some (k : Int)) none = xs.drop k := by
  unfold cutV
  rw [sIx_nat _ h]
  simp only [HT.sIx]
  rw [List.take_of_length_le (by rw [List.length_drop]; omega)]
theorem cut_mid {xs : List V} {j k : Nat} (h1 : j ≤ k) (h : k ≤ xs.length) : cutV xs (some (j : Int)) (some (k : Int)) = (xs.drop j).take (k - j) := by
  unfold cutV
  rw [sIx_nat _ h, sIx_nat _ (Nat.le_trans h1 h)]
/-! ### data -/
mutual
theorem dp_mono {K : PySem.W.Frag} {H H' : Hp} (e : Same H H') : ∀ {d : PyData} {v : V}, Dp K H v d → Dp K H' v d
  | _, _, .non => .non
  | _, _, .bl b => .bl b
  | _, _, .int i => .int i
  | _, _, .str x => .str x
  | _, _, .lst h r => .lst (e.seq h) (dpAll_mono e r)
  | _, _, .tup h r => .tup (Evl.ex_t e h) (dpAll_mono e r)
theorem dpAll_mono {K : PySem.W.Frag} {H H' : Hp} (e : Same H H') : ∀ {ds : List PyData} {vs : List V}, DpAll K H vs ds → DpAll K H' vs ds
  | _, _, .nil => .nil
  | _, _, .cons h r => .cons (dp_mono e h) (dpAll_mono e r)
end
theorem dp_ints {K : PySem.W.Frag} {H : Hp} : ∀ (ns : List Int), DpAll K H (ns.map V.int) (ns.map PyData.int)
  | [] => .nil
  | n :: ns => .cons (.int n) (dp_ints ns)
theorem canLayAll_ints : ∀ (ns : List Int), PyData.canLayAll0 (ns.map PyData.int) = true
  | [] => rfl
  | n :: ns => by simp [PyData.canLayAll0, PyData.canLay0, canLayAll_ints ns]
theorem depthAll_ints : ∀ (ns : List Int), PyData.depthAll (ns.map PyData.int) = 0
  | [] => rfl
  | n :: ns => by simp [PyData.depthAll, PyData.depth, depthAll_ints ns]
theorem shaped_ints (ns : List Int) : SeqAt.shaped (.list (ns.map PyData.int)) = true := by
  simp [SeqAt.shaped, PyData.canLay0, PyData.depth, canLayAll_ints, depthAll_ints]
theorem eqvAll_ints : ∀ (ns ms : List Int), PyData.eqvAll (ns.map PyData.int) (ms.map PyData.int) = decide (ns = ms)
  | [], [] => by simp [PyData.eqvAll]
  | [], m :: ms => by simp [PyData.eqvAll]
  | n :: ns, [] => by simp [PyData.eqvAll]
  | n :: ns, m :: ms => by
    by_cases h : n = m <;> simp [PyData.eqvAll, PyData.eqv, eqvAll_ints ns ms, h]
theorem eqv_ints (ns ms : List Int) : PyData.eqv (.list (ns.map PyData.int)) (.list (ms.map PyData.int)) = decide (ns = ms) := by
  rw [PyData.eqv]
  exact eqvAll_ints ns ms
theorem shaped_pair (as bs : List Int) : SeqAt.shaped (.tuple [.list (as.map PyData.int), .list (bs.map PyData.int)]) = true := by
  simp [SeqAt.shaped, PyData.canLay0, PyData.canLayAll0, PyData.depth, PyData.depthAll, canLayAll_ints, depthAll_ints]
theorem eqv_refl' {d : PyData} (h : SeqAt.shaped d = true) : PyData.eqv d d = true := SeqAt.eqv_refl _ (SeqAt.canLay_of_shaped h)
theorem dp_list {K : PySem.W.Frag} {H : Hp} {a : Addr} {ns : List Int} (h : SqL K H a (ns.map V.int)) : Dp K H (.ref a) (.list (ns.map PyData.int)) := .lst h (dp_ints ns)
theorem get_ints {ns : List Int} {i : Nat} {y : V} (h : (ns.map V.int)[i]? = some y) : ∃ (hi : i < ns.length), y = V.int ns[i] := by
  rw [List.getElem?_map] at h
  by_cases hi : i < ns.length
  · rw [List.getElem?_eq_getElem hi] at h
    exact ⟨hi, (Option.some.inj h).symm⟩
  · rw [List.getElem?_eq_none (Nat.le_of_not_lt hi)] at h
    cases h
theorem take_snoc {α : Type} {l : List α} {i : Nat} (hi : i < l.length) : l.take (i + 1) = l.take i ++ [l[i]] := by
  rw [List.take_add_one, List.getElem?_eq_getElem hi]
  rfl
/-! ### the script's cells -/
def cell (ns : List Int) (k : Nat) : Int := ns.getD k 0
theorem cell_in {ns : List Int} {k : Nat} (hk : k < ns.length) : cell ns k = ns[k] := by simp [cell, List.getD_eq_getElem?_getD, List.getElem?_eq_getElem hk]
theorem cell_out {ns : List Int} {k : Nat} (hk : ¬ k < ns.length) : cell ns k = 0 := by simp [cell, List.getD_eq_getElem?_getD, List.getElem?_eq_none (Nat.le_of_not_lt hk)]
end Cm

namespace My
open PySem PySem.Spec PyProof.Rows L2 Cm 
def top (i : Nat) : Stmt := PySem.Challenge.pw_scanpages_k01_number_octets.main.body.getD i (.Pass ⟨0, 0, 0, 0⟩)
abbrev s_number_octets : Stmt := (top 7)
abbrev N_number_octets : List Str := ["number", "octets", "rest"]
theorem sc_number_octets : FnScope N_number_octets ["number"] (defScope s_number_octets) := ⟨rfl, rfl, rfl, by decide +kernel, rfl, by decide +kernel, by decide +kernel⟩
abbrev s__law_cell : Stmt := (top 9)
abbrev N__law_cell : List Str := ["script", "k"]
theorem sc__law_cell : FnScope N__law_cell ["script", "k"] (defScope s__law_cell) := ⟨rfl, rfl, rfl, by decide +kernel, rfl, by decide +kernel, by decide +kernel⟩
abbrev s__law_is_int : Stmt := (top 10)
abbrev N__law_is_int : List Str := ["value"]
theorem sc__law_is_int : FnScope N__law_is_int ["value"] (defScope s__law_is_int) := ⟨rfl, rfl, rfl, by decide +kernel, rfl, by decide +kernel, by decide +kernel⟩
abbrev s__law_is_list : Stmt := (top 11)
abbrev N__law_is_list : List Str := ["value", "least", "greatest", "item"]
theorem sc__law_is_list : FnScope N__law_is_list ["value", "least", "greatest"] (defScope s__law_is_list) := ⟨rfl, rfl, rfl, by decide +kernel, rfl, by decide +kernel, by decide +kernel⟩
abbrev s__law_number : Stmt := (top 12)
abbrev N__law_number : List Str := ["number", "octets", "rest", "k"]
theorem sc__law_number : FnScope N__law_number ["number"] (defScope s__law_number) := ⟨rfl, rfl, rfl, by decide +kernel, rfl, by decide +kernel, by decide +kernel⟩
abbrev s_law : Stmt := (top 13)
abbrev N_law : List Str := ["script", "kind", "number", "actual", "e", "right", "again"]
theorem sc_law : FnScope N_law ["script"] (defScope s_law) := ⟨rfl, rfl, rfl, by decide +kernel, rfl, by decide +kernel, by decide +kernel⟩
structure Txt (K : PySem.W.Frag) (mg : Str → Option Value) (C_ArchiveError C_InvalidNumber C_EncodingError : Addr) : Prop where
  d_number_octets : Dn K mg "number_octets" s_number_octets ["number"]
  d__law_cell : Dn K mg "_law_cell" s__law_cell ["script", "k"]
  d__law_is_int : Dn K mg "_law_is_int" s__law_is_int ["value"]
  d__law_is_list : Dn K mg "_law_is_list" s__law_is_list ["value", "least", "greatest"]
  d__law_number : Dn K mg "_law_number" s__law_number ["number"]
  d_law : Dn K mg "law" s_law ["script"]
  c_BASE : CV mg "BASE" (.int 128)
  c_GREATEST_NUMBER : CV mg "GREATEST_NUMBER" (.int 34359738367)
  n_len : mg "len" = none
  n_int : mg "int" = none
  n_isinstance : mg "isinstance" = none
  n_bool : mg "bool" = none
  n_list : mg "list" = none
  n_range : mg "range" = none
  n_ValueError : mg "ValueError" = none
  x_ArchiveError : XCl K mg "ArchiveError" C_ArchiveError
  x_InvalidNumber : XCl K mg "InvalidNumber" C_InvalidNumber
  x_EncodingError : XB K mg "EncodingError" C_EncodingError
  s_InvalidNumber_ArchiveError : PySem.W.subIn K (.ref C_InvalidNumber) (.ref C_ArchiveError) = some true
  q_InvalidNumber_InvalidNumber : PySem.W.kitOne K (.ref C_InvalidNumber) (.ref C_InvalidNumber) = some true
  q_InvalidNumber_EncodingError : PySem.W.kitOne K (.ref C_InvalidNumber) (.ref C_EncodingError) = some false
  v_InvalidNumber : PySem.W.kitOne K (.ref C_InvalidNumber) (.type "ValueError") = some true
section
variable {P : Program} {w : World} {K : PySem.W.Frag} {mg : Str → Option Value} {base : Heap} {C_ArchiveError C_InvalidNumber C_EncodingError : Addr}
/-- the cell's promise -/
def spCell (K : PySem.W.Frag) : Sp := fun vs H Q _ => ∃ (l : Addr) (ns : List Int) (k : Nat), vs = [.ref l, .int (k : Int)] ∧ SqL K H l (ns.map V.int) ∧ Q (.int (cell ns k)) H
theorem ok__law_cell (T : Txt K mg C_ArchiveError C_InvalidNumber C_EncodingError) : Ok P w K mg base CX0 1 "_law_cell" ["script", "k"] (spCell K) := by
  refine ok_of T.d__law_cell fun f fd F => F.ok sc__law_cell (fun vs H Q E h => ?_) (fun cdv A outer s H vs Q E hr h => ?_)
  · obtain ⟨l, ns, k, rfl, _⟩ := h
    rfl
  · obtain ⟨l, ns, k, rfl, hs, q⟩ := h
    refine ⟨_,       (pss_cons (ps_if (pt_cmpR op_lt (pv 1) (pe_callB call_len_seq (by rfl) T.n_len PySem.boot_len (pa_cons (pv 0) pa_nil)) (nomark _))
        (pss_one (ps_ret (pe_callTy call_int1 (by rfl) T.n_int (by decide +kernel) (pa_cons (pe_ix ix_list (pv 0) (pv 1) (fun _ _ => rfl)) pa_nil)))) pss_nil)
      (pss_one (ps_ret pe_int))), ?_⟩
    refine ⟨_, rfl, _, rfl, l, _, rfl, .inl hs, _, _, rfl, rfl, _, rfl, itd (fun h => ?_) (fun h => ?_)⟩
    · have hk : k < ns.length := by
        rw [List.length_map] at h
        omega
      refine ⟨_, rfl, _, rfl, l, _, _, .int ns[k], rfl, rfl, hs, atI_nat (by rw [List.getElem?_map, List.getElem?_eq_getElem hk]; rfl), .inl ⟨_, rfl, ?_⟩⟩
      rw [Cm.cell_in hk] at q
      exact q
    · have hk : ¬ k < ns.length := by
        rw [List.length_map] at h
        omega
      rw [Cm.cell_out hk] at q
      exact q

def spIsInt : Sp := fun vs H Q _ => ∃ i : Int, vs = [.int i] ∧ Q (.bl true) H
theorem ok__law_is_int (T : Txt K mg C_ArchiveError C_InvalidNumber C_EncodingError) : Ok P w K mg base CX0 1 "_law_is_int" ["value"] spIsInt := by
  refine ok_of T.d__law_is_int fun f fd F => F.ok sc__law_is_int (fun vs H Q E h => ?_) (fun cdv A outer s H vs Q E hr h => ?_)
  · obtain ⟨i, rfl, _⟩ := h
    rfl
  · obtain ⟨i, rfl, q⟩ := h
    refine ⟨_,       (pss_one (ps_ret (pe_and (pe_callB call_isi (by rfl) T.n_isinstance (by decide +kernel) (pa_cons (pv 0) (pa_cons (pe_bltn (v := .ty "int") (by rfl) T.n_int (by decide +kernel) rfl) pa_nil))) (pe_one (pe_not (pe_callB call_isi (by rfl) T.n_isinstance (by decide +kernel) (pa_cons (pv 0) (pa_cons (pe_bltn (v := .ty "bool") (by rfl) T.n_bool (by decide +kernel) rfl) pa_nil)))))))), ?_⟩
    refine ⟨_, rfl, _, _, _, _, true, rfl, .ty _, .base (.int i), kit_ty (by decide +kernel), true, rfl, iteT ?_⟩
    exact ⟨_, rfl, _, _, _, _, false, rfl, .ty _, .base (.int i), kit_ty (by decide +kernel), false, rfl, q⟩

def allIn (lo hi : Int) (ns : List Int) : Bool := ns.all fun n => decide (lo ≤ n) && decide (n ≤ hi)
def spIsList (K : PySem.W.Frag) : Sp := fun vs H Q _ => ∃ (a : Addr) (ns : List Int) (lo hi : Int), vs = [.ref a, .int lo, .int hi] ∧ SqL K H a (ns.map V.int) ∧ Q (.bl (allIn lo hi ns)) H
theorem ok__law_is_list (T : Txt K mg C_ArchiveError C_InvalidNumber C_EncodingError) : Ok P w K mg base CX0 2 "_law_is_list" ["value", "least", "greatest"] (spIsList K) := by
  have G__law_is_int := ok__law_is_int (P := P) (w := w) (base := base) T
  refine ok_of T.d__law_is_list fun f fd F => F.ok sc__law_is_list (fun vs H Q E h => ?_) (fun cdv A outer s H vs Q E hr h => ?_)
  · obtain ⟨a, ns, lo, hi, rfl, _⟩ := h
    rfl
  · obtain ⟨a, ns, lo, hi, rfl, hs, q⟩ := h
    have nd := sc__law_is_list.nd
    refine ⟨_,       (pss_cons (ps_if (pt_not (pt_val (pe_callB call_isi (by rfl) T.n_isinstance (by decide +kernel) (pa_cons (pv 0) (pa_cons (pe_bltn (v := .ty "list") (by rfl) T.n_list (by decide +kernel) rfl) pa_nil)))))
        (pss_one (ps_ret pe_bl)) pss_nil)
      (pss_cons (ps_for PassesOwn.never rfl (pi_list (pv 0)) (pg_name (i := 3) nd rfl (Or.inl rfl))
        (pss_one (ps_if (PW.pt (pw_or (pt_not (pt_val (pe_callO G__law_is_int (hr.mono (by decide)) pass0 (pa_cons (pv 3) pa_nil)))) (pw_or (pt_cmpR op_lt (pv 3) (pv 1) (nomark _)) (pw_or1 (pt_cmpR op_gt (pv 3) (pv 2) (nomark _))))))
          (pss_one (ps_ret pe_bl)) pss_nil)))
      (pss_one (ps_ret pe_bl)))), ?_⟩
    refine ⟨_, rfl, _, _, _, _, true, rfl, .ty _, tyx_list hs, kit_ty (by decide +kernel), true, rfl, iteF ?_⟩
    refine ⟨_, rfl, a, rfl, ⟨_, hs⟩, for_list (K := K) (a := a) (xs := ns.map V.int) (fun i σ H' => H' = H ∧ allIn lo hi (ns.take i) = true ∧ ∃ v, σ = [some (.ref a), some (.int lo), some (.int hi), v]) ⟨rfl, rfl, none, rfl⟩ (fun i σ H' _ ⟨e, _⟩ => e ▸ hs) ?_ ?_⟩
    · rintro i y σ H' hi' ⟨rfl, ht, v, rfl⟩
      obtain ⟨hin, rfl⟩ := get_ints hi'
      have bad : ¬ (lo ≤ ns[i] ∧ ns[i] ≤ hi) → allIn lo hi ns = false := fun hb => by
        rw [allIn, List.all_eq_false]
        exact ⟨ns[i], List.getElem_mem hin, by simpa using fun h1 => Int.not_le.mp fun h2 => hb ⟨h1, h2⟩⟩
      refine ⟨_, rfl, _, rfl, true, rfl, iteF ?_⟩
      refine ⟨_, rfl, _, rfl, _, _, rfl, rfl, _, rfl, itd (fun h1 => ?_) (fun h1 => ?_)⟩
      · refine iteT ?_
        rw [bad (by omega)] at q
        exact q
      · refine ⟨_, rfl, _, rfl, _, _, rfl, rfl, _, rfl, itd (fun h2 => ?_) (fun h2 => ?_)⟩
        · rw [bad (by omega)] at q
          exact q
        · refine ⟨rfl, ?_, _, rfl⟩
          have e1 : (decide (lo ≤ ns[i]) && decide (ns[i] ≤ hi)) = true := by
            rw [decide_eq_true (show lo ≤ ns[i] by omega), decide_eq_true (show ns[i] ≤ hi by omega)]
            rfl
          unfold allIn at ht ⊢
          rw [take_snoc hin, List.all_append, ht, List.all_cons, e1]
          rfl
    · rintro σ H' ⟨rfl, ht, v, rfl⟩
      rw [List.length_map, List.take_length] at ht
      rw [ht] at q
      exact q

/-- the digits in base 128 -/
def digs : Nat → Int → List Int
  | 0, r => [r]
  | j + 1, r => if r < 128 then [r] else (r % 128 + 128) :: digs j (r / 128)
def bnd : Nat → Int
  | 0 => 128
  | j + 1 => 128 * bnd j

def spNum (C : Addr) : Sp := fun vs H Q E => ∃ n : Int, vs = [.int n] ∧ ((n < 0 ∨ 34359738367 < n) → E (.ref C) none H) ∧
  (0 ≤ n ∧ n ≤ 34359738367 → ∀ p H', H p = none → Same H H' → H' p = some (.lst ((digs 5 n).map V.int)) → Q (.ref p) H')
theorem ok_number_octets (T : Txt K mg C_ArchiveError C_InvalidNumber C_EncodingError) : Ok P w K mg base (CXN P w) 1 "number_octets" ["number"] (spNum C_InvalidNumber) := by
  refine ok_of T.d_number_octets fun f fd F => okN F sc_number_octets (fun vs H Q E h => ?_) (fun cdv A outer s H vs Q E hr h => ?_)
  · obtain ⟨n, rfl, _⟩ := h
    rfl
  · obtain ⟨n, rfl, kE, kQ⟩ := h
    have nd := sc_number_octets.nd
    have po := passes_of (X := cxOf (CXN P w) P w K mg base N_number_octets "number_octets" (defScope s_number_octets) f cdv A outer s H E) rfl
    have ok0 : (34359738367 : Int).natAbs.log2 < 1920 := by decide +kernel
    refine ⟨_,       (pss_cons (ps_if (pt_not (pt_chain op_le op_le pe_int (pv 0) (pe_globC rfl T.c_GREATEST_NUMBER)))
        (pss_one (L2N.ps_raise rfl (L2N.takes_of rfl rfl rfl rfl) (pmk_own1 PySem.F.excBase_ValueError T.x_InvalidNumber.x T.x_InvalidNumber.g T.x_InvalidNumber.k (raises_own T.x_InvalidNumber.b T.x_InvalidNumber.t) rfl (pe_joined (.cons pe_str (.cons (pe_fmt (pe_globC rfl T.c_GREATEST_NUMBER)) PJ.nil)))))) pss_nil)
      (pss_cons (ps_set (i := 1) nd rfl (Or.inl rfl) (pe_lst pa_nil))
      (pss_cons (ps_set (i := 2) nd rfl (Or.inl rfl) (pv 0))
      (pss_cons (ps_while po (pt_cmpR op_ge (pv 2) (pe_globC rfl T.c_BASE) (nomark _))
        (pss_cons (ps_expr (pe_bm PySem.F.plainAttrs_list PySem.F.slot_list_append PySem.F.type_list_append mt_append (pv 1) (pa_cons (pe_op op_add (pe_op op_mod (pv 2) (pe_globC rfl T.c_BASE)) (pe_globC rfl T.c_BASE)) pa_nil)))
        (pss_one (ps_set (i := 2) nd rfl (Or.inl rfl) (pe_op op_fdiv (pv 2) (pe_globC rfl T.c_BASE))))))
      (pss_cons (ps_expr (pe_bm PySem.F.plainAttrs_list PySem.F.slot_list_append PySem.F.type_list_append mt_append (pv 1) (pa_cons (pv 2) pa_nil)))
      (pss_one (ps_ret (pv 1)))))))), ?_⟩
    refine ⟨_, rfl, _, _, rfl, rfl, _, rfl, itd (fun h0 => ?_) (fun h0 => ?_)⟩
    · refine ⟨_, _, rfl, rfl, _, rfl, itb (fun h1 => ?_) (fun h1 => ?_)⟩
      · refine ⟨_, rfl, by decide +kernel, .inr ⟨_, rfl, ok0, _, rfl, by decide +kernel, kE (.inr ?_)⟩⟩
        simp at h1
        exact h1
      · simp at h1
        refine ⟨by decide, fun p hp => ⟨_, rfl, ?_⟩⟩
        refine ⟨fun m σ H' => ∃ (r : Int) (acc : List Int) (j : Nat), m = j ∧ 0 ≤ r ∧ r < bnd j ∧ acc.length + j ≤ 10 ∧ acc ++ digs j r = digs 5 n ∧ σ = [some (.int n), some (.ref p), some (.int r)] ∧ Same H H' ∧ H' p = some (.lst (acc.map V.int)), ⟨5, n, [], 5, rfl, h0, ?_, by decide, rfl, rfl, ?_, upd_same⟩, ?_⟩
        · show n < 128 * (128 * (128 * (128 * (128 * 128))))
          omega
        · exact same_upd hp
        · rintro m σ H' ⟨r, acc, j, rfl, hr0, hrb, hl, hd, rfl, e, hL⟩
          refine ⟨_, rfl, _, _, rfl, rfl, _, rfl, itd (fun hge => ?_) (fun hlt => ?_)⟩
          · obtain ⟨j, rfl⟩ : ∃ i, m = i + 1 := by
              cases m with
              | zero => exact absurd hrb (by show ¬ r < 128; omega)
              | succ i => exact ⟨i, rfl⟩
            have hb : bnd (j + 1) = 128 * bnd j := rfl
            refine ⟨_, fun σ' H' h => ⟨j, Nat.lt_succ_self j, h⟩, ?_⟩
            refine ⟨_, rfl, .inl ⟨rfl, _, SqL.of hL⟩, _, rfl, _, _, rfl, rfl, (by show (0 : Int) < 128; decide), _, _, rfl, rfl, p, _, _, rfl, rfl, hL, small (by rw [List.length_map]; omega), ?_⟩
            refine ⟨_, rfl, _, _, rfl, rfl, ⟨by decide, by decide⟩, ?_⟩
            refine ⟨r / 128, acc ++ [r % 128 + 128], j, rfl, by omega, by omega, by simp; omega, ?_, rfl, same_new e hp, ?_⟩
            · rw [← hd]
              show _ = acc ++ (if r < 128 then [r] else (r % 128 + 128) :: digs j (r / 128))
              rw [if_neg (by omega)]
              simp
            · rw [upd_same]
              simp
          · refine ⟨_, rfl, .inl ⟨rfl, _, SqL.of hL⟩, _, rfl, p, _, _, rfl, rfl, hL, small (by rw [List.length_map]; omega), ?_⟩
            refine ⟨_, rfl, kQ ⟨h0, h1⟩ p _ hp (same_new e hp) ?_⟩
            have hd2 : digs m r = [r] := by
              cases m with
              | zero => rfl
              | succ i => exact if_pos (by omega)
            rw [← hd, hd2, upd_same]
            simp
    · refine ⟨_, rfl, iteT ?_⟩
      refine ⟨_, rfl, by decide +kernel, .inr ⟨_, rfl, ok0, _, rfl, by decide +kernel, kE (.inl ?_)⟩⟩
      omega

def spLawNum : Sp := fun vs H Q _ => ∃ n : Int, vs = [.int n] ∧ 0 ≤ n ∧ n ≤ 34359738367 ∧ ∀ p H', H p = none → Same H H' → H' p = some (.lst ((digs 5 n).map V.int)) → Q (.ref p) H'
theorem ok__law_number (T : Txt K mg C_ArchiveError C_InvalidNumber C_EncodingError) : Ok P w K mg base CX0 1 "_law_number" ["number"] spLawNum := by
  refine ok_of T.d__law_number fun f fd F => F.ok sc__law_number (fun vs H Q E h => ?_) (fun cdv A outer s H vs Q E hr h => ?_)
  · obtain ⟨n, rfl, _⟩ := h
    rfl
  · obtain ⟨n, rfl, h0, h1, kQ⟩ := h
    have nd := sc__law_number.nd
    refine ⟨_,       (pss_cons (ps_set (i := 1) nd rfl (Or.inl rfl) (pe_lst pa_nil))
      (pss_cons (ps_set (i := 2) nd rfl (Or.inl rfl) (pv 0))
      (pss_cons (ps_for PassesOwn.never rfl (pi_range1 rfl T.n_range (pa_cons pe_int pa_nil)) (pg_name (i := 3) nd rfl (Or.inl rfl))
        (pss_cons (ps_if (pt_cmpR op_lt (pv 2) pe_int (nomark _))
          (pss_cons (ps_expr (pe_bm PySem.F.plainAttrs_list PySem.F.slot_list_append PySem.F.type_list_append mt_append (pv 1) (pa_cons (pv 2) pa_nil)))
          (pss_one (ps_ret (pv 1)))) pss_nil)
        (pss_cons (ps_expr (pe_bm PySem.F.plainAttrs_list PySem.F.slot_list_append PySem.F.type_list_append mt_append (pv 1) (pa_cons (pe_op op_add pe_int (pe_op op_mod (pe_callTy call_int1 (by rfl) T.n_int (by decide +kernel) (pa_cons (pv 2) pa_nil)) pe_int)) pa_nil)))
        (pss_one (ps_set (i := 2) nd rfl (Or.inl rfl) (pe_op op_fdiv (pv 2) pe_int))))))
      (pss_one (ps_ret (pv 1)))))), ?_⟩
    refine ⟨Nat.zero_le _, fun p hp => ⟨_, rfl, 6, rfl, by decide, by decide, for_range (lo := 0) (n := 6) (fun i σ H' => ∃ (r : Int) (acc : List Int) (v : Option V), 0 ≤ r ∧ i ≤ 5 ∧ r < bnd (5 - i) ∧ acc.length = i ∧ acc ++ digs (5 - i) r = digs 5 n ∧ σ = [some (.int n), some (.ref p), some (.int r), v] ∧ Same H H' ∧ H' p = some (.lst (acc.map V.int))) ?_ ?_ ?_⟩⟩
    · refine ⟨n, [], none, h0, by decide, ?_, rfl, rfl, rfl, same_upd hp, upd_same⟩
      show n < 128 * (128 * (128 * (128 * (128 * 128))))
      omega
    · rintro i σ H' hi ⟨r, acc, v, hr0, hi5, hrb, hl, hd, rfl, e, hL⟩
      refine ⟨_, rfl, _, _, rfl, rfl, _, rfl, itd (fun hlt => ?_) (fun hge => ?_)⟩
      · refine ⟨_, rfl, .inl ⟨rfl, _, SqL.of hL⟩, _, rfl, p, _, _, rfl, rfl, hL, small (by rw [List.length_map]; omega), ?_⟩
        refine ⟨_, rfl, kQ p _ hp (same_new e hp) ?_⟩
        have hd2 : digs (5 - i) r = [r] := by
          cases 5 - i with
          | zero => rfl
          | succ i => exact if_pos (by omega)
        rw [← hd, hd2, upd_same]
        simp
      · obtain ⟨j, hj⟩ : ∃ j, 5 - i = j + 1 := by
          cases e5 : 5 - i with
          | zero =>
            rw [e5] at hrb
            exact absurd hrb (by show ¬ r < 128; omega)
          | succ j => exact ⟨j, rfl⟩
        have hb : bnd (j + 1) = 128 * bnd j := rfl
        rw [hj] at hrb hd
        refine ⟨_, rfl, .inl ⟨rfl, _, SqL.of hL⟩, _, rfl, .inl ⟨_, rfl, _, _, rfl, rfl, (by show (0 : Int) < 128; decide), _, _, rfl, rfl, p, _, _, rfl, rfl, hL, small (by rw [List.length_map]; omega), ?_⟩⟩
        refine ⟨_, rfl, _, _, rfl, rfl, ⟨by decide, by decide⟩, ?_⟩
        have e4 : 5 - (i + 1) = j := by omega
        refine ⟨r / 128, acc ++ [128 + r % 128], _, by omega, by omega, by rw [e4]; omega, by simp [hl], ?_, rfl, same_new e hp, by rw [upd_same]; simp⟩
        rw [← hd, e4]
        show _ = acc ++ (if r < 128 then [r] else (r % 128 + 128) :: digs j (r / 128))
        rw [if_neg (by omega), Int.add_comm]
        simp
    · rintro σ H' ⟨r, acc, v, hr0, hi5, _⟩
      exact absurd hi5 (by decide)

def spLaw (K : PySem.W.Frag) : Sp := fun vs H Q _ => ∃ (a : Addr) (ns : List Int), vs = [.ref a] ∧ SqL K H a (ns.map V.int) ∧ ns.length ≤ 63 ∧ ∀ H', Q (.bl true) H'
theorem digs_in : ∀ (j : Nat) (r : Int), 0 ≤ r → r < bnd j → allIn 0 255 (digs j r) = true
  | 0, r, h0, h1 => by
    have h1 : r < 128 := h1
    simp [digs, allIn]
    omega
  | j + 1, r, h0, h1 => by
    have hb : bnd (j + 1) = 128 * bnd j := rfl
    show allIn 0 255 (if r < 128 then [r] else (r % 128 + 128) :: digs j (r / 128)) = true
    by_cases h : r < 128
    · rw [if_pos h]
      simp [allIn]
      omega
    · rw [if_neg h]
      have ih := digs_in j (r / 128) (by omega) (by omega)
      unfold allIn at ih ⊢
      rw [List.all_cons, ih]
      simp
      omega
theorem ok_law0 (T : Txt K mg C_ArchiveError C_InvalidNumber C_EncodingError) (f : Addr) (fd : FuncData) (F : Fun K "law" "law" s_law f fd) : FnOk P w K mg base CX0 3 f fd ["script"] (spLaw K) := by
  have G__law_cell := ok__law_cell (P := P) (w := w) (base := base) T
  have G__law_is_list := ok__law_is_list (P := P) (w := w) (base := base) T
  have G_number_octets := ok_number_octets (P := P) (w := w) (base := base) T
  have G__law_number := ok__law_number (P := P) (w := w) (base := base) T
  refine F.ok sc_law (fun vs H Q E h => ?_) (fun cdv A outer s H vs Q E hr h => ?_)
  · obtain ⟨a, ns, rfl, _⟩ := h
    rfl
  · obtain ⟨a, ns, rfl, hS, hlen, kQ⟩ := h
    have nd := sc_law.nd
    have hu64 : (A.deeper (envOfC "law" (defScope s_law) s.heap.objs.size f cdv)).units + 64 < cLine := by
      have := hr.un
      omega
    refine ⟨_,       (pss_cons (ps_set (i := 1) nd rfl (Or.inl rfl) (pe_op op_mod (pe_callO G__law_cell (hr.mono (by decide)) pass0 (pa_cons (pv 0) (pa_cons pe_int pa_nil))) pe_int))
      (pss_cons (ps_set (i := 2) nd rfl (Or.inl rfl) (pe_op op_mod (pe_callO G__law_cell (hr.mono (by decide)) pass0 (pa_cons (pv 0) (pa_cons pe_int pa_nil))) pe_int))
      (Evl.pss_cut (ps_if (pt_cmpR op_eq (pv 1) pe_int (nomark _))
        (pss_one (ps_set (i := 2) nd rfl (Or.inl rfl) (pe_op op_sub (pe_un un_neg pe_int) (pe_op op_mod (pe_callO G__law_cell (hr.mono (by decide)) pass0 (pa_cons (pv 0) (pa_cons pe_int pa_nil))) pe_int)))) pss_nil)
      (Evl.pss_cut (ps_if (pt_cmpR op_eq (pv 1) pe_int (nomark _))
        (pss_one (ps_set (i := 2) nd rfl (Or.inl rfl) (pe_op op_add pe_int (pe_op op_mod (pe_callO G__law_cell (hr.mono (by decide)) pass0 (pa_cons (pv 0) (pa_cons pe_int pa_nil))) pe_int)))) pss_nil)
      (Evl.pss_cut (ps_if (pt_cmpR op_eq (pv 1) pe_int (nomark _))
        (pss_one (ps_set (i := 2) nd rfl (Or.inl rfl) (pe_op op_add (pe_op op_sub (pe_op op_shl pe_int (pe_op op_mul pe_int (pe_op op_mod (pe_callO G__law_cell (hr.mono (by decide)) pass0 (pa_cons (pv 0) (pa_cons pe_int pa_nil))) pe_int))) pe_int) (pe_op op_mod (pe_callO G__law_cell (hr.mono (by decide)) pass0 (pa_cons (pv 0) (pa_cons pe_int pa_nil))) pe_int)))) pss_nil)
      (Evl.pss_cut (ps_if (pt_cmpR op_eq (pv 1) pe_int (nomark _))
        (pss_one (ps_set (i := 2) nd rfl (Or.inl rfl) (pe_op op_mod (pe_callO G__law_cell (hr.mono (by decide)) pass0 (pa_cons (pv 0) (pa_cons pe_int pa_nil))) pe_int))) pss_nil)
      (pss_cons (L2N.ps_try_as (i := 4) (Wout := fun _ _ _ _ => False) rfl rfl nd rfl rfl ⟨rfl, by decide, Or.inl T.x_ArchiveError.g⟩ takesN
        (fun W pn xe tk po => 
          (pss_one (ps_set (i := 3) nd rfl (Or.inl rfl) (pe_callT G_number_octets (hr.mono (by decide)) (fun σ => L2N.passAt tk σ) (pa_cons (pv 2) pa_nil)))))
        (fun a oe cls d pn hz hf => pss_guard (p := cls = .ref C_InvalidNumber ∧ d = none) (fun ee => by obtain ⟨e1, e2⟩ := ee; subst e1 e2; exact 
          (pss_cons (ps_set (i := 5) nd rfl (Or.inl rfl) (pe_and (pe_callB (call_isE T.x_InvalidNumber.e hz.zc hf) (by rfl) T.n_isinstance (by decide +kernel) (pa_cons (pv 4) (pa_cons (pe_globR rfl T.x_InvalidNumber.g) pa_nil))) (pe_and (pe_callB (call_isE T.x_InvalidNumber.e hz.zc hf) (by rfl) T.n_isinstance (by decide +kernel) (pa_cons (pv 4) (pa_cons (pe_bltn (v := .ty "ValueError") (by rfl) T.n_ValueError (by decide +kernel) rfl) pa_nil))) (pe_one (pe_not (pe_callB (call_isE T.x_InvalidNumber.e hz.zc hf) (by rfl) T.n_isinstance (by decide +kernel) (pa_cons (pv 4) (pa_cons (pe_globR rfl T.x_EncodingError.g) pa_nil))))))))
          (pss_one (ps_ret (pe_and (pv 5) (pe_one (pe_or (pe_cmpR op_lt (pv 2) pe_int (nomark _)) (pe_one (pe_cmpR op_gt (pv 2) pe_int (nomark _))))))))))))
      (pss_cons (ps_if (PW.pt (pw_or (pt_cmpR op_lt (pv 2) pe_int (nomark _)) (pw_or1 (pt_cmpR op_gt (pv 2) pe_int (nomark _)))))
        (pss_one (ps_ret pe_bl)) pss_nil)
      (pss_cons (ps_set (i := 6) nd rfl (Or.inl rfl) (pe_callO G_number_octets (hr.mono (by decide)) passN (pa_cons (pv 2) pa_nil)))
      (pss_one (ps_ret (pe_and (pe_callO G__law_is_list (hr.mono (by decide)) pass0 (pa_cons (pv 3) (pa_cons pe_int (pa_cons pe_int pa_nil)))) (pe_and (pe_cmpR (op_eqD hu64) (pv 3) (pe_callO G__law_number (hr.mono (by decide)) pass0 (pa_cons (pv 2) pa_nil)) (nomark _)) (pe_one (pe_cmpR (op_eqD hu64) (pv 6) (pv 3) (nomark _)))))))))))))))), ?_⟩
    refine ⟨_, rfl, _, ns, 0, rfl, hS, _, _, rfl, rfl, (by show (0 : Int) < 6; decide), ?_⟩
    refine ⟨_, rfl, _, ns, 1, rfl, hS, _, _, rfl, rfl, (by show (0 : Int) < 34359738368; decide), ?_⟩
    refine ⟨fun σ' H' => H = H' ∧ ∃ kind n : Int, σ' = [some (.ref a), some (.int kind), some (.int n), none, none, none, none], ?_, ?_⟩
    · refine ⟨_, rfl, rfl, _, rfl, itd (fun h => ?_) (fun h => ⟨rfl, _, _, rfl⟩)⟩
      exact ⟨_, rfl, _, rfl, _, ns, 1, rfl, hS, _, _, rfl, rfl, (by show (0 : Int) < 1000; decide), _, _, rfl, rfl, rfl, _, _, rfl⟩
    rintro σ1 H1 ⟨rfl, kind, n1, rfl⟩
    refine ⟨fun σ' H' => H = H' ∧ ∃ kind n : Int, σ' = [some (.ref a), some (.int kind), some (.int n), none, none, none, none], ?_, ?_⟩
    · refine ⟨_, rfl, rfl, _, rfl, itd (fun h => ?_) (fun h => ⟨rfl, _, _, rfl⟩)⟩
      exact ⟨_, rfl, _, ns, 1, rfl, hS, _, _, rfl, rfl, (by show (0 : Int) < 1000000; decide), _, _, rfl, rfl, rfl, _, _, rfl⟩
    rintro σ1 H1 ⟨rfl, kind, n2, rfl⟩
    refine ⟨fun σ' H' => H = H' ∧ ∃ kind n : Int, σ' = [some (.ref a), some (.int kind), some (.int n), none, none, none, none], ?_, ?_⟩
    · refine ⟨_, rfl, rfl, _, rfl, itd (fun h => ?_) (fun h => ⟨rfl, _, _, rfl⟩)⟩
      refine ⟨_, rfl, _, ns, 1, rfl, hS, _, _, rfl, rfl, (by show (0 : Int) < 5; decide), _, _, rfl, rfl, .inl (by decide), _, _, rfl, rfl, ⟨by omega, by omega, by decide⟩, _, _, rfl, rfl, ?_⟩
      exact ⟨_, rfl, _, ns, 2, rfl, hS, _, _, rfl, rfl, (by show (0 : Int) < 3; decide), _, _, rfl, rfl, rfl, _, _, rfl⟩
    rintro σ1 H1 ⟨rfl, kind, n3, rfl⟩
    refine ⟨fun σ' H' => H = H' ∧ ∃ kind n : Int, σ' = [some (.ref a), some (.int kind), some (.int n), none, none, none, none], ?_, ?_⟩
    · refine ⟨_, rfl, rfl, _, rfl, itd (fun h => ?_) (fun h => ⟨rfl, _, _, rfl⟩)⟩
      exact ⟨_, rfl, _, ns, 1, rfl, hS, _, _, rfl, rfl, (by show (0 : Int) < 300; decide), rfl, _, _, rfl⟩
    rintro σ1 H1 ⟨rfl, kind, n, rfl⟩
    -- try: actual = number_octets(number)
    refine ⟨_, rfl, n, rfl, fun hb => ?_, fun hg p H2 hp e2 hL2 => ?_⟩
    · refine ⟨true, exm_own T.x_ArchiveError.toXB T.s_InvalidNumber_ArchiveError, fun _ ea hea => ⟨⟨rfl, rfl⟩, ?_⟩, fun q => nomatch q⟩
      refine ⟨_, rfl, _, _, true, rfl, fun _ h => h, T.q_InvalidNumber_InvalidNumber, true, rfl, iteT ?_⟩
      refine ⟨_, rfl, _, _, true, rfl, fun _ h => h, T.v_InvalidNumber, true, rfl, iteT ?_⟩
      refine ⟨_, rfl, _, _, false, rfl, fun _ h => h, T.q_InvalidNumber_EncodingError, _, rfl, ?_⟩
      refine ⟨_, rfl, true, rfl, iteT ⟨_, rfl, _, _, rfl, rfl, _, rfl, itd (fun h1 => kQ _) (fun h1 => ?_)⟩⟩
      refine ⟨_, rfl, _, _, rfl, rfl, ?_⟩
      exact to_true (Q := Q) (decide_eq_true (by omega)) (kQ _)
    · obtain ⟨hg0, hg1⟩ := hg
      refine ⟨_, rfl, _, _, rfl, rfl, _, rfl, itd (fun h1 => absurd h1 (by omega)) (fun _ => ?_)⟩
      refine ⟨_, rfl, _, _, rfl, rfl, _, rfl, itd (fun h1 => absurd h1 (by omega)) (fun _ => ?_)⟩
      -- again = number_octets(number)
      refine ⟨_, rfl, n, rfl, fun hb => absurd hb (by omega), fun _ q H3 hq e3 hL3 => ?_⟩
      have hL3' := SqL.of (K := K) (e3 _ _ hL2)
      refine ⟨_, rfl, p, digs 5 n, 0, 255, rfl, hL3', _, rfl, ?_⟩
      rw [digs_in 5 n hg0 (by show n < 128 * (128 * (128 * (128 * (128 * 128)))); omega)]
      refine iteT ⟨_, rfl, _, rfl, n, rfl, hg0, hg1, fun r H4 hr4 e4 hL4 => ?_⟩
      have hd : PyData.eqv (.list ((digs 5 n).map PyData.int)) (.list ((digs 5 n).map PyData.int)) = true := by rw [eqv_ints]; simp
      refine ⟨_, _, dp_mono e4 (dp_list hL3'), dp_list (SqL.of hL4), shaped_ints _, shaped_ints _, _, rfl, ?_⟩
      rw [hd]
      refine iteT ⟨_, rfl, _, rfl, _, _, dp_list (SqL.of (e4 _ _ hL3)), dp_mono e4 (dp_list hL3'), shaped_ints _, shaped_ints _, ?_⟩
      rw [hd]
      exact kQ _

end
theorem law_mk {P : Program} {w : World} {K : PySem.W.Frag} {mg : Str → Option Value} {C_ArchiveError C_InvalidNumber C_EncodingError : Addr} {C_fa : Addr} (T : Txt K mg C_ArchiveError C_InvalidNumber C_EncodingError) (hfa : mg "law" = some (.ref C_fa)) : ∃ fd : FuncData, (∀ (s : Shared) (v : Value), BindsTo s fd ⟨[v], []⟩ [("script", v)]) ∧ ∀ base : Heap, K.In base → base.Ns mainGlobals mg → FnOk P w K mg base CX0 3 C_fa fd ["script"] (spLaw K) := by
  obtain ⟨f, fd, F, g, b⟩ := id T.d_law
  have e := hfa.symm.trans g
  cases e
  refine ⟨fd, fun s v => ?_, fun base _ _ => ?_⟩
  · obtain ⟨oc, od, kV, doc, pm, an, cdv, ct, osl, rfl, lk, hcd⟩ := F.ex
    exact .of_eq rfl
  · exact ok_law0 T _ fd F
theorem law_end {P : Program} {w : World} {K : PySem.W.Frag} {h : Heap} {mg : Str → Option Value} {fa : Addr} {C_ArchiveError C_InvalidNumber C_EncodingError : Addr} {f_number_octets : Addr} {oc_number_octets kV_number_octets dc_number_octets pm_number_octets cd_number_octets ct_number_octets : Value} {od_number_octets an_number_octets : Option Addr} {sl_number_octets : Array (Option Value)} {f__law_cell : Addr} {oc__law_cell kV__law_cell dc__law_cell pm__law_cell cd__law_cell ct__law_cell : Value} {od__law_cell an__law_cell : Option Addr} {sl__law_cell : Array (Option Value)} {f__law_is_int : Addr} {oc__law_is_int kV__law_is_int dc__law_is_int pm__law_is_int cd__law_is_int ct__law_is_int : Value} {od__law_is_int an__law_is_int : Option Addr} {sl__law_is_int : Array (Option Value)} {f__law_is_list : Addr} {oc__law_is_list kV__law_is_list dc__law_is_list pm__law_is_list cd__law_is_list ct__law_is_list : Value} {od__law_is_list an__law_is_list : Option Addr} {sl__law_is_list : Array (Option Value)} {f__law_number : Addr} {oc__law_number kV__law_number dc__law_number pm__law_number cd__law_number ct__law_number : Value} {od__law_number an__law_number : Option Addr} {sl__law_number : Array (Option Value)} {f_law : Addr} {oc_law kV_law dc_law pm_law cd_law ct_law : Value} {od_law an_law : Option Addr} {sl_law : Array (Option Value)} {t_BASE : Tok} {t_GREATEST_NUMBER : Tok} (X : K.In h) (G : h.Ns mainGlobals mg) (hfa : mg "law" = some (.ref fa))
    (a_number_octets : PySem.W.nsIn K mainGlobals "number_octets" = some (some (.ref f_number_octets)))
    (l_number_octets : K.lookup f_number_octets = some ⟨oc_number_octets, od_number_octets, .func (PySem.W.fnOf "number_octets" "number_octets" (defArgs s_number_octets) (defBody s_number_octets) (defScope s_number_octets) .none kV_number_octets dc_number_octets pm_number_octets an_number_octets cd_number_octets ct_number_octets), sl_number_octets⟩)
    (c_number_octets : PySem.W.codeIn K cd_number_octets "number_octets" = true)
    (k_number_octets : PySem.W.keepIn K (.ref f_number_octets) = true)
    (a__law_cell : PySem.W.nsIn K mainGlobals "_law_cell" = some (some (.ref f__law_cell)))
    (l__law_cell : K.lookup f__law_cell = some ⟨oc__law_cell, od__law_cell, .func (PySem.W.fnOf "_law_cell" "_law_cell" (defArgs s__law_cell) (defBody s__law_cell) (defScope s__law_cell) .none kV__law_cell dc__law_cell pm__law_cell an__law_cell cd__law_cell ct__law_cell), sl__law_cell⟩)
    (c__law_cell : PySem.W.codeIn K cd__law_cell "_law_cell" = true)
    (k__law_cell : PySem.W.keepIn K (.ref f__law_cell) = true)
    (a__law_is_int : PySem.W.nsIn K mainGlobals "_law_is_int" = some (some (.ref f__law_is_int)))
    (l__law_is_int : K.lookup f__law_is_int = some ⟨oc__law_is_int, od__law_is_int, .func (PySem.W.fnOf "_law_is_int" "_law_is_int" (defArgs s__law_is_int) (defBody s__law_is_int) (defScope s__law_is_int) .none kV__law_is_int dc__law_is_int pm__law_is_int an__law_is_int cd__law_is_int ct__law_is_int), sl__law_is_int⟩)
    (c__law_is_int : PySem.W.codeIn K cd__law_is_int "_law_is_int" = true)
    (k__law_is_int : PySem.W.keepIn K (.ref f__law_is_int) = true)
    (a__law_is_list : PySem.W.nsIn K mainGlobals "_law_is_list" = some (some (.ref f__law_is_list)))
    (l__law_is_list : K.lookup f__law_is_list = some ⟨oc__law_is_list, od__law_is_list, .func (PySem.W.fnOf "_law_is_list" "_law_is_list" (defArgs s__law_is_list) (defBody s__law_is_list) (defScope s__law_is_list) .none kV__law_is_list dc__law_is_list pm__law_is_list an__law_is_list cd__law_is_list ct__law_is_list), sl__law_is_list⟩)
    (c__law_is_list : PySem.W.codeIn K cd__law_is_list "_law_is_list" = true)
    (k__law_is_list : PySem.W.keepIn K (.ref f__law_is_list) = true)
    (a__law_number : PySem.W.nsIn K mainGlobals "_law_number" = some (some (.ref f__law_number)))
    (l__law_number : K.lookup f__law_number = some ⟨oc__law_number, od__law_number, .func (PySem.W.fnOf "_law_number" "_law_number" (defArgs s__law_number) (defBody s__law_number) (defScope s__law_number) .none kV__law_number dc__law_number pm__law_number an__law_number cd__law_number ct__law_number), sl__law_number⟩)
    (c__law_number : PySem.W.codeIn K cd__law_number "_law_number" = true)
    (k__law_number : PySem.W.keepIn K (.ref f__law_number) = true)
    (a_law : PySem.W.nsIn K mainGlobals "law" = some (some (.ref f_law)))
    (l_law : K.lookup f_law = some ⟨oc_law, od_law, .func (PySem.W.fnOf "law" "law" (defArgs s_law) (defBody s_law) (defScope s_law) .none kV_law dc_law pm_law an_law cd_law ct_law), sl_law⟩)
    (c_law : PySem.W.codeIn K cd_law "law" = true)
    (k_law : PySem.W.keepIn K (.ref f_law) = true)
    (a_BASE : PySem.W.nsIn K mainGlobals "BASE" = some (some (.int 128 t_BASE)))
    (a_GREATEST_NUMBER : PySem.W.nsIn K mainGlobals "GREATEST_NUMBER" = some (some (.int 34359738367 t_GREATEST_NUMBER)))
    (z_len : PySem.W.nsIn K mainGlobals "len" = some none)
    (z_int : PySem.W.nsIn K mainGlobals "int" = some none)
    (z_isinstance : PySem.W.nsIn K mainGlobals "isinstance" = some none)
    (z_bool : PySem.W.nsIn K mainGlobals "bool" = some none)
    (z_list : PySem.W.nsIn K mainGlobals "list" = some none)
    (z_range : PySem.W.nsIn K mainGlobals "range" = some none)
    (z_ValueError : PySem.W.nsIn K mainGlobals "ValueError" = some none)
    (a_ArchiveError : PySem.W.nsIn K mainGlobals "ArchiveError" = some (some (.ref C_ArchiveError)))
    (x_ArchiveError : PySem.W.excIn K C_ArchiveError [.type "ValueError", .type "Exception", .type "BaseException", .type "object"] "ValueError.__new__" = true)
    (k_ArchiveError : PySem.W.keepIn K (.ref C_ArchiveError) = true)
    (b_ArchiveError : PySem.W.subIn K (.ref C_ArchiveError) (.type "BaseException") = some true)
    (t_ArchiveError : PySem.W.typeIn K (.ref C_ArchiveError) = some (.type "type"))
    (g_ArchiveError : PySem.W.findIn K (.ref C_ArchiveError) "__getattribute__" = some (some (.builtin "BaseException.__getattribute__")))
    (h_ArchiveError : PySem.W.findIn K (.ref C_ArchiveError) "__getattr__" = some none)
    (d_ArchiveError : PySem.W.hasDictIn K C_ArchiveError = true)
    (o_ArchiveError : PySem.W.findIn K (.ref C_ArchiveError) "__class__" = some (some (.builtin "object.__class__")))
    (n_ArchiveError : PySem.W.specialIn K (.builtin "object.__class__") "__get__" = some (some (.builtin "getset_descriptor.__get__")))
    (m_ArchiveError : PySem.W.takesIn K (.builtin "object.__class__") = some true)
    (r_ArchiveError : PySem.W.mroIn K C_ArchiveError (.type "object") = some true)
    (i_ArchiveError : PySem.W.isClsIn K C_ArchiveError = true)
    (a_InvalidNumber : PySem.W.nsIn K mainGlobals "InvalidNumber" = some (some (.ref C_InvalidNumber)))
    (x_InvalidNumber : PySem.W.excIn K C_InvalidNumber [.type "ValueError", .type "Exception", .type "BaseException", .type "object"] "ValueError.__new__" = true)
    (k_InvalidNumber : PySem.W.keepIn K (.ref C_InvalidNumber) = true)
    (b_InvalidNumber : PySem.W.subIn K (.ref C_InvalidNumber) (.type "BaseException") = some true)
    (t_InvalidNumber : PySem.W.typeIn K (.ref C_InvalidNumber) = some (.type "type"))
    (g_InvalidNumber : PySem.W.findIn K (.ref C_InvalidNumber) "__getattribute__" = some (some (.builtin "BaseException.__getattribute__")))
    (h_InvalidNumber : PySem.W.findIn K (.ref C_InvalidNumber) "__getattr__" = some none)
    (d_InvalidNumber : PySem.W.hasDictIn K C_InvalidNumber = true)
    (o_InvalidNumber : PySem.W.findIn K (.ref C_InvalidNumber) "__class__" = some (some (.builtin "object.__class__")))
    (n_InvalidNumber : PySem.W.specialIn K (.builtin "object.__class__") "__get__" = some (some (.builtin "getset_descriptor.__get__")))
    (m_InvalidNumber : PySem.W.takesIn K (.builtin "object.__class__") = some true)
    (r_InvalidNumber : PySem.W.mroIn K C_InvalidNumber (.type "object") = some true)
    (i_InvalidNumber : PySem.W.isClsIn K C_InvalidNumber = true)
    (a_EncodingError : PySem.W.nsIn K mainGlobals "EncodingError" = some (some (.ref C_EncodingError)))
    (k_EncodingError : PySem.W.keepIn K (.ref C_EncodingError) = true)
    (b_EncodingError : PySem.W.subIn K (.ref C_EncodingError) (.type "BaseException") = some true)
    (t_EncodingError : PySem.W.typeIn K (.ref C_EncodingError) = some (.type "type"))
    (d_EncodingError : PySem.W.hasDictIn K C_EncodingError = true)
    (i_EncodingError : PySem.W.isClsIn K C_EncodingError = true)
    (hs_InvalidNumber_ArchiveError : PySem.W.subIn K (.ref C_InvalidNumber) (.ref C_ArchiveError) = some true)
    (hq_InvalidNumber_InvalidNumber : PySem.W.subIn K (.ref C_InvalidNumber) (.ref C_InvalidNumber) = some true)
    (hq_InvalidNumber_EncodingError : PySem.W.subIn K (.ref C_InvalidNumber) (.ref C_EncodingError) = some false)
    (he_InvalidNumber_EncodingError : (Value.ref C_InvalidNumber == Value.ref C_EncodingError) = false)
    (hv_InvalidNumber : PySem.W.subIn K (.ref C_InvalidNumber) (.type "ValueError") = some true)
    : ∃ fd : FuncData, (∀ (s : Shared) (v : Value), BindsTo s fd ⟨[v], []⟩ [("script", v)]) ∧ ∀ base : Heap, K.In base → base.Ns mainGlobals mg → FnOk P w K mg base CX0 3 fa fd ["script"] (spLaw K) :=
  law_mk (T := ⟨dn_mk X G a_number_octets l_number_octets c_number_octets k_number_octets (fun _ _ _ _ _ _ us hl => match us, hl with | [_], _ => rfl),
    dn_mk X G a__law_cell l__law_cell c__law_cell k__law_cell (fun _ _ _ _ _ _ us hl => match us, hl with | [_, _], _ => rfl),
    dn_mk X G a__law_is_int l__law_is_int c__law_is_int k__law_is_int (fun _ _ _ _ _ _ us hl => match us, hl with | [_], _ => rfl),
    dn_mk X G a__law_is_list l__law_is_list c__law_is_list k__law_is_list (fun _ _ _ _ _ _ us hl => match us, hl with | [_, _, _], _ => rfl),
    dn_mk X G a__law_number l__law_number c__law_number k__law_number (fun _ _ _ _ _ _ us hl => match us, hl with | [_], _ => rfl),
    dn_mk X G a_law l_law c_law k_law (fun _ _ _ _ _ _ us hl => match us, hl with | [_], _ => rfl),
    cv_int X G a_BASE,
    cv_int X G a_GREATEST_NUMBER,
    PySem.W.mg_none_of X G z_len,
    PySem.W.mg_none_of X G z_int,
    PySem.W.mg_none_of X G z_isinstance,
    PySem.W.mg_none_of X G z_bool,
    PySem.W.mg_none_of X G z_list,
    PySem.W.mg_none_of X G z_range,
    PySem.W.mg_none_of X G z_ValueError,
    xcl_mk X G a_ArchiveError x_ArchiveError k_ArchiveError b_ArchiveError t_ArchiveError g_ArchiveError h_ArchiveError d_ArchiveError o_ArchiveError n_ArchiveError m_ArchiveError r_ArchiveError i_ArchiveError,
    xcl_mk X G a_InvalidNumber x_InvalidNumber k_InvalidNumber b_InvalidNumber t_InvalidNumber g_InvalidNumber h_InvalidNumber d_InvalidNumber o_InvalidNumber n_InvalidNumber m_InvalidNumber r_InvalidNumber i_InvalidNumber,
    xb_mk X G a_EncodingError k_EncodingError b_EncodingError t_EncodingError d_EncodingError i_EncodingError,
    hs_InvalidNumber_ArchiveError,
    kit_own i_InvalidNumber t_InvalidNumber hq_InvalidNumber_InvalidNumber (fun _ => rfl),
    kit_own i_EncodingError t_EncodingError hq_InvalidNumber_EncodingError (fun z => absurd (he_InvalidNumber_EncodingError.symm.trans z) (by decide)),
    kit_ve hv_InvalidNumber⟩) hfa
theorem walk {l : PySem.W.OpenLaw} {q : Program} {loose : List Str} {XP : (Str → Option Value) → Heap → Prop} {YP : World → Heap → Prop} {d : DefRec} {K : Params → PySem.W.Frag} (hn : l.most = some 63) (hdf : d.params.defaults = [])
    (hY : ∀ (w : World) (h : Heap), YP w h → (K w.params).In h)
    (F : ∀ (w : World) (mg : Str → Option Value) (fa : Addr) (h : Heap), (K w.params).In h → h.Ns mainGlobals mg → mg d.name = some (.ref fa) →
      ∃ fd : FuncData, (∀ (s : Shared) (u : Value), BindsTo s fd ⟨[u], []⟩ [("script", u)]) ∧ ∀ base : Heap, (K w.params).In base → base.Ns mainGlobals mg → FnOk l.prog w (K w.params) mg base CX0 3 fa fd ["script"] (spLaw (K w.params))) :
    PySem.W.WalkO q loose XP YP l.row.toRowW d [] (fun f vs => PySem.call f vs) :=
  L2.walk_of (n := 63) (k := 3) (x := "script") (CX := fun _ => CX0) (sp := fun w => spLaw (K w.params)) hn (by decide) hdf ⟨rfl, by decide, by decide⟩ hY F (fun _ _ a ns hl _ hS => ⟨a, ns, rfl, hS, hl, fun _ => rfl⟩) fun _ _ _ _ _ z => z
end My
open PySem PySem.W PyProof.Rows in
set_option maxRecDepth 100000 in
set_option maxHeartbeats 0 in
theorem PySem.Challenge.cw_scanpages_k01_number_octets_holds : PySem.Challenge.rw_scanpages_k01_number_octets.Holds := by
  w_on; o_law; k_head; (case hw => w_witness2)
  k_fill
  refine My.walk (l := PySem.Challenge.rw_scanpages_k01_number_octets) rfl rfl (fun w h Y => PySem.W.kIn_of Y) ?F
  case F =>
    intro w mg fa h KX G hmg
    refine' My.law_end KX G hmg ?a_number_octets ?l_number_octets ?c_number_octets ?k_number_octets ?a__law_cell ?l__law_cell ?c__law_cell ?k__law_cell ?a__law_is_int ?l__law_is_int ?c__law_is_int ?k__law_is_int ?a__law_is_list ?l__law_is_list ?c__law_is_list ?k__law_is_list ?a__law_number ?l__law_number ?c__law_number ?k__law_number ?a_law ?l_law ?c_law ?k_law ?a_BASE ?a_GREATEST_NUMBER ?z_len ?z_int ?z_isinstance ?z_bool ?z_list ?z_range ?z_ValueError ?a_ArchiveError ?x_ArchiveError ?k_ArchiveError ?b_ArchiveError ?t_ArchiveError ?g_ArchiveError ?h_ArchiveError ?d_ArchiveError ?o_ArchiveError ?n_ArchiveError ?m_ArchiveError ?r_ArchiveError ?i_ArchiveError ?a_InvalidNumber ?x_InvalidNumber ?k_InvalidNumber ?b_InvalidNumber ?t_InvalidNumber ?g_InvalidNumber ?h_InvalidNumber ?d_InvalidNumber ?o_InvalidNumber ?n_InvalidNumber ?m_InvalidNumber ?r_InvalidNumber ?i_InvalidNumber ?a_EncodingError ?k_EncodingError ?b_EncodingError ?t_EncodingError ?d_EncodingError ?i_EncodingError ?hs_InvalidNumber_ArchiveError ?hq_InvalidNumber_InvalidNumber ?hq_InvalidNumber_EncodingError ?he_InvalidNumber_EncodingError ?hv_InvalidNumber
    (case a_number_octets => k_is)
    (case l_number_octets => k_is)
    (case c_number_octets => k_is)
    (case k_number_octets => k_is)
    (case a__law_cell => k_is)
    (case l__law_cell => k_is)
    (case c__law_cell => k_is)
    (case k__law_cell => k_is)
    (case a__law_is_int => k_is)
    (case l__law_is_int => k_is)
    (case c__law_is_int => k_is)
    (case k__law_is_int => k_is)
    (case a__law_is_list => k_is)
    (case l__law_is_list => k_is)
    (case c__law_is_list => k_is)
    (case k__law_is_list => k_is)
    (case a__law_number => k_is)
    (case l__law_number => k_is)
    (case c__law_number => k_is)
    (case k__law_number => k_is)
    (case a_law => k_is)
    (case l_law => k_is)
    (case c_law => k_is)
    (case k_law => k_is)
    (case a_BASE => k_is)
    (case a_GREATEST_NUMBER => k_is)
    (case z_len => k_is)
    (case z_int => k_is)
    (case z_isinstance => k_is)
    (case z_bool => k_is)
    (case z_list => k_is)
    (case z_range => k_is)
    (case z_ValueError => k_is)
    (case a_ArchiveError => k_is)
    (case x_ArchiveError => k_exc)
    (case k_ArchiveError => k_is)
    (case b_ArchiveError => k_is)
    (case t_ArchiveError => k_is)
    (case g_ArchiveError => k_is)
    (case h_ArchiveError => k_is)
    (case d_ArchiveError => k_is)
    (case o_ArchiveError => k_is)
    (case n_ArchiveError => k_is)
    (case m_ArchiveError => k_is)
    (case r_ArchiveError => k_is)
    (case i_ArchiveError => k_is)
    (case a_InvalidNumber => k_is)
    (case x_InvalidNumber => k_exc)
    (case k_InvalidNumber => k_is)
    (case b_InvalidNumber => k_is)
    (case t_InvalidNumber => k_is)
    (case g_InvalidNumber => k_is)
    (case h_InvalidNumber => k_is)
    (case d_InvalidNumber => k_is)
    (case o_InvalidNumber => k_is)
    (case n_InvalidNumber => k_is)
    (case m_InvalidNumber => k_is)
    (case r_InvalidNumber => k_is)
    (case i_InvalidNumber => k_is)
    (case a_EncodingError => k_is)
    (case k_EncodingError => k_is)
    (case b_EncodingError => k_is)
    (case t_EncodingError => k_is)
    (case d_EncodingError => k_is)
    (case i_EncodingError => k_is)
    (case hs_InvalidNumber_ArchiveError => first | k_is | rfl)
    (case hq_InvalidNumber_InvalidNumber => first | k_is | rfl)
    (case hq_InvalidNumber_EncodingError => first | k_is | rfl)
    (case he_InvalidNumber_EncodingError => first | rfl | decide)
    (case hv_InvalidNumber => k_is)
#print axioms PySem.Challenge.cw_scanpages_k01_number_octets_holds
