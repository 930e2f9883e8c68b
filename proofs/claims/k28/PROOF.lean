import PyProof.Rows.All
import Wide.All
import OpenK.AllK
import Wide.FinOn
import PyProof.EqAt
import PyProof.EqKinds
import PyProof.TupleCall
import HandS.ForMost
import HandS.ForExc
import HandS.RaiseMore
import HandS.FStr
import HandS.IsInst
import HandS.ExcIs
import HandS.Wide
import HandS.Flow
import HandS.Conv
import HandS.Evl
import HandS.TupAny
import HandS.Style
import HandS.ExcCtx
import HandS.HotCalls
import HandS.AnyAll
import HandS.GenOver
import HandS.JoinGen
import HandS.Lambda
import HandS.EndOwn
import HandS.EndTab
import HandS.Walk
import HandS.Strs
import HandS.Zip
import HandS.ListItems
import HandS.Star
import PySem.Challenge.RW_scanpages_k28_linear_systems
set_option Elab.async false
set_option linter.all false
set_option maxRecDepth 100000
set_option maxHeartbeats 4000000
/-! Cm: what all our proofs share -/
namespace Cm
open PySem PySem.Spec PyProof.Rows L2

/-! ### defs of the module, and what they promise -/
/-- the def x stands at some address behind the top -/
def Dn (K : PySem.W.Frag) (mg : Str → Option Value) (x : Str) (st : Stmt) (ps : List Str) : Prop :=
  ∃ (f : Addr) (fd : FuncData), Fun K x x st f fd ∧ mg x = some (.ref f) ∧ Binds K fd ps []
/-- the def x keeps the promise sp -/
def Ok (P : Program) (w : World) (K : PySem.W.Frag) (mg : Str → Option Value) (base : Heap) (CX : CXT) (k : Nat) (x : Str) (ps : List Str) (sp : Sp) : Prop :=
  ∃ (f : Addr) (fd : FuncData), FnOk P w K mg base CX k f fd ps sp ∧ mg x = some (.ref f) ∧ PySem.W.keepIn K (.ref f) = true ∧ Binds K fd ps []
theorem ok_of {P : Program} {w : World} {K : PySem.W.Frag} {mg : Str → Option Value} {base : Heap} {CX : CXT} {k : Nat} {x : Str} {st : Stmt} {ps : List Str} {sp : Sp} (d : Dn K mg x st ps)
    (h : ∀ f fd, Fun K x x st f fd → FnOk P w K mg base CX k f fd ps sp) : Ok P w K mg base CX k x ps sp := by
  obtain ⟨f, fd, F, g, b⟩ := d
  exact ⟨f, fd, h f fd F, g, F.kp, b⟩
section
variable {X : Cx} {CX : CXT} {k : Nat} {ps : List Str} {sp : Sp} {E : XK} {x : Str} {p pos : Pos} {e : Expr} {es : List Expr} {t : TA}
theorem pe_callO (G : Ok X.prog X.w X.K X.mg X.base CX k x ps sp) (hr : Room k X.A) (hx : Passes CX X E) (ha : PA X (e :: es) t) (hg : Gl X x := by rfl)
    (hdb : (x == ("__debug__" : Str)) = false := by decide) (he : starEach (e :: es) X.env = (false, eval e X.env) :: starEach es X.env := by rfl) (hpl : (backTo pos (starEach es X.env)).any (·.1) = false := by rfl) :
    PE X (.Call (.Name x p) (e :: es) [] pos) (tCall sp [] E t) := by
  obtain ⟨f, fd, F, g, kp, b⟩ := G
  exact pe_call F hr hg g kp b .nil hx ha hdb he hpl
theorem pe_callO0 (G : Ok X.prog X.w X.K X.mg X.base CX k x ps sp) (hr : Room k X.A) (hx : Passes CX X E) (hg : Gl X x := by rfl) (hdb : (x == ("__debug__" : Str)) = false := by decide) :
    PE X (.Call (.Name x p) [] [] pos) (tCall sp [] E tNil) := by
  obtain ⟨f, fd, F, g, kp, b⟩ := G
  exact pe_call0 F hr hg g kp b .nil hx hdb
theorem pe_callT {Es : L2.St → XK} (G : Ok X.prog X.w X.K X.mg X.base CX k x ps sp) (hr : Room k X.A) (hx : ∀ σ, PassesAt CX X σ (Es σ)) (ha : PA X (e :: es) t) (hg : Gl X x := by rfl)
    (hdb : (x == ("__debug__" : Str)) = false := by decide) (he : starEach (e :: es) X.env = (false, eval e X.env) :: starEach es X.env := by rfl) (hpl : (backTo pos (starEach es X.env)).any (·.1) = false := by rfl) :
    PE X (.Call (.Name x p) (e :: es) [] pos) (tCallS sp Es t) := by
  obtain ⟨f, fd, F, g, kp, b⟩ := G
  exact pe_callS F hr hg g kp b hx ha hdb he hpl
end
/-! ### errors: raised where nothing is handled -/
/-- what leaves a def: L2N's way -/
abbrev CXN (P : Program) (w : World) : CXT := L2N.CX P w
theorem passN {X : Cx} : Passes (CXN X.prog X.w) X E0 := fun _ _ _ _ _ _ _ h => by
  obtain ⟨_, _, _, _, _, _, _, _, _, _, _, _, z⟩ := h
  exact z.elim
theorem takesN {X : Cx} : L2N.Takes X (fun _ _ _ _ => False) := fun _ _ x => by
  obtain ⟨_, _, _, _, _, _, _, _, _, _, _, _, _, _, _, _, z⟩ := x
  exact z.elim
theorem passX {X : Cx} {E E' : XK} (tk : L2N.Takes X (fun cls d _ H => E cls d H)) (h : ∀ cls d H, E' cls d H → E cls d H) : Passes (CXN X.prog X.w) X E' := fun pins σ H s e s' I c => tk e s' (L2N.XE.of_call I (fun cls d H' q => h cls d H' q) c)
theorem okN {P : Program} {w : World} {K : PySem.W.Frag} {mg : Str → Option Value} {base : Heap} {x qual : Str} {st : Stmt} {f : Addr} {fd : FuncData} {N ps : List Str} {k : Nat} {sp : Sp} (F : Fun K x qual st f fd) (S : FnScope N ps (defScope st)) (len : ∀ vs H Q E, sp vs H Q E → vs.length = ps.length)
    (hbody : ∀ (cdv : Value) (A : Around) (outer : List Env) (s : Shared) (H : Hp) (vs : List V) (Q : VK) (E : XK), Room k (A.deeper (envOfC qual (defScope st) s.heap.objs.size f cdv)) → sp vs H Q E →
      ∃ t, PSs (cxOf (CXN P w) P w K mg base N qual (defScope st) f cdv A outer s H E) (defBody st) t ∧ t { nx := fun _ H' => Q .non H', rt := Q } (L2.start N vs) H) : FnOk P w K mg base (CXN P w) (k + 1) f fd ps sp := by
  obtain ⟨oc, od, kV, doc, pm, an, cdv, ct, osl, rfl, lk, hcd⟩ := F.ex
  exact fn_of lk hcd S len fun A outer s H vs Q E hr hsp => hbody cdv A outer s H vs Q E hr hsp
section
variable {X : Cx}
/-- X(e) -/
theorem pmk_own1 {C : Addr} {bmB : List Value} {B newId initId : String} {x : Str} {e : Expr} {ta : TE} {p pos : Pos} (F : ExcBaseFacts B newId initId bmB) (q : PySem.W.excIn X.K C bmB newId = true) (gC : X.mg x = some (.ref C)) (kC : PySem.W.keepIn X.K (.ref C) = true) (r : Raises X (.ref C)) (hg : Gl X x)
    (he : PE X e ta) (hs : starEach [e] X.env = (false, eval e X.env) :: starEach [] X.env := by rfl) (hdb : (x == ("__debug__" : Str)) = false := by decide) :
    L2N.PMk X (.Call (.Name x p) [e] [] pos) (fun σ H Q => ta σ H fun _ H1 => Q (.ref C) none H1) := by
  intro pins s σ H Q I h
  refine wpAny_Call_Name_kw (ld_glob I hg gC ?_ hdb)
  refine PySem.W.callWith_K (h₀ := X.base) I.ok.mod.kin kC ?_ hs (by rfl)
  rw [hs]
  show wpAny _ _ (spliced ((false, eval e X.env) :: backTo pos (starEach [] X.env))) _ _ s
  refine Calls.spliced_cons (thn (he.run pins s σ H _ I h) fun u s1 ⟨v, H1, I1, r1, q1⟩ => ?_)
  refine Calls.spliced_nil ⟨I1.kIn, ?_⟩
  show wpAny _ _ (call (.ref C) [u]) _ _ _
  obtain ⟨bm, N, nm, qn, bs, hdct, sn, sub, ab, col, dd, k0, k1, k2, k3, k5, mN, hC, hN, hni, T⟩ := exc_obj I1.kIn q
  refine wpAny_call_exc_subT F T hC hN hni (fun h' e hm => ?_) (by show 1 ≤ sizeLine; rw [sizeLine_eq]; omega)
  exact L2N.mk_of I1 hm r q1 (I1.hok.gone hm.new)
end
/-! ### defs called within an except suite -/
def OkH (P : Program) (w : World) (K : PySem.W.Frag) (mg : Str → Option Value) (base : Heap) (CX : CXT) (k : Nat) (x : Str) (ps : List Str) (sp : Sp) : Prop :=
  ∃ (f : Addr) (fd : FuncData), L2H.FnH P w K mg base CX k f fd ps sp ∧ mg x = some (.ref f) ∧ PySem.W.keepIn K (.ref f) = true ∧ Binds K fd ps []
theorem okH_of {P : Program} {w : World} {K : PySem.W.Frag} {mg : Str → Option Value} {base : Heap} {k : Nat} {x : Str} {st : Stmt} {N ps : List Str} {sp : Sp} (d : Dn K mg x st ps) (S : FnScope N ps (defScope st)) (len : ∀ vs H Q E, sp vs H Q E → vs.length = ps.length)
    (hbody : ∀ (f : Addr) (cdv : Value) (A : Around) (outer : List Env) (s : Shared) (H : Hp) (vs : List V) (Q : VK) (E : XK) (p : Addr × Obj), L2H.Hot1 A p → L2H.RoomH k (A.deeper (envOfC x (defScope st) s.heap.objs.size f cdv)) → sp vs H Q E →
      ∃ t, PSs (L2H.cxH CX0 P w K mg base N x (defScope st) f cdv A outer s H E p) (defBody st) t ∧ t { nx := fun _ H' => Q .non H', rt := Q } (L2.start N vs) H) : OkH P w K mg base CX0 (k + 1) x ps sp := by
  obtain ⟨f, fd, F, g, b⟩ := d
  refine ⟨f, fd, ?_, g, F.kp, b⟩
  obtain ⟨oc, od, kV, doc, pm, an, cdv, ct, osl, rfl, lk, hcd⟩ := F.ex
  exact L2H.fn_ofH lk hcd S len fun A outer s H vs Q E p hot hr hsp => hbody f cdv A outer s H vs Q E p hot hr hsp
section
variable {X : Cx} {k : Nat} {ps : List Str} {sp : Sp} {x : Str} {p pos : Pos} {e : Expr} {es : List Expr} {t : TA}
theorem pe_callHO (G : OkH X.prog X.w X.K X.mg X.base CX0 k x ps sp) (hr : L2H.RoomH k X.A) (hc : L2H.HotC X) (ha : PA X (e :: es) t) (hg : Gl X x := by rfl)
    (hdb : (x == ("__debug__" : Str)) = false := by decide) (he : starEach (e :: es) X.env = (false, eval e X.env) :: starEach es X.env := by rfl) (hpl : (backTo pos (starEach es X.env)).any (·.1) = false := by rfl) :
    PE X (.Call (.Name x p) (e :: es) [] pos) (tCallS sp (fun _ => E0) t) := by
  obtain ⟨f, fd, F, g, kp, b⟩ := G
  exact L2H.pe_callH F hr hc hg g kp b (fun _ _ _ _ _ _ _ h => h.elim) ha hdb he hpl
theorem roomS {k j : Nat} {A : Around} {h : Option Value} (hr : Room k A) (hj : j ≤ k) : L2H.RoomH j (A.mark h) := L2H.RoomH.mono (k := k) ⟨hr.dp, hr.un⟩ hj
theorem hotS {a : Addr} {oe : Obj} {cls : Value} {d : Option Addr} {pn : List (Addr × Obj)} (hz : L2N.Zn cls d oe) (hf : ∃ vs, oe.data = .fields vs) : L2H.HotC (X.suite a ((a, oe) :: pn)) := by
  obtain ⟨vs, e⟩ := hf
  exact ⟨(a, oe), ⟨rfl, vs, e, hz.2.2 vs e⟩, List.mem_cons_self⟩
end
/-! ### names of the module -/
/-- the name x of the module holds v -/
def CV (mg : Str → Option Value) (x : Str) (v : V) : Prop := ∃ u, mg x = some u ∧ RelV v u
theorem pe_globC {X : Cx} {x : Str} {v : V} {pos : Pos} (hg : Gl X x) (h : CV X.mg x v) (hd : (x == ("__debug__" : Str)) = false := by decide) : PE X (.Name x pos) (tC v) := by
  obtain ⟨u, hm, r⟩ := h
  exact pe_glob hg hm r hd
theorem pe_globR {X : Cx} {x : Str} {a : Addr} {pos : Pos} (hg : Gl X x) (h : X.mg x = some (.ref a)) (hd : (x == ("__debug__" : Str)) = false := by decide) : PE X (.Name x pos) (tC (.ref a)) := pe_glob hg h rfl hd
/-! ### tests -/
theorem itd {p A B : Prop} [Decidable p] (h1 : p → A) (h2 : ¬ p → B) : if decide p = true then A else B := by
  by_cases h : p
  · rw [if_pos (decide_eq_true h)]
    exact h1 h
  · rw [if_neg (by simp [h])]
    exact h2 h
theorem itb {b : Bool} {A B : Prop} (h1 : b = true → A) (h2 : b = false → B) : if b = true then A else B := by
  cases b with
  | true => exact iteT (h1 rfl)
  | false => exact iteF (h2 rfl)
/-! ### error classes -/
/-- an error class that may have an own __init__ -/
structure XB (K : PySem.W.Frag) (mg : Str → Option Value) (x : Str) (C : Addr) : Prop where
  g : mg x = some (.ref C)
  k : PySem.W.keepIn K (.ref C) = true
  b : PySem.W.subIn K (.ref C) (.type "BaseException") = some true
  t : PySem.W.typeIn K (.ref C) = some (.type "type")
  d : PySem.W.hasDictIn K C = true
  i : PySem.W.isClsIn K C = true
/-- an error class without an own __init__ -/
structure XCl (K : PySem.W.Frag) (mg : Str → Option Value) (x : Str) (C : Addr) : Prop extends XB K mg x C where
  x : PySem.W.excIn K C [.type "ValueError", .type "Exception", .type "BaseException", .type "object"] "ValueError.__new__" = true
  e : ExcC K C
section
variable {K : PySem.W.Frag} {h : Heap} {mg : Str → Option Value} {x : Str} {C : Addr}
theorem xb_mk (X : K.In h) (G : h.Ns mainGlobals mg) (a : PySem.W.nsIn K mainGlobals x = some (some (.ref C))) (k : PySem.W.keepIn K (.ref C) = true) (b : PySem.W.subIn K (.ref C) (.type "BaseException") = some true)
    (t : PySem.W.typeIn K (.ref C) = some (.type "type")) (d : PySem.W.hasDictIn K C = true) (i : PySem.W.isClsIn K C = true) : XB K mg x C := ⟨PySem.W.mg_of X G a, k, b, t, d, i⟩
theorem xcl_mk (X : K.In h) (G : h.Ns mainGlobals mg) (a : PySem.W.nsIn K mainGlobals x = some (some (.ref C)))
    (q : PySem.W.excIn K C [.type "ValueError", .type "Exception", .type "BaseException", .type "object"] "ValueError.__new__" = true) (k : PySem.W.keepIn K (.ref C) = true)
    (b : PySem.W.subIn K (.ref C) (.type "BaseException") = some true) (t : PySem.W.typeIn K (.ref C) = some (.type "type"))
    (hg : PySem.W.findIn K (.ref C) "__getattribute__" = some (some (.builtin "BaseException.__getattribute__"))) (hk : PySem.W.findIn K (.ref C) "__getattr__" = some none) (hd : PySem.W.hasDictIn K C = true)
    (ha : PySem.W.findIn K (.ref C) "__class__" = some (some (.builtin "object.__class__"))) (hn : PySem.W.specialIn K (.builtin "object.__class__") "__get__" = some (some (.builtin "getset_descriptor.__get__")))
    (ht : PySem.W.takesIn K (.builtin "object.__class__") = some true) (hm : PySem.W.mroIn K C (.type "object") = some true) (i : PySem.W.isClsIn K C = true) : XCl K mg x C :=
  ⟨⟨PySem.W.mg_of X G a, k, b, t, hd, i⟩, q, ⟨hg, hk, b, hd, ha, hn, ht, hm⟩⟩
/-- isinstance of an own class -/
theorem kit_own {D : Addr} {r : Bool} (i : PySem.W.isClsIn K C = true) (t : PySem.W.typeIn K (.ref C) = some (.type "type")) (s : PySem.W.subIn K (.ref D) (.ref C) = some r) (hne : (Value.ref D == Value.ref C) = true → r = true) :
    PySem.W.kitOne K (.ref D) (.ref C) = some r := by
  unfold PySem.W.kitOne
  cases e : (Value.ref D == Value.ref C) with
  | true => rw [if_pos rfl, hne e]
  | false =>
    rw [if_neg Bool.false_ne_true]
    have h2 : ((PySem.W.clsIn K C).isSome && PySem.W.typeIn K (.ref C) == some (.type "type")) = true := by
      have h2' : (PySem.W.clsIn K C).isSome = true := i
      rw [h2', t] <;> rfl
    show (if ((PySem.W.clsIn K C).isSome && PySem.W.typeIn K (.ref C) == some (.type "type")) = true then PySem.W.subIn K (.ref D) (.ref C) else none) = some r
    rw [if_pos h2, s]
theorem kit_ve {D : Addr} (s : PySem.W.subIn K (.ref D) (.type "ValueError") = some true) : PySem.W.kitOne K (.ref D) (.type "ValueError") = some true := by
  have e : (Value.ref D == Value.type "ValueError") = false := rfl
  unfold PySem.W.kitOne
  rw [e, if_neg Bool.false_ne_true]
  show (if PySem.W.kitMeta "ValueError" = true then PySem.W.subIn K (.ref D) (.type "ValueError") else none) = some true
  rw [if_pos (by decide +kernel), s]
/-- except C takes an error of the class at D -/
theorem exm_own {D : Addr} {r : Bool} {y : Str} (c : XB K mg y C) (s : PySem.W.subIn K (.ref D) (.ref C) = some r) : PySem.W.exmOne K (.ref D) (.ref C) = some r := PySem.W.exm_ref c.b c.d c.t s
/-! ### the facts of the top -/
theorem dn_mk {st : Stmt} {ps : List Str} {f : Addr} {oc : Value} {od an : Option Addr} {osl : Array (Option Value)} {kV doc pm cdv ct : Value} (X : K.In h) (G : h.Ns mainGlobals mg) (a : PySem.W.nsIn K mainGlobals x = some (some (.ref f)))
    (l : K.lookup f = some ⟨oc, od, .func (PySem.W.fnOf x x (defArgs st) (defBody st) (defScope st) .none kV doc pm an cdv ct), osl⟩) (c : PySem.W.codeIn K cdv x = true) (k : PySem.W.keepIn K (.ref f) = true)
    (hb : ∀ (kV doc pm : Value) (an : Option Addr) (cdv ct : Value) (us : List Value), us.length = ps.length → bindArgs (PySem.W.fnOf x x (defArgs st) (defBody st) (defScope st) .none kV doc pm an cdv ct) ⟨us, []⟩ = pure (ps.zip us)) : Dn K mg x st ps :=
  ⟨f, _, fun_mk l c k, PySem.W.mg_of X G a, (fun_mk l c k).binds hb⟩
theorem cv_int {i : Int} {t : Tok} (X : K.In h) (G : h.Ns mainGlobals mg) (a : PySem.W.nsIn K mainGlobals x = some (some (.int i t))) : CV mg x (.int i) := ⟨_, PySem.W.mg_of X G a, _, rfl⟩
theorem cv_str {i : Str} {t : Tok} (X : K.In h) (G : h.Ns mainGlobals mg) (a : PySem.W.nsIn K mainGlobals x = some (some (.str i t))) : CV mg x (.str i) := ⟨_, PySem.W.mg_of X G a, _, rfl⟩
theorem cv_bl {i : Bool} (X : K.In h) (G : h.Ns mainGlobals mg) (a : PySem.W.nsIn K mainGlobals x = some (some (.bool i))) : CV mg x (.bl i) := ⟨_, PySem.W.mg_of X G a, rfl⟩
/-- the name x of the module holds a tuple of the written part -/
def CT (K : PySem.W.Frag) (mg : Str → Option Value) (x : Str) (xs : List V) : Prop := ∃ p, mg x = some (.ref p) ∧ ∀ H, SqT K H p xs
theorem ct_mk {p : Addr} {od : Option Addr} {its : Array Value} {n : Nat} {sl : Array (Option Value)} {xs : List V} (X : K.In h) (G : h.Ns mainGlobals mg) (a : PySem.W.nsIn K mainGlobals x = some (some (.ref p)))
    (l : K.lookup p = some ⟨.type "tuple", od, .seq its n, sl⟩) (hs : its.size ≤ sizeLine) (hv : Vals xs its.toList) : CT K mg x xs :=
  ⟨p, PySem.W.mg_of X G a, fun _ => .inr ⟨_, its, n, l, rfl, rfl, hs, hv⟩⟩
end
theorem pe_globT {X : Cx} {x : Str} {xs : List V} {pos : Pos} (hg : Gl X x) (h : CT X.K X.mg x xs) (hd : (x == ("__debug__" : Str)) = false := by decide) :
    PE X (.Name x pos) (fun _ H Q => ∀ p, (∀ H', SqT X.K H' p xs) → Q (.ref p) H) := by
  obtain ⟨p, hm, hs⟩ := h
  exact ⟨fun pins s σ H Q I h => (pe_glob hg hm (v := .ref p) rfl hd).run pins s σ H Q I (h p hs)⟩
/-! ### a suite that is read for known errors alone -/
theorem pss_guard {X : Cx} {st : List Stmt} {p : Prop} {t : TS} (h : p → PSs X st t) : PSs X st (fun D σ H => p ∧ t D σ H) :=
  ⟨fun pins s σ H D I q => (h q.1).run pins s σ H D I q.2⟩
theorem to_true {Q : VK} {b : Bool} {H : Hp} (h : b = true) (q : Q (.bl true) H) : Q (.bl b) H := h ▸ q
/-- a new object at p stays the only one that changes -/
theorem same_new {H H' : Hp} {p : Addr} {o : HO} (e : Same H H') (hp : H p = none) : Same H (upd H' p o) := Evl.Ex.mut e hp
theorem same_upd {H : Hp} {p : Addr} {o : HO} (hp : H p = none) : Same H (upd H p o) := Evl.Ex.new hp
theorem tyx_list {K : PySem.W.Frag} {H : Hp} {a : Addr} {xs : List V} (h : SqL K H a xs) : TyX K H (.ref a) (.type "list") := by
  rcases h with (h | ⟨o, h⟩) | ⟨o, its, n, h, hc, _⟩
  · exact .base (.lst h)
  · exact .base (.frz h)
  · exact .kList h hc
theorem tyx_tuple {K : PySem.W.Frag} {H : Hp} {a : Addr} {xs : List V} (h : SqT K H a xs) : TyX K H (.ref a) (.type "tuple") := by
  rcases h with (h | ⟨o, h⟩) | ⟨o, its, n, h, hc, _⟩
  · exact .base (.tup h)
  · exact .fTuple h
  · exact .kTuple h hc
theorem small {n : Nat} (h : n ≤ 100000) : n < sizeLine := Nat.lt_of_le_of_lt h (by decide)
theorem smallE {n : Nat} (h : n ≤ 100000) : n ≤ sizeLine := Nat.le_trans h (by decide)
/-- for .. in enumerate(list) -/
theorem for_enum {K : PySem.W.Frag} {a : Addr} {xs : List V} {g : TG} {tb : TS} {D : Ends} {σ : L2.St} {H : Hp} (Pv : Nat → L2.St → Hp → Prop) (h0 : Pv 0 σ H) (hl : ∀ i σ H, i ≤ xs.length → Pv i σ H → SqL K H a xs)
    (hs : ∀ i x T σ H, xs[i]? = some x → Pv i σ H → H T = none → g (.ref T) σ (upd H T (.tup [.int (i : Nat), x])) fun σ2 H2 => tb { D with nx := Pv (i + 1), ct := Pv (i + 1), bk := D.nx } σ2 H2) (hd : ∀ σ H, Pv xs.length σ H → D.nx σ H) :
    ∃ W : Nat → Nat → L2.St → Hp → Prop, (∃ m, W 0 m σ H) ∧ ∀ i m σ H, W i m σ H →
      ((Ite K a).stop i H ∧ D.nx σ H) ∨ ((Ite K a).go i H ∧ ∃ N : L2.St → Hp → Prop, (∀ σ' H', N σ' H' → ∃ m', m' < m ∧ W (i + 1) m' σ' H') ∧ ∀ x H', (Ite K a).yld i H x H' → g x σ H' fun σ2 H2 => tb { D with nx := N, ct := N, bk := D.nx } σ2 H2) := by
  refine ⟨fun i m σ H => m = xs.length - i ∧ i ≤ xs.length ∧ Pv i σ H, ⟨xs.length, by simp, Nat.zero_le _, h0⟩, ?_⟩
  rintro i m σ H ⟨rfl, hi, p⟩
  have q := hl i σ H hi p
  by_cases hlt : i < xs.length
  · refine .inr ⟨⟨xs, xs[i], q, by simp [hlt]⟩, Pv (i + 1), fun σ' H' p' => ⟨xs.length - (i + 1), by omega, rfl, hlt, p'⟩, fun x H' y => ?_⟩
    obtain ⟨T, z, rfl, hT, rfl, y⟩ := y
    exact hs i z T σ H (y xs q) p hT
  · have e : i = xs.length := by omega
    subst e
    exact .inl ⟨⟨xs, q, Nat.le_refl _⟩, hd σ H p⟩
/-- an item of a list by a number that is told -/
theorem at_nat {α : Type} {xs : List α} {i : Int} {j : Nat} {v : α} (e : i = (j : Int)) (h : xs[j]? = some v) : atI xs i = some v := e ▸ atI_nat h
theorem ix_nat {n j : Nat} {i : Int} (e : i = (j : Int)) (h : j < n) : ixN n i = some j := e ▸ Evl.ixN_nat h
/-! ### rules whose reading names the written part by itself (for the bodies and suites of a try) -/
def rLenK (K : PySem.W.Frag) : List V → Hp → VK → Prop := fun xs H Q => ∃ p ys, xs = [.ref p] ∧ (SqL K H p ys ∨ SqT K H p ys) ∧ Q (.int ys.length) H
theorem call_lenK {X : Cx} {K : PySem.W.Frag} (h : X.K = K := by rfl) : CallR X (.builtin "len") (rLenK K) := by
  subst h
  exact call_len_seq
theorem op_eqDK {X : Cx} {K : PySem.W.Frag} (hu : X.A.units + 64 < cLine) (h : X.K = K := by rfl) : OpR X (compareOp .Eq) (rEqD K) := by
  subst h
  exact op_eqD hu
theorem op_neDK {X : Cx} {K : PySem.W.Frag} (hu : X.A.units + 64 < cLine) (h : X.K = K := by rfl) : OpR X (compareOp .NotEq) (rNeD K) := by
  subst h
  exact op_neD hu
theorem call_isiK' {X : Cx} {K : PySem.W.Frag} (h : X.K = K := by rfl) : CallR X (.builtin "isinstance") (rIsi K) := by
  subst h
  exact call_isi
def rListK (K : PySem.W.Frag) : List V → Hp → VK → Prop := fun xs H Q => ∃ p ys, xs = [.ref p] ∧ (SqL K H p ys ∨ SqT K H p ys) ∧ ∀ l, H l = none → Q (.ref l) (upd H l (.lst ys))
theorem call_list_ofK {X : Cx} {K : PySem.W.Frag} (h : X.K = K := by rfl) : CallR X (.type "list") (rListK K) := by
  subst h
  exact call_list_of
theorem sl_listK {X : Cx} {K : PySem.W.Frag} (h : X.K = K := by rfl) : SlR X (rSlL K) := by
  subst h
  exact sl_list
/-! ### slices -/
theorem sIx_nat {n k : Nat} (d : Nat) (h : k ≤ n) : HT.sIx n d (some (k : Int)) = k := by
  simp only [HT.sIx]
  split <;> omega
theorem cut_to {xs : List V} {k : Nat} (h : k ≤ xs.length) : cutV xs none (some (k : Int)) = xs.take k := by
  unfold cutV
  rw [sIx_nat _ h]
  simp [HT.sIx]
theorem cut_from {xs : List V} {k : Nat} (h : k ≤ xs.length) : cutV xs (some (k : Int)) none = xs.drop k := by
  unfold cutV
  rw [sIx_nat _ h]
  simp only [HT.sIx]
  rw [List.take_of_length_le (by rw [List.length_drop]; omega)]
theorem cut_mid {xs : List V} {j k : Nat} (h1 : j ≤ k) (h : k ≤ xs.length) : cutV xs (some (j : Int)) (some (k : Int)) = (xs.drop j).take (k - j) := by
  unfold cutV
  rw [sIx_nat _ h, sIx_nat _ (Nat.le_trans h1 h)]
/-! ### data -/
mutual
theorem dp_mono {K : PySem.W.Frag} {H H' : Hp} (e : Same H H') : ∀ {d : PyData} {v : V}, Dp K H v d → Dp K H' v d
  | _, _, .non => .non
  | _, _, .bl b => .bl b
  | _, _, .int i => .int i
  | _, _, .str x => .str x
  | _, _, .lst h r => .lst (e.seq h) (dpAll_mono e r)
  | _, _, .tup h r => .tup (Evl.ex_t e h) (dpAll_mono e r)
theorem dpAll_mono {K : PySem.W.Frag} {H H' : Hp} (e : Same H H') : ∀ {ds : List PyData} {vs : List V}, DpAll K H vs ds → DpAll K H' vs ds
  | _, _, .nil => .nil
  | _, _, .cons h r => .cons (dp_mono e h) (dpAll_mono e r)
end
theorem dp_ints {K : PySem.W.Frag} {H : Hp} : ∀ (ns : List Int), DpAll K H (ns.map V.int) (ns.map PyData.int)
  | [] => .nil
  | n :: ns => .cons (.int n) (dp_ints ns)
theorem canLayAll_ints : ∀ (ns : List Int), PyData.canLayAll0 (ns.map PyData.int) = true
  | [] => rfl
  | n :: ns => by simp [PyData.canLayAll0, PyData.canLay0, canLayAll_ints ns]
theorem depthAll_ints : ∀ (ns : List Int), PyData.depthAll (ns.map PyData.int) = 0
  | [] => rfl
  | n :: ns => by simp [PyData.depthAll, PyData.depth, depthAll_ints ns]
theorem shaped_ints (ns : List Int) : SeqAt.shaped (.list (ns.map PyData.int)) = true := by
  simp [SeqAt.shaped, PyData.canLay0, PyData.depth, canLayAll_ints, depthAll_ints]
theorem eqvAll_ints : ∀ (ns ms : List Int), PyData.eqvAll (ns.map PyData.int) (ms.map PyData.int) = decide (ns = ms)
  | [], [] => by simp [PyData.eqvAll]
  | [], m :: ms => by simp [PyData.eqvAll]
  | n :: ns, [] => by simp [PyData.eqvAll]
  | n :: ns, m :: ms => by
    by_cases h : n = m <;> simp [PyData.eqvAll, PyData.eqv, eqvAll_ints ns ms, h]
theorem eqv_ints (ns ms : List Int) : PyData.eqv (.list (ns.map PyData.int)) (.list (ms.map PyData.int)) = decide (ns = ms) := by
  rw [PyData.eqv]
  exact eqvAll_ints ns ms
theorem shaped_pair (as bs : List Int) : SeqAt.shaped (.tuple [.list (as.map PyData.int), .list (bs.map PyData.int)]) = true := by
  simp [SeqAt.shaped, PyData.canLay0, PyData.canLayAll0, PyData.depth, PyData.depthAll, canLayAll_ints, depthAll_ints]
theorem eqv_refl' {d : PyData} (h : SeqAt.shaped d = true) : PyData.eqv d d = true := SeqAt.eqv_refl _ (SeqAt.canLay_of_shaped h)
theorem dp_list {K : PySem.W.Frag} {H : Hp} {a : Addr} {ns : List Int} (h : SqL K H a (ns.map V.int)) : Dp K H (.ref a) (.list (ns.map PyData.int)) := .lst h (dp_ints ns)
theorem get_ints {ns : List Int} {i : Nat} {y : V} (h : (ns.map V.int)[i]? = some y) : ∃ (hi : i < ns.length), y = V.int ns[i] := by
  rw [List.getElem?_map] at h
  by_cases hi : i < ns.length
  · rw [List.getElem?_eq_getElem hi] at h
    exact ⟨hi, (Option.some.inj h).symm⟩
  · rw [List.getElem?_eq_none (Nat.le_of_not_lt hi)] at h
    cases h
theorem take_snoc {α : Type} {l : List α} {i : Nat} (hi : i < l.length) : l.take (i + 1) = l.take i ++ [l[i]] := by
  rw [List.take_add_one, List.getElem?_eq_getElem hi]
  rfl
/-! ### the script's cells -/
def cell (ns : List Int) (k : Nat) : Int := ns.getD k 0
theorem cell_in {ns : List Int} {k : Nat} (hk : k < ns.length) : cell ns k = ns[k] := by simp [cell, List.getD_eq_getElem?_getD, List.getElem?_eq_getElem hk]
theorem cell_out {ns : List Int} {k : Nat} (hk : ¬ k < ns.length) : cell ns k = 0 := by simp [cell, List.getD_eq_getElem?_getD, List.getElem?_eq_none (Nat.le_of_not_lt hk)]
end Cm

/-! ### a generator expression that is used up at once: its body is read in a frame of its own, over the maker's abstract heap -/
namespace GX
open PySem PySem.Spec PyProof.Rows L2 Cm
open Sem (wp)
/-- the names of the generator's frame: the maker's slots, then more -/
abbrev gEnv (X : Cx) (scope : Scope) (C : Addr) (code : Value) : Env := genEnv scope (cloFrom X.env.cells scope.names []) C code builtinsNs X.env
/-- where the generator's body stands: entered at s4 -/
def gCx (X : Cx) (scope : Scope) (code : Value) (fp : List Addr) (s4 : Shared) (H4 : Hp) (B : Around) (ext : List Str) : Cx where
  prog := X.prog
  w := X.w
  K := X.K
  mg := X.mg
  base := X.base
  A := B
  N := X.N ++ ext
  s_0 := s4
  H_0 := H4
  env := gEnv X scope s4.heap.objs.size code
  outer := X.stack
  stack := gEnv X scope s4.heap.objs.size code :: X.stack
  ex := fp
  fn := fun _ => false
  calm := true
  pn := []
  xe := fun _ _ => False
/-- the slots that the body begins with -/
def gS (σ : L2.St) (own : List (Str × Nat)) (ext : List Str) : L2.St := wipe (σ ++ ext.map fun _ => none) (own.map (·.2))
/-- what the text of the expression has -/
structure GOk (N : List Str) (sc scope : Scope) (own : List (Str × Nat)) (ext : List Str) : Prop where
  nd : (N ++ ext).Nodup
  blk : BlkOk (N ++ ext) sc scope own
  co : scope.isCoroutine = false
  cell : ∀ y ∈ scope.names, y.2 ≠ .cell
  dot : scope.names.lookup (".0" : Str) = some NameKind.local
theorem wipe_keeps {σ : L2.St} : ∀ {vs : List Nat} {i : Nat} {v : V}, (wipe σ vs)[i]? = some (some v) → σ[i]? = some (some v) ∧ i ∉ vs
  | [], _, _, h => ⟨h, by simp⟩
  | j :: vs, i, v, h => by
    rw [wipe] at h
    by_cases e : j = i
    · subst e
      rw [List.getElem?_set_self'] at h
      cases q : (wipe σ vs)[j]? with
      | none => rw [q] at h; cases h
      | some u => rw [q] at h; cases h
    · rw [List.getElem?_set_ne e] at h
      obtain ⟨a, b⟩ := wipe_keeps h
      exact ⟨a, by simp only [List.mem_cons, not_or]; exact ⟨fun z => e z.symm, b⟩⟩
section
variable {X : Cx} {pins : List (Addr × Obj)} {σ : L2.St} {H4 H : Hp} {s4 s : Shared} {scope : Scope} {own : List (Str × Nat)} {ext : List Str} {code : Value} {fp : List Addr} {B : Around}
theorem cells_of (ok : ∀ y ∈ scope.names, y.2 = .free → ∃ c, X.env.cells.lookup y.1 = some c) {y : Str} {c : Addr} (e : (cloFrom X.env.cells scope.names []).lookup y = some c) : X.env.cells.lookup y = some c := by
  rcases cloFrom_mem (PySem.mem_of_lookup e) with q | ⟨q, r⟩
  · cases q
  · obtain ⟨c1, hc⟩ := ok _ q rfl
    have hc' : X.env.cells.lookup y = some c1 := hc
    rw [hc'] at r
    rw [hc', r]
    rfl
theorem cells_to {y : Str} (hl : scope.names.lookup y = some .free) : ∃ c, (cloFrom X.env.cells scope.names []).lookup y = some c :=
  mem_lookup (cloFrom_has (cells := X.env.cells) (acc := []) (PySem.mem_of_lookup hl))
theorem free_cells (I : Inv X pins σ H4 s4) (G : GOk X.N X.env.scope scope own ext) : ∀ y ∈ scope.names, y.2 = .free → ∃ c, X.env.cells.lookup y.1 = some c := fun y hy e => by
  rcases G.blk.free y hy e with k | k
  · exact I.ok.has _ (.inl k)
  · exact I.ok.has _ (.inr k)
/-- the body's frame over the maker's heap, at any later state -/
theorem gx_inv (I : Inv X pins σ H4 s4) (G : GOk X.N X.env.scope scope own ext) (hf : ∀ b ∈ fp, FpOk X pins H4 b) (hB : B.frames = some (gEnv X scope s4.heap.objs.size code :: X.stack)) (hh : B.handled = none)
    (os : s.os = s4.os) (bare : AllBare s.gens) (un : Un (frs X.stack) fp H4 H s4.heap s.heap) (hok : HOk X.prog X.w H s.heap) (hns : ∃ m, s.heap.Ns s4.heap.objs.size m) (hC : H s4.heap.objs.size = none) (lt : ∀ b ∈ fp, b < s4.heap.objs.size)
    {ps : List (Addr × Obj)} (hps : ∀ p ∈ ps, s.heap.get? p.1 = some p.2 ∧ H p.1 = none ∧ p.1 ≠ s4.heap.objs.size ∧ p.1 ∉ frs X.stack ∧ ∀ v, p.2.data ≠ .cell v) :
    Inv (gCx X scope code fp s4 H4 B ext) ps (gS σ own ext) H s := by
  have fc := free_cells I G
  have cm : ∀ {y c}, (cloFrom X.env.cells scope.names []).lookup y = some c → X.env.cells.lookup y = some c := fun {y c} e => cells_of fc e
  have e0 := I.env0
  have nfp : ∀ {y c}, X.env.cells.lookup y = some c → c ∉ fp := fun {y c} e z => (hf c z).2.2.2.2.1 y c e rfl
  have cellK : ∀ {y c v}, X.env.cells.lookup y = some c → s4.heap.IsCell c v → s.heap.IsCell c v := fun {y c v} e ⟨o, ho, hd⟩ => by
    obtain ⟨sl, q⟩ := un.any ho (I.freeC y c e) (nfp e)
    exact ⟨_, q, hd⟩
  have hfp : ∀ b ∈ fp, b ∉ frs X.stack := fun b hb z => by
    rcases List.mem_cons.mp (I.stkSub _ z) with e | e
    · exact (hf b hb).2.1 e
    · exact (hf b hb).2.2.1 e
  have hbase : ∀ b o, X.base.get? b = some o → b ∉ fp := fun b o e z => by
    rcases (hf b z).2.2.2.1 with q | q
    · exact I.ok.noex b o e q
    · exact absurd (Nat.lt_of_lt_of_le (Heap.lt_size e) (Nat.le_trans I.ok.bsz q)) (Nat.lt_irrefl _)
  obtain ⟨m, hm⟩ := hns
  refine ⟨⟨e0.mod, G.blk.kind, I.ok.glob, rfl, Nat.le_refl _, fun y z c e1 e2 => I.ok.inj y z c (cm e1) (cm e2), fun y hy => ?_, fun _ _ z _ => ?_, fun _ => hh, hB, .inr ⟨rfl, rfl⟩, fun b hb => ⟨Nat.ne_of_lt (lt b hb), fun y c e => fun z => nfp (cm e) (z ▸ hb)⟩, e0.bs, e0.bsz, hbase, hfp, e0.funs, e0.frf⟩,
    os, bare, un, ⟨m, hm, fun i y v e1 e2 e3 => ?_⟩, fun y c e => ?_, hC, fun y c e => ?_, fun q hq => ?_, hok, ?_⟩
  · have hy' : scope.names.lookup y = some .cell ∨ scope.names.lookup y = some .free := hy
    rcases hy' with hy' | hy'
    · exact absurd rfl (G.cell _ (PySem.mem_of_lookup hy'))
    · exact cells_to hy'
  · exact absurd (show false = true from z) (by decide)
  · have e1' : (X.N ++ ext)[i]? = some y := e1
    obtain ⟨q1, q2⟩ := wipe_keeps e2
    have e3' : Vis scope y := e3
    have own_no : scope.names.lookup y = some .local ∨ scope.names.lookup y = some .cell → False := fun k => by
      have hy : (y, NameKind.local) ∈ scope.names ∨ (y, NameKind.cell) ∈ scope.names := k.elim (fun k => .inl (PySem.mem_of_lookup k)) fun k => .inr (PySem.mem_of_lookup k)
      have own_or : y ∈ own.map (·.1) ∨ y ∉ X.N ++ ext := hy.elim (fun k => G.blk.own _ k (.inl rfl)) fun k => G.blk.own _ k (.inr rfl)
      rcases own_or with z | z
      · obtain ⟨p, hp, ep⟩ := List.mem_map.mp z
        have ei := G.blk.ix p hp
        rw [ep] at ei
        have : p.2 = i := nodup_ix G.nd ei e1'
        exact q2 (List.mem_map.mpr ⟨p, hp, this⟩)
      · exact z (List.mem_of_getElem? e1')
    have hfree : scope.names.lookup y = some .free := by
      rcases e3' with k | k | k
      · exact (own_no (.inl k)).elim
      · exact (own_no (.inr k)).elim
      · exact k
    have hi : i < σ.length := by
      by_cases hi : i < σ.length
      · exact hi
      · rw [List.getElem?_append_right (Nat.le_of_not_lt hi), List.getElem?_map] at q1
        cases q : ext[i - σ.length]? with
        | none => rw [q] at q1; cases q1
        | some u => rw [q] at q1; cases q1
    rw [List.getElem?_append_left hi] at q1
    rw [List.getElem?_append_left (by rw [← I.len]; exact hi)] at e1'
    have sck := G.blk.free _ (PySem.mem_of_lookup hfree) rfl
    obtain ⟨m2, _, hl⟩ := I.loc
    obtain ⟨u, ru, lk⟩ := hl i y v e1' q1 (sck.elim (fun k => .inr (.inl k)) fun k => .inr (.inr k))
    obtain ⟨c2, h2⟩ := cells_to (X := X) hfree
    refine ⟨u, ru, .inr ⟨.inr hfree, c2, h2, ?_⟩⟩
    rcases lk with ⟨k', _⟩ | ⟨_, c3, e', z⟩
    · have k' : X.env.scope.names.lookup y = some .local := k'
      rcases sck with k2 | k2 <;> rw [show X.env.scope.names.lookup y = _ from k2] at k' <;> cases k'
    · rw [cm h2] at e'
      cases e'
      exact cellK (cm h2) z
  · obtain ⟨v, z⟩ := I.cell y c (cm e)
    exact ⟨v, cellK (cm e) z⟩
  · obtain ⟨v, o, ho, hd⟩ := I.cell y c (cm e)
    exact un.free c o ho (I.freeC y c (cm e)) (nfp (cm e))
  · exact hps q (by simpa [gCx] using hq)
  · show (wipe _ _).length = _
    rw [wipe_length, List.length_append, List.length_map]
    show _ = (X.N ++ ext).length
    rw [List.length_append, I.len]
end
/-- what holds while the generator is awake or asleep; sx: what its consumer writes meanwhile -/
structure CO (X : Cx) (fp sx : List Addr) (s4 : Shared) (H4 H : Hp) (s : Shared) : Prop where
  os : s.os = s4.os
  bare : AllBare s.gens
  un : Un (frs X.stack) fp H4 H s4.heap s.heap
  hok : HOk X.prog X.w H s.heap
  ns : ∃ m, s.heap.Ns s4.heap.objs.size m
  free : H s4.heap.objs.size = none
  fr : ∀ b ∈ fp, H b = none
  sx : ∀ b ∈ sx, (∃ o, s.heap.get? b = some o ∧ ∀ v, o.data ≠ .cell v) ∧ H b = none ∧ b ≠ s4.heap.objs.size ∧ b ∉ frs X.stack ∧ b ∉ fp ∧ s4.heap.get? b = none
/-- what the consumer does while the generator sleeps -/
structure Kp (sx : List Addr) (s s' : Shared) : Prop where
  os : s'.os = s.os
  bare : AllBare s'.gens
  keep : ∀ b o, b ∉ sx → s.heap.get? b = some o → s'.heap.get? b = some o
  own : ∀ b ∈ sx, ∃ o, s'.heap.get? b = some o ∧ ∀ v, o.data ≠ .cell v
theorem CO.kp {X : Cx} {fp sx : List Addr} {s4 s s' : Shared} {H4 H : Hp} (h : CO X fp sx s4 H4 H s) (k : Kp sx s s') : CO X fp sx s4 H4 H s' := by
  have n4 : ∀ b o, s4.heap.get? b = some o → b ∉ sx := fun b o e z => by
    rw [(h.sx b z).2.2.2.2.2] at e
    cases e
  have nH : ∀ b u, H b = some u → b ∉ sx := fun b u e z => by
    rw [(h.sx b z).2.1] at e
    cases e
  refine ⟨k.os.trans h.os, k.bare, ⟨fun b o e n h1 h2 => k.keep b o (n4 b o e) (h.un.keep b o e n h1 h2), fun b o e n h1 h2 => ?_, h.un.free, fun b o e h2 => ?_, h.un.tups, h.un.frzs, h.un.tbls⟩, fun a o e => ?_, ?_, h.free, h.fr, fun b hb => ⟨k.own b hb, (h.sx b hb).2⟩⟩
  · obtain ⟨sl, q⟩ := h.un.slot b o e n h1 h2
    exact ⟨sl, k.keep b _ (n4 b o e) q⟩
  · obtain ⟨o', q⟩ := h.un.there b o e h2
    exact ⟨o', k.keep b _ (n4 b o e) q⟩
  · refine (h.hok a o e).stay (fun b u hb q => k.keep b u ?_ q) (fun _ z => z) fun _ _ z => z
    rcases hb with z | z
    · exact z ▸ nH a o e
    · exact nH b _ z
  · obtain ⟨m, o, es, ep, ho, r⟩ := h.ns
    exact ⟨m, o, es, ep, k.keep _ _ (fun z => (h.sx _ z).2.2.1 rfl) ho, r⟩
/-- all that does not change of a generator -/
structure GSt (X : Cx) (pins : List (Addr × Obj)) (σ : L2.St) (scope : Scope) (own : List (Str × Nat)) (ext : List Str) (tg : Expr) (code : Value) (H4 : Hp) (s4 : Shared) (J : It) (fp : List Addr) (it : Addr) (tn : Nat → Heap → Prop) : Prop where
  inv : Inv X pins σ H4 s4
  ok : GOk X.N X.env.scope scope own ext
  turn : Turn X.prog X.w X.K tg J fp it tn
  fpo : ∀ b ∈ fp, FpOk X pins H4 b
  lt : ∀ b ∈ fp, b < s4.heap.objs.size
section
variable {X : Cx} {pins : List (Addr × Obj)} {σ : L2.St} {H4 : Hp} {s4 : Shared} {scope : Scope} {own : List (Str × Nat)} {ext : List Str} {tg elt iter : Expr} {code : Value} {fp sx : List Addr} {J : It} {it : Addr} {tn : Nat → Heap → Prop} {pos : Pos}
/-- the loop's code -/
abbrev gLoop (X : Cx) (tg elt iter : Expr) (scope : Scope) (pos : Pos) (it : Addr) (s4 : Shared) (code : Value) : Code :=
  .compLoop (.GeneratorExp elt [⟨tg, iter, [], 0⟩] scope pos) 0 (.ref it) .none (gEnv X scope s4.heap.objs.size code)
abbrev gFirst (X : Cx) (tg elt iter : Expr) (scope : Scope) (pos : Pos) (it : Addr) (s4 : Shared) (code : Value) : Code :=
  .compStart (.GeneratorExp elt [⟨tg, iter, [], 0⟩] scope pos) 0 (.ref it) .none (gEnv X scope s4.heap.objs.size code)
def gY (X : Cx) (fp sx : List Addr) (s4 : Shared) (H4 : Hp) (tn : Nat → Heap → Prop) (W : Nat → Nat → Hp → Prop) (Yd : Nat → Nat → V → Hp → Prop) : Protocol := fun n s0 v s kap =>
  ∃ (y : V) (i m : Nat) (H : Hp), RelV y v ∧ Yd i m y H ∧ CO X fp sx s4 H4 H s ∧ tn (i + 1) s.heap ∧ (∀ b ∈ sx, s.heap.get? b = s0.heap.get? b) ∧ m ≤ n ∧ ∀ m' s', m' < m → W (i + 1) m' H → Kp sx s s' → kap (.send .none) s'
def gE (X : Cx) (fp sx : List Addr) (s4 : Shared) (H4 : Hp) (Dn : Hp → Prop) : Nat → Shared → Shared → Prop := fun _ s0 s => ∃ H, Dn H ∧ CO X fp sx s4 H4 H s ∧ ∀ b ∈ sx, s.heap.get? b = s0.heap.get? b
theorem CO.inv {H : Hp} {s : Shared} {B : Around} (S : GSt X pins σ scope own ext tg code H4 s4 J fp it tn) (h : CO X fp sx s4 H4 H s) (hB : B.frames = some (gEnv X scope s4.heap.objs.size code :: X.stack)) (hh : B.handled = none) :
    Inv (gCx X scope code fp s4 H4 B ext) (pinsAt sx s.heap) (gS σ own ext) H s := by
  refine gx_inv S.inv S.ok S.fpo hB hh h.os h.bare h.un h.hok h.ns h.free S.lt fun p hp => ?_
  obtain ⟨hb, e⟩ := of_pinsAt hp
  obtain ⟨⟨o, e', d⟩, h2, h3, h4, _⟩ := h.sx p.1 hb
  rw [e] at e'
  cases e'
  exact ⟨e, h2, h3, h4, d⟩
theorem CO.of_inv {H H' : Hp} {s s' : Shared} {B : Around} {σ' : L2.St} (h : CO X fp sx s4 H4 H s) (I : Inv (gCx X scope code fp s4 H4 B ext) (pinsAt sx s.heap) σ' H' s') (hf : ∀ b ∈ fp, H' b = none) : CO X fp sx s4 H4 H' s' ∧ ∀ b ∈ sx, s'.heap.get? b = s.heap.get? b := by
  have pin : ∀ b ∈ sx, ∀ o, s.heap.get? b = some o → s'.heap.get? b = some o ∧ H' b = none := fun b hb o e => by
    have z := I.pin (b, o) (List.mem_append_right _ (mem_pinsAt hb e))
    exact ⟨z.1, z.2.1⟩
  refine ⟨⟨I.os, I.bare, I.base, I.hok, ?_, I.free, hf, fun b hb => ?_⟩, fun b hb => ?_⟩
  · obtain ⟨m, hm, _⟩ := I.loc
    exact ⟨m, hm⟩
  · obtain ⟨⟨o, e, d⟩, h2, h3⟩ := h.sx b hb
    obtain ⟨p1, p2⟩ := pin b hb o e
    exact ⟨⟨o, p1, d⟩, p2, h3⟩
  · obtain ⟨⟨o, e, d⟩, _⟩ := h.sx b hb
    rw [e, (pin b hb o e).1]
theorem seg_loop {Ag : Around} (S : GSt X pins σ scope own ext tg code H4 s4 J fp it tn) (hfr : Ag.frames = some X.stack) (hh : Ag.handled = none) {g : TG} {te : TE}
    (hg : PG (gCx X scope code fp s4 H4 (Ag.over (gLoop X tg elt iter scope pos it s4 code) []) ext) tg g) (he : PE (gCx X scope code fp s4 H4 (Ag.over (gLoop X tg elt iter scope pos it s4 code) []) ext) elt te)
    (W : Nat → Nat → Hp → Prop) (Dn : Hp → Prop) (Yd : Nat → Nat → V → Hp → Prop)
    (turn : ∀ i m H, W i m H → (J.stop i H ∧ Dn H) ∨ (J.go i H ∧ ∃ Yn : V → Hp → Prop, (∀ v H3, Yn v H3 → Yd i m v H3) ∧ ∀ x H', J.yld i H x H' → g x (gS σ own ext) H' fun σ2 H2 => te σ2 H2 Yn)) :
    ∀ n i m H s, m < n → W i m H → CO X fp sx s4 H4 H s → tn i s.heap →
      Seg (model X.prog X.w) Ag (fun n s0 r s1 => r = .ok .next ∧ gE X fp sx s4 H4 Dn n s0 s1) (gY X fp sx s4 H4 tn W Yd) n s (gLoop X tg elt iter scope pos it s4 code) ((model X.prog X.w).den (gLoop X tg elt iter scope pos it s4 code)) [] s := by
  have hB : (Ag.over (gLoop X tg elt iter scope pos it s4 code) []).frames = some (gEnv X scope s4.heap.objs.size code :: X.stack) := by
    show pushEnvs [gEnv X scope s4.heap.objs.size code] (pushEnvs [] Ag.frames) = _
    rw [hfr]
    rfl
  have hBh : (Ag.over (gLoop X tg elt iter scope pos it s4 code) []).handled = none := hh
  intro n
  induction n with
  | zero => exact fun i m H s hm => absurd hm (Nat.not_lt_zero _)
  | succ n ih =>
    intro i m H s hm w0 h0 t0
    have I0 := CO.inv S h0 hB hBh
    have ff : ∀ {H' : Hp}, (∀ b ∈ fp, H' b = none) → ∀ b ∈ fp, FpOk (gCx X scope code fp s4 H4 (Ag.over (gLoop X tg elt iter scope pos it s4 code) []) ext) (pinsAt sx s.heap) H' b := fun hn b hb => by
      refine ⟨hn b hb, Nat.ne_of_lt (S.lt b hb), I0.ok.exfs b hb, .inl hb, (I0.ok.exf b hb).2, fun p hp z => ?_⟩
      have q := (of_pinsAt (show p ∈ pinsAt sx s.heap by simpa [gCx] using hp)).1
      exact (h0.sx p.1 q).2.2.2.2.1 (z ▸ hb)
    show Seg _ Ag _ _ _ s _ ((compTurn (.GeneratorExp elt [⟨tg, iter, [], 0⟩] scope pos) 0 (.ref it) .none (gEnv X scope s4.heap.objs.size code)).onRaise (leaving (gEnv X scope s4.heap.objs.size code))) [] s
    rw [compTurn_gen, Sem.onRaise_eq_wrap]
    refine seg_bind_wrap (wpAny_standAt ?_)
    rcases turn i m H w0 with ⟨stop, dn⟩ | ⟨go, Yn, hYn, step⟩
    · refine seg_bind_wrap (wpAny_mono (S.turn.done (gCx X scope code fp s4 H4 (Ag.over (gLoop X tg elt iter scope pos it s4 code) []) ext) rfl rfl rfl rfl i _ s _ H (fun _ _ => False) I0 (ff h0.fr) t0 stop) (fun r s1 hr => ?_) fun _ _ z => False.elim z)
      obtain ⟨rfl, I1⟩ := hr
      obtain ⟨c1, x1⟩ := h0.of_inv I1 h0.fr
      exact seg_end (.ok .next) ⟨rfl, H, dn, c1, x1⟩
    · refine seg_bind_wrap (wpAny_mono (S.turn.item (gCx X scope code fp s4 H4 (Ag.over (gLoop X tg elt iter scope pos it s4 code) []) ext) rfl rfl rfl rfl i _ s _ H (fun _ _ => False) I0 (ff h0.fr) t0 go) (fun r s1 hr => ?_) fun _ _ z => False.elim z)
      obtain ⟨u, rfl, h1⟩ := hr
      refine seg_bind_wrap (wpAny_mono h1 (fun _ s2 h2 => ?_) fun _ _ z => False.elim z)
      obtain ⟨x, H2, I2, rx, y2, t2, f2⟩ := h2
      have I2p := I2.pinned (ff f2) (S.turn.obj _ _ t2)
      refine seg_bind_wrap (wpAny_mono (hg.run _ s2 _ H2 x u _ I2p rx (step x H2 y2)) (fun _ s3 h3 => ?_) fun _ _ z => False.elim z)
      obtain ⟨σ3, H3, I3, q3⟩ := h3
      simp only [List.forIn_nil]
      refine seg_bind_wrap (wpAny_pure ?_)
      simp only [if_true]
      have hy : ∀ v, yieldOut (gEnv X scope s4.heap.objs.size code) v = yieldValue v := fun v => by
        have q : (gEnv X scope s4.heap.objs.size code).scope.isCoroutine = false := S.ok.co
        simp only [yieldOut, q, Bool.false_eq_true, if_false]
      simp only [hy]
      rw [Sem.bind_eq_wrap', Sem.bind_eq_wrap', Sem.wrap_wrap, Sem.wrap_wrap]
      refine seg_wrap (wpAny_mono (he.run _ s3 σ3 H3 _ I3 q3) (fun v s5 h5 => ?_) fun _ _ z => False.elim z)
      obtain ⟨y, H5, I5, ry, q5⟩ := h5
      have pf : ∀ b ∈ fp, ∀ o, s2.heap.get? b = some o → s5.heap.get? b = some o ∧ H5 b = none := fun b hb o e => by
        have z := I5.pin (b, o) (List.mem_append_right _ (List.mem_append_right _ (mem_pinsAt hb e)))
        exact ⟨z.1, z.2.1⟩
      have f5 : ∀ b ∈ fp, H5 b = none := fun b hb => by
        obtain ⟨o, e, _⟩ := S.turn.obj _ _ t2 b hb
        exact (pf b hb o e).2
      have t5 : tn (i + 1) s5.heap := S.turn.keep _ _ _ t2 fun b hb o e => (pf b hb o e).1
      obtain ⟨c5, x5⟩ := h0.of_inv I5.unpinned f5
      refine seg_at (seg_yield rfl rfl rfl ⟨y, i, m, H5, ry, hYn _ _ q5, c5, t5, x5, Nat.lt_succ_iff.mp hm, fun m' s' hm' w' kp => ?_⟩)
      refine seg_again rfl (ih (i + 1) m' H5 s' (Nat.lt_of_lt_of_le hm' (Nat.lt_succ_iff.mp hm)) w' (c5.kp kp) (S.turn.keep _ _ _ t5 fun b hb o e => kp.keep b o (fun z => (c5.sx b z).2.2.2.2.1 hb) e))
theorem seg_first {Ag : Around} (S : GSt X pins σ scope own ext tg code H4 s4 J fp it tn) (hh : Ag.handled = none) {R : GenEnd} {Y : Protocol} {n : Nat} {s0 s : Shared} (t0 : tn 0 s.heap)
    (loop : Seg (model X.prog X.w) Ag R Y n s0 (gLoop X tg elt iter scope pos it s4 code) ((model X.prog X.w).den (gLoop X tg elt iter scope pos it s4 code)) [] s) :
    Seg (model X.prog X.w) Ag R Y n s0 (gFirst X tg elt iter scope pos it s4 code) ((model X.prog X.w).den (gFirst X tg elt iter scope pos it s4 code)) [] s := by
  show Seg _ Ag _ _ _ s0 _ ((compStart (.GeneratorExp elt [⟨tg, iter, [], 0⟩] scope pos) 0 (.ref it) .none (gEnv X scope s4.heap.objs.size code)).onRaise (leaving (gEnv X scope s4.heap.objs.size code))) [] s
  unfold compStart
  rw [Sem.onRaise_eq_wrap]
  show Seg _ Ag _ _ _ s0 _ ((ask >>= _).wrap _ _ _ _) [] s
  refine seg_bind_wrap (wpAny_askSetting ?_)
  split
  · exact seg_again rfl loop
  · first
      | exact seg_bind_wrap (wpAny_rule (seg_bind_wrap (wpAny_standAt (seg_bind_wrap (S.turn.self _ 0 s _ _ t0 (seg_again rfl loop))))))
      | (refine seg_bind_wrap (wpAny_rule ?_); show Seg _ Ag _ _ _ s0 _ ((standAt iter.pos >>= _).wrap _ _ _ _) [] s; exact seg_bind_wrap (wpAny_standAt (seg_bind_wrap (S.turn.self _ 0 s _ _ t0 (seg_again rfl loop)))))
theorem lim_of {H : Hp} {s : Shared} (S : GSt X pins σ scope own ext tg code H4 s4 J fp it tn) (h : CO X fp sx s4 H4 H s) : s.heap.NoLimit := by
  refine S.inv.ok.mod.nolimit.keeps fun b o e => ?_
  obtain ⟨e1, e2⟩ := S.inv.bs b o e
  refine h.un.keep b o e1 e2 (fun z => ?_) fun z => ?_
  · have q := (S.inv.env0.funs.mem z).1
    rw [e] at q
    cases q
  · rcases (S.fpo b z).2.2.2.1 with q | q
    · exact S.inv.ok.noex b o e q
    · exact absurd (Nat.lt_of_lt_of_le (Heap.lt_size e) (Nat.le_trans S.inv.ok.bsz q)) (Nat.lt_irrefl _)
/-- the generator at ga, its state kept at gi, asleep; n: how often it may be woken -/
structure GA (X : Cx) (fp sx : List Addr) (s4 : Shared) (H4 : Hp) (tn : Nat → Heap → Prop) (W : Nat → Nat → Hp → Prop) (Dn : Hp → Prop) (Yd : Nat → Nat → V → Hp → Prop) (Ag : Around) (ga : Addr) (gi n : Nat) (s : Shared) : Prop where
  gen : s.heap.IsGen ga gi
  mem : ga ∈ sx
  co : ∃ H, CO X fp sx s4 H4 H s
  goes : ∃ gs, s.gens[gi]? = some gs ∧ ∀ s', Kp sx s s' → gs.Goes (model X.prog X.w) Ag (fun n s0 r s1 => r = .ok .next ∧ gE X fp sx s4 H4 Dn n s0 s1) (gY X fp sx s4 H4 tn W Yd) n (.send .none) s'
theorem AllBare.set {s : Shared} {g : Nat} {x : GenState} (h : AllBare s.gens) (hx : x.bare = true) : AllBare (s.setGen g x).gens := fun y hy => by
  obtain ⟨j, hj, e⟩ := Array.mem_iff_getElem.mp hy
  by_cases q : g = j
  · subst q
    simp [Shared.setGen] at e
    exact e ▸ hx
  · have hj' : j < s.gens.size := by simpa [Shared.setGen] using hj
    have e2 : y = s.gens[j] := by
      rw [← e]
      simp only [Shared.setGen]
      exact Array.getElem_setIfInBounds_ne hj' q
    rw [e2]
    exact h _ (Array.getElem_mem hj')
theorem CO.any {H : Hp} {s s' : Shared} (h : CO X fp sx s4 H4 H s) (os : s'.os = s.os) (bare : AllBare s'.gens) (k : ∀ b o, s.heap.get? b = some o → s'.heap.get? b = some o) : CO X fp sx s4 H4 H s' :=
  h.kp ⟨os, bare, fun b o _ e => k b o e, fun b hb => let ⟨⟨o, e, d⟩, _⟩ := h.sx b hb; ⟨o, k b o e, d⟩⟩
theorem gen_next {Ap : Around} {W : Nat → Nat → Hp → Prop} {Dn : Hp → Prop} {Yd : Nat → Nat → V → Hp → Prop} {ga : Addr} {gi n : Nat} {s : Shared} {E : Value → Shared → Prop} (S : GSt X pins σ scope own ext tg code H4 s4 J fp it tn) (hh : Ap.handled = none) (hd : Ap.depth < recursionLimit)
    (h : GA X fp sx s4 H4 tn W Dn Yd Ap.in1 ga gi (n + 1) s) :
    wpAny (model X.prog X.w) Ap (pyNext (.ref ga)) (fun r s1 => (r = none ∧ ∃ H, Dn H ∧ CO X fp sx s4 H4 H s1 ∧ ∀ b ∈ sx, s1.heap.get? b = s.heap.get? b) ∨
      ∃ v y i m H, r = some v ∧ RelV y v ∧ Yd i m y H ∧ CO X fp sx s4 H4 H s1 ∧ (∀ b ∈ sx, s1.heap.get? b = s.heap.get? b) ∧ m ≤ n ∧ ∀ m', m' < m → W (i + 1) m' H → GA X fp sx s4 H4 tn W Dn Yd Ap.in1 ga gi n s1) E s := by
  obtain ⟨hg, hm, ⟨H0, c0⟩, gs, hgs, hgo⟩ := h
  have hlt : gi + 1 ≤ s.gens.size := by
    by_cases q : gi < s.gens.size
    · exact q
    · rw [Array.getElem?_eq_none (Nat.le_of_not_lt q)] at hgs
      cases hgs
  refine GenW.wpAny_gsz hlt (wpAny_pyNext_genexpQ (P := gE X fp sx s4 H4 Dn) hh (lim_of S c0) hd hg hgs (hgo _ ⟨rfl, AllBare.set c0.bare rfl, fun _ _ _ e => e, fun b hb => (c0.sx b hb).1⟩) (fun v s1 gs' hb hy hsz => ?_) (fun s1 he h' hk _ => ?_))
  · obtain ⟨y, i, m, H, ry, yd, c1, t1, x1, hmn, hka⟩ := hy
    have c2 : CO X fp sx s4 H4 H (s1.setGen gi gs') := c1.any rfl (AllBare.set c1.bare hb) fun _ _ e => e
    refine .inr ⟨v, y, i, m, H, rfl, ry, yd, c2, x1, hmn, fun m' hm' w' => ⟨?_, hm, ⟨H, c2⟩, gs', ?_, fun s' kp => ?_⟩⟩
    · obtain ⟨o, nm, qn, ho, r⟩ := hg
      exact ⟨o, nm, qn, (x1 ga hm).trans ho, r⟩
    · have hsz2 : gi < s1.gens.size := by
        have q : (s1.setGen gi gs').gens.size = s1.gens.size := GenW.setGen_size _ _ _
        rw [q] at hsz
        exact hsz
      simp [Shared.setGen, hsz2]
    · exact hka m' s' hm' w' ⟨kp.os, kp.bare, kp.keep, kp.own⟩
  · obtain ⟨H, dn, c1, x1⟩ := he
    have c2 : CO X fp sx s4 H4 H { s1.setGen gi .finished with heap := h' } := c1.any rfl (AllBare.set c1.bare rfl) hk
    refine .inl ⟨rfl, H, dn, c2, fun b hb => ?_⟩
    obtain ⟨⟨o, e, _⟩, _⟩ := c1.sx b hb
    exact (hk b o e).trans (e.symm.trans (x1 b hb))
theorem any_walk {W : Nat → Nat → Hp → Prop} {QT QF : Hp → Prop} {ga : Addr} {gi : Nat} {R : Result → Shared → Prop} (S : GSt X pins σ scope own ext tg code H4 s4 J fp it tn) (hh : X.A.handled = none) (hd : X.A.depth < recursionLimit)
    (hR : ∀ (b : Bool) (H : Hp) (s' : Shared), (if b = true then QT H else QF H) → CO X fp sx s4 H4 H s' → R (.ok (.ret (.bool b))) s') :
    ∀ n s, GA X fp sx s4 H4 tn W QF (fun i m y H => ∃ b, y = V.bl b ∧ if b = true then QT H else ∃ m', m' < m ∧ W (i + 1) m' H) X.A.in1.in1 ga gi (n + 1) s → codeAny (model X.prog X.w) X.A (.builtin "any.loop" ⟨[.ref ga], []⟩) R s := by
  intro n
  induction n with
  | zero =>
    intro s h
    refine codeAny_builtin F.entry_any_loop ?_
    rw [Around.under_plainId F.plain_any_loop _]
    show wpAny _ X.A.in1 (pyNext (.ref ga) >>= _) _ _ s
    refine wpAny_bind (wpAny_mono (gen_next (E := fun _ _ => False) S hh hd h) (fun r s1 hr => ?_) fun _ _ z => False.elim z)
    rcases hr with ⟨rfl, H, dn, c1, _⟩ | ⟨v, y, i, m, H, rfl, ry, ⟨b, rfl, yd⟩, c1, _, hm, _⟩
    · exact wpAny_bind (wpAny_rule (wpAny_pure (hR false H s1 (iteF dn) c1)))
    · obtain rfl : v = Value.bool b := ry
      refine wpAny_bind (wpAny_holding (wpAny_truthy_bool (wpAny_bind (wpAny_letGo ?_))))
      cases b with
      | true => exact wpAny_bind (wpAny_rule (wpAny_pure (hR true H s1 yd c1)))
      | false =>
        obtain ⟨m', hm', _⟩ : ∃ m', m' < m ∧ W (i + 1) m' H := yd
        omega
  | succ n ih =>
    intro s h
    refine codeAny_builtin F.entry_any_loop ?_
    rw [Around.under_plainId F.plain_any_loop _]
    show wpAny _ X.A.in1 (pyNext (.ref ga) >>= _) _ _ s
    refine wpAny_bind (wpAny_mono (gen_next (E := fun _ _ => False) S hh hd h) (fun r s1 hr => ?_) fun _ _ z => False.elim z)
    rcases hr with ⟨rfl, H, dn, c1, _⟩ | ⟨v, y, i, m, H, rfl, ry, ⟨b, rfl, yd⟩, c1, _, hm, more⟩
    · exact wpAny_bind (wpAny_rule (wpAny_pure (hR false H s1 (iteF dn) c1)))
    · obtain rfl : v = Value.bool b := ry
      refine wpAny_bind (wpAny_holding (wpAny_truthy_bool (wpAny_bind (wpAny_letGo ?_))))
      cases b with
      | true => exact wpAny_bind (wpAny_rule (wpAny_pure (hR true H s1 yd c1)))
      | false =>
        obtain ⟨m', hm', w'⟩ : ∃ m', m' < m ∧ W (i + 1) m' H := yd
        exact wpAny_pure ⟨plainId_quiet F.plain_any_loop _, ih s1 (more m' hm' w')⟩
theorem all_walk {W : Nat → Nat → Hp → Prop} {QT QF : Hp → Prop} {ga : Addr} {gi : Nat} {R : Result → Shared → Prop} (S : GSt X pins σ scope own ext tg code H4 s4 J fp it tn) (hh : X.A.handled = none) (hd : X.A.depth < recursionLimit)
    (hR : ∀ (b : Bool) (H : Hp) (s' : Shared), (if b = true then QT H else QF H) → CO X fp sx s4 H4 H s' → R (.ok (.ret (.bool b))) s') :
    ∀ n s, GA X fp sx s4 H4 tn W QT (fun i m y H => ∃ b, y = V.bl b ∧ if b = false then QF H else ∃ m', m' < m ∧ W (i + 1) m' H) X.A.in1.in1 ga gi (n + 1) s → codeAny (model X.prog X.w) X.A (.builtin "all.loop" ⟨[.ref ga], []⟩) R s := by
  intro n
  induction n with
  | zero =>
    intro s h
    refine codeAny_builtin F.entry_all_loop ?_
    rw [Around.under_plainId F.plain_all_loop _]
    show wpAny _ X.A.in1 (pyNext (.ref ga) >>= _) _ _ s
    refine wpAny_bind (wpAny_mono (gen_next (E := fun _ _ => False) S hh hd h) (fun r s1 hr => ?_) fun _ _ z => False.elim z)
    rcases hr with ⟨rfl, H, dn, c1, _⟩ | ⟨v, y, i, m, H, rfl, ry, ⟨b, rfl, yd⟩, c1, _, hm, _⟩
    · exact wpAny_bind (wpAny_rule (wpAny_pure (hR true H s1 (iteT dn) c1)))
    · obtain rfl : v = Value.bool b := ry
      refine wpAny_bind (wpAny_holding (wpAny_truthy_bool (wpAny_bind (wpAny_letGo ?_))))
      cases b with
      | false => exact wpAny_bind (wpAny_rule (wpAny_pure (hR false H s1 yd c1)))
      | true =>
        obtain ⟨m', hm', _⟩ : ∃ m', m' < m ∧ W (i + 1) m' H := yd
        omega
  | succ n ih =>
    intro s h
    refine codeAny_builtin F.entry_all_loop ?_
    rw [Around.under_plainId F.plain_all_loop _]
    show wpAny _ X.A.in1 (pyNext (.ref ga) >>= _) _ _ s
    refine wpAny_bind (wpAny_mono (gen_next (E := fun _ _ => False) S hh hd h) (fun r s1 hr => ?_) fun _ _ z => False.elim z)
    rcases hr with ⟨rfl, H, dn, c1, _⟩ | ⟨v, y, i, m, H, rfl, ry, ⟨b, rfl, yd⟩, c1, _, hm, more⟩
    · exact wpAny_bind (wpAny_rule (wpAny_pure (hR true H s1 (iteT dn) c1)))
    · obtain rfl : v = Value.bool b := ry
      refine wpAny_bind (wpAny_holding (wpAny_truthy_bool (wpAny_bind (wpAny_letGo ?_))))
      cases b with
      | false => exact wpAny_bind (wpAny_rule (wpAny_pure (hR false H s1 yd c1)))
      | true =>
        obtain ⟨m', hm', w'⟩ : ∃ m', m' < m ∧ W (i + 1) m' H := yd
        exact wpAny_pure ⟨plainId_quiet F.plain_all_loop _, ih s1 (more m' hm' w')⟩
end
/-! ### made -/
section
variable {X : Cx} {pins : List (Addr × Obj)} {σ : L2.St} {H : Hp} {s : Shared} {scope : Scope} {own : List (Str × Nat)} {ext : List Str} {tg elt iter : Expr} {pos : Pos} {c P : Addr} {wi : TI} {k : Nat}
theorem gen_eval {R : It → Hp → Prop} {Q' : Value → Shared → Prop} (hr : Room k X.A) (TB : GxR.TabB X.base X.mg c P) (hcode : X.env.code = .ref c) (G : GOk X.N X.env.scope scope own ext) (hi : PI X tg iter wi) (hs : ∀ v, genFold iter X.env v = pure v)
    (I : Inv X pins σ H s) (h : wi σ H fun J H1 => GxR.TabG H1 P ∧ R J H1)
    (hQ : ∀ (J : It) (fp : List Addr) (it : Addr) (tn : Nat → Heap → Prop) (H1 H4 : Hp) (s4 s5 : Shared) (code : Value) (ga : Addr) (gi : Nat), R J H1 → GxR.Tabbed P H1 H4 → GSt X pins σ scope own ext tg code H4 s4 J fp it tn → tn 0 s5.heap → CO X fp [ga] s4 H4 H4 s5 →
      s5.heap.IsGen ga gi → s5.gens[gi]? = some (.fresh (gFirst X tg elt iter scope pos it s4 code)) → Q' (.ref ga) s5) :
    wpAny (model X.prog X.w) X.A (eval (.GeneratorExp elt [⟨tg, iter, [], 0⟩] scope pos) X.env) Q' X.xe s := by
  refine wpAny_GeneratorExp_make G.co (closure_ok (free_cells I G)) G.cell G.dot G.blk.kind hr.depth (thn (hi.run pins s σ H _ I h) fun xv s1 h1 => thn h1 fun itv s2 h2 => ?_) hs
  obtain ⟨it, fp, tn, J, H1, rfl, I2, T, t2, f2, ⟨ps, hP, ht⟩, q⟩ := h2
  have hPs : s2.heap.get? P = some { cls := .none, data := .fields ps } := I2.hok P _ hP
  have cd : PySem.W.CodeHd s2.heap c P := TB.code.keeps fun b u e => I2.bk b u e
  have nP : ∀ b ∈ fp, b ≠ P := fun b hb z => by
    have z2 := (f2 b hb).1
    rw [z, hP] at z2
    cases z2
  refine ⟨I2.nolimit, ?_⟩
  have cont : ∀ (code : Value) (h3 : Heap) (tk : Nat) (more : Array Value), Heap.ExtBut P s2.heap h3 → h3.get? P = some { cls := .none, data := .fields (ps ++ more) } → TriplesOk (ps ++ more).toList →
      wpAny (model X.prog X.w) X.A (builtinsFor X.env.globals X.env.builtins) (fun bi s₄ => ∀ h', h'.Ns s₄.heap.objs.size (fun y => if y = ".0" then some (.ref it) else none) → Heap.SameBut s₄.heap.objs.size (s₄.heap.push { cls := .type "frame", data := .dict #[] }) h' →
          Q' (.ref h'.objs.size) { s₄ with
            gens := s₄.gens.push (.fresh (.compStart (.GeneratorExp elt [⟨tg, iter, [], 0⟩] scope pos) 0 (.ref it) .none (genEnv scope (cloFrom X.env.cells scope.names []) s₄.heap.objs.size code bi X.env))),
            toks := s₄.toks + 1 + 1 + 1,
            heap := h'.push { cls := .type "generator", data := .fields #[.int s₄.gens.size 0, .str "<genexpr>" (s₄.toks + 1), .str (X.env.qual ++ "<genexpr>") (s₄.toks + 1 + 1)] } }) X.xe { s2 with heap := h3, toks := tk } := by
    intro code h3 tk more hx h3P ht3
    have I4 := GxR.inv_tab (more := more) (h' := h3) (g' := s2.gens) (d' := s2.drawn) (t' := tk) I2 hP (fun b u hb e => hx b u hb e) h3P I2.bare
    obtain ⟨bm, ob, e1, e2, e3, e4, e5, e6, e7, e8⟩ := TB.bm
    refine wpAny_builtinsFor (m := X.mg) (by rw [I4.ok.glob]; exact I4.mod.glob.keeps I4.bk) e1 e2 (I4.bk _ _ e5) e6 e7 e8 ?_
    intro h' hn' hs'
    have keep1 : ∀ b o, h3.get? b = some o → h'.get? b = some o := fun b o e => hs'.extBut b o (Nat.ne_of_lt (Heap.lt_size e)) (Heap.get?_push_of_some _ e)
    have sz' : h'.objs.size = h3.objs.size + 1 := by rw [hs'.1, Heap.size_push]
    have keep5 : ∀ b o, h3.get? b = some o → (h'.push { cls := .type "generator", data := .fields #[.int s2.gens.size 0, .str "<genexpr>" (tk + 1), .str (X.env.qual ++ "<genexpr>") (tk + 1 + 1)] }).get? b = some o := fun b o e => Heap.get?_push_of_some _ (keep1 b o e)
    have f4 : ∀ b ∈ fp, FpOk X pins (upd H1 P (.tbl (ps ++ more))) b := fun b hb => ⟨by rw [upd_ne (nP b hb)]; exact (f2 b hb).1, (f2 b hb).2⟩
    have t4 : tn 0 h3 := T.keep _ _ _ t2 fun b hb o e => hx b o (nP b hb) e
    have lt : ∀ b ∈ fp, b < h3.objs.size := fun b hb => by
      obtain ⟨o, e, _⟩ := T.obj _ _ t4 b hb
      exact Heap.lt_size e
    have S : GSt X pins σ scope own ext tg code (upd H1 P (.tbl (ps ++ more))) { s2 with heap := h3, toks := tk } J fp it tn := ⟨I4, G, T, f4, lt⟩
    have nga : ∀ b, h3.objs.size ≤ b → upd H1 P (.tbl (ps ++ more)) b = none := fun b hb => I4.hok.fresh hb
    refine hQ J fp it tn H1 _ { s2 with heap := h3, toks := tk } _ code h'.objs.size s2.gens.size q ⟨⟨_, upd_same, ht3⟩, fun b hb => upd_ne hb⟩ S (T.keep _ _ _ t4 fun b hb o e => keep5 b o e) ⟨rfl, AllBare.push I2.bare rfl, Un.kept keep5, I4.hok.kept keep5, ⟨_, hn'.push _⟩, nga _ (Nat.le_refl _), fun b hb => (f4 b hb).1, fun b hb => ?_⟩ ?_ ?_
    · obtain rfl : b = h'.objs.size := by simpa using hb
      refine ⟨⟨_, Heap.get?_push_size _ rfl, fun v z => by cases z⟩, nga _ (by omega), ?_, fun z => ?_, fun z => ?_, ?_⟩
      · show h'.objs.size ≠ h3.objs.size
        omega
      · rcases List.mem_cons.mp (I4.stkSub _ z) with e | e
        · have z2 := I4.lt
          rw [← e] at z2
          have z3 : h'.objs.size < h3.objs.size := z2
          omega
        · exact I4.nofs (show h3.objs.size ≤ h'.objs.size by omega) e
      · have q5 : (h'.objs.size : Nat) < h3.objs.size := lt _ z
        omega
      · show h3.get? h'.objs.size = none
        cases e : h3.get? h'.objs.size with
        | none => rfl
        | some o =>
          have q5 : (h'.objs.size : Nat) < h3.objs.size := Heap.lt_size e
          omega
    · exact ⟨_, _, _, Heap.get?_push_size _ rfl, rfl, rfl, rfl⟩
    · exact Array.getElem?_push_size ..
  cases hf : codeAmong pos ps.toList with
  | none =>
    refine wpAny_genexprCodeX hcode (cd.code hPs ht) (cd.tab hPs) hf fun c' h' tk hx hge hlt hco' _ htab' _ => ?_
    obtain ⟨o1, vs, f1, tf, fl, tg', inF, tx, tt, op, _, _, _, _, _, _, _, _, _, htr, _⟩ := hco'
    exact cont _ h' tk _ hx htab'.2 htr
  | some cv =>
    refine wpAny_genexprCode_hit hcode (cd.code hPs ht) hf ?_
    exact cont cv s2.heap s2.toks #[] (Heap.ExtBut.refl _ _) (by simpa using hPs) (by simpa using ht)
/-- any(..), all(..) of the expression; behind it the def's table may have grown -/
def tGen (P : Addr) (wi : TI) (g : TG) (te : TE) (own : List (Str × Nat)) (ext : List Str) (stopAt : Bool) : TE := fun σ H Q => wi σ H fun J H1 => GxR.TabG H1 P ∧ ∀ H2, GxR.Tabbed P H1 H2 → ∃ W : Nat → Nat → Hp → Prop, (∃ m, W 0 m H2) ∧
  ∀ i m H, W i m H → (J.stop i H ∧ Q (.bl (!stopAt)) H) ∨ (J.go i H ∧ ∃ N : Hp → Prop, (∀ H', N H' → ∃ m', m' < m ∧ W (i + 1) m' H') ∧ ∀ x H', J.yld i H x H' → g x (gS σ own ext) H' fun σ2 H2 => te σ2 H2 fun v H3 => ∃ b, v = V.bl b ∧ if b = stopAt then Q (.bl stopAt) H3 else N H3)
theorem turn_of {J : It} {g : TG} {te : TE} {σg : L2.St} {W : Nat → Nat → Hp → Prop} {Q : VK} {st : Bool} (turn : ∀ i m H, W i m H → (J.stop i H ∧ Q (.bl (!st)) H) ∨ (J.go i H ∧ ∃ N : Hp → Prop, (∀ H', N H' → ∃ m', m' < m ∧ W (i + 1) m' H') ∧
      ∀ x H', J.yld i H x H' → g x σg H' fun σ2 H2 => te σ2 H2 fun v H3 => ∃ b, v = V.bl b ∧ if b = st then Q (.bl st) H3 else N H3)) (i m : Nat) (H : Hp) (w : W i m H) :
    (J.stop i H ∧ Q (.bl (!st)) H) ∨ (J.go i H ∧ ∃ Yn : V → Hp → Prop, (∀ v H3, Yn v H3 → ∃ b, v = V.bl b ∧ if b = st then Q (.bl st) H3 else ∃ m', m' < m ∧ W (i + 1) m' H3) ∧ ∀ x H', J.yld i H x H' → g x σg H' fun σ2 H2 => te σ2 H2 Yn) := by
  rcases turn i m H w with z | ⟨go, N, hN, step⟩
  · exact .inl z
  · refine .inr ⟨go, _, fun v H3 ⟨b, e, q⟩ => ⟨b, e, ?_⟩, step⟩
    by_cases hb : b = st
    · rw [if_pos hb] at q ⊢
      exact q
    · rw [if_neg hb] at q ⊢
      exact hN _ q
theorem room_over {Ag : Around} {c : Code} (hr : Room (k + 1) Ag) (h1 : c.weight = 1) (h2 : c.cUnits = 3) : Room k (Ag.over c []) := by
  refine ⟨hr.hd, ?_, ?_⟩
  · have := hr.dp
    show Ag.depth + frameCount [] + c.weight + 3 * k + 5 < _
    rw [h1]
    show Ag.depth + 0 + 1 + 3 * k + 5 < _
    omega
  · have := hr.un
    show Ag.units + unitsOf [] + c.cUnits + 16 * k + 200 < _
    rw [h2]
    show Ag.units + 0 + 3 + 16 * k + 200 < _
    omega
theorem room_in1 {Ag : Around} (hr : Room (k + 1) Ag) : Room k Ag.in1.in1 := by
  refine ⟨hr.hd, ?_, ?_⟩
  · have := hr.dp
    show Ag.depth + 3 * k + 5 < _
    omega
  · have := hr.un
    show Ag.units + 1 + 1 + 16 * k + 200 < _
    omega
theorem EP_of {H4 H' : Hp} {s4 s' : Shared} {J : It} {fp sx : List Addr} {it : Addr} {tn : Nat → Heap → Prop} {code : Value} {Q : VK} {v : V} {u : Value} (S : GSt X pins σ scope own ext tg code H4 s4 J fp it tn) (h : CO X fp sx s4 H4 H' s') (r : RelV v u) (q : Q v H') : EP X pins σ Q u s' :=
  ⟨v, H', S.inv.call' h.os h.un h.hok h.bare fun b hb => ⟨(S.fpo b hb).2.2.2.1, (S.fpo b hb).2.1, (S.fpo b hb).2.2.2.2.1, (S.fpo b hb).2.2.2.2.2⟩, r, q⟩
section
variable {g : TG} {te : TE} {p cpos : Pos}
theorem pe_anyG (hr : Room (k + 2) X.A) (hg : Gl X "any") (hm : X.mg "any" = none) (TB : GxR.TabB X.base X.mg c P) (hcode : X.env.code = .ref c) (G : GOk X.N X.env.scope scope own ext) (hi : PI X tg iter wi)
    (ht : ∀ (code : Value) (fp : List Addr) (s4 : Shared) (H4 : Hp) (B : Around), PG (gCx X scope code fp s4 H4 B ext) tg g) (he : ∀ (code : Value) (fp : List Addr) (s4 : Shared) (H4 : Hp) (B : Around), Room k B → PE (gCx X scope code fp s4 H4 B ext) elt te)
    (hs : ∀ v, genFold iter X.env v = pure v := by intro _; rfl) (hst : starEach [.GeneratorExp elt [⟨tg, iter, [], 0⟩] scope pos] X.env = (false, eval (.GeneratorExp elt [⟨tg, iter, [], 0⟩] scope pos) X.env) :: starEach [] X.env := by rfl) :
    PE X (.Call (.Name "any" p) [.GeneratorExp elt [⟨tg, iter, [], 0⟩] scope pos] [] cpos) (tGen P wi g te own ext true) := by
  constructor
  intro pins s σ H Q I h
  refine wpAny_Call_Name_kw (ld_blt I hg hm boot_any (PyProof.Rows.callWith_builtin1 ?_ hst (by rfl)))
  rw [hst]
  show wpAny _ _ (spliced ((false, eval (.GeneratorExp elt [⟨tg, iter, [], 0⟩] scope pos) X.env) :: backTo cpos (starEach [] X.env))) _ _ s
  refine Calls.spliced_cons (gen_eval hr TB hcode G hi hs I h fun J fp it tn H1 H4 s4 s5 code ga gi q htab S t5 c5 hgen hgs => Calls.spliced_nil ?_)
  obtain ⟨W, ⟨m, w0⟩, turn⟩ := q H4 htab
  have rm : Room k (X.A.in1.in1.over (gLoop X tg elt iter scope pos it s4 code) []) := room_over (room_in1 hr) rfl rfl
  refine call_function_tree F.kind_any F.plain_any F.entry_any (F.args_any1 _) ?_
  unfold Builtin.«any»
  refine wpAny_bind (m := oneArg "any" _) (wpAny_pure (wpAny_bind (wpAny_pyIter_gen hgen ?_)))
  refine wpAny_pure ⟨plainId_quiet F.plain_any_loop _, any_walk (W := W) (QT := Q (.bl true)) (QF := Q (.bl false)) S hr.hd hr.depth (fun b H' s' hb hc => EP_of (v := .bl b) S hc rfl (by cases b <;> exact hb)) m s5 ⟨hgen, List.mem_cons_self, ⟨H4, c5⟩, _, hgs, fun s' kp => ⟨rfl, ?_⟩⟩⟩
  have t6 : tn 0 s'.heap := S.turn.keep _ _ _ t5 fun b hb o e => kp.keep b o (fun z => (c5.sx b z).2.2.2.2.1 hb) e
  exact seg_first (Ag := X.A.in1.in1) S hr.hd t6 (seg_loop (Ag := X.A.in1.in1) S S.inv.ok.frames hr.hd (ht ..) (he _ _ _ _ _ rm) W _ _ (turn_of (st := true) turn) (m + 1) 0 m H4 s' (Nat.lt_succ_self m) w0 (c5.kp kp) t6)
theorem pe_allG (hr : Room (k + 2) X.A) (hg : Gl X "all") (hm : X.mg "all" = none) (hb : bootBuiltins "all" = some (.builtin "all")) (TB : GxR.TabB X.base X.mg c P) (hcode : X.env.code = .ref c) (G : GOk X.N X.env.scope scope own ext) (hi : PI X tg iter wi)
    (ht : ∀ (code : Value) (fp : List Addr) (s4 : Shared) (H4 : Hp) (B : Around), PG (gCx X scope code fp s4 H4 B ext) tg g) (he : ∀ (code : Value) (fp : List Addr) (s4 : Shared) (H4 : Hp) (B : Around), Room k B → PE (gCx X scope code fp s4 H4 B ext) elt te)
    (hs : ∀ v, genFold iter X.env v = pure v := by intro _; rfl) (hst : starEach [.GeneratorExp elt [⟨tg, iter, [], 0⟩] scope pos] X.env = (false, eval (.GeneratorExp elt [⟨tg, iter, [], 0⟩] scope pos) X.env) :: starEach [] X.env := by rfl) :
    PE X (.Call (.Name "all" p) [.GeneratorExp elt [⟨tg, iter, [], 0⟩] scope pos] [] cpos) (tGen P wi g te own ext false) := by
  constructor
  intro pins s σ H Q I h
  refine wpAny_Call_Name_kw (ld_blt I hg hm hb (PyProof.Rows.callWith_builtin1 ?_ hst (by rfl)))
  rw [hst]
  show wpAny _ _ (spliced ((false, eval (.GeneratorExp elt [⟨tg, iter, [], 0⟩] scope pos) X.env) :: backTo cpos (starEach [] X.env))) _ _ s
  refine Calls.spliced_cons (gen_eval hr TB hcode G hi hs I h fun J fp it tn H1 H4 s4 s5 code ga gi q htab S t5 c5 hgen hgs => Calls.spliced_nil ?_)
  obtain ⟨W, ⟨m, w0⟩, turn⟩ := q H4 htab
  have rm : Room k (X.A.in1.in1.over (gLoop X tg elt iter scope pos it s4 code) []) := room_over (room_in1 hr) rfl rfl
  refine call_function_tree F.kind_all F.plain_all F.entry_all (F.args_all1 _) ?_
  unfold Builtin.«all»
  refine wpAny_bind (m := oneArg "all" _) (wpAny_pure (wpAny_bind (wpAny_pyIter_gen hgen ?_)))
  refine wpAny_pure ⟨plainId_quiet F.plain_all_loop _, all_walk (W := W) (QT := Q (.bl true)) (QF := Q (.bl false)) S hr.hd hr.depth (fun b H' s' hb hc => EP_of (v := .bl b) S hc rfl (by cases b <;> exact hb)) m s5 ⟨hgen, List.mem_cons_self, ⟨H4, c5⟩, _, hgs, fun s' kp => ⟨rfl, ?_⟩⟩⟩
  have t6 : tn 0 s'.heap := S.turn.keep _ _ _ t5 fun b hb o e => kp.keep b o (fun z => (c5.sx b z).2.2.2.2.1 hb) e
  exact seg_first (Ag := X.A.in1.in1) S hr.hd t6 (seg_loop (Ag := X.A.in1.in1) S S.inv.ok.frames hr.hd (ht ..) (he _ _ _ _ _ rm) W _ _ (turn_of (st := false) turn) (m + 1) 0 m H4 s' (Nat.lt_succ_self m) w0 (c5.kp kp) t6)
end
end
end GX

/-! ### defs that hold a generator expression: their code objects' tables, and the end of a law that calls them -/
namespace GX
open PySem PySem.Spec PyProof.Rows L2 Cm
/-- the def x stands at some address, its code object at c -/
structure FunC (K : PySem.W.Frag) (x : Str) (st : Stmt) (f : Addr) (fd : FuncData) (c : Addr) : Prop where
  ex : ∃ (oc : Value) (od : Option Addr) (kV doc pm : Value) (an : Option Addr) (ct : Value) (osl : Array (Option Value)),
    fd = PySem.W.fnOf x x (defArgs st) (defBody st) (defScope st) .none kV doc pm an (.ref c) ct ∧ K.lookup f = some ⟨oc, od, .func fd, osl⟩ ∧ PySem.W.codeIn K (.ref c) x = true
  kp : PySem.W.keepIn K (.ref f) = true
def DnC (K : PySem.W.Frag) (mg : Str → Option Value) (x : Str) (st : Stmt) (ps : List Str) (c : Addr) : Prop := ∃ (f : Addr) (fd : FuncData), FunC K x st f fd c ∧ mg x = some (.ref f) ∧ Binds K fd ps []
theorem dnc_mk {K : PySem.W.Frag} {h : Heap} {mg : Str → Option Value} {x : Str} {ps : List Str} {st : Stmt} {f c : Addr} {oc : Value} {od an : Option Addr} {osl : Array (Option Value)} {kV doc pm ct : Value} (X : K.In h) (G : h.Ns mainGlobals mg) (a : PySem.W.nsIn K mainGlobals x = some (some (.ref f)))
    (l : K.lookup f = some ⟨oc, od, .func (PySem.W.fnOf x x (defArgs st) (defBody st) (defScope st) .none kV doc pm an (.ref c) ct), osl⟩) (e : PySem.W.codeIn K (.ref c) x = true) (k : PySem.W.keepIn K (.ref f) = true)
    (hb : ∀ (kV doc pm : Value) (an : Option Addr) (cdv ct : Value) (us : List Value), us.length = ps.length → bindArgs (PySem.W.fnOf x x (defArgs st) (defBody st) (defScope st) .none kV doc pm an cdv ct) ⟨us, []⟩ = pure (ps.zip us)) : DnC K mg x st ps c :=
  ⟨f, _, ⟨⟨_, _, _, _, _, _, _, _, rfl, l, e⟩, k⟩, PySem.W.mg_of X G a, (fun_mk l e k).binds hb⟩
theorem okc_of {P : Program} {w : World} {K : PySem.W.Frag} {mg : Str → Option Value} {base : Heap} {CX : CXT} {k : Nat} {x : Str} {st : Stmt} {N ps : List Str} {sp : Sp} {c : Addr} (d : DnC K mg x st ps c) (S : FnScope N ps (defScope st)) (len : ∀ vs H Q E, sp vs H Q E → vs.length = ps.length)
    (hbody : ∀ (f : Addr) (A : Around) (outer : List Env) (s : Shared) (H : Hp) (vs : List V) (Q : VK) (E : XK), Room k (A.deeper (envOfC x (defScope st) s.heap.objs.size f (.ref c))) → sp vs H Q E →
      ∃ t, PSs (cxOf CX P w K mg base N x (defScope st) f (.ref c) A outer s H E) (defBody st) t ∧ t { nx := fun _ H' => Q .non H', rt := Q } (L2.start N vs) H) : Ok P w K mg base CX (k + 1) x ps sp := by
  obtain ⟨f, fd, ⟨⟨oc, od, kV, doc, pm, an, ct, osl, rfl, lk, hcd⟩, kp⟩, g, b⟩ := d
  exact ⟨f, _, fn_of lk hcd S len fun A outer s H vs Q E hr hsp => hbody f A outer s H vs Q E hr hsp, g, kp, b⟩
theorem tb_of {base : Heap} {mg : Str → Option Value} {c P : Addr} (h : LamX.TabB base mg c P) : GxR.TabB base mg c P := ⟨h.code, h.bm, h.gP⟩
/-- law's promise where tables may grow -/
def spLawT (K : PySem.W.Frag) (Ps : List Addr) : Sp := fun vs H Q _ => ∃ (a : Addr) (ns : List Int), vs = [.ref a] ∧ SqL K H a (ns.map V.int) ∧ ns.length ≤ 63 ∧ (∀ P ∈ Ps, GxR.TabG H P) ∧ ∀ H', Q (.bl true) H'
theorem no_tab {K : PySem.W.Frag} {h : Heap} {P : Addr} (X : K.In h) (n : PySem.W.noTabs K = true) (e : h.get? P = some (PySem.W.tabObj #[])) : K.lookup P = none := by
  cases q : K.lookup P with
  | none => rfl
  | some o =>
    have z := X P o q
    rw [e] at z
    cases z
    have z2 := List.all_eq_true.mp n (P, _) (PySem.W.mem_of_lookupK q)
    exact absurd (show false = true from z2) (by decide)
theorem tabIn_mk {K : PySem.W.Frag} {x : Str} {f c P : Addr} {oc cc : Value} {od ce : Option Addr} {fd : FuncData} {sl cg : Array (Option Value)} {vs : Array Value} (h1 : PySem.W.nsIn K mainGlobals x = some (some (.ref f)))
    (h2 : K.lookup f = some ⟨oc, od, .func fd, sl⟩) (h3 : fd.code = .ref c) (h4 : K.lookup c = some ⟨cc, ce, .fields vs, cg⟩) (h5 : vs[11]? = some (.ref P)) : PySem.W.tabIn K x = some (c, P) := by
  unfold PySem.W.tabIn
  simp only [h1, h2, h3, h4, h5]
theorem walk_gx {l : PySem.W.OpenLaw} {k : Nat} {q : Program} {loose : List Str} {XP : (Str → Option Value) → Heap → Prop} {YP : World → Heap → Prop} {d : DefRec} {K : Params → PySem.W.Frag} {names : List Str} (hn : l.most = some 63) (hdf : d.params.defaults = []) (hr : Room k callerA)
    (hY : ∀ (w : World) (h : Heap), YP w h → (K w.params).In h) (hnt : ∀ w : World, PySem.W.noTabs (K w.params) = true) (hrec : ∀ x ∈ names, ((PyProof.Rows.recsOf q).find? fun e => e.name == x).isSome = true)
    (F : ∀ (w : World) (mg : Str → Option Value) (fa : Addr) (h : Heap), (K w.params).In h → h.Ns mainGlobals mg → mg d.name = some (.ref fa) → ∃ (fd : FuncData) (cs : List (Str × Addr × Addr)), (∀ t ∈ cs, t.1 ∈ names ∧ PySem.W.tabIn (K w.params) t.1 = some t.2) ∧
      (∀ (s : Shared) (u : Value), BindsTo s fd ⟨[u], []⟩ [("script", u)]) ∧ ∀ base : Heap, (K w.params).In base → base.Ns mainGlobals mg → (∀ t ∈ cs, LamX.TabB base mg t.2.1 t.2.2) → FnOk l.prog w (K w.params) mg base CX0 k fa fd ["script"] (spLawT (K w.params) (cs.map (·.2.2)))) :
    PySem.W.WalkO q loose XP YP l.row.toRowW d [] (fun f vs => PySem.call f vs) := by
  refine Att.attach_callB hn hdf fun w s0 s1 mg mb fa o pm cd doc a vs ns G Y ho hd hcd hmg hobj hints hlen hbits hg => ?_
  have KX := hY w _ Y
  obtain ⟨fd, cs, hcs, hb, hF⟩ := F w mg fa _ KX G.T.g hmg
  have tab : ∀ t ∈ cs, PySem.W.CodeHd s1.heap t.2.1 t.2.2 ∧ s1.heap.get? t.2.2 = some (PySem.W.tabObj #[]) := fun t ht => by
    obtain ⟨h1, h2⟩ := hcs t ht
    obtain ⟨dr, hdr⟩ := Option.isSome_iff_exists.mp (hrec _ h1)
    exact PySem.W.tab_of G.T KX hdr h2
  have of2 : ∀ p ∈ cs.map (·.2), ∃ t ∈ cs, t.2 = p := fun p hp => List.mem_map.mp hp
  refine LamX.law_callTs (cs := cs.map (·.2)) (sp := spLawT (K w.params) (cs.map (·.2.2))) KX G.T.g G.T.b G.T.builtins G.T.nolimit hg (fun p hp => ?_) (fun p hp => ?_) (fun p hp => ?_) G.T.bmain hobj hints (Nat.le_trans hlen (by decide)) hr (fun base k1 k2 k3 => hF base k1 k2 fun t ht => k3 t.2 (List.mem_map.mpr ⟨t, ht, rfl⟩)) hb (fun H hH hS => ?_) (fun _ _ _ z => z)
  · obtain ⟨t, ht, rfl⟩ := of2 p hp
    exact (tab t ht).2
  · obtain ⟨t, ht, rfl⟩ := of2 p hp
    exact no_tab KX (hnt w) (tab t ht).2
  · obtain ⟨t, ht, rfl⟩ := of2 p hp
    exact (tab t ht).1
  · refine ⟨a, ns, rfl, hS, hlen, fun P hP => ?_, fun _ => rfl⟩
    obtain ⟨t, ht, rfl⟩ := List.mem_map.mp hP
    exact ⟨#[], hH t.2 (List.mem_map.mpr ⟨t, ht, rfl⟩), True.intro⟩
/-! ### heaps in which tables may have grown -/
/-- all but tables stays; tables stay tables -/
structure Sm (H H' : Hp) : Prop where
  keep : ∀ b o, H b = some o → (∀ ps, o ≠ .tbl ps) → H' b = some o
  tab : ∀ P, GxR.TabG H P → GxR.TabG H' P
theorem Sm.refl (H : Hp) : Sm H H := ⟨fun _ _ e _ => e, fun _ t => t⟩
theorem Sm.trans {H H1 H2 : Hp} (a : Sm H H1) (b : Sm H1 H2) : Sm H H2 := ⟨fun c o e n => b.keep c o (a.keep c o e n) n, fun P t => b.tab P (a.tab P t)⟩
theorem Sm.of {H H' : Hp} (e : Same H H') : Sm H H' := ⟨fun b o q _ => e b o q, fun P ⟨ps, q, t⟩ => ⟨ps, e _ _ q, t⟩⟩
theorem Sm.tabbed {H H' : Hp} {P : Addr} (h : GxR.TabG H P) (e : GxR.Tabbed P H H') : Sm H H' := by
  obtain ⟨ps, hP, _⟩ := h
  refine ⟨fun b o q n => ?_, fun P' t => ?_⟩
  · rw [e.2 b fun z => n ps (Option.some.inj (q.symm.trans (z ▸ hP)))]
    exact q
  · by_cases z : P' = P
    · rw [z]
      exact e.1
    · obtain ⟨ps', q, t'⟩ := t
      exact ⟨ps', by rw [e.2 _ z]; exact q, t'⟩
theorem Sm.l {H H' : Hp} (e : Sm H H') {a : Addr} {xs : List V} (h : H a = some (.lst xs)) : H' a = some (.lst xs) := e.keep _ _ h fun _ z => by cases z
theorem Sm.t {H H' : Hp} (e : Sm H H') {a : Addr} {xs : List V} (h : H a = some (.tup xs)) : H' a = some (.tup xs) := e.keep _ _ h fun _ z => by cases z
theorem Sm.seq {K : PySem.W.Frag} {H H' : Hp} (e : Sm H H') {a : Addr} {xs : List V} (h : SqL K H a xs) : SqL K H' a xs := by
  rcases h with (h | ⟨o, h⟩) | h
  · exact .inl (.inl (e.l h))
  · exact .inl (.inr ⟨o, e.keep _ _ h fun _ z => by cases z⟩)
  · exact .inr h
theorem Sm.tup {K : PySem.W.Frag} {H H' : Hp} (e : Sm H H') {a : Addr} {xs : List V} (h : SqT K H a xs) : SqT K H' a xs := by
  rcases h with (h | ⟨o, h⟩) | h
  · exact .inl (.inl (e.t h))
  · exact .inl (.inr ⟨o, e.keep _ _ h fun _ z => by cases z⟩)
  · exact .inr h
mutual
theorem Sm.dp {K : PySem.W.Frag} {H H' : Hp} (e : Sm H H') : ∀ {d : PyData} {v : V}, Dp K H v d → Dp K H' v d
  | _, _, .non => .non
  | _, _, .bl b => .bl b
  | _, _, .int i => .int i
  | _, _, .str x => .str x
  | _, _, .lst h r => .lst (e.seq h) (e.dpAll r)
  | _, _, .tup h r => .tup (e.tup h) (e.dpAll r)
theorem Sm.dpAll {K : PySem.W.Frag} {H H' : Hp} (e : Sm H H') : ∀ {ds : List PyData} {vs : List V}, DpAll K H vs ds → DpAll K H' vs ds
  | _, _, .nil => .nil
  | _, _, .cons h r => .cons (e.dp h) (e.dpAll r)
end
/-! ### the forms one uses -/
section
variable {K : PySem.W.Frag} {a : Addr} {xs : List V} {g : TG} {te : TE} {σg : L2.St} {H1 : Hp} {P : Addr} {Q : VK} {st : Bool}
/-- over a list -/
theorem gen_list (Pv : Nat → Hp → Prop) (h0 : ∀ H2, GxR.Tabbed P H1 H2 → Pv 0 H2) (hl : ∀ i H, i ≤ xs.length → Pv i H → SqL K H a xs)
    (hs : ∀ i x H, xs[i]? = some x → Pv i H → g x σg H fun σ2 H2 => te σ2 H2 fun v H3 => ∃ b, v = V.bl b ∧ if b = st then Q (.bl st) H3 else Pv (i + 1) H3) (hd : ∀ H, Pv xs.length H → Q (.bl (!st)) H) :
    ∀ H2, GxR.Tabbed P H1 H2 → ∃ W : Nat → Nat → Hp → Prop, (∃ m, W 0 m H2) ∧ ∀ i m H, W i m H → ((Itl K a).stop i H ∧ Q (.bl (!st)) H) ∨ ((Itl K a).go i H ∧ ∃ N : Hp → Prop, (∀ H', N H' → ∃ m', m' < m ∧ W (i + 1) m' H') ∧
      ∀ x H', (Itl K a).yld i H x H' → g x σg H' fun σ2 H2 => te σ2 H2 fun v H3 => ∃ b, v = V.bl b ∧ if b = st then Q (.bl st) H3 else N H3) := by
  intro H2 tb
  refine ⟨fun i m H => m = xs.length - i ∧ i ≤ xs.length ∧ Pv i H, ⟨xs.length, by simp, Nat.zero_le _, h0 H2 tb⟩, ?_⟩
  rintro i m H ⟨rfl, hi, p⟩
  have q := hl i H hi p
  by_cases hlt : i < xs.length
  · refine .inr ⟨⟨xs, xs[i], q, List.getElem?_eq_getElem hlt⟩, Pv (i + 1), fun H' p' => ⟨xs.length - (i + 1), by omega, rfl, hlt, p'⟩, fun x H' y => ?_⟩
    obtain ⟨rfl, y⟩ := y
    exact hs i x H' (y xs q) p
  · obtain rfl : i = xs.length := by omega
    exact .inl ⟨⟨xs, q, Nat.le_refl _⟩, hd H p⟩
/-- over a tuple -/
theorem gen_listQ {QF QT : Hp → Prop} (Pv : Nat → Hp → Prop) (h0 : ∀ H2, GxR.Tabbed P H1 H2 → Pv 0 H2) (hl : ∀ i H, i ≤ xs.length → Pv i H → SqL K H a xs)
    (hs : ∀ i x H, xs[i]? = some x → Pv i H → g x σg H fun σ2 H2 => te σ2 H2 fun v H3 => ∃ b, v = V.bl b ∧ if b = st then QF H3 else Pv (i + 1) H3) (hd : ∀ H, Pv xs.length H → QT H) :
    ∀ H2, GxR.Tabbed P H1 H2 → ∃ W : Nat → Nat → Hp → Prop, (∃ m, W 0 m H2) ∧ ∀ i m H, W i m H → ((Itl K a).stop i H ∧ QT H) ∨ ((Itl K a).go i H ∧ ∃ N : Hp → Prop, (∀ H', N H' → ∃ m', m' < m ∧ W (i + 1) m' H') ∧
      ∀ x H', (Itl K a).yld i H x H' → g x σg H' fun σ2 H2 => te σ2 H2 fun v H3 => ∃ b, v = V.bl b ∧ if b = st then QF H3 else N H3) := by
  intro H2 tb
  refine ⟨fun i m H => m = xs.length - i ∧ i ≤ xs.length ∧ Pv i H, ⟨xs.length, by simp, Nat.zero_le _, h0 H2 tb⟩, ?_⟩
  rintro i m H ⟨rfl, hi, p⟩
  have q := hl i H hi p
  by_cases hlt : i < xs.length
  · refine .inr ⟨⟨xs, xs[i], q, List.getElem?_eq_getElem hlt⟩, Pv (i + 1), fun H' p' => ⟨xs.length - (i + 1), by omega, rfl, hlt, p'⟩, fun x H' y => ?_⟩
    obtain ⟨rfl, y⟩ := y
    exact hs i x H' (y xs q) p
  · obtain rfl : i = xs.length := by omega
    exact .inl ⟨⟨xs, q, Nat.le_refl _⟩, hd H p⟩
/-- over a tuple -/
theorem gen_tup (Pv : Nat → Hp → Prop) (h0 : ∀ H2, GxR.Tabbed P H1 H2 → Pv 0 H2) (hl : ∀ i H, i ≤ xs.length → Pv i H → SqT K H a xs)
    (hs : ∀ i x H, xs[i]? = some x → Pv i H → g x σg H fun σ2 H2 => te σ2 H2 fun v H3 => ∃ b, v = V.bl b ∧ if b = st then Q (.bl st) H3 else Pv (i + 1) H3) (hd : ∀ H, Pv xs.length H → Q (.bl (!st)) H) :
    ∀ H2, GxR.Tabbed P H1 H2 → ∃ W : Nat → Nat → Hp → Prop, (∃ m, W 0 m H2) ∧ ∀ i m H, W i m H → ((Itt K a).stop i H ∧ Q (.bl (!st)) H) ∨ ((Itt K a).go i H ∧ ∃ N : Hp → Prop, (∀ H', N H' → ∃ m', m' < m ∧ W (i + 1) m' H') ∧
      ∀ x H', (Itt K a).yld i H x H' → g x σg H' fun σ2 H2 => te σ2 H2 fun v H3 => ∃ b, v = V.bl b ∧ if b = st then Q (.bl st) H3 else N H3) := by
  intro H2 tb
  refine ⟨fun i m H => m = xs.length - i ∧ i ≤ xs.length ∧ Pv i H, ⟨xs.length, by simp, Nat.zero_le _, h0 H2 tb⟩, ?_⟩
  rintro i m H ⟨rfl, hi, p⟩
  have q := hl i H hi p
  by_cases hlt : i < xs.length
  · refine .inr ⟨⟨xs, xs[i], q, List.getElem?_eq_getElem hlt⟩, Pv (i + 1), fun H' p' => ⟨xs.length - (i + 1), by omega, rfl, hlt, p'⟩, fun x H' y => ?_⟩
    obtain ⟨rfl, y⟩ := y
    exact hs i x H' (y xs q) p
  · obtain rfl : i = xs.length := by omega
    exact .inl ⟨⟨xs, q, Nat.le_refl _⟩, hd H p⟩
end
end GX

/-! ### sum of a generator expression -/
namespace GX
open PySem PySem.Spec PyProof.Rows L2 Cm
open Sem (wp)
theorem hu_rm {k : Nat} {A : Around} (hr : Room k A) : A.units + 64 < cLine := by
  have := hr.un
  omega
/-- the total stands in the list at SA -/
def TotAt (SA : Addr) (a : Int) (s : Shared) : Prop := ∃ (t : Tok) (c : Nat), s.heap.get? SA = some { cls := .type "list", dict := none, data := .seq #[.int a t] c, slots := #[] }
theorem TotAt.one {SA : Addr} {a b : Int} {s : Shared} (h : TotAt SA a s) (h2 : TotAt SA b s) : a = b := by
  obtain ⟨t, c, e⟩ := h
  obtain ⟨t2, c2, e2⟩ := h2
  rw [e] at e2
  injection e2 with e2
  injection e2 with _ _ e2 _
  injection e2 with e2 _
  have e3 := congrArg (fun (x : Array Value) => x[0]?) e2
  simp at e3
  exact e3.1
theorem TotAt.at {SA : Addr} {a : Int} {s s' : Shared} (h : TotAt SA a s) (e : s'.heap.get? SA = s.heap.get? SA) : TotAt SA a s' := by
  obtain ⟨t, c, q⟩ := h
  exact ⟨t, c, e.trans q⟩
section
variable {X : Cx} {pins : List (Addr × Obj)} {σ : L2.St} {H4 : Hp} {s4 : Shared} {scope : Scope} {own : List (Str × Nat)} {ext : List Str} {tg elt iter : Expr} {code : Value} {fp sx : List Addr} {J : It} {it : Addr} {tn : Nat → Heap → Prop} {pos : Pos}
def gYS (X : Cx) (fp sx : List Addr) (s4 : Shared) (H4 : Hp) (tn : Nat → Heap → Prop) (SA : Addr) (W : Nat → Nat → Int → Hp → Prop) (Yd : Nat → Nat → Int → V → Hp → Prop) : Protocol := fun n s0 v s kap =>
  ∃ (y : V) (i m : Nat) (a : Int) (H : Hp), TotAt SA a s0 ∧ RelV y v ∧ Yd i m a y H ∧ CO X fp sx s4 H4 H s ∧ tn (i + 1) s.heap ∧ (∀ b ∈ sx, s.heap.get? b = s0.heap.get? b) ∧ m ≤ n ∧ ∀ m' a' s', m' < m → W (i + 1) m' a' H → TotAt SA a' s' → Kp sx s s' → kap (.send .none) s'
def gES (X : Cx) (fp sx : List Addr) (s4 : Shared) (H4 : Hp) (SA : Addr) (Dn : Int → Hp → Prop) : Nat → Shared → Shared → Prop := fun _ s0 s => ∃ a H, TotAt SA a s0 ∧ Dn a H ∧ CO X fp sx s4 H4 H s ∧ ∀ b ∈ sx, s.heap.get? b = s0.heap.get? b
theorem seg_loopS {Ag : Around} {SA : Addr} (S : GSt X pins σ scope own ext tg code H4 s4 J fp it tn) (hfr : Ag.frames = some X.stack) (hh : Ag.handled = none) {g : TG} {te : TE}
    (hg : PG (gCx X scope code fp s4 H4 (Ag.over (gLoop X tg elt iter scope pos it s4 code) []) ext) tg g) (he : PE (gCx X scope code fp s4 H4 (Ag.over (gLoop X tg elt iter scope pos it s4 code) []) ext) elt te)
    (W : Nat → Nat → Int → Hp → Prop) (Dn : Int → Hp → Prop) (Yd : Nat → Nat → Int → V → Hp → Prop)
    (turn : ∀ i m a H, W i m a H → (J.stop i H ∧ Dn a H) ∨ (J.go i H ∧ ∃ Yn : V → Hp → Prop, (∀ v H3, Yn v H3 → Yd i m a v H3) ∧ ∀ x H', J.yld i H x H' → g x (gS σ own ext) H' fun σ2 H2 => te σ2 H2 Yn)) :
    ∀ n i m a H s, m < n → W i m a H → TotAt SA a s → CO X fp sx s4 H4 H s → tn i s.heap →
      Seg (model X.prog X.w) Ag (fun n s0 r s1 => r = .ok .next ∧ gES X fp sx s4 H4 SA Dn n s0 s1) (gYS X fp sx s4 H4 tn SA W Yd) n s (gLoop X tg elt iter scope pos it s4 code) ((model X.prog X.w).den (gLoop X tg elt iter scope pos it s4 code)) [] s := by
  have hB : (Ag.over (gLoop X tg elt iter scope pos it s4 code) []).frames = some (gEnv X scope s4.heap.objs.size code :: X.stack) := by
    show pushEnvs [gEnv X scope s4.heap.objs.size code] (pushEnvs [] Ag.frames) = _
    rw [hfr]
    rfl
  have hBh : (Ag.over (gLoop X tg elt iter scope pos it s4 code) []).handled = none := hh
  intro n
  induction n with
  | zero => exact fun i m a H s hm => absurd hm (Nat.not_lt_zero _)
  | succ n ih =>
    intro i m a H s hm w0 a0 h0 t0
    have I0 := CO.inv S h0 hB hBh
    have ff : ∀ {H' : Hp}, (∀ b ∈ fp, H' b = none) → ∀ b ∈ fp, FpOk (gCx X scope code fp s4 H4 (Ag.over (gLoop X tg elt iter scope pos it s4 code) []) ext) (pinsAt sx s.heap) H' b := fun hn b hb => by
      refine ⟨hn b hb, Nat.ne_of_lt (S.lt b hb), I0.ok.exfs b hb, .inl hb, (I0.ok.exf b hb).2, fun p hp z => ?_⟩
      have q := (of_pinsAt (show p ∈ pinsAt sx s.heap by simpa [gCx] using hp)).1
      exact (h0.sx p.1 q).2.2.2.2.1 (z ▸ hb)
    show Seg _ Ag _ _ _ s _ ((compTurn (.GeneratorExp elt [⟨tg, iter, [], 0⟩] scope pos) 0 (.ref it) .none (gEnv X scope s4.heap.objs.size code)).onRaise (leaving (gEnv X scope s4.heap.objs.size code))) [] s
    rw [compTurn_gen, Sem.onRaise_eq_wrap]
    refine seg_bind_wrap (wpAny_standAt ?_)
    rcases turn i m a H w0 with ⟨stop, dn⟩ | ⟨go, Yn, hYn, step⟩
    · refine seg_bind_wrap (wpAny_mono (S.turn.done (gCx X scope code fp s4 H4 (Ag.over (gLoop X tg elt iter scope pos it s4 code) []) ext) rfl rfl rfl rfl i _ s _ H (fun _ _ => False) I0 (ff h0.fr) t0 stop) (fun r s1 hr => ?_) fun _ _ z => False.elim z)
      obtain ⟨rfl, I1⟩ := hr
      obtain ⟨c1, x1⟩ := h0.of_inv I1 h0.fr
      exact seg_end (.ok .next) ⟨rfl, a, H, a0, dn, c1, x1⟩
    · refine seg_bind_wrap (wpAny_mono (S.turn.item (gCx X scope code fp s4 H4 (Ag.over (gLoop X tg elt iter scope pos it s4 code) []) ext) rfl rfl rfl rfl i _ s _ H (fun _ _ => False) I0 (ff h0.fr) t0 go) (fun r s1 hr => ?_) fun _ _ z => False.elim z)
      obtain ⟨u, rfl, h1⟩ := hr
      refine seg_bind_wrap (wpAny_mono h1 (fun _ s2 h2 => ?_) fun _ _ z => False.elim z)
      obtain ⟨x, H2, I2, rx, y2, t2, f2⟩ := h2
      have I2p := I2.pinned (ff f2) (S.turn.obj _ _ t2)
      refine seg_bind_wrap (wpAny_mono (hg.run _ s2 _ H2 x u _ I2p rx (step x H2 y2)) (fun _ s3 h3 => ?_) fun _ _ z => False.elim z)
      obtain ⟨σ3, H3, I3, q3⟩ := h3
      simp only [List.forIn_nil]
      refine seg_bind_wrap (wpAny_pure ?_)
      simp only [if_true]
      have hy : ∀ v, yieldOut (gEnv X scope s4.heap.objs.size code) v = yieldValue v := fun v => by
        have q : (gEnv X scope s4.heap.objs.size code).scope.isCoroutine = false := S.ok.co
        simp only [yieldOut, q, Bool.false_eq_true, if_false]
      simp only [hy]
      rw [Sem.bind_eq_wrap', Sem.bind_eq_wrap', Sem.wrap_wrap, Sem.wrap_wrap]
      refine seg_wrap (wpAny_mono (he.run _ s3 σ3 H3 _ I3 q3) (fun v s5 h5 => ?_) fun _ _ z => False.elim z)
      obtain ⟨y, H5, I5, ry, q5⟩ := h5
      have pf : ∀ b ∈ fp, ∀ o, s2.heap.get? b = some o → s5.heap.get? b = some o ∧ H5 b = none := fun b hb o e => by
        have z := I5.pin (b, o) (List.mem_append_right _ (List.mem_append_right _ (mem_pinsAt hb e)))
        exact ⟨z.1, z.2.1⟩
      have f5 : ∀ b ∈ fp, H5 b = none := fun b hb => by
        obtain ⟨o, e, _⟩ := S.turn.obj _ _ t2 b hb
        exact (pf b hb o e).2
      have t5 : tn (i + 1) s5.heap := S.turn.keep _ _ _ t2 fun b hb o e => (pf b hb o e).1
      obtain ⟨c5, x5⟩ := h0.of_inv I5.unpinned f5
      refine seg_at (seg_yield rfl rfl rfl ⟨y, i, m, a, H5, a0, ry, hYn _ _ q5, c5, t5, x5, Nat.lt_succ_iff.mp hm, fun m' a' s' hm' w' at' kp => ?_⟩)
      refine seg_again rfl (ih (i + 1) m' a' H5 s' (Nat.lt_of_lt_of_le hm' (Nat.lt_succ_iff.mp hm)) w' at' (c5.kp kp) (S.turn.keep _ _ _ t5 fun b hb o e => kp.keep b o (fun z => (c5.sx b z).2.2.2.2.1 hb) e))
/-- the generator at ga, asleep, the total a at SA -/
structure GAS (X : Cx) (fp sx : List Addr) (s4 : Shared) (H4 : Hp) (tn : Nat → Heap → Prop) (SA : Addr) (W : Nat → Nat → Int → Hp → Prop) (Dn : Int → Hp → Prop) (Yd : Nat → Nat → Int → V → Hp → Prop) (Ag : Around) (a : Int) (ga : Addr) (gi n : Nat) (s : Shared) : Prop where
  gen : s.heap.IsGen ga gi
  mem : ga ∈ sx
  mem2 : SA ∈ sx
  ne : ga ≠ SA
  co : ∃ H, CO X fp sx s4 H4 H s
  goes : ∃ gs, s.gens[gi]? = some gs ∧ ∀ s', TotAt SA a s' → Kp sx s s' → gs.Goes (model X.prog X.w) Ag (fun n s0 r s1 => r = .ok .next ∧ gES X fp sx s4 H4 SA Dn n s0 s1) (gYS X fp sx s4 H4 tn SA W Yd) n (.send .none) s'
theorem Kp.trans {s s' s'' : Shared} (a : Kp sx s s') (b : Kp sx s' s'') : Kp sx s s'' := ⟨b.os.trans a.os, b.bare, fun c o n e => b.keep c o n (a.keep c o n e), b.own⟩
theorem gen_nextS {Ap : Around} {SA : Addr} {a : Int} {W : Nat → Nat → Int → Hp → Prop} {Dn : Int → Hp → Prop} {Yd : Nat → Nat → Int → V → Hp → Prop} {ga : Addr} {gi n : Nat} {s : Shared} {E : Value → Shared → Prop} (S : GSt X pins σ scope own ext tg code H4 s4 J fp it tn) (hh : Ap.handled = none) (hd : Ap.depth < recursionLimit)
    (ha : TotAt SA a s) (h : GAS X fp sx s4 H4 tn SA W Dn Yd Ap.in1 a ga gi (n + 1) s) :
    wpAny (model X.prog X.w) Ap (pyNext (.ref ga)) (fun r s1 => (r = none ∧ ∃ H, Dn a H ∧ CO X fp sx s4 H4 H s1 ∧ TotAt SA a s1) ∨
      ∃ v y i m H, r = some v ∧ RelV y v ∧ Yd i m a y H ∧ CO X fp sx s4 H4 H s1 ∧ TotAt SA a s1 ∧ m ≤ n ∧ ∀ m' a' s', m' < m → W (i + 1) m' a' H → Kp sx s1 s' → s'.gens = s1.gens → s'.heap.get? ga = s1.heap.get? ga → GAS X fp sx s4 H4 tn SA W Dn Yd Ap.in1 a' ga gi n s') E s := by
  obtain ⟨hg, hm, hm2, hne, ⟨H0, c0⟩, gs, hgs, hgo⟩ := h
  have hlt : gi + 1 ≤ s.gens.size := by
    by_cases q : gi < s.gens.size
    · exact q
    · rw [Array.getElem?_eq_none (Nat.le_of_not_lt q)] at hgs
      cases hgs
  refine GenW.wpAny_gsz hlt (wpAny_pyNext_genexpQ (P := gES X fp sx s4 H4 SA Dn) hh (lim_of S c0) hd hg hgs (hgo _ ha ⟨rfl, AllBare.set c0.bare rfl, fun _ _ _ e => e, fun b hb => (c0.sx b hb).1⟩) (fun v s1 gs' hb hy hsz => ?_) (fun s1 he h' hk _ => ?_))
  · obtain ⟨y, i, m, a1, H, at1, ry, yd, c1, t1, x1, hmn, hka⟩ := hy
    obtain rfl : a1 = a := at1.one ha
    have c2 : CO X fp sx s4 H4 H (s1.setGen gi gs') := c1.any rfl (AllBare.set c1.bare hb) fun _ _ e => e
    have at2 : TotAt SA a1 (s1.setGen gi gs') := ha.at (x1 SA hm2)
    refine .inr ⟨v, y, i, m, H, rfl, ry, yd, c2, at2, hmn, fun m' a' s' hm' w' kp hgens hga => ⟨?_, hm, hm2, hne, ⟨H, c2.kp kp⟩, gs', ?_, fun s'' ta kp2 => ?_⟩⟩
    · obtain ⟨o, nm, qn, ho, r⟩ := hg
      exact ⟨o, nm, qn, hga.trans ((x1 ga hm).trans ho), r⟩
    · have hsz2 : gi < s1.gens.size := by
        have q : (s1.setGen gi gs').gens.size = s1.gens.size := GenW.setGen_size _ _ _
        rw [q] at hsz
        exact hsz
      rw [hgens]
      simp [Shared.setGen, hsz2]
    · have kk := kp.trans kp2
      exact hka m' a' s'' hm' w' ta ⟨kk.os, kk.bare, kk.keep, kk.own⟩
  · obtain ⟨a1, H, at1, dn, c1, x1⟩ := he
    obtain rfl : a1 = a := at1.one ha
    have c2 : CO X fp sx s4 H4 H { s1.setGen gi .finished with heap := h' } := c1.any rfl (AllBare.set c1.bare rfl) hk
    refine .inl ⟨rfl, H, dn, c2, ?_⟩
    obtain ⟨t, c, e⟩ := ha
    exact ⟨t, c, hk _ _ ((x1 SA hm2).trans e)⟩
theorem kp_upd {SA : Addr} {s : Shared} {o : Obj} {f : Obj → Obj} {t : Tok} {H : Hp} (c : CO X fp sx s4 H4 H s) (hm : SA ∈ sx) (hS : s.heap.get? SA = some o) (hf : s.heap.update SA f = s.heap.update SA f) (hd : ∃ o', (s.heap.update SA f).get? SA = some o' ∧ ∀ v, o'.data ≠ .cell v) :
    Kp sx s { s with heap := s.heap.update SA f, toks := t } := by
  refine ⟨rfl, c.bare, fun b o' n e => (Heap.get?_update_other _ _ (fun h : SA = b => n (h ▸ hm))).trans e, fun b hb => ?_⟩
  by_cases q : SA = b
  · subst q
    exact hd
  · obtain ⟨⟨o', e, d⟩, _⟩ := c.sx b hb
    exact ⟨o', (Heap.get?_update_other _ _ q).trans e, d⟩
theorem sum_walk {W : Nat → Nat → Int → Hp → Prop} {QD : Int → Hp → Prop} {SA ga : Addr} {gi : Nat} {R : Result → Shared → Prop} (S : GSt X pins σ scope own ext tg code H4 s4 J fp it tn) (hh : X.A.handled = none) (hd : X.A.depth < recursionLimit)
    (hR : ∀ (a : Int) (t : Tok) (H : Hp) (s' : Shared), QD a H → CO X fp sx s4 H4 H s' → R (.ok (.ret (.int a t))) s') :
    ∀ (n : Nat) (s : Shared) (a : Int) (st : Int), (st = 0 ∨ st = 2) → TotAt SA a s → GAS X fp sx s4 H4 tn SA W QD (fun i m a y H => ∃ b, y = V.int b ∧ ∃ m', m' < m ∧ W (i + 1) m' (a + b) H) X.A.in1.in1 a ga gi (n + 1) s →
      codeAny (model X.prog X.w) X.A (.builtin "sum.loop" ⟨[.ref ga, .ref SA, rawInt st, rawInt 0], []⟩) R s := by
  intro n
  induction n with
  | zero =>
    intro s a st hst hat h
    obtain ⟨tA, c0, hS⟩ := id hat
    refine codeAny_builtin F.entry_sum_loop ?_
    rw [Around.under_plainId F.plain_sum_loop _]
    show wpAny _ X.A.in1 (seqItems? (.ref SA) >>= _) _ _ s
    refine wpAny_bind (wpAny_seqItems hS rfl ?_)
    show wpAny _ X.A.in1 (tryCatch (pyNext (.ref ga)) _ >>= _) _ _ s
    refine wpAny_bind (wpAny_tryCatch (wpAny_mono (gen_nextS (E := fun _ _ => False) S hh hd hat h) (fun r s1 hr => ?_) fun _ _ z => False.elim z))
    rcases hr with ⟨rfl, H, dn, c1, _⟩ | ⟨v, y, i, m, H, rfl, ry, ⟨b, rfl, m', hm', w'⟩, c1, at1, hm, more⟩
    · exact wpAny_pure (hR a tA H s1 dn c1)
    · omega
  | succ n ih =>
    intro s a st hst hat h
    have gmem := h.mem2
    have gne := h.ne
    obtain ⟨tA, c0, hS⟩ := id hat
    refine codeAny_builtin F.entry_sum_loop ?_
    rw [Around.under_plainId F.plain_sum_loop _]
    show wpAny _ X.A.in1 (seqItems? (.ref SA) >>= _) _ _ s
    refine wpAny_bind (wpAny_seqItems hS rfl ?_)
    show wpAny _ X.A.in1 (tryCatch (pyNext (.ref ga)) _ >>= _) _ _ s
    refine wpAny_bind (wpAny_tryCatch (wpAny_mono (gen_nextS (E := fun _ _ => False) S hh hd hat h) (fun r s' hr => ?_) fun _ _ z => False.elim z))
    rcases hr with ⟨rfl, H, dn, c1, _⟩ | ⟨v, y, i, m, H, rfl, ry, ⟨b, rfl, m', hm', w'⟩, c1, at1, hm, more⟩
    · exact wpAny_pure (hR a tA H s' dn c1)
    obtain ⟨t, rfl⟩ : ∃ t, v = Value.int b t := ry
    obtain ⟨tB, c1', hS'⟩ := id at1
    have go : ∀ (s'' : Shared) (st' : Int), (st' = 0 ∨ st' = 2) → TotAt SA (a + b) s'' → Kp sx s' s'' → s''.gens = s'.gens → s''.heap.get? ga = s'.heap.get? ga → codeAny (model X.prog X.w) X.A (.builtin "sum.loop" ⟨[.ref ga, .ref SA, rawInt st', rawInt 0], []⟩) R s'' :=
      fun s'' st' h1 h2 h3 h4 h5 => ih s'' (a + b) st' h1 h2 (more m' (a + b) s'' hm' w' h3 h4 h5)
    rcases hst with rfl | rfl
    · show wpAny _ X.A.in1 (if (_ : Bool) = true then (mkInt (a + b) >>= _) else _) _ _ _
      split
      · refine wpAny_bind (wpAny_mkInt ?_)
        show wpAny _ X.A.in1 (updateSeq SA (fun _ => #[.int (a + b) s'.toks]) >>= _) _ _ _
        refine wpAny_bind ?_
        refine wpAny_updateSeq hS' rfl (wpAny_pure ⟨plainId_quiet F.plain_sum_loop _, go _ 0 (.inl rfl) ⟨_, _, Heap.get?_update_self _ hS' rfl⟩ (kp_upd c1 gmem hS' rfl ⟨_, Heap.get?_update_self _ hS' rfl, fun v z => by cases z⟩) rfl (Heap.get?_update_other _ _ gne.symm)⟩)
      · refine wpAny_bind (wpAny_rule ?_)
        refine wpAny_bind (wpAny_attempt (wpAny_holding (wpAny_add_int ?_)))
        show wpAny _ X.A.in1 (updateSeq SA (fun _ => #[.int (a + b) s'.toks]) >>= _) _ _ _
        refine wpAny_bind (wpAny_updateSeq hS' rfl ?_)
        have hS₂ := Heap.get?_update_self (Obj.mapSeq fun _ => #[Value.int (a + b) s'.toks]) hS' rfl
        refine wpAny_bind (wpAny_letGo ?_)
        have k1 : Kp sx s' { s' with heap := s'.heap.update SA (Obj.mapSeq fun _ => #[Value.int (a + b) s'.toks]), toks := s'.toks + 1 } := kp_upd c1 gmem hS' rfl ⟨_, hS₂, fun v z => by cases z⟩
        refine wpAny_bind (wpAny_updateSeq hS₂ rfl (wpAny_pure ⟨plainId_quiet F.plain_sum_loop _, go _ 2 (.inr rfl) ⟨_, _, Heap.get?_update_self _ hS₂ rfl⟩ (k1.trans (kp_upd (c1.kp k1) gmem hS₂ rfl ⟨_, Heap.get?_update_self _ hS₂ rfl, fun v z => by cases z⟩)) rfl ((Heap.get?_update_other _ _ gne.symm).trans (Heap.get?_update_other _ _ gne.symm))⟩))
    · show wpAny _ X.A.in1 ((holding [Value.int b t] (binaryOp .Add (.int a tA) (.int b t))).attempt >>= _) _ _ _
      refine wpAny_bind (wpAny_attempt (wpAny_holding (wpAny_add_int ?_)))
      show wpAny _ X.A.in1 (updateSeq SA (fun _ => #[.int (a + b) s'.toks]) >>= _) _ _ _
      refine wpAny_bind (wpAny_updateSeq hS' rfl ?_)
      have hS₂ := Heap.get?_update_self (Obj.mapSeq fun _ => #[Value.int (a + b) s'.toks]) hS' rfl
      refine wpAny_bind (wpAny_letGo ?_)
      have k1 : Kp sx s' { s' with heap := s'.heap.update SA (Obj.mapSeq fun _ => #[Value.int (a + b) s'.toks]), toks := s'.toks + 1 } := kp_upd c1 gmem hS' rfl ⟨_, hS₂, fun v z => by cases z⟩
      refine wpAny_bind (wpAny_updateSeq hS₂ rfl (wpAny_pure ⟨plainId_quiet F.plain_sum_loop _, go _ 2 (.inr rfl) ⟨_, _, Heap.get?_update_self _ hS₂ rfl⟩ (k1.trans (kp_upd (c1.kp k1) gmem hS₂ rfl ⟨_, Heap.get?_update_self _ hS₂ rfl, fun v z => by cases z⟩)) rfl ((Heap.get?_update_other _ _ gne.symm).trans (Heap.get?_update_other _ _ gne.symm))⟩))
/-- one more object of the consumer's own -/
theorem CO.more {H : Hp} {s s' : Shared} {o : Obj} (S : GSt X pins σ scope own ext tg code H4 s4 J fp it tn) (h : CO X fp sx s4 H4 H s) (os : s'.os = s.os) (bare : AllBare s'.gens) (hk : ∀ b u, s.heap.get? b = some u → s'.heap.get? b = some u) (hS : s'.heap.get? s.heap.objs.size = some o) (hd : ∀ v, o.data ≠ .cell v) : CO X fp (s.heap.objs.size :: sx) s4 H4 H s' := by
  have c := h.any os bare hk
  obtain ⟨m, ob, es, ep, ho, r⟩ := h.ns
  have l4 : s4.heap.objs.size < s.heap.objs.size := Heap.lt_size ho
  have new : ∀ b, s.heap.objs.size ≤ b → H b = none := fun b hb => h.hok.fresh hb
  refine ⟨c.os, c.bare, c.un, c.hok, c.ns, c.free, c.fr, fun b hb => ?_⟩
  rcases List.mem_cons.mp hb with e | e
  · rw [e]
    refine ⟨⟨o, hS, hd⟩, new _ (Nat.le_refl _), Nat.ne_of_gt l4, fun z => ?_, fun z => ?_, ?_⟩
    · rcases List.mem_cons.mp (S.inv.stkSub _ z) with e | e
      · have z2 := S.inv.lt
        rw [← e] at z2
        exact absurd (Nat.lt_trans l4 z2) (Nat.lt_irrefl _)
      · exact S.inv.nofs (Nat.le_of_lt l4) e
    · exact absurd (Nat.lt_trans l4 (S.lt _ z)) (Nat.lt_irrefl _)
    · cases q : s4.heap.get? s.heap.objs.size with
      | none => rfl
      | some u => exact absurd (Nat.lt_trans l4 (Heap.lt_size q)) (Nat.lt_irrefl _)
  · exact c.sx b e
end
section
variable {X : Cx} {pins : List (Addr × Obj)} {σ : L2.St} {H : Hp} {s : Shared} {scope : Scope} {own : List (Str × Nat)} {ext : List Str} {tg elt iter : Expr} {pos p cpos : Pos} {c P : Addr} {wi : TI} {k : Nat} {g : TG} {te : TE}
/-- sum(..) of the expression over ints -/
def tSumG (P : Addr) (wi : TI) (g : TG) (te : TE) (own : List (Str × Nat)) (ext : List Str) : TE := fun σ H Q => wi σ H fun J H1 => GxR.TabG H1 P ∧ ∀ H2, GxR.Tabbed P H1 H2 → ∃ W : Nat → Nat → Int → Hp → Prop, (∃ m, W 0 m 0 H2) ∧
  ∀ i m a H, W i m a H → (J.stop i H ∧ Q (.int a) H) ∨ (J.go i H ∧ ∃ N : Int → Hp → Prop, (∀ a' H', N a' H' → ∃ m', m' < m ∧ W (i + 1) m' a' H') ∧ ∀ x H', J.yld i H x H' → g x (gS σ own ext) H' fun σ2 H2 => te σ2 H2 fun v H3 => ∃ b, v = V.int b ∧ N (a + b) H3)
theorem pe_sumG (hr : Room (k + 2) X.A) (hg : Gl X "sum") (hm : X.mg "sum" = none) (TB : GxR.TabB X.base X.mg c P) (hcode : X.env.code = .ref c) (G : GOk X.N X.env.scope scope own ext) (hi : PI X tg iter wi)
    (ht : ∀ (code : Value) (fp : List Addr) (s4 : Shared) (H4 : Hp) (B : Around), PG (gCx X scope code fp s4 H4 B ext) tg g) (he : ∀ (code : Value) (fp : List Addr) (s4 : Shared) (H4 : Hp) (B : Around), Room k B → PE (gCx X scope code fp s4 H4 B ext) elt te)
    (hb : bootBuiltins "sum" = some (.builtin "sum") := by decide +kernel)
    (hs : ∀ v, genFold iter X.env v = pure v := by intro _; rfl) (hst : starEach [.GeneratorExp elt [⟨tg, iter, [], 0⟩] scope pos] X.env = (false, eval (.GeneratorExp elt [⟨tg, iter, [], 0⟩] scope pos) X.env) :: starEach [] X.env := by rfl) :
    PE X (.Call (.Name "sum" p) [.GeneratorExp elt [⟨tg, iter, [], 0⟩] scope pos] [] cpos) (tSumG P wi g te own ext) := by
  constructor
  intro pins s σ H Q I h
  refine wpAny_Call_Name_kw (ld_blt I hg hm hb (PyProof.Rows.callWith_builtin1 ?_ hst (by rfl)))
  rw [hst]
  show wpAny _ _ (spliced ((false, eval (.GeneratorExp elt [⟨tg, iter, [], 0⟩] scope pos) X.env) :: backTo cpos (starEach [] X.env))) _ _ s
  refine Calls.spliced_cons (gen_eval hr TB hcode G hi hs I h fun J fp it tn H1 H4 s4 s5 code ga gi q htab S t5 c5 hgen hgs => Calls.spliced_nil ?_)
  obtain ⟨W, ⟨m, w0⟩, turn⟩ := q H4 htab
  have rm : Room k (X.A.in1.in1.over (gLoop X tg elt iter scope pos it s4 code) []) := room_over (room_in1 hr) rfl rfl
  refine call_function_tree F.kind_sum F.plain_sum F.entry_sum (F.args_sum1 _) ?_
  unfold Builtin.«sum»
  simp only [List.length_cons, List.length_nil]
  rw [if_neg (by decide)]
  refine wpAny_bind (wpAny_of_eq (show Builtin.Builtins.bindParams "sum" ["start"] 0 { } = pure [none] from rfl) ?_)
  refine wpAny_bind (wpAny_pyIter_gen hgen ?_)
  refine wpAny_bind (wpAny_mkInt ?_)
  refine wpAny_bind (wpAny_pure ?_)
  simp only [List.forIn_cons, List.forIn_nil]
  refine wpAny_bind (wpAny_bind (wpAny_bind (wpAny_isInstance (T := "int") (b := false) (typeIs_int _ _ _) PySem.sub_int_str ?_)))
  simp only [Bool.false_eq_true, if_false]
  refine wpAny_pure (wpAny_bind (wpAny_bind (wpAny_isInstance (T := "int") (b := false) (typeIs_int _ _ _) PySem.sub_int_bytes ?_)))
  simp only [Bool.false_eq_true, if_false]
  refine wpAny_pure (wpAny_bind (wpAny_bind (wpAny_isInstance (T := "int") (b := false) (typeIs_int _ _ _) PySem.sub_int_bytearray ?_)))
  simp only [Bool.false_eq_true, if_false]
  refine wpAny_pure (wpAny_pure ?_)
  refine wpAny_bind (wpAny_newObj_type ?_)
  have gaS : ga < s5.heap.objs.size := by
    obtain ⟨o, nm, qn, ho, _⟩ := hgen
    exact Heap.lt_size ho
  refine wpAny_pure ⟨plainId_quiet F.plain_sum_loop _, ?_⟩
  have hk : ∀ (b : Addr) (u : Obj), s5.heap.get? b = some u → (s5.heap.push { cls := .type "list", data := .seq #[.int 0 s5.toks] }).get? b = some u := fun b u e => Heap.get?_push_of_some _ e
  have hS : (s5.heap.push { cls := .type "list", data := .seq #[.int 0 s5.toks] }).get? s5.heap.objs.size = some { cls := .type "list", data := .seq #[.int 0 s5.toks] } := Heap.get?_push_size _ rfl
  have c6 := CO.more (s' := { s5 with heap := s5.heap.push { cls := .type "list", data := .seq #[.int 0 s5.toks] }, toks := s5.toks + 1 }) S c5 rfl c5.bare hk hS (fun v z => by cases z)
  have t6 : tn 0 (s5.heap.push { cls := .type "list", data := .seq #[.int 0 s5.toks] }) := S.turn.keep _ _ _ t5 fun b hb o e => hk b o e
  have hat : TotAt s5.heap.objs.size 0 { s5 with heap := s5.heap.push { cls := .type "list", data := .seq #[.int 0 s5.toks] }, toks := s5.toks + 1 } := ⟨_, _, hS⟩
  refine sum_walk (W := W) (QD := fun a H' => Q (.int a) H') S hr.hd hr.depth (fun a t H' s' hb hc => EP_of (v := .int a) S hc ⟨t, rfl⟩ hb) m _ 0 0 (.inl rfl) hat ⟨?_, List.mem_cons_of_mem _ List.mem_cons_self, List.mem_cons_self, Nat.ne_of_lt gaS, ⟨H4, c6⟩, _, hgs, fun s' ta kp => ⟨rfl, ?_⟩⟩
  · obtain ⟨o, nm, qn, ho, r⟩ := hgen
    exact ⟨o, nm, qn, hk _ _ ho, r⟩
  have t7 : tn 0 s'.heap := S.turn.keep _ _ _ t6 fun b hb o e => kp.keep b o (fun z => (c6.sx b z).2.2.2.2.1 hb) e
  refine seg_first (Ag := X.A.in1.in1) S hr.hd t7 (seg_loopS (Ag := X.A.in1.in1) S S.inv.ok.frames hr.hd (ht ..) (he _ _ _ _ _ rm) W _ _ (fun i m a H w => ?_) (m + 1) 0 m 0 H4 s' (Nat.lt_succ_self m) w0 ta (c6.kp kp) t7)
  rcases turn i m a H w with z | ⟨go, N, hN, step⟩
  · exact .inl z
  · exact .inr ⟨go, _, fun v H3 ⟨b, e, q⟩ => ⟨b, e, hN _ _ q⟩, step⟩
end
/-! ### readings over any walk -/
section
variable {J : It} {n : Nat} {G : Hp → Prop} {Y : Nat → Hp → V → Hp → Prop} {g : TG} {te : TE} {σg : L2.St} {H1 : Hp} {P : Addr} {Q : VK} {st : Bool}
/-- any, all over any walk -/
theorem gen_it (w : Walk J n G Y) (Pv : Nat → Hp → Prop) (h0 : ∀ H2, GxR.Tabbed P H1 H2 → Pv 0 H2) (hG : ∀ i H, i ≤ n → Pv i H → G H)
    (hs : ∀ i x H H', i < n → Pv i H → Y i H x H' → g x σg H' fun σ2 H2 => te σ2 H2 fun v H3 => ∃ b, v = V.bl b ∧ if b = st then Q (.bl st) H3 else Pv (i + 1) H3) (hd : ∀ H, Pv n H → Q (.bl (!st)) H) :
    ∀ H2, GxR.Tabbed P H1 H2 → ∃ W : Nat → Nat → Hp → Prop, (∃ m, W 0 m H2) ∧ ∀ i m H, W i m H → (J.stop i H ∧ Q (.bl (!st)) H) ∨ (J.go i H ∧ ∃ N : Hp → Prop, (∀ H', N H' → ∃ m', m' < m ∧ W (i + 1) m' H') ∧
      ∀ x H', J.yld i H x H' → g x σg H' fun σ2 H2 => te σ2 H2 fun v H3 => ∃ b, v = V.bl b ∧ if b = st then Q (.bl st) H3 else N H3) := by
  intro H2 tb
  refine ⟨fun i m H => m = n - i ∧ i ≤ n ∧ Pv i H, ⟨n, by simp, Nat.zero_le _, h0 H2 tb⟩, ?_⟩
  rintro i m H ⟨rfl, hi, p⟩
  have q := hG i H hi p
  by_cases hlt : i < n
  · exact .inr ⟨w.goes i H hlt q, Pv (i + 1), fun H' p' => ⟨n - (i + 1), by omega, rfl, hlt, p'⟩, fun x H' y => hs i x H H' hlt p (w.yields i H x H' hlt q y)⟩
  · obtain rfl : i = n := by omega
    exact .inl ⟨w.stops H q, hd H p⟩
/-- sum over any walk: Pv also tells the total -/
theorem sum_it (w : Walk J n G Y) (Pv : Nat → Int → Hp → Prop) (h0 : ∀ H2, GxR.Tabbed P H1 H2 → Pv 0 0 H2) (hG : ∀ i a H, i ≤ n → Pv i a H → G H)
    (hs : ∀ i a x H H', i < n → Pv i a H → Y i H x H' → g x σg H' fun σ2 H2 => te σ2 H2 fun v H3 => ∃ b, v = V.int b ∧ Pv (i + 1) (a + b) H3) (hd : ∀ a H, Pv n a H → Q (.int a) H) :
    ∀ H2, GxR.Tabbed P H1 H2 → ∃ W : Nat → Nat → Int → Hp → Prop, (∃ m, W 0 m 0 H2) ∧ ∀ i m a H, W i m a H → (J.stop i H ∧ Q (.int a) H) ∨ (J.go i H ∧ ∃ N : Int → Hp → Prop, (∀ a' H', N a' H' → ∃ m', m' < m ∧ W (i + 1) m' a' H') ∧
      ∀ x H', J.yld i H x H' → g x σg H' fun σ2 H2 => te σ2 H2 fun v H3 => ∃ b, v = V.int b ∧ N (a + b) H3) := by
  intro H2 tb
  refine ⟨fun i m a H => m = n - i ∧ i ≤ n ∧ Pv i a H, ⟨n, by simp, Nat.zero_le _, h0 H2 tb⟩, ?_⟩
  rintro i m a H ⟨rfl, hi, p⟩
  have q := hG i a H hi p
  by_cases hlt : i < n
  · exact .inr ⟨w.goes i H hlt q, Pv (i + 1), fun a' H' p' => ⟨n - (i + 1), by omega, rfl, hlt, p'⟩, fun x H' y => hs i a x H H' hlt p (w.yields i H x H' hlt q y)⟩
  · obtain rfl : i = n := by omega
    exact .inl ⟨w.stops H q, hd a H p⟩
end
end GX

/-! ### a constant of the module that is a tuple of tuples; tuple.index -/
namespace CT2
open PySem PySem.Spec PyProof.Rows L2 Cm
def TyT (K : PySem.W.Frag) (r : Addr) : Prop := ∃ o, K.lookup r = some o ∧ o.cls = .type "tuple" ∧ o.dict = none
theorem tyT {K : PySem.W.Frag} {r : Addr} {H : Hp} (h : TyT K r) : tyV K "tuple" (.ref r) H := .inr (.inl ⟨rfl, h⟩)
def RowAt (K : PySem.W.Frag) (r : Addr) (row : List V) : Prop := (∀ H, SqT K H r row) ∧ TyT K r
def CTT (K : PySem.W.Frag) (mg : Str → Option Value) (x : Str) (rows : List (List V)) : Prop := ∃ (p : Addr) (rs : List Addr), mg x = some (.ref p) ∧ (∀ H, SqT K H p (rs.map V.ref)) ∧ Paired (RowAt K) rs rows
theorem ctt_get {α β : Type} {R : α → β → Prop} : ∀ {rs : List α} {rows : List β} {i : Nat} {row : β}, Paired R rs rows → rows[i]? = some row → ∃ r, rs[i]? = some r ∧ R r row
  | _, _, i, _, .nil, h => by simp at h
  | _, _, 0, _, .cons h r, e => by
    simp at e
    subst e
    exact ⟨_, rfl, h⟩
  | _, _, i + 1, _, .cons h r, e => by
    obtain ⟨s, h1, h2⟩ := ctt_get r (by simpa using e)
    exact ⟨s, by simpa using h1, h2⟩
theorem vals_refs : ∀ rs : List Addr, Vals (rs.map V.ref) (rs.map Value.ref)
  | [] => .nil
  | r :: rs => .cons rfl (vals_refs rs)
theorem row_mk {K : PySem.W.Frag} {p : Addr} {od : Option Addr} {its : Array Value} {n : Nat} {sl : Array (Option Value)} {xs : List V} (l : K.lookup p = some ⟨.type "tuple", od, .seq its n, sl⟩) (hv : Vals xs its.toList) (hs : xs.length ≤ sizeLine) : ∀ H, SqT K H p xs := fun H => by
  have e : its.size ≤ sizeLine := by
    rw [← Array.length_toList, ← hv.length]
    exact hs
  exact .inr ⟨_, its, n, l, rfl, rfl, e, hv⟩
theorem rowAt_mk {K : PySem.W.Frag} {p : Addr} {its : Array Value} {n : Nat} {sl : Array (Option Value)} {xs : List V} (l : K.lookup p = some ⟨.type "tuple", none, .seq its n, sl⟩) (hv : Vals xs its.toList) (hs : xs.length ≤ sizeLine) : RowAt K p xs := ⟨row_mk l hv hs, _, l, rfl, rfl⟩
theorem ctt_mk {K : PySem.W.Frag} {h : Heap} {mg : Str → Option Value} {x : Str} {p : Addr} {od : Option Addr} {its : Array Value} {n : Nat} {sl : Array (Option Value)} {rs : List Addr} {rows : List (List V)} (X : K.In h) (G : h.Ns mainGlobals mg) (a : PySem.W.nsIn K mainGlobals x = some (some (.ref p)))
    (l : K.lookup p = some ⟨.type "tuple", od, .seq its n, sl⟩) (e : its.toList = rs.map Value.ref) (hs : rs.length ≤ sizeLine) (hr : Paired (RowAt K) rs rows) : CTT K mg x rows :=
  ⟨p, rs, PySem.W.mg_of X G a, row_mk l (by rw [e]; exact vals_refs rs) (by rw [List.length_map]; exact hs), hr⟩
theorem pe_globTT {X : Cx} {x : Str} {rows : List (List V)} {pos : Pos} (hg : Gl X x) (h : CTT X.K X.mg x rows) (hd : (x == ("__debug__" : Str)) = false := by decide) :
    PE X (.Name x pos) (fun _ H Q => ∀ (p : Addr) (rs : List Addr), (∀ H', SqT X.K H' p (rs.map V.ref)) → (∀ (i : Nat) (row : List V), rows[i]? = some row → ∃ r : Addr, (rs.map V.ref)[i]? = some (V.ref r) ∧ (∀ H', SqT X.K H' r row) ∧ TyT X.K r) → Q (.ref p) H) := by
  obtain ⟨p, rs, hm, hs, hr⟩ := h
  refine ⟨fun pins s σ H Q I h => (pe_glob hg hm (v := .ref p) rfl hd).run pins s σ H Q I (h p rs hs fun i row e => ?_)⟩
  obtain ⟨r, h1, h2⟩ := ctt_get hr e
  exact ⟨r, by rw [List.getElem?_map, h1]; rfl, h2⟩
def rIndexT (K : PySem.W.Frag) : V → List V → Hp → VK → Prop := fun x xs H Q => ∃ (a : Addr) (ys : List V) (y : V) (j : Nat) (z : V), x = V.ref a ∧ xs = [y] ∧ SqT K H a ys ∧ flatV y = true ∧ ys.all flatV = true ∧ ys[j]? = some z ∧ eqV z y = true ∧
  (∀ (m : Nat) (z' : V), m < j → ys[m]? = some z' → eqV z' y = false) ∧ Q (.int (j : Nat)) H
theorem mt_indexT {X : Cx} : MtR X "tuple.index" (rIndexT X.K) := by
  intro pins s σ H x xs v us Q I rx rxs h
  obtain ⟨a, ys, y, j, z, rfl, rfl, hs, fy, fys, hz, hzj, hno, q⟩ := h
  cases rx
  cases rxs with
  | cons ry rt =>
    rename_i uy ut
    cases rt
    obtain ⟨its, rv, pl, hlen⟩ := I.tuple hs
    obtain ⟨⟨cls, dd, data, sl⟩, ho, hc, n, hd⟩ := pl
    simp only at hc hd
    subst hc hd
    obtain ⟨u, hu, ru⟩ := rv.get hz
    obtain ⟨hjl, hje⟩ := List.getElem?_eq_some_iff.mp hu
    have hvl := rv.length
    have hj : j < its.toArray.size := by simpa using hjl
    refine call_meets PySem.F.slot_tuple_index ⟨_, ho, rfl⟩ PySem.F.entry_tuple_index (PySem.F.args_tuple_index_2 _ _)
      (TI.tuple_indexAt a its.toArray n dd sl uy (eqU y) j hj ?_ ?_) ⟨ho, fun u' hu' => mem_eqAt ry fy rv fys u' (by simpa using hu'), ?_⟩
    · have e1 : its.toArray[j] = u := by simpa using hje
      rw [e1, eqU_of ru (flat_at fys hz)]
      exact hzj
    · intro m hm hmj
      have hml : m < its.length := by simpa using hm
      have hmy : m < ys.length := by omega
      have hy' : ys[m]? = some ys[m] := List.getElem?_eq_getElem hmy
      obtain ⟨u2, hu2, ru2⟩ := rv.get hy'
      obtain ⟨_, hme⟩ := List.getElem?_eq_some_iff.mp hu2
      have e1 : its.toArray[m] = u2 := by simpa using hme
      rw [e1, eqU_of ru2 (flat_at fys hy')]
      exact hno m _ hmj hy'
    · exact ⟨.int (j : Nat), H, I.tok _, ⟨_, rfl⟩, q⟩
end CT2

/-! ### three comparisons in a row -/
namespace CH3
open PySem PySem.Spec PyProof.Rows L2 Cm
open Sem (wp)
variable {X : Cx} {a b c d : Expr} {pos : Pos} {ta tb tc td : TE}
/-- the rest of a row, from its second comparison on: y stands to its left -/
def tRest (r2 r3 : R2) (tc td : TE) (y : V) : TE := fun σ H Q => tc σ H fun u H4 => r2 y u H4 fun z H5 => ∃ k, z = V.bl k ∧ (if k = true then td σ H5 fun v H6 => r3 u v H6 Q else Q (.bl false) H5)
def tThree (r1 r2 r3 : R2) (ta tb tc td : TE) : TE := fun σ H Q => ta σ H fun x H1 => tb σ H1 fun y H2 => r1 x y H2 fun z H3 => ∃ k, z = V.bl k ∧ (if k = true then tRest r2 r3 tc td y σ H3 Q else Q (.bl false) H3)
theorem pe_three {op1 op2 op3 : CmpOp} {r1 r2 r3 : R2} (h1 : OpR X (compareOp op1) r1) (h2 : OpR X (compareOp op2) r2) (h3 : OpR X (compareOp op3) r3) (ha : PE X a ta) (hb : PE X b tb) (hc : PE X c tc) (hd : PE X d td)
    (hm : lastMarks [op1, op2, op3] [b, c, d] = false := by with_unfolding_all rfl) : PE X (.Compare a [op1, op2, op3] [b, c, d] pos) (tThree r1 r2 r3 ta tb tc td) := by
  constructor
  intro pins s σ H Q I h
  refine Compare_chain ?_ hm
  refine thn (ha.run pins s σ H _ I h) ?_
  rintro v s1 ⟨x, H1, I1, e1, q1⟩
  refine chain_link ?_
  refine thn (hb.run pins s1 σ H1 _ I1 q1) ?_
  rintro u s2 ⟨y, H2, I2, e2, q2⟩
  refine thn (h1 pins s2 σ H2 x y v u _ I2 e1 e2 q2) ?_
  rintro _ s3 ⟨z, H3, I3, e3, k, rfl, q3⟩
  cases e3
  refine wpAny_truthy_bool ?_
  cases k
  · exact ite_ff ⟨.bl false, H3, I3, rfl, q3⟩
  refine ite_tt (chain_link ?_)
  refine thn (hc.run pins s3 σ H3 _ I3 q3) ?_
  rintro u4 s4 ⟨y4, H4, I4, e4, q4⟩
  refine thn (h2 pins s4 σ H4 y y4 u u4 _ I4 e2 e4 q4) ?_
  rintro _ s5 ⟨z5, H5, I5, e5, k, rfl, q5⟩
  cases e5
  refine wpAny_truthy_bool ?_
  cases k
  · exact ite_ff ⟨.bl false, H5, I5, rfl, q5⟩
  refine ite_tt (chain_last ?_)
  refine thn (hd.run pins s5 σ H5 _ I5 q5) ?_
  rintro u6 s6 ⟨y6, H6, I6, e6, q6⟩
  exact h3 pins s6 σ H6 y4 y6 u4 u6 Q I6 e4 e6 q6
theorem pt_three {op1 op2 op3 : CmpOp} {r1 r2 r3 : R2} (h1 : OpR X (compareOp op1) r1) (h2 : OpR X (compareOp op2) r2) (h3 : OpR X (compareOp op3) r3) (ha : PE X a ta) (hb : PE X b tb) (hc : PE X c tc) (hd : PE X d td)
    (hm : lastMarks [op1, op2, op3] [b, c, d] = false := by with_unfolding_all rfl) : PT X (.Compare a [op1, op2, op3] [b, c, d] pos) (tTest (tThree r1 r2 r3 ta tb tc td)) := by
  constructor
  intro pins s σ H Q I h
  refine isTrue_chain ?_ hm
  refine thn (ha.run pins s σ H _ I h) ?_
  rintro v s1 ⟨x, H1, I1, e1, q1⟩
  refine test_link ?_
  refine thn (hb.run pins s1 σ H1 _ I1 q1) ?_
  rintro u s2 ⟨y, H2, I2, e2, q2⟩
  refine thn (h1 pins s2 σ H2 x y v u _ I2 e1 e2 q2) ?_
  rintro _ s3 ⟨z, H3, I3, e3, k, rfl, q3⟩
  cases e3
  refine wpAny_truthy_bool ?_
  cases k
  · obtain ⟨k', e', q'⟩ := q3
    cases e'
    exact ite_ff ⟨H3, I3, q'⟩
  refine ite_tt (test_link ?_)
  refine thn (hc.run pins s3 σ H3 _ I3 q3) ?_
  rintro u4 s4 ⟨y4, H4, I4, e4, q4⟩
  refine thn (h2 pins s4 σ H4 y y4 u u4 _ I4 e2 e4 q4) ?_
  rintro _ s5 ⟨z5, H5, I5, e5, k, rfl, q5⟩
  cases e5
  refine wpAny_truthy_bool ?_
  cases k
  · obtain ⟨k', e', q'⟩ := q5
    cases e'
    exact ite_ff ⟨H5, I5, q'⟩
  refine ite_tt (test_last ?_)
  refine thn (hd.run pins s5 σ H5 _ I5 q5) ?_
  rintro u6 s6 ⟨y6, H6, I6, e6, q6⟩
  refine thn (h3 pins s6 σ H6 y4 y6 u4 u6 _ I6 e4 e6 q6) ?_
  rintro _ s7 ⟨z7, H7, I7, e7, k, rfl, q7⟩
  cases e7
  exact wpAny_truthy_bool ⟨H7, I7, q7⟩
/-- three tests of ints -/
theorem three {p q r : Prop} [Decidable p] [Decidable q] [Decidable r] {A B : Prop} (h1 : p ∧ q ∧ r → A) (h2 : ¬ (p ∧ q ∧ r) → B) : if (decide (p ∧ q ∧ r)) = true then A else B := by
  by_cases h : p ∧ q ∧ r
  · rw [if_pos (decide_eq_true h)]
    exact h1 h
  · rw [if_neg (by simpa using h)]
    exact h2 h
end CH3

/-! ### a tuple target, the written part named -/
namespace TK
open PySem PySem.Spec PyProof.Rows L2 Cm
theorem pg_tupK {X : Cx} {K : PySem.W.Frag} {es : List Expr} {k : Nat} {pos : Pos} {t : TGs} {n : Nat} (hK : X.K = K) (hc : X.calm = true) (h : PGs X es t)
    (hn : (assignEach es X.env).length = n := by rfl) (hst : (assignEach es X.env).findIdx? (·.1) = none := by rfl) : PG X (.Tuple es k pos) (gTup K n t) := by
  subst hK
  exact pg_tup hc h hn hst
theorem op_notInK {X : Cx} {K : PySem.W.Frag} (h : X.K = K := by rfl) : OpR X (compareOp .NotIn) (rIn K true) := by
  subst h
  exact op_notIn_seq
theorem op_inK {X : Cx} {K : PySem.W.Frag} (h : X.K = K := by rfl) : OpR X (compareOp .In) (rIn K false) := by
  subst h
  exact op_in_seq
def rListOf (K : PySem.W.Frag) : List V → Hp → VK → Prop := fun xs H Q => ∃ p ys, xs = [.ref p] ∧ (SqL K H p ys ∨ SqT K H p ys) ∧ ∀ l, H l = none → Q (.ref l) (upd H l (.lst ys))
theorem call_list_ofK {X : Cx} {K : PySem.W.Frag} (h : X.K = K := by rfl) (hc : X.calm = true := by rfl) : CallR X (.type "list") (rListOf K) := by
  subst h
  exact call_list_of
theorem pi_listK {X : Cx} {K : PySem.W.Frag} {tg e : Expr} {te : TE} (he : PE X e te) (h : X.K = K := by rfl) : PI X tg e (iList K te) := by
  subst h
  exact pi_list he
end TK

/-! ### a starred item, the written part named (wants HandS.Star) -/
namespace TK
open PySem PySem.Spec PyProof.Rows L2 Cm
theorem pa_starK {X : Cx} {K : PySem.W.Frag} {e : Expr} {es : List Expr} {te : TE} {t : TA} {p : Pos} (he : PE X e te) (hr : PA X es t) (h : X.K = K := by rfl) (hs : starEach (.Starred e p :: es) X.env = (true, eval e X.env) :: starEach es X.env := by rfl) : PA X (.Starred e p :: es) (StX.tStar K te t) := by
  subst h
  exact StX.pa_star he hr hs
end TK

namespace My
open PySem PySem.Spec PyProof.Rows L2 Cm 
def top (i : Nat) : Stmt := PySem.Challenge.pw_scanpages_k28_linear_systems.main.body.getD i (.Pass ⟨0, 0, 0, 0⟩)
abbrev s_is_symbol : Stmt := (top 6)
abbrev N_is_symbol : List Str := ["integer"]
theorem sc_is_symbol : FnScope N_is_symbol ["integer"] (defScope s_is_symbol) := ⟨rfl, rfl, rfl, by decide +kernel, rfl, by decide +kernel, by decide +kernel⟩
abbrev s_inverse : Stmt := (top 7)
abbrev N_inverse : List Str := ["a"]
theorem sc_inverse : FnScope N_inverse ["a"] (defScope s_inverse) := ⟨rfl, rfl, rfl, by decide +kernel, rfl, by decide +kernel, by decide +kernel⟩
abbrev s_scaled : Stmt := (top 8)
abbrev N_scaled : List Str := ["row", "factor", "products", "symbol"]
theorem sc_scaled : FnScope N_scaled ["row", "factor"] (defScope s_scaled) := ⟨rfl, rfl, rfl, by decide +kernel, rfl, by decide +kernel, by decide +kernel⟩
abbrev s_plus_scaled : Stmt := (top 9)
abbrev N_plus_scaled : List Str := ["row", "other", "factor", "products", "symbol", "another"]
theorem sc_plus_scaled : FnScope N_plus_scaled ["row", "other", "factor"] (defScope s_plus_scaled) := ⟨rfl, rfl, rfl, by decide +kernel, rfl, by decide +kernel, by decide +kernel⟩
abbrev s__check_symbol : Stmt := (top 10)
abbrev N__check_symbol : List Str := ["a"]
theorem sc__check_symbol : FnScope N__check_symbol ["a"] (defScope s__check_symbol) := ⟨rfl, rfl, rfl, by decide +kernel, rfl, by decide +kernel, by decide +kernel⟩
abbrev s_solve_system : Stmt := (top 12)
abbrev N_solve_system : List Str := ["rows", "right", "unknowns", "table", "pivots", "row", "value", "solution", "pivot"]
theorem sc_solve_system : FnScope N_solve_system ["rows", "right"] (defScope s_solve_system) := ⟨rfl, rfl, rfl, by decide +kernel, rfl, by decide +kernel, by decide +kernel⟩
abbrev s_rank : Stmt := (top 13)
abbrev N_rank : List Str := ["rows", "pivots"]
theorem sc_rank : FnScope N_rank ["rows"] (defScope s_rank) := ⟨rfl, rfl, rfl, by decide +kernel, rfl, by decide +kernel, by decide +kernel⟩
abbrev s__eliminated : Stmt := (top 14)
abbrev N__eliminated : List Str := ["rows", "columns", "table", "pivots", "column", "top", "found", "pivot_row", "cleared", "row"]
theorem sc__eliminated : FnScope N__eliminated ["rows", "columns"] (defScope s__eliminated) := ⟨rfl, rfl, rfl, by decide +kernel, rfl, by decide +kernel, by decide +kernel⟩
abbrev s__first_with : Stmt := (top 15)
abbrev N__first_with : List Str := ["table", "column", "start", "at"]
theorem sc__first_with : FnScope N__first_with ["table", "column", "start"] (defScope s__first_with) := ⟨rfl, rfl, rfl, by decide +kernel, rfl, by decide +kernel, by decide +kernel⟩
abbrev s__law_cell : Stmt := (top 17)
abbrev N__law_cell : List Str := ["script", "k"]
theorem sc__law_cell : FnScope N__law_cell ["script", "k"] (defScope s__law_cell) := ⟨rfl, rfl, rfl, by decide +kernel, rfl, by decide +kernel, by decide +kernel⟩
abbrev s__law_mix : Stmt := (top 18)
abbrev N__law_mix : List Str := ["cell", "k", "number"]
theorem sc__law_mix : FnScope N__law_mix ["cell", "k"] (defScope s__law_mix) := ⟨rfl, rfl, rfl, by decide +kernel, rfl, by decide +kernel, by decide +kernel⟩
abbrev s__law_row : Stmt := (top 19)
abbrev N__law_row : List Str := ["cell", "count", "bound", "found", "rest", "k"]
theorem sc__law_row : FnScope N__law_row ["cell", "count", "bound"] (defScope s__law_row) := ⟨rfl, rfl, rfl, by decide +kernel, rfl, by decide +kernel, by decide +kernel⟩
abbrev s__law_is_int : Stmt := (top 20)
abbrev N__law_is_int : List Str := ["value"]
theorem sc__law_is_int : FnScope N__law_is_int ["value"] (defScope s__law_is_int) := ⟨rfl, rfl, rfl, by decide +kernel, rfl, by decide +kernel, by decide +kernel⟩
abbrev s__law_is_list : Stmt := (top 21)
abbrev N__law_is_list : List Str := ["value", "least", "greatest", "item"]
theorem sc__law_is_list : FnScope N__law_is_list ["value", "least", "greatest"] (defScope s__law_is_list) := ⟨rfl, rfl, rfl, by decide +kernel, rfl, by decide +kernel, by decide +kernel⟩
abbrev s__law_times : Stmt := (top 22)
abbrev N__law_times : List Str := ["a", "b", "logs"]
theorem sc__law_times : FnScope N__law_times ["a", "b"] (defScope s__law_times) := ⟨rfl, rfl, rfl, by decide +kernel, rfl, by decide +kernel, by decide +kernel⟩
abbrev s__law_value_at : Stmt := (top 23)
abbrev N__law_value_at : List Str := ["poly", "point", "value", "symbol"]
theorem sc__law_value_at : FnScope N__law_value_at ["poly", "point"] (defScope s__law_value_at) := ⟨rfl, rfl, rfl, by decide +kernel, rfl, by decide +kernel, by decide +kernel⟩
abbrev s__law_reduced : Stmt := (top 24)
abbrev N__law_reduced : List Str := ["poly", "size", "k"]
theorem sc__law_reduced : FnScope N__law_reduced ["poly"] (defScope s__law_reduced) := ⟨rfl, rfl, rfl, by decide +kernel, rfl, by decide +kernel, by decide +kernel⟩
abbrev s__law_rows : Stmt := (top 25)
abbrev N__law_rows : List Str := ["script", "height", "width", "rows", "k", "cell", "line", "symbol", "a", "b"]
theorem sc__law_rows : FnScope N__law_rows ["script", "height", "width"] (defScope s__law_rows) := ⟨rfl, rfl, rfl, by decide +kernel, rfl, by decide +kernel, by decide +kernel⟩
abbrev s__law_rank : Stmt := (top 26)
abbrev N__law_rank : List Str := ["rows", "table", "line", "found", "column", "place", "k", "a", "b", "x", "y"]
theorem sc__law_rank : FnScope N__law_rank ["rows"] (defScope s__law_rank) := ⟨rfl, rfl, rfl, by decide +kernel, rfl, by decide +kernel, by decide +kernel⟩
abbrev s_law : Stmt := (top 27)
abbrev N_law : List Str := ["script", "height", "width", "rows", "right", "known", "wanted", "line", "total", "k", "copies", "actual", "told", "symbol"]
theorem sc_law : FnScope N_law ["script"] (defScope s_law) := ⟨rfl, rfl, rfl, by decide +kernel, rfl, by decide +kernel, by decide +kernel⟩
structure Txt (K : PySem.W.Frag) (mg : Str → Option Value) (C_InvalidSymbol c_solve_system P_solve_system : Addr) : Prop where
  d_is_symbol : Dn K mg "is_symbol" s_is_symbol ["integer"]
  d_inverse : Dn K mg "inverse" s_inverse ["a"]
  d_scaled : Dn K mg "scaled" s_scaled ["row", "factor"]
  d_plus_scaled : Dn K mg "plus_scaled" s_plus_scaled ["row", "other", "factor"]
  d__check_symbol : Dn K mg "_check_symbol" s__check_symbol ["a"]
  d_solve_system : GX.DnC K mg "solve_system" s_solve_system ["rows", "right"] c_solve_system
  d_rank : Dn K mg "rank" s_rank ["rows"]
  d__eliminated : Dn K mg "_eliminated" s__eliminated ["rows", "columns"]
  d__first_with : Dn K mg "_first_with" s__first_with ["table", "column", "start"]
  d__law_cell : Dn K mg "_law_cell" s__law_cell ["script", "k"]
  d__law_mix : Dn K mg "_law_mix" s__law_mix ["cell", "k"]
  d__law_row : Dn K mg "_law_row" s__law_row ["cell", "count", "bound"]
  d__law_is_int : Dn K mg "_law_is_int" s__law_is_int ["value"]
  d__law_is_list : Dn K mg "_law_is_list" s__law_is_list ["value", "least", "greatest"]
  d__law_times : Dn K mg "_law_times" s__law_times ["a", "b"]
  d__law_rows : Dn K mg "_law_rows" s__law_rows ["script", "height", "width"]
  d__law_rank : Dn K mg "_law_rank" s__law_rank ["rows"]
  d_law : Dn K mg "law" s_law ["script"]
  c_SYMBOLS : CV mg "SYMBOLS" (.int 16)
  c_PRODUCTS : CT2.CTT K mg "PRODUCTS" [[V.int 0, V.int 0, V.int 0, V.int 0, V.int 0, V.int 0, V.int 0, V.int 0, V.int 0, V.int 0, V.int 0, V.int 0, V.int 0, V.int 0, V.int 0, V.int 0], [V.int 0, V.int 1, V.int 2, V.int 3, V.int 4, V.int 5, V.int 6, V.int 7, V.int 8, V.int 9, V.int 10, V.int 11, V.int 12, V.int 13, V.int 14, V.int 15], [V.int 0, V.int 2, V.int 4, V.int 6, V.int 8, V.int 10, V.int 12, V.int 14, V.int 3, V.int 1, V.int 7, V.int 5, V.int 11, V.int 9, V.int 15, V.int 13], [V.int 0, V.int 3, V.int 6, V.int 5, V.int 12, V.int 15, V.int 10, V.int 9, V.int 11, V.int 8, V.int 13, V.int 14, V.int 7, V.int 4, V.int 1, V.int 2], [V.int 0, V.int 4, V.int 8, V.int 12, V.int 3, V.int 7, V.int 11, V.int 15, V.int 6, V.int 2, V.int 14, V.int 10, V.int 5, V.int 1, V.int 13, V.int 9], [V.int 0, V.int 5, V.int 10, V.int 15, V.int 7, V.int 2, V.int 13, V.int 8, V.int 14, V.int 11, V.int 4, V.int 1, V.int 9, V.int 12, V.int 3, V.int 6], [V.int 0, V.int 6, V.int 12, V.int 10, V.int 11, V.int 13, V.int 7, V.int 1, V.int 5, V.int 3, V.int 9, V.int 15, V.int 14, V.int 8, V.int 2, V.int 4], [V.int 0, V.int 7, V.int 14, V.int 9, V.int 15, V.int 8, V.int 1, V.int 6, V.int 13, V.int 10, V.int 3, V.int 4, V.int 2, V.int 5, V.int 12, V.int 11], [V.int 0, V.int 8, V.int 3, V.int 11, V.int 6, V.int 14, V.int 5, V.int 13, V.int 12, V.int 4, V.int 15, V.int 7, V.int 10, V.int 2, V.int 9, V.int 1], [V.int 0, V.int 9, V.int 1, V.int 8, V.int 2, V.int 11, V.int 3, V.int 10, V.int 4, V.int 13, V.int 5, V.int 12, V.int 6, V.int 15, V.int 7, V.int 14], [V.int 0, V.int 10, V.int 7, V.int 13, V.int 14, V.int 4, V.int 9, V.int 3, V.int 15, V.int 5, V.int 8, V.int 2, V.int 1, V.int 11, V.int 6, V.int 12], [V.int 0, V.int 11, V.int 5, V.int 14, V.int 10, V.int 1, V.int 15, V.int 4, V.int 7, V.int 12, V.int 2, V.int 9, V.int 13, V.int 6, V.int 8, V.int 3], [V.int 0, V.int 12, V.int 11, V.int 7, V.int 5, V.int 9, V.int 14, V.int 2, V.int 10, V.int 6, V.int 1, V.int 13, V.int 15, V.int 3, V.int 4, V.int 8], [V.int 0, V.int 13, V.int 9, V.int 4, V.int 1, V.int 12, V.int 8, V.int 5, V.int 2, V.int 15, V.int 11, V.int 6, V.int 3, V.int 14, V.int 10, V.int 7], [V.int 0, V.int 14, V.int 15, V.int 1, V.int 13, V.int 3, V.int 2, V.int 12, V.int 9, V.int 7, V.int 6, V.int 8, V.int 4, V.int 10, V.int 11, V.int 5], [V.int 0, V.int 15, V.int 13, V.int 2, V.int 9, V.int 6, V.int 4, V.int 11, V.int 1, V.int 14, V.int 12, V.int 3, V.int 8, V.int 7, V.int 5, V.int 10]]
  n_zip : mg "zip" = none
  n_len : mg "len" = none
  n_any : mg "any" = none
  n_list : mg "list" = none
  n_range : mg "range" = none
  n_int : mg "int" = none
  n_abs : mg "abs" = none
  n_isinstance : mg "isinstance" = none
  n_bool : mg "bool" = none
  x_InvalidSymbol : XCl K mg "InvalidSymbol" C_InvalidSymbol
class Tbs (base : Heap) (mg : Str → Option Value) (c_solve_system P_solve_system : Addr) : Prop where
  t_solve_system : GxR.TabB base mg c_solve_system P_solve_system
section
variable {P : Program} {w : World} {K : PySem.W.Frag} {mg : Str → Option Value} {base : Heap} {C_InvalidSymbol c_solve_system P_solve_system : Addr} [TBS : Tbs base mg c_solve_system P_solve_system]
/-! symbols -/
def powL : List Int := [1, 2, 4, 8, 3, 6, 12, 11, 5, 10, 7, 14, 15, 13, 9]
def expL : List Int := [0, 0, 1, 4, 2, 8, 5, 10, 3, 14, 9, 7, 6, 13, 11, 12]
def powV : List V := [V.int 1, V.int 2, V.int 4, V.int 8, V.int 3, V.int 6, V.int 12, V.int 11, V.int 5, V.int 10, V.int 7, V.int 14, V.int 15, V.int 13, V.int 9]
def expV : List V := [V.non, V.int 0, V.int 1, V.int 4, V.int 2, V.int 8, V.int 5, V.int 10, V.int 3, V.int 14, V.int 9, V.int 7, V.int 6, V.int 13, V.int 11, V.int 12]
def sym (a : Int) : Prop := 0 ≤ a ∧ a < 16
def addI (a b : Int) : Int := Builtin.bitXor a b
def mulI (a b : Int) : Int := if a = 0 ∨ b = 0 then 0 else powL.getD ((expL.getD a.toNat 0 + expL.getD b.toNat 0) % 15).toNat 0
def invI (a : Int) : Int := powL.getD ((15 - expL.getD a.toNat 0) % 15).toNat 0
theorem sym_all {p : Int → Prop} (h : ∀ i : Fin 16, p ((i.val : Nat) : Int)) {a : Int} (ha : sym a) : p a := by
  have e : ((a.toNat : Nat) : Int) = a := Int.toNat_of_nonneg ha.1
  have hlt : a.toNat < 16 := by have := ha.2; omega
  have z := h ⟨a.toNat, hlt⟩
  rw [e] at z
  exact z
theorem add_sym {a b : Int} (ha : sym a) (hb : sym b) : sym (addI a b) :=
  sym_all (p := fun a => sym (addI a b)) (fun i => sym_all (p := fun b => sym (addI i.val b)) (fun j => by revert i j; unfold sym addI; decide +kernel) hb) ha
theorem mul_sym {a b : Int} (ha : sym a) (hb : sym b) : sym (mulI a b) :=
  sym_all (p := fun a => sym (mulI a b)) (fun i => sym_all (p := fun b => sym (mulI i.val b)) (fun j => by revert i j; unfold sym mulI; decide +kernel) hb) ha
theorem exp_at {a : Int} (ha : sym a) (h0 : a ≠ 0) : atI expV a = some (.int (expL.getD a.toNat 0)) :=
  sym_all (p := fun a => a ≠ 0 → atI expV a = some (.int (expL.getD a.toNat 0))) (by decide +kernel) ha h0
theorem exp_in {a : Int} (ha : sym a) : 0 ≤ expL.getD a.toNat 0 ∧ expL.getD a.toNat 0 < 15 :=
  sym_all (p := fun a => 0 ≤ expL.getD a.toNat 0 ∧ expL.getD a.toNat 0 < 15) (by decide +kernel) ha
theorem pow_at {k : Int} (h0 : 0 ≤ k) (h1 : k < 15) : atI powV k = some (.int (powL.getD k.toNat 0)) :=
  sym_all (p := fun k => k < 15 → atI powV k = some (.int (powL.getD k.toNat 0))) (by decide +kernel) (a := k) ⟨h0, by omega⟩ h1
theorem mul_comm' {a b : Int} (ha : sym a) (hb : sym b) : mulI b a = mulI a b :=
  sym_all (p := fun a => mulI b a = mulI a b) (fun i => sym_all (p := fun b => mulI b i.val = mulI i.val b) (fun j => by revert i j; unfold mulI; decide +kernel) hb) ha
theorem mul_assoc' {a b c : Int} (ha : sym a) (hb : sym b) (hc : sym c) : mulI a (mulI b c) = mulI (mulI a b) c :=
  sym_all (p := fun a => mulI a (mulI b c) = mulI (mulI a b) c) (fun i => sym_all (p := fun b => mulI i.val (mulI b c) = mulI (mulI i.val b) c) (fun j => sym_all (p := fun c => mulI i.val (mulI j.val c) = mulI (mulI i.val j.val) c) (fun k => by revert i j k; unfold mulI; decide +kernel) hc) hb) ha
theorem mul_add' {a b c : Int} (ha : sym a) (hb : sym b) (hc : sym c) : mulI a (addI b c) = addI (mulI a b) (mulI a c) :=
  sym_all (p := fun a => mulI a (addI b c) = addI (mulI a b) (mulI a c)) (fun i => sym_all (p := fun b => mulI i.val (addI b c) = addI (mulI i.val b) (mulI i.val c)) (fun j => sym_all (p := fun c => mulI i.val (addI j.val c) = addI (mulI i.val j.val) (mulI i.val c)) (fun k => by revert i j k; unfold mulI addI; decide +kernel) hc) hb) ha

/-! the field and its polynomials, plainly -/
abbrev G := Fin 16
def ga (a b : G) : G := ⟨(a.val ^^^ b.val) % 16, Nat.mod_lt _ (by decide)⟩
def gm (a b : G) : G := ⟨(mulI (a.val : Int) (b.val : Int)).toNat % 16, Nat.mod_lt _ (by decide)⟩
def gv (a : G) : G := ⟨(invI (a.val : Int)).toNat % 16, Nat.mod_lt _ (by decide)⟩
def gi (a : G) : Int := ((a.val : Nat) : Int)
def vg (a : G) : V := .int (gi a)
theorem gi_sym (a : G) : sym (gi a) := ⟨Int.natCast_nonneg _, by have := a.isLt; unfold gi; omega⟩
theorem gi_inj {a b : G} (h : gi a = gi b) : a = b := Fin.ext (by unfold gi at h; omega)
theorem of_sym {x : Int} (h : sym x) : ∃ g : G, x = gi g := ⟨⟨x.toNat, by have := h.1; have := h.2; omega⟩, by have := h.1; show x = ((x.toNat : Nat) : Int); omega⟩
theorem of_syms : ∀ {l : List Int}, (∀ x ∈ l, sym x) → ∃ gl : List G, l = gl.map gi
  | [], _ => ⟨[], rfl⟩
  | x :: l, h => by
    obtain ⟨g, e⟩ := of_sym (h x List.mem_cons_self)
    obtain ⟨gl, e2⟩ := of_syms fun y hy => h y (List.mem_cons_of_mem _ hy)
    exact ⟨g :: gl, by rw [e, e2]; rfl⟩
theorem gi_add (a b : G) : addI (gi a) (gi b) = gi (ga a b) := by revert a b; unfold addI gi ga; decide +kernel
theorem gi_mul (a b : G) : mulI (gi a) (gi b) = gi (gm a b) := by revert a b; unfold mulI gi gm; decide +kernel
theorem gi_inv (a : G) : a ≠ 0 → invI (gi a) = gi (gv a) := by revert a; unfold invI gi gv; decide +kernel
theorem gi_zero {a : G} : gi a = 0 ↔ a = 0 := by revert a; unfold gi; decide +kernel
theorem ga_comm (a b : G) : ga a b = ga b a := by revert a b; decide +kernel
theorem ga_assoc (a b c : G) : ga (ga a b) c = ga a (ga b c) := by revert a b c; decide +kernel
instance : Std.Commutative ga := ⟨ga_comm⟩
instance : Std.Associative ga := ⟨ga_assoc⟩
theorem ga_zero (a : G) : ga a 0 = a := by revert a; decide +kernel
theorem zero_ga (a : G) : ga 0 a = a := by revert a; decide +kernel
theorem ga_self (a : G) : ga a a = 0 := by revert a; decide +kernel
theorem gm_zero (a : G) : gm a 0 = 0 := by revert a; decide +kernel
theorem zero_gm (a : G) : gm 0 a = 0 := by revert a; decide +kernel
theorem gm_one (a : G) : gm a 1 = a := by revert a; decide +kernel
theorem gm_comm (a b : G) : gm a b = gm b a := by revert a b; unfold gm mulI; decide +kernel
theorem gm_assoc (a b c : G) : gm (gm a b) c = gm a (gm b c) := by revert a b c; unfold gm mulI; decide +kernel
theorem gm_add (a b c : G) : gm a (ga b c) = ga (gm a b) (gm a c) := by revert a b c; unfold gm mulI; decide +kernel
theorem add_gm (a b c : G) : gm (ga a b) c = ga (gm a c) (gm b c) := by rw [gm_comm, gm_add, gm_comm c a, gm_comm c b]
theorem gm_inv (a : G) : a ≠ 0 → gm a (gv a) = 1 := by revert a; decide +kernel
theorem gm_eq_zero (a b : G) : gm a b = 0 → a = 0 ∨ b = 0 := by revert a b; decide +kernel
theorem ga_eq {a b c : G} (h : ga a b = c) : a = ga c b := by rw [← h, ga_assoc, ga_self, ga_zero]
theorem ga_eq_zero {a b : G} (h : ga a b = 0) : a = b := by rw [ga_eq h, zero_ga]
/-! sums -/
def gs : Nat → (Nat → G) → G
  | 0, _ => 0
  | n + 1, f => ga (gs n f) (f n)
theorem gs_congr {f g : Nat → G} : ∀ {n : Nat}, (∀ k, k < n → f k = g k) → gs n f = gs n g
  | 0, _ => rfl
  | n + 1, h => by rw [gs, gs, gs_congr fun k hk => h k (by omega), h n (by omega)]
theorem gs_zero {f : Nat → G} : ∀ {n : Nat}, (∀ k, k < n → f k = 0) → gs n f = 0
  | 0, _ => rfl
  | n + 1, h => by rw [gs, gs_zero fun k hk => h k (by omega), h n (by omega)]; rfl
theorem gs_add (f g : Nat → G) : ∀ n : Nat, gs n (fun k => ga (f k) (g k)) = ga (gs n f) (gs n g)
  | 0 => (ga_zero 0).symm
  | n + 1 => by rw [gs, gs, gs, gs_add f g n]; ac_rfl
theorem gs_mul (c : G) (f : Nat → G) : ∀ n : Nat, gs n (fun k => gm c (f k)) = gm c (gs n f)
  | 0 => (gm_zero c).symm
  | n + 1 => by rw [gs, gs, gs_mul c f n, gm_add]
theorem gs_more {f : Nat → G} {m : Nat} (h : ∀ k, m ≤ k → f k = 0) : ∀ {n : Nat}, m ≤ n → gs n f = gs m f
  | 0, hm => by
    have e : m = 0 := by omega
    rw [e]
  | n + 1, hm => by
    by_cases e : m = n + 1
    · rw [e]
    · rw [gs, gs_more h (show m ≤ n by omega), h n (by omega), ga_zero]
theorem gs_first (f : Nat → G) : ∀ n : Nat, gs (n + 1) f = ga (f 0) (gs n fun k => f (k + 1))
  | 0 => by rw [gs, gs, gs, zero_ga, ga_zero]
  | n + 1 => by rw [gs, gs_first f n, gs]; ac_rfl
theorem gs_only {f : Nat → G} {j : Nat} : ∀ {n : Nat}, j < n → (∀ k, k < n → k ≠ j → f k = 0) → gs n f = f j
  | 0, h, _ => absurd h (by omega)
  | n + 1, h, hz => by
    by_cases e : j = n
    · rw [gs, gs_zero fun k hk => hz k (by omega) (by omega), zero_ga, e]
    · rw [gs, gs_only (show j < n by omega) fun k hk => hz k (by omega), hz n (by omega) (by omega), ga_zero]
/-! lists as functions -/
def co (p : List G) (n : Nat) : G := p.getD n 0
theorem co_out {p : List G} {n : Nat} (h : p.length ≤ n) : co p n = 0 := by simp [co, List.getD_eq_getElem?_getD, List.getElem?_eq_none h]
theorem co_in {p : List G} {n : Nat} (h : n < p.length) : co p n = p[n] := by simp [co, List.getD_eq_getElem?_getD, List.getElem?_eq_getElem h]
def tab (n : Nat) (f : Nat → G) : List G := (List.range n).map f
theorem tab_len (n : Nat) (f : Nat → G) : (tab n f).length = n := by simp [tab]
theorem tab_co (n : Nat) (f : Nat → G) (k : Nat) : co (tab n f) k = if k < n then f k else 0 := by
  by_cases h : k < n
  · rw [if_pos h, co_in (by rw [tab_len]; exact h)]
    simp [tab]
  · rw [if_neg h, co_out (by rw [tab_len]; omega)]
theorem list_ext {p q : List G} (hl : p.length = q.length) (h : ∀ k, k < p.length → co p k = co q k) : p = q := by
  refine List.ext_getElem hl fun k h1 h2 => ?_
  have z := h k h1
  rw [co_in h1, co_in h2] at z
  exact z
theorem tab_self (p : List G) : tab p.length (co p) = p := by
  refine list_ext (tab_len _ _) fun k hk => ?_
  rw [tab_len] at hk
  rw [tab_co, if_pos hk]
theorem tab_congr {n : Nat} {f g : Nat → G} (h : ∀ k, k < n → f k = g k) : tab n f = tab n g := by
  refine list_ext (by rw [tab_len, tab_len]) fun k hk => ?_
  rw [tab_len] at hk
  rw [tab_co, tab_co, if_pos hk, if_pos hk, h k hk]
theorem tab_set (n : Nat) (f : Nat → G) (k : Nat) (v : G) : (tab n f).set k v = tab n fun j => if j = k then v else f j := by
  refine list_ext (by rw [List.length_set, tab_len, tab_len]) fun j hj => ?_
  rw [List.length_set, tab_len] at hj
  rw [tab_co, if_pos hj, co_in (by rw [List.length_set, tab_len]; exact hj), List.getElem_set]
  by_cases e : k = j
  · rw [if_pos e, if_pos e.symm]
  · rw [if_neg e, if_neg (fun z => e z.symm)]
    simp [tab]
theorem set_co (p : List G) (k : Nat) (v : G) (hk : k < p.length) (j : Nat) : co (p.set k v) j = if j = k then v else co p j := by
  by_cases hj : j < p.length
  · rw [co_in (by rw [List.length_set]; exact hj), List.getElem_set]
    by_cases e : k = j
    · rw [if_pos e, if_pos e.symm]
    · rw [if_neg e, if_neg (fun z => e z.symm), co_in hj]
  · rw [co_out (by rw [List.length_set]; omega), if_neg (by omega), co_out (by omega)]
/-! reduced lists -/
def redLen (p : List G) : Nat → Nat
  | 0 => 0
  | n + 1 => if co p n = 0 then redLen p n else n + 1
def red (p : List G) : List G := p.take (redLen p p.length)
theorem redLen_le (p : List G) : ∀ n, redLen p n ≤ n
  | 0 => Nat.le_refl _
  | n + 1 => by
    rw [redLen]
    split
    · have := redLen_le p n
      omega
    · omega
theorem redLen_zero (p : List G) : ∀ n k, redLen p n ≤ k → k < n → co p k = 0
  | 0, k, _, h => absurd h (by omega)
  | n + 1, k, h1, h2 => by
    rw [redLen] at h1
    split at h1
    · rename_i hz
      by_cases e : k = n
      · rw [e, hz]
      · exact redLen_zero p n k h1 (by omega)
    · omega
theorem redLen_last (p : List G) : ∀ n, redLen p n ≠ 0 → co p (redLen p n - 1) ≠ 0
  | 0, h => absurd rfl h
  | n + 1, h => by
    rw [redLen] at h ⊢
    split
    · rename_i hz
      rw [if_pos hz] at h
      exact redLen_last p n h
    · rename_i hz
      exact hz
theorem red_len (p : List G) : (red p).length = redLen p p.length := by
  have := redLen_le p p.length
  rw [red, List.length_take]
  omega
theorem red_co (p : List G) (n : Nat) : co (red p) n = co p n := by
  by_cases h : n < redLen p p.length
  · have h2 := redLen_le p p.length
    rw [co_in (by rw [red_len]; exact h), co_in (by omega)]
    simp [red]
  · rw [co_out (by rw [red_len]; omega)]
    by_cases h3 : n < p.length
    · exact (redLen_zero p _ n (by omega) h3).symm
    · exact (co_out (by omega)).symm
/-- the length is told by the coefficients -/
theorem redLen_co {p q : List G} (h : ∀ n, co p n = co q n) (k : Nat) : redLen p k = redLen q k := by
  induction k with
  | zero => rfl
  | succ n ih => rw [redLen, redLen, h n, ih]
theorem redLen_far (p : List G) {n : Nat} (h : p.length ≤ n) : redLen p n = redLen p p.length := by
  induction n with
  | zero =>
    have e : p.length = 0 := by omega
    rw [e]
  | succ n ih =>
    by_cases e : p.length = n + 1
    · rw [e]
    · rw [redLen, if_pos (co_out (by omega)), ih (by omega)]
theorem red_ext {p q : List G} (h : ∀ n, co p n = co q n) : red p = red q := by
  have hl : (red p).length = (red q).length := by
    rw [red_len, red_len, ← redLen_far p (Nat.le_max_left p.length q.length), ← redLen_far q (Nat.le_max_right p.length q.length), redLen_co h]
  exact list_ext hl fun k _ => by rw [red_co, red_co, h]
theorem red_red (p : List G) : red (red p) = red p := red_ext (red_co p)
theorem red_short {p : List G} {n : Nat} (h : ∀ k, n ≤ k → co p k = 0) : (red p).length ≤ n := by
  rw [red_len]
  by_cases e : redLen p p.length = 0
  · omega
  · have z := redLen_last p _ e
    by_cases hn : redLen p p.length ≤ n
    · exact hn
    · exact absurd (h (redLen p p.length - 1) (by omega)) z
/-! products -/
def cv (p d : Nat → G) (n : Nat) : G := gs (n + 1) fun k => gm (p k) (d (n - k))
/-- the product behind i items of the first -/
def pc (p d : Nat → G) (i n : Nat) : G := gs i fun k => if k ≤ n then gm (p k) (d (n - k)) else 0
theorem pc_all {p d : Nat → G} {m : Nat} (h : ∀ k, m ≤ k → p k = 0) (n : Nat) : pc p d m n = cv p d n := by
  unfold pc cv
  have e : gs (n + 1) (fun k => gm (p k) (d (n - k))) = gs (n + 1) fun k => if k ≤ n then gm (p k) (d (n - k)) else 0 := gs_congr fun k hk => by rw [if_pos (by omega)]
  have h1 : ∀ k, m ≤ k → (if k ≤ n then gm (p k) (d (n - k)) else 0) = 0 := fun k hk => by
    rw [h k hk, zero_gm]
    split <;> rfl
  have h2 : ∀ k, n + 1 ≤ k → (if k ≤ n then gm (p k) (d (n - k)) else 0) = 0 := fun k hk => by rw [if_neg (by omega)]
  rw [e, ← gs_more h1 (Nat.le_max_left m (n + 1)), ← gs_more h2 (Nat.le_max_right m (n + 1))]
/-- .. and j items of the second in the turn i -/
def pcj (p d : Nat → G) (i j n : Nat) : G := ga (pc p d i n) (if i ≤ n ∧ n < i + j then gm (p i) (d (n - i)) else 0)
theorem pcj_zero (p d : Nat → G) (i n : Nat) : pcj p d i 0 n = pc p d i n := by rw [pcj, if_neg (by omega), ga_zero]
theorem pcj_last {p d : Nat → G} {i m : Nat} (h : ∀ k, m ≤ k → d k = 0) (n : Nat) : pcj p d i m n = pc p d (i + 1) n := by
  rw [pcj, pc, pc, gs]
  congr 1
  by_cases h1 : i ≤ n
  · rw [if_pos h1]
    by_cases h2 : n < i + m
    · rw [if_pos ⟨h1, h2⟩]
    · rw [if_neg (by omega), h _ (by omega), gm_zero]
  · rw [if_neg h1, if_neg (by omega)]
theorem pcj_succ (p d : Nat → G) (i j n : Nat) : pcj p d i (j + 1) n = if n = i + j then ga (pcj p d i j n) (gm (p i) (d j)) else pcj p d i j n := by
  rw [pcj, pcj]
  by_cases e : n = i + j
  · rw [if_pos e, if_pos ⟨by omega, by omega⟩, if_neg (by omega), ga_zero, show n - i = j by omega]
  · rw [if_neg e]
    congr 1
    by_cases h : i ≤ n ∧ n < i + j
    · rw [if_pos h, if_pos ⟨h.1, by omega⟩]
    · rw [if_neg h, if_neg (by omega)]
theorem cv_add (p q d : Nat → G) (n : Nat) : cv (fun k => ga (p k) (q k)) d n = ga (cv p d n) (cv q d n) := by
  unfold cv
  rw [← gs_add]
  exact gs_congr fun k _ => add_gm _ _ _
theorem cv_congr {p p' d d' : Nat → G} (h1 : ∀ k, p k = p' k) (h2 : ∀ k, d k = d' k) (n : Nat) : cv p d n = cv p' d' n := by
  unfold cv
  exact gs_congr fun k _ => by rw [h1, h2]
theorem cv_only (f : G) (s : Nat) (d : Nat → G) (n : Nat) : cv (fun k => if k = s then f else 0) d n = if s ≤ n then gm f (d (n - s)) else 0 := by
  unfold cv
  by_cases h : s ≤ n
  · have e := gs_only (f := fun k => gm (if k = s then f else 0) (d (n - k))) (j := s) (n := n + 1) (by omega) fun k _ hk => by
      show gm (if k = s then f else 0) (d (n - k)) = 0
      rw [if_neg hk, zero_gm]
    rw [if_pos h, e]
    show gm (if s = s then f else 0) (d (n - s)) = _
    rw [if_pos rfl]
  · rw [if_neg h]
    refine gs_zero fun k hk => ?_
    show gm (if k = s then f else 0) (d (n - k)) = 0
    rw [if_neg (by omega), zero_gm]
/-! values -/
def hor (x : G) : List G → G
  | [] => 0
  | a :: p => ga (gm (hor x p) x) a
theorem hor_zero (x : G) : ∀ {p : List G}, (∀ n, co p n = 0) → hor x p = 0
  | [], _ => rfl
  | a :: p, h => by
    have ha : a = 0 := h 0
    rw [hor, hor_zero x (p := p) fun n => h (n + 1), ha, zero_gm]
    rfl
theorem hor_ext (x : G) : ∀ {p q : List G}, (∀ n, co p n = co q n) → hor x p = hor x q
  | [], q, h => (hor_zero x fun n => (h n).symm).symm
  | a :: p, [], h => hor_zero x h
  | a :: p, b :: q, h => by
    have e : a = b := h 0
    rw [hor, hor, hor_ext x (p := p) (q := q) fun n => h (n + 1), e]
def addL (p q : List G) : List G := tab (max p.length q.length) fun k => ga (co p k) (co q k)
theorem addL_co (p q : List G) (n : Nat) : co (addL p q) n = ga (co p n) (co q n) := by
  rw [addL, tab_co]
  split
  · rfl
  · rw [co_out (p := p) (by omega), co_out (p := q) (by omega)]
    rfl
theorem hor_add (x : G) : ∀ {p q r : List G}, (∀ n, co r n = ga (co p n) (co q n)) → hor x r = ga (hor x p) (hor x q)
  | [], q, r, h => by
    rw [hor, zero_ga]
    exact hor_ext x fun n => by rw [h n, co_out (p := []) (Nat.zero_le _), zero_ga]
  | a :: p, [], r, h => by
    rw [hor_ext x (p := r) (q := a :: p) fun n => by rw [h n, co_out (p := []) (Nat.zero_le _), ga_zero]]
    exact (ga_zero _).symm
  | a :: p, b :: q, [], h => by
    have h0 : ga a b = 0 := (h 0).symm
    have hr : ∀ n, co [] n = ga (co p n) (co q n) := fun n => by
      have z := h (n + 1)
      rw [co_out (p := []) (Nat.zero_le _)] at z ⊢
      exact z
    have ih := hor_add x hr
    rw [hor, hor, hor]
    rw [hor] at ih
    have e2 : ga (ga (gm (hor x p) x) a) (ga (gm (hor x q) x) b) = ga (ga (gm (hor x p) x) (gm (hor x q) x)) (ga a b) := by ac_rfl
    rw [e2, h0, ← add_gm, ← ih, zero_gm]
    rfl
  | a :: p, b :: q, c :: r, h => by
    have h0 : c = ga a b := h 0
    rw [hor, hor, hor, hor_add x (p := p) (q := q) (r := r) fun n => h (n + 1), h0, add_gm]
    ac_rfl
theorem hor_scale (x c : G) : ∀ p : List G, hor x (p.map (gm c)) = gm c (hor x p)
  | [] => (gm_zero c).symm
  | a :: p => by rw [List.map_cons, hor, hor, hor_scale x c p, gm_add, gm_assoc]
theorem scale_co (c : G) (p : List G) (n : Nat) : co (p.map (gm c)) n = gm c (co p n) := by
  by_cases h : n < p.length
  · rw [co_in (by rw [List.length_map]; exact h), co_in h, List.getElem_map]
  · rw [co_out (by rw [List.length_map]; omega), co_out (by omega), gm_zero]
theorem hor_mul (x : G) (d : List G) : ∀ {p r : List G}, (∀ n, co r n = cv (co p) (co d) n) → hor x r = gm (hor x p) (hor x d)
  | [], r, h => by
    rw [hor, zero_gm]
    exact hor_zero x fun n => by
      rw [h n]
      exact gs_zero fun k _ => by rw [co_out (p := []) (Nat.zero_le _), zero_gm]
  | a :: p, r, h => by
    have ih := hor_mul x d (p := p) (r := tab (p.length + d.length) (cv (co p) (co d))) fun n => by
      rw [tab_co]
      split
      · rfl
      · refine (gs_zero fun k hk => ?_).symm
        by_cases h1 : k < p.length
        · rw [co_out (p := d) (by omega), gm_zero]
        · rw [co_out (p := p) (by omega), zero_gm]
    have e := hor_add x (p := 0 :: tab (p.length + d.length) (cv (co p) (co d))) (q := d.map (gm a)) (r := r) fun n => by
      rw [h n, scale_co]
      cases n with
      | zero => rw [cv, gs, gs, zero_ga]; exact (zero_ga _).symm
      | succ n =>
        rw [cv, gs_first]
        show ga (gm a (co d (n + 1))) (gs (n + 1) fun k => gm (co p k) (co d (n + 1 - (k + 1)))) = ga (co (tab (p.length + d.length) (cv (co p) (co d))) n) (gm a (co d (n + 1)))
        have e2 : (gs (n + 1) fun k => gm (co p k) (co d (n + 1 - (k + 1)))) = cv (co p) (co d) n := gs_congr fun k _ => by rw [Nat.add_sub_add_right]
        rw [e2, tab_co]
        by_cases hn : n < p.length + d.length
        · rw [if_pos hn, ga_comm]
        · rw [if_neg hn, zero_ga]
          have e3 : cv (co p) (co d) n = 0 := gs_zero fun k hk => by
            by_cases h1 : k < p.length
            · rw [co_out (p := d) (by omega), gm_zero]
            · rw [co_out (p := p) (by omega), zero_gm]
          rw [e3, ga_zero]
    rw [e, hor, hor, ga_zero, ih, hor_scale, add_gm, gm_assoc, gm_comm (hor x d) x, ← gm_assoc]
theorem hor_snoc (x a : G) : ∀ p : List G, hor x (p ++ [a]) = ga (hor x p) (hor x (List.replicate p.length 0 ++ [a]))
  | [] => by rw [hor, zero_ga]; rfl
  | b :: p => by
    rw [List.cons_append, hor, hor_snoc x a p, List.length_cons, List.replicate_succ, List.cons_append, hor, hor, ga_zero, add_gm]
    ac_rfl

-- @@CUT
/-! ### spans of rows, echelon forms -/
def ro (t : List (List G)) (k : Nat) : List G := t.getD k []
theorem ro_in {t : List (List G)} {k : Nat} (h : k < t.length) : ro t k = t[k] := by simp [ro, List.getD_eq_getElem?_getD, List.getElem?_eq_getElem h]
theorem ro_mem {t : List (List G)} {k : Nat} (h : k < t.length) : ro t k ∈ t := by
  rw [ro_in h]
  exact List.getElem_mem h
theorem mem_ro {t : List (List G)} {r : List G} (h : r ∈ t) : ∃ k, k < t.length ∧ ro t k = r := by
  obtain ⟨k, hk, e⟩ := List.getElem_of_mem h
  exact ⟨k, hk, by rw [ro_in hk, e]⟩
theorem ro_out {t : List (List G)} {k : Nat} (h : t.length ≤ k) : ro t k = [] := by simp [ro, List.getD_eq_getElem?_getD, List.getElem?_eq_none h]
theorem co_nil (j : Nat) : co [] j = 0 := co_out (Nat.zero_le _)
theorem ro_set {t : List (List G)} {k : Nat} {r : List G} (hk : k < t.length) (j : Nat) : ro (t.set k r) j = if j = k then r else ro t j := by
  unfold ro
  rw [List.getD_eq_getElem?_getD, List.getD_eq_getElem?_getD]
  by_cases e : j = k
  · subst e
    rw [if_pos rfl, List.getElem?_set_self hk]
    rfl
  · rw [if_neg e, List.getElem?_set_ne (fun z => e z.symm)]
theorem ro_map {t : List (List G)} {f : List G → List G} {k : Nat} (hk : k < t.length) : ro (t.map f) k = f (ro t k) := by
  rw [ro_in (by rw [List.length_map]; exact hk), List.getElem_map, ro_in hk]
inductive Spn (R : List (List G)) : (Nat → G) → Prop
  | zero : Spn R fun _ => 0
  | add {v : Nat → G} {r : List G} (c : G) : Spn R v → r ∈ R → Spn R fun j => ga (v j) (gm c (co r j))
theorem Spn.plus {R : List (List G)} {u v : Nat → G} (hu : Spn R u) (hv : Spn R v) : Spn R fun j => ga (u j) (v j) := by
  induction hv with
  | zero =>
    have e : (fun j => ga (u j) 0) = u := funext fun j => ga_zero _
    rw [e]
    exact hu
  | add c _ hr ih =>
    have := Spn.add c ih hr
    simpa only [ga_assoc] using this
theorem one_gm (a : G) : gm 1 a = a := by rw [gm_comm, gm_one]
theorem Spn.times {R : List (List G)} {v : Nat → G} (c : G) (hv : Spn R v) : Spn R fun j => gm c (v j) := by
  induction hv with
  | zero =>
    have e : (fun _ : Nat => gm c 0) = fun _ => 0 := funext fun j => gm_zero _
    rw [e]
    exact .zero
  | add d _ hr ih =>
    have := Spn.add (gm c d) ih hr
    simpa only [gm_add, gm_assoc] using this
theorem Spn.of_mem {R : List (List G)} {r : List G} (h : r ∈ R) : Spn R (co r) := by
  have := Spn.add (R := R) 1 .zero h
  simpa only [zero_ga, one_gm] using this
theorem Spn.trans {R R' : List (List G)} {v : Nat → G} (h : ∀ r ∈ R, Spn R' (co r)) (hv : Spn R v) : Spn R' v := by
  induction hv with
  | zero => exact .zero
  | add c _ hr ih => exact ih.plus ((h _ hr).times c)
theorem Spn.coef {t : List (List G)} {v : Nat → G} (hv : Spn t v) : ∃ f : Nat → G, ∀ j, v j = gs t.length fun i => gm (f i) (co (ro t i) j) := by
  induction hv with
  | zero => exact ⟨fun _ => 0, fun j => (gs_zero fun i _ => zero_gm _).symm⟩
  | @add v r c _ hr ih =>
    obtain ⟨f, hf⟩ := ih
    obtain ⟨k, hk, rfl⟩ := mem_ro hr
    refine ⟨fun i => if i = k then ga (f i) c else f i, fun j => ?_⟩
    have e : gs t.length (fun i => gm (if i = k then ga (f i) c else f i) (co (ro t i) j)) = gs t.length fun i => ga (gm (f i) (co (ro t i) j)) (if i = k then gm c (co (ro t k) j) else 0) := gs_congr fun i _ => by
      by_cases z : i = k
      · subst z
        rw [if_pos rfl, if_pos rfl, add_gm]
      · rw [if_neg z, if_neg z, ga_zero]
    rw [e, gs_add, ← hf j]
    congr 1
    rw [gs_only (j := k) hk (fun i _ z => if_neg z), if_pos rfl]
/-- a table in echelon form in its first n columns: the pivots ps of its first rows -/
structure Ech (t : List (List G)) (ps : List Nat) (n : Nat) : Prop where
  le : ps.length ≤ t.length
  lt : ∀ i, i < ps.length → ps.getD i 0 < n
  inc : ∀ i j, i < j → j < ps.length → ps.getD i 0 < ps.getD j 0
  ne : ∀ i, i < ps.length → co (ro t i) (ps.getD i 0) ≠ 0
  pre : ∀ i, i < ps.length → ∀ j, j < ps.getD i 0 → co (ro t i) j = 0
  post : ∀ i, ps.length ≤ i → ∀ j, j < n → co (ro t i) j = 0
def Leads (R : List (List G)) (c : Nat) : Prop := ∃ v, Spn R v ∧ v c ≠ 0 ∧ ∀ j, j < c → v j = 0
theorem Ech.leads {t : List (List G)} {ps : List Nat} {n : Nat} (E : Ech t ps n) {c : Nat} (hc : c < n) (h : Leads t c) : ∃ i, i < ps.length ∧ ps.getD i 0 = c := by
  obtain ⟨v, hv, h1, h2⟩ := h
  obtain ⟨f, hf⟩ := hv.coef
  refine Classical.byContradiction fun hn => h1 ?_
  have zero : ∀ i, i < ps.length → ps.getD i 0 < c → f i = 0 := by
    intro i
    induction i using Nat.strongRecOn with
    | ind i ih =>
      intro hi hic
      have e := hf (ps.getD i 0)
      rw [h2 _ hic, gs_only (j := i) (Nat.lt_of_lt_of_le hi E.le) (fun k _ hki => ?_)] at e
      · rcases gm_eq_zero _ _ e.symm with z | z
        · exact z
        · exact absurd z (E.ne i hi)
      · by_cases hk : k < ps.length
        · rcases Nat.lt_or_ge k i with hlt | hge
          · rw [ih k hlt hk (Nat.lt_trans (E.inc k i hlt hi) hic), zero_gm]
          · rw [E.pre k hk _ (E.inc i k (by omega) hk), gm_zero]
        · rw [E.post k (by omega) _ (E.lt i hi), gm_zero]
  rw [hf c]
  refine gs_zero fun k _ => ?_
  by_cases hk : k < ps.length
  · rcases Nat.lt_trichotomy (ps.getD k 0) c with z | z | z
    · rw [zero k hk z, zero_gm]
    · exact absurd ⟨k, hk, z⟩ hn
    · rw [E.pre k hk c z, gm_zero]
  · rw [E.post k (by omega) c hc, gm_zero]
theorem Ech.leads' {t : List (List G)} {ps : List Nat} {n : Nat} (E : Ech t ps n) {i : Nat} (hi : i < ps.length) : Leads t (ps.getD i 0) :=
  ⟨_, Spn.of_mem (ro_mem (Nat.lt_of_lt_of_le hi E.le)), E.ne i hi, E.pre i hi⟩
/-- increasing lists -/
theorem inc_le {ps qs : List Nat} (hp : ∀ i j, i < j → j < ps.length → ps.getD i 0 < ps.getD j 0) (hq : ∀ i j, i < j → j < qs.length → qs.getD i 0 < qs.getD j 0)
    (h : ∀ i, i < ps.length → ∃ k, k < qs.length ∧ qs.getD k 0 = ps.getD i 0) : ps.length ≤ qs.length := by
  have z : ∀ i, i < ps.length → ∃ k, i ≤ k ∧ k < qs.length ∧ qs.getD k 0 = ps.getD i 0 := by
    intro i
    induction i with
    | zero =>
      intro hi
      obtain ⟨k, h1, h2⟩ := h 0 hi
      exact ⟨k, Nat.zero_le _, h1, h2⟩
    | succ i ih =>
      intro hi
      obtain ⟨k, h1, h2, h3⟩ := ih (by omega)
      obtain ⟨m, h4, h5⟩ := h (i + 1) hi
      refine ⟨m, Classical.byContradiction fun hn => ?_, h4, h5⟩
      have hlt := hp i (i + 1) (by omega) hi
      rw [← h3, ← h5] at hlt
      rcases Nat.lt_or_ge m k with q | q
      · have := hq m k q h2
        omega
      · have : m = k := by omega
        subst this
        omega
  by_cases h0 : ps.length = 0
  · omega
  · obtain ⟨k, h1, h2, _⟩ := z (ps.length - 1) (by omega)
    omega
def Eqs (t R : List (List G)) : Prop := ∀ v, Spn t v ↔ Spn R v
theorem Eqs.leads {t R : List (List G)} (h : Eqs t R) {c : Nat} : Leads t c ↔ Leads R c :=
  ⟨fun ⟨v, a, b⟩ => ⟨v, (h v).mp a, b⟩, fun ⟨v, a, b⟩ => ⟨v, (h v).mpr a, b⟩⟩
theorem eqs_of {t R : List (List G)} (h1 : ∀ r ∈ t, Spn R (co r)) (h2 : ∀ r ∈ R, Spn t (co r)) : Eqs t R := fun _ => ⟨fun h => h.trans h1, fun h => h.trans h2⟩
theorem Eqs.tr {a b c : List (List G)} (h : Eqs a b) (h' : Eqs b c) : Eqs a c := fun v => (h v).trans (h' v)
/-- two echelon forms of one span have equally many pivots -/
theorem ech_same {t t' R : List (List G)} {ps qs : List Nat} {n : Nat} (E : Ech t ps n) (E' : Ech t' qs n) (h : Eqs t R) (h' : Eqs t' R) : ps.length = qs.length :=
  Nat.le_antisymm (inc_le E.inc E'.inc fun i hi => E'.leads (E.lt i hi) (h'.leads.mpr (h.leads.mp (E.leads' hi))))
    (inc_le E'.inc E.inc fun i hi => E.leads (E'.lt i hi) (h.leads.mpr (h'.leads.mp (E'.leads' hi))))
theorem Ech.start (t : List (List G)) : Ech t [] 0 := ⟨Nat.zero_le _, fun _ h => absurd h (Nat.not_lt_zero _), fun _ _ _ h => absurd h (Nat.not_lt_zero _), fun _ h => absurd h (Nat.not_lt_zero _), fun _ h => absurd h (Nat.not_lt_zero _), fun _ _ _ h => absurd h (Nat.not_lt_zero _)⟩
/-- no pivot in this column -/
theorem Ech.skip {t : List (List G)} {ps : List Nat} {n : Nat} (E : Ech t ps n) (h : ∀ k, ps.length ≤ k → k < t.length → co (ro t k) n = 0) : Ech t ps (n + 1) :=
  ⟨E.le, fun i hi => Nat.lt_succ_of_lt (E.lt i hi), E.inc, E.ne, E.pre, fun i hi j hj => by
    rcases Nat.lt_or_ge j n with z | z
    · exact E.post i hi j z
    · have : j = n := by omega
      subst this
      rcases Nat.lt_or_ge i t.length with q | q
      · exact h i hi q
      · rw [ro_out q, co_nil]⟩
theorem getD_snoc (ps : List Nat) (n i : Nat) : (ps ++ [n]).getD i 0 = if i < ps.length then ps.getD i 0 else if i = ps.length then n else 0 := by
  rw [List.getD_eq_getElem?_getD, List.getD_eq_getElem?_getD]
  by_cases h : i < ps.length
  · rw [if_pos h, List.getElem?_append_left h]
  · rw [if_neg h, List.getElem?_append_right (by omega)]
    by_cases e : i = ps.length
    · rw [if_pos e, e, Nat.sub_self]
      rfl
    · rw [if_neg e, List.getElem?_eq_none (by rw [List.length_singleton]; omega)]
      rfl
/-- a pivot in this column: the row at the next place begins in it, the rows behind end before it -/
theorem Ech.next {t t' : List (List G)} {ps : List Nat} {n : Nat} (E : Ech t ps n) (hl : t'.length = t.length) (hlt : ps.length < t.length)
    (hb : ∀ i, i < ps.length → co (ro t' i) (ps.getD i 0) ≠ 0 ∧ ∀ j, j < ps.getD i 0 → co (ro t' i) j = 0)
    (hn : co (ro t' ps.length) n ≠ 0) (hp : ∀ j, j < n → co (ro t' ps.length) j = 0) (ha : ∀ i, ps.length < i → i < t.length → ∀ j, j ≤ n → co (ro t' i) j = 0) : Ech t' (ps ++ [n]) (n + 1) := by
  have e := getD_snoc ps n
  refine ⟨by rw [List.length_append, List.length_singleton]; omega, fun i hi => ?_, fun i j hij hj => ?_, fun i hi => ?_, fun i hi j hj => ?_, fun i hi j hj => ?_⟩
  all_goals try rw [List.length_append, List.length_singleton] at *
  · rw [e]
    by_cases z : i < ps.length
    · rw [if_pos z]
      exact Nat.lt_succ_of_lt (E.lt i z)
    · rw [if_neg z, if_pos (by omega)]
      omega
  · rw [e, e, if_pos (by omega)]
    by_cases z : j < ps.length
    · rw [if_pos z]
      exact E.inc i j hij z
    · rw [if_neg z, if_pos (by omega)]
      exact E.lt i (by omega)
  · rw [e]
    by_cases z : i < ps.length
    · rw [if_pos z]
      exact (hb i z).1
    · rw [if_neg z, if_pos (by omega), show i = ps.length by omega]
      exact hn
  · rw [e] at hj
    by_cases z : i < ps.length
    · rw [if_pos z] at hj
      exact (hb i z).2 j hj
    · rw [if_neg z, if_pos (by omega)] at hj
      rw [show i = ps.length by omega]
      exact hp j hj
  · rcases Nat.lt_or_ge i t.length with q | q
    · exact ha i (by omega) q j (by omega)
    · rw [ro_out (by omega), co_nil]

-- @@CUT
/-- the cell's promise -/
def spCell (K : PySem.W.Frag) : Sp := fun vs H Q _ => ∃ (l : Addr) (ns : List Int) (k : Nat), vs = [.ref l, .int (k : Int)] ∧ SqL K H l (ns.map V.int) ∧ Q (.int (cell ns k)) H
theorem ok__law_cell (T : Txt K mg C_InvalidSymbol c_solve_system P_solve_system) : Ok P w K mg base CX0 1 "_law_cell" ["script", "k"] (spCell K) := by
  refine ok_of T.d__law_cell fun f fd F => F.ok sc__law_cell (fun vs H Q E h => ?_) (fun cdv A outer s H vs Q E hr h => ?_)
  · obtain ⟨l, ns, k, rfl, _⟩ := h
    rfl
  · obtain ⟨l, ns, k, rfl, hs, q⟩ := h
    refine ⟨_,       (pss_cons (ps_if (pt_cmpR op_lt (pv 1) (pe_callB call_len_seq (by rfl) T.n_len PySem.boot_len (pa_cons (pv 0) pa_nil)) (nomark _))
        (pss_one (ps_ret (pe_callTy call_int1 (by rfl) T.n_int (by decide +kernel) (pa_cons (pe_ix ix_list (pv 0) (pv 1) (fun _ _ => rfl)) pa_nil)))) pss_nil)
      (pss_one (ps_ret pe_int))), ?_⟩
    refine ⟨_, rfl, _, rfl, l, _, rfl, .inl hs, _, _, rfl, rfl, _, rfl, itd (fun h => ?_) (fun h => ?_)⟩
    · have hk : k < ns.length := by
        rw [List.length_map] at h
        omega
      refine ⟨_, rfl, _, rfl, l, _, _, .int ns[k], rfl, rfl, hs, atI_nat (by rw [List.getElem?_map, List.getElem?_eq_getElem hk]; rfl), .inl ⟨_, rfl, ?_⟩⟩
      rw [Cm.cell_in hk] at q
      exact q
    · have hk : ¬ k < ns.length := by
        rw [List.length_map] at h
        omega
      rw [Cm.cell_out hk] at q
      exact q

def mixI (c k : Int) : Int := ((c * 48271 + k * 69621 + 12345) % 2147483647 * 16807 + k * 40692 + 777) % 2147483629 / 997
def spMix : Sp := fun vs H Q _ => ∃ c k : Int, vs = [.int c, .int k] ∧ Q (.int (mixI c k)) H
theorem ok__law_mix (T : Txt K mg C_InvalidSymbol c_solve_system P_solve_system) : Ok P w K mg base CX0 1 "_law_mix" ["cell", "k"] spMix := by
  refine ok_of T.d__law_mix fun f fd F => F.ok sc__law_mix (fun vs H Q E h => ?_) (fun cdv A outer s H vs Q E hr h => ?_)
  · obtain ⟨c, k, rfl, _⟩ := h
    rfl
  · obtain ⟨c, k, rfl, q⟩ := h
    have nd := sc__law_mix.nd
    refine ⟨_,       (pss_cons (ps_set (i := 2) nd rfl (Or.inl rfl) (pe_op op_mod (pe_callTy call_int1 (by rfl) T.n_int (by decide +kernel) (pa_cons (pe_op op_add (pe_op op_add (pe_op op_mul (pv 0) pe_int) (pe_op op_mul (pv 1) pe_int)) pe_int) pa_nil)) pe_int))
      (pss_cons (ps_set (i := 2) nd rfl (Or.inl rfl) (pe_op op_mod (pe_callTy call_int1 (by rfl) T.n_int (by decide +kernel) (pa_cons (pe_op op_add (pe_op op_add (pe_op op_mul (pv 2) pe_int) (pe_op op_mul (pv 1) pe_int)) pe_int) pa_nil)) pe_int))
      (pss_one (ps_ret (pe_op op_fdiv (pv 2) pe_int))))), ?_⟩
    refine ⟨_, rfl, _, _, rfl, rfl, .inr (by decide), _, rfl, _, _, rfl, rfl, .inr (by decide), _, _, rfl, rfl, _, _, rfl, rfl, .inl ⟨_, rfl, _, _, rfl, rfl, (by show (0 : Int) < 2147483647; decide), ?_⟩⟩
    refine ⟨_, rfl, _, _, rfl, rfl, .inr (by decide), _, rfl, _, _, rfl, rfl, .inr (by decide), _, _, rfl, rfl, _, _, rfl, rfl, .inl ⟨_, rfl, _, _, rfl, rfl, (by show (0 : Int) < 2147483629; decide), ?_⟩⟩
    exact ⟨_, rfl, _, _, rfl, rfl, ⟨by decide, by decide⟩, q⟩

def divs : Nat → Int → Int → Int
  | 0, x, _ => x
  | k + 1, x, b => divs k x b / b
def rowAt (c : Int) (b : Int) (k : Nat) : Int := if 1000000000000000000 ≤ (if c < 0 then -c else c) then divs k (if c < 0 then -c else c) b % b else mixI c k % b
/-- the digits of a cell, or its mixture -/
def rowL (c : Int) (n : Nat) (b : Int) : List Int := (List.range n).map (rowAt c b)
theorem rowL_len (c : Int) (n : Nat) (b : Int) : (rowL c n b).length = n := by simp [rowL]
theorem rowL_in {c : Int} {n : Nat} {b x : Int} (hb : 0 < b) (h : x ∈ rowL c n b) : 0 ≤ x ∧ x < b := by
  obtain ⟨k, _, rfl⟩ := List.mem_map.mp h
  have z : ∀ y : Int, 0 ≤ y % b ∧ y % b < b := fun y => ⟨Int.emod_nonneg _ (by omega), Int.emod_lt_of_pos _ hb⟩
  by_cases hc : 1000000000000000000 ≤ (if c < 0 then -c else c)
  · rw [rowAt, if_pos hc]
    exact z _
  · rw [rowAt, if_neg hc]
    exact z _
theorem rowL_succ (c : Int) (n : Nat) (b : Int) : rowL c (n + 1) b = rowL c n b ++ [rowAt c b n] := by simp [rowL, List.range_succ]
def spRow : Sp := fun vs H Q _ => ∃ (c : Int) (n : Nat) (b : Int), vs = [.int c, .int (n : Int), .int b] ∧ n ≤ 60000 ∧ 0 < b ∧ b < 1073741824 ∧ ∀ p H', H p = none → Same H H' → H' p = some (.lst ((rowL c n b).map V.int)) → Q (.ref p) H'
theorem ok__law_row (T : Txt K mg C_InvalidSymbol c_solve_system P_solve_system) : Ok P w K mg base CX0 2 "_law_row" ["cell", "count", "bound"] spRow := by
  have G__law_mix := ok__law_mix (P := P) (w := w) (base := base) T
  refine ok_of T.d__law_row fun f fd F => F.ok sc__law_row (fun vs H Q E h => ?_) (fun cdv A outer s H vs Q E hr h => ?_)
  · obtain ⟨c, n, b, rfl, _⟩ := h
    rfl
  · obtain ⟨c, n, b, rfl, hn, hb0, hb1, kQ⟩ := h
    have nd := sc__law_row.nd
    refine ⟨_,       (pss_cons (ps_set (i := 3) nd rfl (Or.inl rfl) (pe_lst pa_nil))
      (pss_cons (ps_set (i := 4) nd rfl (Or.inl rfl) (pe_callB call_abs (by rfl) T.n_abs (by decide +kernel) (pa_cons (pv 0) pa_nil)))
      (pss_cons (ps_for PassesOwn.never rfl (pi_range1 rfl T.n_range (pa_cons (pv 1) pa_nil)) (pg_name (i := 5) nd rfl (Or.inl rfl))
        (pss_one (ps_if (pt_cmpR op_ge (pe_callB call_abs (by rfl) T.n_abs (by decide +kernel) (pa_cons (pv 0) pa_nil)) pe_int (nomark _))
          (pss_cons (ps_expr (pe_bm PySem.F.plainAttrs_list PySem.F.slot_list_append PySem.F.type_list_append mt_append (pv 3) (pa_cons (pe_op op_mod (pe_callTy call_int1 (by rfl) T.n_int (by decide +kernel) (pa_cons (pv 4) pa_nil)) (pv 2)) pa_nil)))
          (pss_one (ps_set (i := 4) nd rfl (Or.inl rfl) (pe_op op_fdiv (pv 4) (pv 2)))))
          (pss_one (ps_expr (pe_bm PySem.F.plainAttrs_list PySem.F.slot_list_append PySem.F.type_list_append mt_append (pv 3) (pa_cons (pe_op op_mod (pe_callTy call_int1 (by rfl) T.n_int (by decide +kernel) (pa_cons (pe_callO G__law_mix (hr.mono (by decide)) pass0 (pa_cons (pv 0) (pa_cons (pv 5) pa_nil))) pa_nil)) (pv 2)) pa_nil)))))))
      (pss_one (ps_ret (pv 3)))))), ?_⟩
    refine ⟨by decide, fun p hp => ⟨_, rfl, _, rfl, ?_⟩⟩
    refine ⟨_, rfl, (n : Int), rfl, by omega, by omega, for_range (lo := 0) (n := (n : Int).toNat) (fun i σ H' => ∃ (r : Int) (v : Option V), (1000000000000000000 ≤ (if c < 0 then -c else c) → r = divs i (if c < 0 then -c else c) b) ∧ σ = [some (.int c), some (.int (n : Int)), some (.int b), some (.ref p), some (.int r), v] ∧ Same H H' ∧ H' p = some (.lst ((rowL c i b).map V.int))) ⟨_, none, fun _ => rfl, rfl, same_upd hp, upd_same⟩ ?_ ?_⟩
    · rintro i σ H' hi ⟨r, v, hr', rfl, e, hL⟩
      have ei : (0 : Int) + (i : Int) = (i : Int) := by omega
      have hsz : ((rowL c i b).map V.int).length < sizeLine := small (by rw [List.length_map, rowL_len]; omega)
      refine ⟨_, rfl, _, rfl, _, _, rfl, rfl, _, rfl, itd (fun h => ?_) (fun h => ?_)⟩
      · refine ⟨_, rfl, .inl ⟨rfl, _, SqL.of hL⟩, _, rfl, .inl ⟨_, rfl, _, rfl, _, _, rfl, rfl, hb0, p, _, _, rfl, rfl, hL, hsz, ?_⟩⟩
        refine ⟨_, rfl, _, rfl, _, _, rfl, rfl, ⟨hb0, hb1⟩, ?_⟩
        refine ⟨r / b, _, fun z => ?_, rfl, same_new e hp, ?_⟩
        · rw [hr' z]
          rfl
        · rw [upd_same, rowL_succ, rowAt, if_pos h, ← hr' h]
          simp
      · refine ⟨_, rfl, .inl ⟨rfl, _, SqL.of hL⟩, _, rfl, _, rfl, c, 0 + (i : Int), rfl, .inl ⟨_, rfl, _, rfl, _, _, rfl, rfl, hb0, p, _, _, rfl, rfl, hL, hsz, ?_⟩⟩
        refine ⟨r, _, fun z => absurd z h, rfl, same_new e hp, ?_⟩
        rw [upd_same, rowL_succ, rowAt, if_neg h, ei]
        simp
    · rintro σ H' ⟨r, v, _, rfl, e, hL⟩
      refine ⟨_, rfl, kQ p _ hp e ?_⟩
      rw [Int.toNat_natCast] at hL
      exact hL

def spIsInt : Sp := fun vs H Q _ => ∃ i : Int, vs = [.int i] ∧ Q (.bl true) H
theorem ok__law_is_int (T : Txt K mg C_InvalidSymbol c_solve_system P_solve_system) : Ok P w K mg base CX0 1 "_law_is_int" ["value"] spIsInt := by
  refine ok_of T.d__law_is_int fun f fd F => F.ok sc__law_is_int (fun vs H Q E h => ?_) (fun cdv A outer s H vs Q E hr h => ?_)
  · obtain ⟨i, rfl, _⟩ := h
    rfl
  · obtain ⟨i, rfl, q⟩ := h
    refine ⟨_,       (pss_one (ps_ret (pe_and (pe_callB call_isi (by rfl) T.n_isinstance (by decide +kernel) (pa_cons (pv 0) (pa_cons (pe_bltn (v := .ty "int") (by rfl) T.n_int (by decide +kernel) rfl) pa_nil))) (pe_one (pe_not (pe_callB call_isi (by rfl) T.n_isinstance (by decide +kernel) (pa_cons (pv 0) (pa_cons (pe_bltn (v := .ty "bool") (by rfl) T.n_bool (by decide +kernel) rfl) pa_nil)))))))), ?_⟩
    refine ⟨_, rfl, _, _, _, _, true, rfl, .ty _, .base (.int i), kit_ty (by decide +kernel), true, rfl, iteT ?_⟩
    exact ⟨_, rfl, _, _, _, _, false, rfl, .ty _, .base (.int i), kit_ty (by decide +kernel), false, rfl, q⟩

def allIn (lo hi : Int) (ns : List Int) : Bool := ns.all fun n => decide (lo ≤ n) && decide (n ≤ hi)
def spIsList (K : PySem.W.Frag) : Sp := fun vs H Q _ => ∃ (a : Addr) (ns : List Int) (lo hi : Int), vs = [.ref a, .int lo, .int hi] ∧ SqL K H a (ns.map V.int) ∧ Q (.bl (allIn lo hi ns)) H
theorem ok__law_is_list (T : Txt K mg C_InvalidSymbol c_solve_system P_solve_system) : Ok P w K mg base CX0 2 "_law_is_list" ["value", "least", "greatest"] (spIsList K) := by
  have G__law_is_int := ok__law_is_int (P := P) (w := w) (base := base) T
  refine ok_of T.d__law_is_list fun f fd F => F.ok sc__law_is_list (fun vs H Q E h => ?_) (fun cdv A outer s H vs Q E hr h => ?_)
  · obtain ⟨a, ns, lo, hi, rfl, _⟩ := h
    rfl
  · obtain ⟨a, ns, lo, hi, rfl, hs, q⟩ := h
    have nd := sc__law_is_list.nd
    refine ⟨_,       (pss_cons (ps_if (pt_not (pt_val (pe_callB call_isi (by rfl) T.n_isinstance (by decide +kernel) (pa_cons (pv 0) (pa_cons (pe_bltn (v := .ty "list") (by rfl) T.n_list (by decide +kernel) rfl) pa_nil)))))
        (pss_one (ps_ret pe_bl)) pss_nil)
      (pss_cons (ps_for PassesOwn.never rfl (pi_list (pv 0)) (pg_name (i := 3) nd rfl (Or.inl rfl))
        (pss_one (ps_if (PW.pt (pw_or (pt_not (pt_val (pe_callO G__law_is_int (hr.mono (by decide)) pass0 (pa_cons (pv 3) pa_nil)))) (pw_or (pt_cmpR op_lt (pv 3) (pv 1) (nomark _)) (pw_or1 (pt_cmpR op_gt (pv 3) (pv 2) (nomark _))))))
          (pss_one (ps_ret pe_bl)) pss_nil)))
      (pss_one (ps_ret pe_bl)))), ?_⟩
    refine ⟨_, rfl, _, _, _, _, true, rfl, .ty _, tyx_list hs, kit_ty (by decide +kernel), true, rfl, iteF ?_⟩
    refine ⟨_, rfl, a, rfl, ⟨_, hs⟩, for_list (K := K) (a := a) (xs := ns.map V.int) (fun i σ H' => H' = H ∧ allIn lo hi (ns.take i) = true ∧ ∃ v, σ = [some (.ref a), some (.int lo), some (.int hi), v]) ⟨rfl, rfl, none, rfl⟩ (fun i σ H' _ ⟨e, _⟩ => e ▸ hs) ?_ ?_⟩
    · rintro i y σ H' hi' ⟨rfl, ht, v, rfl⟩
      obtain ⟨hin, rfl⟩ := get_ints hi'
      have bad : ¬ (lo ≤ ns[i] ∧ ns[i] ≤ hi) → allIn lo hi ns = false := fun hb => by
        rw [allIn, List.all_eq_false]
        exact ⟨ns[i], List.getElem_mem hin, by simpa using fun h1 => Int.not_le.mp fun h2 => hb ⟨h1, h2⟩⟩
      refine ⟨_, rfl, _, rfl, true, rfl, iteF ?_⟩
      refine ⟨_, rfl, _, rfl, _, _, rfl, rfl, _, rfl, itd (fun h1 => ?_) (fun h1 => ?_)⟩
      · refine iteT ?_
        rw [bad (by omega)] at q
        exact q
      · refine ⟨_, rfl, _, rfl, _, _, rfl, rfl, _, rfl, itd (fun h2 => ?_) (fun h2 => ?_)⟩
        · rw [bad (by omega)] at q
          exact q
        · refine ⟨rfl, ?_, _, rfl⟩
          have e1 : (decide (lo ≤ ns[i]) && decide (ns[i] ≤ hi)) = true := by
            rw [decide_eq_true (show lo ≤ ns[i] by omega), decide_eq_true (show ns[i] ≤ hi by omega)]
            rfl
          unfold allIn at ht ⊢
          rw [take_snoc hin, List.all_append, ht, List.all_cons, e1]
          rfl
    · rintro σ H' ⟨rfl, ht, v, rfl⟩
      rw [List.length_map, List.take_length] at ht
      rw [ht] at q
      exact q

theorem cut_midG {xs : List V} {j k : Nat} (h : j ≤ k) : cutV xs (some (j : Int)) (some (k : Int)) = (xs.drop j).take (k - j) := by
  unfold cutV
  have e1 : HT.sIx xs.length 0 (some (j : Int)) = min j xs.length := HT.sIx_nat _ _ j
  have e2 : HT.sIx xs.length xs.length (some (k : Int)) = min k xs.length := HT.sIx_nat _ _ k
  rw [e1, e2]
  by_cases h1 : j ≤ xs.length
  · rw [Nat.min_eq_left h1]
    by_cases h2 : k ≤ xs.length
    · rw [Nat.min_eq_left h2]
    · rw [Nat.min_eq_right (by omega), List.take_of_length_le (by rw [List.length_drop]; omega), List.take_of_length_le (by rw [List.length_drop]; omega)]
  · rw [List.drop_of_length_le (by omega), List.drop_of_length_le (by omega), List.take_nil, List.take_nil]
theorem cut_toG {xs : List V} {k : Nat} : cutV xs none (some (k : Int)) = xs.take k := by
  unfold cutV
  have e2 : HT.sIx xs.length xs.length (some (k : Int)) = min k xs.length := HT.sIx_nat _ _ k
  have e1 : HT.sIx xs.length 0 none = 0 := rfl
  rw [e1, e2, List.drop_zero, Nat.sub_zero]
  by_cases h2 : k ≤ xs.length
  · rw [Nat.min_eq_left h2]
  · rw [Nat.min_eq_right (by omega), List.take_of_length_le (Nat.le_refl _), List.take_of_length_le (by omega)]
theorem tru_l {K : PySem.W.Frag} {H : Hp} {p : Addr} {xs : List V} (h : SqL K H p xs) : TruV K (.ref p) H (!xs.isEmpty) := .inl ⟨xs, h, rfl⟩
theorem tru_t {K : PySem.W.Frag} {H : Hp} {p : Addr} {xs : List V} (h : SqT K H p xs) : TruV K (.ref p) H (!xs.isEmpty) := .inr (.inl ⟨xs, h, rfl⟩)
theorem ne_noG {d e : PyData} {A B : Prop} (h : PyData.eqv d e = true) (hb : B) : ∃ k, V.bl (!PyData.eqv d e) = V.bl k ∧ if k = true then A else B := ⟨_, rfl, by rw [h]; exact iteF hb⟩
theorem nm_noG {x y : V} {A B : Prop} (h : x = y) (hb : B) : ∃ k, V.bl (!decide (x = y)) = V.bl k ∧ if k = true then A else B := ⟨_, rfl, by rw [h]; simpa using hb⟩
theorem if_ff {A B : Prop} (h : B) : if (true = false) then A else B := by
  rw [if_neg (by decide)]
  exact h
theorem if_tf {A B : Prop} (h : A) : if (false = false) then A else B := by
  rw [if_pos rfl]
  exact h

def spIsSym : Sp := fun vs H Q _ => ∃ n : Int, vs = [.int n] ∧ Q (.bl (decide (0 ≤ n ∧ n < 16))) H
theorem ok_is_symbol (T : Txt K mg C_InvalidSymbol c_solve_system P_solve_system) : Ok P w K mg base CX0 1 "is_symbol" ["integer"] spIsSym := by
  refine ok_of T.d_is_symbol fun f fd F => F.ok sc_is_symbol (fun vs H Q E h => ?_) (fun cdv A outer s H vs Q E hr h => ?_)
  · obtain ⟨n, rfl, _⟩ := h
    rfl
  · obtain ⟨n, rfl, q⟩ := h
    have nd := sc_is_symbol.nd
    refine ⟨_,       (pss_one (ps_ret (pe_chain op_le op_lt pe_int (pv 0) (pe_globC rfl T.c_SYMBOLS)))), ?_⟩
    refine ⟨_, rfl, _, _, rfl, rfl, _, rfl, itd (fun h0 => ?_) (fun h0 => ?_)⟩
    · refine ⟨_, _, rfl, rfl, ?_⟩
      have e : decide (0 ≤ n ∧ n < 16) = decide (n < 16) := by simp [h0]
      rw [e] at q
      exact q
    · have e : decide (0 ≤ n ∧ n < 16) = false := by simp [h0]
      rw [e] at q
      exact q
def spCheck (C : Addr) : Sp := fun vs H Q E => ∃ n : Int, vs = [.int n] ∧ (¬ sym n → E (.ref C) none H) ∧ (sym n → Q .non H)
theorem ok__check_symbol (T : Txt K mg C_InvalidSymbol c_solve_system P_solve_system) : Ok P w K mg base (CXN P w) 2 "_check_symbol" ["a"] (spCheck C_InvalidSymbol) := by
  have G_is_symbol := ok_is_symbol (P := P) (w := w) (base := base) T
  refine ok_of T.d__check_symbol fun f fd F => okN F sc__check_symbol (fun vs H Q E h => ?_) (fun cdv A outer s H vs Q E hr h => ?_)
  · obtain ⟨n, rfl, _⟩ := h
    rfl
  · obtain ⟨n, rfl, kE, kQ⟩ := h
    have nd := sc__check_symbol.nd
    refine ⟨_,       (pss_one (ps_if (pt_not (pt_val (pe_callO G_is_symbol (hr.mono (by decide)) pass0 (pa_cons (pv 0) pa_nil))))
        (pss_one (L2N.ps_raise rfl (L2N.takes_of rfl rfl rfl rfl) (L2N.pmk_own PySem.F.excBase_ValueError T.x_InvalidSymbol.x T.x_InvalidSymbol.g T.x_InvalidSymbol.k (raises_own T.x_InvalidSymbol.b T.x_InvalidSymbol.t) rfl))) pss_nil)), ?_⟩
    refine ⟨_, rfl, n, rfl, _, rfl, itb (fun h => ?_) (fun h => ?_)⟩
    · exact kE fun z => by
        have := z.1
        have := z.2
        simp at h
        omega
    · simp at h
      exact kQ ⟨h.1, h.2⟩

def sp2 (C : Addr) (op : Int → Int → Int) : Sp := fun vs H Q E => ∃ a b : Int, vs = [.int a, .int b] ∧ (¬ (sym a ∧ sym b) → E (.ref C) none H) ∧ (sym a → sym b → Q (.int (op a b)) H)
abbrev rowV : List (List V) := [[V.int 0, V.int 0, V.int 0, V.int 0, V.int 0, V.int 0, V.int 0, V.int 0, V.int 0, V.int 0, V.int 0, V.int 0, V.int 0, V.int 0, V.int 0, V.int 0], [V.int 0, V.int 1, V.int 2, V.int 3, V.int 4, V.int 5, V.int 6, V.int 7, V.int 8, V.int 9, V.int 10, V.int 11, V.int 12, V.int 13, V.int 14, V.int 15], [V.int 0, V.int 2, V.int 4, V.int 6, V.int 8, V.int 10, V.int 12, V.int 14, V.int 3, V.int 1, V.int 7, V.int 5, V.int 11, V.int 9, V.int 15, V.int 13], [V.int 0, V.int 3, V.int 6, V.int 5, V.int 12, V.int 15, V.int 10, V.int 9, V.int 11, V.int 8, V.int 13, V.int 14, V.int 7, V.int 4, V.int 1, V.int 2], [V.int 0, V.int 4, V.int 8, V.int 12, V.int 3, V.int 7, V.int 11, V.int 15, V.int 6, V.int 2, V.int 14, V.int 10, V.int 5, V.int 1, V.int 13, V.int 9], [V.int 0, V.int 5, V.int 10, V.int 15, V.int 7, V.int 2, V.int 13, V.int 8, V.int 14, V.int 11, V.int 4, V.int 1, V.int 9, V.int 12, V.int 3, V.int 6], [V.int 0, V.int 6, V.int 12, V.int 10, V.int 11, V.int 13, V.int 7, V.int 1, V.int 5, V.int 3, V.int 9, V.int 15, V.int 14, V.int 8, V.int 2, V.int 4], [V.int 0, V.int 7, V.int 14, V.int 9, V.int 15, V.int 8, V.int 1, V.int 6, V.int 13, V.int 10, V.int 3, V.int 4, V.int 2, V.int 5, V.int 12, V.int 11], [V.int 0, V.int 8, V.int 3, V.int 11, V.int 6, V.int 14, V.int 5, V.int 13, V.int 12, V.int 4, V.int 15, V.int 7, V.int 10, V.int 2, V.int 9, V.int 1], [V.int 0, V.int 9, V.int 1, V.int 8, V.int 2, V.int 11, V.int 3, V.int 10, V.int 4, V.int 13, V.int 5, V.int 12, V.int 6, V.int 15, V.int 7, V.int 14], [V.int 0, V.int 10, V.int 7, V.int 13, V.int 14, V.int 4, V.int 9, V.int 3, V.int 15, V.int 5, V.int 8, V.int 2, V.int 1, V.int 11, V.int 6, V.int 12], [V.int 0, V.int 11, V.int 5, V.int 14, V.int 10, V.int 1, V.int 15, V.int 4, V.int 7, V.int 12, V.int 2, V.int 9, V.int 13, V.int 6, V.int 8, V.int 3], [V.int 0, V.int 12, V.int 11, V.int 7, V.int 5, V.int 9, V.int 14, V.int 2, V.int 10, V.int 6, V.int 1, V.int 13, V.int 15, V.int 3, V.int 4, V.int 8], [V.int 0, V.int 13, V.int 9, V.int 4, V.int 1, V.int 12, V.int 8, V.int 5, V.int 2, V.int 15, V.int 11, V.int 6, V.int 3, V.int 14, V.int 10, V.int 7], [V.int 0, V.int 14, V.int 15, V.int 1, V.int 13, V.int 3, V.int 2, V.int 12, V.int 9, V.int 7, V.int 6, V.int 8, V.int 4, V.int 10, V.int 11, V.int 5], [V.int 0, V.int 15, V.int 13, V.int 2, V.int 9, V.int 6, V.int 4, V.int 11, V.int 1, V.int 14, V.int 12, V.int 3, V.int 8, V.int 7, V.int 5, V.int 10]]
def rowOf (a : Int) : List V := (List.range 16).map fun b => V.int (mulI a (b : Nat))
theorem rowV_at {a : Int} (ha : sym a) : rowV[a.toNat]? = some (rowOf a) := sym_all (p := fun a => rowV[a.toNat]? = some (rowOf a)) (by decide +kernel) ha
theorem rowOf_at {a b : Int} (ha : sym a) (hb : sym b) : atI (rowOf a) b = some (.int (mulI a b)) :=
  sym_all (p := fun b => atI (rowOf a) b = some (.int (mulI a b))) (fun j => by
    refine atI_nat ?_
    rw [rowOf, List.getElem?_map, List.getElem?_range j.isLt]
    rfl) hb
theorem row_at {a b : Int} (ha : sym a) (hb : sym b) : ∃ row, rowV[a.toNat]? = some row ∧ atI row b = some (.int (mulI a b)) := ⟨_, rowV_at ha, rowOf_at ha hb⟩

theorem inv_nat {a : Int} (ha : sym a) : ((invI a).toNat : Int) = invI a := sym_all (p := fun a => ((invI a).toNat : Int) = invI a) (by decide +kernel) ha
theorem inv_at {a : Int} (ha : sym a) (h0 : a ≠ 0) : (rowOf a)[(invI a).toNat]? = some (V.int 1) ∧ ∀ (m : Nat) (z : V), m < (invI a).toNat → (rowOf a)[m]? = some z → eqV z (V.int 1) = false := by
  refine sym_all (p := fun a => a ≠ 0 → (rowOf a)[(invI a).toNat]? = some (V.int 1) ∧ ∀ (m : Nat) (z : V), m < (invI a).toNat → (rowOf a)[m]? = some z → eqV z (V.int 1) = false) (fun i => ?_) ha h0
  intro hi
  have h1 : ∀ i : Fin 16, ((i.val : Nat) : Int) ≠ 0 → (rowOf (i.val : Nat))[(invI (i.val : Nat)).toNat]? = some (V.int 1) := by decide +kernel
  have h2 : ∀ i : Fin 16, ((i.val : Nat) : Int) ≠ 0 → ∀ m : Fin 16, m.val < (invI (i.val : Nat)).toNat → mulI (i.val : Nat) (m.val : Nat) ≠ 1 := by decide +kernel
  refine ⟨h1 i hi, fun m z hm hz => ?_⟩
  have hm16 : m < 16 := by
    have := (List.getElem?_eq_some_iff.mp hz).1
    simp [rowOf] at this
    exact this
  have h3 := h2 i hi ⟨m, hm16⟩ hm
  rw [rowOf, List.getElem?_map, List.getElem?_range hm16] at hz
  cases hz
  show (mulI (i.val : Nat) (m : Nat) == 1) = false
  exact beq_eq_false_iff_ne.mpr h3
def spInv (C : Addr) : Sp := fun vs H Q E => ∃ a : Int, vs = [.int a] ∧ (¬ (sym a ∧ a ≠ 0) → E (.ref C) none H) ∧ (sym a → a ≠ 0 → Q (.int (invI a)) H)
theorem ok_inverse (T : Txt K mg C_InvalidSymbol c_solve_system P_solve_system) : Ok P w K mg base (CXN P w) 3 "inverse" ["a"] (spInv C_InvalidSymbol) := by
  have G__check_symbol := ok__check_symbol (P := P) (w := w) (base := base) T
  refine ok_of T.d_inverse fun f fd F => okN F sc_inverse (fun vs H Q E h => ?_) (fun cdv A outer s H vs Q E hr h => ?_)
  · obtain ⟨a, rfl, _⟩ := h
    rfl
  · obtain ⟨a, rfl, kE, kQ⟩ := h
    have nd := sc_inverse.nd
    refine ⟨_,       (pss_cons (ps_expr (pe_callO G__check_symbol (hr.mono (by decide)) (passX (L2N.takes_of rfl rfl rfl rfl) (fun _ _ _ z => z)) (pa_cons (pv 0) pa_nil)))
      (pss_cons (ps_if (pt_cmpR op_eq (pv 0) pe_int (nomark _))
        (pss_one (L2N.ps_raise rfl (L2N.takes_of rfl rfl rfl rfl) (L2N.pmk_own PySem.F.excBase_ValueError T.x_InvalidSymbol.x T.x_InvalidSymbol.g T.x_InvalidSymbol.k (raises_own T.x_InvalidSymbol.b T.x_InvalidSymbol.t) rfl))) pss_nil)
      (pss_one (ps_ret (pe_bm PySem.F.plainAttrs_tuple PySem.F.slot_tuple_index PySem.F.type_tuple_index CT2.mt_indexT (pe_ix ix_tup (CT2.pe_globTT rfl T.c_PRODUCTS) (pv 0) (fun _ _ => rfl)) (pa_cons pe_int pa_nil)))))), ?_⟩
    refine ⟨_, rfl, a, rfl, fun hn => kE fun z => hn z.1, fun ha => ?_⟩
    have e0 : ∀ z : Int, decide (V.int z = V.int 0) = decide (z = 0) := fun z => by simp
    refine ⟨_, rfl, rfl, _, rfl, ?_⟩
    rw [e0]
    refine itd (fun h0 => kE fun z => z.2 h0) (fun h0 => ?_)
    intro p rs hp hr
    obtain ⟨r, h3, h4, h5⟩ := hr a.toNat (rowOf a) (rowV_at ha)
    refine ⟨_, rfl, p, _, a, .ref r, rfl, rfl, hp _, at_nat (j := a.toNat) (by have := ha.1; omega) h3, CT2.tyT h5, r, rowOf a, V.int 1, (invI a).toNat, V.int 1, rfl, rfl, h4 _, rfl, ?_, ?_, rfl, ?_, ?_⟩
    · rw [rowOf, List.all_map]
      exact List.all_eq_true.mpr fun _ _ => rfl
    · exact (inv_at ha h0).1
    · exact (inv_at ha h0).2
    · have e : ((invI a).toNat : Int) = invI a := (inv_nat ha)
      rw [e]
      exact kQ ha h0

theorem vg_dec (a : G) : decide (vg a = V.int 0) = decide (a = 0) := by
  have e : (vg a = V.int 0) = (a = 0) := by
    unfold vg
    rw [V.int.injEq]
    exact propext gi_zero
  simp only [e]
theorem vg_get {gl : List G} {i : Nat} (hi : i < gl.length) : (gl.map vg)[i]? = some (vg (co gl i)) := by
  rw [List.getElem?_map, List.getElem?_eq_getElem hi, co_in hi]
  rfl
theorem get_vg {gl : List G} {i : Nat} {y : V} (h : (gl.map vg)[i]? = some y) : i < gl.length ∧ y = vg (co gl i) := by
  have hi : i < gl.length := by
    have z := (List.getElem?_eq_some_iff.mp h).1
    rw [List.length_map] at z
    exact z
  rw [vg_get hi] at h
  exact ⟨hi, (Option.some.inj h).symm⟩
/-- a new list of symbols -/
def RetG (gl : List G) (H : Hp) (Q : VK) : Prop := ∀ p H', H p = none → Same H H' → H' p = some (.lst (gl.map vg)) → Q (.ref p) H'
/-- a value, the heap may have grown -/
def RetV (v : V) (H : Hp) (Q : VK) : Prop := ∀ H', Same H H' → Q v H'
theorem flat_zero (n : Nat) : (List.replicate n [V.int 0]).flatten = (tab n fun _ => 0).map vg := by
  induction n with
  | zero => rfl
  | succ n ih =>
    have e : tab (n + 1) (fun _ => 0) = tab n (fun _ => (0 : G)) ++ [0] := by simp [tab, List.range_succ]
    rw [List.replicate_succ', List.flatten_append, ih, e, List.map_append]
    rfl

theorem map_co (c : G) (p : List G) (n : Nat) : co (p.map (gm c)) n = gm c (co p n) := by
  by_cases h : n < p.length
  · rw [co_in (by rw [List.length_map]; exact h), co_in h, List.getElem_map]
  · rw [co_out (by rw [List.length_map]; omega), co_out (by omega), gm_zero]
theorem rowG_at (c x : G) : atI (rowOf (gi c)) (gi x) = some (vg (gm c x)) := by
  rw [rowOf_at (gi_sym c) (gi_sym x), gi_mul]
  rfl

theorem tab_suc (n : Nat) (f : Nat → G) : tab (n + 1) f = tab n f ++ [f n] := by
  rw [tab, List.range_succ, List.map_append]
  rfl
theorem vg_xor (a b : G) : V.int (Builtin.bitXor (gi a) (gi b)) = vg (ga a b) := by
  unfold vg
  rw [← gi_add]
  rfl
theorem itnV {p A B : Prop} [Decidable p] (h1 : ¬ p → A) (h2 : p → B) : if (!decide p) = true then A else B := by
  by_cases h : p
  · rw [decide_eq_true h]
    exact iteF (h2 h)
  · rw [decide_eq_false h]
    exact iteT (h1 h)
def plusR (p q : List G) (c : G) : List G := tab p.length fun j => ga (co p j) (gm c (co q j))
def spPlus (K : PySem.W.Frag) : Sp := fun vs H Q _ => ∃ (a b : Addr) (p q : List G) (c : G), vs = [.ref a, .ref b, vg c] ∧ SqL K H a (p.map vg) ∧ SqL K H b (q.map vg) ∧ p.length = q.length ∧ p.length ≤ 60000 ∧ RetG (plusR p q c) H Q
theorem ok_plus_scaled (T : Txt K mg C_InvalidSymbol c_solve_system P_solve_system) : Ok P w K mg base CX0 1 "plus_scaled" ["row", "other", "factor"] (spPlus K) := by
  refine ok_of T.d_plus_scaled fun f fd F => F.ok sc_plus_scaled (fun vs H Q E h => ?_) (fun cdv A outer s H vs Q E hr h => ?_)
  · obtain ⟨a, b, p, q, c, rfl, _⟩ := h
    rfl
  · obtain ⟨a, b, p, q, c, rfl, hA, hB, hl, hz, kQ⟩ := h
    have nd := sc_plus_scaled.nd
    refine ⟨_,       (pss_cons (ps_set (i := 3) nd rfl (Or.inr rfl) (pe_ix ix_tup (CT2.pe_globTT rfl T.c_PRODUCTS) (pv 2) (fun _ _ => rfl)))
      (pss_one (ps_ret (pe_lc (own := [("symbol", 4), ("another", 5)]) (g := _) (tt := tYes) rfl nd (pi_zip (by rfl) T.n_zip (pa_cons (pv 0) (pa_cons (pv 1) pa_nil))) (blkOk_by (N := N_plus_scaled) (sc := defScope s_plus_scaled) (by decide +kernel)) (fun _ _ _ _ _ => (TK.pg_tupK (K := K) (n := 2) rfl rfl (pgs_cons (pg_name (i := 4) nd rfl (Or.inl rfl)) (pgs_cons (pg_name (i := 5) nd rfl (Or.inl rfl)) pgs_nil)))) (fun _ _ _ _ _ => pts_nil) (fun _ _ _ _ _ => (pe_op op_xor (pv 4) (pe_ix (r := rIxT K) ix_tup (pv 3) (pv 5) (fun _ _ => rfl)))))))), ?_⟩
    intro p0 rs hp hr0
    obtain ⟨r, h3, h4, _⟩ := hr0 (gi c).toNat (rowOf (gi c)) (rowV_at (gi_sym c))
    refine ⟨_, rfl, p0, _, gi c, .ref r, rfl, rfl, hp _, at_nat (j := (gi c).toNat) (by have := (gi_sym c).1; omega) h3, ?_⟩
    refine ⟨_, rfl, _, rfl, a, b, _, _, rfl, hA, hB, fun D hD => lc_it (walk_zip (n := p.length) (by rw [List.length_map, List.length_map]; omega)) (fun i H' => Same H H' ∧ H' D = some (.lst ((tab i fun j => ga (co p j) (gm c (co q j))).map vg))) ⟨same_upd hD, upd_same⟩ (fun i H' _ ⟨e, _⟩ => ⟨e.seq hA, e.seq hB⟩) ?_ ?_⟩
    · rintro i x H1 H2 hi ⟨e, hDl⟩ ⟨T1, u, v, rfl, hT, rfl, hu, hv⟩
      obtain ⟨_, rfl⟩ := get_vg hu
      obtain ⟨hq, rfl⟩ := get_vg hv
      have nD : D ≠ T1 := ne_of_none hDl hT
      have e2 := e.trans (same_upd (o := .tup [vg (co p i), vg (co q i)]) hT)
      refine ⟨T1, _, rfl, SqT.of upd_same, rfl, _, _, rfl, _, _, rfl, rfl, rfl, ?_⟩
      dsimp only [tYes]
      try rw [if_pos rfl]
      refine ⟨_, rfl, _, rfl, _, rfl, r, _, gi (co q i), _, rfl, rfl, h4 _, rowG_at c (co q i), _, _, rfl, rfl, _, (by rw [upd_ne nD]; exact hDl), small (by rw [List.length_map, tab_len]; omega), same_new e2 hD, ?_⟩
      rw [upd_same, tab_suc, List.map_append]
      show some (HO.lst (_ ++ [V.int (Builtin.bitXor (gi (co p i)) (gi (gm c (co q i))))])) = _
      rw [vg_xor]
      rfl
    · rintro H' ⟨e, hDl⟩
      exact kQ D H' hD e hDl

def spScaled (K : PySem.W.Frag) : Sp := fun vs H Q _ => ∃ (a : Addr) (p : List G) (c : G), vs = [.ref a, vg c] ∧ SqL K H a (p.map vg) ∧ p.length ≤ 60000 ∧ RetG (p.map (gm c)) H Q
theorem ok_scaled (T : Txt K mg C_InvalidSymbol c_solve_system P_solve_system) : Ok P w K mg base CX0 1 "scaled" ["row", "factor"] (spScaled K) := by
  refine ok_of T.d_scaled fun f fd F => F.ok sc_scaled (fun vs H Q E h => ?_) (fun cdv A outer s H vs Q E hr h => ?_)
  · obtain ⟨a, p, c, rfl, _⟩ := h
    rfl
  · obtain ⟨a, p, c, rfl, hA, hl, kQ⟩ := h
    have nd := sc_scaled.nd
    refine ⟨_,       (pss_cons (ps_set (i := 2) nd rfl (Or.inr rfl) (pe_ix ix_tup (CT2.pe_globTT rfl T.c_PRODUCTS) (pv 1) (fun _ _ => rfl)))
      (pss_one (ps_ret (pe_lc (own := [("symbol", 3)]) (g := gName 3) (tt := tYes) rfl nd (pi_list (pv 0)) (blkOk_by (N := N_scaled) (sc := defScope s_scaled) (by decide +kernel)) (fun _ _ _ _ _ => (pg_name (i := 3) nd rfl (Or.inl rfl))) (fun _ _ _ _ _ => pts_nil) (fun _ _ _ _ _ => (pe_ix (r := rIxT K) ix_tup (pv 2) (pv 3) (fun _ _ => rfl))))))), ?_⟩
    intro p0 rs hp hr0
    obtain ⟨r, h3, h4, _⟩ := hr0 (gi c).toNat (rowOf (gi c)) (rowV_at (gi_sym c))
    refine ⟨_, rfl, p0, _, gi c, .ref r, rfl, rfl, hp _, at_nat (j := (gi c).toNat) (by have := (gi_sym c).1; omega) h3, ?_⟩
    refine ⟨_, rfl, a, rfl, ⟨_, hA⟩, fun D hD => lc_list (K := K) (a := a) (xs := p.map vg) (fun i H' => Same H H' ∧ H' D = some (.lst (((p.take i).map (gm c)).map vg))) ⟨same_upd hD, upd_same⟩ (fun i H' _ ⟨e, _⟩ => e.seq hA) ?_ ?_⟩
    · rintro i x H' hx ⟨e, hDl⟩
      obtain ⟨hi, rfl⟩ := get_vg hx
      refine ⟨rfl, ?_⟩
      dsimp only [tYes]
      try rw [if_pos rfl]
      refine ⟨_, rfl, _, rfl, r, _, gi (co p i), _, rfl, rfl, h4 _, rowG_at c (co p i), _, hDl, small (by rw [List.length_map, List.length_map, List.length_take]; omega), same_new e hD, ?_⟩
      rw [upd_same, take_snoc hi, List.map_append, List.map_append, co_in hi]
      rfl
    · rintro H' ⟨e, hDl⟩
      rw [List.length_map, List.take_length] at hDl
      exact kQ D H' hD e hDl

def logV : List V := [V.int 0, V.int 0, V.int 1, V.int 4, V.int 2, V.int 8, V.int 5, V.int 10, V.int 3, V.int 14, V.int 9, V.int 7, V.int 6, V.int 13, V.int 11, V.int 12]
theorem log_at {a : Int} (ha : sym a) : atI logV a = some (.int (expL.getD a.toNat 0)) :=
  sym_all (p := fun a => atI logV a = some (.int (expL.getD a.toNat 0))) (by decide +kernel) ha
def spTimesG : Sp := fun vs H Q _ => ∃ a b : G, vs = [vg a, vg b] ∧ RetV (vg (gm a b)) H Q
theorem ok__law_times (T : Txt K mg C_InvalidSymbol c_solve_system P_solve_system) : Ok P w K mg base CX0 1 "_law_times" ["a", "b"] spTimesG := by
  refine ok_of T.d__law_times fun f fd F => F.ok sc__law_times (fun vs H Q E h => ?_) (fun cdv A outer s H vs Q E hr h => ?_)
  · obtain ⟨a, b, rfl, _⟩ := h
    rfl
  · obtain ⟨a, b, rfl, kQ⟩ := h
    have nd := sc__law_times.nd
    refine ⟨_,       (pss_cons (ps_if (PW.pt (pw_or (pt_cmpR op_eq (pv 0) pe_int (nomark _)) (pw_or1 (pt_cmpR op_eq (pv 1) pe_int (nomark _)))))
        (pss_one (ps_ret pe_int)) pss_nil)
      (pss_cons (ps_set (i := 2) nd rfl (Or.inl rfl) (pe_tup (pa_cons pe_int (pa_cons pe_int (pa_cons pe_int (pa_cons pe_int (pa_cons pe_int (pa_cons pe_int (pa_cons pe_int (pa_cons pe_int (pa_cons pe_int (pa_cons pe_int (pa_cons pe_int (pa_cons pe_int (pa_cons pe_int (pa_cons pe_int (pa_cons pe_int (pa_cons pe_int pa_nil))))))))))))))))))
      (pss_one (ps_ret (pe_ix ix_tup (pe_tup (pa_cons pe_int (pa_cons pe_int (pa_cons pe_int (pa_cons pe_int (pa_cons pe_int (pa_cons pe_int (pa_cons pe_int (pa_cons pe_int (pa_cons pe_int (pa_cons pe_int (pa_cons pe_int (pa_cons pe_int (pa_cons pe_int (pa_cons pe_int (pa_cons pe_int pa_nil)))))))))))))))) (pe_op op_mod (pe_op op_add (pe_ix ix_tup (pv 2) (pv 0) (fun _ _ => rfl)) (pe_ix ix_tup (pv 2) (pv 1) (fun _ _ => rfl))) pe_int) (fun _ _ => rfl)))))), ?_⟩
    refine ⟨_, rfl, rfl, _, rfl, ?_⟩
    show if decide (vg a = V.int 0) = true then _ else _
    rw [vg_dec]
    refine itd (fun h0 => ?_) (fun h0 => ?_)
    · rw [h0, zero_gm] at kQ
      exact iteT (kQ H (Same.refl H))
    refine ⟨_, rfl, rfl, _, rfl, ?_⟩
    show if decide (vg b = V.int 0) = true then _ else _
    rw [vg_dec]
    refine itd (fun h1 => ?_) (fun h1 => ?_)
    · rw [h1, gm_zero] at kQ
      exact kQ H (Same.refl H)
    refine ⟨by decide, fun t ht => ⟨by decide, fun u hu => ?_⟩⟩
    have et := same_upd (o := .tup powV) hu
    refine ⟨_, rfl, _, rfl, t, _, _, _, rfl, rfl, SqT.of (et _ _ upd_same), log_at (gi_sym a), _, rfl, _, rfl, t, _, _, _, rfl, rfl, SqT.of (et _ _ upd_same), log_at (gi_sym b), _, _, rfl, rfl, _, _, rfl, rfl, (by show (0 : Int) < 15; decide), ?_⟩
    have i1 := exp_in (gi_sym a)
    have i2 := exp_in (gi_sym b)
    refine ⟨u, _, _, _, rfl, rfl, SqT.of upd_same, pow_at (k := (expL.getD (gi a).toNat 0 + expL.getD (gi b).toNat 0) % 15) (by omega) (by omega), ?_⟩
    have e : vg (gm a b) = V.int (powL.getD ((expL.getD (gi a).toNat 0 + expL.getD (gi b).toNat 0) % 15).toNat 0) := by
      unfold vg
      rw [← gi_mul, mulI, if_neg (by rw [gi_zero, gi_zero]; simp [h0, h1])]
    rw [e] at kQ
    exact kQ _ ((same_upd ht).trans et)

-- @@CUT
/-! ### one step of the elimination -/
theorem plusR_len (p q : List G) (c : G) : (plusR p q c).length = p.length := tab_len _ _
theorem plusR_co {p q : List G} (c : G) (h : p.length = q.length) (j : Nat) : co (plusR p q c) j = ga (co p j) (gm c (co q j)) := by
  unfold plusR
  rw [tab_co]
  by_cases z : j < p.length
  · rw [if_pos z]
  · rw [if_neg z, co_out (by omega), co_out (by omega), gm_zero, ga_zero]
theorem ga_gm_self (x : G) : ga x (gm x 1) = 0 := by rw [gm_one, ga_self]
theorem gv_gm {a : G} (h : a ≠ 0) : gm (gv a) a = 1 := by rw [gm_comm, gm_inv a h]
theorem gm_gv_gm {a : G} (h : a ≠ 0) (x : G) : gm a (gm (gv a) x) = x := by rw [← gm_assoc, gm_inv a h, one_gm]
theorem ga_back (x y : G) : ga (ga x y) y = x := by rw [ga_assoc, ga_self, ga_zero]
structure Red (t : List (List G)) (ps : List Nat) : Prop where
  one : ∀ i, i < ps.length → co (ro t i) (ps.getD i 0) = 1
  zer : ∀ i, i < ps.length → ∀ k, k < t.length → k ≠ i → co (ro t k) (ps.getD i 0) = 0
def Wid (t : List (List G)) (w : Nat) : Prop := ∀ r ∈ t, r.length = w
theorem Wid.ro {t : List (List G)} {w : Nat} (h : Wid t w) {k : Nat} (hk : k < t.length) : (ro t k).length = w := h _ (ro_mem hk)
def prow (t : List (List G)) (f n : Nat) : List G := (ro t f).map (gm (gv (co (ro t f) n)))
def srow (t : List (List G)) (m f k : Nat) : List G := if k = f then ro t m else ro t k
def pstep (t : List (List G)) (m f n : Nat) : List (List G) := ((t.set f (ro t m)).map fun r => plusR r (prow t f n) (co r n)).set m (prow t f n)
theorem pstep_len (t : List (List G)) (m f n : Nat) : (pstep t m f n).length = t.length := by simp [pstep]
theorem pstep_ro {t : List (List G)} {m f n k : Nat} (hf : f < t.length) (hm : m < t.length) (hk : k < t.length) : ro (pstep t m f n) k = if k = m then prow t f n else plusR (srow t m f k) (prow t f n) (co (srow t m f k) n) := by
  unfold pstep srow
  rw [ro_set (by rw [List.length_map, List.length_set]; exact hm)]
  by_cases e : k = m
  · rw [if_pos e, if_pos e]
  · rw [if_neg e, if_neg e, ro_map (by rw [List.length_set]; exact hk), ro_set hf]
theorem pstep_ok {t : List (List G)} {ps : List Nat} {w n f : Nat} (W : Wid t w) (E : Ech t ps n) (R : Red t ps) (hmf : ps.length ≤ f) (hf : f < t.length) (h0 : co (ro t f) n ≠ 0) :
    Wid (pstep t ps.length f n) w ∧ Ech (pstep t ps.length f n) (ps ++ [n]) (n + 1) ∧ Red (pstep t ps.length f n) (ps ++ [n]) ∧ Eqs (pstep t ps.length f n) t := by
  have hm : ps.length < t.length := Nat.lt_of_le_of_lt hmf hf
  have pl : (prow t f n).length = w := by
    unfold prow
    rw [List.length_map]
    exact W.ro hf
  have pc : ∀ j, co (prow t f n) j = gm (gv (co (ro t f) n)) (co (ro t f) j) := fun j => scale_co _ _ j
  have pn : co (prow t f n) n = 1 := by rw [pc, gv_gm h0]
  have pz : ∀ j, j < n → co (prow t f n) j = 0 := fun j hj => by rw [pc, E.post f hmf j hj, gm_zero]
  have sl : ∀ k, k < t.length → (srow t ps.length f k).length = w := fun k hk => by
    unfold srow
    split
    · exact W.ro hm
    · exact W.ro hk
  have rw0 : ∀ k, k < t.length → k ≠ ps.length → ∀ j, co (ro (pstep t ps.length f n) k) j = ga (co (srow t ps.length f k) j) (gm (co (srow t ps.length f k) n) (co (prow t f n) j)) := fun k hk hne j => by
    rw [pstep_ro hf hm hk, if_neg hne, plusR_co _ (by rw [sl k hk, pl])]
  have rwm : ro (pstep t ps.length f n) ps.length = prow t f n := by rw [pstep_ro hf hm hm, if_pos rfl]
  have slow : ∀ k, k < ps.length → srow t ps.length f k = ro t k := fun k hk => by
    unfold srow
    rw [if_neg (by omega)]
  have shigh : ∀ k, ps.length ≤ k → ∀ j, j < n → co (srow t ps.length f k) j = 0 := fun k hk j hj => by
    unfold srow
    split
    · exact E.post _ (Nat.le_refl _) j hj
    · exact E.post _ hk j hj
  have e := getD_snoc ps n
  refine ⟨fun r hr => ?_, E.next (pstep_len ..) hm (fun i hi => ⟨?_, fun j hj => ?_⟩) ?_ (fun j hj => ?_) (fun i hi hit j hj => ?_), ⟨fun i hi => ?_, fun i hi k hk hki => ?_⟩, eqs_of (fun r hr => ?_) (fun r hr => ?_)⟩
  · obtain ⟨k, hk, rfl⟩ := mem_ro hr
    rw [pstep_len] at hk
    rw [pstep_ro hf hm hk]
    split
    · exact pl
    · rw [plusR_len, sl k hk]
  · rw [rw0 i (by omega) (by omega), slow i hi, pz _ (E.lt i hi), gm_zero, ga_zero]
    exact E.ne i hi
  · have := E.lt i hi
    rw [rw0 i (by omega) (by omega), slow i hi, pz _ (by omega), gm_zero, ga_zero]
    exact E.pre i hi j hj
  · rw [rwm, pn]
    decide
  · rw [rwm, pz j hj]
  · rw [rw0 i hit (by omega)]
    rcases Nat.lt_or_ge j n with z | z
    · rw [shigh i (by omega) j z, pz j z, gm_zero, ga_zero]
    · obtain rfl : j = n := by omega
      rw [pn, ga_gm_self]
  · rw [List.length_append, List.length_singleton] at hi
    rw [e]
    by_cases z : i < ps.length
    · rw [if_pos z, rw0 i (by omega) (by omega), slow i z, pz _ (E.lt i z), gm_zero, ga_zero]
      exact R.one i z
    · obtain rfl : i = ps.length := by omega
      rw [if_neg z, if_pos rfl, rwm, pn]
  · rw [List.length_append, List.length_singleton] at hi
    rw [pstep_len] at hk
    rw [e]
    by_cases z : i < ps.length
    · rw [if_pos z]
      by_cases q : k = ps.length
      · rw [q, rwm, pz _ (E.lt i z)]
      · rw [rw0 k hk q, pz _ (E.lt i z), gm_zero, ga_zero]
        unfold srow
        split
        · exact R.zer i z _ hm (by omega)
        · exact R.zer i z k hk hki
    · obtain rfl : i = ps.length := by omega
      rw [if_neg z, if_pos rfl, rw0 k hk hki, pn, ga_gm_self]
  · obtain ⟨k, hk, rfl⟩ := mem_ro hr
    rw [pstep_len] at hk
    have hp : Spn t (co (prow t f n)) := by
      have := (Spn.of_mem (ro_mem hf)).times (gv (co (ro t f) n))
      rw [show co (prow t f n) = fun j => gm (gv (co (ro t f) n)) (co (ro t f) j) from funext pc]
      exact this
    by_cases q : k = ps.length
    · rw [q, rwm]
      exact hp
    · rw [show co (ro (pstep t ps.length f n) k) = fun j => ga (co (srow t ps.length f k) j) (gm (co (srow t ps.length f k) n) (co (prow t f n) j)) from funext (rw0 k hk q)]
      refine Spn.plus ?_ (hp.times _)
      unfold srow
      split
      · exact Spn.of_mem (ro_mem hm)
      · exact Spn.of_mem (ro_mem hk)
  · obtain ⟨k, hk, rfl⟩ := mem_ro hr
    have hl := pstep_len t ps.length f n
    have hp : Spn (pstep t ps.length f n) (co (prow t f n)) := by
      have := Spn.of_mem (ro_mem (t := pstep t ps.length f n) (k := ps.length) (by omega))
      rw [rwm] at this
      exact this
    have back : ∀ i, i < t.length → i ≠ ps.length → Spn (pstep t ps.length f n) (co (srow t ps.length f i)) := fun i hi hne => by
      have h1 := Spn.of_mem (ro_mem (t := pstep t ps.length f n) (k := i) (by omega))
      have h2 := h1.plus (hp.times (co (srow t ps.length f i) n))
      have e2 : (fun j => ga (co (ro (pstep t ps.length f n) i) j) (gm (co (srow t ps.length f i) n) (co (prow t f n) j))) = co (srow t ps.length f i) := funext fun j => by rw [rw0 i hi hne, ga_back]
      rw [e2] at h2
      exact h2
    by_cases q : k = f
    · have h1 := hp.times (co (ro t f) n)
      rw [show (fun j => gm (co (ro t f) n) (co (prow t f n) j)) = co (ro t k) from funext fun j => by rw [pc, gm_gv_gm h0, q]] at h1
      exact h1
    · by_cases q2 : k = ps.length
      · have h1 := back f hf (by omega)
        unfold srow at h1
        rw [if_pos rfl] at h1
        rw [q2]
        exact h1
      · have h1 := back k hk q2
        unfold srow at h1
        rw [if_neg q] at h1
        exact h1
/-! ### the law's step -/
def combR (b a : G) (s l : List G) : List G := tab s.length fun j => ga (gm b (co s j)) (gm a (co l j))
theorem combR_co {s l : List G} (b a : G) (h : s.length = l.length) (j : Nat) : co (combR b a s l) j = ga (gm b (co s j)) (gm a (co l j)) := by
  unfold combR
  rw [tab_co]
  by_cases z : j < s.length
  · rw [if_pos z]
  · rw [if_neg z, co_out (by omega), co_out (by omega), gm_zero, gm_zero]
    rfl
def lrow (t : List (List G)) (m p n i k : Nat) : List G := if k = m then ro t p else if m < k ∧ k < i then combR (co (ro t p) n) (co (srow t m p k) n) (srow t m p k) (ro t p) else srow t m p k
def lstep (t : List (List G)) (m p n i : Nat) : List (List G) := (List.range t.length).map (lrow t m p n i)
theorem lstep_len (t : List (List G)) (m p n i : Nat) : (lstep t m p n i).length = t.length := by simp [lstep]
theorem lstep_ro {t : List (List G)} {m p n i k : Nat} (hk : k < t.length) : ro (lstep t m p n i) k = lrow t m p n i k := by
  rw [ro_in (by rw [lstep_len]; exact hk)]
  simp [lstep]
theorem rows_ext {t t' : List (List G)} (hl : t.length = t'.length) (h : ∀ k, k < t.length → ro t k = ro t' k) : t = t' := by
  refine List.ext_getElem hl fun k h1 h2 => ?_
  rw [← ro_in h1, ← ro_in h2]
  exact h k h1
theorem lstep_zero {t : List (List G)} {m p n : Nat} (hm : m < t.length) (hp : p < t.length) : (t.set p (ro t m)).set m (ro t p) = lstep t m p n (m + 1) := by
  refine rows_ext (by simp [lstep]) fun k hk => ?_
  rw [List.length_set, List.length_set] at hk
  rw [lstep_ro hk, ro_set (by rw [List.length_set]; exact hm), ro_set hp]
  unfold lrow srow
  by_cases e : k = m
  · rw [if_pos e, if_pos e]
  · rw [if_neg e, if_neg e, if_neg (show ¬ (m < k ∧ k < m + 1) by omega)]
theorem lstep_succ {t : List (List G)} {m p n i : Nat} (hi : i < t.length) (hm : m < i) : (lstep t m p n i).set i (combR (co (ro t p) n) (co (ro (lstep t m p n i) i) n) (ro (lstep t m p n i) i) (ro t p)) = lstep t m p n (i + 1) := by
  refine rows_ext (by simp [lstep]) fun k hk => ?_
  rw [List.length_set, lstep_len] at hk
  have ei : lrow t m p n i i = srow t m p i := by
    unfold lrow
    rw [if_neg (show ¬ (i = m) by omega), if_neg (show ¬ (m < i ∧ i < i) by omega)]
  rw [ro_set (by rw [lstep_len]; exact hi), lstep_ro hi, ei]
  by_cases e : k = i
  · subst e
    rw [if_pos rfl, lstep_ro hi]
    unfold lrow
    rw [if_neg (show ¬ (k = m) by omega), if_pos (show m < k ∧ k < k + 1 by omega)]
  · rw [if_neg e, lstep_ro hk, lstep_ro hk]
    unfold lrow
    by_cases q : k = m
    · rw [if_pos q, if_pos q]
    · rw [if_neg q, if_neg q]
      by_cases z : m < k ∧ k < i
      · rw [if_pos z, if_pos (show m < k ∧ k < i + 1 by omega)]
      · rw [if_neg z, if_neg (show ¬ (m < k ∧ k < i + 1) by omega)]
theorem lstep_ok {t : List (List G)} {ps : List Nat} {w n p : Nat} (W : Wid t w) (E : Ech t ps n) (hmp : ps.length ≤ p) (hp : p < t.length) (h0 : co (ro t p) n ≠ 0) :
    Wid (lstep t ps.length p n t.length) w ∧ Ech (lstep t ps.length p n t.length) (ps ++ [n]) (n + 1) ∧ Eqs (lstep t ps.length p n t.length) t := by
  have hm : ps.length < t.length := Nat.lt_of_le_of_lt hmp hp
  have hl := lstep_len t ps.length p n t.length
  have sl : ∀ k, k < t.length → (srow t ps.length p k).length = w := fun k hk => by
    unfold srow
    split
    · exact W.ro hm
    · exact W.ro hk
  have rwm : ro (lstep t ps.length p n t.length) ps.length = ro t p := by
    rw [lstep_ro hm]
    unfold lrow
    rw [if_pos rfl]
  have rwl : ∀ k, k < ps.length → ro (lstep t ps.length p n t.length) k = ro t k := fun k hk => by
    rw [lstep_ro (by omega)]
    unfold lrow srow
    rw [if_neg (by omega), if_neg (by omega), if_neg (by omega)]
  have rwh : ∀ k, ps.length < k → k < t.length → ∀ j, co (ro (lstep t ps.length p n t.length) k) j = ga (gm (co (ro t p) n) (co (srow t ps.length p k) j)) (gm (co (srow t ps.length p k) n) (co (ro t p) j)) := fun k h1 h2 j => by
    rw [lstep_ro h2]
    unfold lrow
    rw [if_neg (by omega), if_pos ⟨h1, h2⟩, combR_co _ _ (by rw [sl k h2, W.ro hp])]
  have shigh : ∀ k, ps.length ≤ k → ∀ j, j < n → co (srow t ps.length p k) j = 0 := fun k hk j hj => by
    unfold srow
    split
    · exact E.post _ (Nat.le_refl _) j hj
    · exact E.post _ hk j hj
  have sin : ∀ k, k < t.length → Spn t (co (srow t ps.length p k)) := fun k hk => by
    unfold srow
    split
    · exact Spn.of_mem (ro_mem hm)
    · exact Spn.of_mem (ro_mem hk)
  refine ⟨fun r hr => ?_, E.next hl hm (fun i hi => ?_) ?_ (fun j hj => ?_) (fun i hi hit j hj => ?_), eqs_of (fun r hr => ?_) (fun r hr => ?_)⟩
  · obtain ⟨k, hk, rfl⟩ := mem_ro hr
    rw [hl] at hk
    rw [lstep_ro hk]
    unfold lrow
    split
    · exact W.ro hp
    · split
      · rw [combR, tab_len, sl k hk]
      · exact sl k hk
  · rw [rwl i hi]
    exact ⟨E.ne i hi, E.pre i hi⟩
  · rw [rwm]
    exact h0
  · rw [rwm]
    exact E.post p hmp j hj
  · rw [rwh i hi hit]
    rcases Nat.lt_or_ge j n with z | z
    · rw [shigh i (by omega) j z, E.post p hmp j z, gm_zero, gm_zero]
      rfl
    · obtain rfl : j = n := by omega
      rw [gm_comm, ga_self]
  · obtain ⟨k, hk, rfl⟩ := mem_ro hr
    rw [hl] at hk
    rcases Nat.lt_trichotomy k ps.length with z | z | z
    · rw [rwl k z]
      exact Spn.of_mem (ro_mem hk)
    · rw [z, rwm]
      exact Spn.of_mem (ro_mem hp)
    · rw [show co (ro (lstep t ps.length p n t.length) k) = fun j => ga (gm (co (ro t p) n) (co (srow t ps.length p k) j)) (gm (co (srow t ps.length p k) n) (co (ro t p) j)) from funext (rwh k z hk)]
      exact ((sin k hk).times _).plus ((Spn.of_mem (ro_mem hp)).times _)
  · obtain ⟨k, hk, rfl⟩ := mem_ro hr
    have hline : Spn (lstep t ps.length p n t.length) (co (ro t p)) := by
      have := Spn.of_mem (ro_mem (t := lstep t ps.length p n t.length) (k := ps.length) (by omega))
      rw [rwm] at this
      exact this
    have back : ∀ i, ps.length < i → i < t.length → Spn (lstep t ps.length p n t.length) (co (srow t ps.length p i)) := fun i h1 h2 => by
      have z1 := Spn.of_mem (ro_mem (t := lstep t ps.length p n t.length) (k := i) (by omega))
      have z2 := (z1.plus (hline.times (co (srow t ps.length p i) n))).times (gv (co (ro t p) n))
      rw [show (fun j => gm (gv (co (ro t p) n)) (ga (co (ro (lstep t ps.length p n t.length) i) j) (gm (co (srow t ps.length p i) n) (co (ro t p) j)))) = co (srow t ps.length p i) from funext fun j => by
        rw [rwh i h1 h2, ga_back, ← gm_assoc, gv_gm h0, one_gm]] at z2
      exact z2
    by_cases q : k = p
    · rw [q]
      exact hline
    · rcases Nat.lt_trichotomy k ps.length with z | z | z
      · have := Spn.of_mem (ro_mem (t := lstep t ps.length p n t.length) (k := k) (by omega))
        rw [rwl k z] at this
        exact this
      · have h1 := back p (by omega) hp
        unfold srow at h1
        rw [if_pos rfl] at h1
        rw [z]
        exact h1
      · have h1 := back k z hk
        unfold srow at h1
        rw [if_neg q] at h1
        exact h1
/-! ### solutions -/
def Fn (w : Nat) (s v : Nat → G) : G := ga (gs w fun k => gm (v k) (s k)) (v w)
theorem Spn.van {t : List (List G)} {w : Nat} {s : Nat → G} (h : ∀ r ∈ t, Fn w s (co r) = 0) {v : Nat → G} (hv : Spn t v) : Fn w s v = 0 := by
  induction hv with
  | zero =>
    unfold Fn
    rw [gs_zero fun k _ => zero_gm _]
    exact ga_self 0
  | @add v r c _ hr ih =>
    have e : Fn w s (fun j => ga (v j) (gm c (co r j))) = ga (Fn w s v) (gm c (Fn w s (co r))) := by
      unfold Fn
      have e1 : gs w (fun k => gm (ga (v k) (gm c (co r k))) (s k)) = ga (gs w fun k => gm (v k) (s k)) (gm c (gs w fun k => gm (co r k) (s k))) := by
        rw [← gs_mul, ← gs_add]
        exact gs_congr fun k _ => by rw [add_gm, gm_assoc]
      rw [e1, gm_add]
      show ga (ga (gs w fun k => gm (v k) (s k)) (gm c (gs w fun k => gm (co r k) (s k)))) (ga (v w) (gm c (co r w))) = _
      ac_rfl
    rw [e, ih, h r hr, gm_zero]
    rfl
theorem Fn_zero {w : Nat} {s v : Nat → G} (h : Fn w s v = 0) : gs w (fun k => gm (v k) (s k)) = v w := ga_eq_zero h
/-- what the solution says of a reduced table -/
theorem red_sol {t : List (List G)} {ps : List Nat} {w : Nat} {s : Nat → G} (E : Ech t ps w) (R : Red t ps) (h1 : ∀ i, i < ps.length → s (ps.getD i 0) = co (ro t i) w) (h2 : ∀ k, (∀ i, i < ps.length → ps.getD i 0 ≠ k) → s k = 0)
    (h3 : ∀ k, ps.length ≤ k → k < t.length → co (ro t k) w = 0) : ∀ r ∈ t, Fn w s (co r) = 0 := fun r hr => by
  obtain ⟨k, hk, rfl⟩ := mem_ro hr
  unfold Fn
  by_cases z : k < ps.length
  · rw [gs_only (j := ps.getD k 0) (E.lt k z) (fun j _ hj => ?_), R.one k z, one_gm, h1 k z, ga_self]
    by_cases q : ∃ i, i < ps.length ∧ ps.getD i 0 = j
    · obtain ⟨i, hi, rfl⟩ := q
      rw [R.zer i hi k hk (fun e => hj (by rw [e])), zero_gm]
    · rw [h2 j fun i hi e => q ⟨i, hi, e⟩, gm_zero]
  · rw [gs_zero fun j hj => by rw [E.post k (by omega) j hj, zero_gm], zero_ga, h3 k (by omega) hk]
/-- the augmented rows: the span of the rows themselves is what one sees in the first columns -/
def augT (rows : List (List G)) (ys : List G) : List (List G) := (List.range rows.length).map fun k => ro rows k ++ [co ys k]
theorem augT_len (rows : List (List G)) (ys : List G) : (augT rows ys).length = rows.length := by simp [augT]
theorem augT_ro {rows : List (List G)} {ys : List G} {k : Nat} (hk : k < rows.length) : ro (augT rows ys) k = ro rows k ++ [co ys k] := by
  rw [ro_in (by rw [augT_len]; exact hk)]
  simp [augT]
theorem app_co {r : List G} {y : G} {w : Nat} (h : r.length = w) (j : Nat) : co (r ++ [y]) j = if j < w then co r j else if j = w then y else 0 := by
  unfold co
  rw [List.getD_eq_getElem?_getD, List.getD_eq_getElem?_getD]
  by_cases z : j < w
  · rw [if_pos z, List.getElem?_append_left (by omega)]
  · rw [if_neg z, List.getElem?_append_right (by omega)]
    by_cases e : j = w
    · rw [if_pos e, e, h, Nat.sub_self]
      rfl
    · rw [if_neg e, List.getElem?_eq_none (by rw [List.length_singleton]; omega)]
      rfl
theorem aug_leads {rows : List (List G)} {ys : List G} {w : Nat} (W : Wid rows w) {c : Nat} (hc : c < w) (h : Leads rows c) : Leads (augT rows ys) c := by
  obtain ⟨v, hv, h1, h2⟩ := h
  have z : ∃ u, Spn (augT rows ys) u ∧ ∀ j, j < w → u j = v j := by
    clear h1 h2
    induction hv with
    | zero => exact ⟨_, .zero, fun _ _ => rfl⟩
    | @add v r d _ hr ih =>
      obtain ⟨u, hu, e⟩ := ih
      obtain ⟨k, hk, rfl⟩ := mem_ro hr
      have hm := ro_mem (t := augT rows ys) (k := k) (by rw [augT_len]; exact hk)
      refine ⟨_, .add d hu hm, fun j hj => ?_⟩
      show ga (u j) _ = ga (v j) _
      rw [e j hj, augT_ro hk, app_co (W.ro hk), if_pos hj]
  obtain ⟨u, hu, e⟩ := z
  exact ⟨u, hu, by rw [e c hc]; exact h1, fun j hj => by rw [e j (by omega)]; exact h2 j hj⟩
/-- a row that is zero but for its last entry makes the rank of the augmented rows greater -/
theorem rank_more {rows A T L : List (List G)} {ys : List G} {w : Nat} {qs rs ps : List Nat} (W : Wid rows w) (E1 : Ech L qs w) (h1 : Eqs L rows) (E2 : Ech A rs (w + 1)) (h2 : Eqs A (augT rows ys)) (E3 : Ech T ps w) (h3 : Eqs T (augT rows ys))
    {k : Nat} (hk : ps.length ≤ k) (hkt : k < T.length) (hn : co (ro T k) w ≠ 0) : qs.length < rs.length := by
  have lw : Leads T w := ⟨_, Spn.of_mem (ro_mem hkt), hn, E3.post k hk⟩
  have e := getD_snoc qs w
  have z : (qs ++ [w]).length ≤ rs.length := inc_le (fun i j hij hj => by
    rw [List.length_append, List.length_singleton] at hj
    rw [e, e, if_pos (by omega)]
    by_cases q : j < qs.length
    · rw [if_pos q]
      exact E1.inc i j hij q
    · rw [if_neg q, if_pos (by omega)]
      exact E1.lt i (by omega)) E2.inc fun i hi => by
    rw [List.length_append, List.length_singleton] at hi
    rw [e]
    by_cases q : i < qs.length
    · rw [if_pos q]
      have := E1.lt i q
      exact E2.leads (by omega) (h2.leads.mpr (aug_leads W (by omega) (h1.leads.mp (E1.leads' q))))
    · rw [if_neg q, if_pos (by omega)]
      exact E2.leads (by omega) (h2.leads.mpr (h3.leads.mp lw))
  rw [List.length_append, List.length_singleton] at z
  omega

-- @@CUT
/-! ### tables in the heap: rows that stand apart from the lists at L -/
def TabV (H : Hp) (L : List Addr) (vs : List V) (t : List (List G)) : Prop := Paired (fun v row => ∃ r, v = V.ref r ∧ r ∉ L ∧ H r = some (.lst (row.map vg))) vs t
theorem TabV.keeps {H H' : Hp} {L L' : List Addr} (e : ∀ r xs, r ∉ L → H r = some (.lst xs) → r ∉ L' ∧ H' r = some (.lst xs)) : ∀ {vs : List V} {t : List (List G)}, TabV H L vs t → TabV H' L' vs t
  | _, _, .nil => .nil
  | _, _, .cons h r => by
    obtain ⟨a, h1, h2, h3⟩ := h
    exact .cons ⟨a, h1, (e _ _ h2 h3).1, (e _ _ h2 h3).2⟩ (TabV.keeps e r)
theorem TabV.len {H : Hp} {L : List Addr} {vs : List V} {t : List (List G)} (h : TabV H L vs t) : vs.length = t.length := Paired.length h
theorem TabV.at {H : Hp} {L : List Addr} : ∀ {vs : List V} {t : List (List G)} {k : Nat}, TabV H L vs t → k < t.length → ∃ r, vs[k]? = some (V.ref r) ∧ r ∉ L ∧ H r = some (.lst ((ro t k).map vg))
  | _, _, _, .nil, h => absurd h (Nat.not_lt_zero _)
  | _, _, 0, .cons h _, _ => by
    obtain ⟨r, rfl, h2, h3⟩ := h
    exact ⟨r, rfl, h2, h3⟩
  | _, _, k + 1, .cons _ r, hk => by
    obtain ⟨a, h1, h2, h3⟩ := TabV.at (k := k) r (by simpa using hk)
    exact ⟨a, by simpa using h1, h2, h3⟩
theorem TabV.set {H : Hp} {L : List Addr} {r : Addr} {row : List G} (hn : r ∉ L) (hr : H r = some (.lst (row.map vg))) : ∀ {vs : List V} {t : List (List G)} (k : Nat), TabV H L vs t → TabV H L (vs.set k (V.ref r)) (t.set k row)
  | _, _, _, .nil => .nil
  | _, _, 0, .cons _ r' => .cons ⟨r, rfl, hn, hr⟩ r'
  | _, _, k + 1, .cons h r' => .cons h (TabV.set hn hr k r')
theorem TabV.snoc {H : Hp} {L : List Addr} {r : Addr} {row : List G} (hn : r ∉ L) (hr : H r = some (.lst (row.map vg))) : ∀ {vs : List V} {t : List (List G)}, TabV H L vs t → TabV H L (vs ++ [V.ref r]) (t ++ [row])
  | _, _, .nil => .cons ⟨r, rfl, hn, hr⟩ .nil
  | _, _, .cons h r' => .cons h (TabV.snoc hn hr r')
theorem TabV.put {H : Hp} {L : List Addr} {l : Addr} {o : HO} {vs : List V} {t : List (List G)} (h : TabV H L vs t) (hl : l ∈ L) : TabV (upd H l o) L vs t := h.keeps fun r xs hn hs => ⟨hn, by rw [upd_ne (fun z => hn (by rw [z]; exact hl))]; exact hs⟩
theorem TabV.same {H H' : Hp} {L : List Addr} {vs : List V} {t : List (List G)} (h : TabV H L vs t) (e : Same H H') : TabV H' L vs t := h.keeps fun r xs hn hs => ⟨hn, e _ _ hs⟩
theorem TabV.sub {H : Hp} {L L' : List Addr} {vs : List V} {t : List (List G)} (h : TabV H L vs t) (e : ∀ x ∈ L', x ∈ L) : TabV H L' vs t := h.keeps fun r xs hn hs => ⟨fun z => hn (e _ z), hs⟩
/-- against a list that is not there yet -/
theorem TabV.new {H H' : Hp} {L : List Addr} {D : Addr} {vs : List V} {t : List (List G)} (h : TabV H L vs t) (hD : H D = none) (e : Same H H') : TabV H' (D :: L) vs t := h.keeps fun r xs hn hs => ⟨fun z => by
  rcases List.mem_cons.mp z with z | z
  · rw [z, hD] at hs
    cases hs
  · exact hn z, e _ _ hs⟩
theorem upd_keep {H : Hp} {l b : Addr} {o q : HO} (hb : H b = some o) (hl : b ≠ l) : (upd H l q) b = some o := by
  rw [upd_ne hl]
  exact hb
theorem none_of {H H' : Hp} {D : Addr} (e : Same H H') (h : H' D = none) : H D = none := by
  cases q : H D with
  | none => rfl
  | some o =>
    rw [e _ _ q] at h
    cases h
theorem vg_zero {x : G} (h : vg x = V.int 0) : x = 0 := gi_zero.mp (by unfold vg at h; exact V.int.inj h)
theorem vg_nz {x : G} (h : x ≠ 0) : ¬ (vg x = V.int 0) := fun z => h (vg_zero z)
theorem not_two {r a b : Addr} (h1 : r ≠ a) (h2 : r ≠ b) : r ∉ [a, b] := fun z => by
  rcases List.mem_cons.mp z with z | z
  · exact h1 z
  · exact h2 (List.mem_singleton.mp z)
theorem ne_of_some {H : Hp} {a b : Addr} {o : HO} (ha : H a = some o) (hb : H b = none) : b ≠ a := fun z => by rw [z, ha] at hb; cases hb

-- @@CUT
def spFirst (K : PySem.W.Frag) : Sp := fun vs H Q _ => ∃ (a : Addr) (l : List Addr) (ws : List V) (t : List (List G)) (w c m : Nat), vs = [.ref a, .int (c : Int), .int (m : Int)] ∧ SqL K H a ws ∧ TabV H l ws t ∧ Wid t w ∧ c < w ∧ m ≤ t.length ∧ t.length ≤ 1000 ∧
  (∀ f : Nat, m ≤ f → f < t.length → co (ro t f) c ≠ 0 → Q (.int (f : Int)) H) ∧ ((∀ k, m ≤ k → k < t.length → co (ro t k) c = 0) → Q .non H)
theorem ok__first_with (T : Txt K mg C_InvalidSymbol c_solve_system P_solve_system) : Ok P w K mg base CX0 1 "_first_with" ["table", "column", "start"] (spFirst K) := by
  refine ok_of T.d__first_with fun f fd F => F.ok sc__first_with (fun vs H Q E h => ?_) (fun cdv A outer s H vs Q E hr h => ?_)
  · obtain ⟨a, l, ws, t, w, c, m, rfl, _⟩ := h
    rfl
  · obtain ⟨a, l, ws, t, wd, c, m, rfl, hA, hT, hW, hc, hm, hz, kF, kN⟩ := h
    have nd := sc__first_with.nd
    refine ⟨_,       (pss_cons (ps_for PassesOwn.never rfl (pi_range2 rfl T.n_range (pa_cons (pv 2) (pa_cons (pe_callB call_len_seq (by rfl) T.n_len PySem.boot_len (pa_cons (pv 0) pa_nil)) pa_nil))) (pg_name (i := 3) nd rfl (Or.inl rfl))
        (pss_one (ps_if (pt_cmpR op_ne (pe_ix ix_list (pe_ix ix_list (pv 0) (pv 3) (fun _ _ => rfl)) (pv 1) (fun _ _ => rfl)) pe_int (nomark _))
          (pss_one (ps_ret (pv 3))) pss_nil)))
      (pss_one (ps_ret pe_non))), ?_⟩
    have hl := hT.len
    refine ⟨_, rfl, _, rfl, a, _, rfl, .inl hA, _, _, rfl, ⟨by omega, by omega, by rw [hl]; omega, by rw [hl]; omega⟩, ?_⟩
    rw [hl, show ((t.length : Int) - (m : Int)).toNat = t.length - m by omega]
    refine for_range (lo := (m : Int)) (n := t.length - m) (fun i σ H' => H = H' ∧ (∀ k, m ≤ k → k < m + i → co (ro t k) c = 0) ∧ ∃ v3 : Option V, σ = [some (.ref a), some (.int (c : Int)), some (.int (m : Int)), v3]) ⟨rfl, fun k h1 h2 => absurd h1 (by omega), none, rfl⟩ ?_ ?_
    · rintro i σ H' hi ⟨rfl, hz0, v3, rfl⟩
      obtain ⟨r, h1, _, h3⟩ := hT.at (k := m + i) (by omega)
      have hw := hW.ro (k := m + i) (by omega)
      refine ⟨_, rfl, _, rfl, a, _, _, .ref r, rfl, rfl, hA, at_nat (j := m + i) (by omega) h1, _, rfl, r, _, _, vg (co (ro t (m + i)) c), rfl, rfl, SqL.of h3, at_nat (j := c) rfl (vg_get (by omega)), rfl, _, rfl, itnV (fun h => ?_) (fun h => ?_)⟩
      · refine ⟨_, rfl, ?_⟩
        rw [show (m : Int) + (i : Int) = ((m + i : Nat) : Int) by omega]
        exact kF (m + i) (by omega) (by omega) fun z => h (by rw [z]; rfl)
      · refine ⟨rfl, fun k h4 h5 => ?_, _, rfl⟩
        rcases Nat.lt_or_ge k (m + i) with z | z
        · exact hz0 k h4 z
        · rw [show k = m + i by omega]
          exact vg_zero h
    · rintro σ H' ⟨rfl, hz0, v3, rfl⟩
      exact kN fun k h1 h2 => hz0 k h1 (by omega)

-- @@CUT
def pvV (ps : List Nat) : List V := ps.map fun p : Nat => V.int (p : Int)
def spElim (K : PySem.W.Frag) : Sp := fun vs H Q _ => ∃ (a : Addr) (L : List Addr) (ws : List V) (R : List (List G)) (w n : Nat), vs = [.ref a, .int (n : Int)] ∧ SqL K H a ws ∧ TabV H L ws R ∧ Wid R w ∧ n ≤ w ∧ w ≤ 1000 ∧ R.length ≤ 1000 ∧
  ∀ H' u tb pb ws' ps T, Same H H' → H' u = some (.tup [.ref tb, .ref pb]) → H' tb = some (.lst ws') → TabV H' [tb] ws' T → T.length = R.length → Wid T w → H' pb = some (.lst (pvV ps)) → Ech T ps n → Red T ps → Eqs T R → Q (.ref u) H'
@[reducible] def stE (a : Addr) (n : Nat) (tb pb : Addr) (v4 v5 v6 v7 v8 : Option V) : L2.St := [some (.ref a), some (.int (n : Int)), some (.ref tb), some (.ref pb), v4, v5, v6, v7, v8, none]
theorem ok__eliminated (T : Txt K mg C_InvalidSymbol c_solve_system P_solve_system) : Ok P w K mg base (CXN P w) 4 "_eliminated" ["rows", "columns"] (spElim K) := by
  have G__first_with := ok__first_with (P := P) (w := w) (base := base) T
  have G_scaled := ok_scaled (P := P) (w := w) (base := base) T
  have G_inverse := ok_inverse (P := P) (w := w) (base := base) T
  have G_plus_scaled := ok_plus_scaled (P := P) (w := w) (base := base) T
  refine ok_of T.d__eliminated fun f fd F => okN F sc__eliminated (fun vs H Q E h => ?_) (fun cdv A outer s H vs Q E hr h => ?_)
  · obtain ⟨a, L, ws, R, w, n, rfl, _⟩ := h
    rfl
  · obtain ⟨a, L, ws, R, wd, n, rfl, hA, hT, hW, hn, hwd, hz, kQ⟩ := h
    have nd := sc__eliminated.nd
    have po := passes_of (X := cxOf (CXN P w) P w K mg base N__eliminated "_eliminated" (defScope s__eliminated) f cdv A outer s H E) rfl
    refine ⟨_,       (pss_cons (ps_set (i := 2) nd rfl (Or.inl rfl) (pe_callTy call_list_of (by rfl) T.n_list (by decide +kernel) (pa_cons (pv 0) pa_nil)))
      (pss_cons (ps_set (i := 3) nd rfl (Or.inl rfl) (pe_lst pa_nil))
      (pss_cons (ps_for po rfl (pi_range1 rfl T.n_range (pa_cons (pv 1) pa_nil)) (pg_name (i := 4) nd rfl (Or.inr rfl))
        (pss_cons (ps_set (i := 5) nd rfl (Or.inl rfl) (pe_callB call_len_seq (by rfl) T.n_len PySem.boot_len (pa_cons (pv 3) pa_nil)))
        (pss_cons (ps_set (i := 6) nd rfl (Or.inl rfl) (pe_callO G__first_with (hr.mono (by decide)) pass0 (pa_cons (pv 2) (pa_cons (pv 4) (pa_cons (pv 5) pa_nil)))))
        (pss_cons (ps_if (pt_cmpR op_isN (pv 6) pe_non (nomark _))
          (pss_one ps_continue) pss_nil)
        (pss_cons (ps_set (i := 7) nd rfl (Or.inr rfl) (pe_callO G_scaled (hr.mono (by decide)) pass0 (pa_cons (pe_ix ix_list (pv 2) (pv 6) (fun _ _ => rfl)) (pa_cons (pe_callO G_inverse (hr.mono (by decide)) (passX (L2N.takes_of rfl rfl rfl rfl) (fun _ _ _ z => z)) (pa_cons (pe_ix ix_list (pe_ix ix_list (pv 2) (pv 6) (fun _ _ => rfl)) (pv 4) (fun _ _ => rfl)) pa_nil)) pa_nil))))
        (pss_cons (ps_asg (pe_ix ix_list (pv 2) (pv 5) (fun _ _ => rfl)) (pg_sub (pv 2) (pv 6) set_list))
        (pss_cons (ps_setLc (i := 8) (own := [("row", 9)]) (g := gName 9) (tt := tYes) rfl nd rfl rfl (sw_true rfl rfl rfl (by decide +kernel)) (pi_list (pv 2)) (blkOk_by (N := N__eliminated) (sc := defScope s__eliminated) (by decide +kernel)) (fun _ _ _ _ _ => (pg_name (i := 9) nd rfl (Or.inl rfl))) (fun _ _ _ _ _ => pts_nil) (fun _ _ _ _ _ => (pe_callO G_plus_scaled (hr.mono (by decide)) pass0 (pa_cons (pv 9) (pa_cons (pv 7) (pa_cons (pe_ix (r := rIxL K) ix_list (pv 9) (pv 4) (fun _ _ => rfl)) pa_nil))))))
        (pss_cons (ps_asg (pv 7) (pg_sub (pv 8) (pv 5) set_list))
        (pss_cons (ps_set (i := 2) nd rfl (Or.inl rfl) (pv 8))
        (pss_one (ps_expr (pe_bm PySem.F.plainAttrs_list PySem.F.slot_list_append PySem.F.type_list_append mt_append (pv 3) (pa_cons (pv 4) pa_nil)))))))))))))
      (pss_one (ps_ret (pe_tup (pa_cons (pv 2) (pa_cons (pv 3) pa_nil)))))))), ?_⟩
    refine ⟨_, rfl, a, _, rfl, .inl hA, fun tb htb => ?_⟩
    refine ⟨by decide, fun pb hpb => ?_⟩
    have g1 := same_upd (o := .lst ws) htb
    have g2 := g1.trans (same_upd (o := .lst ([] : List V)) hpb)
    refine ⟨_, rfl, n, rfl, by omega, by omega, ?_⟩
    have hpb0 : H pb = none := none_of g1 hpb
    have tp : tb ≠ pb := fun z => by rw [← z, upd_same] at hpb; cases hpb
    have hT0 : TabV (upd (upd H tb (.lst ws)) pb (.lst [])) [pb, tb] ws R := (hT.new htb g1).new hpb (same_upd hpb) |>.sub (by simp)
    refine for_range (lo := 0) (n := n) (fun i σ H' => Same H H' ∧ ∃ (tb : Addr) (ws : List V) (T : List (List G)) (ps : List Nat) (v4 v5 v6 v7 v8 : Option V), H tb = none ∧ tb ≠ pb ∧ H' tb = some (.lst ws) ∧ TabV H' [pb, tb] ws T ∧ T.length = R.length ∧ Wid T wd ∧ Ech T ps i ∧ Red T ps ∧ Eqs T R ∧ H' pb = some (.lst (pvV ps)) ∧ σ = stE a n tb pb v4 v5 v6 v7 v8)
      ⟨g2, tb, ws, R, [], none, none, none, none, none, htb, tp, (by rw [upd_ne tp]; exact upd_same), hT0, rfl, hW, Ech.start R, ⟨fun _ h => absurd h (Nat.not_lt_zero _), fun _ h => absurd h (Nat.not_lt_zero _)⟩, fun _ => Iff.rfl, upd_same, rfl⟩ ?_ ?_
    · clear hT0 g1 g2 tp htb hpb
      rintro i σ H1 hi ⟨e1, tb, ws, T, ps, v4, v5, v6, v7, v8, htb, tp, hB, hT1, hTl, hTW, hE, hR, hQ, hP, rfl⟩
      refine ⟨_, rfl, pb, _, rfl, .inl (SqL.of hP), ?_⟩
      have hpl : (pvV ps).length = ps.length := List.length_map _
      rw [hpl]
      have hle := hE.le
      refine ⟨_, rfl, _, rfl, _, rfl, tb, _, ws, T, wd, i, ps.length, by rw [show (0 : Int) + (i : Int) = (i : Int) by omega]; rfl, SqL.of hB, hT1, hTW, by omega, hle, by omega, fun f hf1 hf2 hf3 => ?_, fun hz0 => ?_⟩
      · have hi0 : (0 : Int) + (i : Int) = (i : Int) := by omega
        have htop : ps.length < T.length := Nat.lt_of_le_of_lt hf1 hf2
        have hwl := hT1.len
        obtain ⟨rf, a1, a2, a3⟩ := hT1.at hf2
        obtain ⟨rt, b1, b2, b3⟩ := hT1.at htop
        have wf := hTW.ro hf2
        have wt' := hTW.ro htop
        refine ⟨_, rfl, rfl, _, rfl, itd (fun h => nomatch h) (fun _ => ?_)⟩
        refine ⟨_, rfl, _, rfl, tb, _, _, .ref rf, rfl, rfl, SqL.of hB, at_nat rfl a1, _, rfl, _, rfl, tb, _, _, .ref rf, rfl, rfl, SqL.of hB, at_nat rfl a1, _, rfl, rf, _, _, vg (co (ro T f) i), rfl, rfl, SqL.of a3, at_nat (j := i) hi0 (vg_get (by omega)), ?_⟩
        refine ⟨gi (co (ro T f) i), rfl, fun hn => absurd ⟨gi_sym _, fun z => hf3 (gi_zero.mp z)⟩ hn, fun _ _ => ?_⟩
        refine ⟨rf, ro T f, gv (co (ro T f) i), by rw [gi_inv _ hf3]; rfl, SqL.of a3, by omega, fun pr H2 hpr e2 hPr => ?_⟩
        have hPr : H2 pr = some (.lst ((prow T f i).map vg)) := hPr
        have e02 := e1.trans e2
        have prt : pr ≠ tb := ne_of_some hB hpr
        have prp : pr ≠ pb := ne_of_some hP hpr
        -- table[found] = table[top]
        refine ⟨_, rfl, _, rfl, tb, _, _, .ref rt, rfl, rfl, SqL.of (e2 _ _ hB), at_nat rfl b1, _, rfl, _, rfl, tb, _, _, f, rfl, rfl, e2 _ _ hB, ix_nat rfl (by omega), ?_⟩
        have hT2 := ((hT1.same e2).put (l := tb) (o := .lst (ws.set f (V.ref rt))) (by simp)).set (r := rt) (row := ro T ps.length) b2 (upd_keep (e2 _ _ b3) (fun z => b2 (by simp [z]))) f
        have e3 := same_new (o := .lst (ws.set f (V.ref rt))) e02 htb
        have hP3 : (upd H2 tb (.lst (ws.set f (V.ref rt)))) pb = some (.lst (pvV ps)) := upd_keep (e2 _ _ hP) (fun z => tp z.symm)
        have hPr3 : (upd H2 tb (.lst (ws.set f (V.ref rt)))) pr = some (.lst ((prow T f i).map vg)) := upd_keep hPr prt
        have hB3 : (upd H2 tb (.lst (ws.set f (V.ref rt)))) tb = some (.lst (ws.set f (V.ref rt))) := upd_same
        generalize upd H2 tb (.lst (ws.set f (V.ref rt))) = H3 at hT2 e3 hP3 hPr3 hB3 ⊢
        have hW2 : Wid (T.set f (ro T ps.length)) wd := fun r hr => by
          rcases List.mem_or_eq_of_mem_set hr with z | z
          · exact hTW r z
          · rw [z]
            exact wt'
        have hl2 : (T.set f (ro T ps.length)).length = T.length := List.length_set
        have pl : (prow T f i).length = wd := by
          unfold prow
          rw [List.length_map]
          exact wf
        obtain ⟨T2, hT2e⟩ : ∃ T2, T2 = T.set f (ro T ps.length) := ⟨_, rfl⟩
        rw [← hT2e] at hT2 hW2 hl2
        have hwl2 := hT2.len
        -- cleared
        refine ⟨_, rfl, tb, rfl, ⟨_, SqL.of hB3⟩, fun D hD => lc_list (K := K) (a := tb) (xs := ws.set f (V.ref rt)) (fun j H' => Same H3 H' ∧ ∃ us, H' D = some (.lst us) ∧ TabV H' [pb, D] us ((T2.take j).map fun r => plusR r (prow T f i) (co r i))) ⟨same_upd hD, [], upd_same, .nil⟩ (fun j H' _ ⟨e, _⟩ => SqL.of (e _ _ hB3)) ?_ ?_⟩
        · rintro j x H' hx ⟨e, us, hDl, hU⟩
          have hj : j < T2.length := by
            have := (List.getElem?_eq_some_iff.mp hx).1
            omega
          obtain ⟨r, c1, c2, c3⟩ := hT2.at hj
          rw [c1] at hx
          obtain rfl : V.ref r = x := Option.some.inj hx
          have wj := hW2.ro hj
          have hul := hU.len
          rw [List.length_map, List.length_take] at hul
          refine ⟨rfl, ?_⟩
          dsimp only [tYes]
          try rw [if_pos rfl]
          refine ⟨_, rfl, _, rfl, _, rfl, _, rfl, r, _, _, vg (co (ro T2 j) i), rfl, rfl, SqL.of (e _ _ c3), at_nat (j := i) hi0 (vg_get (by omega)), ?_⟩
          refine ⟨r, pr, ro T2 j, prow T f i, co (ro T2 j) i, rfl, SqL.of (e _ _ c3), SqL.of (e _ _ hPr3), by omega, by omega, fun q H4 hq e4 hQ4 => ?_⟩
          refine ⟨us, e4 _ _ hDl, small (by omega), same_new (e.trans e4) hD, _, upd_same, ?_⟩
          have nqD : q ≠ D := ne_of_some hDl hq
          have nqp : q ≠ pb := ne_of_some (e _ _ hP3) hq
          rw [take_snoc hj, List.map_append, ← ro_in hj]
          exact ((hU.same e4).put (l := D) (by simp)).snoc (not_two nqp nqD) (upd_keep hQ4 nqD)
        · rintro H5 ⟨e5, us, hDl, hU⟩
          rw [show (ws.set f (V.ref rt)).length = T2.length from hwl2, List.take_length] at hU
          have hul := hU.len
          rw [List.length_map] at hul
          have hD0 : H D = none := none_of e3 hD
          have nDp : D ≠ pb := fun z => by rw [z, hP3] at hD; cases hD
          have npD : pr ≠ D := fun z => by rw [z, hD] at hPr3; cases hPr3
          -- cleared[top] = pivot_row
          refine ⟨_, rfl, _, rfl, _, rfl, D, _, _, ps.length, rfl, rfl, hDl, ix_nat rfl (by omega), ?_⟩
          refine ⟨_, rfl, ?_⟩
          -- pivots.append(column)
          have hP6 : (upd H5 D (.lst (us.set ps.length (V.ref pr)))) pb = some (.lst (pvV ps)) := upd_keep (e5 _ _ hP3) (fun z => nDp z.symm)
          refine ⟨_, rfl, .inl ⟨rfl, _, SqL.of hP6⟩, _, rfl, pb, _, _, rfl, rfl, hP6, small (by omega), ?_⟩
          obtain ⟨k1, k2, k3, k4⟩ := pstep_ok hTW hE hR hf1 hf2 hf3
          have hU6 := ((hU.put (l := D) (o := .lst (us.set ps.length (V.ref pr))) (by simp)).set (r := pr) (row := prow T f i) (not_two prp npD) (upd_keep (e5 _ _ hPr3) npD) ps.length).put (l := pb) (o := .lst (pvV ps ++ [V.int (0 + (i : Int))])) (by simp)
          rw [hT2e] at hU6
          refine ⟨same_new (same_new (e3.trans e5) hD0) hpb0, D, us.set ps.length (V.ref pr), pstep T ps.length f i, ps ++ [i], some _, some _, some _, some _, some _, hD0, nDp, upd_keep upd_same nDp, hU6, (pstep_len ..).trans hTl, k1, k2, k3, k4.tr hQ, ?_, rfl⟩
          rw [upd_same, hi0, pvV, pvV, List.map_append]
          rfl
      · refine ⟨_, rfl, rfl, _, rfl, itd (fun _ => ?_) (fun h => absurd rfl h)⟩
        exact ⟨e1, tb, ws, T, ps, some _, some _, some _, v7, v8, htb, tp, hB, hT1, hTl, hTW, hE.skip hz0, hR, hQ, hP, rfl⟩
    · rintro σ H1 ⟨e1, tb, ws, T, ps, v4, v5, v6, v7, v8, htb, tp, hB, hT1, hTl, hTW, hE, hR, hQ, hP, rfl⟩
      refine ⟨_, rfl, _, rfl, (by show 2 ≤ sizeLine; decide), fun u hu => ?_⟩
      have g := same_upd (o := .tup [V.ref tb, V.ref pb]) hu
      exact kQ _ u tb pb ws ps T (e1.trans g) upd_same (g _ _ hB) ((hT1.same g).sub (by simp)) hTl hTW (g _ _ hP) hE hR hQ

-- @@CUT
def rowD (r : List G) : PyData := .list ((r.map gi).map PyData.int)
theorem map_vg_int (r : List G) : (r.map gi).map V.int = r.map vg := by
  rw [List.map_map]
  rfl
theorem dp_row {K : PySem.W.Frag} {H : Hp} {r : Addr} {row : List G} (h : H r = some (.lst (row.map vg))) : Dp K H (.ref r) (rowD row) := dp_list (by
  rw [map_vg_int]
  exact SqL.of h)
theorem dp_tab {K : PySem.W.Frag} {H : Hp} {L : List Addr} : ∀ {vs : List V} {t : List (List G)}, TabV H L vs t → DpAll K H vs (t.map rowD)
  | _, _, .nil => .nil
  | _, _, .cons h r => by
    obtain ⟨a, rfl, _, h3⟩ := h
    exact .cons (dp_row h3) (dp_tab r)
theorem lay_tab : ∀ rows : List (List G), PyData.canLayAll0 (rows.map rowD) = true
  | [] => rfl
  | row :: rows => by
    show (PyData.canLayAll0 ((row.map gi).map PyData.int) && PyData.canLayAll0 (rows.map rowD)) = true
    rw [lay_tab rows, Cm.canLayAll_ints]
    rfl
theorem depth_tab : ∀ rows : List (List G), PyData.depthAll (rows.map rowD) ≤ 1
  | [] => by simp [PyData.depthAll]
  | row :: rows => by
    show max (PyData.depthAll ((row.map gi).map PyData.int) + 1) (PyData.depthAll (rows.map rowD)) ≤ 1
    have := depth_tab rows
    rw [Cm.depthAll_ints]
    omega
theorem shaped_tab (rows : List (List G)) : SeqAt.shaped (.list (rows.map rowD)) = true := by
  have h := depth_tab rows
  refine Bool.and_eq_true_iff.mpr ⟨lay_tab rows, decide_eq_true ?_⟩
  show PyData.depthAll (rows.map rowD) + 1 ≤ 64
  omega
theorem eqv_tab_nil : ∀ rows : List (List G), PyData.eqv (.list (rows.map rowD)) (.list []) = decide (rows = [])
  | [] => by decide +kernel
  | row :: rows => by
    simp [PyData.eqv, PyData.eqvAll]

def spRank (K : PySem.W.Frag) : Sp := fun vs H Q _ => ∃ (a : Addr) (L : List Addr) (ws : List V) (R : List (List G)) (w : Nat), vs = [.ref a] ∧ SqL K H a ws ∧ TabV H L ws R ∧ Wid R w ∧ w ≤ 1000 ∧ R.length ≤ 1000 ∧
  (R = [] → ∀ H', Same H H' → Q (.int 0) H') ∧ (R ≠ [] → ∀ H' ps T, Same H H' → Ech T ps w → Eqs T R → Q (.int (ps.length : Int)) H')
theorem ok_rank (T : Txt K mg C_InvalidSymbol c_solve_system P_solve_system) : Ok P w K mg base (CXN P w) 5 "rank" ["rows"] (spRank K) := by
  have G__eliminated := ok__eliminated (P := P) (w := w) (base := base) T
  refine ok_of T.d_rank fun f fd F => okN F sc_rank (fun vs H Q E h => ?_) (fun cdv A outer s H vs Q E hr h => ?_)
  · obtain ⟨a, L, ws, R, w, rfl, _⟩ := h
    rfl
  · obtain ⟨a, L, ws, R, wd, rfl, hA, hT, hW, hwd, hz, kN, kQ⟩ := h
    have nd := sc_rank.nd
    have hu64 : (A.deeper (envOfC "rank" (defScope s_rank) s.heap.objs.size f cdv)).units + 64 < cLine := by
      have := hr.un
      omega
    refine ⟨_,       (pss_cons (ps_if (pt_cmpR (op_eqD hu64) (pv 0) (pe_lst pa_nil) (nomark _))
        (pss_one (ps_ret pe_int)) pss_nil)
      (pss_cons (ps_set (i := 1) nd rfl (Or.inl rfl) (pe_ix ix_tup (pe_callO G__eliminated (hr.mono (by decide)) (passX (L2N.takes_of rfl rfl rfl rfl) (fun _ _ _ z => z)) (pa_cons (pv 0) (pa_cons (pe_callB call_len_seq (by rfl) T.n_len PySem.boot_len (pa_cons (pe_ix ix_list (pv 0) pe_int (fun _ _ => rfl)) pa_nil)) pa_nil))) pe_int (fun _ _ => rfl)))
      (pss_one (ps_ret (pe_callB call_len_seq (by rfl) T.n_len PySem.boot_len (pa_cons (pv 1) pa_nil)))))), ?_⟩
    refine ⟨_, rfl, by decide, fun l hl => ?_⟩
    have g := same_upd (o := .lst ([] : List V)) hl
    refine ⟨_, _, .lst (g.seq hA) (dp_tab (hT.same g)), .lst (SqL.of upd_same) .nil, shaped_tab R, by decide +kernel, _, rfl, ?_⟩
    rw [eqv_tab_nil]
    refine itd (fun h0 => kN h0 _ g) (fun h0 => ?_)
    have h1 : 0 < R.length := by
      cases R with
      | nil => exact absurd rfl h0
      | cons _ _ => exact Nat.succ_pos _
    obtain ⟨r, a1, a2, a3⟩ := hT.at h1
    have wr := hW.ro h1
    have g3 := g _ _ a3
    refine ⟨_, rfl, _, rfl, a, _, _, .ref r, rfl, rfl, g.seq hA, at_nat (j := 0) rfl a1, r, _, rfl, .inl (SqL.of g3), ?_⟩
    refine ⟨a, L, ws, R, wd, wd, by rw [List.length_map, wr]; rfl, g.seq hA, hT.same g, hW, Nat.le_refl _, hwd, hz, fun H' u tb pb ws' ps T e hu hB hT' hTl hTW hP hE hR hQ => ?_⟩
    refine ⟨u, _, _, .ref pb, rfl, rfl, SqT.of hu, rfl, ?_⟩
    refine ⟨_, rfl, pb, _, rfl, .inl (SqL.of hP), ?_⟩
    rw [show (pvV ps).length = ps.length from List.length_map _]
    exact kQ h0 H' ps T (g.trans e) hE hQ

-- @@CUT
theorem cut_fromN {xs : List V} {k : Nat} : cutV xs (some (k : Int)) none = xs.drop k := by
  unfold cutV
  have e : HT.sIx xs.length 0 (some (k : Int)) = min k xs.length := HT.sIx_nat _ _ k
  rw [e]
  simp only [HT.sIx]
  rw [List.take_of_length_le (by rw [List.length_drop]; exact Nat.le_refl _)]
  by_cases h : k ≤ xs.length
  · rw [Nat.min_eq_left h]
  · rw [Nat.min_eq_right (by omega), List.drop_of_length_le (Nat.le_refl _), List.drop_of_length_le (by omega)]
theorem TabV.sm {H H' : Hp} {L : List Addr} {vs : List V} {t : List (List G)} (h : TabV H L vs t) (e : GX.Sm H H') : TabV H' L vs t := h.keeps fun r xs hn hs => ⟨hn, e.l hs⟩
theorem augT_take (R : List (List G)) (ys : List G) {i : Nat} (hi : i < R.length) : (augT R ys).take (i + 1) = (augT R ys).take i ++ [ro R i ++ [co ys i]] := by
  rw [take_snoc (by rw [augT_len]; exact hi), ← ro_in (by rw [augT_len]; exact hi), augT_ro hi]
theorem augT_wid {R : List (List G)} {w : Nat} (h : Wid R w) (ys : List G) : Wid (augT R ys) (w + 1) := fun r hr => by
  obtain ⟨k, hk, rfl⟩ := mem_ro hr
  rw [augT_len] at hk
  rw [augT_ro hk, List.length_append, List.length_singleton, h.ro hk]
theorem sm_putN {H H2 : Hp} {l : Addr} {ws zs : List V} (e : GX.Sm H H2) (hl : H l = none) (h2 : H2 l = some (.lst ws)) : GX.Sm H (upd H2 l (.lst zs)) := by
  refine ⟨fun b o q n => ?_, fun P t => ?_⟩
  · rw [upd_ne (fun z => by rw [z, hl] at q; cases q)]
    exact e.keep _ _ q n
  · obtain ⟨ps, q, t2⟩ := e.tab _ t
    exact ⟨ps, by rw [upd_ne (fun z => by rw [z, h2] at q; cases q)]; exact q, t2⟩
theorem pvV_at {ps : List Nat} {i : Nat} (h : i < ps.length) : (pvV ps)[i]? = some (V.int ((ps.getD i 0 : Nat) : Int)) := by
  rw [pvV, List.getElem?_map, List.getElem?_eq_getElem h, List.getD_eq_getElem?_getD, List.getElem?_eq_getElem h]
  rfl
@[reducible] def stS (a b : Addr) (w : Nat) (tb pb : Addr) (v5 : Option V) (sp : Addr) (v8 : Option V) : L2.St := [some (.ref a), some (.ref b), some (.int (w : Int)), some (.ref tb), some (.ref pb), v5, none, some (.ref sp), v8]
def spSolve (K : PySem.W.Frag) (P_ : Addr) : Sp := fun vs H Q _ => ∃ (a b : Addr) (L : List Addr) (ws : List V) (R : List (List G)) (ys : List G) (w : Nat), vs = [.ref a, .ref b] ∧ SqL K H a ws ∧ TabV H L ws R ∧ Wid R w ∧ SqL K H b (ys.map vg) ∧ ys.length = R.length ∧ w ≤ 100 ∧ R.length ≤ 100 ∧ GxR.TabG H P_ ∧
  (R = [] → ∀ H' p, Same H H' → H' p = some (.lst []) → Q (.ref p) H') ∧
  (R ≠ [] → ∀ H' ps T k, GX.Sm H H' → Ech T ps w → Eqs T (augT R ys) → ps.length ≤ k → k < T.length → co (ro T k) w ≠ 0 → Q .non H') ∧
  (R ≠ [] → ∀ H' p sl, GX.Sm H H' → H' p = some (.lst (sl.map vg)) → sl.length = w → (∀ k, k < R.length → (gs w fun j => gm (co (ro R k) j) (co sl j)) = co ys k) → Q (.ref p) H')
theorem ok_solve_system (T : Txt K mg C_InvalidSymbol c_solve_system P_solve_system) : Ok P w K mg base (CXN P w) 5 "solve_system" ["rows", "right"] (spSolve K P_solve_system) := by
  have G__eliminated := ok__eliminated (P := P) (w := w) (base := base) T
  refine GX.okc_of T.d_solve_system sc_solve_system (fun vs H Q E h => ?_) (fun f A outer s H vs Q E hr h => ?_)
  · obtain ⟨a, b, L, ws, R, ys, w, rfl, _⟩ := h
    rfl
  · obtain ⟨a, b, L, ws, R, ys, wd, rfl, hA, hT, hW, hY, hyl, hwd, hz, tb0, kN, kI, kS⟩ := h
    have nd := sc_solve_system.nd
    have hu64 : (A.deeper (envOfC "solve_system" (defScope s_solve_system) s.heap.objs.size f (.ref c_solve_system))).units + 64 < cLine := by
      have := hr.un
      omega
    have po := passes_of (X := cxOf (CXN P w) P w K mg base N_solve_system "solve_system" (defScope s_solve_system) f (.ref c_solve_system) A outer s H E) rfl
    refine ⟨_,       (pss_cons (ps_if (pt_cmpR (op_eqD hu64) (pv 0) (pe_lst pa_nil) (nomark _))
        (pss_one (ps_ret (pe_lst pa_nil))) pss_nil)
      (pss_cons (ps_set (i := 2) nd rfl (Or.inr rfl) (pe_callB call_len_seq (by rfl) T.n_len PySem.boot_len (pa_cons (pe_ix ix_list (pv 0) pe_int (fun _ _ => rfl)) pa_nil)))
      (pss_cons (ps_asg (pe_callO G__eliminated (hr.mono (by decide)) (passX (L2N.takes_of rfl rfl rfl rfl) (fun _ _ _ z => z)) (pa_cons (pe_lc (own := [("row", 5), ("value", 6)]) (g := _) (tt := tYes) rfl nd (pi_zip (by rfl) T.n_zip (pa_cons (pv 0) (pa_cons (pv 1) pa_nil))) (blkOk_by (N := N_solve_system) (sc := defScope s_solve_system) (by decide +kernel)) (fun _ _ _ _ _ => (TK.pg_tupK (K := K) (n := 2) rfl rfl (pgs_cons (pg_name (i := 5) nd rfl (Or.inl rfl)) (pgs_cons (pg_name (i := 6) nd rfl (Or.inl rfl)) pgs_nil)))) (fun _ _ _ _ _ => pts_nil) (fun _ _ _ _ _ => (pe_lst (TK.pa_starK (K := K) (pv 5) (pa_cons (pv 6) pa_nil))))) (pa_cons (pv 2) pa_nil))) (pg_tup rfl (pgs_cons (pg_name (i := 3) nd rfl (Or.inl rfl)) (pgs_cons (pg_name (i := 4) nd rfl (Or.inl rfl)) pgs_nil))))
      (pss_cons (ps_if (pt_val (GX.pe_anyG (k := 0) (own := [("row", 5)]) (ext := ([] : List Str)) (hr.mono (by decide)) (by rfl) T.n_any TBS.t_solve_system rfl ⟨by show (N_solve_system ++ ([] : List Str)).Nodup; decide +kernel, blkOk_by (N := N_solve_system ++ ([] : List Str)) (sc := defScope s_solve_system) (by decide +kernel), rfl, by decide +kernel, rfl⟩ (pi_list (pe_slice sl_list (pv 3) (po_some (pe_callB call_len_seq (by rfl) T.n_len PySem.boot_len (pa_cons (pv 4) pa_nil))) po_none)) (fun _ _ _ _ _ => (pg_name (i := 5) (show (N_solve_system ++ ([] : List Str)).Nodup by decide +kernel) rfl (Or.inl rfl))) (fun _ _ _ _ _ rm => (pe_cmpR op_ne (pe_ix (r := rIxL K) ix_list (pv 5) (pv 2) (fun _ _ => rfl)) pe_int (nomark _)))))
        (pss_one (ps_ret pe_non)) pss_nil)
      (pss_cons (ps_set (i := 7) nd rfl (Or.inl rfl) (pe_op op_rep (pe_lst (pa_cons pe_int pa_nil)) (pv 2)))
      (pss_cons (ps_for po rfl (pi_zip (by rfl) T.n_zip (pa_cons (pv 3) (pa_cons (pv 4) pa_nil))) (pg_tup rfl (pgs_cons (pg_name (i := 5) nd rfl (Or.inl rfl)) (pgs_cons (pg_name (i := 8) nd rfl (Or.inl rfl)) pgs_nil)))
        (pss_one (ps_asg (pe_ix ix_list (pv 5) (pv 2) (fun _ _ => rfl)) (pg_sub (pv 7) (pv 8) set_list))))
      (pss_one (ps_ret (pv 7))))))))), ?_⟩
    refine ⟨_, rfl, by decide, fun l hl => ?_⟩
    have g := same_upd (o := .lst ([] : List V)) hl
    refine ⟨_, _, .lst (g.seq hA) (dp_tab (hT.same g)), .lst (SqL.of upd_same) .nil, shaped_tab R, by decide +kernel, _, rfl, ?_⟩
    rw [eqv_tab_nil]
    refine itd (fun h0 => ⟨by decide, fun p hp => kN h0 _ p (g.trans (same_upd hp)) upd_same⟩) (fun h0 => ?_)
    have h1 : 0 < R.length := by
      cases R with
      | nil => exact absurd rfl h0
      | cons _ _ => exact Nat.succ_pos _
    obtain ⟨r, a1, a2, a3⟩ := hT.at h1
    have wr := hW.ro h1
    have hT1 := hT.same g
    have hA1 := g.seq hA
    have hY1 := g.seq hY
    have g3 := g _ _ a3
    have hwl := hT.len
    generalize upd H l (.lst []) = H1 at g hT1 hA1 hY1 g3 ⊢
    -- unknowns
    refine ⟨_, rfl, a, _, _, .ref r, rfl, rfl, hA1, at_nat (j := 0) rfl a1, r, _, rfl, .inl (SqL.of g3), ?_⟩
    rw [List.length_map, wr]
    -- the augmented rows
    refine ⟨_, rfl, _, rfl, a, b, ws, ys.map vg, rfl, hA1, hY1, fun D hD => lc_it (walk_zip (n := R.length) (by rw [List.length_map]; omega)) (fun i H' => Same H1 H' ∧ ∃ us, H' D = some (.lst us) ∧ TabV H' [D] us ((augT R ys).take i)) ⟨same_upd hD, [], upd_same, .nil⟩ (fun i H' _ ⟨e, _⟩ => ⟨e.seq hA1, e.seq hY1⟩) ?_ ?_⟩
    · rintro i x H2 H3 hi ⟨e, us, hDl, hU⟩ ⟨T1, u, v, rfl, hT', rfl, hu, hv⟩
      obtain ⟨q, c1, c2, c3⟩ := hT1.at hi
      obtain rfl : V.ref q = u := Option.some.inj (c1.symm.trans hu)
      obtain ⟨hq, rfl⟩ := get_vg hv
      have nD : T1 ≠ D := ne_of_some hDl hT'
      have e2 := e.trans (same_upd (o := .tup [V.ref q, vg (co ys i)]) hT')
      have hul := hU.len
      rw [List.length_take, augT_len] at hul
      refine ⟨T1, _, rfl, SqT.of upd_same, rfl, _, _, rfl, _, _, rfl, rfl, rfl, ?_⟩
      dsimp only [tYes]
      try rw [if_pos rfl]
      have hl9 : (ro R i).length = wd := hW.ro hi
      refine ⟨_, rfl, q, _, rfl, .inr (SqL.of (e2 _ _ c3)), _, rfl, (by show _ ≤ sizeLine; exact Nat.le_of_lt (small (by simp; omega))), fun p hp => ?_⟩
      have hDl2 : (upd H2 T1 (.tup [V.ref q, vg (co ys i)])) D = some (.lst us) := upd_keep hDl (fun z => nD z.symm)
      have npD : p ≠ D := ne_of_some hDl2 hp
      refine ⟨us, upd_keep hDl2 (fun z => npD z.symm), small (by omega), same_new (e2.trans (same_upd hp)) hD, _, upd_same, ?_⟩
      rw [augT_take R ys hi]
      refine (((hU.same (same_upd hT')).same (same_upd hp)).put (l := D) (by simp)).snoc (by simpa using npD) (upd_keep ?_ npD)
      rw [upd_same, List.map_append]
      rfl
    · rintro H5 ⟨e5, us, hDl, hU⟩
      rw [show R.length = (augT R ys).length from (augT_len R ys).symm, List.take_length] at hU
      refine ⟨_, rfl, D, [D], us, augT R ys, wd + 1, wd, rfl, SqL.of hDl, hU, augT_wid hW ys, by omega, by omega, by rw [augT_len]; omega, fun H6 u tb pb ws' ps T e6 hu hB hT6 hTl hTW hP hE hR hQ => ?_⟩
      have e16 := e5.trans e6
      refine ⟨u, _, rfl, SqT.of hu, rfl, _, _, rfl, _, _, rfl, rfl, ?_⟩
      -- any(..)
      have hpl : (pvV ps).length = ps.length := List.length_map _
      have hwT := hT6.len
      have hRl := augT_len R ys
      have Em := g.trans e16
      refine ⟨_, rfl, _, rfl, pb, _, rfl, .inl (SqL.of hP), _, rfl, tb, _, rfl, SqL.of hB, fun sl hsl => ?_⟩
      rw [hpl, cut_fromN]
      have f6 := same_upd (o := .lst (ws'.drop ps.length)) hsl
      have tb7 := (GX.Sm.of (Em.trans f6)).tab _ tb0
      have hT7 := hT6.same f6
      have hB7 := f6 _ _ hB
      have hP7 := f6 _ _ hP
      have hS7 : (upd H6 sl (.lst (ws'.drop ps.length))) sl = some (.lst (ws'.drop ps.length)) := upd_same
      have Em7 := GX.Sm.of (Em.trans f6)
      generalize upd H6 sl (.lst (ws'.drop ps.length)) = H7 at f6 tb7 hT7 hB7 hP7 hS7 Em7 ⊢
      refine ⟨sl, rfl, ⟨_, SqL.of hS7⟩, tb7, GX.gen_listQ (st := true) (xs := ws'.drop ps.length) (fun i H' => GX.Sm H7 H' ∧ ∀ k, k < i → co (ro T (ps.length + k)) wd = 0) (fun H2 t2 => ⟨GX.Sm.tabbed tb7 t2, fun _ h => absurd h (Nat.not_lt_zero _)⟩) (fun i H' _ e => e.1.seq (SqL.of hS7)) ?_ ?_⟩
      · rintro i x H8 hx ⟨e8, hz8⟩
        have hi : ps.length + i < T.length := by
          have := (List.getElem?_eq_some_iff.mp hx).1
          rw [List.length_drop] at this
          omega
        obtain ⟨q, c1, c2, c3⟩ := hT7.at hi
        rw [List.getElem?_drop] at hx
        obtain rfl : V.ref q = x := Option.some.inj (c1.symm.trans hx)
        have hwq := hTW.ro hi
        refine ⟨_, rfl, _, rfl, q, _, _, vg (co (ro T (ps.length + i)) wd), rfl, rfl, SqL.of (e8.l c3), at_nat (j := wd) rfl (vg_get (by omega)), rfl, _, rfl, itnV (fun h => ?_) (fun h => ?_)⟩
        · exact ⟨true, rfl, iteT (kI h0 _ ps T (ps.length + i) (GX.Sm.trans Em7 e8) hE hQ (by omega) hi (fun z => h (by rw [z]; rfl)))⟩
        · refine ⟨e8, fun k hk => ?_⟩
          rcases Nat.lt_or_ge k i with z | z
          · exact hz8 k z
          · rw [show k = i by omega]
            exact vg_zero h
      · rintro H8 ⟨e8, hz8⟩
        rw [List.length_drop] at hz8
        have hz9 : ∀ k, ps.length ≤ k → k < T.length → co (ro T k) wd = 0 := fun k h1 h2 => by
          have := hz8 (k - ps.length) (by omega)
          rwa [show ps.length + (k - ps.length) = k by omega] at this
        refine ⟨false, rfl, iteF ?_⟩
        -- solution
        refine ⟨by decide, fun l1 hl1 => ⟨_, rfl, l1, _, _, rfl, rfl, upd_same, by omega, by omega, smallE (by simp; omega), fun sp hsp => ?_⟩⟩
        rw [show (wd : Int).toNat = wd by omega, flat_zero]
        have g8 := GX.Sm.trans e8 (GX.Sm.of (same_upd (o := .lst [V.int 0]) hl1))
        generalize upd H8 l1 (.lst [V.int 0]) = HB at g8 hsp ⊢
        have hT9 := hT7.sm g8
        have hB9 := g8.l hB7
        have hP9 := g8.l hP7
        have hle := hE.le
        have e9 : GX.Sm HB (upd HB sp (.lst ((tab wd fun _ => 0).map vg))) := GX.Sm.of (same_upd hsp)
        refine ⟨_, rfl, _, rfl, tb, pb, ws', pvV ps, rfl, e9.seq (SqL.of hB9), e9.seq (SqL.of hP9), for_it (walk_zip (K := K) (a := tb) (b := pb) (xs := ws') (ys := pvV ps) (n := ps.length) (by rw [hpl]; omega)) (fun i σ H' => GX.Sm HB H' ∧ ∃ (sl : List G) (v5 v8 : Option V), H' sp = some (.lst (sl.map vg)) ∧ sl.length = wd ∧ (∀ j, j < i → co sl (ps.getD j 0) = co (ro T j) wd) ∧ (∀ k, (∀ j, j < i → ps.getD j 0 ≠ k) → co sl k = 0) ∧ σ = stS a b wd tb pb v5 sp v8)
          ⟨e9, tab wd fun _ => 0, none, none, upd_same, tab_len _ _, fun _ h => absurd h (Nat.not_lt_zero _), fun k _ => by rw [tab_co]; split <;> rfl, rfl⟩ (fun i σ H' _ ⟨e, _⟩ => ⟨e.seq (SqL.of hB9), e.seq (SqL.of hP9)⟩) ?_ ?_⟩
        · rintro i x σ HC HC' hi ⟨eC, sl, v5, v8, hS, hsw, hs1, hs2, rfl⟩ ⟨T1, u, v, rfl, hT', rfl, hu, hv⟩
          obtain ⟨q, c1, c2, c3⟩ := hT9.at (k := i) (by omega)
          obtain rfl : V.ref q = u := Option.some.inj (c1.symm.trans hu)
          obtain rfl : V.int ((ps.getD i 0 : Nat) : Int) = v := Option.some.inj ((pvV_at hi).symm.trans hv)
          have nT : T1 ≠ sp := ne_of_some hS hT'
          have hwq := hTW.ro (k := i) (by omega)
          have hpi := hE.lt i hi
          have eT := GX.Sm.of (same_upd (o := .tup [V.ref q, V.int ((ps.getD i 0 : Nat) : Int)]) hT')
          have hS2 : (upd HC T1 (.tup [V.ref q, V.int ((ps.getD i 0 : Nat) : Int)])) sp = some (.lst (sl.map vg)) := upd_keep hS (fun z => nT z.symm)
          refine ⟨T1, _, rfl, SqT.of upd_same, rfl, _, _, rfl, _, _, rfl, rfl, ?_⟩
          refine ⟨_, rfl, _, rfl, q, _, _, vg (co (ro T i) wd), rfl, rfl, SqL.of (eT.l (eC.l c3)), at_nat (j := wd) rfl (vg_get (by omega)), _, rfl, _, rfl, sp, _, _, ps.getD i 0, rfl, rfl, hS2, ix_nat rfl (by rw [List.length_map]; omega), ?_⟩
          refine ⟨sm_putN (GX.Sm.trans eC eT) hsp hS2, sl.set (ps.getD i 0) (co (ro T i) wd), some _, some _, by rw [upd_same, List.map_set], by rw [List.length_set]; exact hsw, fun j hj => ?_, fun k hk => ?_, rfl⟩
          · rw [set_co _ _ _ (by omega)]
            rcases Nat.lt_or_ge j i with z | z
            · have := hE.inc j i z hi
              rw [if_neg (by omega)]
              exact hs1 j z
            · rw [show j = i by omega, if_pos rfl]
          · rw [set_co _ _ _ (by omega), if_neg (fun z => hk i (by omega) z.symm)]
            exact hs2 k fun j hj => hk j (by omega)
        · rintro σ HC ⟨eC, sl, v5, v8, hS, hsw, hs1, hs2, rfl⟩
          refine ⟨_, rfl, kS h0 HC sp sl (GX.Sm.trans Em7 (GX.Sm.trans g8 eC)) hS hsw fun k hk => ?_⟩
          have h2 := red_sol (s := co sl) hE hR hs1 hs2 hz9
          have h3 := Spn.van h2 ((hQ _).mpr (Spn.of_mem (ro_mem (t := augT R ys) (k := k) (by rw [augT_len]; exact hk))))
          have h4 := Fn_zero h3
          have hwk := hW.ro hk
          rw [augT_ro hk] at h4
          rw [app_co hwk, if_neg (Nat.lt_irrefl _), if_pos rfl] at h4
          rw [← h4]
          exact gs_congr fun j hj => by rw [app_co hwk, if_pos hj]

-- @@CUT
def spLRank (K : PySem.W.Frag) : Sp := fun vs H Q _ => ∃ (a : Addr) (L : List Addr) (ws : List V) (R : List (List G)) (w : Nat), vs = [.ref a] ∧ SqL K H a ws ∧ TabV H L ws R ∧ Wid R w ∧ w ≤ 1000 ∧ R.length ≤ 1000 ∧ R ≠ [] ∧
  ∀ H' ps T, Same H H' → Ech T ps w → Eqs T R → Q (.int (ps.length : Int)) H'
@[reducible] def stK (a D : Addr) (v2 : Option V) (m : Nat) (v4 v5 v6 v7 v8 : Option V) : L2.St := [some (.ref a), some (.ref D), v2, some (.int (m : Int)), v4, v5, v6, v7, v8, none, none]
theorem ok__law_rank (T : Txt K mg C_InvalidSymbol c_solve_system P_solve_system) : Ok P w K mg base CX0 2 "_law_rank" ["rows"] (spLRank K) := by
  have G__law_times := ok__law_times (P := P) (w := w) (base := base) T
  refine ok_of T.d__law_rank fun f fd F => F.ok sc__law_rank (fun vs H Q E h => ?_) (fun cdv A outer s H vs Q E hr h => ?_)
  · obtain ⟨a, L, ws, R, w, rfl, _⟩ := h
    rfl
  · obtain ⟨a, L, ws, R, wd, rfl, hA, hT, hW, hwd, hz, hne, kQ⟩ := h
    have nd := sc__law_rank.nd
    refine ⟨_,       (pss_cons (ps_setLc (i := 1) (own := [("line", 2)]) (g := gName 2) (tt := tYes) rfl nd rfl rfl (sw_true rfl rfl rfl (by decide +kernel)) (pi_list (pv 0)) (blkOk_by (N := N__law_rank) (sc := defScope s__law_rank) (by decide +kernel)) (fun _ _ _ _ _ => (pg_name (i := 2) nd rfl (Or.inl rfl))) (fun _ _ _ _ _ => pts_nil) (fun _ _ _ _ _ => (pe_callTy (TK.call_list_ofK (K := K)) (by rfl) T.n_list (by decide +kernel) (pa_cons (pv 2) pa_nil))))
      (pss_cons (ps_set (i := 3) nd rfl (Or.inl rfl) pe_int)
      (pss_cons (ps_for PassesOwn.never rfl (pi_range1 rfl T.n_range (pa_cons (pe_callB call_len_seq (by rfl) T.n_len PySem.boot_len (pa_cons (pe_ix ix_list (pv 0) pe_int (fun _ _ => rfl)) pa_nil)) pa_nil)) (pg_name (i := 4) nd rfl (Or.inl rfl))
        (pss_cons (ps_set (i := 5) nd rfl (Or.inl rfl) (pe_un un_neg pe_int))
        (pss_cons (ps_for PassesOwn.never rfl (pi_range2 rfl T.n_range (pa_cons (pv 3) (pa_cons (pe_callB call_len_seq (by rfl) T.n_len PySem.boot_len (pa_cons (pv 1) pa_nil)) pa_nil))) (pg_name (i := 6) nd rfl (Or.inl rfl))
          (pss_one (ps_if (PW.pt (pw_and (pt_cmpR op_ne (pe_ix ix_list (pe_ix ix_list (pv 1) (pv 6) (fun _ _ => rfl)) (pv 4) (fun _ _ => rfl)) pe_int (nomark _)) (pw_and1 (pt_cmpR op_lt (pv 5) pe_int (nomark _)))))
            (pss_one (ps_set (i := 5) nd rfl (Or.inl rfl) (pv 6))) pss_nil)))
        (pss_one (ps_if (pt_cmpR op_ge (pv 5) pe_int (nomark _))
          (pss_cons (ps_set (i := 2) nd rfl (Or.inl rfl) (pe_ix ix_list (pv 1) (pv 5) (fun _ _ => rfl)))
          (pss_cons (ps_asg (pe_ix ix_list (pv 1) (pv 3) (fun _ _ => rfl)) (pg_sub (pv 1) (pv 5) set_list))
          (pss_cons (ps_asg (pv 2) (pg_sub (pv 1) (pv 3) set_list))
          (pss_cons (ps_for PassesOwn.never rfl (pi_range2 rfl T.n_range (pa_cons (pe_op op_add (pv 3) pe_int) (pa_cons (pe_callB call_len_seq (by rfl) T.n_len PySem.boot_len (pa_cons (pv 1) pa_nil)) pa_nil))) (pg_name (i := 6) nd rfl (Or.inl rfl))
            (pss_cons (ps_set (i := 7) nd rfl (Or.inr rfl) (pe_ix ix_list (pe_ix ix_list (pv 1) (pv 6) (fun _ _ => rfl)) (pv 4) (fun _ _ => rfl)))
            (pss_cons (ps_set (i := 8) nd rfl (Or.inr rfl) (pe_ix ix_list (pv 2) (pv 4) (fun _ _ => rfl)))
            (pss_one (ps_asg (pe_lc (own := [("x", 9), ("y", 10)]) (g := _) (tt := tYes) rfl nd (pi_zip (by rfl) T.n_zip (pa_cons (pe_ix ix_list (pv 1) (pv 6) (fun _ _ => rfl)) (pa_cons (pv 2) pa_nil))) (blkOk_by (N := N__law_rank) (sc := defScope s__law_rank) (by decide +kernel)) (fun _ _ _ _ _ => (TK.pg_tupK (K := K) (n := 2) rfl rfl (pgs_cons (pg_name (i := 9) nd rfl (Or.inl rfl)) (pgs_cons (pg_name (i := 10) nd rfl (Or.inl rfl)) pgs_nil)))) (fun _ _ _ _ _ => pts_nil) (fun _ _ _ _ _ => (pe_op op_xor (pe_callO G__law_times (hr.mono (by decide)) pass0 (pa_cons (pv 8) (pa_cons (pv 9) pa_nil))) (pe_callO G__law_times (hr.mono (by decide)) pass0 (pa_cons (pv 7) (pa_cons (pv 10) pa_nil)))))) (pg_sub (pv 1) (pv 6) set_list))))))
          (pss_one (ps_set (i := 3) nd rfl (Or.inl rfl) (pe_op op_add (pv 3) pe_int))))))) pss_nil)))))
      (pss_one (ps_ret (pv 3)))))), ?_⟩
    have h1 : 0 < R.length := by
      cases R with
      | nil => exact absurd rfl hne
      | cons _ _ => exact Nat.succ_pos _
    have hwl := hT.len
    refine ⟨_, rfl, a, rfl, ⟨_, hA⟩, fun D hD => lc_list (K := K) (a := a) (xs := ws) (fun i H' => Same H H' ∧ ∃ us, H' D = some (.lst us) ∧ TabV H' [D] us (R.take i)) ⟨same_upd hD, [], upd_same, .nil⟩ (fun i H' _ ⟨e, _⟩ => e.seq hA) ?_ ?_⟩
    · rintro i x H' hx ⟨e, us, hDl, hU⟩
      have hi : i < R.length := by
        have := (List.getElem?_eq_some_iff.mp hx).1
        omega
      obtain ⟨r, c1, c2, c3⟩ := hT.at hi
      obtain rfl : V.ref r = x := Option.some.inj (c1.symm.trans hx)
      have hul := hU.len
      rw [List.length_take] at hul
      refine ⟨rfl, ?_⟩
      dsimp only [tYes]
      try rw [if_pos rfl]
      refine ⟨_, rfl, r, _, rfl, .inl (SqL.of (e _ _ c3)), fun l hl => ?_⟩
      have nD : l ≠ D := ne_of_some hDl hl
      refine ⟨us, upd_keep hDl (fun z => nD z.symm), small (by omega), same_new (e.trans (same_upd hl)) hD, _, upd_same, ?_⟩
      rw [take_snoc hi, ← ro_in hi]
      exact ((hU.same (same_upd hl)).put (l := D) (by simp)).snoc (by simpa using nD) (upd_keep upd_same nD)
    · rintro H1 ⟨e1, us, hDl, hU⟩
      rw [hwl, List.take_length] at hU
      obtain ⟨r, a1, a2, a3⟩ := hT.at h1
      have wr := hW.ro h1
      refine ⟨_, rfl, a, _, _, .ref r, rfl, rfl, e1.seq hA, at_nat (j := 0) rfl a1, r, _, rfl, .inl (SqL.of (e1 _ _ a3)), wd, by rw [List.length_map, wr], by omega, by omega, ?_⟩
      refine for_range (lo := 0) (n := wd) (fun i σ H' => Same H H' ∧ ∃ (ws : List V) (T : List (List G)) (ps : List Nat) (v2 v4 v5 v6 v7 v8 : Option V), H' D = some (.lst ws) ∧ TabV H' [D] ws T ∧ T.length = R.length ∧ Wid T wd ∧ Ech T ps i ∧ Eqs T R ∧ σ = stK a D v2 ps.length v4 v5 v6 v7 v8)
        ⟨e1, us, R, [], none, none, none, none, none, none, hDl, hU, rfl, hW, Ech.start R, fun _ => Iff.rfl, rfl⟩ ?_ ?_
      · clear hU hDl us
        rintro i σ H2 hi ⟨e2, ws2, T, ps, v2, v4, v5, v6, v7, v8, hDl, hU, hTl, hTW, hE, hQ, rfl⟩
        have hi0 : (0 : Int) + (i : Int) = (i : Int) := by omega
        have hul := hU.len
        have hle := hE.le
        -- place
        refine ⟨_, rfl, ?_⟩
        refine ⟨_, rfl, _, rfl, D, _, rfl, .inl (SqL.of hDl), _, _, rfl, ⟨by omega, by omega, by rw [hul]; omega, by rw [hul]; omega⟩, ?_⟩
        rw [hul, show ((T.length : Int) - (ps.length : Int)).toNat = T.length - ps.length by omega]
        refine for_range (lo := (ps.length : Int)) (n := T.length - ps.length) (fun j σ H' => H2 = H' ∧ ∃ (pl : Int) (v6 : Option V), ((pl = -1 ∧ ∀ k, ps.length ≤ k → k < ps.length + j → co (ro T k) i = 0) ∨ ∃ p : Nat, pl = (p : Int) ∧ ps.length ≤ p ∧ p < T.length ∧ co (ro T p) i ≠ 0) ∧ σ = stK a D v2 ps.length (some (.int (0 + (i : Int)))) (some (.int pl)) v6 v7 v8)
          ⟨rfl, -1, v6, .inl ⟨rfl, fun k h1 h2 => absurd h1 (by omega)⟩, rfl⟩ ?_ ?_
        · rintro j σ H' hj ⟨rfl, pl, v6', hp, rfl⟩
          obtain ⟨q, b1, b2, b3⟩ := hU.at (k := ps.length + j) (by omega)
          have hwq := hTW.ro (k := ps.length + j) (by omega)
          refine ⟨_, rfl, _, rfl, D, _, _, .ref q, rfl, rfl, SqL.of hDl, at_nat (j := ps.length + j) (by omega) b1, _, rfl, q, _, _, vg (co (ro T (ps.length + j)) i), rfl, rfl, SqL.of b3, at_nat (j := i) hi0 (vg_get (by omega)), rfl, _, rfl, ?_⟩
          refine itnV (fun h => ?_) (fun h => ?_)
          · refine ⟨_, rfl, _, _, rfl, rfl, _, rfl, itd (fun h2 => ?_) (fun h2 => ?_)⟩
            · refine ⟨_, rfl, rfl, ((ps.length + j : Nat) : Int), some (.int ((ps.length : Int) + (j : Int))), .inr ⟨ps.length + j, rfl, by omega, by omega, fun z => h (by rw [z]; rfl)⟩, ?_⟩
              rw [Int.natCast_add]
              rfl
            · rcases hp with ⟨rfl, hp⟩ | hp
              · exact absurd h2 (by decide)
              · exact ⟨rfl, pl, _, .inr hp, rfl⟩
          · refine ⟨rfl, pl, _, ?_, rfl⟩
            rcases hp with ⟨rfl, hp⟩ | hp
            · refine .inl ⟨rfl, fun k h1 h2 => ?_⟩
              rcases Nat.lt_or_ge k (ps.length + j) with z | z
              · exact hp k h1 z
              · rw [show k = ps.length + j by omega]
                exact vg_zero h
            · exact .inr hp
        · rintro σ H' ⟨rfl, pl, v6', hp, rfl⟩
          refine ⟨_, rfl, _, _, rfl, rfl, _, rfl, itd (fun h => ?_) (fun h => ?_)⟩
          · rcases hp with ⟨rfl, _⟩ | ⟨p, rfl, hp1, hp2, hp3⟩
            · exact absurd h (by decide)
            obtain ⟨m, hm⟩ : ∃ m, m = ps.length := ⟨_, rfl⟩
            have hmT : ps.length < T.length := Nat.lt_of_le_of_lt hp1 hp2
            obtain ⟨rp, b1, b2, b3⟩ := hU.at hp2
            obtain ⟨rt, c1, c2, c3⟩ := hU.at hmT
            have hwp := hTW.ro hp2
            have hD0 : H D = none := hD
            -- line, the exchange
            refine ⟨_, rfl, _, rfl, D, _, _, .ref rp, rfl, rfl, SqL.of hDl, at_nat rfl b1, ?_⟩
            refine ⟨_, rfl, _, rfl, D, _, _, .ref rt, rfl, rfl, SqL.of hDl, at_nat rfl c1, _, rfl, _, rfl, D, _, _, p, rfl, rfl, hDl, ix_nat rfl (by omega), ?_⟩
            have hU3 := (hU.put (l := D) (o := .lst (ws2.set p (V.ref rt))) (by simp)).set (r := rt) (row := ro T ps.length) c2 (upd_keep c3 (fun z => c2 (by simp [z]))) p
            refine ⟨_, rfl, _, rfl, _, rfl, D, _, _, ps.length, rfl, rfl, upd_same, ix_nat rfl (by rw [List.length_set]; omega), ?_⟩
            have hU4 := (hU3.put (l := D) (o := .lst ((ws2.set p (V.ref rt)).set ps.length (V.ref rp))) (by simp)).set (r := rp) (row := ro T p) b2 (upd_keep (upd_keep b3 (fun z => b2 (by simp [z]))) (fun z => b2 (by simp [z]))) ps.length
            rw [lstep_zero (n := i) hmT hp2] at hU4
            have e4 := same_new (o := .lst ((ws2.set p (V.ref rt)).set ps.length (V.ref rp))) (same_new (o := .lst (ws2.set p (V.ref rt))) e2 hD0) hD0
            have hD4 : (upd (upd H2 D (.lst (ws2.set p (V.ref rt)))) D (.lst ((ws2.set p (V.ref rt)).set ps.length (V.ref rp)))) D = some (.lst ((ws2.set p (V.ref rt)).set ps.length (V.ref rp))) := upd_same
            have hL4 : (upd (upd H2 D (.lst (ws2.set p (V.ref rt)))) D (.lst ((ws2.set p (V.ref rt)).set ps.length (V.ref rp)))) rp = some (.lst ((ro T p).map vg)) := upd_keep (upd_keep b3 (fun z => b2 (by simp [z]))) (fun z => b2 (by simp [z]))
            have hl4 : ((ws2.set p (V.ref rt)).set ps.length (V.ref rp)).length = T.length := by rw [List.length_set, List.length_set]; exact hul
            generalize upd (upd H2 D (.lst (ws2.set p (V.ref rt)))) D (.lst ((ws2.set p (V.ref rt)).set ps.length (V.ref rp))) = H4 at hU4 e4 hD4 hL4 ⊢
            generalize (ws2.set p (V.ref rt)).set ps.length (V.ref rp) = ws4 at hU4 hD4 hl4
            refine ⟨_, rfl, _, _, rfl, rfl, _, rfl, D, _, rfl, .inl (SqL.of hD4), _, _, rfl, ⟨by omega, by omega, by rw [hl4]; omega, by rw [hl4]; omega⟩, ?_⟩
            rw [hl4, show ((T.length : Int) - ((ps.length : Int) + 1)).toNat = T.length - (ps.length + 1) by omega]
            refine for_range (lo := (ps.length : Int) + 1) (n := T.length - (ps.length + 1)) (fun j σ H' => Same H H' ∧ H' rp = some (.lst ((ro T p).map vg)) ∧ ∃ (ws : List V) (v6 v7 v8 : Option V), H' D = some (.lst ws) ∧ TabV H' [D] ws (lstep T ps.length p i (ps.length + 1 + j)) ∧ σ = stK a D (some (.ref rp)) ps.length (some (.int (0 + (i : Int)))) (some (.int (p : Int))) v6 v7 v8)
              ⟨e4, hL4, ws4, v6', v7, v8, hD4, hU4, rfl⟩ ?_ ?_
            · rintro j σ H5 hj ⟨e5, hL5, ws5, v6, v7, v8, hD5, hU5, rfl⟩
              have hk : ps.length + 1 + j < T.length := by omega
              have hkl : ps.length + 1 + j < (lstep T ps.length p i (ps.length + 1 + j)).length := by rw [lstep_len]; exact hk
              have hz5 : (ps.length : Int) + 1 + (j : Int) = ((ps.length + 1 + j : Nat) : Int) := by omega
              have hul5 := hU5.len
              rw [lstep_len] at hul5
              obtain ⟨rk, d1, d2, d3⟩ := hU5.at hkl
              have hwk : (ro (lstep T ps.length p i (ps.length + 1 + j)) (ps.length + 1 + j)).length = wd := by
                rw [lstep_ro hk]
                unfold lrow
                rw [if_neg (show ¬ (ps.length + 1 + j = ps.length) by omega), if_neg (show ¬ (ps.length < ps.length + 1 + j ∧ ps.length + 1 + j < ps.length + 1 + j) by omega)]
                unfold srow
                split
                · exact hTW.ro hmT
                · exact hTW.ro hk
              have hsucc := lstep_succ (t := T) (m := ps.length) (p := p) (n := i) (i := ps.length + 1 + j) hk (by omega)
              generalize lstep T ps.length p i (ps.length + 1 + j) = T5 at hU5 hkl d3 hwk hsucc
              have nrp : rp ≠ D := fun z => b2 (by simp [z])
              -- a, b
              refine ⟨_, rfl, _, rfl, D, _, _, .ref rk, rfl, rfl, SqL.of hD5, at_nat hz5 d1, _, rfl, rk, _, _, vg (co (ro T5 (ps.length + 1 + j)) i), rfl, rfl, SqL.of d3, at_nat (j := i) hi0 (vg_get (by omega)), ?_⟩
              refine ⟨_, rfl, _, rfl, rp, _, _, vg (co (ro T p) i), rfl, rfl, SqL.of hL5, at_nat (j := i) hi0 (vg_get (by omega)), ?_⟩
              -- the new row
              refine ⟨_, rfl, _, rfl, D, _, _, .ref rk, rfl, rfl, SqL.of hD5, at_nat hz5 d1, _, rfl, rk, rp, _, _, rfl, SqL.of d3, SqL.of hL5, fun N hN => lc_it (walk_zip (n := wd) (by rw [List.length_map, List.length_map]; omega)) (fun t H' => Same H5 H' ∧ H' N = some (.lst ((tab t fun c => ga (gm (co (ro T p) i) (co (ro T5 (ps.length + 1 + j)) c)) (gm (co (ro T5 (ps.length + 1 + j)) i) (co (ro T p) c))).map vg))) ⟨same_upd hN, upd_same⟩ (fun t H' _ ⟨e, _⟩ => ⟨e.seq (SqL.of d3), e.seq (SqL.of hL5)⟩) ?_ ?_⟩
              · rintro t x H6 H7 ht ⟨e6, hN6⟩ ⟨T1, u, v, rfl, hT', rfl, hu, hv⟩
                obtain ⟨_, rfl⟩ := get_vg hu
                obtain ⟨_, rfl⟩ := get_vg hv
                have nT : T1 ≠ N := ne_of_some hN6 hT'
                have e7 := e6.trans (same_upd (o := .tup [vg (co (ro T5 (ps.length + 1 + j)) t), vg (co (ro T p) t)]) hT')
                have hN7 := upd_keep (q := .tup [vg (co (ro T5 (ps.length + 1 + j)) t), vg (co (ro T p) t)]) hN6 (fun z => nT z.symm)
                refine ⟨T1, _, rfl, SqT.of upd_same, rfl, _, _, rfl, _, _, rfl, rfl, rfl, ?_⟩
                dsimp only [tYes]
                try rw [if_pos rfl]
                refine ⟨_, rfl, _, rfl, co (ro T p) i, co (ro T5 (ps.length + 1 + j)) t, rfl, fun Ha ea => ?_⟩
                refine ⟨_, rfl, _, rfl, co (ro T5 (ps.length + 1 + j)) i, co (ro T p) t, rfl, fun Hb eb => ?_⟩
                have eab := ea.trans eb
                refine ⟨_, _, rfl, rfl, _, eab _ _ hN7, small (by rw [List.length_map, tab_len]; omega), same_new (e7.trans eab) hN, ?_⟩
                rw [upd_same, tab_suc, List.map_append]
                show some (HO.lst (_ ++ [V.int (Builtin.bitXor (gi (gm _ _)) (gi (gm _ _)))])) = _
                rw [vg_xor]
                rfl
              · rintro H6 ⟨e6, hN6⟩
                have nND : N ≠ D := fun z => by rw [z, hD5] at hN; cases hN
                refine ⟨_, rfl, _, rfl, D, _, _, ps.length + 1 + j, rfl, by show V.int _ = V.int _; rw [hz5], e6 _ _ hD5, ix_nat rfl (by omega), ?_⟩
                have hcr : combR (co (ro T p) i) (co (ro T5 (ps.length + 1 + j)) i) (ro T5 (ps.length + 1 + j)) (ro T p) = tab wd fun c => ga (gm (co (ro T p) i) (co (ro T5 (ps.length + 1 + j)) c)) (gm (co (ro T5 (ps.length + 1 + j)) i) (co (ro T p) c)) := by
                  unfold combR
                  rw [hwk]
                rw [← hcr] at hN6
                have hU6 := ((hU5.same e6).put (l := D) (o := .lst (ws5.set (ps.length + 1 + j) (V.ref N))) (by simp)).set (r := N) (row := combR (co (ro T p) i) (co (ro T5 (ps.length + 1 + j)) i) (ro T5 (ps.length + 1 + j)) (ro T p)) (by simpa using nND) (upd_keep hN6 nND) (ps.length + 1 + j)
                rw [hsucc] at hU6
                exact ⟨same_new (e5.trans e6) hD0, upd_keep (e6 _ _ hL5) nrp, _, some _, some _, some _, upd_same, hU6, rfl⟩
            · rintro σ H5 ⟨e5, hL5, ws5, v6, v7, v8, hD5, hU5, rfl⟩
              rw [show ps.length + 1 + (T.length - (ps.length + 1)) = T.length by omega] at hU5
              obtain ⟨k1, k2, k3⟩ := lstep_ok hTW hE hp1 hp2 hp3
              refine ⟨_, rfl, _, _, rfl, rfl, ?_⟩
              refine ⟨e5, ws5, lstep T ps.length p i T.length, ps ++ [i], some (.ref rp), some (.int (0 + (i : Int))), some (.int (p : Int)), v6, v7, v8, hD5, hU5, (lstep_len ..).trans hTl, k1, k2, k3.tr hQ, ?_⟩
              rw [List.length_append, List.length_singleton]
              rfl
          · rcases hp with ⟨rfl, hp⟩ | ⟨p, rfl, _⟩
            · exact ⟨e2, ws2, T, ps, v2, some _, some _, v6', v7, v8, hDl, hU, hTl, hTW, hE.skip fun k h1 h2 => hp k h1 (by omega), hQ, rfl⟩
            · exact absurd h (by omega)
      · rintro σ H2 ⟨e2, ws2, T, ps, v2, v4, v5, v6, v7, v8, hDl, hU, hTl, hTW, hE, hQ, rfl⟩
        exact ⟨_, rfl, kQ H2 ps T e2 hE hQ⟩

-- @@CUT
def quart (x : G) : G := if x.val < 4 then x else 0
theorem quart_at (x : G) : V.int (gi x * (if decide (gi x < 4) = true then 1 else 0)) = vg (quart x) := by
  revert x
  decide +kernel
def spRows (K : PySem.W.Frag) : Sp := fun vs H Q _ => ∃ (a : Addr) (ns : List Int) (h w : Nat), vs = [.ref a, .int (h : Int), .int (w : Int)] ∧ SqL K H a (ns.map V.int) ∧ h ≤ 50 ∧ w ≤ 50 ∧
  ∀ H' D us R, Same H H' → H' D = some (.lst us) → TabV H' [D] us R → R.length = h → Wid R w → Q (.ref D) H'
def MidW (H H' : Hp) (D : Addr) (us : List V) (R : List (List G)) (wd : Nat) (ln : Addr) (row : List G) : Prop := Same H H' ∧ H' D = some (.lst us) ∧ TabV H' [D] us R ∧ H' ln = some (.lst (row.map vg)) ∧ row.length = wd ∧ ln ≠ D
@[reducible] def stW (a : Addr) (h w : Nat) (D : Addr) (v4 v5 v6 : Option V) : L2.St := [some (.ref a), some (.int (h : Int)), some (.int (w : Int)), some (.ref D), v4, v5, v6, none, none, none]
theorem ok__law_rows (T : Txt K mg C_InvalidSymbol c_solve_system P_solve_system) : Ok P w K mg base CX0 3 "_law_rows" ["script", "height", "width"] (spRows K) := by
  have G__law_times := ok__law_times (P := P) (w := w) (base := base) T
  have G__law_cell := ok__law_cell (P := P) (w := w) (base := base) T
  have G__law_row := ok__law_row (P := P) (w := w) (base := base) T
  refine ok_of T.d__law_rows fun f fd F => F.ok sc__law_rows (fun vs H Q E h => ?_) (fun cdv A outer s H vs Q E hr h => ?_)
  · obtain ⟨a, ns, h, w, rfl, _⟩ := h
    rfl
  · obtain ⟨a, ns, ht, wd, rfl, hS, hht, hwd, kQ⟩ := h
    have nd := sc__law_rows.nd
    refine ⟨_,       (pss_cons (ps_set (i := 3) nd rfl (Or.inl rfl) (pe_lst pa_nil))
      (pss_cons (ps_for PassesOwn.never rfl (pi_range1 rfl T.n_range (pa_cons (pv 1) pa_nil)) (pg_name (i := 4) nd rfl (Or.inl rfl))
        (pss_cons (ps_set (i := 5) nd rfl (Or.inl rfl) (pe_callO G__law_cell (hr.mono (by decide)) pass0 (pa_cons (pv 0) (pa_cons (pe_op op_add pe_int (pv 4)) pa_nil))))
        (pss_cons (ps_set (i := 6) nd rfl (Or.inl rfl) (pe_callO G__law_row (hr.mono (by decide)) pass0 (pa_cons (pe_op op_fdiv (pv 5) pe_int) (pa_cons (pv 2) (pa_cons pe_int pa_nil)))))
        (Evl.pss_cut (ps_if (pt_cmpR op_lt (pe_op op_mod (pv 5) pe_int) pe_int (nomark _))
          (pss_one (ps_setLc (i := 6) (own := [("symbol", 7)]) (g := gName 7) (tt := tYes) rfl nd rfl rfl (sw_true rfl rfl rfl (by decide +kernel)) (pi_list (pv 6)) (blkOk_by (N := N__law_rows) (sc := defScope s__law_rows) (by decide +kernel)) (fun _ _ _ _ _ => (pg_name (i := 7) nd rfl (Or.inl rfl))) (fun _ _ _ _ _ => pts_nil) (fun _ _ _ _ _ => (pe_op op_mul (pv 7) (pe_callTy call_int1 (by rfl) T.n_int (by decide +kernel) (pa_cons (pe_cmpR op_lt (pv 7) pe_int (nomark _)) pa_nil)))))) pss_nil)
        (Evl.pss_cut (ps_if (PW.pt (pw_and (pt_cmpR op_eq (pe_op op_mod (pv 5) pe_int) pe_int (nomark _)) (pw_and1 (pt_cmpR op_gt (pv 4) pe_int (nomark _)))))
          (pss_one (ps_set (i := 6) nd rfl (Or.inl rfl) (pe_callTy call_list_of (by rfl) T.n_list (by decide +kernel) (pa_cons (pe_ix ix_list (pv 3) (pe_op op_mod (pe_op op_fdiv (pv 5) pe_int) (pv 4)) (fun _ _ => rfl)) pa_nil)))) pss_nil)
        (Evl.pss_cut (ps_if (PW.pt (pw_and (pt_cmpR op_eq (pe_op op_mod (pv 5) pe_int) pe_int (nomark _)) (pw_and1 (pt_cmpR op_gt (pv 4) pe_int (nomark _)))))
          (pss_one (ps_setLc (i := 6) (own := [("a", 8), ("b", 9)]) (g := _) (tt := tYes) rfl nd rfl rfl (sw_true rfl rfl rfl (by decide +kernel)) (pi_zip (by rfl) T.n_zip (pa_cons (pe_ix ix_list (pv 3) (pe_op op_sub (pv 4) pe_int) (fun _ _ => rfl)) (pa_cons (pe_ix ix_list (pv 3) (pe_op op_sub (pv 4) pe_int) (fun _ _ => rfl)) pa_nil))) (blkOk_by (N := N__law_rows) (sc := defScope s__law_rows) (by decide +kernel)) (fun _ _ _ _ _ => (TK.pg_tupK (K := K) (n := 2) rfl rfl (pgs_cons (pg_name (i := 8) nd rfl (Or.inl rfl)) (pgs_cons (pg_name (i := 9) nd rfl (Or.inl rfl)) pgs_nil)))) (fun _ _ _ _ _ => pts_nil) (fun _ _ _ _ _ => (pe_op op_xor (pv 8) (pe_callO G__law_times (hr.mono (by decide)) pass0 (pa_cons (pv 9) (pa_cons pe_int pa_nil))))))) pss_nil)
        (pss_one (ps_expr (pe_bm PySem.F.plainAttrs_list PySem.F.slot_list_append PySem.F.type_list_append mt_append (pv 3) (pa_cons (pv 6) pa_nil))))))))))
      (pss_one (ps_ret (pv 3))))), ?_⟩
    refine ⟨by decide, fun D hD => ?_⟩
    refine ⟨_, rfl, ht, rfl, by omega, by omega, ?_⟩
    refine for_range (lo := 0) (n := ht) (fun i σ H' => Same H H' ∧ ∃ (us : List V) (R : List (List G)) (v4 v5 v6 : Option V), H' D = some (.lst us) ∧ TabV H' [D] us R ∧ R.length = i ∧ Wid R wd ∧ σ = stW a ht wd D v4 v5 v6)
      ⟨same_upd hD, [], [], none, none, none, upd_same, .nil, rfl, (fun _ h => nomatch h), rfl⟩ ?_ ?_
    · rintro i σ H1 hi ⟨e1, us, R, v4, v5, v6, hDl, hU, hRl, hW, rfl⟩
      have hul := hU.len
      -- cell
      refine ⟨_, rfl, _, rfl, _, _, rfl, rfl, a, ns, 4 + i, by show [V.ref a, V.int (4 + (0 + (i : Int)))] = [V.ref a, V.int ((4 + i : Nat) : Int)]; congr 2; congr 1; omega, e1.seq hS, ?_⟩
      generalize cell ns (4 + i) = cl
      -- line
      refine ⟨_, rfl, _, _, rfl, rfl, ⟨by decide, by decide⟩, _, rfl, cl / 8, wd, 16, rfl, by omega, by decide, by decide, fun p H2 hp e2 hL => ?_⟩
      obtain ⟨gl, hgl⟩ := of_syms (l := rowL (cl / 8) wd 16) fun x hx => rowL_in (by decide) hx
      have hgc : gl.length = wd := by
        have := congrArg List.length hgl
        rw [rowL_len, List.length_map] at this
        omega
      rw [hgl, map_vg_int] at hL
      have M0 : MidW H H2 D us R wd p gl := ⟨e1.trans e2, e2 _ _ hDl, hU.same e2, hL, hgc, ne_of_some hDl hp⟩
      clear hL hgl hgc hp e2
      -- sparse
      refine ⟨fun σ' H' => ∃ ln row, MidW H H' D us R wd ln row ∧ σ' = stW a ht wd D (some (.int (0 + (i : Int)))) (some (.int cl)) (some (.ref ln)), ?_, ?_⟩
      · refine ⟨_, rfl, _, _, rfl, rfl, (by show (0 : Int) < 8; decide), _, _, rfl, rfl, _, rfl, itd (fun _ => ?_) (fun _ => ⟨p, gl, M0, rfl⟩)⟩
        obtain ⟨m1, m2, m3, m4, m5, m6⟩ := M0
        refine ⟨_, rfl, p, rfl, ⟨_, SqL.of m4⟩, fun N hN => lc_list (K := K) (a := p) (xs := gl.map vg) (fun j H' => Same H2 H' ∧ H' N = some (.lst (((gl.take j).map quart).map vg))) ⟨same_upd hN, upd_same⟩ (fun j H' _ ⟨e, _⟩ => SqL.of (e _ _ m4)) ?_ ?_⟩
        · rintro j x H' hx ⟨e, hNl⟩
          obtain ⟨hj, rfl⟩ := get_vg hx
          refine ⟨rfl, ?_⟩
          dsimp only [tYes]
          try rw [if_pos rfl]
          have hs := gi_sym (co gl j)
          refine ⟨_, rfl, _, rfl, _, _, rfl, rfl, .inr ⟨_, rfl, _, _, rfl, rfl, .inl ⟨by have := hs.1; omega, by have := hs.2; omega⟩, _, hNl, small (by rw [List.length_map, List.length_map, List.length_take]; omega), same_new e hN, ?_⟩⟩
          rw [upd_same, take_snoc hj, List.map_append, List.map_append]
          show some (HO.lst (_ ++ [V.int (gi (co gl j) * (if decide (gi (co gl j) < 4) = true then 1 else 0))])) = _
          rw [quart_at, co_in hj]
          rfl
        · rintro H' ⟨e, hNl⟩
          rw [List.length_map, List.take_length] at hNl
          exact ⟨N, gl.map quart, ⟨m1.trans e, e _ _ m2, m3.same e, hNl, by rw [List.length_map]; exact m5, ne_of_some m2 hN⟩, rfl⟩
      clear M0 p gl
      rintro σ2 H3 ⟨p, gl, M0, rfl⟩
      -- repeated
      refine ⟨fun σ' H' => ∃ ln row, MidW H H' D us R wd ln row ∧ σ' = stW a ht wd D (some (.int (0 + (i : Int)))) (some (.int cl)) (some (.ref ln)), ?_, ?_⟩
      · refine ⟨_, rfl, _, _, rfl, rfl, (by show (0 : Int) < 8; decide), rfl, _, rfl, itd (fun _ => ?_) (fun _ => ⟨p, gl, M0, rfl⟩)⟩
        refine ⟨_, rfl, _, _, rfl, rfl, _, rfl, itd (fun hk => ?_) (fun _ => ⟨p, gl, M0, rfl⟩)⟩
        obtain ⟨m1, m2, m3, m4, m5, m6⟩ := M0
        have hk0 : 0 < i := by omega
        have z1 := Int.emod_nonneg (cl / 8) (show (0 + (i : Int)) ≠ 0 by omega)
        have z2 := Int.emod_lt_of_pos (cl / 8) (show 0 < (0 + (i : Int)) by omega)
        obtain ⟨q, c1, c2, c3⟩ := m3.at (k := (cl / 8 % (0 + (i : Int))).toNat) (by omega)
        refine ⟨_, rfl, _, rfl, _, _, rfl, rfl, ⟨by decide, by decide⟩, _, rfl, _, _, rfl, rfl, (by show 0 < (0 + (i : Int)); omega), D, _, _, .ref q, rfl, rfl, SqL.of m2, at_nat (j := (cl / 8 % (0 + (i : Int))).toNat) (by omega) c1, q, _, rfl, .inl (SqL.of c3), fun l hl => ?_⟩
        have g := same_upd (o := .lst ((ro R (cl / 8 % (0 + (i : Int))).toNat).map vg)) hl
        exact ⟨l, _, ⟨m1.trans g, g _ _ m2, m3.same g, upd_same, hW.ro (by omega), ne_of_some m2 hl⟩, rfl⟩
      clear M0 p gl
      rintro σ3 H4 ⟨p, gl, M0, rfl⟩
      -- a sum
      refine ⟨fun σ' H' => ∃ ln row, MidW H H' D us R wd ln row ∧ σ' = stW a ht wd D (some (.int (0 + (i : Int)))) (some (.int cl)) (some (.ref ln)), ?_, ?_⟩
      · refine ⟨_, rfl, _, _, rfl, rfl, (by show (0 : Int) < 8; decide), rfl, _, rfl, itd (fun _ => ?_) (fun _ => ⟨p, gl, M0, rfl⟩)⟩
        refine ⟨_, rfl, _, _, rfl, rfl, _, rfl, itd (fun hk => ?_) (fun _ => ⟨p, gl, M0, rfl⟩)⟩
        obtain ⟨m1, m2, m3, m4, m5, m6⟩ := M0
        obtain ⟨q1, c1, c2, c3⟩ := m3.at (k := i - 1) (by omega)
        obtain ⟨q2, d1, d2, d3⟩ := m3.at (k := i - 2) (by omega)
        have w1 := hW.ro (k := i - 1) (by omega)
        have w2 := hW.ro (k := i - 2) (by omega)
        refine ⟨_, rfl, _, rfl, _, _, rfl, rfl, D, _, _, .ref q1, rfl, rfl, SqL.of m2, at_nat (j := i - 1) (by omega) c1, _, rfl, _, rfl, _, _, rfl, rfl, D, _, _, .ref q2, rfl, rfl, SqL.of m2, at_nat (j := i - 2) (by omega) d1, q1, q2, _, _, rfl, SqL.of c3, SqL.of d3, fun N hN => lc_it (walk_zip (n := wd) (by rw [List.length_map, List.length_map]; omega)) (fun t H' => Same H4 H' ∧ H' N = some (.lst ((tab t fun c => ga (co (ro R (i - 1)) c) (gm (co (ro R (i - 2)) c) 7)).map vg))) ⟨same_upd hN, upd_same⟩ (fun t H' _ ⟨e, _⟩ => ⟨e.seq (SqL.of c3), e.seq (SqL.of d3)⟩) ?_ ?_⟩
        · rintro t x H6 H7 ht' ⟨e6, hN6⟩ ⟨T1, u, v, rfl, hT', rfl, hu, hv⟩
          obtain ⟨_, rfl⟩ := get_vg hu
          obtain ⟨_, rfl⟩ := get_vg hv
          have nT : T1 ≠ N := ne_of_some hN6 hT'
          have e7 := e6.trans (same_upd (o := .tup [vg (co (ro R (i - 1)) t), vg (co (ro R (i - 2)) t)]) hT')
          have hN7 := upd_keep (q := .tup [vg (co (ro R (i - 1)) t), vg (co (ro R (i - 2)) t)]) hN6 (fun z => nT z.symm)
          refine ⟨T1, _, rfl, SqT.of upd_same, rfl, _, _, rfl, _, _, rfl, rfl, rfl, ?_⟩
          dsimp only [tYes]
          try rw [if_pos rfl]
          refine ⟨_, rfl, _, rfl, co (ro R (i - 2)) t, 7, rfl, fun Ha ea => ?_⟩
          refine ⟨_, _, rfl, rfl, _, ea _ _ hN7, small (by rw [List.length_map, tab_len]; omega), same_new (e7.trans ea) hN, ?_⟩
          rw [upd_same, tab_suc, List.map_append]
          show some (HO.lst (_ ++ [V.int (Builtin.bitXor (gi _) (gi (gm _ _)))])) = _
          rw [vg_xor]
          rfl
        · rintro H6 ⟨e6, hN6⟩
          exact ⟨N, _, ⟨m1.trans e6, e6 _ _ m2, m3.same e6, hN6, tab_len _ _, ne_of_some m2 hN⟩, rfl⟩
      clear M0 p gl
      rintro σ4 H5 ⟨p, gl, ⟨m1, m2, m3, m4, m5, m6⟩, rfl⟩
      refine ⟨_, rfl, .inl ⟨rfl, _, SqL.of m2⟩, _, rfl, D, _, _, rfl, rfl, m2, small (by omega), ?_⟩
      refine ⟨same_new m1 hD, us ++ [.ref p], R ++ [gl], some _, some _, some _, upd_same, (m3.put (l := D) (by simp)).snoc (by simpa using m6) (upd_keep m4 m6), by rw [List.length_append, List.length_singleton, hRl], fun r hr => ?_, rfl⟩
      rcases List.mem_append.mp hr with z | z
      · exact hW r z
      · rw [List.mem_singleton.mp z]
        exact m5
    · rintro σ H1 ⟨e1, us, R, v4, v5, v6, hDl, hU, hRl, hW, rfl⟩
      exact ⟨_, rfl, kQ H1 D us R e1 hDl hU hRl hW⟩

-- @@LAW
theorem allIn_vg (gl : List G) : allIn 0 15 (gl.map gi) = true := by
  unfold allIn
  refine List.all_eq_true.mpr fun x hx => ?_
  obtain ⟨g, _, rfl⟩ := List.mem_map.mp hx
  have := gi_sym g
  have h1 := this.1
  have h2 := this.2
  simp
  omega
@[reducible] def st28 (a : Addr) (h w : Nat) (v3 v4 v5 v6 v7 v8 v9 v10 : Option V) : L2.St := [some (.ref a), some (.int (h : Int)), some (.int (w : Int)), v3, v4, v5, v6, v7, v8, v9, v10, none, none, none]
@[reducible] def st28b (a : Addr) (h w : Nat) (rp yp : Addr) (kn : Bool) (v6 v7 v8 v9 : Option V) (cp ap : Addr) (m : Nat) (v13 : Option V) : L2.St := [some (.ref a), some (.int (h : Int)), some (.int (w : Int)), some (.ref rp), some (.ref yp), some (.bl kn), v6, v7, v8, v9, some (.ref cp), some (.ref ap), some (.int (m : Int)), v13]
theorem ok_law0 (T : Txt K mg C_InvalidSymbol c_solve_system P_solve_system) (f : Addr) (fd : FuncData) (F : Fun K "law" "law" s_law f fd) : FnOk P w K mg base CX0 6 f fd ["script"] (GX.spLawT K [P_solve_system]) := by
  have G__law_cell := ok__law_cell (P := P) (w := w) (base := base) T
  have G__law_row := ok__law_row (P := P) (w := w) (base := base) T
  have G__law_rows := ok__law_rows (P := P) (w := w) (base := base) T
  have G__law_rank := ok__law_rank (P := P) (w := w) (base := base) T
  have G__law_times := ok__law_times (P := P) (w := w) (base := base) T
  have G__law_is_int := ok__law_is_int (P := P) (w := w) (base := base) T
  have G__law_is_list := ok__law_is_list (P := P) (w := w) (base := base) T
  have G_rank := ok_rank (P := P) (w := w) (base := base) T
  have G_solve_system := ok_solve_system (P := P) (w := w) (base := base) (TBS := TBS) T
  refine F.ok sc_law (fun vs H Q E h => ?_) (fun cdv A outer s H vs Q E hr h => ?_)
  · obtain ⟨a, ns, rfl, _⟩ := h
    rfl
  · obtain ⟨a, ns, rfl, hS, hlen, tb, kQ⟩ := h
    have nd := sc_law.nd
    have hu64 : (A.deeper (envOfC "law" (defScope s_law) s.heap.objs.size f cdv)).units + 64 < cLine := by
      have := hr.un
      omega
    have tb0 : GxR.TabG H P_solve_system := tb _ (List.mem_singleton.mpr rfl)
    refine ⟨_,       (Evl.pss_cut (ps_set (i := 1) nd rfl (Or.inl rfl) (pe_op op_add pe_int (pe_op op_mod (pe_callO G__law_cell (hr.mono (by decide)) pass0 (pa_cons (pv 0) (pa_cons pe_int pa_nil))) pe_int)))
      (Evl.pss_cut (ps_set (i := 2) nd rfl (Or.inl rfl) (pe_op op_add pe_int (pe_op op_mod (pe_op op_fdiv (pe_callO G__law_cell (hr.mono (by decide)) pass0 (pa_cons (pv 0) (pa_cons pe_int pa_nil))) pe_int) pe_int)))
      (pss_cons (ps_if (pt_cmpR op_eq (pe_op op_mod (pe_op op_fdiv (pe_callO G__law_cell (hr.mono (by decide)) pass0 (pa_cons (pv 0) (pa_cons pe_int pa_nil))) pe_int) pe_int) pe_int (nomark _))
        (pss_one (ps_ret (pe_and (pe_cmpR (op_eqD hu64) (pe_callO G_solve_system (hr.mono (by decide)) passN (pa_cons (pe_lst pa_nil) (pa_cons (pe_lst pa_nil) pa_nil))) (pe_lst pa_nil) (nomark _)) (pe_one (pe_cmpR op_eq (pe_callO G_rank (hr.mono (by decide)) passN (pa_cons (pe_lst pa_nil) pa_nil)) pe_int (nomark _)))))) pss_nil)
      (Evl.pss_cut (ps_set (i := 3) nd rfl (Or.inl rfl) (pe_callO G__law_rows (hr.mono (by decide)) pass0 (pa_cons (pv 0) (pa_cons (pv 1) (pa_cons (pv 2) pa_nil)))))
      (Evl.pss_cut (ps_set (i := 4) nd rfl (Or.inl rfl) (pe_callO G__law_row (hr.mono (by decide)) pass0 (pa_cons (pe_callO G__law_cell (hr.mono (by decide)) pass0 (pa_cons (pv 0) (pa_cons pe_int pa_nil))) (pa_cons (pv 1) (pa_cons pe_int pa_nil)))))
      (Evl.pss_cut (ps_set (i := 5) nd rfl (Or.inl rfl) (pe_cmpR op_eq (pe_op op_mod (pe_callO G__law_cell (hr.mono (by decide)) pass0 (pa_cons (pv 0) (pa_cons pe_int pa_nil))) pe_int) pe_int (nomark _)))
      (Evl.pss_cut (ps_if (pt_val (pv 5))
        (pss_cons (ps_set (i := 6) nd rfl (Or.inl rfl) (pe_callO G__law_row (hr.mono (by decide)) pass0 (pa_cons (pe_callO G__law_cell (hr.mono (by decide)) pass0 (pa_cons (pv 0) (pa_cons pe_int pa_nil))) (pa_cons (pv 2) (pa_cons pe_int pa_nil)))))
        (pss_cons (ps_set (i := 4) nd rfl (Or.inl rfl) (pe_lst pa_nil))
        (pss_one (ps_for PassesOwn.never rfl (pi_list (pv 3)) (pg_name (i := 7) nd rfl (Or.inl rfl))
          (pss_cons (ps_set (i := 8) nd rfl (Or.inl rfl) pe_int)
          (pss_cons (ps_for PassesOwn.never rfl (pi_range1 rfl T.n_range (pa_cons (pv 2) pa_nil)) (pg_name (i := 9) nd rfl (Or.inl rfl))
            (pss_one (ps_set (i := 8) nd rfl (Or.inl rfl) (pe_op op_xor (pv 8) (pe_callO G__law_times (hr.mono (by decide)) pass0 (pa_cons (pe_ix ix_list (pv 7) (pv 9) (fun _ _ => rfl)) (pa_cons (pe_ix ix_list (pv 6) (pv 9) (fun _ _ => rfl)) pa_nil)))))))
          (pss_one (ps_expr (pe_bm PySem.F.plainAttrs_list PySem.F.slot_list_append PySem.F.type_list_append mt_append (pv 4) (pa_cons (pv 8) pa_nil)))))))))) pss_nil)
      (Evl.pss_cut (ps_set (i := 10) nd rfl (Or.inl rfl) (pe_tup (pa_cons (pe_lc (own := [("line", 7)]) (g := gName 7) (tt := tYes) rfl nd (pi_list (pv 3)) (blkOk_by (N := N_law) (sc := defScope s_law) (by decide +kernel)) (fun _ _ _ _ _ => (pg_name (i := 7) nd rfl (Or.inl rfl))) (fun _ _ _ _ _ => pts_nil) (fun _ _ _ _ _ => (pe_callTy (TK.call_list_ofK (K := K)) (by rfl) T.n_list (by decide +kernel) (pa_cons (pv 7) pa_nil)))) (pa_cons (pe_callTy call_list_of (by rfl) T.n_list (by decide +kernel) (pa_cons (pv 4) pa_nil)) pa_nil))))
      (Evl.pss_cut (ps_set (i := 11) nd rfl (Or.inl rfl) (pe_callO G_solve_system (hr.mono (by decide)) passN (pa_cons (pe_ix ix_tup (pv 10) pe_int (fun _ _ => rfl)) (pa_cons (pe_ix ix_tup (pv 10) pe_int (fun _ _ => rfl)) pa_nil))))
      (Evl.pss_cut (ps_set (i := 12) nd rfl (Or.inl rfl) (pe_callO G_rank (hr.mono (by decide)) passN (pa_cons (pe_lc (own := [("line", 7)]) (g := gName 7) (tt := tYes) rfl nd (pi_list (pv 3)) (blkOk_by (N := N_law) (sc := defScope s_law) (by decide +kernel)) (fun _ _ _ _ _ => (pg_name (i := 7) nd rfl (Or.inl rfl))) (fun _ _ _ _ _ => pts_nil) (fun _ _ _ _ _ => (pe_callTy (TK.call_list_ofK (K := K)) (by rfl) T.n_list (by decide +kernel) (pa_cons (pv 7) pa_nil)))) pa_nil)))
      (pss_cons (ps_if (PW.pt (pw_or (pt_cmpR (op_neD hu64) (pv 10) (pe_tup (pa_cons (pv 3) (pa_cons (pv 4) pa_nil))) (nomark _)) (pw_or (pt_not (pt_val (pe_callO G__law_is_int (hr.mono (by decide)) pass0 (pa_cons (pv 12) pa_nil)))) (pw_or1 (pt_cmpR op_ne (pv 12) (pe_callO G__law_rank (hr.mono (by decide)) pass0 (pa_cons (pv 3) pa_nil)) (nomark _))))))
        (pss_one (ps_ret pe_bl)) pss_nil)
      (pss_cons (ps_if (pt_cmpR op_isN (pv 11) pe_non (nomark _))
        (pss_one (ps_ret (pe_and (pe_not (pv 5)) (pe_one (pe_cmpR op_gt (pe_callO G__law_rank (hr.mono (by decide)) pass0 (pa_cons (pe_lc (own := [("line", 7), ("symbol", 13)]) (g := _) (tt := tYes) rfl nd (pi_zip (by rfl) T.n_zip (pa_cons (pv 3) (pa_cons (pv 4) pa_nil))) (blkOk_by (N := N_law) (sc := defScope s_law) (by decide +kernel)) (fun _ _ _ _ _ => (TK.pg_tupK (K := K) (n := 2) rfl rfl (pgs_cons (pg_name (i := 7) nd rfl (Or.inl rfl)) (pgs_cons (pg_name (i := 13) nd rfl (Or.inl rfl)) pgs_nil)))) (fun _ _ _ _ _ => pts_nil) (fun _ _ _ _ _ => (pe_op op_cat (pv 7) (pe_lst (pa_cons (pv 13) pa_nil))))) pa_nil)) (pe_callO G__law_rank (hr.mono (by decide)) pass0 (pa_cons (pv 3) pa_nil)) (nomark _)))))) pss_nil)
      (pss_cons (ps_if (PW.pt (pw_or (pt_not (pt_val (pe_callO G__law_is_list (hr.mono (by decide)) pass0 (pa_cons (pv 11) (pa_cons pe_int (pa_cons pe_int pa_nil)))))) (pw_or1 (pt_cmpR op_ne (pe_callB call_len_seq (by rfl) T.n_len PySem.boot_len (pa_cons (pv 11) pa_nil)) (pv 2) (nomark _)))))
        (pss_one (ps_ret pe_bl)) pss_nil)
      (pss_cons (ps_for PassesOwn.never rfl (pi_zip (by rfl) T.n_zip (pa_cons (pv 3) (pa_cons (pv 4) pa_nil))) (pg_tup rfl (pgs_cons (pg_name (i := 7) nd rfl (Or.inl rfl)) (pgs_cons (pg_name (i := 13) nd rfl (Or.inl rfl)) pgs_nil)))
        (pss_cons (ps_set (i := 8) nd rfl (Or.inl rfl) pe_int)
        (pss_cons (ps_for PassesOwn.never rfl (pi_range1 rfl T.n_range (pa_cons (pv 2) pa_nil)) (pg_name (i := 9) nd rfl (Or.inl rfl))
          (pss_one (ps_set (i := 8) nd rfl (Or.inl rfl) (pe_op op_xor (pv 8) (pe_callO G__law_times (hr.mono (by decide)) pass0 (pa_cons (pe_ix ix_list (pv 7) (pv 9) (fun _ _ => rfl)) (pa_cons (pe_ix ix_list (pv 11) (pv 9) (fun _ _ => rfl)) pa_nil)))))))
        (pss_one (ps_if (pt_cmpR op_ne (pv 8) (pv 13) (nomark _))
          (pss_one (ps_ret pe_bl)) pss_nil)))))
      (pss_one (ps_ret pe_bl)))))))))))))))), ?_⟩
    -- height
    refine ⟨fun σ' H' => H = H' ∧ ∃ ht : Nat, 1 ≤ ht ∧ ht ≤ 7 ∧ σ' = [some (.ref a), some (.int (ht : Int)), none, none, none, none, none, none, none, none, none, none, none, none], ?_, ?_⟩
    · refine ⟨_, rfl, a, ns, 0, rfl, hS, _, _, rfl, rfl, (by show (0 : Int) < 7; decide), _, _, rfl, rfl, rfl, (1 + cell ns 0 % 7).toNat, by omega, by omega, ?_⟩
      rw [show (((1 + cell ns 0 % 7).toNat : Nat) : Int) = 1 + cell ns 0 % 7 by omega]
      rfl
    rintro σ0 H0 ⟨rfl, ht, ht1, ht2, rfl⟩
    -- width
    refine ⟨fun σ' H' => H = H' ∧ ∃ wd : Nat, 1 ≤ wd ∧ wd ≤ 6 ∧ σ' = st28 a ht wd none none none none none none none none, ?_, ?_⟩
    · refine ⟨_, rfl, a, ns, 0, rfl, hS, _, _, rfl, rfl, ⟨by decide, by decide⟩, _, _, rfl, rfl, (by show (0 : Int) < 6; decide), _, _, rfl, rfl, rfl, (1 + cell ns 0 / 7 % 6).toNat, by omega, by omega, ?_⟩
      unfold st28
      rw [show (((1 + cell ns 0 / 7 % 6).toNat : Nat) : Int) = 1 + cell ns 0 / 7 % 6 by omega]
      rfl
    rintro σ1 H1 ⟨rfl, wd, wd1, wd2, rfl⟩
    -- no equation
    refine ⟨_, rfl, a, ns, 0, rfl, hS, _, _, rfl, rfl, ⟨by decide, by decide⟩, _, _, rfl, rfl, (by show (0 : Int) < 9; decide), rfl, _, rfl, itd (fun _ => ?_) (fun _ => ?_)⟩
    · refine ⟨by decide, fun l1 hl1 => ⟨by decide, fun l2 hl2 => ?_⟩⟩
      have g1 := same_upd (o := .lst ([] : List V)) hl1
      have g2 := same_upd (o := .lst ([] : List V)) hl2
      refine ⟨l1, l2, [], [], [], [], 0, rfl, SqL.of (g2 _ _ upd_same), .nil, (fun _ h => nomatch h), SqL.of upd_same, rfl, by omega, by simp, (GX.Sm.of (g1.trans g2)).tab _ tb0, fun _ H3 p e3 hp3 => ?_, fun h => absurd rfl h, fun h => absurd rfl h⟩
      refine ⟨by decide, fun l3 hl3 => ?_⟩
      have g3 := same_upd (o := .lst ([] : List V)) hl3
      refine ⟨_, _, .lst (SqL.of (g3 _ _ hp3)) .nil, .lst (SqL.of upd_same) .nil, by decide +kernel, by decide +kernel, true, by rfl, iteT ⟨by decide, fun l4 hl4 => ?_⟩⟩
      refine ⟨l4, [], [], [], 0, rfl, SqL.of upd_same, .nil, (fun _ h => nomatch h), by omega, by simp, fun _ H4 e4 => ?_, fun h => absurd rfl h⟩
      exact ⟨rfl, to_true (Q := Q) (by decide) (kQ _)⟩
    -- rows
    refine ⟨fun σ' H' => Same H H' ∧ ∃ (rp : Addr) (us : List V) (R : List (List G)), H' rp = some (.lst us) ∧ TabV H' [rp] us R ∧ R.length = ht ∧ Wid R wd ∧ σ' = st28 a ht wd (some (.ref rp)) none none none none none none none, ?_, ?_⟩
    · exact ⟨_, rfl, _, rfl, _, rfl, a, ns, ht, wd, rfl, hS, by omega, by omega, fun H' D us R e hD hT hl hW => ⟨e, D, us, R, hD, hT, hl, hW, rfl⟩⟩
    rintro σ2 H2 ⟨e2, rp, us, R, hRp, hT, hRl, hW, rfl⟩
    -- right
    refine ⟨fun σ' H' => Same H2 H' ∧ ∃ (yp : Addr) (ys : List G), H' yp = some (.lst (ys.map vg)) ∧ ys.length = ht ∧ σ' = st28 a ht wd (some (.ref rp)) (some (.ref yp)) none none none none none none, ?_, ?_⟩
    · refine ⟨_, rfl, a, ns, 1, rfl, e2.seq hS, _, rfl, cell ns 1, ht, 16, rfl, by omega, by decide, by decide, fun p H3 hp e3 hL => ?_⟩
      obtain ⟨gl, hgl⟩ := of_syms (l := rowL (cell ns 1) ht 16) fun x hx => rowL_in (by decide) hx
      have hgc : gl.length = ht := by
        have := congrArg List.length hgl
        rw [rowL_len, List.length_map] at this
        omega
      rw [hgl, map_vg_int] at hL
      exact ⟨e3, p, gl, hL, hgc, rfl⟩
    rintro σ3 H3 ⟨e3, yp, ys, hYp, hyl, rfl⟩
    -- known
    refine ⟨fun σ' H' => H3 = H' ∧ ∃ kn : Bool, σ' = st28 a ht wd (some (.ref rp)) (some (.ref yp)) (some (.bl kn)) none none none none none, ?_, ?_⟩
    · exact ⟨_, rfl, a, ns, 2, rfl, (e2.trans e3).seq hS, _, _, rfl, rfl, (by show (0 : Int) < 2; decide), rfl, rfl, _, rfl⟩
    rintro σ4 H4 ⟨rfl, kn, rfl⟩
    -- if known
    refine ⟨fun σ' H' => Same H3 H' ∧ ∃ (yp : Addr) (ys : List G) (v6 v7 v8 v9 : Option V), H' yp = some (.lst (ys.map vg)) ∧ ys.length = ht ∧ (kn = true → ∃ z : Nat → G, ∀ k, k < R.length → (gs wd fun j => gm (co (ro R k) j) (z j)) = co ys k) ∧ σ' = st28 a ht wd (some (.ref rp)) (some (.ref yp)) (some (.bl kn)) v6 v7 v8 v9 none, ?_, ?_⟩
    · refine ⟨_, rfl, kn, rfl, ?_⟩
      cases kn with
      | false => exact iteF ⟨Same.refl _, yp, ys, none, none, none, none, hYp, hyl, (fun h => by cases h), rfl⟩
      | true =>
        refine iteT ?_
        refine ⟨_, rfl, a, ns, 3, rfl, (e2.trans e3).seq hS, _, rfl, cell ns 3, wd, 16, rfl, by omega, by decide, by decide, fun wp H5 hwp e5 hL => ?_⟩
        obtain ⟨gl, hgl⟩ := of_syms (l := rowL (cell ns 3) wd 16) fun x hx => rowL_in (by decide) hx
        have hgc : gl.length = wd := by
          have := congrArg List.length hgl
          rw [rowL_len, List.length_map] at this
          omega
        rw [hgl, map_vg_int] at hL
        refine ⟨by decide, fun np hnp => ?_⟩
        have hR5 := e5 _ _ (e3 _ _ hRp)
        have hT5 := ((hT.same e3).same e5)
        have g6 := same_upd (o := .lst ([] : List V)) hnp
        have hus := hT5.len
        refine ⟨_, rfl, rp, rfl, ⟨_, SqL.of (g6 _ _ hR5)⟩, for_list (K := K) (a := rp) (xs := us) (fun i σ H' => Same H5 H' ∧ ∃ v7 v8 v9 : Option V, H' np = some (.lst ((tab i fun k => gs wd fun j => gm (co (ro R k) j) (co gl j)).map vg)) ∧ σ = st28 a ht wd (some (.ref rp)) (some (.ref np)) (some (.bl true)) (some (.ref wp)) v7 v8 v9 none)
          ⟨g6, none, none, none, upd_same, rfl⟩ (fun i σ H' _ ⟨e, _⟩ => SqL.of (e _ _ hR5)) ?_ ?_⟩
        · rintro i x σ H6 hx ⟨e6, v7, v8, v9, hN, rfl⟩
          have hi : i < R.length := by
            have := (List.getElem?_eq_some_iff.mp hx).1
            omega
          obtain ⟨q, c1, c2, c3⟩ := hT5.at hi
          obtain rfl : V.ref q = x := Option.some.inj (c1.symm.trans hx)
          have hwq := hW.ro hi
          refine ⟨_, rfl, wd, rfl, by omega, by omega, ?_⟩
          refine for_range (lo := 0) (n := wd) (fun j σ H' => Same H6 H' ∧ ∃ v9 : Option V, σ = st28 a ht wd (some (.ref rp)) (some (.ref np)) (some (.bl true)) (some (.ref wp)) (some (.ref q)) (some (vg (gs j fun j => gm (co (ro R i) j) (co gl j)))) v9 none) ⟨Same.refl _, v9, rfl⟩ ?_ ?_
          · rintro j σ H7 hj ⟨e7, v9, rfl⟩
            have ez : (0 : Int) + (j : Int) = (j : Int) := by omega
            refine ⟨_, rfl, _, rfl, _, rfl, q, _, _, vg (co (ro R i) j), rfl, rfl, SqL.of (e7 _ _ (e6 _ _ c3)), at_nat (j := j) ez (vg_get (by omega)), _, rfl, _, rfl, wp, _, _, vg (co gl j), rfl, rfl, SqL.of (e7 _ _ (e6 _ _ hL)), at_nat (j := j) ez (vg_get (by omega)), co (ro R i) j, co gl j, rfl, fun Ha ea => ?_⟩
            refine ⟨_, _, rfl, rfl, e7.trans ea, some (.int (0 + (j : Int))), ?_⟩
            show _ = st28 a ht wd _ _ _ _ _ (some (vg (ga (gs j fun j => gm (co (ro R i) j) (co gl j)) (gm (co (ro R i) j) (co gl j))))) _ none
            rw [← vg_xor]
            rfl
          · rintro σ H7 ⟨e7, v9, rfl⟩
            refine ⟨_, rfl, .inl ⟨rfl, _, SqL.of (e7 _ _ hN)⟩, _, rfl, np, _, _, rfl, rfl, e7 _ _ hN, small (by rw [List.length_map, tab_len]; omega), ?_⟩
            refine ⟨same_new (e6.trans e7) hnp, some (.ref q), some _, v9, ?_, rfl⟩
            rw [upd_same, tab_suc, List.map_append]
            rfl
        · rintro σ H6 ⟨e6, v7, v8, v9, hN, rfl⟩
          rw [hus] at hN
          refine ⟨e5.trans e6, np, _, some (.ref wp), v7, v8, v9, hN, by rw [tab_len]; exact hRl, fun _ => ⟨co gl, fun k hk => by rw [tab_co, if_pos hk]⟩, rfl⟩
    clear hYp hyl ys yp
    rintro σ5 H5 ⟨e5, yp, ys, v6, v7, v8, v9, hYp, hyl, hkn, rfl⟩
    have e25 := e2.trans (e3.trans e5)
    have hRp := e5 _ _ (e3 _ _ hRp)
    have hT := (hT.same e3).same e5
    clear e3 e2
    -- copies
    have hus := hT.len
    have copy : ∀ (Hb : Hp) (σ : L2.St), Same H5 Hb → ∀ D, Hb D = none → True := fun _ _ _ _ _ => trivial
    refine ⟨fun σ' H' => Same H5 H' ∧ ∃ (cp D l : Addr) (us2 : List V), H' cp = some (.tup [.ref D, .ref l]) ∧ H' D = some (.lst us2) ∧ TabV H' [D] us2 R ∧ H' l = some (.lst (ys.map vg)) ∧ σ' = st28 a ht wd (some (.ref rp)) (some (.ref yp)) (some (.bl kn)) v6 v7 v8 v9 (some (.ref cp)), ?_, ?_⟩
    · refine ⟨_, rfl, rp, rfl, ⟨_, SqL.of hRp⟩, fun D hD => lc_list (K := K) (a := rp) (xs := us) (fun i H' => Same H5 H' ∧ ∃ us2, H' D = some (.lst us2) ∧ TabV H' [D] us2 (R.take i)) ⟨same_upd hD, [], upd_same, .nil⟩ (fun i H' _ ⟨e, _⟩ => SqL.of (e _ _ hRp)) ?_ ?_⟩
      · rintro i x H' hx ⟨e, us2, hDl, hU⟩
        have hi : i < R.length := by
          have := (List.getElem?_eq_some_iff.mp hx).1
          omega
        obtain ⟨r, c1, c2, c3⟩ := hT.at hi
        obtain rfl : V.ref r = x := Option.some.inj (c1.symm.trans hx)
        have hul := hU.len
        rw [List.length_take] at hul
        refine ⟨rfl, ?_⟩
        dsimp only [tYes]
        try rw [if_pos rfl]
        refine ⟨_, rfl, r, _, rfl, .inl (SqL.of (e _ _ c3)), fun l hl => ?_⟩
        have nD : l ≠ D := ne_of_some hDl hl
        refine ⟨us2, upd_keep hDl (fun z => nD z.symm), small (by omega), same_new (e.trans (same_upd hl)) hD, _, upd_same, ?_⟩
        rw [take_snoc hi, ← ro_in hi]
        exact ((hU.same (same_upd hl)).put (l := D) (by simp)).snoc (by simpa using nD) (upd_keep upd_same nD)
      · rintro H6 ⟨e6, us2, hDl, hU⟩
        rw [hus, List.take_length] at hU
        refine ⟨_, rfl, yp, _, rfl, .inl (SqL.of (e6 _ _ hYp)), fun l hl => ⟨(by show 2 ≤ sizeLine; decide), fun u hu => ?_⟩⟩
        have g1 := same_upd (o := .lst (ys.map vg)) hl
        have g2 := same_upd (o := .tup [V.ref D, V.ref l]) hu
        exact ⟨e6.trans (g1.trans g2), u, D, l, us2, upd_same, (g1.trans g2) _ _ hDl, hU.same (g1.trans g2), g2 _ _ upd_same, rfl⟩
    clear copy
    rintro σ7 H7 ⟨e7, cp, D, l, us2, hC, hDl, hT2, hl, rfl⟩
    have hne : R ≠ [] := fun z => by rw [z] at hRl; simp at hRl; omega
    -- actual
    refine ⟨fun σ' H' => GX.Sm H7 H' ∧ ∃ av : V, ((av = .non ∧ ∃ (ps : List Nat) (T : List (List G)) (k : Nat), Ech T ps wd ∧ Eqs T (augT R ys) ∧ ps.length ≤ k ∧ k < T.length ∧ co (ro T k) wd ≠ 0) ∨ (∃ (p : Addr) (sl : List G), av = .ref p ∧ H' p = some (.lst (sl.map vg)) ∧ sl.length = wd ∧ ∀ k, k < R.length → (gs wd fun j => gm (co (ro R k) j) (co sl j)) = co ys k)) ∧ σ' = (st28 a ht wd (some (.ref rp)) (some (.ref yp)) (some (.bl kn)) v6 v7 v8 v9 (some (.ref cp))).set 11 (some av), ?_, ?_⟩
    · refine ⟨_, rfl, cp, _, _, .ref D, rfl, rfl, SqT.of hC, rfl, _, rfl, cp, _, _, .ref l, rfl, rfl, SqT.of hC, rfl, D, l, [D], us2, R, ys, wd, rfl, SqL.of hDl, hT2, hW, SqL.of hl, by omega, by omega, by omega, (GX.Sm.of (e25.trans e7)).tab _ tb0, fun z => absurd z hne, fun _ H' ps T k e hE hQ h1 h2 h3 => ⟨e, .non, .inl ⟨rfl, ps, T, k, hE, hQ, h1, h2, h3⟩, rfl⟩, fun _ H' p sl e hp hsl hq => ⟨e, .ref p, .inr ⟨p, sl, rfl, hp, hsl, hq⟩, rfl⟩⟩
    rintro σ8 H8 ⟨e8, av, hav, rfl⟩
    have e58 := GX.Sm.trans (GX.Sm.of e7) e8
    have hC8 := e8.t hC
    have hD8 := e8.l hDl
    have hT28 := hT2.sm e8
    have hl8 := e8.l hl
    have hR8 := e58.l hRp
    have hY8 := e58.l hYp
    have hT8 := hT.sm e58
    clear hC hDl hT2 hl hRp hYp hT e7 e8 e25
    -- told
    refine ⟨fun σ' H' => Same H8 H' ∧ ∃ (ps : List Nat) (T : List (List G)), Ech T ps wd ∧ Eqs T R ∧ σ' = ((st28 a ht wd (some (.ref rp)) (some (.ref yp)) (some (.bl kn)) v6 v7 v8 v9 (some (.ref cp))).set 11 (some av)).set 12 (some (.int (ps.length : Int))), ?_, ?_⟩
    · refine ⟨_, rfl, rp, rfl, ⟨_, SqL.of hR8⟩, fun D hD => lc_list (K := K) (a := rp) (xs := us) (fun i H' => Same H8 H' ∧ ∃ us2, H' D = some (.lst us2) ∧ TabV H' [D] us2 (R.take i)) ⟨same_upd hD, [], upd_same, .nil⟩ (fun i H' _ ⟨e, _⟩ => SqL.of (e _ _ hR8)) ?_ ?_⟩
      · rintro i x H' hx ⟨e, us2, hDl, hU⟩
        have hi : i < R.length := by
          have := (List.getElem?_eq_some_iff.mp hx).1
          omega
        obtain ⟨r, c1, c2, c3⟩ := hT8.at hi
        obtain rfl : V.ref r = x := Option.some.inj (c1.symm.trans hx)
        have hul := hU.len
        rw [List.length_take] at hul
        refine ⟨rfl, ?_⟩
        dsimp only [tYes]
        try rw [if_pos rfl]
        refine ⟨_, rfl, r, _, rfl, .inl (SqL.of (e _ _ c3)), fun l hl => ?_⟩
        have nD : l ≠ D := ne_of_some hDl hl
        refine ⟨us2, upd_keep hDl (fun z => nD z.symm), small (by omega), same_new (e.trans (same_upd hl)) hD, _, upd_same, ?_⟩
        rw [take_snoc hi, ← ro_in hi]
        exact ((hU.same (same_upd hl)).put (l := D) (by simp)).snoc (by simpa using nD) (upd_keep upd_same nD)
      · rintro H6 ⟨e6, us2, hDl, hU⟩
        rw [hus, List.take_length] at hU
        exact ⟨D, [D], us2, R, wd, rfl, SqL.of hDl, hU, hW, by omega, by omega, fun z => absurd z hne, fun _ H' ps T e hE hQ => ⟨e6.trans e, ps, T, hE, hQ, rfl⟩⟩
    rintro σ9 H9 ⟨e9, ps, T1, hE1, hQ1, rfl⟩
    have hC9 := e9 _ _ hC8
    have hD9 := e9 _ _ hD8
    have hT29 := hT28.same e9
    have hl9 := e9 _ _ hl8
    have hR9 := e9 _ _ hR8
    have hY9 := e9 _ _ hY8
    have hT9 := hT8.same e9
    -- if copies != ..
    have rowsD : ∀ {H' : Hp} {u x y : Addr} {L : List Addr} {vs : List V}, SqT K H' u [.ref x, .ref y] → SqL K H' x vs → TabV H' L vs R → H' y = some (.lst (ys.map vg)) → Dp K H' (.ref u) (.tuple [.list (R.map rowD), rowD ys]) := fun h1 h2 h3 h4 => .tup h1 (.cons (.lst h2 (dp_tab h3)) (.cons (dp_row h4) .nil))
    have hsh : SeqAt.shaped (.tuple [.list (R.map rowD), rowD ys]) = true := by
      have h := depth_tab R
      refine Bool.and_eq_true_iff.mpr ⟨?_, decide_eq_true ?_⟩
      · show (PyData.canLayAll0 (R.map rowD) && (PyData.canLayAll0 ((ys.map gi).map PyData.int) && true)) = true
        rw [lay_tab, Cm.canLayAll_ints]
        rfl
      · show max (PyData.depthAll (R.map rowD) + 1) (max (PyData.depthAll ((ys.map gi).map PyData.int) + 1) 0) + 1 ≤ 64
        rw [Cm.depthAll_ints]
        omega
    refine ⟨_, rfl, _, rfl, _, rfl, (by show 2 ≤ sizeLine; decide), fun u2 hu2 => ?_⟩
    have g10 := same_upd (o := .tup [V.ref rp, V.ref yp]) hu2
    refine ⟨_, _, rowsD (SqT.of (g10 _ _ hC9)) (SqL.of (g10 _ _ hD9)) (hT29.same g10) (g10 _ _ hl9), rowsD (SqT.of upd_same) (SqL.of (g10 _ _ hR9)) (hT9.same g10) (g10 _ _ hY9), hsh, hsh, ne_noG (eqv_refl' hsh) ?_⟩
    have hR10 := g10 _ _ hR9
    have hY10 := g10 _ _ hY9
    have hT10 := hT9.same g10
    generalize upd H9 u2 (.tup [V.ref rp, V.ref yp]) = H10 at g10 hR10 hY10 hT10 ⊢
    refine ⟨_, rfl, _, rfl, true, rfl, iteF ?_⟩
    refine ⟨_, rfl, _, rfl, rp, [rp], us, R, wd, rfl, SqL.of hR10, hT10, hW, by omega, by omega, hne, fun H11 ps2 T2 e11 hE2 hQ2 => ?_⟩
    have hsame := ech_same hE1 hE2 hQ1 hQ2
    refine ⟨rfl, _, rfl, itnV (fun h => absurd (by rw [hsame]) h) (fun _ => ?_)⟩
    have hR11 := e11 _ _ hR10
    have hY11 := e11 _ _ hY10
    have hT11 := hT10.same e11
    have e911 := g10.trans e11
    clear hR10 hY10 hT10 hC9 hD9 hT29 hl9 g10
    -- if actual is None
    rcases hav with ⟨rfl, ps3, T3, k, hE3, hQ3, h1, h2, h3⟩ | ⟨ap, sl, rfl, hAp, hsl, hsol⟩
    · refine ⟨_, rfl, rfl, _, rfl, itd (fun _ => ?_) (fun h => absurd rfl h)⟩
      have hkf : kn = false := by
        cases kn with
        | false => rfl
        | true =>
          obtain ⟨z, hz⟩ := hkn rfl
          have hv : ∀ r ∈ augT R ys, Fn wd z (co r) = 0 := fun r hr => by
            obtain ⟨i, hi, rfl⟩ := mem_ro hr
            rw [augT_len] at hi
            have hwi := hW.ro hi
            unfold Fn
            rw [augT_ro hi, app_co hwi, if_neg (Nat.lt_irrefl _), if_pos rfl, gs_congr (g := fun j => gm (co (ro R i) j) (z j)) fun j hj => by rw [app_co hwi, if_pos hj], hz i hi, ga_self]
          have hv2 := Spn.van hv ((hQ3 _).mp (Spn.of_mem (ro_mem h2)))
          have hv3 := Fn_zero hv2
          rw [gs_zero fun j hj => by rw [hE3.post k h1 j hj, zero_gm]] at hv3
          exact absurd hv3.symm h3
      subst hkf
      refine ⟨_, rfl, false, rfl, true, rfl, iteT ?_⟩
      refine ⟨_, rfl, _, rfl, rp, yp, us, ys.map vg, rfl, SqL.of hR11, SqL.of hY11, fun D hD => lc_it (walk_zip (n := R.length) (by rw [List.length_map]; omega)) (fun i H' => Same H11 H' ∧ ∃ us3, H' D = some (.lst us3) ∧ TabV H' [D] us3 ((augT R ys).take i)) ⟨same_upd hD, [], upd_same, .nil⟩ (fun i H' _ ⟨e, _⟩ => ⟨SqL.of (e _ _ hR11), SqL.of (e _ _ hY11)⟩) ?_ ?_⟩
      · rintro i x H2 H3 hi ⟨e, us3, hDl, hU⟩ ⟨T1, u, v, rfl, hT', rfl, hu, hv⟩
        obtain ⟨q, c1, c2, c3⟩ := hT11.at hi
        obtain rfl : V.ref q = u := Option.some.inj (c1.symm.trans hu)
        obtain ⟨hq, rfl⟩ := get_vg hv
        have nD : T1 ≠ D := ne_of_some hDl hT'
        have e2 := e.trans (same_upd (o := .tup [V.ref q, vg (co ys i)]) hT')
        have hul := hU.len
        rw [List.length_take, augT_len] at hul
        refine ⟨T1, _, rfl, SqT.of upd_same, rfl, _, _, rfl, _, _, rfl, rfl, rfl, ?_⟩
        dsimp only [tYes]
        try rw [if_pos rfl]
        have hl9 : (ro R i).length = wd := hW.ro hi
        refine ⟨_, rfl, _, rfl, (by show 1 ≤ sizeLine; decide), fun l1 hl1 => ?_⟩
        have g1 := same_upd (o := .lst [vg (co ys i)]) hl1
        have hDl2 : (upd H2 T1 (.tup [V.ref q, vg (co ys i)])) D = some (.lst us3) := upd_keep hDl (fun z => nD z.symm)
        refine ⟨q, l1, _, _, rfl, rfl, g1 _ _ (e2 _ _ c3), upd_same, smallE (by rw [List.length_map, List.length_singleton]; omega), fun r hr => ?_⟩
        have g2 := same_upd (o := .lst ((ro R i).map vg ++ [vg (co ys i)])) hr
        have hDl3 := g2 _ _ (g1 _ _ hDl2)
        have nrD : r ≠ D := ne_of_some (g1 _ _ hDl2) hr
        refine ⟨us3, hDl3, small (by omega), same_new (e2.trans (g1.trans g2)) hD, _, upd_same, ?_⟩
        rw [augT_take R ys hi]
        refine ((((hU.same (same_upd hT')).same g1).same g2).put (l := D) (by simp)).snoc (by simpa using nrD) (upd_keep ?_ nrD)
        rw [upd_same, List.map_append]
        rfl
      · rintro H12 ⟨e12, us3, hDl, hU⟩
        rw [show R.length = (augT R ys).length from (augT_len R ys).symm, List.take_length] at hU
        refine ⟨D, [D], us3, augT R ys, wd + 1, rfl, SqL.of hDl, hU, augT_wid hW ys, by omega, by rw [augT_len]; omega, fun z => hne (List.eq_nil_of_length_eq_zero (by rw [← augT_len R ys, z]; rfl)), fun H13 ps4 T4 e13 hE4 hQ4 => ?_⟩
        have e1113 := e12.trans e13
        refine ⟨_, rfl, rp, [rp], us, R, wd, rfl, SqL.of (e1113 _ _ hR11), hT11.same e1113, hW, by omega, by omega, hne, fun H14 ps5 T5 e14 hE5 hQ5 => ?_⟩
        have hmore := rank_more hW hE5 hQ5 hE4 hQ4 hE3 hQ3 h1 h2 h3
        exact ⟨_, _, rfl, rfl, to_true (Q := Q) (decide_eq_true (by omega)) (kQ _)⟩
    · refine ⟨_, rfl, rfl, _, rfl, itd (fun h => nomatch h) (fun _ => ?_)⟩
      have hAp11 := e911 _ _ (e9 _ _ hAp)
      -- if not a list
      refine ⟨_, rfl, ap, sl.map gi, 0, 15, rfl, by rw [map_vg_int]; exact SqL.of hAp11, ?_⟩
      rw [allIn_vg]
      refine ⟨true, rfl, iteF ?_⟩
      refine ⟨_, rfl, ap, _, rfl, .inl (SqL.of hAp11), _, rfl, rfl, _, rfl, itnV (fun h => absurd (by rw [List.length_map, hsl]) h) (fun _ => ?_)⟩
      have hus2 := hT11.len
      refine ⟨_, rfl, _, rfl, rp, yp, us, ys.map vg, rfl, SqL.of hR11, SqL.of hY11, for_it (walk_zip (K := K) (a := rp) (b := yp) (xs := us) (ys := ys.map vg) (n := R.length) (by rw [List.length_map]; omega)) (fun i σ H' => Same H11 H' ∧ ∃ v7 v8 v9 v13 : Option V, σ = st28b a ht wd rp yp kn v6 v7 v8 v9 cp ap ps.length v13)
        ⟨Same.refl _, v7, v8, v9, none, rfl⟩ (fun i σ H' _ ⟨e, _⟩ => ⟨SqL.of (e _ _ hR11), SqL.of (e _ _ hY11)⟩) ?_ ?_⟩
      · rintro i x σ H2 H3 hi ⟨e, v7, v8, v9, v13, rfl⟩ ⟨T1, u, v, rfl, hT', rfl, hu, hv⟩
        obtain ⟨q, c1, c2, c3⟩ := hT11.at hi
        obtain rfl : V.ref q = u := Option.some.inj (c1.symm.trans hu)
        obtain ⟨hq, rfl⟩ := get_vg hv
        have hwq := hW.ro hi
        have e2 := e.trans (same_upd (o := .tup [V.ref q, vg (co ys i)]) hT')
        refine ⟨T1, _, rfl, SqT.of upd_same, rfl, _, _, rfl, _, _, rfl, rfl, ?_⟩
        generalize upd H2 T1 (.tup [V.ref q, vg (co ys i)]) = H3 at e2 ⊢
        refine ⟨_, rfl, wd, rfl, by omega, by omega, ?_⟩
        refine for_range (lo := 0) (n := wd) (fun j σ H' => Same H3 H' ∧ ∃ v9 : Option V, σ = st28b a ht wd rp yp kn v6 (some (.ref q)) (some (vg (gs j fun j => gm (co (ro R i) j) (co sl j)))) v9 cp ap ps.length (some (vg (co ys i)))) ⟨Same.refl _, v9, rfl⟩ ?_ ?_
        · rintro j σ H4 hj ⟨e4, v9, rfl⟩
          have ez : (0 : Int) + (j : Int) = (j : Int) := by omega
          refine ⟨_, rfl, _, rfl, _, rfl, q, _, _, vg (co (ro R i) j), rfl, rfl, SqL.of (e4 _ _ (e2 _ _ c3)), at_nat (j := j) ez (vg_get (by omega)), _, rfl, _, rfl, ap, _, _, vg (co sl j), rfl, rfl, SqL.of (e4 _ _ (e2 _ _ hAp11)), at_nat (j := j) ez (vg_get (by omega)), co (ro R i) j, co sl j, rfl, fun Ha ea => ?_⟩
          refine ⟨_, _, rfl, rfl, e4.trans ea, some (.int (0 + (j : Int))), ?_⟩
          show _ = st28b a ht wd rp yp kn v6 _ (some (vg (ga (gs j fun j => gm (co (ro R i) j) (co sl j)) (gm (co (ro R i) j) (co sl j))))) _ cp ap ps.length _
          rw [← vg_xor]
          rfl
        · rintro σ H4 ⟨e4, v9, rfl⟩
          refine ⟨_, rfl, _, rfl, rfl, _, rfl, itnV (fun h => absurd (by rw [hsol i hi]) h) (fun _ => ?_)⟩
          exact ⟨e2.trans e4, _, _, _, _, rfl⟩
      · rintro σ H2 ⟨e, v7, v8, v9, v13, rfl⟩
        exact kQ _

end
def names : List Str := ["solve_system"]
theorem law_mk {P : Program} {w : World} {K : PySem.W.Frag} {mg : Str → Option Value} {C_InvalidSymbol c_solve_system P_solve_system : Addr} {C_fa : Addr} (T : Txt K mg C_InvalidSymbol c_solve_system P_solve_system) (hfa : mg "law" = some (.ref C_fa)) (tb_solve_system : PySem.W.tabIn K "solve_system" = some (c_solve_system, P_solve_system)) : ∃ (fd : FuncData) (cs : List (Str × Addr × Addr)), (∀ t ∈ cs, t.1 ∈ names ∧ PySem.W.tabIn K t.1 = some t.2) ∧ (∀ (s : Shared) (v : Value), BindsTo s fd ⟨[v], []⟩ [("script", v)]) ∧ ∀ base : Heap, K.In base → base.Ns mainGlobals mg → (∀ t ∈ cs, LamX.TabB base mg t.2.1 t.2.2) → FnOk P w K mg base CX0 6 C_fa fd ["script"] (GX.spLawT K (cs.map (·.2.2))) := by
  obtain ⟨f, fd, F, g, b⟩ := id T.d_law
  have e := hfa.symm.trans g
  cases e
  refine ⟨fd, [("solve_system", c_solve_system, P_solve_system)], fun t ht => ?_, fun s v => ?_, fun base _ _ hT => ?_⟩
  · simp only [List.mem_cons, List.not_mem_nil, or_false] at ht
    subst ht
    exact ⟨.head _, tb_solve_system⟩
  · obtain ⟨oc, od, kV, doc, pm, an, cdv, ct, osl, rfl, lk, hcd⟩ := F.ex
    exact .of_eq rfl
  · haveI : Tbs base mg c_solve_system P_solve_system := ⟨GX.tb_of (hT ("solve_system", c_solve_system, P_solve_system) (by simp))⟩
    exact ok_law0 T _ fd F
theorem law_end {P : Program} {w : World} {K : PySem.W.Frag} {h : Heap} {mg : Str → Option Value} {C_fa : Addr} {C_InvalidSymbol c_solve_system P_solve_system : Addr} {f_is_symbol : Addr} {oc_is_symbol kV_is_symbol dc_is_symbol pm_is_symbol cd_is_symbol ct_is_symbol : Value} {od_is_symbol an_is_symbol : Option Addr} {sl_is_symbol : Array (Option Value)} {f_inverse : Addr} {oc_inverse kV_inverse dc_inverse pm_inverse cd_inverse ct_inverse : Value} {od_inverse an_inverse : Option Addr} {sl_inverse : Array (Option Value)} {f_scaled : Addr} {oc_scaled kV_scaled dc_scaled pm_scaled cd_scaled ct_scaled : Value} {od_scaled an_scaled : Option Addr} {sl_scaled : Array (Option Value)} {f_plus_scaled : Addr} {oc_plus_scaled kV_plus_scaled dc_plus_scaled pm_plus_scaled cd_plus_scaled ct_plus_scaled : Value} {od_plus_scaled an_plus_scaled : Option Addr} {sl_plus_scaled : Array (Option Value)} {f__check_symbol : Addr} {oc__check_symbol kV__check_symbol dc__check_symbol pm__check_symbol cd__check_symbol ct__check_symbol : Value} {od__check_symbol an__check_symbol : Option Addr} {sl__check_symbol : Array (Option Value)} {f_solve_system : Addr} {oc_solve_system kV_solve_system dc_solve_system pm_solve_system ct_solve_system : Value} {od_solve_system an_solve_system : Option Addr} {sl_solve_system : Array (Option Value)} {f_rank : Addr} {oc_rank kV_rank dc_rank pm_rank cd_rank ct_rank : Value} {od_rank an_rank : Option Addr} {sl_rank : Array (Option Value)} {f__eliminated : Addr} {oc__eliminated kV__eliminated dc__eliminated pm__eliminated cd__eliminated ct__eliminated : Value} {od__eliminated an__eliminated : Option Addr} {sl__eliminated : Array (Option Value)} {f__first_with : Addr} {oc__first_with kV__first_with dc__first_with pm__first_with cd__first_with ct__first_with : Value} {od__first_with an__first_with : Option Addr} {sl__first_with : Array (Option Value)} {f__law_cell : Addr} {oc__law_cell kV__law_cell dc__law_cell pm__law_cell cd__law_cell ct__law_cell : Value} {od__law_cell an__law_cell : Option Addr} {sl__law_cell : Array (Option Value)} {f__law_mix : Addr} {oc__law_mix kV__law_mix dc__law_mix pm__law_mix cd__law_mix ct__law_mix : Value} {od__law_mix an__law_mix : Option Addr} {sl__law_mix : Array (Option Value)} {f__law_row : Addr} {oc__law_row kV__law_row dc__law_row pm__law_row cd__law_row ct__law_row : Value} {od__law_row an__law_row : Option Addr} {sl__law_row : Array (Option Value)} {f__law_is_int : Addr} {oc__law_is_int kV__law_is_int dc__law_is_int pm__law_is_int cd__law_is_int ct__law_is_int : Value} {od__law_is_int an__law_is_int : Option Addr} {sl__law_is_int : Array (Option Value)} {f__law_is_list : Addr} {oc__law_is_list kV__law_is_list dc__law_is_list pm__law_is_list cd__law_is_list ct__law_is_list : Value} {od__law_is_list an__law_is_list : Option Addr} {sl__law_is_list : Array (Option Value)} {f__law_times : Addr} {oc__law_times kV__law_times dc__law_times pm__law_times cd__law_times ct__law_times : Value} {od__law_times an__law_times : Option Addr} {sl__law_times : Array (Option Value)} {f__law_rows : Addr} {oc__law_rows kV__law_rows dc__law_rows pm__law_rows cd__law_rows ct__law_rows : Value} {od__law_rows an__law_rows : Option Addr} {sl__law_rows : Array (Option Value)} {f__law_rank : Addr} {oc__law_rank kV__law_rank dc__law_rank pm__law_rank cd__law_rank ct__law_rank : Value} {od__law_rank an__law_rank : Option Addr} {sl__law_rank : Array (Option Value)} {f_law : Addr} {oc_law kV_law dc_law pm_law cd_law ct_law : Value} {od_law an_law : Option Addr} {sl_law : Array (Option Value)} {t_SYMBOLS : Tok} {p_PRODUCTS : Addr} {od_PRODUCTS : Option Addr} {sl_PRODUCTS : Array (Option Value)} {n_PRODUCTS : Nat} {its_PRODUCTS : Array Value} {r0_PRODUCTS : Addr} {rz0_PRODUCTS : Array (Option Value)} {rn0_PRODUCTS : Nat} {ri0_PRODUCTS : Array Value} {r1_PRODUCTS : Addr} {rz1_PRODUCTS : Array (Option Value)} {rn1_PRODUCTS : Nat} {ri1_PRODUCTS : Array Value} {r2_PRODUCTS : Addr} {rz2_PRODUCTS : Array (Option Value)} {rn2_PRODUCTS : Nat} {ri2_PRODUCTS : Array Value} {r3_PRODUCTS : Addr} {rz3_PRODUCTS : Array (Option Value)} {rn3_PRODUCTS : Nat} {ri3_PRODUCTS : Array Value} {r4_PRODUCTS : Addr} {rz4_PRODUCTS : Array (Option Value)} {rn4_PRODUCTS : Nat} {ri4_PRODUCTS : Array Value} {r5_PRODUCTS : Addr} {rz5_PRODUCTS : Array (Option Value)} {rn5_PRODUCTS : Nat} {ri5_PRODUCTS : Array Value} {r6_PRODUCTS : Addr} {rz6_PRODUCTS : Array (Option Value)} {rn6_PRODUCTS : Nat} {ri6_PRODUCTS : Array Value} {r7_PRODUCTS : Addr} {rz7_PRODUCTS : Array (Option Value)} {rn7_PRODUCTS : Nat} {ri7_PRODUCTS : Array Value} {r8_PRODUCTS : Addr} {rz8_PRODUCTS : Array (Option Value)} {rn8_PRODUCTS : Nat} {ri8_PRODUCTS : Array Value} {r9_PRODUCTS : Addr} {rz9_PRODUCTS : Array (Option Value)} {rn9_PRODUCTS : Nat} {ri9_PRODUCTS : Array Value} {r10_PRODUCTS : Addr} {rz10_PRODUCTS : Array (Option Value)} {rn10_PRODUCTS : Nat} {ri10_PRODUCTS : Array Value} {r11_PRODUCTS : Addr} {rz11_PRODUCTS : Array (Option Value)} {rn11_PRODUCTS : Nat} {ri11_PRODUCTS : Array Value} {r12_PRODUCTS : Addr} {rz12_PRODUCTS : Array (Option Value)} {rn12_PRODUCTS : Nat} {ri12_PRODUCTS : Array Value} {r13_PRODUCTS : Addr} {rz13_PRODUCTS : Array (Option Value)} {rn13_PRODUCTS : Nat} {ri13_PRODUCTS : Array Value} {r14_PRODUCTS : Addr} {rz14_PRODUCTS : Array (Option Value)} {rn14_PRODUCTS : Nat} {ri14_PRODUCTS : Array Value} {r15_PRODUCTS : Addr} {rz15_PRODUCTS : Array (Option Value)} {rn15_PRODUCTS : Nat} {ri15_PRODUCTS : Array Value} {cc_solve_system : Value} {ce_solve_system : Option Addr} {cf_solve_system : Array Value} {cg_solve_system : Array (Option Value)} (X : K.In h) (G : h.Ns mainGlobals mg) (hfa : mg "law" = some (.ref C_fa))
    (a_is_symbol : PySem.W.nsIn K mainGlobals "is_symbol" = some (some (.ref f_is_symbol)))
    (l_is_symbol : K.lookup f_is_symbol = some ⟨oc_is_symbol, od_is_symbol, .func (PySem.W.fnOf "is_symbol" "is_symbol" (defArgs s_is_symbol) (defBody s_is_symbol) (defScope s_is_symbol) .none kV_is_symbol dc_is_symbol pm_is_symbol an_is_symbol cd_is_symbol ct_is_symbol), sl_is_symbol⟩)
    (c_is_symbol : PySem.W.codeIn K cd_is_symbol "is_symbol" = true)
    (k_is_symbol : PySem.W.keepIn K (.ref f_is_symbol) = true)
    (a_inverse : PySem.W.nsIn K mainGlobals "inverse" = some (some (.ref f_inverse)))
    (l_inverse : K.lookup f_inverse = some ⟨oc_inverse, od_inverse, .func (PySem.W.fnOf "inverse" "inverse" (defArgs s_inverse) (defBody s_inverse) (defScope s_inverse) .none kV_inverse dc_inverse pm_inverse an_inverse cd_inverse ct_inverse), sl_inverse⟩)
    (c_inverse : PySem.W.codeIn K cd_inverse "inverse" = true)
    (k_inverse : PySem.W.keepIn K (.ref f_inverse) = true)
    (a_scaled : PySem.W.nsIn K mainGlobals "scaled" = some (some (.ref f_scaled)))
    (l_scaled : K.lookup f_scaled = some ⟨oc_scaled, od_scaled, .func (PySem.W.fnOf "scaled" "scaled" (defArgs s_scaled) (defBody s_scaled) (defScope s_scaled) .none kV_scaled dc_scaled pm_scaled an_scaled cd_scaled ct_scaled), sl_scaled⟩)
    (c_scaled : PySem.W.codeIn K cd_scaled "scaled" = true)
    (k_scaled : PySem.W.keepIn K (.ref f_scaled) = true)
    (a_plus_scaled : PySem.W.nsIn K mainGlobals "plus_scaled" = some (some (.ref f_plus_scaled)))
    (l_plus_scaled : K.lookup f_plus_scaled = some ⟨oc_plus_scaled, od_plus_scaled, .func (PySem.W.fnOf "plus_scaled" "plus_scaled" (defArgs s_plus_scaled) (defBody s_plus_scaled) (defScope s_plus_scaled) .none kV_plus_scaled dc_plus_scaled pm_plus_scaled an_plus_scaled cd_plus_scaled ct_plus_scaled), sl_plus_scaled⟩)
    (c_plus_scaled : PySem.W.codeIn K cd_plus_scaled "plus_scaled" = true)
    (k_plus_scaled : PySem.W.keepIn K (.ref f_plus_scaled) = true)
    (a__check_symbol : PySem.W.nsIn K mainGlobals "_check_symbol" = some (some (.ref f__check_symbol)))
    (l__check_symbol : K.lookup f__check_symbol = some ⟨oc__check_symbol, od__check_symbol, .func (PySem.W.fnOf "_check_symbol" "_check_symbol" (defArgs s__check_symbol) (defBody s__check_symbol) (defScope s__check_symbol) .none kV__check_symbol dc__check_symbol pm__check_symbol an__check_symbol cd__check_symbol ct__check_symbol), sl__check_symbol⟩)
    (c__check_symbol : PySem.W.codeIn K cd__check_symbol "_check_symbol" = true)
    (k__check_symbol : PySem.W.keepIn K (.ref f__check_symbol) = true)
    (a_solve_system : PySem.W.nsIn K mainGlobals "solve_system" = some (some (.ref f_solve_system)))
    (l_solve_system : K.lookup f_solve_system = some ⟨oc_solve_system, od_solve_system, .func (PySem.W.fnOf "solve_system" "solve_system" (defArgs s_solve_system) (defBody s_solve_system) (defScope s_solve_system) .none kV_solve_system dc_solve_system pm_solve_system an_solve_system (.ref c_solve_system) ct_solve_system), sl_solve_system⟩)
    (e_solve_system : PySem.W.codeIn K (.ref c_solve_system) "solve_system" = true)
    (k_solve_system : PySem.W.keepIn K (.ref f_solve_system) = true)
    (a_rank : PySem.W.nsIn K mainGlobals "rank" = some (some (.ref f_rank)))
    (l_rank : K.lookup f_rank = some ⟨oc_rank, od_rank, .func (PySem.W.fnOf "rank" "rank" (defArgs s_rank) (defBody s_rank) (defScope s_rank) .none kV_rank dc_rank pm_rank an_rank cd_rank ct_rank), sl_rank⟩)
    (c_rank : PySem.W.codeIn K cd_rank "rank" = true)
    (k_rank : PySem.W.keepIn K (.ref f_rank) = true)
    (a__eliminated : PySem.W.nsIn K mainGlobals "_eliminated" = some (some (.ref f__eliminated)))
    (l__eliminated : K.lookup f__eliminated = some ⟨oc__eliminated, od__eliminated, .func (PySem.W.fnOf "_eliminated" "_eliminated" (defArgs s__eliminated) (defBody s__eliminated) (defScope s__eliminated) .none kV__eliminated dc__eliminated pm__eliminated an__eliminated cd__eliminated ct__eliminated), sl__eliminated⟩)
    (c__eliminated : PySem.W.codeIn K cd__eliminated "_eliminated" = true)
    (k__eliminated : PySem.W.keepIn K (.ref f__eliminated) = true)
    (a__first_with : PySem.W.nsIn K mainGlobals "_first_with" = some (some (.ref f__first_with)))
    (l__first_with : K.lookup f__first_with = some ⟨oc__first_with, od__first_with, .func (PySem.W.fnOf "_first_with" "_first_with" (defArgs s__first_with) (defBody s__first_with) (defScope s__first_with) .none kV__first_with dc__first_with pm__first_with an__first_with cd__first_with ct__first_with), sl__first_with⟩)
    (c__first_with : PySem.W.codeIn K cd__first_with "_first_with" = true)
    (k__first_with : PySem.W.keepIn K (.ref f__first_with) = true)
    (a__law_cell : PySem.W.nsIn K mainGlobals "_law_cell" = some (some (.ref f__law_cell)))
    (l__law_cell : K.lookup f__law_cell = some ⟨oc__law_cell, od__law_cell, .func (PySem.W.fnOf "_law_cell" "_law_cell" (defArgs s__law_cell) (defBody s__law_cell) (defScope s__law_cell) .none kV__law_cell dc__law_cell pm__law_cell an__law_cell cd__law_cell ct__law_cell), sl__law_cell⟩)
    (c__law_cell : PySem.W.codeIn K cd__law_cell "_law_cell" = true)
    (k__law_cell : PySem.W.keepIn K (.ref f__law_cell) = true)
    (a__law_mix : PySem.W.nsIn K mainGlobals "_law_mix" = some (some (.ref f__law_mix)))
    (l__law_mix : K.lookup f__law_mix = some ⟨oc__law_mix, od__law_mix, .func (PySem.W.fnOf "_law_mix" "_law_mix" (defArgs s__law_mix) (defBody s__law_mix) (defScope s__law_mix) .none kV__law_mix dc__law_mix pm__law_mix an__law_mix cd__law_mix ct__law_mix), sl__law_mix⟩)
    (c__law_mix : PySem.W.codeIn K cd__law_mix "_law_mix" = true)
    (k__law_mix : PySem.W.keepIn K (.ref f__law_mix) = true)
    (a__law_row : PySem.W.nsIn K mainGlobals "_law_row" = some (some (.ref f__law_row)))
    (l__law_row : K.lookup f__law_row = some ⟨oc__law_row, od__law_row, .func (PySem.W.fnOf "_law_row" "_law_row" (defArgs s__law_row) (defBody s__law_row) (defScope s__law_row) .none kV__law_row dc__law_row pm__law_row an__law_row cd__law_row ct__law_row), sl__law_row⟩)
    (c__law_row : PySem.W.codeIn K cd__law_row "_law_row" = true)
    (k__law_row : PySem.W.keepIn K (.ref f__law_row) = true)
    (a__law_is_int : PySem.W.nsIn K mainGlobals "_law_is_int" = some (some (.ref f__law_is_int)))
    (l__law_is_int : K.lookup f__law_is_int = some ⟨oc__law_is_int, od__law_is_int, .func (PySem.W.fnOf "_law_is_int" "_law_is_int" (defArgs s__law_is_int) (defBody s__law_is_int) (defScope s__law_is_int) .none kV__law_is_int dc__law_is_int pm__law_is_int an__law_is_int cd__law_is_int ct__law_is_int), sl__law_is_int⟩)
    (c__law_is_int : PySem.W.codeIn K cd__law_is_int "_law_is_int" = true)
    (k__law_is_int : PySem.W.keepIn K (.ref f__law_is_int) = true)
    (a__law_is_list : PySem.W.nsIn K mainGlobals "_law_is_list" = some (some (.ref f__law_is_list)))
    (l__law_is_list : K.lookup f__law_is_list = some ⟨oc__law_is_list, od__law_is_list, .func (PySem.W.fnOf "_law_is_list" "_law_is_list" (defArgs s__law_is_list) (defBody s__law_is_list) (defScope s__law_is_list) .none kV__law_is_list dc__law_is_list pm__law_is_list an__law_is_list cd__law_is_list ct__law_is_list), sl__law_is_list⟩)
    (c__law_is_list : PySem.W.codeIn K cd__law_is_list "_law_is_list" = true)
    (k__law_is_list : PySem.W.keepIn K (.ref f__law_is_list) = true)
    (a__law_times : PySem.W.nsIn K mainGlobals "_law_times" = some (some (.ref f__law_times)))
    (l__law_times : K.lookup f__law_times = some ⟨oc__law_times, od__law_times, .func (PySem.W.fnOf "_law_times" "_law_times" (defArgs s__law_times) (defBody s__law_times) (defScope s__law_times) .none kV__law_times dc__law_times pm__law_times an__law_times cd__law_times ct__law_times), sl__law_times⟩)
    (c__law_times : PySem.W.codeIn K cd__law_times "_law_times" = true)
    (k__law_times : PySem.W.keepIn K (.ref f__law_times) = true)
    (a__law_rows : PySem.W.nsIn K mainGlobals "_law_rows" = some (some (.ref f__law_rows)))
    (l__law_rows : K.lookup f__law_rows = some ⟨oc__law_rows, od__law_rows, .func (PySem.W.fnOf "_law_rows" "_law_rows" (defArgs s__law_rows) (defBody s__law_rows) (defScope s__law_rows) .none kV__law_rows dc__law_rows pm__law_rows an__law_rows cd__law_rows ct__law_rows), sl__law_rows⟩)
    (c__law_rows : PySem.W.codeIn K cd__law_rows "_law_rows" = true)
    (k__law_rows : PySem.W.keepIn K (.ref f__law_rows) = true)
    (a__law_rank : PySem.W.nsIn K mainGlobals "_law_rank" = some (some (.ref f__law_rank)))
    (l__law_rank : K.lookup f__law_rank = some ⟨oc__law_rank, od__law_rank, .func (PySem.W.fnOf "_law_rank" "_law_rank" (defArgs s__law_rank) (defBody s__law_rank) (defScope s__law_rank) .none kV__law_rank dc__law_rank pm__law_rank an__law_rank cd__law_rank ct__law_rank), sl__law_rank⟩)
    (c__law_rank : PySem.W.codeIn K cd__law_rank "_law_rank" = true)
    (k__law_rank : PySem.W.keepIn K (.ref f__law_rank) = true)
    (a_law : PySem.W.nsIn K mainGlobals "law" = some (some (.ref f_law)))
    (l_law : K.lookup f_law = some ⟨oc_law, od_law, .func (PySem.W.fnOf "law" "law" (defArgs s_law) (defBody s_law) (defScope s_law) .none kV_law dc_law pm_law an_law cd_law ct_law), sl_law⟩)
    (c_law : PySem.W.codeIn K cd_law "law" = true)
    (k_law : PySem.W.keepIn K (.ref f_law) = true)
    (a_SYMBOLS : PySem.W.nsIn K mainGlobals "SYMBOLS" = some (some (.int 16 t_SYMBOLS)))
    (a_PRODUCTS : PySem.W.nsIn K mainGlobals "PRODUCTS" = some (some (.ref p_PRODUCTS)))
    (l_PRODUCTS : K.lookup p_PRODUCTS = some ⟨.type "tuple", od_PRODUCTS, .seq its_PRODUCTS n_PRODUCTS, sl_PRODUCTS⟩)
    (e_PRODUCTS : its_PRODUCTS.toList = [Value.ref r0_PRODUCTS, Value.ref r1_PRODUCTS, Value.ref r2_PRODUCTS, Value.ref r3_PRODUCTS, Value.ref r4_PRODUCTS, Value.ref r5_PRODUCTS, Value.ref r6_PRODUCTS, Value.ref r7_PRODUCTS, Value.ref r8_PRODUCTS, Value.ref r9_PRODUCTS, Value.ref r10_PRODUCTS, Value.ref r11_PRODUCTS, Value.ref r12_PRODUCTS, Value.ref r13_PRODUCTS, Value.ref r14_PRODUCTS, Value.ref r15_PRODUCTS])
    (rl0_PRODUCTS : K.lookup r0_PRODUCTS = some ⟨.type "tuple", none, .seq ri0_PRODUCTS rn0_PRODUCTS, rz0_PRODUCTS⟩)
    (rv0_PRODUCTS : Vals [V.int 0, V.int 0, V.int 0, V.int 0, V.int 0, V.int 0, V.int 0, V.int 0, V.int 0, V.int 0, V.int 0, V.int 0, V.int 0, V.int 0, V.int 0, V.int 0] ri0_PRODUCTS.toList)
    (rl1_PRODUCTS : K.lookup r1_PRODUCTS = some ⟨.type "tuple", none, .seq ri1_PRODUCTS rn1_PRODUCTS, rz1_PRODUCTS⟩)
    (rv1_PRODUCTS : Vals [V.int 0, V.int 1, V.int 2, V.int 3, V.int 4, V.int 5, V.int 6, V.int 7, V.int 8, V.int 9, V.int 10, V.int 11, V.int 12, V.int 13, V.int 14, V.int 15] ri1_PRODUCTS.toList)
    (rl2_PRODUCTS : K.lookup r2_PRODUCTS = some ⟨.type "tuple", none, .seq ri2_PRODUCTS rn2_PRODUCTS, rz2_PRODUCTS⟩)
    (rv2_PRODUCTS : Vals [V.int 0, V.int 2, V.int 4, V.int 6, V.int 8, V.int 10, V.int 12, V.int 14, V.int 3, V.int 1, V.int 7, V.int 5, V.int 11, V.int 9, V.int 15, V.int 13] ri2_PRODUCTS.toList)
    (rl3_PRODUCTS : K.lookup r3_PRODUCTS = some ⟨.type "tuple", none, .seq ri3_PRODUCTS rn3_PRODUCTS, rz3_PRODUCTS⟩)
    (rv3_PRODUCTS : Vals [V.int 0, V.int 3, V.int 6, V.int 5, V.int 12, V.int 15, V.int 10, V.int 9, V.int 11, V.int 8, V.int 13, V.int 14, V.int 7, V.int 4, V.int 1, V.int 2] ri3_PRODUCTS.toList)
    (rl4_PRODUCTS : K.lookup r4_PRODUCTS = some ⟨.type "tuple", none, .seq ri4_PRODUCTS rn4_PRODUCTS, rz4_PRODUCTS⟩)
    (rv4_PRODUCTS : Vals [V.int 0, V.int 4, V.int 8, V.int 12, V.int 3, V.int 7, V.int 11, V.int 15, V.int 6, V.int 2, V.int 14, V.int 10, V.int 5, V.int 1, V.int 13, V.int 9] ri4_PRODUCTS.toList)
    (rl5_PRODUCTS : K.lookup r5_PRODUCTS = some ⟨.type "tuple", none, .seq ri5_PRODUCTS rn5_PRODUCTS, rz5_PRODUCTS⟩)
    (rv5_PRODUCTS : Vals [V.int 0, V.int 5, V.int 10, V.int 15, V.int 7, V.int 2, V.int 13, V.int 8, V.int 14, V.int 11, V.int 4, V.int 1, V.int 9, V.int 12, V.int 3, V.int 6] ri5_PRODUCTS.toList)
    (rl6_PRODUCTS : K.lookup r6_PRODUCTS = some ⟨.type "tuple", none, .seq ri6_PRODUCTS rn6_PRODUCTS, rz6_PRODUCTS⟩)
    (rv6_PRODUCTS : Vals [V.int 0, V.int 6, V.int 12, V.int 10, V.int 11, V.int 13, V.int 7, V.int 1, V.int 5, V.int 3, V.int 9, V.int 15, V.int 14, V.int 8, V.int 2, V.int 4] ri6_PRODUCTS.toList)
    (rl7_PRODUCTS : K.lookup r7_PRODUCTS = some ⟨.type "tuple", none, .seq ri7_PRODUCTS rn7_PRODUCTS, rz7_PRODUCTS⟩)
    (rv7_PRODUCTS : Vals [V.int 0, V.int 7, V.int 14, V.int 9, V.int 15, V.int 8, V.int 1, V.int 6, V.int 13, V.int 10, V.int 3, V.int 4, V.int 2, V.int 5, V.int 12, V.int 11] ri7_PRODUCTS.toList)
    (rl8_PRODUCTS : K.lookup r8_PRODUCTS = some ⟨.type "tuple", none, .seq ri8_PRODUCTS rn8_PRODUCTS, rz8_PRODUCTS⟩)
    (rv8_PRODUCTS : Vals [V.int 0, V.int 8, V.int 3, V.int 11, V.int 6, V.int 14, V.int 5, V.int 13, V.int 12, V.int 4, V.int 15, V.int 7, V.int 10, V.int 2, V.int 9, V.int 1] ri8_PRODUCTS.toList)
    (rl9_PRODUCTS : K.lookup r9_PRODUCTS = some ⟨.type "tuple", none, .seq ri9_PRODUCTS rn9_PRODUCTS, rz9_PRODUCTS⟩)
    (rv9_PRODUCTS : Vals [V.int 0, V.int 9, V.int 1, V.int 8, V.int 2, V.int 11, V.int 3, V.int 10, V.int 4, V.int 13, V.int 5, V.int 12, V.int 6, V.int 15, V.int 7, V.int 14] ri9_PRODUCTS.toList)
    (rl10_PRODUCTS : K.lookup r10_PRODUCTS = some ⟨.type "tuple", none, .seq ri10_PRODUCTS rn10_PRODUCTS, rz10_PRODUCTS⟩)
    (rv10_PRODUCTS : Vals [V.int 0, V.int 10, V.int 7, V.int 13, V.int 14, V.int 4, V.int 9, V.int 3, V.int 15, V.int 5, V.int 8, V.int 2, V.int 1, V.int 11, V.int 6, V.int 12] ri10_PRODUCTS.toList)
    (rl11_PRODUCTS : K.lookup r11_PRODUCTS = some ⟨.type "tuple", none, .seq ri11_PRODUCTS rn11_PRODUCTS, rz11_PRODUCTS⟩)
    (rv11_PRODUCTS : Vals [V.int 0, V.int 11, V.int 5, V.int 14, V.int 10, V.int 1, V.int 15, V.int 4, V.int 7, V.int 12, V.int 2, V.int 9, V.int 13, V.int 6, V.int 8, V.int 3] ri11_PRODUCTS.toList)
    (rl12_PRODUCTS : K.lookup r12_PRODUCTS = some ⟨.type "tuple", none, .seq ri12_PRODUCTS rn12_PRODUCTS, rz12_PRODUCTS⟩)
    (rv12_PRODUCTS : Vals [V.int 0, V.int 12, V.int 11, V.int 7, V.int 5, V.int 9, V.int 14, V.int 2, V.int 10, V.int 6, V.int 1, V.int 13, V.int 15, V.int 3, V.int 4, V.int 8] ri12_PRODUCTS.toList)
    (rl13_PRODUCTS : K.lookup r13_PRODUCTS = some ⟨.type "tuple", none, .seq ri13_PRODUCTS rn13_PRODUCTS, rz13_PRODUCTS⟩)
    (rv13_PRODUCTS : Vals [V.int 0, V.int 13, V.int 9, V.int 4, V.int 1, V.int 12, V.int 8, V.int 5, V.int 2, V.int 15, V.int 11, V.int 6, V.int 3, V.int 14, V.int 10, V.int 7] ri13_PRODUCTS.toList)
    (rl14_PRODUCTS : K.lookup r14_PRODUCTS = some ⟨.type "tuple", none, .seq ri14_PRODUCTS rn14_PRODUCTS, rz14_PRODUCTS⟩)
    (rv14_PRODUCTS : Vals [V.int 0, V.int 14, V.int 15, V.int 1, V.int 13, V.int 3, V.int 2, V.int 12, V.int 9, V.int 7, V.int 6, V.int 8, V.int 4, V.int 10, V.int 11, V.int 5] ri14_PRODUCTS.toList)
    (rl15_PRODUCTS : K.lookup r15_PRODUCTS = some ⟨.type "tuple", none, .seq ri15_PRODUCTS rn15_PRODUCTS, rz15_PRODUCTS⟩)
    (rv15_PRODUCTS : Vals [V.int 0, V.int 15, V.int 13, V.int 2, V.int 9, V.int 6, V.int 4, V.int 11, V.int 1, V.int 14, V.int 12, V.int 3, V.int 8, V.int 7, V.int 5, V.int 10] ri15_PRODUCTS.toList)
    (z_zip : PySem.W.nsIn K mainGlobals "zip" = some none)
    (z_len : PySem.W.nsIn K mainGlobals "len" = some none)
    (z_any : PySem.W.nsIn K mainGlobals "any" = some none)
    (z_list : PySem.W.nsIn K mainGlobals "list" = some none)
    (z_range : PySem.W.nsIn K mainGlobals "range" = some none)
    (z_int : PySem.W.nsIn K mainGlobals "int" = some none)
    (z_abs : PySem.W.nsIn K mainGlobals "abs" = some none)
    (z_isinstance : PySem.W.nsIn K mainGlobals "isinstance" = some none)
    (z_bool : PySem.W.nsIn K mainGlobals "bool" = some none)
    (a_InvalidSymbol : PySem.W.nsIn K mainGlobals "InvalidSymbol" = some (some (.ref C_InvalidSymbol)))
    (x_InvalidSymbol : PySem.W.excIn K C_InvalidSymbol [.type "ValueError", .type "Exception", .type "BaseException", .type "object"] "ValueError.__new__" = true)
    (k_InvalidSymbol : PySem.W.keepIn K (.ref C_InvalidSymbol) = true)
    (b_InvalidSymbol : PySem.W.subIn K (.ref C_InvalidSymbol) (.type "BaseException") = some true)
    (t_InvalidSymbol : PySem.W.typeIn K (.ref C_InvalidSymbol) = some (.type "type"))
    (g_InvalidSymbol : PySem.W.findIn K (.ref C_InvalidSymbol) "__getattribute__" = some (some (.builtin "BaseException.__getattribute__")))
    (h_InvalidSymbol : PySem.W.findIn K (.ref C_InvalidSymbol) "__getattr__" = some none)
    (d_InvalidSymbol : PySem.W.hasDictIn K C_InvalidSymbol = true)
    (o_InvalidSymbol : PySem.W.findIn K (.ref C_InvalidSymbol) "__class__" = some (some (.builtin "object.__class__")))
    (n_InvalidSymbol : PySem.W.specialIn K (.builtin "object.__class__") "__get__" = some (some (.builtin "getset_descriptor.__get__")))
    (m_InvalidSymbol : PySem.W.takesIn K (.builtin "object.__class__") = some true)
    (r_InvalidSymbol : PySem.W.mroIn K C_InvalidSymbol (.type "object") = some true)
    (i_InvalidSymbol : PySem.W.isClsIn K C_InvalidSymbol = true)
    (lc_solve_system : K.lookup c_solve_system = some ⟨cc_solve_system, ce_solve_system, .fields cf_solve_system, cg_solve_system⟩)
    (tv_solve_system : cf_solve_system[11]? = some (.ref P_solve_system))
    : ∃ (fd : FuncData) (cs : List (Str × Addr × Addr)), (∀ t ∈ cs, t.1 ∈ names ∧ PySem.W.tabIn K t.1 = some t.2) ∧ (∀ (s : Shared) (v : Value), BindsTo s fd ⟨[v], []⟩ [("script", v)]) ∧ ∀ base : Heap, K.In base → base.Ns mainGlobals mg → (∀ t ∈ cs, LamX.TabB base mg t.2.1 t.2.2) → FnOk P w K mg base CX0 6 C_fa fd ["script"] (GX.spLawT K (cs.map (·.2.2))) :=
  law_mk (T := ⟨dn_mk X G a_is_symbol l_is_symbol c_is_symbol k_is_symbol (fun _ _ _ _ _ _ us hl => match us, hl with | [_], _ => rfl),
    dn_mk X G a_inverse l_inverse c_inverse k_inverse (fun _ _ _ _ _ _ us hl => match us, hl with | [_], _ => rfl),
    dn_mk X G a_scaled l_scaled c_scaled k_scaled (fun _ _ _ _ _ _ us hl => match us, hl with | [_, _], _ => rfl),
    dn_mk X G a_plus_scaled l_plus_scaled c_plus_scaled k_plus_scaled (fun _ _ _ _ _ _ us hl => match us, hl with | [_, _, _], _ => rfl),
    dn_mk X G a__check_symbol l__check_symbol c__check_symbol k__check_symbol (fun _ _ _ _ _ _ us hl => match us, hl with | [_], _ => rfl),
    GX.dnc_mk X G a_solve_system l_solve_system e_solve_system k_solve_system (fun _ _ _ _ _ _ us hl => match us, hl with | [_, _], _ => rfl),
    dn_mk X G a_rank l_rank c_rank k_rank (fun _ _ _ _ _ _ us hl => match us, hl with | [_], _ => rfl),
    dn_mk X G a__eliminated l__eliminated c__eliminated k__eliminated (fun _ _ _ _ _ _ us hl => match us, hl with | [_, _], _ => rfl),
    dn_mk X G a__first_with l__first_with c__first_with k__first_with (fun _ _ _ _ _ _ us hl => match us, hl with | [_, _, _], _ => rfl),
    dn_mk X G a__law_cell l__law_cell c__law_cell k__law_cell (fun _ _ _ _ _ _ us hl => match us, hl with | [_, _], _ => rfl),
    dn_mk X G a__law_mix l__law_mix c__law_mix k__law_mix (fun _ _ _ _ _ _ us hl => match us, hl with | [_, _], _ => rfl),
    dn_mk X G a__law_row l__law_row c__law_row k__law_row (fun _ _ _ _ _ _ us hl => match us, hl with | [_, _, _], _ => rfl),
    dn_mk X G a__law_is_int l__law_is_int c__law_is_int k__law_is_int (fun _ _ _ _ _ _ us hl => match us, hl with | [_], _ => rfl),
    dn_mk X G a__law_is_list l__law_is_list c__law_is_list k__law_is_list (fun _ _ _ _ _ _ us hl => match us, hl with | [_, _, _], _ => rfl),
    dn_mk X G a__law_times l__law_times c__law_times k__law_times (fun _ _ _ _ _ _ us hl => match us, hl with | [_, _], _ => rfl),
    dn_mk X G a__law_rows l__law_rows c__law_rows k__law_rows (fun _ _ _ _ _ _ us hl => match us, hl with | [_, _, _], _ => rfl),
    dn_mk X G a__law_rank l__law_rank c__law_rank k__law_rank (fun _ _ _ _ _ _ us hl => match us, hl with | [_], _ => rfl),
    dn_mk X G a_law l_law c_law k_law (fun _ _ _ _ _ _ us hl => match us, hl with | [_], _ => rfl),
    cv_int X G a_SYMBOLS,
    CT2.ctt_mk (rs := [r0_PRODUCTS, r1_PRODUCTS, r2_PRODUCTS, r3_PRODUCTS, r4_PRODUCTS, r5_PRODUCTS, r6_PRODUCTS, r7_PRODUCTS, r8_PRODUCTS, r9_PRODUCTS, r10_PRODUCTS, r11_PRODUCTS, r12_PRODUCTS, r13_PRODUCTS, r14_PRODUCTS, r15_PRODUCTS]) X G a_PRODUCTS l_PRODUCTS e_PRODUCTS (by show 16 ≤ sizeLine; decide) (.cons (CT2.rowAt_mk rl0_PRODUCTS rv0_PRODUCTS (by decide)) (.cons (CT2.rowAt_mk rl1_PRODUCTS rv1_PRODUCTS (by decide)) (.cons (CT2.rowAt_mk rl2_PRODUCTS rv2_PRODUCTS (by decide)) (.cons (CT2.rowAt_mk rl3_PRODUCTS rv3_PRODUCTS (by decide)) (.cons (CT2.rowAt_mk rl4_PRODUCTS rv4_PRODUCTS (by decide)) (.cons (CT2.rowAt_mk rl5_PRODUCTS rv5_PRODUCTS (by decide)) (.cons (CT2.rowAt_mk rl6_PRODUCTS rv6_PRODUCTS (by decide)) (.cons (CT2.rowAt_mk rl7_PRODUCTS rv7_PRODUCTS (by decide)) (.cons (CT2.rowAt_mk rl8_PRODUCTS rv8_PRODUCTS (by decide)) (.cons (CT2.rowAt_mk rl9_PRODUCTS rv9_PRODUCTS (by decide)) (.cons (CT2.rowAt_mk rl10_PRODUCTS rv10_PRODUCTS (by decide)) (.cons (CT2.rowAt_mk rl11_PRODUCTS rv11_PRODUCTS (by decide)) (.cons (CT2.rowAt_mk rl12_PRODUCTS rv12_PRODUCTS (by decide)) (.cons (CT2.rowAt_mk rl13_PRODUCTS rv13_PRODUCTS (by decide)) (.cons (CT2.rowAt_mk rl14_PRODUCTS rv14_PRODUCTS (by decide)) (.cons (CT2.rowAt_mk rl15_PRODUCTS rv15_PRODUCTS (by decide)) .nil)))))))))))))))),
    PySem.W.mg_none_of X G z_zip,
    PySem.W.mg_none_of X G z_len,
    PySem.W.mg_none_of X G z_any,
    PySem.W.mg_none_of X G z_list,
    PySem.W.mg_none_of X G z_range,
    PySem.W.mg_none_of X G z_int,
    PySem.W.mg_none_of X G z_abs,
    PySem.W.mg_none_of X G z_isinstance,
    PySem.W.mg_none_of X G z_bool,
    xcl_mk X G a_InvalidSymbol x_InvalidSymbol k_InvalidSymbol b_InvalidSymbol t_InvalidSymbol g_InvalidSymbol h_InvalidSymbol d_InvalidSymbol o_InvalidSymbol n_InvalidSymbol m_InvalidSymbol r_InvalidSymbol i_InvalidSymbol⟩) hfa (GX.tabIn_mk a_solve_system l_solve_system rfl lc_solve_system tv_solve_system)
end My
open PySem PySem.W PyProof.Rows in
set_option maxRecDepth 100000 in
set_option maxHeartbeats 0 in
theorem PySem.Challenge.cw_scanpages_k28_linear_systems_holds : PySem.Challenge.rw_scanpages_k28_linear_systems.Holds := by
  w_on; o_law; k_head; (case hw => w_witness2)
  k_fill
  refine GX.walk_gx (l := PySem.Challenge.rw_scanpages_k28_linear_systems) (k := 6) (names := My.names) rfl rfl ⟨rfl, by decide, by decide⟩ (fun w h Y => PySem.W.kIn_of Y) ?NT ?RC ?F
  case NT => intro w; rfl
  case RC => decide +kernel
  case F =>
    intro w mg fa h KX G hmg
    refine' My.law_end KX G hmg ?a_is_symbol ?l_is_symbol ?c_is_symbol ?k_is_symbol ?a_inverse ?l_inverse ?c_inverse ?k_inverse ?a_scaled ?l_scaled ?c_scaled ?k_scaled ?a_plus_scaled ?l_plus_scaled ?c_plus_scaled ?k_plus_scaled ?a__check_symbol ?l__check_symbol ?c__check_symbol ?k__check_symbol ?a_solve_system ?l_solve_system ?e_solve_system ?k_solve_system ?a_rank ?l_rank ?c_rank ?k_rank ?a__eliminated ?l__eliminated ?c__eliminated ?k__eliminated ?a__first_with ?l__first_with ?c__first_with ?k__first_with ?a__law_cell ?l__law_cell ?c__law_cell ?k__law_cell ?a__law_mix ?l__law_mix ?c__law_mix ?k__law_mix ?a__law_row ?l__law_row ?c__law_row ?k__law_row ?a__law_is_int ?l__law_is_int ?c__law_is_int ?k__law_is_int ?a__law_is_list ?l__law_is_list ?c__law_is_list ?k__law_is_list ?a__law_times ?l__law_times ?c__law_times ?k__law_times ?a__law_rows ?l__law_rows ?c__law_rows ?k__law_rows ?a__law_rank ?l__law_rank ?c__law_rank ?k__law_rank ?a_law ?l_law ?c_law ?k_law ?a_SYMBOLS ?a_PRODUCTS ?l_PRODUCTS ?e_PRODUCTS ?rl0_PRODUCTS ?rv0_PRODUCTS ?rl1_PRODUCTS ?rv1_PRODUCTS ?rl2_PRODUCTS ?rv2_PRODUCTS ?rl3_PRODUCTS ?rv3_PRODUCTS ?rl4_PRODUCTS ?rv4_PRODUCTS ?rl5_PRODUCTS ?rv5_PRODUCTS ?rl6_PRODUCTS ?rv6_PRODUCTS ?rl7_PRODUCTS ?rv7_PRODUCTS ?rl8_PRODUCTS ?rv8_PRODUCTS ?rl9_PRODUCTS ?rv9_PRODUCTS ?rl10_PRODUCTS ?rv10_PRODUCTS ?rl11_PRODUCTS ?rv11_PRODUCTS ?rl12_PRODUCTS ?rv12_PRODUCTS ?rl13_PRODUCTS ?rv13_PRODUCTS ?rl14_PRODUCTS ?rv14_PRODUCTS ?rl15_PRODUCTS ?rv15_PRODUCTS ?z_zip ?z_len ?z_any ?z_list ?z_range ?z_int ?z_abs ?z_isinstance ?z_bool ?a_InvalidSymbol ?x_InvalidSymbol ?k_InvalidSymbol ?b_InvalidSymbol ?t_InvalidSymbol ?g_InvalidSymbol ?h_InvalidSymbol ?d_InvalidSymbol ?o_InvalidSymbol ?n_InvalidSymbol ?m_InvalidSymbol ?r_InvalidSymbol ?i_InvalidSymbol ?lc_solve_system ?tv_solve_system
    (case a_is_symbol => k_is)
    (case l_is_symbol => k_is)
    (case c_is_symbol => k_is)
    (case k_is_symbol => k_is)
    (case a_inverse => k_is)
    (case l_inverse => k_is)
    (case c_inverse => k_is)
    (case k_inverse => k_is)
    (case a_scaled => k_is)
    (case l_scaled => k_is)
    (case c_scaled => k_is)
    (case k_scaled => k_is)
    (case a_plus_scaled => k_is)
    (case l_plus_scaled => k_is)
    (case c_plus_scaled => k_is)
    (case k_plus_scaled => k_is)
    (case a__check_symbol => k_is)
    (case l__check_symbol => k_is)
    (case c__check_symbol => k_is)
    (case k__check_symbol => k_is)
    (case a_solve_system => k_is)
    (case l_solve_system => k_is)
    (case e_solve_system => k_is)
    (case k_solve_system => k_is)
    (case a_rank => k_is)
    (case l_rank => k_is)
    (case c_rank => k_is)
    (case k_rank => k_is)
    (case a__eliminated => k_is)
    (case l__eliminated => k_is)
    (case c__eliminated => k_is)
    (case k__eliminated => k_is)
    (case a__first_with => k_is)
    (case l__first_with => k_is)
    (case c__first_with => k_is)
    (case k__first_with => k_is)
    (case a__law_cell => k_is)
    (case l__law_cell => k_is)
    (case c__law_cell => k_is)
    (case k__law_cell => k_is)
    (case a__law_mix => k_is)
    (case l__law_mix => k_is)
    (case c__law_mix => k_is)
    (case k__law_mix => k_is)
    (case a__law_row => k_is)
    (case l__law_row => k_is)
    (case c__law_row => k_is)
    (case k__law_row => k_is)
    (case a__law_is_int => k_is)
    (case l__law_is_int => k_is)
    (case c__law_is_int => k_is)
    (case k__law_is_int => k_is)
    (case a__law_is_list => k_is)
    (case l__law_is_list => k_is)
    (case c__law_is_list => k_is)
    (case k__law_is_list => k_is)
    (case a__law_times => k_is)
    (case l__law_times => k_is)
    (case c__law_times => k_is)
    (case k__law_times => k_is)
    (case a__law_rows => k_is)
    (case l__law_rows => k_is)
    (case c__law_rows => k_is)
    (case k__law_rows => k_is)
    (case a__law_rank => k_is)
    (case l__law_rank => k_is)
    (case c__law_rank => k_is)
    (case k__law_rank => k_is)
    (case a_law => k_is)
    (case l_law => k_is)
    (case c_law => k_is)
    (case k_law => k_is)
    (case a_SYMBOLS => k_is)
    (case a_PRODUCTS => k_is)
    (case l_PRODUCTS => k_is)
    (case e_PRODUCTS => rfl)
    (case rl0_PRODUCTS => k_is)
    (case rv0_PRODUCTS => exact .cons ⟨_, rfl⟩ (.cons ⟨_, rfl⟩ (.cons ⟨_, rfl⟩ (.cons ⟨_, rfl⟩ (.cons ⟨_, rfl⟩ (.cons ⟨_, rfl⟩ (.cons ⟨_, rfl⟩ (.cons ⟨_, rfl⟩ (.cons ⟨_, rfl⟩ (.cons ⟨_, rfl⟩ (.cons ⟨_, rfl⟩ (.cons ⟨_, rfl⟩ (.cons ⟨_, rfl⟩ (.cons ⟨_, rfl⟩ (.cons ⟨_, rfl⟩ (.cons ⟨_, rfl⟩ (.nil)))))))))))))))))
    (case rl1_PRODUCTS => k_is)
    (case rv1_PRODUCTS => exact .cons ⟨_, rfl⟩ (.cons ⟨_, rfl⟩ (.cons ⟨_, rfl⟩ (.cons ⟨_, rfl⟩ (.cons ⟨_, rfl⟩ (.cons ⟨_, rfl⟩ (.cons ⟨_, rfl⟩ (.cons ⟨_, rfl⟩ (.cons ⟨_, rfl⟩ (.cons ⟨_, rfl⟩ (.cons ⟨_, rfl⟩ (.cons ⟨_, rfl⟩ (.cons ⟨_, rfl⟩ (.cons ⟨_, rfl⟩ (.cons ⟨_, rfl⟩ (.cons ⟨_, rfl⟩ (.nil)))))))))))))))))
    (case rl2_PRODUCTS => k_is)
    (case rv2_PRODUCTS => exact .cons ⟨_, rfl⟩ (.cons ⟨_, rfl⟩ (.cons ⟨_, rfl⟩ (.cons ⟨_, rfl⟩ (.cons ⟨_, rfl⟩ (.cons ⟨_, rfl⟩ (.cons ⟨_, rfl⟩ (.cons ⟨_, rfl⟩ (.cons ⟨_, rfl⟩ (.cons ⟨_, rfl⟩ (.cons ⟨_, rfl⟩ (.cons ⟨_, rfl⟩ (.cons ⟨_, rfl⟩ (.cons ⟨_, rfl⟩ (.cons ⟨_, rfl⟩ (.cons ⟨_, rfl⟩ (.nil)))))))))))))))))
    (case rl3_PRODUCTS => k_is)
    (case rv3_PRODUCTS => exact .cons ⟨_, rfl⟩ (.cons ⟨_, rfl⟩ (.cons ⟨_, rfl⟩ (.cons ⟨_, rfl⟩ (.cons ⟨_, rfl⟩ (.cons ⟨_, rfl⟩ (.cons ⟨_, rfl⟩ (.cons ⟨_, rfl⟩ (.cons ⟨_, rfl⟩ (.cons ⟨_, rfl⟩ (.cons ⟨_, rfl⟩ (.cons ⟨_, rfl⟩ (.cons ⟨_, rfl⟩ (.cons ⟨_, rfl⟩ (.cons ⟨_, rfl⟩ (.cons ⟨_, rfl⟩ (.nil)))))))))))))))))
    (case rl4_PRODUCTS => k_is)
    (case rv4_PRODUCTS => exact .cons ⟨_, rfl⟩ (.cons ⟨_, rfl⟩ (.cons ⟨_, rfl⟩ (.cons ⟨_, rfl⟩ (.cons ⟨_, rfl⟩ (.cons ⟨_, rfl⟩ (.cons ⟨_, rfl⟩ (.cons ⟨_, rfl⟩ (.cons ⟨_, rfl⟩ (.cons ⟨_, rfl⟩ (.cons ⟨_, rfl⟩ (.cons ⟨_, rfl⟩ (.cons ⟨_, rfl⟩ (.cons ⟨_, rfl⟩ (.cons ⟨_, rfl⟩ (.cons ⟨_, rfl⟩ (.nil)))))))))))))))))
    (case rl5_PRODUCTS => k_is)
    (case rv5_PRODUCTS => exact .cons ⟨_, rfl⟩ (.cons ⟨_, rfl⟩ (.cons ⟨_, rfl⟩ (.cons ⟨_, rfl⟩ (.cons ⟨_, rfl⟩ (.cons ⟨_, rfl⟩ (.cons ⟨_, rfl⟩ (.cons ⟨_, rfl⟩ (.cons ⟨_, rfl⟩ (.cons ⟨_, rfl⟩ (.cons ⟨_, rfl⟩ (.cons ⟨_, rfl⟩ (.cons ⟨_, rfl⟩ (.cons ⟨_, rfl⟩ (.cons ⟨_, rfl⟩ (.cons ⟨_, rfl⟩ (.nil)))))))))))))))))
    (case rl6_PRODUCTS => k_is)
    (case rv6_PRODUCTS => exact .cons ⟨_, rfl⟩ (.cons ⟨_, rfl⟩ (.cons ⟨_, rfl⟩ (.cons ⟨_, rfl⟩ (.cons ⟨_, rfl⟩ (.cons ⟨_, rfl⟩ (.cons ⟨_, rfl⟩ (.cons ⟨_, rfl⟩ (.cons ⟨_, rfl⟩ (.cons ⟨_, rfl⟩ (.cons ⟨_, rfl⟩ (.cons ⟨_, rfl⟩ (.cons ⟨_, rfl⟩ (.cons ⟨_, rfl⟩ (.cons ⟨_, rfl⟩ (.cons ⟨_, rfl⟩ (.nil)))))))))))))))))
    (case rl7_PRODUCTS => k_is)
    (case rv7_PRODUCTS => exact .cons ⟨_, rfl⟩ (.cons ⟨_, rfl⟩ (.cons ⟨_, rfl⟩ (.cons ⟨_, rfl⟩ (.cons ⟨_, rfl⟩ (.cons ⟨_, rfl⟩ (.cons ⟨_, rfl⟩ (.cons ⟨_, rfl⟩ (.cons ⟨_, rfl⟩ (.cons ⟨_, rfl⟩ (.cons ⟨_, rfl⟩ (.cons ⟨_, rfl⟩ (.cons ⟨_, rfl⟩ (.cons ⟨_, rfl⟩ (.cons ⟨_, rfl⟩ (.cons ⟨_, rfl⟩ (.nil)))))))))))))))))
    (case rl8_PRODUCTS => k_is)
    (case rv8_PRODUCTS => exact .cons ⟨_, rfl⟩ (.cons ⟨_, rfl⟩ (.cons ⟨_, rfl⟩ (.cons ⟨_, rfl⟩ (.cons ⟨_, rfl⟩ (.cons ⟨_, rfl⟩ (.cons ⟨_, rfl⟩ (.cons ⟨_, rfl⟩ (.cons ⟨_, rfl⟩ (.cons ⟨_, rfl⟩ (.cons ⟨_, rfl⟩ (.cons ⟨_, rfl⟩ (.cons ⟨_, rfl⟩ (.cons ⟨_, rfl⟩ (.cons ⟨_, rfl⟩ (.cons ⟨_, rfl⟩ (.nil)))))))))))))))))
    (case rl9_PRODUCTS => k_is)
    (case rv9_PRODUCTS => exact .cons ⟨_, rfl⟩ (.cons ⟨_, rfl⟩ (.cons ⟨_, rfl⟩ (.cons ⟨_, rfl⟩ (.cons ⟨_, rfl⟩ (.cons ⟨_, rfl⟩ (.cons ⟨_, rfl⟩ (.cons ⟨_, rfl⟩ (.cons ⟨_, rfl⟩ (.cons ⟨_, rfl⟩ (.cons ⟨_, rfl⟩ (.cons ⟨_, rfl⟩ (.cons ⟨_, rfl⟩ (.cons ⟨_, rfl⟩ (.cons ⟨_, rfl⟩ (.cons ⟨_, rfl⟩ (.nil)))))))))))))))))
    (case rl10_PRODUCTS => k_is)
    (case rv10_PRODUCTS => exact .cons ⟨_, rfl⟩ (.cons ⟨_, rfl⟩ (.cons ⟨_, rfl⟩ (.cons ⟨_, rfl⟩ (.cons ⟨_, rfl⟩ (.cons ⟨_, rfl⟩ (.cons ⟨_, rfl⟩ (.cons ⟨_, rfl⟩ (.cons ⟨_, rfl⟩ (.cons ⟨_, rfl⟩ (.cons ⟨_, rfl⟩ (.cons ⟨_, rfl⟩ (.cons ⟨_, rfl⟩ (.cons ⟨_, rfl⟩ (.cons ⟨_, rfl⟩ (.cons ⟨_, rfl⟩ (.nil)))))))))))))))))
    (case rl11_PRODUCTS => k_is)
    (case rv11_PRODUCTS => exact .cons ⟨_, rfl⟩ (.cons ⟨_, rfl⟩ (.cons ⟨_, rfl⟩ (.cons ⟨_, rfl⟩ (.cons ⟨_, rfl⟩ (.cons ⟨_, rfl⟩ (.cons ⟨_, rfl⟩ (.cons ⟨_, rfl⟩ (.cons ⟨_, rfl⟩ (.cons ⟨_, rfl⟩ (.cons ⟨_, rfl⟩ (.cons ⟨_, rfl⟩ (.cons ⟨_, rfl⟩ (.cons ⟨_, rfl⟩ (.cons ⟨_, rfl⟩ (.cons ⟨_, rfl⟩ (.nil)))))))))))))))))
    (case rl12_PRODUCTS => k_is)
    (case rv12_PRODUCTS => exact .cons ⟨_, rfl⟩ (.cons ⟨_, rfl⟩ (.cons ⟨_, rfl⟩ (.cons ⟨_, rfl⟩ (.cons ⟨_, rfl⟩ (.cons ⟨_, rfl⟩ (.cons ⟨_, rfl⟩ (.cons ⟨_, rfl⟩ (.cons ⟨_, rfl⟩ (.cons ⟨_, rfl⟩ (.cons ⟨_, rfl⟩ (.cons ⟨_, rfl⟩ (.cons ⟨_, rfl⟩ (.cons ⟨_, rfl⟩ (.cons ⟨_, rfl⟩ (.cons ⟨_, rfl⟩ (.nil)))))))))))))))))
    (case rl13_PRODUCTS => k_is)
    (case rv13_PRODUCTS => exact .cons ⟨_, rfl⟩ (.cons ⟨_, rfl⟩ (.cons ⟨_, rfl⟩ (.cons ⟨_, rfl⟩ (.cons ⟨_, rfl⟩ (.cons ⟨_, rfl⟩ (.cons ⟨_, rfl⟩ (.cons ⟨_, rfl⟩ (.cons ⟨_, rfl⟩ (.cons ⟨_, rfl⟩ (.cons ⟨_, rfl⟩ (.cons ⟨_, rfl⟩ (.cons ⟨_, rfl⟩ (.cons ⟨_, rfl⟩ (.cons ⟨_, rfl⟩ (.cons ⟨_, rfl⟩ (.nil)))))))))))))))))
    (case rl14_PRODUCTS => k_is)
    (case rv14_PRODUCTS => exact .cons ⟨_, rfl⟩ (.cons ⟨_, rfl⟩ (.cons ⟨_, rfl⟩ (.cons ⟨_, rfl⟩ (.cons ⟨_, rfl⟩ (.cons ⟨_, rfl⟩ (.cons ⟨_, rfl⟩ (.cons ⟨_, rfl⟩ (.cons ⟨_, rfl⟩ (.cons ⟨_, rfl⟩ (.cons ⟨_, rfl⟩ (.cons ⟨_, rfl⟩ (.cons ⟨_, rfl⟩ (.cons ⟨_, rfl⟩ (.cons ⟨_, rfl⟩ (.cons ⟨_, rfl⟩ (.nil)))))))))))))))))
    (case rl15_PRODUCTS => k_is)
    (case rv15_PRODUCTS => exact .cons ⟨_, rfl⟩ (.cons ⟨_, rfl⟩ (.cons ⟨_, rfl⟩ (.cons ⟨_, rfl⟩ (.cons ⟨_, rfl⟩ (.cons ⟨_, rfl⟩ (.cons ⟨_, rfl⟩ (.cons ⟨_, rfl⟩ (.cons ⟨_, rfl⟩ (.cons ⟨_, rfl⟩ (.cons ⟨_, rfl⟩ (.cons ⟨_, rfl⟩ (.cons ⟨_, rfl⟩ (.cons ⟨_, rfl⟩ (.cons ⟨_, rfl⟩ (.cons ⟨_, rfl⟩ (.nil)))))))))))))))))
    (case z_zip => k_is)
    (case z_len => k_is)
    (case z_any => k_is)
    (case z_list => k_is)
    (case z_range => k_is)
    (case z_int => k_is)
    (case z_abs => k_is)
    (case z_isinstance => k_is)
    (case z_bool => k_is)
    (case a_InvalidSymbol => k_is)
    (case x_InvalidSymbol => k_exc)
    (case k_InvalidSymbol => k_is)
    (case b_InvalidSymbol => k_is)
    (case t_InvalidSymbol => k_is)
    (case g_InvalidSymbol => k_is)
    (case h_InvalidSymbol => k_is)
    (case d_InvalidSymbol => k_is)
    (case o_InvalidSymbol => k_is)
    (case n_InvalidSymbol => k_is)
    (case m_InvalidSymbol => k_is)
    (case r_InvalidSymbol => k_is)
    (case i_InvalidSymbol => k_is)
    (case lc_solve_system => k_is)
    (case tv_solve_system => rfl)
#print axioms PySem.Challenge.cw_scanpages_k28_linear_systems_holds
