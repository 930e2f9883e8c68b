import PyProof.Rows.All
import Wide.All
import OpenK.AllK
import Wide.FinOn
import PyProof.EqAt
import PyProof.EqKinds
import PyProof.TupleCall
import HandS.ForMost
import HandS.ForExc
import HandS.RaiseMore
import HandS.FStr
import HandS.IsInst
import HandS.ExcIs
import HandS.Wide
import HandS.Flow
import HandS.Conv
import HandS.Evl
import HandS.TupAny
import HandS.Style
import HandS.ExcCtx
import HandS.HotCalls
import HandS.AnyAll
import HandS.GenOver
import HandS.JoinGen
import HandS.Lambda
import HandS.EndOwn
import HandS.EndTab
import HandS.Walk
import HandS.Star
import HandS.Zip
import KE.KDictZip
import PySem.Challenge.RW_scanpages_k14_squash
set_option Elab.async false
set_option linter.all false
set_option maxRecDepth 100000
set_option maxHeartbeats 4000000
/-! Cm: what all our proofs share -/
namespace Cm
open PySem PySem.Spec PyProof.Rows L2

/-! ### defs of the module, and what they promise -/
/-- the def x stands at some address behind the top -/
def Dn (K : PySem.W.Frag) (mg : Str → Option Value) (x : Str) (st : Stmt) (ps : List Str) : Prop :=
  ∃ (f : Addr) (fd : FuncData), Fun K x x st f fd ∧ mg x = some (.ref f) ∧ Binds K fd ps []
/-- the def x keeps the promise sp -/
def Ok (P : Program) (w : World) (K : PySem.W.Frag) (mg : Str → Option Value) (base : Heap) (CX : CXT) (k : Nat) (x : Str) (ps : List Str) (sp : Sp) : Prop :=
  ∃ (f : Addr) (fd : FuncData), FnOk P w K mg base CX k f fd ps sp ∧ mg x = some (.ref f) ∧ PySem.W.keepIn K (.ref f) = true ∧ Binds K fd ps []
theorem ok_of {P : Program} {w : World} {K : PySem.W.Frag} {mg : Str → Option Value} {base : Heap} {CX : CXT} {k : Nat} {x : Str} {st : Stmt} {ps : List Str} {sp : Sp} (d : Dn K mg x st ps)
    (h : ∀ f fd, Fun K x x st f fd → FnOk P w K mg base CX k f fd ps sp) : Ok P w K mg base CX k x ps sp := by
  obtain ⟨f, fd, F, g, b⟩ := d
  exact ⟨f, fd, h f fd F, g, F.kp, b⟩
section
variable {X : Cx} {CX : CXT} {k : Nat} {ps : List Str} {sp : Sp} {E : XK} {x : Str} {p pos : Pos} {e : Expr} {es : List Expr} {t : TA}
theorem pe_callO (G : Ok X.prog X.w X.K X.mg X.base CX k x ps sp) (hr : Room k X.A) (hx : Passes CX X E) (ha : PA X (e :: es) t) (hg : Gl X x := by rfl)
    (hdb : (x == ("__debug__" : Str)) = false := by decide) (he : starEach (e :: es) X.env = (false, eval e X.env) :: starEach es X.env := by rfl) (hpl : (backTo pos (starEach es X.env)).any (·.1) = false := by rfl) :
    PE X (.Call (.Name x p) (e :: es) [] pos) (tCall sp [] E t) := by
  obtain ⟨f, fd, F, g, kp, b⟩ := G
  exact pe_call F hr hg g kp b .nil hx ha hdb he hpl
theorem pe_callO0 (G : Ok X.prog X.w X.K X.mg X.base CX k x ps sp) (hr : Room k X.A) (hx : Passes CX X E) (hg : Gl X x := by rfl) (hdb : (x == ("__debug__" : Str)) = false := by decide) :
    PE X (.Call (.Name x p) [] [] pos) (tCall sp [] E tNil) := by
  obtain ⟨f, fd, F, g, kp, b⟩ := G
  exact pe_call0 F hr hg g kp b .nil hx hdb
theorem pe_callT {Es : L2.St → XK} (G : Ok X.prog X.w X.K X.mg X.base CX k x ps sp) (hr : Room k X.A) (hx : ∀ σ, PassesAt CX X σ (Es σ)) (ha : PA X (e :: es) t) (hg : Gl X x := by rfl)
    (hdb : (x == ("__debug__" : Str)) = false := by decide) (he : starEach (e :: es) X.env = (false, eval e X.env) :: starEach es X.env := by rfl) (hpl : (backTo pos (starEach es X.env)).any (·.1) = false := by rfl) :
    PE X (.Call (.Name x p) (e :: es) [] pos) (tCallS sp Es t) := by
  obtain ⟨f, fd, F, g, kp, b⟩ := G
  exact pe_callS F hr hg g kp b hx ha hdb he hpl
end
/-! ### errors: raised where nothing is handled -/
/-- what leaves a def: L2N's way -/
abbrev CXN (P : Program) (w : World) : CXT := L2N.CX P w
theorem passN {X : Cx} : Passes (CXN X.prog X.w) X E0 := fun _ _ _ _ _ _ _ h => by
  obtain ⟨_, _, _, _, _, _, _, _, _, _, _, _, z⟩ := h
  exact z.elim
theorem takesN {X : Cx} : L2N.Takes X (fun _ _ _ _ => False) := fun _ _ x => by
  obtain ⟨_, _, _, _, _, _, _, _, _, _, _, _, _, _, _, _, z⟩ := x
  exact z.elim
theorem passX {X : Cx} {E E' : XK} (tk : L2N.Takes X (fun cls d _ H => E cls d H)) (h : ∀ cls d H, E' cls d H → E cls d H) : Passes (CXN X.prog X.w) X E' := fun pins σ H s e s' I c => tk e s' (L2N.XE.of_call I (fun cls d H' q => h cls d H' q) c)
theorem okN {P : Program} {w : World} {K : PySem.W.Frag} {mg : Str → Option Value} {base : Heap} {x qual : Str} {st : Stmt} {f : Addr} {fd : FuncData} {N ps : List Str} {k : Nat} {sp : Sp} (F : Fun K x qual st f fd) (S : FnScope N ps (defScope st)) (len : ∀ vs H Q E, sp vs H Q E → vs.length = ps.length)
    (hbody : ∀ (cdv : Value) (A : Around) (outer : List Env) (s : Shared) (H : Hp) (vs : List V) (Q : VK) (E : XK), Room k (A.deeper (envOfC qual (defScope st) s.heap.objs.size f cdv)) → sp vs H Q E →
      ∃ t, PSs (cxOf (CXN P w) P w K mg base N qual (defScope st) f cdv A outer s H E) (defBody st) t ∧ t { nx := fun _ H' => Q .non H', rt := Q } (L2.start N vs) H) : FnOk P w K mg base (CXN P w) (k + 1) f fd ps sp := by
  obtain ⟨oc, od, kV, doc, pm, an, cdv, ct, osl, rfl, lk, hcd⟩ := F.ex
  exact fn_of lk hcd S len fun A outer s H vs Q E hr hsp => hbody cdv A outer s H vs Q E hr hsp
section
variable {X : Cx}
/-- X(e) -/
theorem pmk_own1 {C : Addr} {bmB : List Value} {B newId initId : String} {x : Str} {e : Expr} {ta : TE} {p pos : Pos} (F : ExcBaseFacts B newId initId bmB) (q : PySem.W.excIn X.K C bmB newId = true) (gC : X.mg x = some (.ref C)) (kC : PySem.W.keepIn X.K (.ref C) = true) (r : Raises X (.ref C)) (hg : Gl X x)
    (he : PE X e ta) (hs : starEach [e] X.env = (false, eval e X.env) :: starEach [] X.env := by rfl) (hdb : (x == ("__debug__" : Str)) = false := by decide) :
    L2N.PMk X (.Call (.Name x p) [e] [] pos) (fun σ H Q => ta σ H fun _ H1 => Q (.ref C) none H1) := by
  intro pins s σ H Q I h
  refine wpAny_Call_Name_kw (ld_glob I hg gC ?_ hdb)
  refine PySem.W.callWith_K (h₀ := X.base) I.ok.mod.kin kC ?_ hs (by rfl)
  rw [hs]
  show wpAny _ _ (spliced ((false, eval e X.env) :: backTo pos (starEach [] X.env))) _ _ s
  refine Calls.spliced_cons (thn (he.run pins s σ H _ I h) fun u s1 ⟨v, H1, I1, r1, q1⟩ => ?_)
  refine Calls.spliced_nil ⟨I1.kIn, ?_⟩
  show wpAny _ _ (call (.ref C) [u]) _ _ _
  obtain ⟨bm, N, nm, qn, bs, hdct, sn, sub, ab, col, dd, k0, k1, k2, k3, k5, mN, hC, hN, hni, T⟩ := exc_obj I1.kIn q
  refine wpAny_call_exc_subT F T hC hN hni (fun h' e hm => ?_) (by show 1 ≤ sizeLine; rw [sizeLine_eq]; omega)
  exact L2N.mk_of I1 hm r q1 (I1.hok.gone hm.new)
end
/-! ### defs called within an except suite -/
def OkH (P : Program) (w : World) (K : PySem.W.Frag) (mg : Str → Option Value) (base : Heap) (CX : CXT) (k : Nat) (x : Str) (ps : List Str) (sp : Sp) : Prop :=
  ∃ (f : Addr) (fd : FuncData), L2H.FnH P w K mg base CX k f fd ps sp ∧ mg x = some (.ref f) ∧ PySem.W.keepIn K (.ref f) = true ∧ Binds K fd ps []
theorem okH_of {P : Program} {w : World} {K : PySem.W.Frag} {mg : Str → Option Value} {base : Heap} {k : Nat} {x : Str} {st : Stmt} {N ps : List Str} {sp : Sp} (d : Dn K mg x st ps) (S : FnScope N ps (defScope st)) (len : ∀ vs H Q E, sp vs H Q E → vs.length = ps.length)
    (hbody : ∀ (f : Addr) (cdv : Value) (A : Around) (outer : List Env) (s : Shared) (H : Hp) (vs : List V) (Q : VK) (E : XK) (p : Addr × Obj), L2H.Hot1 A p → L2H.RoomH k (A.deeper (envOfC x (defScope st) s.heap.objs.size f cdv)) → sp vs H Q E →
      ∃ t, PSs (L2H.cxH CX0 P w K mg base N x (defScope st) f cdv A outer s H E p) (defBody st) t ∧ t { nx := fun _ H' => Q .non H', rt := Q } (L2.start N vs) H) : OkH P w K mg base CX0 (k + 1) x ps sp := by
  obtain ⟨f, fd, F, g, b⟩ := d
  refine ⟨f, fd, ?_, g, F.kp, b⟩
  obtain ⟨oc, od, kV, doc, pm, an, cdv, ct, osl, rfl, lk, hcd⟩ := F.ex
  exact L2H.fn_ofH lk hcd S len fun A outer s H vs Q E p hot hr hsp => hbody f cdv A outer s H vs Q E p hot hr hsp
section
variable {X : Cx} {k : Nat} {ps : List Str} {sp : Sp} {x : Str} {p pos : Pos} {e : Expr} {es : List Expr} {t : TA}
theorem pe_callHO (G : OkH X.prog X.w X.K X.mg X.base CX0 k x ps sp) (hr : L2H.RoomH k X.A) (hc : L2H.HotC X) (ha : PA X (e :: es) t) (hg : Gl X x := by rfl)
    (hdb : (x == ("__debug__" : Str)) = false := by decide) (he : starEach (e :: es) X.env = (false, eval e X.env) :: starEach es X.env := by rfl) (hpl : (backTo pos (starEach es X.env)).any (·.1) = false := by rfl) :
    PE X (.Call (.Name x p) (e :: es) [] pos) (tCallS sp (fun _ => E0) t) := by
  obtain ⟨f, fd, F, g, kp, b⟩ := G
  exact L2H.pe_callH F hr hc hg g kp b (fun _ _ _ _ _ _ _ h => h.elim) ha hdb he hpl
theorem roomS {k j : Nat} {A : Around} {h : Option Value} (hr : Room k A) (hj : j ≤ k) : L2H.RoomH j (A.mark h) := L2H.RoomH.mono (k := k) ⟨hr.dp, hr.un⟩ hj
theorem hotS {a : Addr} {oe : Obj} {cls : Value} {d : Option Addr} {pn : List (Addr × Obj)} (hz : L2N.Zn cls d oe) (hf : ∃ vs, oe.data = .fields vs) : L2H.HotC (X.suite a ((a, oe) :: pn)) := by
  obtain ⟨vs, e⟩ := hf
  exact ⟨(a, oe), ⟨rfl, vs, e, hz.2.2 vs e⟩, List.mem_cons_self⟩
end
/-! ### names of the module -/
/-- the name x of the module holds v -/
def CV (mg : Str → Option Value) (x : Str) (v : V) : Prop := ∃ u, mg x = some u ∧ RelV v u
theorem pe_globC {X : Cx} {x : Str} {v : V} {pos : Pos} (hg : Gl X x) (h : CV X.mg x v) (hd : (x == ("__debug__" : Str)) = false := by decide) : PE X (.Name x pos) (tC v) := by
  obtain ⟨u, hm, r⟩ := h
  exact pe_glob hg hm r hd
theorem pe_globR {X : Cx} {x : Str} {a : Addr} {pos : Pos} (hg : Gl X x) (h : X.mg x = some (.ref a)) (hd : (x == ("__debug__" : Str)) = false := by decide) : PE X (.Name x pos) (tC (.ref a)) := pe_glob hg h rfl hd
/-! ### tests -/
theorem itd {p A B : Prop} [Decidable p] (h1 : p → A) (h2 : ¬ p → B) : if decide p = true then A else B := by
  by_cases h : p
  · rw [if_pos (decide_eq_true h)]
    exact h1 h
  · rw [if_neg (by simp [h])]
    exact h2 h
theorem itb {b : Bool} {A B : Prop} (h1 : b = true → A) (h2 : b = false → B) : if b = true then A else B := by
  cases b with
  | true => exact iteT (h1 rfl)
  | false => exact iteF (h2 rfl)
/-! ### error classes -/
/-- an error class that may have an own __init__ -/
structure XB (K : PySem.W.Frag) (mg : Str → Option Value) (x : Str) (C : Addr) : Prop where
  g : mg x = some (.ref C)
  k : PySem.W.keepIn K (.ref C) = true
  b : PySem.W.subIn K (.ref C) (.type "BaseException") = some true
  t : PySem.W.typeIn K (.ref C) = some (.type "type")
  d : PySem.W.hasDictIn K C = true
  i : PySem.W.isClsIn K C = true
/-- an error class without an own __init__ -/
structure XCl (K : PySem.W.Frag) (mg : Str → Option Value) (x : Str) (C : Addr) : Prop extends XB K mg x C where
  x : PySem.W.excIn K C [.type "ValueError", .type "Exception", .type "BaseException", .type "object"] "ValueError.__new__" = true
  e : ExcC K C
section
variable {K : PySem.W.Frag} {h : Heap} {mg : Str → Option Value} {x : Str} {C : Addr}
theorem xb_mk (X : K.In h) (G : h.Ns mainGlobals mg) (a : PySem.W.nsIn K mainGlobals x = some (some (.ref C))) (k : PySem.W.keepIn K (.ref C) = true) (b : PySem.W.subIn K (.ref C) (.type "BaseException") = some true)
    (t : PySem.W.typeIn K (.ref C) = some (.type "type")) (d : PySem.W.hasDictIn K C = true) (i : PySem.W.isClsIn K C = true) : XB K mg x C := ⟨PySem.W.mg_of X G a, k, b, t, d, i⟩
theorem xcl_mk (X : K.In h) (G : h.Ns mainGlobals mg) (a : PySem.W.nsIn K mainGlobals x = some (some (.ref C)))
    (q : PySem.W.excIn K C [.type "ValueError", .type "Exception", .type "BaseException", .type "object"] "ValueError.__new__" = true) (k : PySem.W.keepIn K (.ref C) = true)
    (b : PySem.W.subIn K (.ref C) (.type "BaseException") = some true) (t : PySem.W.typeIn K (.ref C) = some (.type "type"))
    (hg : PySem.W.findIn K (.ref C) "__getattribute__" = some (some (.builtin "BaseException.__getattribute__"))) (hk : PySem.W.findIn K (.ref C) "__getattr__" = some none) (hd : PySem.W.hasDictIn K C = true)
    (ha : PySem.W.findIn K (.ref C) "__class__" = some (some (.builtin "object.__class__"))) (hn : PySem.W.specialIn K (.builtin "object.__class__") "__get__" = some (some (.builtin "getset_descriptor.__get__")))
    (ht : PySem.W.takesIn K (.builtin "object.__class__") = some true) (hm : PySem.W.mroIn K C (.type "object") = some true) (i : PySem.W.isClsIn K C = true) : XCl K mg x C :=
  ⟨⟨PySem.W.mg_of X G a, k, b, t, hd, i⟩, q, ⟨hg, hk, b, hd, ha, hn, ht, hm⟩⟩
/-- isinstance of an own class -/
theorem kit_own {D : Addr} {r : Bool} (i : PySem.W.isClsIn K C = true) (t : PySem.W.typeIn K (.ref C) = some (.type "type")) (s : PySem.W.subIn K (.ref D) (.ref C) = some r) (hne : (Value.ref D == Value.ref C) = true → r = true) :
    PySem.W.kitOne K (.ref D) (.ref C) = some r := by
  unfold PySem.W.kitOne
  cases e : (Value.ref D == Value.ref C) with
  | true => rw [if_pos rfl, hne e]
  | false =>
    rw [if_neg Bool.false_ne_true]
    have h2 : ((PySem.W.clsIn K C).isSome && PySem.W.typeIn K (.ref C) == some (.type "type")) = true := by
      have h2' : (PySem.W.clsIn K C).isSome = true := i
      rw [h2', t] <;> rfl
    show (if ((PySem.W.clsIn K C).isSome && PySem.W.typeIn K (.ref C) == some (.type "type")) = true then PySem.W.subIn K (.ref D) (.ref C) else none) = some r
    rw [if_pos h2, s]
theorem kit_ve {D : Addr} (s : PySem.W.subIn K (.ref D) (.type "ValueError") = some true) : PySem.W.kitOne K (.ref D) (.type "ValueError") = some true := by
  have e : (Value.ref D == Value.type "ValueError") = false := rfl
  unfold PySem.W.kitOne
  rw [e, if_neg Bool.false_ne_true]
  show (if PySem.W.kitMeta "ValueError" = true then PySem.W.subIn K (.ref D) (.type "ValueError") else none) = some true
  rw [if_pos (by decide +kernel), s]
/-- except C takes an error of the class at D -/
theorem exm_own {D : Addr} {r : Bool} {y : Str} (c : XB K mg y C) (s : PySem.W.subIn K (.ref D) (.ref C) = some r) : PySem.W.exmOne K (.ref D) (.ref C) = some r := PySem.W.exm_ref c.b c.d c.t s
/-! ### the facts of the top -/
theorem dn_mk {st : Stmt} {ps : List Str} {f : Addr} {oc : Value} {od an : Option Addr} {osl : Array (Option Value)} {kV doc pm cdv ct : Value} (X : K.In h) (G : h.Ns mainGlobals mg) (a : PySem.W.nsIn K mainGlobals x = some (some (.ref f)))
    (l : K.lookup f = some ⟨oc, od, .func (PySem.W.fnOf x x (defArgs st) (defBody st) (defScope st) .none kV doc pm an cdv ct), osl⟩) (c : PySem.W.codeIn K cdv x = true) (k : PySem.W.keepIn K (.ref f) = true)
    (hb : ∀ (kV doc pm : Value) (an : Option Addr) (cdv ct : Value) (us : List Value), us.length = ps.length → bindArgs (PySem.W.fnOf x x (defArgs st) (defBody st) (defScope st) .none kV doc pm an cdv ct) ⟨us, []⟩ = pure (ps.zip us)) : Dn K mg x st ps :=
  ⟨f, _, fun_mk l c k, PySem.W.mg_of X G a, (fun_mk l c k).binds hb⟩
theorem cv_int {i : Int} {t : Tok} (X : K.In h) (G : h.Ns mainGlobals mg) (a : PySem.W.nsIn K mainGlobals x = some (some (.int i t))) : CV mg x (.int i) := ⟨_, PySem.W.mg_of X G a, _, rfl⟩
theorem cv_str {i : Str} {t : Tok} (X : K.In h) (G : h.Ns mainGlobals mg) (a : PySem.W.nsIn K mainGlobals x = some (some (.str i t))) : CV mg x (.str i) := ⟨_, PySem.W.mg_of X G a, _, rfl⟩
theorem cv_bl {i : Bool} (X : K.In h) (G : h.Ns mainGlobals mg) (a : PySem.W.nsIn K mainGlobals x = some (some (.bool i))) : CV mg x (.bl i) := ⟨_, PySem.W.mg_of X G a, rfl⟩
/-- the name x of the module holds a tuple of the written part -/
def CT (K : PySem.W.Frag) (mg : Str → Option Value) (x : Str) (xs : List V) : Prop := ∃ p, mg x = some (.ref p) ∧ ∀ H, SqT K H p xs
theorem ct_mk {p : Addr} {od : Option Addr} {its : Array Value} {n : Nat} {sl : Array (Option Value)} {xs : List V} (X : K.In h) (G : h.Ns mainGlobals mg) (a : PySem.W.nsIn K mainGlobals x = some (some (.ref p)))
    (l : K.lookup p = some ⟨.type "tuple", od, .seq its n, sl⟩) (hs : its.size ≤ sizeLine) (hv : Vals xs its.toList) : CT K mg x xs :=
  ⟨p, PySem.W.mg_of X G a, fun _ => .inr ⟨_, its, n, l, rfl, rfl, hs, hv⟩⟩
end
theorem pe_globT {X : Cx} {x : Str} {xs : List V} {pos : Pos} (hg : Gl X x) (h : CT X.K X.mg x xs) (hd : (x == ("__debug__" : Str)) = false := by decide) :
    PE X (.Name x pos) (fun _ H Q => ∀ p, (∀ H', SqT X.K H' p xs) → Q (.ref p) H) := by
  obtain ⟨p, hm, hs⟩ := h
  exact ⟨fun pins s σ H Q I h => (pe_glob hg hm (v := .ref p) rfl hd).run pins s σ H Q I (h p hs)⟩
/-! ### a suite that is read for known errors alone -/
theorem pss_guard {X : Cx} {st : List Stmt} {p : Prop} {t : TS} (h : p → PSs X st t) : PSs X st (fun D σ H => p ∧ t D σ H) :=
  ⟨fun pins s σ H D I q => (h q.1).run pins s σ H D I q.2⟩
theorem to_true {Q : VK} {b : Bool} {H : Hp} (h : b = true) (q : Q (.bl true) H) : Q (.bl b) H := h ▸ q
/-- a new object at p stays the only one that changes -/
theorem same_new {H H' : Hp} {p : Addr} {o : HO} (e : Same H H') (hp : H p = none) : Same H (upd H' p o) := Evl.Ex.mut e hp
theorem same_upd {H : Hp} {p : Addr} {o : HO} (hp : H p = none) : Same H (upd H p o) := Evl.Ex.new hp
theorem tyx_list {K : PySem.W.Frag} {H : Hp} {a : Addr} {xs : List V} (h : SqL K H a xs) : TyX K H (.ref a) (.type "list") := by
  rcases h with (h | ⟨o, h⟩) | ⟨o, its, n, h, hc, _⟩
  · exact .base (.lst h)
  · exact .base (.frz h)
  · exact .kList h hc
theorem tyx_tuple {K : PySem.W.Frag} {H : Hp} {a : Addr} {xs : List V} (h : SqT K H a xs) : TyX K H (.ref a) (.type "tuple") := by
  rcases h with (h | ⟨o, h⟩) | ⟨o, its, n, h, hc, _⟩
  · exact .base (.tup h)
  · exact .fTuple h
  · exact .kTuple h hc
theorem small {n : Nat} (h : n ≤ 100000) : n < sizeLine := Nat.lt_of_le_of_lt h (by decide)
theorem smallE {n : Nat} (h : n ≤ 100000) : n ≤ sizeLine := Nat.le_trans h (by decide)
/-- for .. in enumerate(list) -/
theorem for_enum {K : PySem.W.Frag} {a : Addr} {xs : List V} {g : TG} {tb : TS} {D : Ends} {σ : L2.St} {H : Hp} (Pv : Nat → L2.St → Hp → Prop) (h0 : Pv 0 σ H) (hl : ∀ i σ H, i ≤ xs.length → Pv i σ H → SqL K H a xs)
    (hs : ∀ i x T σ H, xs[i]? = some x → Pv i σ H → H T = none → g (.ref T) σ (upd H T (.tup [.int (i : Nat), x])) fun σ2 H2 => tb { D with nx := Pv (i + 1), ct := Pv (i + 1), bk := D.nx } σ2 H2) (hd : ∀ σ H, Pv xs.length σ H → D.nx σ H) :
    ∃ W : Nat → Nat → L2.St → Hp → Prop, (∃ m, W 0 m σ H) ∧ ∀ i m σ H, W i m σ H →
      ((Ite K a).stop i H ∧ D.nx σ H) ∨ ((Ite K a).go i H ∧ ∃ N : L2.St → Hp → Prop, (∀ σ' H', N σ' H' → ∃ m', m' < m ∧ W (i + 1) m' σ' H') ∧ ∀ x H', (Ite K a).yld i H x H' → g x σ H' fun σ2 H2 => tb { D with nx := N, ct := N, bk := D.nx } σ2 H2) := by
  refine ⟨fun i m σ H => m = xs.length - i ∧ i ≤ xs.length ∧ Pv i σ H, ⟨xs.length, by simp, Nat.zero_le _, h0⟩, ?_⟩
  rintro i m σ H ⟨rfl, hi, p⟩
  have q := hl i σ H hi p
  by_cases hlt : i < xs.length
  · refine .inr ⟨⟨xs, xs[i], q, by simp [hlt]⟩, Pv (i + 1), fun σ' H' p' => ⟨xs.length - (i + 1), by omega, rfl, hlt, p'⟩, fun x H' y => ?_⟩
    obtain ⟨T, z, rfl, hT, rfl, y⟩ := y
    exact hs i z T σ H (y xs q) p hT
  · have e : i = xs.length := by omega
    subst e
    exact .inl ⟨⟨xs, q, Nat.le_refl _⟩, hd σ H p⟩
/-- an item of a list by a number that is told -/
theorem at_nat {α : Type} {xs : List α} {i : Int} {j : Nat} {v : α} (e : i = (j : Int)) (h : xs[j]? = some v) : atI xs i = some v := e ▸ atI_nat h
theorem ix_nat {n j : Nat} {i : Int} (e : i = (j : Int)) (h : j < n) : ixN n i = some j := e ▸ Evl.ixN_nat h
/-! ### rules whose reading names the written part by itself (for the bodies and suites of a try) -/
def rLenK (K : PySem.W.Frag) : List V → Hp → VK → Prop := fun xs H Q => ∃ p ys, xs = [.ref p] ∧ (SqL K H p ys ∨ SqT K H p ys) ∧ Q (.int ys.length) H
theorem call_lenK {X : Cx} {K : PySem.W.Frag} (h : X.K = K := by rfl) : CallR X (.builtin "len") (rLenK K) := by
  subst h
  exact call_len_seq
theorem op_eqDK {X : Cx} {K : PySem.W.Frag} (hu : X.A.units + 64 < cLine) (h : X.K = K := by rfl) : OpR X (compareOp .Eq) (rEqD K) := by
  subst h
  exact op_eqD hu
theorem op_neDK {X : Cx} {K : PySem.W.Frag} (hu : X.A.units + 64 < cLine) (h : X.K = K := by rfl) : OpR X (compareOp .NotEq) (rNeD K) := by
  subst h
  exact op_neD hu
theorem call_isiK' {X : Cx} {K : PySem.W.Frag} (h : X.K = K := by rfl) : CallR X (.builtin "isinstance") (rIsi K) := by
  subst h
  exact call_isi
def rListK (K : PySem.W.Frag) : List V → Hp → VK → Prop := fun xs H Q => ∃ p ys, xs = [.ref p] ∧ (SqL K H p ys ∨ SqT K H p ys) ∧ ∀ l, H l = none → Q (.ref l) (upd H l (.lst ys))
theorem call_list_ofK {X : Cx} {K : PySem.W.Frag} (h : X.K = K := by rfl) : CallR X (.type "list") (rListK K) := by
  subst h
  exact call_list_of
theorem sl_listK {X : Cx} {K : PySem.W.Frag} (h : X.K = K := by rfl) : SlR X (rSlL K) := by
  subst h
  exact sl_list
/-! ### slices -/
theorem sIx_nat {n k : Nat} (d : Nat) (h : k ≤ n) : HT.sIx n d (some (k : Int)) = k := by
  simp only [HT.sIx]
  split <;> omega
theorem cut_to {xs : List V} {k : Nat} (h : k ≤ xs.length) : cutV xs none (some (k : Int)) = xs.take k := by
  unfold cutV
  rw [sIx_nat _ h]
  simp [HT.sIx]
theorem cut_from {xs : List V} {k : Nat} (h : k ≤ xs.length) : cutV xs (some (k : Int)) none = xs.drop k := by
  unfold cutV
  rw [sIx_nat _ h]
  simp only [HT.sIx]
  rw [List.take_of_length_le (by rw [List.length_drop]; omega)]
theorem cut_mid {xs : List V} {j k : Nat} (h1 : j ≤ k) (h : k ≤ xs.length) : cutV xs (some (j : Int)) (some (k : Int)) = (xs.drop j).take (k - j) := by
  unfold cutV
  rw [sIx_nat _ h, sIx_nat _ (Nat.le_trans h1 h)]
/-! ### data -/
mutual
theorem dp_mono {K : PySem.W.Frag} {H H' : Hp} (e : Same H H') : ∀ {d : PyData} {v : V}, Dp K H v d → Dp K H' v d
  | _, _, .non => .non
  | _, _, .bl b => .bl b
  | _, _, .int i => .int i
  | _, _, .str x => .str x
  | _, _, .lst h r => .lst (e.seq h) (dpAll_mono e r)
  | _, _, .tup h r => .tup (Evl.ex_t e h) (dpAll_mono e r)
theorem dpAll_mono {K : PySem.W.Frag} {H H' : Hp} (e : Same H H') : ∀ {ds : List PyData} {vs : List V}, DpAll K H vs ds → DpAll K H' vs ds
  | _, _, .nil => .nil
  | _, _, .cons h r => .cons (dp_mono e h) (dpAll_mono e r)
end
theorem dp_ints {K : PySem.W.Frag} {H : Hp} : ∀ (ns : List Int), DpAll K H (ns.map V.int) (ns.map PyData.int)
  | [] => .nil
  | n :: ns => .cons (.int n) (dp_ints ns)
theorem canLayAll_ints : ∀ (ns : List Int), PyData.canLayAll0 (ns.map PyData.int) = true
  | [] => rfl
  | n :: ns => by simp [PyData.canLayAll0, PyData.canLay0, canLayAll_ints ns]
theorem depthAll_ints : ∀ (ns : List Int), PyData.depthAll (ns.map PyData.int) = 0
  | [] => rfl
  | n :: ns => by simp [PyData.depthAll, PyData.depth, depthAll_ints ns]
theorem shaped_ints (ns : List Int) : SeqAt.shaped (.list (ns.map PyData.int)) = true := by
  simp [SeqAt.shaped, PyData.canLay0, PyData.depth, canLayAll_ints, depthAll_ints]
theorem eqvAll_ints : ∀ (ns ms : List Int), PyData.eqvAll (ns.map PyData.int) (ms.map PyData.int) = decide (ns = ms)
  | [], [] => by simp [PyData.eqvAll]
  | [], m :: ms => by simp [PyData.eqvAll]
  | n :: ns, [] => by simp [PyData.eqvAll]
  | n :: ns, m :: ms => by
    by_cases h : n = m <;> simp [PyData.eqvAll, PyData.eqv, eqvAll_ints ns ms, h]
theorem eqv_ints (ns ms : List Int) : PyData.eqv (.list (ns.map PyData.int)) (.list (ms.map PyData.int)) = decide (ns = ms) := by
  rw [PyData.eqv]
  exact eqvAll_ints ns ms
theorem shaped_pair (as bs : List Int) : SeqAt.shaped (.tuple [.list (as.map PyData.int), .list (bs.map PyData.int)]) = true := by
  simp [SeqAt.shaped, PyData.canLay0, PyData.canLayAll0, PyData.depth, PyData.depthAll, canLayAll_ints, depthAll_ints]
theorem eqv_refl' {d : PyData} (h : SeqAt.shaped d = true) : PyData.eqv d d = true := SeqAt.eqv_refl _ (SeqAt.canLay_of_shaped h)
theorem dp_list {K : PySem.W.Frag} {H : Hp} {a : Addr} {ns : List Int} (h : SqL K H a (ns.map V.int)) : Dp K H (.ref a) (.list (ns.map PyData.int)) := .lst h (dp_ints ns)
theorem get_ints {ns : List Int} {i : Nat} {y : V} (h : (ns.map V.int)[i]? = some y) : ∃ (hi : i < ns.length), y = V.int ns[i] := by
  rw [List.getElem?_map] at h
  by_cases hi : i < ns.length
  · rw [List.getElem?_eq_getElem hi] at h
    exact ⟨hi, (Option.some.inj h).symm⟩
  · rw [List.getElem?_eq_none (Nat.le_of_not_lt hi)] at h
    cases h
theorem take_snoc {α : Type} {l : List α} {i : Nat} (hi : i < l.length) : l.take (i + 1) = l.take i ++ [l[i]] := by
  rw [List.take_add_one, List.getElem?_eq_getElem hi]
  rfl
/-! ### the script's cells -/
def cell (ns : List Int) (k : Nat) : Int := ns.getD k 0
theorem cell_in {ns : List Int} {k : Nat} (hk : k < ns.length) : cell ns k = ns[k] := by simp [cell, List.getD_eq_getElem?_getD, List.getElem?_eq_getElem hk]
theorem cell_out {ns : List Int} {k : Nat} (hk : ¬ k < ns.length) : cell ns k = 0 := by simp [cell, List.getD_eq_getElem?_getD, List.getElem?_eq_none (Nat.le_of_not_lt hk)]
end Cm

/-! ### a generator expression that is used up at once: its body is read in a frame of its own, over the maker's abstract heap -/
namespace GX
open PySem PySem.Spec PyProof.Rows L2 Cm
open Sem (wp)
/-- the names of the generator's frame: the maker's slots, then more -/
abbrev gEnv (X : Cx) (scope : Scope) (C : Addr) (code : Value) : Env := genEnv scope (cloFrom X.env.cells scope.names []) C code builtinsNs X.env
/-- where the generator's body stands: entered at s4 -/
def gCx (X : Cx) (scope : Scope) (code : Value) (fp : List Addr) (s4 : Shared) (H4 : Hp) (B : Around) (ext : List Str) : Cx where
  prog := X.prog
  w := X.w
  K := X.K
  mg := X.mg
  base := X.base
  A := B
  N := X.N ++ ext
  s_0 := s4
  H_0 := H4
  env := gEnv X scope s4.heap.objs.size code
  outer := X.stack
  stack := gEnv X scope s4.heap.objs.size code :: X.stack
  ex := fp
  fn := fun _ => false
  calm := true
  pn := []
  xe := fun _ _ => False
/-- the slots that the body begins with -/
def gS (σ : L2.St) (own : List (Str × Nat)) (ext : List Str) : L2.St := wipe (σ ++ ext.map fun _ => none) (own.map (·.2))
/-- what the text of the expression has -/
structure GOk (N : List Str) (sc scope : Scope) (own : List (Str × Nat)) (ext : List Str) : Prop where
  nd : (N ++ ext).Nodup
  blk : BlkOk (N ++ ext) sc scope own
  co : scope.isCoroutine = false
  cell : ∀ y ∈ scope.names, y.2 ≠ .cell
  dot : scope.names.lookup (".0" : Str) = some NameKind.local
theorem wipe_keeps {σ : L2.St} : ∀ {vs : List Nat} {i : Nat} {v : V}, (wipe σ vs)[i]? = some (some v) → σ[i]? = some (some v) ∧ i ∉ vs
  | [], _, _, h => ⟨h, by simp⟩
  | j :: vs, i, v, h => by
    rw [wipe] at h
    by_cases e : j = i
    · subst e
      rw [List.getElem?_set_self'] at h
      cases q : (wipe σ vs)[j]? with
      | none => rw [q] at h; cases h
      | some u => rw [q] at h; cases h
    · rw [List.getElem?_set_ne e] at h
      obtain ⟨a, b⟩ := wipe_keeps h
      exact ⟨a, by simp only [List.mem_cons, not_or]; exact ⟨fun z => e z.symm, b⟩⟩
section
variable {X : Cx} {pins : List (Addr × Obj)} {σ : L2.St} {H4 H : Hp} {s4 s : Shared} {scope : Scope} {own : List (Str × Nat)} {ext : List Str} {code : Value} {fp : List Addr} {B : Around}
theorem cells_of (ok : ∀ y ∈ scope.names, y.2 = .free → ∃ c, X.env.cells.lookup y.1 = some c) {y : Str} {c : Addr} (e : (cloFrom X.env.cells scope.names []).lookup y = some c) : X.env.cells.lookup y = some c := by
  rcases cloFrom_mem (PySem.mem_of_lookup e) with q | ⟨q, r⟩
  · cases q
  · obtain ⟨c1, hc⟩ := ok _ q rfl
    have hc' : X.env.cells.lookup y = some c1 := hc
    rw [hc'] at r
    rw [hc', r]
    rfl
theorem cells_to {y : Str} (hl : scope.names.lookup y = some .free) : ∃ c, (cloFrom X.env.cells scope.names []).lookup y = some c :=
  mem_lookup (cloFrom_has (cells := X.env.cells) (acc := []) (PySem.mem_of_lookup hl))
theorem free_cells (I : Inv X pins σ H4 s4) (G : GOk X.N X.env.scope scope own ext) : ∀ y ∈ scope.names, y.2 = .free → ∃ c, X.env.cells.lookup y.1 = some c := fun y hy e => by
  rcases G.blk.free y hy e with k | k
  · exact I.ok.has _ (.inl k)
  · exact I.ok.has _ (.inr k)
/-- the body's frame over the maker's heap, at any later state -/
theorem gx_inv (I : Inv X pins σ H4 s4) (G : GOk X.N X.env.scope scope own ext) (hf : ∀ b ∈ fp, FpOk X pins H4 b) (hB : B.frames = some (gEnv X scope s4.heap.objs.size code :: X.stack)) (hh : B.handled = none)
    (os : s.os = s4.os) (bare : AllBare s.gens) (un : Un (frs X.stack) fp H4 H s4.heap s.heap) (hok : HOk X.prog X.w H s.heap) (hns : ∃ m, s.heap.Ns s4.heap.objs.size m) (hC : H s4.heap.objs.size = none) (lt : ∀ b ∈ fp, b < s4.heap.objs.size)
    {ps : List (Addr × Obj)} (hps : ∀ p ∈ ps, s.heap.get? p.1 = some p.2 ∧ H p.1 = none ∧ p.1 ≠ s4.heap.objs.size ∧ p.1 ∉ frs X.stack ∧ ∀ v, p.2.data ≠ .cell v) :
    Inv (gCx X scope code fp s4 H4 B ext) ps (gS σ own ext) H s := by
  have fc := free_cells I G
  have cm : ∀ {y c}, (cloFrom X.env.cells scope.names []).lookup y = some c → X.env.cells.lookup y = some c := fun {y c} e => cells_of fc e
  have e0 := I.env0
  have nfp : ∀ {y c}, X.env.cells.lookup y = some c → c ∉ fp := fun {y c} e z => (hf c z).2.2.2.2.1 y c e rfl
  have cellK : ∀ {y c v}, X.env.cells.lookup y = some c → s4.heap.IsCell c v → s.heap.IsCell c v := fun {y c v} e ⟨o, ho, hd⟩ => by
    obtain ⟨sl, q⟩ := un.any ho (I.freeC y c e) (nfp e)
    exact ⟨_, q, hd⟩
  have hfp : ∀ b ∈ fp, b ∉ frs X.stack := fun b hb z => by
    rcases List.mem_cons.mp (I.stkSub _ z) with e | e
    · exact (hf b hb).2.1 e
    · exact (hf b hb).2.2.1 e
  have hbase : ∀ b o, X.base.get? b = some o → b ∉ fp := fun b o e z => by
    rcases (hf b z).2.2.2.1 with q | q
    · exact I.ok.noex b o e q
    · exact absurd (Nat.lt_of_lt_of_le (Heap.lt_size e) (Nat.le_trans I.ok.bsz q)) (Nat.lt_irrefl _)
  obtain ⟨m, hm⟩ := hns
  refine ⟨⟨e0.mod, G.blk.kind, I.ok.glob, rfl, Nat.le_refl _, fun y z c e1 e2 => I.ok.inj y z c (cm e1) (cm e2), fun y hy => ?_, fun _ _ z _ => ?_, fun _ => hh, hB, .inr ⟨rfl, rfl⟩, fun b hb => ⟨Nat.ne_of_lt (lt b hb), fun y c e => fun z => nfp (cm e) (z ▸ hb)⟩, e0.bs, e0.bsz, hbase, hfp, e0.funs, e0.frf⟩,
    os, bare, un, ⟨m, hm, fun i y v e1 e2 e3 => ?_⟩, fun y c e => ?_, hC, fun y c e => ?_, fun q hq => ?_, hok, ?_⟩
  · have hy' : scope.names.lookup y = some .cell ∨ scope.names.lookup y = some .free := hy
    rcases hy' with hy' | hy'
    · exact absurd rfl (G.cell _ (PySem.mem_of_lookup hy'))
    · exact cells_to hy'
  · exact absurd (show false = true from z) (by decide)
  · have e1' : (X.N ++ ext)[i]? = some y := e1
    obtain ⟨q1, q2⟩ := wipe_keeps e2
    have e3' : Vis scope y := e3
    have own_no : scope.names.lookup y = some .local ∨ scope.names.lookup y = some .cell → False := fun k => by
      have hy : (y, NameKind.local) ∈ scope.names ∨ (y, NameKind.cell) ∈ scope.names := k.elim (fun k => .inl (PySem.mem_of_lookup k)) fun k => .inr (PySem.mem_of_lookup k)
      have own_or : y ∈ own.map (·.1) ∨ y ∉ X.N ++ ext := hy.elim (fun k => G.blk.own _ k (.inl rfl)) fun k => G.blk.own _ k (.inr rfl)
      rcases own_or with z | z
      · obtain ⟨p, hp, ep⟩ := List.mem_map.mp z
        have ei := G.blk.ix p hp
        rw [ep] at ei
        have : p.2 = i := nodup_ix G.nd ei e1'
        exact q2 (List.mem_map.mpr ⟨p, hp, this⟩)
      · exact z (List.mem_of_getElem? e1')
    have hfree : scope.names.lookup y = some .free := by
      rcases e3' with k | k | k
      · exact (own_no (.inl k)).elim
      · exact (own_no (.inr k)).elim
      · exact k
    have hi : i < σ.length := by
      by_cases hi : i < σ.length
      · exact hi
      · rw [List.getElem?_append_right (Nat.le_of_not_lt hi), List.getElem?_map] at q1
        cases q : ext[i - σ.length]? with
        | none => rw [q] at q1; cases q1
        | some u => rw [q] at q1; cases q1
    rw [List.getElem?_append_left hi] at q1
    rw [List.getElem?_append_left (by rw [← I.len]; exact hi)] at e1'
    have sck := G.blk.free _ (PySem.mem_of_lookup hfree) rfl
    obtain ⟨m2, _, hl⟩ := I.loc
    obtain ⟨u, ru, lk⟩ := hl i y v e1' q1 (sck.elim (fun k => .inr (.inl k)) fun k => .inr (.inr k))
    obtain ⟨c2, h2⟩ := cells_to (X := X) hfree
    refine ⟨u, ru, .inr ⟨.inr hfree, c2, h2, ?_⟩⟩
    rcases lk with ⟨k', _⟩ | ⟨_, c3, e', z⟩
    · have k' : X.env.scope.names.lookup y = some .local := k'
      rcases sck with k2 | k2 <;> rw [show X.env.scope.names.lookup y = _ from k2] at k' <;> cases k'
    · rw [cm h2] at e'
      cases e'
      exact cellK (cm h2) z
  · obtain ⟨v, z⟩ := I.cell y c (cm e)
    exact ⟨v, cellK (cm e) z⟩
  · obtain ⟨v, o, ho, hd⟩ := I.cell y c (cm e)
    exact un.free c o ho (I.freeC y c (cm e)) (nfp (cm e))
  · exact hps q (by simpa [gCx] using hq)
  · show (wipe _ _).length = _
    rw [wipe_length, List.length_append, List.length_map]
    show _ = (X.N ++ ext).length
    rw [List.length_append, I.len]
end
/-- what holds while the generator is awake or asleep; sx: what its consumer writes meanwhile -/
structure CO (X : Cx) (fp sx : List Addr) (s4 : Shared) (H4 H : Hp) (s : Shared) : Prop where
  os : s.os = s4.os
  bare : AllBare s.gens
  un : Un (frs X.stack) fp H4 H s4.heap s.heap
  hok : HOk X.prog X.w H s.heap
  ns : ∃ m, s.heap.Ns s4.heap.objs.size m
  free : H s4.heap.objs.size = none
  fr : ∀ b ∈ fp, H b = none
  sx : ∀ b ∈ sx, (∃ o, s.heap.get? b = some o ∧ ∀ v, o.data ≠ .cell v) ∧ H b = none ∧ b ≠ s4.heap.objs.size ∧ b ∉ frs X.stack ∧ b ∉ fp ∧ s4.heap.get? b = none
/-- what the consumer does while the generator sleeps -/
structure Kp (sx : List Addr) (s s' : Shared) : Prop where
  os : s'.os = s.os
  bare : AllBare s'.gens
  keep : ∀ b o, b ∉ sx → s.heap.get? b = some o → s'.heap.get? b = some o
  own : ∀ b ∈ sx, ∃ o, s'.heap.get? b = some o ∧ ∀ v, o.data ≠ .cell v
theorem CO.kp {X : Cx} {fp sx : List Addr} {s4 s s' : Shared} {H4 H : Hp} (h : CO X fp sx s4 H4 H s) (k : Kp sx s s') : CO X fp sx s4 H4 H s' := by
  have n4 : ∀ b o, s4.heap.get? b = some o → b ∉ sx := fun b o e z => by
    rw [(h.sx b z).2.2.2.2.2] at e
    cases e
  have nH : ∀ b u, H b = some u → b ∉ sx := fun b u e z => by
    rw [(h.sx b z).2.1] at e
    cases e
  refine ⟨k.os.trans h.os, k.bare, ⟨fun b o e n h1 h2 => k.keep b o (n4 b o e) (h.un.keep b o e n h1 h2), fun b o e n h1 h2 => ?_, h.un.free, fun b o e h2 => ?_, h.un.tups, h.un.frzs, h.un.tbls⟩, fun a o e => ?_, ?_, h.free, h.fr, fun b hb => ⟨k.own b hb, (h.sx b hb).2⟩⟩
  · obtain ⟨sl, q⟩ := h.un.slot b o e n h1 h2
    exact ⟨sl, k.keep b _ (n4 b o e) q⟩
  · obtain ⟨o', q⟩ := h.un.there b o e h2
    exact ⟨o', k.keep b _ (n4 b o e) q⟩
  · refine (h.hok a o e).stay (fun b u hb q => k.keep b u ?_ q) (fun _ z => z) fun _ _ z => z
    rcases hb with z | z
    · exact z ▸ nH a o e
    · exact nH b _ z
  · obtain ⟨m, o, es, ep, ho, r⟩ := h.ns
    exact ⟨m, o, es, ep, k.keep _ _ (fun z => (h.sx _ z).2.2.1 rfl) ho, r⟩
/-- all that does not change of a generator -/
structure GSt (X : Cx) (pins : List (Addr × Obj)) (σ : L2.St) (scope : Scope) (own : List (Str × Nat)) (ext : List Str) (tg : Expr) (code : Value) (H4 : Hp) (s4 : Shared) (J : It) (fp : List Addr) (it : Addr) (tn : Nat → Heap → Prop) : Prop where
  inv : Inv X pins σ H4 s4
  ok : GOk X.N X.env.scope scope own ext
  turn : Turn X.prog X.w X.K tg J fp it tn
  fpo : ∀ b ∈ fp, FpOk X pins H4 b
  lt : ∀ b ∈ fp, b < s4.heap.objs.size
section
variable {X : Cx} {pins : List (Addr × Obj)} {σ : L2.St} {H4 : Hp} {s4 : Shared} {scope : Scope} {own : List (Str × Nat)} {ext : List Str} {tg elt iter : Expr} {code : Value} {fp sx : List Addr} {J : It} {it : Addr} {tn : Nat → Heap → Prop} {pos : Pos}
/-- the loop's code -/
abbrev gLoop (X : Cx) (tg elt iter : Expr) (scope : Scope) (pos : Pos) (it : Addr) (s4 : Shared) (code : Value) : Code :=
  .compLoop (.GeneratorExp elt [⟨tg, iter, [], 0⟩] scope pos) 0 (.ref it) .none (gEnv X scope s4.heap.objs.size code)
abbrev gFirst (X : Cx) (tg elt iter : Expr) (scope : Scope) (pos : Pos) (it : Addr) (s4 : Shared) (code : Value) : Code :=
  .compStart (.GeneratorExp elt [⟨tg, iter, [], 0⟩] scope pos) 0 (.ref it) .none (gEnv X scope s4.heap.objs.size code)
def gY (X : Cx) (fp sx : List Addr) (s4 : Shared) (H4 : Hp) (tn : Nat → Heap → Prop) (W : Nat → Nat → Hp → Prop) (Yd : Nat → Nat → V → Hp → Prop) : Protocol := fun n s0 v s kap =>
  ∃ (y : V) (i m : Nat) (H : Hp), RelV y v ∧ Yd i m y H ∧ CO X fp sx s4 H4 H s ∧ tn (i + 1) s.heap ∧ (∀ b ∈ sx, s.heap.get? b = s0.heap.get? b) ∧ m ≤ n ∧ ∀ m' s', m' < m → W (i + 1) m' H → Kp sx s s' → kap (.send .none) s'
def gE (X : Cx) (fp sx : List Addr) (s4 : Shared) (H4 : Hp) (Dn : Hp → Prop) : Nat → Shared → Shared → Prop := fun _ s0 s => ∃ H, Dn H ∧ CO X fp sx s4 H4 H s ∧ ∀ b ∈ sx, s.heap.get? b = s0.heap.get? b
theorem CO.inv {H : Hp} {s : Shared} {B : Around} (S : GSt X pins σ scope own ext tg code H4 s4 J fp it tn) (h : CO X fp sx s4 H4 H s) (hB : B.frames = some (gEnv X scope s4.heap.objs.size code :: X.stack)) (hh : B.handled = none) :
    Inv (gCx X scope code fp s4 H4 B ext) (pinsAt sx s.heap) (gS σ own ext) H s := by
  refine gx_inv S.inv S.ok S.fpo hB hh h.os h.bare h.un h.hok h.ns h.free S.lt fun p hp => ?_
  obtain ⟨hb, e⟩ := of_pinsAt hp
  obtain ⟨⟨o, e', d⟩, h2, h3, h4, _⟩ := h.sx p.1 hb
  rw [e] at e'
  cases e'
  exact ⟨e, h2, h3, h4, d⟩
theorem CO.of_inv {H H' : Hp} {s s' : Shared} {B : Around} {σ' : L2.St} (h : CO X fp sx s4 H4 H s) (I : Inv (gCx X scope code fp s4 H4 B ext) (pinsAt sx s.heap) σ' H' s') (hf : ∀ b ∈ fp, H' b = none) : CO X fp sx s4 H4 H' s' ∧ ∀ b ∈ sx, s'.heap.get? b = s.heap.get? b := by
  have pin : ∀ b ∈ sx, ∀ o, s.heap.get? b = some o → s'.heap.get? b = some o ∧ H' b = none := fun b hb o e => by
    have z := I.pin (b, o) (List.mem_append_right _ (mem_pinsAt hb e))
    exact ⟨z.1, z.2.1⟩
  refine ⟨⟨I.os, I.bare, I.base, I.hok, ?_, I.free, hf, fun b hb => ?_⟩, fun b hb => ?_⟩
  · obtain ⟨m, hm, _⟩ := I.loc
    exact ⟨m, hm⟩
  · obtain ⟨⟨o, e, d⟩, h2, h3⟩ := h.sx b hb
    obtain ⟨p1, p2⟩ := pin b hb o e
    exact ⟨⟨o, p1, d⟩, p2, h3⟩
  · obtain ⟨⟨o, e, d⟩, _⟩ := h.sx b hb
    rw [e, (pin b hb o e).1]
theorem seg_loop {Ag : Around} (S : GSt X pins σ scope own ext tg code H4 s4 J fp it tn) (hfr : Ag.frames = some X.stack) (hh : Ag.handled = none) {g : TG} {te : TE}
    (hg : PG (gCx X scope code fp s4 H4 (Ag.over (gLoop X tg elt iter scope pos it s4 code) []) ext) tg g) (he : PE (gCx X scope code fp s4 H4 (Ag.over (gLoop X tg elt iter scope pos it s4 code) []) ext) elt te)
    (W : Nat → Nat → Hp → Prop) (Dn : Hp → Prop) (Yd : Nat → Nat → V → Hp → Prop)
    (turn : ∀ i m H, W i m H → (J.stop i H ∧ Dn H) ∨ (J.go i H ∧ ∃ Yn : V → Hp → Prop, (∀ v H3, Yn v H3 → Yd i m v H3) ∧ ∀ x H', J.yld i H x H' → g x (gS σ own ext) H' fun σ2 H2 => te σ2 H2 Yn)) :
    ∀ n i m H s, m < n → W i m H → CO X fp sx s4 H4 H s → tn i s.heap →
      Seg (model X.prog X.w) Ag (fun n s0 r s1 => r = .ok .next ∧ gE X fp sx s4 H4 Dn n s0 s1) (gY X fp sx s4 H4 tn W Yd) n s (gLoop X tg elt iter scope pos it s4 code) ((model X.prog X.w).den (gLoop X tg elt iter scope pos it s4 code)) [] s := by
  have hB : (Ag.over (gLoop X tg elt iter scope pos it s4 code) []).frames = some (gEnv X scope s4.heap.objs.size code :: X.stack) := by
    show pushEnvs [gEnv X scope s4.heap.objs.size code] (pushEnvs [] Ag.frames) = _
    rw [hfr]
    rfl
  have hBh : (Ag.over (gLoop X tg elt iter scope pos it s4 code) []).handled = none := hh
  intro n
  induction n with
  | zero => exact fun i m H s hm => absurd hm (Nat.not_lt_zero _)
  | succ n ih =>
    intro i m H s hm w0 h0 t0
    have I0 := CO.inv S h0 hB hBh
    have ff : ∀ {H' : Hp}, (∀ b ∈ fp, H' b = none) → ∀ b ∈ fp, FpOk (gCx X scope code fp s4 H4 (Ag.over (gLoop X tg elt iter scope pos it s4 code) []) ext) (pinsAt sx s.heap) H' b := fun hn b hb => by
      refine ⟨hn b hb, Nat.ne_of_lt (S.lt b hb), I0.ok.exfs b hb, .inl hb, (I0.ok.exf b hb).2, fun p hp z => ?_⟩
      have q := (of_pinsAt (show p ∈ pinsAt sx s.heap by simpa [gCx] using hp)).1
      exact (h0.sx p.1 q).2.2.2.2.1 (z ▸ hb)
    show Seg _ Ag _ _ _ s _ ((compTurn (.GeneratorExp elt [⟨tg, iter, [], 0⟩] scope pos) 0 (.ref it) .none (gEnv X scope s4.heap.objs.size code)).onRaise (leaving (gEnv X scope s4.heap.objs.size code))) [] s
    rw [compTurn_gen, Sem.onRaise_eq_wrap]
    refine seg_bind_wrap (wpAny_standAt ?_)
    rcases turn i m H w0 with ⟨stop, dn⟩ | ⟨go, Yn, hYn, step⟩
    · refine seg_bind_wrap (wpAny_mono (S.turn.done (gCx X scope code fp s4 H4 (Ag.over (gLoop X tg elt iter scope pos it s4 code) []) ext) rfl rfl rfl rfl i _ s _ H (fun _ _ => False) I0 (ff h0.fr) t0 stop) (fun r s1 hr => ?_) fun _ _ z => False.elim z)
      obtain ⟨rfl, I1⟩ := hr
      obtain ⟨c1, x1⟩ := h0.of_inv I1 h0.fr
      exact seg_end (.ok .next) ⟨rfl, H, dn, c1, x1⟩
    · refine seg_bind_wrap (wpAny_mono (S.turn.item (gCx X scope code fp s4 H4 (Ag.over (gLoop X tg elt iter scope pos it s4 code) []) ext) rfl rfl rfl rfl i _ s _ H (fun _ _ => False) I0 (ff h0.fr) t0 go) (fun r s1 hr => ?_) fun _ _ z => False.elim z)
      obtain ⟨u, rfl, h1⟩ := hr
      refine seg_bind_wrap (wpAny_mono h1 (fun _ s2 h2 => ?_) fun _ _ z => False.elim z)
      obtain ⟨x, H2, I2, rx, y2, t2, f2⟩ := h2
      have I2p := I2.pinned (ff f2) (S.turn.obj _ _ t2)
      refine seg_bind_wrap (wpAny_mono (hg.run _ s2 _ H2 x u _ I2p rx (step x H2 y2)) (fun _ s3 h3 => ?_) fun _ _ z => False.elim z)
      obtain ⟨σ3, H3, I3, q3⟩ := h3
      simp only [List.forIn_nil]
      refine seg_bind_wrap (wpAny_pure ?_)
      simp only [if_true]
      have hy : ∀ v, yieldOut (gEnv X scope s4.heap.objs.size code) v = yieldValue v := fun v => by
        have q : (gEnv X scope s4.heap.objs.size code).scope.isCoroutine = false := S.ok.co
        simp only [yieldOut, q, Bool.false_eq_true, if_false]
      simp only [hy]
      rw [Sem.bind_eq_wrap', Sem.bind_eq_wrap', Sem.wrap_wrap, Sem.wrap_wrap]
      refine seg_wrap (wpAny_mono (he.run _ s3 σ3 H3 _ I3 q3) (fun v s5 h5 => ?_) fun _ _ z => False.elim z)
      obtain ⟨y, H5, I5, ry, q5⟩ := h5
      have pf : ∀ b ∈ fp, ∀ o, s2.heap.get? b = some o → s5.heap.get? b = some o ∧ H5 b = none := fun b hb o e => by
        have z := I5.pin (b, o) (List.mem_append_right _ (List.mem_append_right _ (mem_pinsAt hb e)))
        exact ⟨z.1, z.2.1⟩
      have f5 : ∀ b ∈ fp, H5 b = none := fun b hb => by
        obtain ⟨o, e, _⟩ := S.turn.obj _ _ t2 b hb
        exact (pf b hb o e).2
      have t5 : tn (i + 1) s5.heap := S.turn.keep _ _ _ t2 fun b hb o e => (pf b hb o e).1
      obtain ⟨c5, x5⟩ := h0.of_inv I5.unpinned f5
      refine seg_at (seg_yield rfl rfl rfl ⟨y, i, m, H5, ry, hYn _ _ q5, c5, t5, x5, Nat.lt_succ_iff.mp hm, fun m' s' hm' w' kp => ?_⟩)
      refine seg_again rfl (ih (i + 1) m' H5 s' (Nat.lt_of_lt_of_le hm' (Nat.lt_succ_iff.mp hm)) w' (c5.kp kp) (S.turn.keep _ _ _ t5 fun b hb o e => kp.keep b o (fun z => (c5.sx b z).2.2.2.2.1 hb) e))
theorem seg_first {Ag : Around} (S : GSt X pins σ scope own ext tg code H4 s4 J fp it tn) (hh : Ag.handled = none) {R : GenEnd} {Y : Protocol} {n : Nat} {s0 s : Shared} (t0 : tn 0 s.heap)
    (loop : Seg (model X.prog X.w) Ag R Y n s0 (gLoop X tg elt iter scope pos it s4 code) ((model X.prog X.w).den (gLoop X tg elt iter scope pos it s4 code)) [] s) :
    Seg (model X.prog X.w) Ag R Y n s0 (gFirst X tg elt iter scope pos it s4 code) ((model X.prog X.w).den (gFirst X tg elt iter scope pos it s4 code)) [] s := by
  show Seg _ Ag _ _ _ s0 _ ((compStart (.GeneratorExp elt [⟨tg, iter, [], 0⟩] scope pos) 0 (.ref it) .none (gEnv X scope s4.heap.objs.size code)).onRaise (leaving (gEnv X scope s4.heap.objs.size code))) [] s
  unfold compStart
  rw [Sem.onRaise_eq_wrap]
  show Seg _ Ag _ _ _ s0 _ ((ask >>= _).wrap _ _ _ _) [] s
  refine seg_bind_wrap (wpAny_askSetting ?_)
  split
  · exact seg_again rfl loop
  · first
      | exact seg_bind_wrap (wpAny_rule (seg_bind_wrap (wpAny_standAt (seg_bind_wrap (S.turn.self _ 0 s _ _ t0 (seg_again rfl loop))))))
      | (refine seg_bind_wrap (wpAny_rule ?_); show Seg _ Ag _ _ _ s0 _ ((standAt iter.pos >>= _).wrap _ _ _ _) [] s; exact seg_bind_wrap (wpAny_standAt (seg_bind_wrap (S.turn.self _ 0 s _ _ t0 (seg_again rfl loop)))))
theorem lim_of {H : Hp} {s : Shared} (S : GSt X pins σ scope own ext tg code H4 s4 J fp it tn) (h : CO X fp sx s4 H4 H s) : s.heap.NoLimit := by
  refine S.inv.ok.mod.nolimit.keeps fun b o e => ?_
  obtain ⟨e1, e2⟩ := S.inv.bs b o e
  refine h.un.keep b o e1 e2 (fun z => ?_) fun z => ?_
  · have q := (S.inv.env0.funs.mem z).1
    rw [e] at q
    cases q
  · rcases (S.fpo b z).2.2.2.1 with q | q
    · exact S.inv.ok.noex b o e q
    · exact absurd (Nat.lt_of_lt_of_le (Heap.lt_size e) (Nat.le_trans S.inv.ok.bsz q)) (Nat.lt_irrefl _)
/-- the generator at ga, its state kept at gi, asleep; n: how often it may be woken -/
structure GA (X : Cx) (fp sx : List Addr) (s4 : Shared) (H4 : Hp) (tn : Nat → Heap → Prop) (W : Nat → Nat → Hp → Prop) (Dn : Hp → Prop) (Yd : Nat → Nat → V → Hp → Prop) (Ag : Around) (ga : Addr) (gi n : Nat) (s : Shared) : Prop where
  gen : s.heap.IsGen ga gi
  mem : ga ∈ sx
  co : ∃ H, CO X fp sx s4 H4 H s
  goes : ∃ gs, s.gens[gi]? = some gs ∧ ∀ s', Kp sx s s' → gs.Goes (model X.prog X.w) Ag (fun n s0 r s1 => r = .ok .next ∧ gE X fp sx s4 H4 Dn n s0 s1) (gY X fp sx s4 H4 tn W Yd) n (.send .none) s'
theorem AllBare.set {s : Shared} {g : Nat} {x : GenState} (h : AllBare s.gens) (hx : x.bare = true) : AllBare (s.setGen g x).gens := fun y hy => by
  obtain ⟨j, hj, e⟩ := Array.mem_iff_getElem.mp hy
  by_cases q : g = j
  · subst q
    simp [Shared.setGen] at e
    exact e ▸ hx
  · have hj' : j < s.gens.size := by simpa [Shared.setGen] using hj
    have e2 : y = s.gens[j] := by
      rw [← e]
      simp only [Shared.setGen]
      exact Array.getElem_setIfInBounds_ne hj' q
    rw [e2]
    exact h _ (Array.getElem_mem hj')
theorem CO.any {H : Hp} {s s' : Shared} (h : CO X fp sx s4 H4 H s) (os : s'.os = s.os) (bare : AllBare s'.gens) (k : ∀ b o, s.heap.get? b = some o → s'.heap.get? b = some o) : CO X fp sx s4 H4 H s' :=
  h.kp ⟨os, bare, fun b o _ e => k b o e, fun b hb => let ⟨⟨o, e, d⟩, _⟩ := h.sx b hb; ⟨o, k b o e, d⟩⟩
theorem gen_next {Ap : Around} {W : Nat → Nat → Hp → Prop} {Dn : Hp → Prop} {Yd : Nat → Nat → V → Hp → Prop} {ga : Addr} {gi n : Nat} {s : Shared} {E : Value → Shared → Prop} (S : GSt X pins σ scope own ext tg code H4 s4 J fp it tn) (hh : Ap.handled = none) (hd : Ap.depth < recursionLimit)
    (h : GA X fp sx s4 H4 tn W Dn Yd Ap.in1 ga gi (n + 1) s) :
    wpAny (model X.prog X.w) Ap (pyNext (.ref ga)) (fun r s1 => (r = none ∧ ∃ H, Dn H ∧ CO X fp sx s4 H4 H s1 ∧ ∀ b ∈ sx, s1.heap.get? b = s.heap.get? b) ∨
      ∃ v y i m H, r = some v ∧ RelV y v ∧ Yd i m y H ∧ CO X fp sx s4 H4 H s1 ∧ (∀ b ∈ sx, s1.heap.get? b = s.heap.get? b) ∧ m ≤ n ∧ ∀ m', m' < m → W (i + 1) m' H → GA X fp sx s4 H4 tn W Dn Yd Ap.in1 ga gi n s1) E s := by
  obtain ⟨hg, hm, ⟨H0, c0⟩, gs, hgs, hgo⟩ := h
  have hlt : gi + 1 ≤ s.gens.size := by
    by_cases q : gi < s.gens.size
    · exact q
    · rw [Array.getElem?_eq_none (Nat.le_of_not_lt q)] at hgs
      cases hgs
  refine GenW.wpAny_gsz hlt (wpAny_pyNext_genexpQ (P := gE X fp sx s4 H4 Dn) hh (lim_of S c0) hd hg hgs (hgo _ ⟨rfl, AllBare.set c0.bare rfl, fun _ _ _ e => e, fun b hb => (c0.sx b hb).1⟩) (fun v s1 gs' hb hy hsz => ?_) (fun s1 he h' hk _ => ?_))
  · obtain ⟨y, i, m, H, ry, yd, c1, t1, x1, hmn, hka⟩ := hy
    have c2 : CO X fp sx s4 H4 H (s1.setGen gi gs') := c1.any rfl (AllBare.set c1.bare hb) fun _ _ e => e
    refine .inr ⟨v, y, i, m, H, rfl, ry, yd, c2, x1, hmn, fun m' hm' w' => ⟨?_, hm, ⟨H, c2⟩, gs', ?_, fun s' kp => ?_⟩⟩
    · obtain ⟨o, nm, qn, ho, r⟩ := hg
      exact ⟨o, nm, qn, (x1 ga hm).trans ho, r⟩
    · have hsz2 : gi < s1.gens.size := by
        have q : (s1.setGen gi gs').gens.size = s1.gens.size := GenW.setGen_size _ _ _
        rw [q] at hsz
        exact hsz
      simp [Shared.setGen, hsz2]
    · exact hka m' s' hm' w' ⟨kp.os, kp.bare, kp.keep, kp.own⟩
  · obtain ⟨H, dn, c1, x1⟩ := he
    have c2 : CO X fp sx s4 H4 H { s1.setGen gi .finished with heap := h' } := c1.any rfl (AllBare.set c1.bare rfl) hk
    refine .inl ⟨rfl, H, dn, c2, fun b hb => ?_⟩
    obtain ⟨⟨o, e, _⟩, _⟩ := c1.sx b hb
    exact (hk b o e).trans (e.symm.trans (x1 b hb))
theorem any_walk {W : Nat → Nat → Hp → Prop} {QT QF : Hp → Prop} {ga : Addr} {gi : Nat} {R : Result → Shared → Prop} (S : GSt X pins σ scope own ext tg code H4 s4 J fp it tn) (hh : X.A.handled = none) (hd : X.A.depth < recursionLimit)
    (hR : ∀ (b : Bool) (H : Hp) (s' : Shared), (if b = true then QT H else QF H) → CO X fp sx s4 H4 H s' → R (.ok (.ret (.bool b))) s') :
    ∀ n s, GA X fp sx s4 H4 tn W QF (fun i m y H => ∃ b, y = V.bl b ∧ if b = true then QT H else ∃ m', m' < m ∧ W (i + 1) m' H) X.A.in1.in1 ga gi (n + 1) s → codeAny (model X.prog X.w) X.A (.builtin "any.loop" ⟨[.ref ga], []⟩) R s := by
  intro n
  induction n with
  | zero =>
    intro s h
    refine codeAny_builtin F.entry_any_loop ?_
    rw [Around.under_plainId F.plain_any_loop _]
    show wpAny _ X.A.in1 (pyNext (.ref ga) >>= _) _ _ s
    refine wpAny_bind (wpAny_mono (gen_next (E := fun _ _ => False) S hh hd h) (fun r s1 hr => ?_) fun _ _ z => False.elim z)
    rcases hr with ⟨rfl, H, dn, c1, _⟩ | ⟨v, y, i, m, H, rfl, ry, ⟨b, rfl, yd⟩, c1, _, hm, _⟩
    · exact wpAny_bind (wpAny_rule (wpAny_pure (hR false H s1 (iteF dn) c1)))
    · obtain rfl : v = Value.bool b := ry
      refine wpAny_bind (wpAny_holding (wpAny_truthy_bool (wpAny_bind (wpAny_letGo ?_))))
      cases b with
      | true => exact wpAny_bind (wpAny_rule (wpAny_pure (hR true H s1 yd c1)))
      | false =>
        obtain ⟨m', hm', _⟩ : ∃ m', m' < m ∧ W (i + 1) m' H := yd
        omega
  | succ n ih =>
    intro s h
    refine codeAny_builtin F.entry_any_loop ?_
    rw [Around.under_plainId F.plain_any_loop _]
    show wpAny _ X.A.in1 (pyNext (.ref ga) >>= _) _ _ s
    refine wpAny_bind (wpAny_mono (gen_next (E := fun _ _ => False) S hh hd h) (fun r s1 hr => ?_) fun _ _ z => False.elim z)
    rcases hr with ⟨rfl, H, dn, c1, _⟩ | ⟨v, y, i, m, H, rfl, ry, ⟨b, rfl, yd⟩, c1, _, hm, more⟩
    · exact wpAny_bind (wpAny_rule (wpAny_pure (hR false H s1 (iteF dn) c1)))
    · obtain rfl : v = Value.bool b := ry
      refine wpAny_bind (wpAny_holding (wpAny_truthy_bool (wpAny_bind (wpAny_letGo ?_))))
      cases b with
      | true => exact wpAny_bind (wpAny_rule (wpAny_pure (hR true H s1 yd c1)))
      | false =>
        obtain ⟨m', hm', w'⟩ : ∃ m', m' < m ∧ W (i + 1) m' H := yd
        exact wpAny_pure ⟨plainId_quiet F.plain_any_loop _, ih s1 (more m' hm' w')⟩
theorem all_walk {W : Nat → Nat → Hp → Prop} {QT QF : Hp → Prop} {ga : Addr} {gi : Nat} {R : Result → Shared → Prop} (S : GSt X pins σ scope own ext tg code H4 s4 J fp it tn) (hh : X.A.handled = none) (hd : X.A.depth < recursionLimit)
    (hR : ∀ (b : Bool) (H : Hp) (s' : Shared), (if b = true then QT H else QF H) → CO X fp sx s4 H4 H s' → R (.ok (.ret (.bool b))) s') :
    ∀ n s, GA X fp sx s4 H4 tn W QT (fun i m y H => ∃ b, y = V.bl b ∧ if b = false then QF H else ∃ m', m' < m ∧ W (i + 1) m' H) X.A.in1.in1 ga gi (n + 1) s → codeAny (model X.prog X.w) X.A (.builtin "all.loop" ⟨[.ref ga], []⟩) R s := by
  intro n
  induction n with
  | zero =>
    intro s h
    refine codeAny_builtin F.entry_all_loop ?_
    rw [Around.under_plainId F.plain_all_loop _]
    show wpAny _ X.A.in1 (pyNext (.ref ga) >>= _) _ _ s
    refine wpAny_bind (wpAny_mono (gen_next (E := fun _ _ => False) S hh hd h) (fun r s1 hr => ?_) fun _ _ z => False.elim z)
    rcases hr with ⟨rfl, H, dn, c1, _⟩ | ⟨v, y, i, m, H, rfl, ry, ⟨b, rfl, yd⟩, c1, _, hm, _⟩
    · exact wpAny_bind (wpAny_rule (wpAny_pure (hR true H s1 (iteT dn) c1)))
    · obtain rfl : v = Value.bool b := ry
      refine wpAny_bind (wpAny_holding (wpAny_truthy_bool (wpAny_bind (wpAny_letGo ?_))))
      cases b with
      | false => exact wpAny_bind (wpAny_rule (wpAny_pure (hR false H s1 yd c1)))
      | true =>
        obtain ⟨m', hm', _⟩ : ∃ m', m' < m ∧ W (i + 1) m' H := yd
        omega
  | succ n ih =>
    intro s h
    refine codeAny_builtin F.entry_all_loop ?_
    rw [Around.under_plainId F.plain_all_loop _]
    show wpAny _ X.A.in1 (pyNext (.ref ga) >>= _) _ _ s
    refine wpAny_bind (wpAny_mono (gen_next (E := fun _ _ => False) S hh hd h) (fun r s1 hr => ?_) fun _ _ z => False.elim z)
    rcases hr with ⟨rfl, H, dn, c1, _⟩ | ⟨v, y, i, m, H, rfl, ry, ⟨b, rfl, yd⟩, c1, _, hm, more⟩
    · exact wpAny_bind (wpAny_rule (wpAny_pure (hR true H s1 (iteT dn) c1)))
    · obtain rfl : v = Value.bool b := ry
      refine wpAny_bind (wpAny_holding (wpAny_truthy_bool (wpAny_bind (wpAny_letGo ?_))))
      cases b with
      | false => exact wpAny_bind (wpAny_rule (wpAny_pure (hR false H s1 yd c1)))
      | true =>
        obtain ⟨m', hm', w'⟩ : ∃ m', m' < m ∧ W (i + 1) m' H := yd
        exact wpAny_pure ⟨plainId_quiet F.plain_all_loop _, ih s1 (more m' hm' w')⟩
end
/-! ### made -/
section
variable {X : Cx} {pins : List (Addr × Obj)} {σ : L2.St} {H : Hp} {s : Shared} {scope : Scope} {own : List (Str × Nat)} {ext : List Str} {tg elt iter : Expr} {pos : Pos} {c P : Addr} {wi : TI} {k : Nat}
theorem gen_eval {R : It → Hp → Prop} {Q' : Value → Shared → Prop} (hr : Room k X.A) (TB : GxR.TabB X.base X.mg c P) (hcode : X.env.code = .ref c) (G : GOk X.N X.env.scope scope own ext) (hi : PI X tg iter wi) (hs : ∀ v, genFold iter X.env v = pure v)
    (I : Inv X pins σ H s) (h : wi σ H fun J H1 => GxR.TabG H1 P ∧ R J H1)
    (hQ : ∀ (J : It) (fp : List Addr) (it : Addr) (tn : Nat → Heap → Prop) (H1 H4 : Hp) (s4 s5 : Shared) (code : Value) (ga : Addr) (gi : Nat), R J H1 → GxR.Tabbed P H1 H4 → GSt X pins σ scope own ext tg code H4 s4 J fp it tn → tn 0 s5.heap → CO X fp [ga] s4 H4 H4 s5 →
      s5.heap.IsGen ga gi → s5.gens[gi]? = some (.fresh (gFirst X tg elt iter scope pos it s4 code)) → Q' (.ref ga) s5) :
    wpAny (model X.prog X.w) X.A (eval (.GeneratorExp elt [⟨tg, iter, [], 0⟩] scope pos) X.env) Q' X.xe s := by
  refine wpAny_GeneratorExp_make G.co (closure_ok (free_cells I G)) G.cell G.dot G.blk.kind hr.depth (thn (hi.run pins s σ H _ I h) fun xv s1 h1 => thn h1 fun itv s2 h2 => ?_) hs
  obtain ⟨it, fp, tn, J, H1, rfl, I2, T, t2, f2, ⟨ps, hP, ht⟩, q⟩ := h2
  have hPs : s2.heap.get? P = some { cls := .none, data := .fields ps } := I2.hok P _ hP
  have cd : PySem.W.CodeHd s2.heap c P := TB.code.keeps fun b u e => I2.bk b u e
  have nP : ∀ b ∈ fp, b ≠ P := fun b hb z => by
    have z2 := (f2 b hb).1
    rw [z, hP] at z2
    cases z2
  refine ⟨I2.nolimit, ?_⟩
  have cont : ∀ (code : Value) (h3 : Heap) (tk : Nat) (more : Array Value), Heap.ExtBut P s2.heap h3 → h3.get? P = some { cls := .none, data := .fields (ps ++ more) } → TriplesOk (ps ++ more).toList →
      wpAny (model X.prog X.w) X.A (builtinsFor X.env.globals X.env.builtins) (fun bi s₄ => ∀ h', h'.Ns s₄.heap.objs.size (fun y => if y = ".0" then some (.ref it) else none) → Heap.SameBut s₄.heap.objs.size (s₄.heap.push { cls := .type "frame", data := .dict #[] }) h' →
          Q' (.ref h'.objs.size) { s₄ with
            gens := s₄.gens.push (.fresh (.compStart (.GeneratorExp elt [⟨tg, iter, [], 0⟩] scope pos) 0 (.ref it) .none (genEnv scope (cloFrom X.env.cells scope.names []) s₄.heap.objs.size code bi X.env))),
            toks := s₄.toks + 1 + 1 + 1,
            heap := h'.push { cls := .type "generator", data := .fields #[.int s₄.gens.size 0, .str "<genexpr>" (s₄.toks + 1), .str (X.env.qual ++ "<genexpr>") (s₄.toks + 1 + 1)] } }) X.xe { s2 with heap := h3, toks := tk } := by
    intro code h3 tk more hx h3P ht3
    have I4 := GxR.inv_tab (more := more) (h' := h3) (g' := s2.gens) (d' := s2.drawn) (t' := tk) I2 hP (fun b u hb e => hx b u hb e) h3P I2.bare
    obtain ⟨bm, ob, e1, e2, e3, e4, e5, e6, e7, e8⟩ := TB.bm
    refine wpAny_builtinsFor (m := X.mg) (by rw [I4.ok.glob]; exact I4.mod.glob.keeps I4.bk) e1 e2 (I4.bk _ _ e5) e6 e7 e8 ?_
    intro h' hn' hs'
    have keep1 : ∀ b o, h3.get? b = some o → h'.get? b = some o := fun b o e => hs'.extBut b o (Nat.ne_of_lt (Heap.lt_size e)) (Heap.get?_push_of_some _ e)
    have sz' : h'.objs.size = h3.objs.size + 1 := by rw [hs'.1, Heap.size_push]
    have keep5 : ∀ b o, h3.get? b = some o → (h'.push { cls := .type "generator", data := .fields #[.int s2.gens.size 0, .str "<genexpr>" (tk + 1), .str (X.env.qual ++ "<genexpr>") (tk + 1 + 1)] }).get? b = some o := fun b o e => Heap.get?_push_of_some _ (keep1 b o e)
    have f4 : ∀ b ∈ fp, FpOk X pins (upd H1 P (.tbl (ps ++ more))) b := fun b hb => ⟨by rw [upd_ne (nP b hb)]; exact (f2 b hb).1, (f2 b hb).2⟩
    have t4 : tn 0 h3 := T.keep _ _ _ t2 fun b hb o e => hx b o (nP b hb) e
    have lt : ∀ b ∈ fp, b < h3.objs.size := fun b hb => by
      obtain ⟨o, e, _⟩ := T.obj _ _ t4 b hb
      exact Heap.lt_size e
    have S : GSt X pins σ scope own ext tg code (upd H1 P (.tbl (ps ++ more))) { s2 with heap := h3, toks := tk } J fp it tn := ⟨I4, G, T, f4, lt⟩
    have nga : ∀ b, h3.objs.size ≤ b → upd H1 P (.tbl (ps ++ more)) b = none := fun b hb => I4.hok.fresh hb
    refine hQ J fp it tn H1 _ { s2 with heap := h3, toks := tk } _ code h'.objs.size s2.gens.size q ⟨⟨_, upd_same, ht3⟩, fun b hb => upd_ne hb⟩ S (T.keep _ _ _ t4 fun b hb o e => keep5 b o e) ⟨rfl, AllBare.push I2.bare rfl, Un.kept keep5, I4.hok.kept keep5, ⟨_, hn'.push _⟩, nga _ (Nat.le_refl _), fun b hb => (f4 b hb).1, fun b hb => ?_⟩ ?_ ?_
    · obtain rfl : b = h'.objs.size := by simpa using hb
      refine ⟨⟨_, Heap.get?_push_size _ rfl, fun v z => by cases z⟩, nga _ (by omega), ?_, fun z => ?_, fun z => ?_, ?_⟩
      · show h'.objs.size ≠ h3.objs.size
        omega
      · rcases List.mem_cons.mp (I4.stkSub _ z) with e | e
        · have z2 := I4.lt
          rw [← e] at z2
          have z3 : h'.objs.size < h3.objs.size := z2
          omega
        · exact I4.nofs (show h3.objs.size ≤ h'.objs.size by omega) e
      · have q5 : (h'.objs.size : Nat) < h3.objs.size := lt _ z
        omega
      · show h3.get? h'.objs.size = none
        cases e : h3.get? h'.objs.size with
        | none => rfl
        | some o =>
          have q5 : (h'.objs.size : Nat) < h3.objs.size := Heap.lt_size e
          omega
    · exact ⟨_, _, _, Heap.get?_push_size _ rfl, rfl, rfl, rfl⟩
    · exact Array.getElem?_push_size ..
  cases hf : codeAmong pos ps.toList with
  | none =>
    refine wpAny_genexprCodeX hcode (cd.code hPs ht) (cd.tab hPs) hf fun c' h' tk hx hge hlt hco' _ htab' _ => ?_
    obtain ⟨o1, vs, f1, tf, fl, tg', inF, tx, tt, op, _, _, _, _, _, _, _, _, _, htr, _⟩ := hco'
    exact cont _ h' tk _ hx htab'.2 htr
  | some cv =>
    refine wpAny_genexprCode_hit hcode (cd.code hPs ht) hf ?_
    exact cont cv s2.heap s2.toks #[] (Heap.ExtBut.refl _ _) (by simpa using hPs) (by simpa using ht)
/-- any(..), all(..) of the expression; behind it the def's table may have grown -/
def tGen (P : Addr) (wi : TI) (g : TG) (te : TE) (own : List (Str × Nat)) (ext : List Str) (stopAt : Bool) : TE := fun σ H Q => wi σ H fun J H1 => GxR.TabG H1 P ∧ ∀ H2, GxR.Tabbed P H1 H2 → ∃ W : Nat → Nat → Hp → Prop, (∃ m, W 0 m H2) ∧
  ∀ i m H, W i m H → (J.stop i H ∧ Q (.bl (!stopAt)) H) ∨ (J.go i H ∧ ∃ N : Hp → Prop, (∀ H', N H' → ∃ m', m' < m ∧ W (i + 1) m' H') ∧ ∀ x H', J.yld i H x H' → g x (gS σ own ext) H' fun σ2 H2 => te σ2 H2 fun v H3 => ∃ b, v = V.bl b ∧ if b = stopAt then Q (.bl stopAt) H3 else N H3)
theorem turn_of {J : It} {g : TG} {te : TE} {σg : L2.St} {W : Nat → Nat → Hp → Prop} {Q : VK} {st : Bool} (turn : ∀ i m H, W i m H → (J.stop i H ∧ Q (.bl (!st)) H) ∨ (J.go i H ∧ ∃ N : Hp → Prop, (∀ H', N H' → ∃ m', m' < m ∧ W (i + 1) m' H') ∧
      ∀ x H', J.yld i H x H' → g x σg H' fun σ2 H2 => te σ2 H2 fun v H3 => ∃ b, v = V.bl b ∧ if b = st then Q (.bl st) H3 else N H3)) (i m : Nat) (H : Hp) (w : W i m H) :
    (J.stop i H ∧ Q (.bl (!st)) H) ∨ (J.go i H ∧ ∃ Yn : V → Hp → Prop, (∀ v H3, Yn v H3 → ∃ b, v = V.bl b ∧ if b = st then Q (.bl st) H3 else ∃ m', m' < m ∧ W (i + 1) m' H3) ∧ ∀ x H', J.yld i H x H' → g x σg H' fun σ2 H2 => te σ2 H2 Yn) := by
  rcases turn i m H w with z | ⟨go, N, hN, step⟩
  · exact .inl z
  · refine .inr ⟨go, _, fun v H3 ⟨b, e, q⟩ => ⟨b, e, ?_⟩, step⟩
    by_cases hb : b = st
    · rw [if_pos hb] at q ⊢
      exact q
    · rw [if_neg hb] at q ⊢
      exact hN _ q
theorem room_over {Ag : Around} {c : Code} (hr : Room (k + 1) Ag) (h1 : c.weight = 1) (h2 : c.cUnits = 3) : Room k (Ag.over c []) := by
  refine ⟨hr.hd, ?_, ?_⟩
  · have := hr.dp
    show Ag.depth + frameCount [] + c.weight + 3 * k + 5 < _
    rw [h1]
    show Ag.depth + 0 + 1 + 3 * k + 5 < _
    omega
  · have := hr.un
    show Ag.units + unitsOf [] + c.cUnits + 16 * k + 200 < _
    rw [h2]
    show Ag.units + 0 + 3 + 16 * k + 200 < _
    omega
theorem room_in1 {Ag : Around} (hr : Room (k + 1) Ag) : Room k Ag.in1.in1 := by
  refine ⟨hr.hd, ?_, ?_⟩
  · have := hr.dp
    show Ag.depth + 3 * k + 5 < _
    omega
  · have := hr.un
    show Ag.units + 1 + 1 + 16 * k + 200 < _
    omega
theorem EP_of {H4 H' : Hp} {s4 s' : Shared} {J : It} {fp sx : List Addr} {it : Addr} {tn : Nat → Heap → Prop} {code : Value} {Q : VK} {v : V} {u : Value} (S : GSt X pins σ scope own ext tg code H4 s4 J fp it tn) (h : CO X fp sx s4 H4 H' s') (r : RelV v u) (q : Q v H') : EP X pins σ Q u s' :=
  ⟨v, H', S.inv.call' h.os h.un h.hok h.bare fun b hb => ⟨(S.fpo b hb).2.2.2.1, (S.fpo b hb).2.1, (S.fpo b hb).2.2.2.2.1, (S.fpo b hb).2.2.2.2.2⟩, r, q⟩
section
variable {g : TG} {te : TE} {p cpos : Pos}
theorem pe_anyG (hr : Room (k + 2) X.A) (hg : Gl X "any") (hm : X.mg "any" = none) (TB : GxR.TabB X.base X.mg c P) (hcode : X.env.code = .ref c) (G : GOk X.N X.env.scope scope own ext) (hi : PI X tg iter wi)
    (ht : ∀ (code : Value) (fp : List Addr) (s4 : Shared) (H4 : Hp) (B : Around), PG (gCx X scope code fp s4 H4 B ext) tg g) (he : ∀ (code : Value) (fp : List Addr) (s4 : Shared) (H4 : Hp) (B : Around), Room k B → PE (gCx X scope code fp s4 H4 B ext) elt te)
    (hs : ∀ v, genFold iter X.env v = pure v := by intro _; rfl) (hst : starEach [.GeneratorExp elt [⟨tg, iter, [], 0⟩] scope pos] X.env = (false, eval (.GeneratorExp elt [⟨tg, iter, [], 0⟩] scope pos) X.env) :: starEach [] X.env := by rfl) :
    PE X (.Call (.Name "any" p) [.GeneratorExp elt [⟨tg, iter, [], 0⟩] scope pos] [] cpos) (tGen P wi g te own ext true) := by
  constructor
  intro pins s σ H Q I h
  refine wpAny_Call_Name_kw (ld_blt I hg hm boot_any (PyProof.Rows.callWith_builtin1 ?_ hst (by rfl)))
  rw [hst]
  show wpAny _ _ (spliced ((false, eval (.GeneratorExp elt [⟨tg, iter, [], 0⟩] scope pos) X.env) :: backTo cpos (starEach [] X.env))) _ _ s
  refine Calls.spliced_cons (gen_eval hr TB hcode G hi hs I h fun J fp it tn H1 H4 s4 s5 code ga gi q htab S t5 c5 hgen hgs => Calls.spliced_nil ?_)
  obtain ⟨W, ⟨m, w0⟩, turn⟩ := q H4 htab
  have rm : Room k (X.A.in1.in1.over (gLoop X tg elt iter scope pos it s4 code) []) := room_over (room_in1 hr) rfl rfl
  refine call_function_tree F.kind_any F.plain_any F.entry_any (F.args_any1 _) ?_
  unfold Builtin.«any»
  refine wpAny_bind (m := oneArg "any" _) (wpAny_pure (wpAny_bind (wpAny_pyIter_gen hgen ?_)))
  refine wpAny_pure ⟨plainId_quiet F.plain_any_loop _, any_walk (W := W) (QT := Q (.bl true)) (QF := Q (.bl false)) S hr.hd hr.depth (fun b H' s' hb hc => EP_of (v := .bl b) S hc rfl (by cases b <;> exact hb)) m s5 ⟨hgen, List.mem_cons_self, ⟨H4, c5⟩, _, hgs, fun s' kp => ⟨rfl, ?_⟩⟩⟩
  have t6 : tn 0 s'.heap := S.turn.keep _ _ _ t5 fun b hb o e => kp.keep b o (fun z => (c5.sx b z).2.2.2.2.1 hb) e
  exact seg_first (Ag := X.A.in1.in1) S hr.hd t6 (seg_loop (Ag := X.A.in1.in1) S S.inv.ok.frames hr.hd (ht ..) (he _ _ _ _ _ rm) W _ _ (turn_of (st := true) turn) (m + 1) 0 m H4 s' (Nat.lt_succ_self m) w0 (c5.kp kp) t6)
theorem pe_allG (hr : Room (k + 2) X.A) (hg : Gl X "all") (hm : X.mg "all" = none) (hb : bootBuiltins "all" = some (.builtin "all")) (TB : GxR.TabB X.base X.mg c P) (hcode : X.env.code = .ref c) (G : GOk X.N X.env.scope scope own ext) (hi : PI X tg iter wi)
    (ht : ∀ (code : Value) (fp : List Addr) (s4 : Shared) (H4 : Hp) (B : Around), PG (gCx X scope code fp s4 H4 B ext) tg g) (he : ∀ (code : Value) (fp : List Addr) (s4 : Shared) (H4 : Hp) (B : Around), Room k B → PE (gCx X scope code fp s4 H4 B ext) elt te)
    (hs : ∀ v, genFold iter X.env v = pure v := by intro _; rfl) (hst : starEach [.GeneratorExp elt [⟨tg, iter, [], 0⟩] scope pos] X.env = (false, eval (.GeneratorExp elt [⟨tg, iter, [], 0⟩] scope pos) X.env) :: starEach [] X.env := by rfl) :
    PE X (.Call (.Name "all" p) [.GeneratorExp elt [⟨tg, iter, [], 0⟩] scope pos] [] cpos) (tGen P wi g te own ext false) := by
  constructor
  intro pins s σ H Q I h
  refine wpAny_Call_Name_kw (ld_blt I hg hm hb (PyProof.Rows.callWith_builtin1 ?_ hst (by rfl)))
  rw [hst]
  show wpAny _ _ (spliced ((false, eval (.GeneratorExp elt [⟨tg, iter, [], 0⟩] scope pos) X.env) :: backTo cpos (starEach [] X.env))) _ _ s
  refine Calls.spliced_cons (gen_eval hr TB hcode G hi hs I h fun J fp it tn H1 H4 s4 s5 code ga gi q htab S t5 c5 hgen hgs => Calls.spliced_nil ?_)
  obtain ⟨W, ⟨m, w0⟩, turn⟩ := q H4 htab
  have rm : Room k (X.A.in1.in1.over (gLoop X tg elt iter scope pos it s4 code) []) := room_over (room_in1 hr) rfl rfl
  refine call_function_tree F.kind_all F.plain_all F.entry_all (F.args_all1 _) ?_
  unfold Builtin.«all»
  refine wpAny_bind (m := oneArg "all" _) (wpAny_pure (wpAny_bind (wpAny_pyIter_gen hgen ?_)))
  refine wpAny_pure ⟨plainId_quiet F.plain_all_loop _, all_walk (W := W) (QT := Q (.bl true)) (QF := Q (.bl false)) S hr.hd hr.depth (fun b H' s' hb hc => EP_of (v := .bl b) S hc rfl (by cases b <;> exact hb)) m s5 ⟨hgen, List.mem_cons_self, ⟨H4, c5⟩, _, hgs, fun s' kp => ⟨rfl, ?_⟩⟩⟩
  have t6 : tn 0 s'.heap := S.turn.keep _ _ _ t5 fun b hb o e => kp.keep b o (fun z => (c5.sx b z).2.2.2.2.1 hb) e
  exact seg_first (Ag := X.A.in1.in1) S hr.hd t6 (seg_loop (Ag := X.A.in1.in1) S S.inv.ok.frames hr.hd (ht ..) (he _ _ _ _ _ rm) W _ _ (turn_of (st := false) turn) (m + 1) 0 m H4 s' (Nat.lt_succ_self m) w0 (c5.kp kp) t6)
end
end
end GX

/-! ### defs that hold a generator expression: their code objects' tables, and the end of a law that calls them -/
namespace GX
open PySem PySem.Spec PyProof.Rows L2 Cm
/-- the def x stands at some address, its code object at c -/
structure FunC (K : PySem.W.Frag) (x : Str) (st : Stmt) (f : Addr) (fd : FuncData) (c : Addr) : Prop where
  ex : ∃ (oc : Value) (od : Option Addr) (kV doc pm : Value) (an : Option Addr) (ct : Value) (osl : Array (Option Value)),
    fd = PySem.W.fnOf x x (defArgs st) (defBody st) (defScope st) .none kV doc pm an (.ref c) ct ∧ K.lookup f = some ⟨oc, od, .func fd, osl⟩ ∧ PySem.W.codeIn K (.ref c) x = true
  kp : PySem.W.keepIn K (.ref f) = true
def DnC (K : PySem.W.Frag) (mg : Str → Option Value) (x : Str) (st : Stmt) (ps : List Str) (c : Addr) : Prop := ∃ (f : Addr) (fd : FuncData), FunC K x st f fd c ∧ mg x = some (.ref f) ∧ Binds K fd ps []
theorem dnc_mk {K : PySem.W.Frag} {h : Heap} {mg : Str → Option Value} {x : Str} {ps : List Str} {st : Stmt} {f c : Addr} {oc : Value} {od an : Option Addr} {osl : Array (Option Value)} {kV doc pm ct : Value} (X : K.In h) (G : h.Ns mainGlobals mg) (a : PySem.W.nsIn K mainGlobals x = some (some (.ref f)))
    (l : K.lookup f = some ⟨oc, od, .func (PySem.W.fnOf x x (defArgs st) (defBody st) (defScope st) .none kV doc pm an (.ref c) ct), osl⟩) (e : PySem.W.codeIn K (.ref c) x = true) (k : PySem.W.keepIn K (.ref f) = true)
    (hb : ∀ (kV doc pm : Value) (an : Option Addr) (cdv ct : Value) (us : List Value), us.length = ps.length → bindArgs (PySem.W.fnOf x x (defArgs st) (defBody st) (defScope st) .none kV doc pm an cdv ct) ⟨us, []⟩ = pure (ps.zip us)) : DnC K mg x st ps c :=
  ⟨f, _, ⟨⟨_, _, _, _, _, _, _, _, rfl, l, e⟩, k⟩, PySem.W.mg_of X G a, (fun_mk l e k).binds hb⟩
theorem okc_of {P : Program} {w : World} {K : PySem.W.Frag} {mg : Str → Option Value} {base : Heap} {CX : CXT} {k : Nat} {x : Str} {st : Stmt} {N ps : List Str} {sp : Sp} {c : Addr} (d : DnC K mg x st ps c) (S : FnScope N ps (defScope st)) (len : ∀ vs H Q E, sp vs H Q E → vs.length = ps.length)
    (hbody : ∀ (f : Addr) (A : Around) (outer : List Env) (s : Shared) (H : Hp) (vs : List V) (Q : VK) (E : XK), Room k (A.deeper (envOfC x (defScope st) s.heap.objs.size f (.ref c))) → sp vs H Q E →
      ∃ t, PSs (cxOf CX P w K mg base N x (defScope st) f (.ref c) A outer s H E) (defBody st) t ∧ t { nx := fun _ H' => Q .non H', rt := Q } (L2.start N vs) H) : Ok P w K mg base CX (k + 1) x ps sp := by
  obtain ⟨f, fd, ⟨⟨oc, od, kV, doc, pm, an, ct, osl, rfl, lk, hcd⟩, kp⟩, g, b⟩ := d
  exact ⟨f, _, fn_of lk hcd S len fun A outer s H vs Q E hr hsp => hbody f A outer s H vs Q E hr hsp, g, kp, b⟩
theorem tb_of {base : Heap} {mg : Str → Option Value} {c P : Addr} (h : LamX.TabB base mg c P) : GxR.TabB base mg c P := ⟨h.code, h.bm, h.gP⟩
/-- law's promise where tables may grow -/
def spLawT (K : PySem.W.Frag) (Ps : List Addr) : Sp := fun vs H Q _ => ∃ (a : Addr) (ns : List Int), vs = [.ref a] ∧ SqL K H a (ns.map V.int) ∧ ns.length ≤ 63 ∧ (∀ P ∈ Ps, GxR.TabG H P) ∧ ∀ H', Q (.bl true) H'
theorem no_tab {K : PySem.W.Frag} {h : Heap} {P : Addr} (X : K.In h) (n : PySem.W.noTabs K = true) (e : h.get? P = some (PySem.W.tabObj #[])) : K.lookup P = none := by
  cases q : K.lookup P with
  | none => rfl
  | some o =>
    have z := X P o q
    rw [e] at z
    cases z
    have z2 := List.all_eq_true.mp n (P, _) (PySem.W.mem_of_lookupK q)
    exact absurd (show false = true from z2) (by decide)
theorem tabIn_mk {K : PySem.W.Frag} {x : Str} {f c P : Addr} {oc cc : Value} {od ce : Option Addr} {fd : FuncData} {sl cg : Array (Option Value)} {vs : Array Value} (h1 : PySem.W.nsIn K mainGlobals x = some (some (.ref f)))
    (h2 : K.lookup f = some ⟨oc, od, .func fd, sl⟩) (h3 : fd.code = .ref c) (h4 : K.lookup c = some ⟨cc, ce, .fields vs, cg⟩) (h5 : vs[11]? = some (.ref P)) : PySem.W.tabIn K x = some (c, P) := by
  unfold PySem.W.tabIn
  simp only [h1, h2, h3, h4, h5]
theorem walk_gx {l : PySem.W.OpenLaw} {k : Nat} {q : Program} {loose : List Str} {XP : (Str → Option Value) → Heap → Prop} {YP : World → Heap → Prop} {d : DefRec} {K : Params → PySem.W.Frag} {names : List Str} (hn : l.most = some 63) (hdf : d.params.defaults = []) (hr : Room k callerA)
    (hY : ∀ (w : World) (h : Heap), YP w h → (K w.params).In h) (hnt : ∀ w : World, PySem.W.noTabs (K w.params) = true) (hrec : ∀ x ∈ names, ((PyProof.Rows.recsOf q).find? fun e => e.name == x).isSome = true)
    (F : ∀ (w : World) (mg : Str → Option Value) (fa : Addr) (h : Heap), (K w.params).In h → h.Ns mainGlobals mg → mg d.name = some (.ref fa) → ∃ (fd : FuncData) (cs : List (Str × Addr × Addr)), (∀ t ∈ cs, t.1 ∈ names ∧ PySem.W.tabIn (K w.params) t.1 = some t.2) ∧
      (∀ (s : Shared) (u : Value), BindsTo s fd ⟨[u], []⟩ [("script", u)]) ∧ ∀ base : Heap, (K w.params).In base → base.Ns mainGlobals mg → (∀ t ∈ cs, LamX.TabB base mg t.2.1 t.2.2) → FnOk l.prog w (K w.params) mg base CX0 k fa fd ["script"] (spLawT (K w.params) (cs.map (·.2.2)))) :
    PySem.W.WalkO q loose XP YP l.row.toRowW d [] (fun f vs => PySem.call f vs) := by
  refine Att.attach_callB hn hdf fun w s0 s1 mg mb fa o pm cd doc a vs ns G Y ho hd hcd hmg hobj hints hlen hbits hg => ?_
  have KX := hY w _ Y
  obtain ⟨fd, cs, hcs, hb, hF⟩ := F w mg fa _ KX G.T.g hmg
  have tab : ∀ t ∈ cs, PySem.W.CodeHd s1.heap t.2.1 t.2.2 ∧ s1.heap.get? t.2.2 = some (PySem.W.tabObj #[]) := fun t ht => by
    obtain ⟨h1, h2⟩ := hcs t ht
    obtain ⟨dr, hdr⟩ := Option.isSome_iff_exists.mp (hrec _ h1)
    exact PySem.W.tab_of G.T KX hdr h2
  have of2 : ∀ p ∈ cs.map (·.2), ∃ t ∈ cs, t.2 = p := fun p hp => List.mem_map.mp hp
  refine LamX.law_callTs (cs := cs.map (·.2)) (sp := spLawT (K w.params) (cs.map (·.2.2))) KX G.T.g G.T.b G.T.builtins G.T.nolimit hg (fun p hp => ?_) (fun p hp => ?_) (fun p hp => ?_) G.T.bmain hobj hints (Nat.le_trans hlen (by decide)) hr (fun base k1 k2 k3 => hF base k1 k2 fun t ht => k3 t.2 (List.mem_map.mpr ⟨t, ht, rfl⟩)) hb (fun H hH hS => ?_) (fun _ _ _ z => z)
  · obtain ⟨t, ht, rfl⟩ := of2 p hp
    exact (tab t ht).2
  · obtain ⟨t, ht, rfl⟩ := of2 p hp
    exact no_tab KX (hnt w) (tab t ht).2
  · obtain ⟨t, ht, rfl⟩ := of2 p hp
    exact (tab t ht).1
  · refine ⟨a, ns, rfl, hS, hlen, fun P hP => ?_, fun _ => rfl⟩
    obtain ⟨t, ht, rfl⟩ := List.mem_map.mp hP
    exact ⟨#[], hH t.2 (List.mem_map.mpr ⟨t, ht, rfl⟩), True.intro⟩
/-! ### heaps in which tables may have grown -/
/-- all but tables stays; tables stay tables -/
structure Sm (H H' : Hp) : Prop where
  keep : ∀ b o, H b = some o → (∀ ps, o ≠ .tbl ps) → H' b = some o
  tab : ∀ P, GxR.TabG H P → GxR.TabG H' P
theorem Sm.refl (H : Hp) : Sm H H := ⟨fun _ _ e _ => e, fun _ t => t⟩
theorem Sm.trans {H H1 H2 : Hp} (a : Sm H H1) (b : Sm H1 H2) : Sm H H2 := ⟨fun c o e n => b.keep c o (a.keep c o e n) n, fun P t => b.tab P (a.tab P t)⟩
theorem Sm.of {H H' : Hp} (e : Same H H') : Sm H H' := ⟨fun b o q _ => e b o q, fun P ⟨ps, q, t⟩ => ⟨ps, e _ _ q, t⟩⟩
theorem Sm.tabbed {H H' : Hp} {P : Addr} (h : GxR.TabG H P) (e : GxR.Tabbed P H H') : Sm H H' := by
  obtain ⟨ps, hP, _⟩ := h
  refine ⟨fun b o q n => ?_, fun P' t => ?_⟩
  · rw [e.2 b fun z => n ps (Option.some.inj (q.symm.trans (z ▸ hP)))]
    exact q
  · by_cases z : P' = P
    · rw [z]
      exact e.1
    · obtain ⟨ps', q, t'⟩ := t
      exact ⟨ps', by rw [e.2 _ z]; exact q, t'⟩
theorem Sm.l {H H' : Hp} (e : Sm H H') {a : Addr} {xs : List V} (h : H a = some (.lst xs)) : H' a = some (.lst xs) := e.keep _ _ h fun _ z => by cases z
theorem Sm.t {H H' : Hp} (e : Sm H H') {a : Addr} {xs : List V} (h : H a = some (.tup xs)) : H' a = some (.tup xs) := e.keep _ _ h fun _ z => by cases z
theorem Sm.seq {K : PySem.W.Frag} {H H' : Hp} (e : Sm H H') {a : Addr} {xs : List V} (h : SqL K H a xs) : SqL K H' a xs := by
  rcases h with (h | ⟨o, h⟩) | h
  · exact .inl (.inl (e.l h))
  · exact .inl (.inr ⟨o, e.keep _ _ h fun _ z => by cases z⟩)
  · exact .inr h
theorem Sm.tup {K : PySem.W.Frag} {H H' : Hp} (e : Sm H H') {a : Addr} {xs : List V} (h : SqT K H a xs) : SqT K H' a xs := by
  rcases h with (h | ⟨o, h⟩) | h
  · exact .inl (.inl (e.t h))
  · exact .inl (.inr ⟨o, e.keep _ _ h fun _ z => by cases z⟩)
  · exact .inr h
mutual
theorem Sm.dp {K : PySem.W.Frag} {H H' : Hp} (e : Sm H H') : ∀ {d : PyData} {v : V}, Dp K H v d → Dp K H' v d
  | _, _, .non => .non
  | _, _, .bl b => .bl b
  | _, _, .int i => .int i
  | _, _, .str x => .str x
  | _, _, .lst h r => .lst (e.seq h) (e.dpAll r)
  | _, _, .tup h r => .tup (e.tup h) (e.dpAll r)
theorem Sm.dpAll {K : PySem.W.Frag} {H H' : Hp} (e : Sm H H') : ∀ {ds : List PyData} {vs : List V}, DpAll K H vs ds → DpAll K H' vs ds
  | _, _, .nil => .nil
  | _, _, .cons h r => .cons (e.dp h) (e.dpAll r)
end
/-! ### the forms one uses -/
section
variable {K : PySem.W.Frag} {a : Addr} {xs : List V} {g : TG} {te : TE} {σg : L2.St} {H1 : Hp} {P : Addr} {Q : VK} {st : Bool}
/-- over a list -/
theorem gen_list (Pv : Nat → Hp → Prop) (h0 : ∀ H2, GxR.Tabbed P H1 H2 → Pv 0 H2) (hl : ∀ i H, i ≤ xs.length → Pv i H → SqL K H a xs)
    (hs : ∀ i x H, xs[i]? = some x → Pv i H → g x σg H fun σ2 H2 => te σ2 H2 fun v H3 => ∃ b, v = V.bl b ∧ if b = st then Q (.bl st) H3 else Pv (i + 1) H3) (hd : ∀ H, Pv xs.length H → Q (.bl (!st)) H) :
    ∀ H2, GxR.Tabbed P H1 H2 → ∃ W : Nat → Nat → Hp → Prop, (∃ m, W 0 m H2) ∧ ∀ i m H, W i m H → ((Itl K a).stop i H ∧ Q (.bl (!st)) H) ∨ ((Itl K a).go i H ∧ ∃ N : Hp → Prop, (∀ H', N H' → ∃ m', m' < m ∧ W (i + 1) m' H') ∧
      ∀ x H', (Itl K a).yld i H x H' → g x σg H' fun σ2 H2 => te σ2 H2 fun v H3 => ∃ b, v = V.bl b ∧ if b = st then Q (.bl st) H3 else N H3) := by
  intro H2 tb
  refine ⟨fun i m H => m = xs.length - i ∧ i ≤ xs.length ∧ Pv i H, ⟨xs.length, by simp, Nat.zero_le _, h0 H2 tb⟩, ?_⟩
  rintro i m H ⟨rfl, hi, p⟩
  have q := hl i H hi p
  by_cases hlt : i < xs.length
  · refine .inr ⟨⟨xs, xs[i], q, List.getElem?_eq_getElem hlt⟩, Pv (i + 1), fun H' p' => ⟨xs.length - (i + 1), by omega, rfl, hlt, p'⟩, fun x H' y => ?_⟩
    obtain ⟨rfl, y⟩ := y
    exact hs i x H' (y xs q) p
  · obtain rfl : i = xs.length := by omega
    exact .inl ⟨⟨xs, q, Nat.le_refl _⟩, hd H p⟩
/-- over a tuple -/
theorem gen_listQ {QF QT : Hp → Prop} (Pv : Nat → Hp → Prop) (h0 : ∀ H2, GxR.Tabbed P H1 H2 → Pv 0 H2) (hl : ∀ i H, i ≤ xs.length → Pv i H → SqL K H a xs)
    (hs : ∀ i x H, xs[i]? = some x → Pv i H → g x σg H fun σ2 H2 => te σ2 H2 fun v H3 => ∃ b, v = V.bl b ∧ if b = st then QF H3 else Pv (i + 1) H3) (hd : ∀ H, Pv xs.length H → QT H) :
    ∀ H2, GxR.Tabbed P H1 H2 → ∃ W : Nat → Nat → Hp → Prop, (∃ m, W 0 m H2) ∧ ∀ i m H, W i m H → ((Itl K a).stop i H ∧ QT H) ∨ ((Itl K a).go i H ∧ ∃ N : Hp → Prop, (∀ H', N H' → ∃ m', m' < m ∧ W (i + 1) m' H') ∧
      ∀ x H', (Itl K a).yld i H x H' → g x σg H' fun σ2 H2 => te σ2 H2 fun v H3 => ∃ b, v = V.bl b ∧ if b = st then QF H3 else N H3) := by
  intro H2 tb
  refine ⟨fun i m H => m = xs.length - i ∧ i ≤ xs.length ∧ Pv i H, ⟨xs.length, by simp, Nat.zero_le _, h0 H2 tb⟩, ?_⟩
  rintro i m H ⟨rfl, hi, p⟩
  have q := hl i H hi p
  by_cases hlt : i < xs.length
  · refine .inr ⟨⟨xs, xs[i], q, List.getElem?_eq_getElem hlt⟩, Pv (i + 1), fun H' p' => ⟨xs.length - (i + 1), by omega, rfl, hlt, p'⟩, fun x H' y => ?_⟩
    obtain ⟨rfl, y⟩ := y
    exact hs i x H' (y xs q) p
  · obtain rfl : i = xs.length := by omega
    exact .inl ⟨⟨xs, q, Nat.le_refl _⟩, hd H p⟩
/-- over a tuple -/
theorem gen_tup (Pv : Nat → Hp → Prop) (h0 : ∀ H2, GxR.Tabbed P H1 H2 → Pv 0 H2) (hl : ∀ i H, i ≤ xs.length → Pv i H → SqT K H a xs)
    (hs : ∀ i x H, xs[i]? = some x → Pv i H → g x σg H fun σ2 H2 => te σ2 H2 fun v H3 => ∃ b, v = V.bl b ∧ if b = st then Q (.bl st) H3 else Pv (i + 1) H3) (hd : ∀ H, Pv xs.length H → Q (.bl (!st)) H) :
    ∀ H2, GxR.Tabbed P H1 H2 → ∃ W : Nat → Nat → Hp → Prop, (∃ m, W 0 m H2) ∧ ∀ i m H, W i m H → ((Itt K a).stop i H ∧ Q (.bl (!st)) H) ∨ ((Itt K a).go i H ∧ ∃ N : Hp → Prop, (∀ H', N H' → ∃ m', m' < m ∧ W (i + 1) m' H') ∧
      ∀ x H', (Itt K a).yld i H x H' → g x σg H' fun σ2 H2 => te σ2 H2 fun v H3 => ∃ b, v = V.bl b ∧ if b = st then Q (.bl st) H3 else N H3) := by
  intro H2 tb
  refine ⟨fun i m H => m = xs.length - i ∧ i ≤ xs.length ∧ Pv i H, ⟨xs.length, by simp, Nat.zero_le _, h0 H2 tb⟩, ?_⟩
  rintro i m H ⟨rfl, hi, p⟩
  have q := hl i H hi p
  by_cases hlt : i < xs.length
  · refine .inr ⟨⟨xs, xs[i], q, List.getElem?_eq_getElem hlt⟩, Pv (i + 1), fun H' p' => ⟨xs.length - (i + 1), by omega, rfl, hlt, p'⟩, fun x H' y => ?_⟩
    obtain ⟨rfl, y⟩ := y
    exact hs i x H' (y xs q) p
  · obtain rfl : i = xs.length := by omega
    exact .inl ⟨⟨xs, q, Nat.le_refl _⟩, hd H p⟩
end
end GX

/-! ### sum of a generator expression -/
namespace GX
open PySem PySem.Spec PyProof.Rows L2 Cm
open Sem (wp)
theorem hu_rm {k : Nat} {A : Around} (hr : Room k A) : A.units + 64 < cLine := by
  have := hr.un
  omega
/-- the total stands in the list at SA -/
def TotAt (SA : Addr) (a : Int) (s : Shared) : Prop := ∃ (t : Tok) (c : Nat), s.heap.get? SA = some { cls := .type "list", dict := none, data := .seq #[.int a t] c, slots := #[] }
theorem TotAt.one {SA : Addr} {a b : Int} {s : Shared} (h : TotAt SA a s) (h2 : TotAt SA b s) : a = b := by
  obtain ⟨t, c, e⟩ := h
  obtain ⟨t2, c2, e2⟩ := h2
  rw [e] at e2
  injection e2 with e2
  injection e2 with _ _ e2 _
  injection e2 with e2 _
  have e3 := congrArg (fun (x : Array Value) => x[0]?) e2
  simp at e3
  exact e3.1
theorem TotAt.at {SA : Addr} {a : Int} {s s' : Shared} (h : TotAt SA a s) (e : s'.heap.get? SA = s.heap.get? SA) : TotAt SA a s' := by
  obtain ⟨t, c, q⟩ := h
  exact ⟨t, c, e.trans q⟩
section
variable {X : Cx} {pins : List (Addr × Obj)} {σ : L2.St} {H4 : Hp} {s4 : Shared} {scope : Scope} {own : List (Str × Nat)} {ext : List Str} {tg elt iter : Expr} {code : Value} {fp sx : List Addr} {J : It} {it : Addr} {tn : Nat → Heap → Prop} {pos : Pos}
def gYS (X : Cx) (fp sx : List Addr) (s4 : Shared) (H4 : Hp) (tn : Nat → Heap → Prop) (SA : Addr) (W : Nat → Nat → Int → Hp → Prop) (Yd : Nat → Nat → Int → V → Hp → Prop) : Protocol := fun n s0 v s kap =>
  ∃ (y : V) (i m : Nat) (a : Int) (H : Hp), TotAt SA a s0 ∧ RelV y v ∧ Yd i m a y H ∧ CO X fp sx s4 H4 H s ∧ tn (i + 1) s.heap ∧ (∀ b ∈ sx, s.heap.get? b = s0.heap.get? b) ∧ m ≤ n ∧ ∀ m' a' s', m' < m → W (i + 1) m' a' H → TotAt SA a' s' → Kp sx s s' → kap (.send .none) s'
def gES (X : Cx) (fp sx : List Addr) (s4 : Shared) (H4 : Hp) (SA : Addr) (Dn : Int → Hp → Prop) : Nat → Shared → Shared → Prop := fun _ s0 s => ∃ a H, TotAt SA a s0 ∧ Dn a H ∧ CO X fp sx s4 H4 H s ∧ ∀ b ∈ sx, s.heap.get? b = s0.heap.get? b
theorem seg_loopS {Ag : Around} {SA : Addr} (S : GSt X pins σ scope own ext tg code H4 s4 J fp it tn) (hfr : Ag.frames = some X.stack) (hh : Ag.handled = none) {g : TG} {te : TE}
    (hg : PG (gCx X scope code fp s4 H4 (Ag.over (gLoop X tg elt iter scope pos it s4 code) []) ext) tg g) (he : PE (gCx X scope code fp s4 H4 (Ag.over (gLoop X tg elt iter scope pos it s4 code) []) ext) elt te)
    (W : Nat → Nat → Int → Hp → Prop) (Dn : Int → Hp → Prop) (Yd : Nat → Nat → Int → V → Hp → Prop)
    (turn : ∀ i m a H, W i m a H → (J.stop i H ∧ Dn a H) ∨ (J.go i H ∧ ∃ Yn : V → Hp → Prop, (∀ v H3, Yn v H3 → Yd i m a v H3) ∧ ∀ x H', J.yld i H x H' → g x (gS σ own ext) H' fun σ2 H2 => te σ2 H2 Yn)) :
    ∀ n i m a H s, m < n → W i m a H → TotAt SA a s → CO X fp sx s4 H4 H s → tn i s.heap →
      Seg (model X.prog X.w) Ag (fun n s0 r s1 => r = .ok .next ∧ gES X fp sx s4 H4 SA Dn n s0 s1) (gYS X fp sx s4 H4 tn SA W Yd) n s (gLoop X tg elt iter scope pos it s4 code) ((model X.prog X.w).den (gLoop X tg elt iter scope pos it s4 code)) [] s := by
  have hB : (Ag.over (gLoop X tg elt iter scope pos it s4 code) []).frames = some (gEnv X scope s4.heap.objs.size code :: X.stack) := by
    show pushEnvs [gEnv X scope s4.heap.objs.size code] (pushEnvs [] Ag.frames) = _
    rw [hfr]
    rfl
  have hBh : (Ag.over (gLoop X tg elt iter scope pos it s4 code) []).handled = none := hh
  intro n
  induction n with
  | zero => exact fun i m a H s hm => absurd hm (Nat.not_lt_zero _)
  | succ n ih =>
    intro i m a H s hm w0 a0 h0 t0
    have I0 := CO.inv S h0 hB hBh
    have ff : ∀ {H' : Hp}, (∀ b ∈ fp, H' b = none) → ∀ b ∈ fp, FpOk (gCx X scope code fp s4 H4 (Ag.over (gLoop X tg elt iter scope pos it s4 code) []) ext) (pinsAt sx s.heap) H' b := fun hn b hb => by
      refine ⟨hn b hb, Nat.ne_of_lt (S.lt b hb), I0.ok.exfs b hb, .inl hb, (I0.ok.exf b hb).2, fun p hp z => ?_⟩
      have q := (of_pinsAt (show p ∈ pinsAt sx s.heap by simpa [gCx] using hp)).1
      exact (h0.sx p.1 q).2.2.2.2.1 (z ▸ hb)
    show Seg _ Ag _ _ _ s _ ((compTurn (.GeneratorExp elt [⟨tg, iter, [], 0⟩] scope pos) 0 (.ref it) .none (gEnv X scope s4.heap.objs.size code)).onRaise (leaving (gEnv X scope s4.heap.objs.size code))) [] s
    rw [compTurn_gen, Sem.onRaise_eq_wrap]
    refine seg_bind_wrap (wpAny_standAt ?_)
    rcases turn i m a H w0 with ⟨stop, dn⟩ | ⟨go, Yn, hYn, step⟩
    · refine seg_bind_wrap (wpAny_mono (S.turn.done (gCx X scope code fp s4 H4 (Ag.over (gLoop X tg elt iter scope pos it s4 code) []) ext) rfl rfl rfl rfl i _ s _ H (fun _ _ => False) I0 (ff h0.fr) t0 stop) (fun r s1 hr => ?_) fun _ _ z => False.elim z)
      obtain ⟨rfl, I1⟩ := hr
      obtain ⟨c1, x1⟩ := h0.of_inv I1 h0.fr
      exact seg_end (.ok .next) ⟨rfl, a, H, a0, dn, c1, x1⟩
    · refine seg_bind_wrap (wpAny_mono (S.turn.item (gCx X scope code fp s4 H4 (Ag.over (gLoop X tg elt iter scope pos it s4 code) []) ext) rfl rfl rfl rfl i _ s _ H (fun _ _ => False) I0 (ff h0.fr) t0 go) (fun r s1 hr => ?_) fun _ _ z => False.elim z)
      obtain ⟨u, rfl, h1⟩ := hr
      refine seg_bind_wrap (wpAny_mono h1 (fun _ s2 h2 => ?_) fun _ _ z => False.elim z)
      obtain ⟨x, H2, I2, rx, y2, t2, f2⟩ := h2
      have I2p := I2.pinned (ff f2) (S.turn.obj _ _ t2)
      refine seg_bind_wrap (wpAny_mono (hg.run _ s2 _ H2 x u _ I2p rx (step x H2 y2)) (fun _ s3 h3 => ?_) fun _ _ z => False.elim z)
      obtain ⟨σ3, H3, I3, q3⟩ := h3
      simp only [List.forIn_nil]
      refine seg_bind_wrap (wpAny_pure ?_)
      simp only [if_true]
      have hy : ∀ v, yieldOut (gEnv X scope s4.heap.objs.size code) v = yieldValue v := fun v => by
        have q : (gEnv X scope s4.heap.objs.size code).scope.isCoroutine = false := S.ok.co
        simp only [yieldOut, q, Bool.false_eq_true, if_false]
      simp only [hy]
      rw [Sem.bind_eq_wrap', Sem.bind_eq_wrap', Sem.wrap_wrap, Sem.wrap_wrap]
      refine seg_wrap (wpAny_mono (he.run _ s3 σ3 H3 _ I3 q3) (fun v s5 h5 => ?_) fun _ _ z => False.elim z)
      obtain ⟨y, H5, I5, ry, q5⟩ := h5
      have pf : ∀ b ∈ fp, ∀ o, s2.heap.get? b = some o → s5.heap.get? b = some o ∧ H5 b = none := fun b hb o e => by
        have z := I5.pin (b, o) (List.mem_append_right _ (List.mem_append_right _ (mem_pinsAt hb e)))
        exact ⟨z.1, z.2.1⟩
      have f5 : ∀ b ∈ fp, H5 b = none := fun b hb => by
        obtain ⟨o, e, _⟩ := S.turn.obj _ _ t2 b hb
        exact (pf b hb o e).2
      have t5 : tn (i + 1) s5.heap := S.turn.keep _ _ _ t2 fun b hb o e => (pf b hb o e).1
      obtain ⟨c5, x5⟩ := h0.of_inv I5.unpinned f5
      refine seg_at (seg_yield rfl rfl rfl ⟨y, i, m, a, H5, a0, ry, hYn _ _ q5, c5, t5, x5, Nat.lt_succ_iff.mp hm, fun m' a' s' hm' w' at' kp => ?_⟩)
      refine seg_again rfl (ih (i + 1) m' a' H5 s' (Nat.lt_of_lt_of_le hm' (Nat.lt_succ_iff.mp hm)) w' at' (c5.kp kp) (S.turn.keep _ _ _ t5 fun b hb o e => kp.keep b o (fun z => (c5.sx b z).2.2.2.2.1 hb) e))
/-- the generator at ga, asleep, the total a at SA -/
structure GAS (X : Cx) (fp sx : List Addr) (s4 : Shared) (H4 : Hp) (tn : Nat → Heap → Prop) (SA : Addr) (W : Nat → Nat → Int → Hp → Prop) (Dn : Int → Hp → Prop) (Yd : Nat → Nat → Int → V → Hp → Prop) (Ag : Around) (a : Int) (ga : Addr) (gi n : Nat) (s : Shared) : Prop where
  gen : s.heap.IsGen ga gi
  mem : ga ∈ sx
  mem2 : SA ∈ sx
  ne : ga ≠ SA
  co : ∃ H, CO X fp sx s4 H4 H s
  goes : ∃ gs, s.gens[gi]? = some gs ∧ ∀ s', TotAt SA a s' → Kp sx s s' → gs.Goes (model X.prog X.w) Ag (fun n s0 r s1 => r = .ok .next ∧ gES X fp sx s4 H4 SA Dn n s0 s1) (gYS X fp sx s4 H4 tn SA W Yd) n (.send .none) s'
theorem Kp.trans {s s' s'' : Shared} (a : Kp sx s s') (b : Kp sx s' s'') : Kp sx s s'' := ⟨b.os.trans a.os, b.bare, fun c o n e => b.keep c o n (a.keep c o n e), b.own⟩
theorem gen_nextS {Ap : Around} {SA : Addr} {a : Int} {W : Nat → Nat → Int → Hp → Prop} {Dn : Int → Hp → Prop} {Yd : Nat → Nat → Int → V → Hp → Prop} {ga : Addr} {gi n : Nat} {s : Shared} {E : Value → Shared → Prop} (S : GSt X pins σ scope own ext tg code H4 s4 J fp it tn) (hh : Ap.handled = none) (hd : Ap.depth < recursionLimit)
    (ha : TotAt SA a s) (h : GAS X fp sx s4 H4 tn SA W Dn Yd Ap.in1 a ga gi (n + 1) s) :
    wpAny (model X.prog X.w) Ap (pyNext (.ref ga)) (fun r s1 => (r = none ∧ ∃ H, Dn a H ∧ CO X fp sx s4 H4 H s1 ∧ TotAt SA a s1) ∨
      ∃ v y i m H, r = some v ∧ RelV y v ∧ Yd i m a y H ∧ CO X fp sx s4 H4 H s1 ∧ TotAt SA a s1 ∧ m ≤ n ∧ ∀ m' a' s', m' < m → W (i + 1) m' a' H → Kp sx s1 s' → s'.gens = s1.gens → s'.heap.get? ga = s1.heap.get? ga → GAS X fp sx s4 H4 tn SA W Dn Yd Ap.in1 a' ga gi n s') E s := by
  obtain ⟨hg, hm, hm2, hne, ⟨H0, c0⟩, gs, hgs, hgo⟩ := h
  have hlt : gi + 1 ≤ s.gens.size := by
    by_cases q : gi < s.gens.size
    · exact q
    · rw [Array.getElem?_eq_none (Nat.le_of_not_lt q)] at hgs
      cases hgs
  refine GenW.wpAny_gsz hlt (wpAny_pyNext_genexpQ (P := gES X fp sx s4 H4 SA Dn) hh (lim_of S c0) hd hg hgs (hgo _ ha ⟨rfl, AllBare.set c0.bare rfl, fun _ _ _ e => e, fun b hb => (c0.sx b hb).1⟩) (fun v s1 gs' hb hy hsz => ?_) (fun s1 he h' hk _ => ?_))
  · obtain ⟨y, i, m, a1, H, at1, ry, yd, c1, t1, x1, hmn, hka⟩ := hy
    obtain rfl : a1 = a := at1.one ha
    have c2 : CO X fp sx s4 H4 H (s1.setGen gi gs') := c1.any rfl (AllBare.set c1.bare hb) fun _ _ e => e
    have at2 : TotAt SA a1 (s1.setGen gi gs') := ha.at (x1 SA hm2)
    refine .inr ⟨v, y, i, m, H, rfl, ry, yd, c2, at2, hmn, fun m' a' s' hm' w' kp hgens hga => ⟨?_, hm, hm2, hne, ⟨H, c2.kp kp⟩, gs', ?_, fun s'' ta kp2 => ?_⟩⟩
    · obtain ⟨o, nm, qn, ho, r⟩ := hg
      exact ⟨o, nm, qn, hga.trans ((x1 ga hm).trans ho), r⟩
    · have hsz2 : gi < s1.gens.size := by
        have q : (s1.setGen gi gs').gens.size = s1.gens.size := GenW.setGen_size _ _ _
        rw [q] at hsz
        exact hsz
      rw [hgens]
      simp [Shared.setGen, hsz2]
    · have kk := kp.trans kp2
      exact hka m' a' s'' hm' w' ta ⟨kk.os, kk.bare, kk.keep, kk.own⟩
  · obtain ⟨a1, H, at1, dn, c1, x1⟩ := he
    obtain rfl : a1 = a := at1.one ha
    have c2 : CO X fp sx s4 H4 H { s1.setGen gi .finished with heap := h' } := c1.any rfl (AllBare.set c1.bare rfl) hk
    refine .inl ⟨rfl, H, dn, c2, ?_⟩
    obtain ⟨t, c, e⟩ := ha
    exact ⟨t, c, hk _ _ ((x1 SA hm2).trans e)⟩
theorem kp_upd {SA : Addr} {s : Shared} {o : Obj} {f : Obj → Obj} {t : Tok} {H : Hp} (c : CO X fp sx s4 H4 H s) (hm : SA ∈ sx) (hS : s.heap.get? SA = some o) (hf : s.heap.update SA f = s.heap.update SA f) (hd : ∃ o', (s.heap.update SA f).get? SA = some o' ∧ ∀ v, o'.data ≠ .cell v) :
    Kp sx s { s with heap := s.heap.update SA f, toks := t } := by
  refine ⟨rfl, c.bare, fun b o' n e => (Heap.get?_update_other _ _ (fun h : SA = b => n (h ▸ hm))).trans e, fun b hb => ?_⟩
  by_cases q : SA = b
  · subst q
    exact hd
  · obtain ⟨⟨o', e, d⟩, _⟩ := c.sx b hb
    exact ⟨o', (Heap.get?_update_other _ _ q).trans e, d⟩
theorem sum_walk {W : Nat → Nat → Int → Hp → Prop} {QD : Int → Hp → Prop} {SA ga : Addr} {gi : Nat} {R : Result → Shared → Prop} (S : GSt X pins σ scope own ext tg code H4 s4 J fp it tn) (hh : X.A.handled = none) (hd : X.A.depth < recursionLimit)
    (hR : ∀ (a : Int) (t : Tok) (H : Hp) (s' : Shared), QD a H → CO X fp sx s4 H4 H s' → R (.ok (.ret (.int a t))) s') :
    ∀ (n : Nat) (s : Shared) (a : Int) (st : Int), (st = 0 ∨ st = 2) → TotAt SA a s → GAS X fp sx s4 H4 tn SA W QD (fun i m a y H => ∃ b, y = V.int b ∧ ∃ m', m' < m ∧ W (i + 1) m' (a + b) H) X.A.in1.in1 a ga gi (n + 1) s →
      codeAny (model X.prog X.w) X.A (.builtin "sum.loop" ⟨[.ref ga, .ref SA, rawInt st, rawInt 0], []⟩) R s := by
  intro n
  induction n with
  | zero =>
    intro s a st hst hat h
    obtain ⟨tA, c0, hS⟩ := id hat
    refine codeAny_builtin F.entry_sum_loop ?_
    rw [Around.under_plainId F.plain_sum_loop _]
    show wpAny _ X.A.in1 (seqItems? (.ref SA) >>= _) _ _ s
    refine wpAny_bind (wpAny_seqItems hS rfl ?_)
    show wpAny _ X.A.in1 (tryCatch (pyNext (.ref ga)) _ >>= _) _ _ s
    refine wpAny_bind (wpAny_tryCatch (wpAny_mono (gen_nextS (E := fun _ _ => False) S hh hd hat h) (fun r s1 hr => ?_) fun _ _ z => False.elim z))
    rcases hr with ⟨rfl, H, dn, c1, _⟩ | ⟨v, y, i, m, H, rfl, ry, ⟨b, rfl, m', hm', w'⟩, c1, at1, hm, more⟩
    · exact wpAny_pure (hR a tA H s1 dn c1)
    · omega
  | succ n ih =>
    intro s a st hst hat h
    have gmem := h.mem2
    have gne := h.ne
    obtain ⟨tA, c0, hS⟩ := id hat
    refine codeAny_builtin F.entry_sum_loop ?_
    rw [Around.under_plainId F.plain_sum_loop _]
    show wpAny _ X.A.in1 (seqItems? (.ref SA) >>= _) _ _ s
    refine wpAny_bind (wpAny_seqItems hS rfl ?_)
    show wpAny _ X.A.in1 (tryCatch (pyNext (.ref ga)) _ >>= _) _ _ s
    refine wpAny_bind (wpAny_tryCatch (wpAny_mono (gen_nextS (E := fun _ _ => False) S hh hd hat h) (fun r s' hr => ?_) fun _ _ z => False.elim z))
    rcases hr with ⟨rfl, H, dn, c1, _⟩ | ⟨v, y, i, m, H, rfl, ry, ⟨b, rfl, m', hm', w'⟩, c1, at1, hm, more⟩
    · exact wpAny_pure (hR a tA H s' dn c1)
    obtain ⟨t, rfl⟩ : ∃ t, v = Value.int b t := ry
    obtain ⟨tB, c1', hS'⟩ := id at1
    have go : ∀ (s'' : Shared) (st' : Int), (st' = 0 ∨ st' = 2) → TotAt SA (a + b) s'' → Kp sx s' s'' → s''.gens = s'.gens → s''.heap.get? ga = s'.heap.get? ga → codeAny (model X.prog X.w) X.A (.builtin "sum.loop" ⟨[.ref ga, .ref SA, rawInt st', rawInt 0], []⟩) R s'' :=
      fun s'' st' h1 h2 h3 h4 h5 => ih s'' (a + b) st' h1 h2 (more m' (a + b) s'' hm' w' h3 h4 h5)
    rcases hst with rfl | rfl
    · show wpAny _ X.A.in1 (if (_ : Bool) = true then (mkInt (a + b) >>= _) else _) _ _ _
      split
      · refine wpAny_bind (wpAny_mkInt ?_)
        show wpAny _ X.A.in1 (updateSeq SA (fun _ => #[.int (a + b) s'.toks]) >>= _) _ _ _
        refine wpAny_bind ?_
        refine wpAny_updateSeq hS' rfl (wpAny_pure ⟨plainId_quiet F.plain_sum_loop _, go _ 0 (.inl rfl) ⟨_, _, Heap.get?_update_self _ hS' rfl⟩ (kp_upd c1 gmem hS' rfl ⟨_, Heap.get?_update_self _ hS' rfl, fun v z => by cases z⟩) rfl (Heap.get?_update_other _ _ gne.symm)⟩)
      · refine wpAny_bind (wpAny_rule ?_)
        refine wpAny_bind (wpAny_attempt (wpAny_holding (wpAny_add_int ?_)))
        show wpAny _ X.A.in1 (updateSeq SA (fun _ => #[.int (a + b) s'.toks]) >>= _) _ _ _
        refine wpAny_bind (wpAny_updateSeq hS' rfl ?_)
        have hS₂ := Heap.get?_update_self (Obj.mapSeq fun _ => #[Value.int (a + b) s'.toks]) hS' rfl
        refine wpAny_bind (wpAny_letGo ?_)
        have k1 : Kp sx s' { s' with heap := s'.heap.update SA (Obj.mapSeq fun _ => #[Value.int (a + b) s'.toks]), toks := s'.toks + 1 } := kp_upd c1 gmem hS' rfl ⟨_, hS₂, fun v z => by cases z⟩
        refine wpAny_bind (wpAny_updateSeq hS₂ rfl (wpAny_pure ⟨plainId_quiet F.plain_sum_loop _, go _ 2 (.inr rfl) ⟨_, _, Heap.get?_update_self _ hS₂ rfl⟩ (k1.trans (kp_upd (c1.kp k1) gmem hS₂ rfl ⟨_, Heap.get?_update_self _ hS₂ rfl, fun v z => by cases z⟩)) rfl ((Heap.get?_update_other _ _ gne.symm).trans (Heap.get?_update_other _ _ gne.symm))⟩))
    · show wpAny _ X.A.in1 ((holding [Value.int b t] (binaryOp .Add (.int a tA) (.int b t))).attempt >>= _) _ _ _
      refine wpAny_bind (wpAny_attempt (wpAny_holding (wpAny_add_int ?_)))
      show wpAny _ X.A.in1 (updateSeq SA (fun _ => #[.int (a + b) s'.toks]) >>= _) _ _ _
      refine wpAny_bind (wpAny_updateSeq hS' rfl ?_)
      have hS₂ := Heap.get?_update_self (Obj.mapSeq fun _ => #[Value.int (a + b) s'.toks]) hS' rfl
      refine wpAny_bind (wpAny_letGo ?_)
      have k1 : Kp sx s' { s' with heap := s'.heap.update SA (Obj.mapSeq fun _ => #[Value.int (a + b) s'.toks]), toks := s'.toks + 1 } := kp_upd c1 gmem hS' rfl ⟨_, hS₂, fun v z => by cases z⟩
      refine wpAny_bind (wpAny_updateSeq hS₂ rfl (wpAny_pure ⟨plainId_quiet F.plain_sum_loop _, go _ 2 (.inr rfl) ⟨_, _, Heap.get?_update_self _ hS₂ rfl⟩ (k1.trans (kp_upd (c1.kp k1) gmem hS₂ rfl ⟨_, Heap.get?_update_self _ hS₂ rfl, fun v z => by cases z⟩)) rfl ((Heap.get?_update_other _ _ gne.symm).trans (Heap.get?_update_other _ _ gne.symm))⟩))
/-- one more object of the consumer's own -/
theorem CO.more {H : Hp} {s s' : Shared} {o : Obj} (S : GSt X pins σ scope own ext tg code H4 s4 J fp it tn) (h : CO X fp sx s4 H4 H s) (os : s'.os = s.os) (bare : AllBare s'.gens) (hk : ∀ b u, s.heap.get? b = some u → s'.heap.get? b = some u) (hS : s'.heap.get? s.heap.objs.size = some o) (hd : ∀ v, o.data ≠ .cell v) : CO X fp (s.heap.objs.size :: sx) s4 H4 H s' := by
  have c := h.any os bare hk
  obtain ⟨m, ob, es, ep, ho, r⟩ := h.ns
  have l4 : s4.heap.objs.size < s.heap.objs.size := Heap.lt_size ho
  have new : ∀ b, s.heap.objs.size ≤ b → H b = none := fun b hb => h.hok.fresh hb
  refine ⟨c.os, c.bare, c.un, c.hok, c.ns, c.free, c.fr, fun b hb => ?_⟩
  rcases List.mem_cons.mp hb with e | e
  · rw [e]
    refine ⟨⟨o, hS, hd⟩, new _ (Nat.le_refl _), Nat.ne_of_gt l4, fun z => ?_, fun z => ?_, ?_⟩
    · rcases List.mem_cons.mp (S.inv.stkSub _ z) with e | e
      · have z2 := S.inv.lt
        rw [← e] at z2
        exact absurd (Nat.lt_trans l4 z2) (Nat.lt_irrefl _)
      · exact S.inv.nofs (Nat.le_of_lt l4) e
    · exact absurd (Nat.lt_trans l4 (S.lt _ z)) (Nat.lt_irrefl _)
    · cases q : s4.heap.get? s.heap.objs.size with
      | none => rfl
      | some u => exact absurd (Nat.lt_trans l4 (Heap.lt_size q)) (Nat.lt_irrefl _)
  · exact c.sx b e
end
section
variable {X : Cx} {pins : List (Addr × Obj)} {σ : L2.St} {H : Hp} {s : Shared} {scope : Scope} {own : List (Str × Nat)} {ext : List Str} {tg elt iter : Expr} {pos p cpos : Pos} {c P : Addr} {wi : TI} {k : Nat} {g : TG} {te : TE}
/-- sum(..) of the expression over ints -/
def tSumG (P : Addr) (wi : TI) (g : TG) (te : TE) (own : List (Str × Nat)) (ext : List Str) : TE := fun σ H Q => wi σ H fun J H1 => GxR.TabG H1 P ∧ ∀ H2, GxR.Tabbed P H1 H2 → ∃ W : Nat → Nat → Int → Hp → Prop, (∃ m, W 0 m 0 H2) ∧
  ∀ i m a H, W i m a H → (J.stop i H ∧ Q (.int a) H) ∨ (J.go i H ∧ ∃ N : Int → Hp → Prop, (∀ a' H', N a' H' → ∃ m', m' < m ∧ W (i + 1) m' a' H') ∧ ∀ x H', J.yld i H x H' → g x (gS σ own ext) H' fun σ2 H2 => te σ2 H2 fun v H3 => ∃ b, v = V.int b ∧ N (a + b) H3)
theorem pe_sumG (hr : Room (k + 2) X.A) (hg : Gl X "sum") (hm : X.mg "sum" = none) (TB : GxR.TabB X.base X.mg c P) (hcode : X.env.code = .ref c) (G : GOk X.N X.env.scope scope own ext) (hi : PI X tg iter wi)
    (ht : ∀ (code : Value) (fp : List Addr) (s4 : Shared) (H4 : Hp) (B : Around), PG (gCx X scope code fp s4 H4 B ext) tg g) (he : ∀ (code : Value) (fp : List Addr) (s4 : Shared) (H4 : Hp) (B : Around), Room k B → PE (gCx X scope code fp s4 H4 B ext) elt te)
    (hb : bootBuiltins "sum" = some (.builtin "sum") := by decide +kernel)
    (hs : ∀ v, genFold iter X.env v = pure v := by intro _; rfl) (hst : starEach [.GeneratorExp elt [⟨tg, iter, [], 0⟩] scope pos] X.env = (false, eval (.GeneratorExp elt [⟨tg, iter, [], 0⟩] scope pos) X.env) :: starEach [] X.env := by rfl) :
    PE X (.Call (.Name "sum" p) [.GeneratorExp elt [⟨tg, iter, [], 0⟩] scope pos] [] cpos) (tSumG P wi g te own ext) := by
  constructor
  intro pins s σ H Q I h
  refine wpAny_Call_Name_kw (ld_blt I hg hm hb (PyProof.Rows.callWith_builtin1 ?_ hst (by rfl)))
  rw [hst]
  show wpAny _ _ (spliced ((false, eval (.GeneratorExp elt [⟨tg, iter, [], 0⟩] scope pos) X.env) :: backTo cpos (starEach [] X.env))) _ _ s
  refine Calls.spliced_cons (gen_eval hr TB hcode G hi hs I h fun J fp it tn H1 H4 s4 s5 code ga gi q htab S t5 c5 hgen hgs => Calls.spliced_nil ?_)
  obtain ⟨W, ⟨m, w0⟩, turn⟩ := q H4 htab
  have rm : Room k (X.A.in1.in1.over (gLoop X tg elt iter scope pos it s4 code) []) := room_over (room_in1 hr) rfl rfl
  refine call_function_tree F.kind_sum F.plain_sum F.entry_sum (F.args_sum1 _) ?_
  unfold Builtin.«sum»
  simp only [List.length_cons, List.length_nil]
  rw [if_neg (by decide)]
  refine wpAny_bind (wpAny_of_eq (show Builtin.Builtins.bindParams "sum" ["start"] 0 { } = pure [none] from rfl) ?_)
  refine wpAny_bind (wpAny_pyIter_gen hgen ?_)
  refine wpAny_bind (wpAny_mkInt ?_)
  refine wpAny_bind (wpAny_pure ?_)
  simp only [List.forIn_cons, List.forIn_nil]
  refine wpAny_bind (wpAny_bind (wpAny_bind (wpAny_isInstance (T := "int") (b := false) (typeIs_int _ _ _) PySem.sub_int_str ?_)))
  simp only [Bool.false_eq_true, if_false]
  refine wpAny_pure (wpAny_bind (wpAny_bind (wpAny_isInstance (T := "int") (b := false) (typeIs_int _ _ _) PySem.sub_int_bytes ?_)))
  simp only [Bool.false_eq_true, if_false]
  refine wpAny_pure (wpAny_bind (wpAny_bind (wpAny_isInstance (T := "int") (b := false) (typeIs_int _ _ _) PySem.sub_int_bytearray ?_)))
  simp only [Bool.false_eq_true, if_false]
  refine wpAny_pure (wpAny_pure ?_)
  refine wpAny_bind (wpAny_newObj_type ?_)
  have gaS : ga < s5.heap.objs.size := by
    obtain ⟨o, nm, qn, ho, _⟩ := hgen
    exact Heap.lt_size ho
  refine wpAny_pure ⟨plainId_quiet F.plain_sum_loop _, ?_⟩
  have hk : ∀ (b : Addr) (u : Obj), s5.heap.get? b = some u → (s5.heap.push { cls := .type "list", data := .seq #[.int 0 s5.toks] }).get? b = some u := fun b u e => Heap.get?_push_of_some _ e
  have hS : (s5.heap.push { cls := .type "list", data := .seq #[.int 0 s5.toks] }).get? s5.heap.objs.size = some { cls := .type "list", data := .seq #[.int 0 s5.toks] } := Heap.get?_push_size _ rfl
  have c6 := CO.more (s' := { s5 with heap := s5.heap.push { cls := .type "list", data := .seq #[.int 0 s5.toks] }, toks := s5.toks + 1 }) S c5 rfl c5.bare hk hS (fun v z => by cases z)
  have t6 : tn 0 (s5.heap.push { cls := .type "list", data := .seq #[.int 0 s5.toks] }) := S.turn.keep _ _ _ t5 fun b hb o e => hk b o e
  have hat : TotAt s5.heap.objs.size 0 { s5 with heap := s5.heap.push { cls := .type "list", data := .seq #[.int 0 s5.toks] }, toks := s5.toks + 1 } := ⟨_, _, hS⟩
  refine sum_walk (W := W) (QD := fun a H' => Q (.int a) H') S hr.hd hr.depth (fun a t H' s' hb hc => EP_of (v := .int a) S hc ⟨t, rfl⟩ hb) m _ 0 0 (.inl rfl) hat ⟨?_, List.mem_cons_of_mem _ List.mem_cons_self, List.mem_cons_self, Nat.ne_of_lt gaS, ⟨H4, c6⟩, _, hgs, fun s' ta kp => ⟨rfl, ?_⟩⟩
  · obtain ⟨o, nm, qn, ho, r⟩ := hgen
    exact ⟨o, nm, qn, hk _ _ ho, r⟩
  have t7 : tn 0 s'.heap := S.turn.keep _ _ _ t6 fun b hb o e => kp.keep b o (fun z => (c6.sx b z).2.2.2.2.1 hb) e
  refine seg_first (Ag := X.A.in1.in1) S hr.hd t7 (seg_loopS (Ag := X.A.in1.in1) S S.inv.ok.frames hr.hd (ht ..) (he _ _ _ _ _ rm) W _ _ (fun i m a H w => ?_) (m + 1) 0 m 0 H4 s' (Nat.lt_succ_self m) w0 ta (c6.kp kp) t7)
  rcases turn i m a H w with z | ⟨go, N, hN, step⟩
  · exact .inl z
  · exact .inr ⟨go, _, fun v H3 ⟨b, e, q⟩ => ⟨b, e, hN _ _ q⟩, step⟩
end
/-! ### readings over any walk -/
section
variable {J : It} {n : Nat} {G : Hp → Prop} {Y : Nat → Hp → V → Hp → Prop} {g : TG} {te : TE} {σg : L2.St} {H1 : Hp} {P : Addr} {Q : VK} {st : Bool}
/-- any, all over any walk -/
theorem gen_it (w : Walk J n G Y) (Pv : Nat → Hp → Prop) (h0 : ∀ H2, GxR.Tabbed P H1 H2 → Pv 0 H2) (hG : ∀ i H, i ≤ n → Pv i H → G H)
    (hs : ∀ i x H H', i < n → Pv i H → Y i H x H' → g x σg H' fun σ2 H2 => te σ2 H2 fun v H3 => ∃ b, v = V.bl b ∧ if b = st then Q (.bl st) H3 else Pv (i + 1) H3) (hd : ∀ H, Pv n H → Q (.bl (!st)) H) :
    ∀ H2, GxR.Tabbed P H1 H2 → ∃ W : Nat → Nat → Hp → Prop, (∃ m, W 0 m H2) ∧ ∀ i m H, W i m H → (J.stop i H ∧ Q (.bl (!st)) H) ∨ (J.go i H ∧ ∃ N : Hp → Prop, (∀ H', N H' → ∃ m', m' < m ∧ W (i + 1) m' H') ∧
      ∀ x H', J.yld i H x H' → g x σg H' fun σ2 H2 => te σ2 H2 fun v H3 => ∃ b, v = V.bl b ∧ if b = st then Q (.bl st) H3 else N H3) := by
  intro H2 tb
  refine ⟨fun i m H => m = n - i ∧ i ≤ n ∧ Pv i H, ⟨n, by simp, Nat.zero_le _, h0 H2 tb⟩, ?_⟩
  rintro i m H ⟨rfl, hi, p⟩
  have q := hG i H hi p
  by_cases hlt : i < n
  · exact .inr ⟨w.goes i H hlt q, Pv (i + 1), fun H' p' => ⟨n - (i + 1), by omega, rfl, hlt, p'⟩, fun x H' y => hs i x H H' hlt p (w.yields i H x H' hlt q y)⟩
  · obtain rfl : i = n := by omega
    exact .inl ⟨w.stops H q, hd H p⟩
/-- sum over any walk: Pv also tells the total -/
theorem sum_it (w : Walk J n G Y) (Pv : Nat → Int → Hp → Prop) (h0 : ∀ H2, GxR.Tabbed P H1 H2 → Pv 0 0 H2) (hG : ∀ i a H, i ≤ n → Pv i a H → G H)
    (hs : ∀ i a x H H', i < n → Pv i a H → Y i H x H' → g x σg H' fun σ2 H2 => te σ2 H2 fun v H3 => ∃ b, v = V.int b ∧ Pv (i + 1) (a + b) H3) (hd : ∀ a H, Pv n a H → Q (.int a) H) :
    ∀ H2, GxR.Tabbed P H1 H2 → ∃ W : Nat → Nat → Int → Hp → Prop, (∃ m, W 0 m 0 H2) ∧ ∀ i m a H, W i m a H → (J.stop i H ∧ Q (.int a) H) ∨ (J.go i H ∧ ∃ N : Int → Hp → Prop, (∀ a' H', N a' H' → ∃ m', m' < m ∧ W (i + 1) m' a' H') ∧
      ∀ x H', J.yld i H x H' → g x σg H' fun σ2 H2 => te σ2 H2 fun v H3 => ∃ b, v = V.int b ∧ N (a + b) H3) := by
  intro H2 tb
  refine ⟨fun i m a H => m = n - i ∧ i ≤ n ∧ Pv i a H, ⟨n, by simp, Nat.zero_le _, h0 H2 tb⟩, ?_⟩
  rintro i m a H ⟨rfl, hi, p⟩
  have q := hG i a H hi p
  by_cases hlt : i < n
  · exact .inr ⟨w.goes i H hlt q, Pv (i + 1), fun a' H' p' => ⟨n - (i + 1), by omega, rfl, hlt, p'⟩, fun x H' y => hs i a x H H' hlt p (w.yields i H x H' hlt q y)⟩
  · obtain rfl : i = n := by omega
    exact .inl ⟨w.stops H q, hd a H p⟩
end
end GX

/-! ### xs.extend(a tuple) -/
namespace ET
open PySem PySem.Spec PyProof.Rows L2 Cm
set_option maxRecDepth 8000 in
theorem list_extend_tup (l : Addr) (items : Array Value) (n : Nat) (b : Addr) (items2 : Array Value) (n2 : Nat) (dd : Option Addr) (sl : Array (Option Value)) (hs0 : ¬(!items.isEmpty && Builtin.List.listTooLong (items.size + items2.size)) = true) (hs1 : items.size ≤ sizeLine) (hs2 : items.size + items2.size ≤ sizeLine + 1) :
    Meets (Builtin.«list.extend» ⟨[.ref l, .ref b], []⟩) (fun _ R s => s.heap.get? l = some { cls := .type "list", dict := none, data := .seq items n, slots := #[] } ∧ s.heap.get? b = some { cls := .type "tuple", dict := dd, data := .seq items2 n2, slots := sl } ∧ R (.ok (.ret Value.none)) { s with heap := s.heap.update l (Obj.mapSeq fun x => x ++ items2), toks := s.toks }) :=
  .of_wp fun prog w A R s h => by
    obtain ⟨hp, g, d, tk, os⟩ := s; obtain ⟨hl, hb, h⟩ := h; have f1 := AutoSeq1.idx_int; have f2 := AutoSeq1.sub_tuple_tuple; have f3 := AutoSeq1.sub_list_list; have f4 := AutoSeq1.sub_tuple_list; have f5 := AutoSeq1.sub_list_tuple;
    have hz' : (items ++ items2).size ≤ sizeLine + 1 := by rw [Array.size_append]; exact hs2
    wp_walk using (wpAny_updateSeq hl rfl (hz := hs1) (_hz' := hz')), AutoSeq1.wpAny_loadPart' hl, AutoSeq1.wpAny_loadPart' hb; exact ⟨_, rfl, h⟩
def rExtT (K : PySem.W.Frag) : V → List V → Hp → VK → Prop := fun x vs H Q => ∃ l b xs zs, x = .ref l ∧ vs = [.ref b] ∧ H l = some (.lst xs) ∧ SqT K H b zs ∧ xs.length + zs.length ≤ sizeLine ∧ Q .non (upd H l (.lst (xs ++ zs)))
theorem mt_extendT {X : Cx} : MtM X "list.extend" (rExtT X.K) := by
  intro pins s σ H x vs v us Q I rx rv h
  obtain ⟨l, b, xs, zs, rfl, rfl, hH, hB, hz, q⟩ := h
  cases rx
  obtain ⟨u, rfl, ru⟩ := rv.one
  cases ru
  obtain ⟨z, its, n, r, hl, e⟩ := I.lstM hH
  obtain ⟨its2, r2, ⟨o, e2, hc, n2, hd⟩, z2⟩ := I.tuple hB
  have hl2 := r2.length
  have hsz : its.toArray.size + its2.toArray.size ≤ sizeLine := by rw [List.size_toArray, List.size_toArray]; omega
  have hlong : ¬ (!its.toArray.isEmpty && Builtin.List.listTooLong (its.toArray.size + its2.toArray.size)) = true := by
    rw [notLongL hsz, Bool.and_false]
    exact Bool.false_ne_true
  have e3 : s.heap.get? b = some { cls := .type "tuple", dict := o.dict, data := .seq its2.toArray n2, slots := o.slots } := by
    obtain ⟨c, d, da, sl⟩ := o
    cases hc
    cases hd
    exact e2
  refine call_meets PySem.F.slot_list_extend ⟨_, e, rfl⟩ PySem.F.entry_list_extend (PySem.F.args_list_extend_2 _ _)
    (list_extend_tup l its.toArray n b its2.toArray n2 o.dict o.slots hlong (by rw [List.size_toArray]; omega) (by omega)) ⟨e, e3, ?_⟩
  refine ⟨.non, _, I.lset (its' := its ++ its2) hH e (by simp) (r.append r2) ?_, rfl, q⟩
  rw [List.length_append]
  omega
end ET

/-! ### a tuple target, the written part named -/
namespace TK
open PySem PySem.Spec PyProof.Rows L2 Cm
theorem pg_tupK {X : Cx} {K : PySem.W.Frag} {es : List Expr} {k : Nat} {pos : Pos} {t : TGs} {n : Nat} (hK : X.K = K) (hc : X.calm = true) (h : PGs X es t)
    (hn : (assignEach es X.env).length = n := by rfl) (hst : (assignEach es X.env).findIdx? (·.1) = none := by rfl) : PG X (.Tuple es k pos) (gTup K n t) := by
  subst hK
  exact pg_tup hc h hn hst
theorem op_notInK {X : Cx} {K : PySem.W.Frag} (h : X.K = K := by rfl) : OpR X (compareOp .NotIn) (rIn K true) := by
  subst h
  exact op_notIn_seq
theorem op_inK {X : Cx} {K : PySem.W.Frag} (h : X.K = K := by rfl) : OpR X (compareOp .In) (rIn K false) := by
  subst h
  exact op_in_seq
def rListOf (K : PySem.W.Frag) : List V → Hp → VK → Prop := fun xs H Q => ∃ p ys, xs = [.ref p] ∧ (SqL K H p ys ∨ SqT K H p ys) ∧ ∀ l, H l = none → Q (.ref l) (upd H l (.lst ys))
theorem call_list_ofK {X : Cx} {K : PySem.W.Frag} (h : X.K = K := by rfl) (hc : X.calm = true := by rfl) : CallR X (.type "list") (rListOf K) := by
  subst h
  exact call_list_of
theorem pi_listK {X : Cx} {K : PySem.W.Frag} {tg e : Expr} {te : TE} (he : PE X e te) (h : X.K = K := by rfl) : PI X tg e (iList K te) := by
  subst h
  exact pi_list he
end TK

namespace My
open PySem PySem.Spec PyProof.Rows L2 Cm 
def top (i : Nat) : Stmt := PySem.Challenge.pw_scanpages_k14_squash.main.body.getD i (.Pass ⟨0, 0, 0, 0⟩)
abbrev s_taken_items : Stmt := (top 4)
abbrev N_taken_items : List Str := ["script"]
theorem sc_taken_items : FnScope N_taken_items ["script"] (defScope s_taken_items) := ⟨rfl, rfl, rfl, by decide +kernel, rfl, by decide +kernel, by decide +kernel⟩
abbrev s__taken_by : Stmt := (top 5)
abbrev N__taken_by : List Str := ["step", "kind", "what"]
theorem sc__taken_by : FnScope N__taken_by ["step"] (defScope s__taken_by) := ⟨rfl, rfl, rfl, by decide +kernel, rfl, by decide +kernel, by decide +kernel⟩
abbrev s_made_items : Stmt := (top 6)
abbrev N_made_items : List Str := ["script"]
theorem sc_made_items : FnScope N_made_items ["script"] (defScope s_made_items) := ⟨rfl, rfl, rfl, by decide +kernel, rfl, by decide +kernel, by decide +kernel⟩
abbrev s__made_by : Stmt := (top 7)
abbrev N__made_by : List Str := ["step", "kind", "what"]
theorem sc__made_by : FnScope N__made_by ["step"] (defScope s__made_by) := ⟨rfl, rfl, rfl, by decide +kernel, rfl, by decide +kernel, by decide +kernel⟩
abbrev s_check_fit : Stmt := (top 8)
abbrev N_check_fit : List Str := ["script", "length"]
theorem sc_check_fit : FnScope N_check_fit ["script", "length"] (defScope s_check_fit) := ⟨rfl, rfl, rfl, by decide +kernel, rfl, by decide +kernel, by decide +kernel⟩
abbrev s_normalized : Stmt := (top 9)
abbrev N_normalized : List Str := ["script", "normal", "kept", "dropped", "added", "kind", "what"]
theorem sc_normalized : FnScope N_normalized ["script"] (defScope s_normalized) := ⟨rfl, rfl, rfl, by decide +kernel, rfl, by decide +kernel, by decide +kernel⟩
abbrev s__steps : Stmt := (top 10)
abbrev N__steps : List Str := ["kept", "dropped", "added", "steps"]
theorem sc__steps : FnScope N__steps ["kept", "dropped", "added"] (defScope s__steps) := ⟨rfl, rfl, rfl, by decide +kernel, rfl, by decide +kernel, by decide +kernel⟩
abbrev s_squashed : Stmt := (top 11)
abbrev N_squashed : List Str := ["first", "second", "parts", "step", "steps", "part"]
theorem sc_squashed : FnScope N_squashed ["first", "second"] (defScope s_squashed) := ⟨rfl, rfl, rfl, by decide +kernel, rfl, by decide +kernel, by decide +kernel⟩
abbrev s__split : Stmt := (top 12)
abbrev N__split : List Str := ["script", "counts", "parts", "waiting", "count", "part", "missing", "step", "later"]
theorem sc__split : FnScope N__split ["script", "counts"] (defScope s__split) := ⟨rfl, rfl, rfl, by decide +kernel, rfl, by decide +kernel, by decide +kernel⟩
abbrev s__cut : Stmt := (top 13)
abbrev N__cut : List Str := ["step", "count", "kind", "what"]
theorem sc__cut : FnScope N__cut ["step", "count"] (defScope s__cut) := ⟨rfl, rfl, rfl, by decide +kernel, rfl, by decide +kernel, by decide +kernel⟩
abbrev s__law_cell : Stmt := (top 15)
abbrev N__law_cell : List Str := ["script", "k"]
theorem sc__law_cell : FnScope N__law_cell ["script", "k"] (defScope s__law_cell) := ⟨rfl, rfl, rfl, by decide +kernel, rfl, by decide +kernel, by decide +kernel⟩
abbrev s__law_mix : Stmt := (top 16)
abbrev N__law_mix : List Str := ["cell", "k", "number"]
theorem sc__law_mix : FnScope N__law_mix ["cell", "k"] (defScope s__law_mix) := ⟨rfl, rfl, rfl, by decide +kernel, rfl, by decide +kernel, by decide +kernel⟩
abbrev s__law_row : Stmt := (top 17)
abbrev N__law_row : List Str := ["cell", "count", "bound", "found", "rest", "k"]
theorem sc__law_row : FnScope N__law_row ["cell", "count", "bound"] (defScope s__law_row) := ⟨rfl, rfl, rfl, by decide +kernel, rfl, by decide +kernel, by decide +kernel⟩
abbrev s__law_is_int : Stmt := (top 18)
abbrev N__law_is_int : List Str := ["value"]
theorem sc__law_is_int : FnScope N__law_is_int ["value"] (defScope s__law_is_int) := ⟨rfl, rfl, rfl, by decide +kernel, rfl, by decide +kernel, by decide +kernel⟩
abbrev s__law_items : Stmt := (top 19)
abbrev N__law_items : List Str := ["cell", "size", "bound"]
theorem sc__law_items : FnScope N__law_items ["cell", "size"] (defScope s__law_items) := ⟨rfl, rfl, rfl, by decide +kernel, rfl, by decide +kernel, by decide +kernel⟩
abbrev s__law_script : Stmt := (top 20)
abbrev N__law_script : List Str := ["cells", "old", "steps", "left", "cell", "kind", "count"]
theorem sc__law_script : FnScope N__law_script ["cells", "old"] (defScope s__law_script) := ⟨rfl, rfl, rfl, by decide +kernel, rfl, by decide +kernel, by decide +kernel⟩
abbrev s__law_patch : Stmt := (top 21)
abbrev N__law_patch : List Str := ["old", "script", "new", "at", "kind", "part"]
theorem sc__law_patch : FnScope N__law_patch ["old", "script"] (defScope s__law_patch) := ⟨rfl, rfl, rfl, by decide +kernel, rfl, by decide +kernel, by decide +kernel⟩
abbrev s__law_is_normal : Stmt := (top 22)
abbrev N__law_is_normal : List Str := ["script", "before", "step"]
theorem sc__law_is_normal : FnScope N__law_is_normal ["script"] (defScope s__law_is_normal) := ⟨rfl, rfl, rfl, by decide +kernel, rfl, by decide +kernel, by decide +kernel⟩
abbrev s__law_close : Stmt := (top 23)
abbrev N__law_close : List Str := ["steps", "gap"]
theorem sc__law_close : FnScope N__law_close ["steps", "gap"] (defScope s__law_close) := ⟨rfl, rfl, rfl, by decide +kernel, rfl, by decide +kernel, by decide +kernel⟩
abbrev s__law_normal : Stmt := (top 24)
abbrev N__law_normal : List Str := ["script", "steps", "gap", "kind", "part"]
theorem sc__law_normal : FnScope N__law_normal ["script"] (defScope s__law_normal) := ⟨rfl, rfl, rfl, by decide +kernel, rfl, by decide +kernel, by decide +kernel⟩
abbrev s__law_follow : Stmt := (top 25)
abbrev N__law_follow : List Str := ["first", "second", "made", "kind", "part", "item", "steps", "at", "k", "j", "unit"]
theorem sc__law_follow : FnScope N__law_follow ["first", "second"] (defScope s__law_follow) := ⟨rfl, rfl, rfl, by decide +kernel, rfl, by decide +kernel, by decide +kernel⟩
abbrev s_law : Stmt := (top 26)
abbrev N_law : List Str := ["script", "old", "first", "middle", "second", "kind", "new", "copies", "actual", "e"]
theorem sc_law : FnScope N_law ["script"] (defScope s_law) := ⟨rfl, rfl, rfl, by decide +kernel, rfl, by decide +kernel, by decide +kernel⟩
structure Txt (K : PySem.W.Frag) (mg : Str → Option Value) (C_ArchiveError C_InvalidScript c_taken_items c_made_items P_taken_items P_made_items : Addr) : Prop where
  d_taken_items : GX.DnC K mg "taken_items" s_taken_items ["script"] c_taken_items
  d__taken_by : Dn K mg "_taken_by" s__taken_by ["step"]
  d_made_items : GX.DnC K mg "made_items" s_made_items ["script"] c_made_items
  d__made_by : Dn K mg "_made_by" s__made_by ["step"]
  d_check_fit : Dn K mg "check_fit" s_check_fit ["script", "length"]
  d_normalized : Dn K mg "normalized" s_normalized ["script"]
  d__steps : Dn K mg "_steps" s__steps ["kept", "dropped", "added"]
  d_squashed : Dn K mg "squashed" s_squashed ["first", "second"]
  d__split : Dn K mg "_split" s__split ["script", "counts"]
  d__cut : Dn K mg "_cut" s__cut ["step", "count"]
  d__law_cell : Dn K mg "_law_cell" s__law_cell ["script", "k"]
  d__law_mix : Dn K mg "_law_mix" s__law_mix ["cell", "k"]
  d__law_row : Dn K mg "_law_row" s__law_row ["cell", "count", "bound"]
  d__law_is_int : Dn K mg "_law_is_int" s__law_is_int ["value"]
  d__law_items : Dn K mg "_law_items" s__law_items ["cell", "size"]
  d__law_script : Dn K mg "_law_script" s__law_script ["cells", "old"]
  d__law_patch : Dn K mg "_law_patch" s__law_patch ["old", "script"]
  d__law_is_normal : Dn K mg "_law_is_normal" s__law_is_normal ["script"]
  d__law_close : Dn K mg "_law_close" s__law_close ["steps", "gap"]
  d__law_normal : Dn K mg "_law_normal" s__law_normal ["script"]
  d__law_follow : Dn K mg "_law_follow" s__law_follow ["first", "second"]
  d_law : Dn K mg "law" s_law ["script"]
  n_sum : mg "sum" = none
  n_len : mg "len" = none
  n_tuple : mg "tuple" = none
  n_zip : mg "zip" = none
  n_list : mg "list" = none
  n_int : mg "int" = none
  n_abs : mg "abs" = none
  n_range : mg "range" = none
  n_isinstance : mg "isinstance" = none
  n_bool : mg "bool" = none
  n_min : mg "min" = none
  x_ArchiveError : XCl K mg "ArchiveError" C_ArchiveError
  x_InvalidScript : XCl K mg "InvalidScript" C_InvalidScript
  s_InvalidScript_ArchiveError : PySem.W.subIn K (.ref C_InvalidScript) (.ref C_ArchiveError) = some true
  q_InvalidScript_InvalidScript : PySem.W.kitOne K (.ref C_InvalidScript) (.ref C_InvalidScript) = some true
class Tbs (base : Heap) (mg : Str → Option Value) (c_taken_items c_made_items P_taken_items P_made_items : Addr) : Prop where
  t_taken_items : GxR.TabB base mg c_taken_items P_taken_items
  t_made_items : GxR.TabB base mg c_made_items P_made_items
section
variable {P : Program} {w : World} {K : PySem.W.Frag} {mg : Str → Option Value} {base : Heap} {C_ArchiveError C_InvalidScript c_taken_items c_made_items P_taken_items P_made_items : Addr} [TBS : Tbs base mg c_taken_items c_made_items P_taken_items P_made_items]
/-- the cell's promise -/
def spCell (K : PySem.W.Frag) : Sp := fun vs H Q _ => ∃ (l : Addr) (ns : List Int) (k : Nat), vs = [.ref l, .int (k : Int)] ∧ SqL K H l (ns.map V.int) ∧ Q (.int (cell ns k)) H
theorem ok__law_cell (T : Txt K mg C_ArchiveError C_InvalidScript c_taken_items c_made_items P_taken_items P_made_items) : Ok P w K mg base CX0 1 "_law_cell" ["script", "k"] (spCell K) := by
  refine ok_of T.d__law_cell fun f fd F => F.ok sc__law_cell (fun vs H Q E h => ?_) (fun cdv A outer s H vs Q E hr h => ?_)
  · obtain ⟨l, ns, k, rfl, _⟩ := h
    rfl
  · obtain ⟨l, ns, k, rfl, hs, q⟩ := h
    refine ⟨_,       (pss_cons (ps_if (pt_cmpR op_lt (pv 1) (pe_callB call_len_seq (by rfl) T.n_len PySem.boot_len (pa_cons (pv 0) pa_nil)) (nomark _))
        (pss_one (ps_ret (pe_callTy call_int1 (by rfl) T.n_int (by decide +kernel) (pa_cons (pe_ix ix_list (pv 0) (pv 1) (fun _ _ => rfl)) pa_nil)))) pss_nil)
      (pss_one (ps_ret pe_int))), ?_⟩
    refine ⟨_, rfl, _, rfl, l, _, rfl, .inl hs, _, _, rfl, rfl, _, rfl, itd (fun h => ?_) (fun h => ?_)⟩
    · have hk : k < ns.length := by
        rw [List.length_map] at h
        omega
      refine ⟨_, rfl, _, rfl, l, _, _, .int ns[k], rfl, rfl, hs, atI_nat (by rw [List.getElem?_map, List.getElem?_eq_getElem hk]; rfl), .inl ⟨_, rfl, ?_⟩⟩
      rw [Cm.cell_in hk] at q
      exact q
    · have hk : ¬ k < ns.length := by
        rw [List.length_map] at h
        omega
      rw [Cm.cell_out hk] at q
      exact q

def mixI (c k : Int) : Int := ((c * 48271 + k * 69621 + 12345) % 2147483647 * 16807 + k * 40692 + 777) % 2147483629 / 997
def spMix : Sp := fun vs H Q _ => ∃ c k : Int, vs = [.int c, .int k] ∧ Q (.int (mixI c k)) H
theorem ok__law_mix (T : Txt K mg C_ArchiveError C_InvalidScript c_taken_items c_made_items P_taken_items P_made_items) : Ok P w K mg base CX0 1 "_law_mix" ["cell", "k"] spMix := by
  refine ok_of T.d__law_mix fun f fd F => F.ok sc__law_mix (fun vs H Q E h => ?_) (fun cdv A outer s H vs Q E hr h => ?_)
  · obtain ⟨c, k, rfl, _⟩ := h
    rfl
  · obtain ⟨c, k, rfl, q⟩ := h
    have nd := sc__law_mix.nd
    refine ⟨_,       (pss_cons (ps_set (i := 2) nd rfl (Or.inl rfl) (pe_op op_mod (pe_callTy call_int1 (by rfl) T.n_int (by decide +kernel) (pa_cons (pe_op op_add (pe_op op_add (pe_op op_mul (pv 0) pe_int) (pe_op op_mul (pv 1) pe_int)) pe_int) pa_nil)) pe_int))
      (pss_cons (ps_set (i := 2) nd rfl (Or.inl rfl) (pe_op op_mod (pe_callTy call_int1 (by rfl) T.n_int (by decide +kernel) (pa_cons (pe_op op_add (pe_op op_add (pe_op op_mul (pv 2) pe_int) (pe_op op_mul (pv 1) pe_int)) pe_int) pa_nil)) pe_int))
      (pss_one (ps_ret (pe_op op_fdiv (pv 2) pe_int))))), ?_⟩
    refine ⟨_, rfl, _, _, rfl, rfl, .inr (by decide), _, rfl, _, _, rfl, rfl, .inr (by decide), _, _, rfl, rfl, _, _, rfl, rfl, .inl ⟨_, rfl, _, _, rfl, rfl, (by show (0 : Int) < 2147483647; decide), ?_⟩⟩
    refine ⟨_, rfl, _, _, rfl, rfl, .inr (by decide), _, rfl, _, _, rfl, rfl, .inr (by decide), _, _, rfl, rfl, _, _, rfl, rfl, .inl ⟨_, rfl, _, _, rfl, rfl, (by show (0 : Int) < 2147483629; decide), ?_⟩⟩
    exact ⟨_, rfl, _, _, rfl, rfl, ⟨by decide, by decide⟩, q⟩

def divs : Nat → Int → Int → Int
  | 0, x, _ => x
  | k + 1, x, b => divs k x b / b
def rowAt (c : Int) (b : Int) (k : Nat) : Int := if 1000000000000000000 ≤ (if c < 0 then -c else c) then divs k (if c < 0 then -c else c) b % b else mixI c k % b
/-- the digits of a cell, or its mixture -/
def rowL (c : Int) (n : Nat) (b : Int) : List Int := (List.range n).map (rowAt c b)
theorem rowL_len (c : Int) (n : Nat) (b : Int) : (rowL c n b).length = n := by simp [rowL]
theorem rowL_in {c : Int} {n : Nat} {b x : Int} (hb : 0 < b) (h : x ∈ rowL c n b) : 0 ≤ x ∧ x < b := by
  obtain ⟨k, _, rfl⟩ := List.mem_map.mp h
  have z : ∀ y : Int, 0 ≤ y % b ∧ y % b < b := fun y => ⟨Int.emod_nonneg _ (by omega), Int.emod_lt_of_pos _ hb⟩
  by_cases hc : 1000000000000000000 ≤ (if c < 0 then -c else c)
  · rw [rowAt, if_pos hc]
    exact z _
  · rw [rowAt, if_neg hc]
    exact z _
theorem rowL_succ (c : Int) (n : Nat) (b : Int) : rowL c (n + 1) b = rowL c n b ++ [rowAt c b n] := by simp [rowL, List.range_succ]
def spRow : Sp := fun vs H Q _ => ∃ (c : Int) (n : Nat) (b : Int), vs = [.int c, .int (n : Int), .int b] ∧ n ≤ 60000 ∧ 0 < b ∧ b < 1073741824 ∧ ∀ p H', H p = none → Same H H' → H' p = some (.lst ((rowL c n b).map V.int)) → Q (.ref p) H'
theorem ok__law_row (T : Txt K mg C_ArchiveError C_InvalidScript c_taken_items c_made_items P_taken_items P_made_items) : Ok P w K mg base CX0 2 "_law_row" ["cell", "count", "bound"] spRow := by
  have G__law_mix := ok__law_mix (P := P) (w := w) (base := base) T
  refine ok_of T.d__law_row fun f fd F => F.ok sc__law_row (fun vs H Q E h => ?_) (fun cdv A outer s H vs Q E hr h => ?_)
  · obtain ⟨c, n, b, rfl, _⟩ := h
    rfl
  · obtain ⟨c, n, b, rfl, hn, hb0, hb1, kQ⟩ := h
    have nd := sc__law_row.nd
    refine ⟨_,       (pss_cons (ps_set (i := 3) nd rfl (Or.inl rfl) (pe_lst pa_nil))
      (pss_cons (ps_set (i := 4) nd rfl (Or.inl rfl) (pe_callB call_abs (by rfl) T.n_abs (by decide +kernel) (pa_cons (pv 0) pa_nil)))
      (pss_cons (ps_for PassesOwn.never rfl (pi_range1 rfl T.n_range (pa_cons (pv 1) pa_nil)) (pg_name (i := 5) nd rfl (Or.inl rfl))
        (pss_one (ps_if (pt_cmpR op_ge (pe_callB call_abs (by rfl) T.n_abs (by decide +kernel) (pa_cons (pv 0) pa_nil)) pe_int (nomark _))
          (pss_cons (ps_expr (pe_bm PySem.F.plainAttrs_list PySem.F.slot_list_append PySem.F.type_list_append mt_append (pv 3) (pa_cons (pe_op op_mod (pe_callTy call_int1 (by rfl) T.n_int (by decide +kernel) (pa_cons (pv 4) pa_nil)) (pv 2)) pa_nil)))
          (pss_one (ps_set (i := 4) nd rfl (Or.inl rfl) (pe_op op_fdiv (pv 4) (pv 2)))))
          (pss_one (ps_expr (pe_bm PySem.F.plainAttrs_list PySem.F.slot_list_append PySem.F.type_list_append mt_append (pv 3) (pa_cons (pe_op op_mod (pe_callTy call_int1 (by rfl) T.n_int (by decide +kernel) (pa_cons (pe_callO G__law_mix (hr.mono (by decide)) pass0 (pa_cons (pv 0) (pa_cons (pv 5) pa_nil))) pa_nil)) (pv 2)) pa_nil)))))))
      (pss_one (ps_ret (pv 3)))))), ?_⟩
    refine ⟨by decide, fun p hp => ⟨_, rfl, _, rfl, ?_⟩⟩
    refine ⟨_, rfl, (n : Int), rfl, by omega, by omega, for_range (lo := 0) (n := (n : Int).toNat) (fun i σ H' => ∃ (r : Int) (v : Option V), (1000000000000000000 ≤ (if c < 0 then -c else c) → r = divs i (if c < 0 then -c else c) b) ∧ σ = [some (.int c), some (.int (n : Int)), some (.int b), some (.ref p), some (.int r), v] ∧ Same H H' ∧ H' p = some (.lst ((rowL c i b).map V.int))) ⟨_, none, fun _ => rfl, rfl, same_upd hp, upd_same⟩ ?_ ?_⟩
    · rintro i σ H' hi ⟨r, v, hr', rfl, e, hL⟩
      have ei : (0 : Int) + (i : Int) = (i : Int) := by omega
      have hsz : ((rowL c i b).map V.int).length < sizeLine := small (by rw [List.length_map, rowL_len]; omega)
      refine ⟨_, rfl, _, rfl, _, _, rfl, rfl, _, rfl, itd (fun h => ?_) (fun h => ?_)⟩
      · refine ⟨_, rfl, .inl ⟨rfl, _, SqL.of hL⟩, _, rfl, .inl ⟨_, rfl, _, rfl, _, _, rfl, rfl, hb0, p, _, _, rfl, rfl, hL, hsz, ?_⟩⟩
        refine ⟨_, rfl, _, rfl, _, _, rfl, rfl, ⟨hb0, hb1⟩, ?_⟩
        refine ⟨r / b, _, fun z => ?_, rfl, same_new e hp, ?_⟩
        · rw [hr' z]
          rfl
        · rw [upd_same, rowL_succ, rowAt, if_pos h, ← hr' h]
          simp
      · refine ⟨_, rfl, .inl ⟨rfl, _, SqL.of hL⟩, _, rfl, _, rfl, c, 0 + (i : Int), rfl, .inl ⟨_, rfl, _, rfl, _, _, rfl, rfl, hb0, p, _, _, rfl, rfl, hL, hsz, ?_⟩⟩
        refine ⟨r, _, fun z => absurd z h, rfl, same_new e hp, ?_⟩
        rw [upd_same, rowL_succ, rowAt, if_neg h, ei]
        simp
    · rintro σ H' ⟨r, v, _, rfl, e, hL⟩
      refine ⟨_, rfl, kQ p _ hp e ?_⟩
      rw [Int.toNat_natCast] at hL
      exact hL

/-! ### edit scripts: steps, and how they lie in the heap -/
inductive Step where
  | keep (n : Nat)
  | drop (n : Nat)
  | add (xs : List Int)
  deriving DecidableEq
def StepAt (K : PySem.W.Frag) (H : Hp) (v : V) : Step → Prop
  | .keep n => ∃ t, v = .ref t ∧ SqT K H t [.str "keep", .int (n : Int)]
  | .drop n => ∃ t, v = .ref t ∧ SqT K H t [.str "drop", .int (n : Int)]
  | .add xs => ∃ t u, v = .ref t ∧ SqT K H t [.str "add", .ref u] ∧ SqT K H u (xs.map V.int)
def ScrV (K : PySem.W.Frag) (H : Hp) (vs : List V) (ss : List Step) : Prop := Paired (StepAt K H) vs ss
def ScrAt (K : PySem.W.Frag) (H : Hp) (a : Addr) (ss : List Step) : Prop := ∃ vs, SqL K H a vs ∧ ScrV K H vs ss
theorem StepAt.keeps {K : PySem.W.Frag} {H H' : Hp} (e : ∀ t ys, SqT K H t ys → SqT K H' t ys) {v : V} : ∀ {s : Step}, StepAt K H v s → StepAt K H' v s
  | .keep _, ⟨t, h1, h2⟩ => ⟨t, h1, e _ _ h2⟩
  | .drop _, ⟨t, h1, h2⟩ => ⟨t, h1, e _ _ h2⟩
  | .add _, ⟨t, u, h1, h2, h3⟩ => ⟨t, u, h1, e _ _ h2, e _ _ h3⟩
theorem ScrV.keeps {K : PySem.W.Frag} {H H' : Hp} (e : ∀ t ys, SqT K H t ys → SqT K H' t ys) : ∀ {vs : List V} {ss : List Step}, ScrV K H vs ss → ScrV K H' vs ss
  | _, _, .nil => .nil
  | _, _, .cons h r => .cons (h.keeps e) (ScrV.keeps e r)
theorem itn {p A B : Prop} [Decidable p] (h1 : ¬ p → A) (h2 : p → B) : if (!decide p) = true then A else B := by
  by_cases h : p
  · rw [decide_eq_true h]
    exact iteF (h2 h)
  · rw [decide_eq_false h]
    exact iteT (h1 h)
theorem cut_fromG {xs : List V} {k : Nat} : cutV xs (some (k : Int)) none = xs.drop k := by
  unfold cutV
  have e : HT.sIx xs.length 0 (some (k : Int)) = min k xs.length := HT.sIx_nat _ _ k
  rw [e]
  simp only [HT.sIx]
  rw [List.take_of_length_le (by rw [List.length_drop]; exact Nat.le_refl _)]
  by_cases h : k ≤ xs.length
  · rw [Nat.min_eq_left h]
  · rw [Nat.min_eq_right (by omega), List.drop_of_length_le (Nat.le_refl _), List.drop_of_length_le (by omega)]
theorem sqT_same {K : PySem.W.Frag} {H H' : Hp} (e : Same H H') (t : Addr) (ys : List V) (h : SqT K H t ys) : SqT K H' t ys := Evl.ex_t e h
theorem sqT_sm {K : PySem.W.Frag} {H H' : Hp} (e : GX.Sm H H') (t : Addr) (ys : List V) (h : SqT K H t ys) : SqT K H' t ys := e.tup h
/-- a list that is rewritten moves no tuple -/
theorem sqT_lst {K : PySem.W.Frag} {H : Hp} {l : Addr} {xs ws : List V} (hl : H l = some (.lst xs)) (t : Addr) (ys : List V) (h : SqT K H t ys) : SqT K (upd H l (.lst ws)) t ys := by
  rcases h with (h | ⟨o, h⟩) | h
  · exact .inl (.inl (by rw [upd_ne (fun z => by rw [z, hl] at h; cases h)]; exact h))
  · exact .inl (.inr ⟨o, by rw [upd_ne (fun z => by rw [z, hl] at h; cases h)]; exact h⟩)
  · exact .inr h
theorem ScrV.length {K : PySem.W.Frag} {H : Hp} {vs : List V} {ss : List Step} (h : ScrV K H vs ss) : vs.length = ss.length := Paired.length h
def stepD : Step → PyData
  | .keep n => .tuple [.str "keep", .int (n : Int)]
  | .drop n => .tuple [.str "drop", .int (n : Int)]
  | .add xs => .tuple [.str "add", .tuple (xs.map PyData.int)]
theorem dp_step {K : PySem.W.Frag} {H : Hp} {v : V} : ∀ {s : Step}, StepAt K H v s → Dp K H v (stepD s)
  | .keep n, ⟨t, h1, h2⟩ => h1 ▸ .tup h2 (.cons (.str _) (.cons (.int _) .nil))
  | .drop n, ⟨t, h1, h2⟩ => h1 ▸ .tup h2 (.cons (.str _) (.cons (.int _) .nil))
  | .add xs, ⟨t, u, h1, h2, h3⟩ => h1 ▸ .tup h2 (.cons (.str _) (.cons (.tup h3 (dp_ints xs)) .nil))
theorem dp_steps {K : PySem.W.Frag} {H : Hp} : ∀ {vs : List V} {ss : List Step}, ScrV K H vs ss → DpAll K H vs (ss.map stepD)
  | _, _, .nil => .nil
  | _, _, .cons h r => .cons (dp_step h) (dp_steps r)
theorem dp_scr {K : PySem.W.Frag} {H : Hp} {a : Addr} {ss : List Step} (h : ScrAt K H a ss) : Dp K H (.ref a) (.list (ss.map stepD)) := by
  obtain ⟨vs, h1, h2⟩ := h
  exact .lst h1 (dp_steps h2)
theorem canLay_step (s : Step) : PyData.canLay0 (stepD s) = true := by
  cases s with
  | keep n => exact Bool.and_eq_true_iff.mpr ⟨by decide +kernel, by simp [PyData.canLayAll0, PyData.canLay0]⟩
  | drop n => exact Bool.and_eq_true_iff.mpr ⟨by decide +kernel, by simp [PyData.canLayAll0, PyData.canLay0]⟩
  | add xs =>
    refine Bool.and_eq_true_iff.mpr ⟨by decide +kernel, ?_⟩
    simp [PyData.canLayAll0, PyData.canLay0, Cm.canLayAll_ints]
theorem depth_step (s : Step) : PyData.depth (stepD s) ≤ 2 := by
  cases s with
  | keep n => simp [stepD, PyData.depth, PyData.depthAll]
  | drop n => simp [stepD, PyData.depth, PyData.depthAll]
  | add xs => simp [stepD, PyData.depth, PyData.depthAll, Cm.depthAll_ints]
theorem canLay_steps : ∀ ss : List Step, PyData.canLayAll0 (ss.map stepD) = true
  | [] => rfl
  | s :: ss => by
    show (PyData.canLay0 (stepD s) && PyData.canLayAll0 (ss.map stepD)) = true
    rw [canLay_step, canLay_steps ss]
    rfl
theorem depth_steps : ∀ ss : List Step, PyData.depthAll (ss.map stepD) ≤ 2
  | [] => by simp [PyData.depthAll]
  | s :: ss => by
    show max (PyData.depth (stepD s)) (PyData.depthAll (ss.map stepD)) ≤ 2
    have h1 := depth_step s
    have h2 := depth_steps ss
    omega
theorem shaped_steps (ss : List Step) : SeqAt.shaped (.list (ss.map stepD)) = true := by
  have h := depth_steps ss
  refine Bool.and_eq_true_iff.mpr ⟨canLay_steps ss, decide_eq_true ?_⟩
  show PyData.depthAll (ss.map stepD) + 1 ≤ 64
  omega
theorem shaped_old_steps (ns : List Int) (ss : List Step) : SeqAt.shaped (.tuple [.list (ns.map PyData.int), .list (ss.map stepD)]) = true := by
  have h := depth_steps ss
  refine Bool.and_eq_true_iff.mpr ⟨?_, decide_eq_true ?_⟩
  · show (PyData.canLayAll0 (ns.map PyData.int) && (PyData.canLayAll0 (ss.map stepD) && true)) = true
    rw [canLay_steps, Cm.canLayAll_ints]
    rfl
  · show max (PyData.depthAll (ns.map PyData.int) + 1) (max (PyData.depthAll (ss.map stepD) + 1) 0) + 1 ≤ 64
    rw [Cm.depthAll_ints]
    omega
theorem sm_put {H H2 : Hp} {l : Addr} {ws zs : List V} (e : GX.Sm H H2) (hl : H l = none) (h2 : H2 l = some (.lst ws)) : GX.Sm H (upd H2 l (.lst zs)) := by
  refine ⟨fun b o q n => ?_, fun P t => ?_⟩
  · rw [upd_ne (fun z => by rw [z, hl] at q; cases q)]
    exact e.keep _ _ q n
  · obtain ⟨ps, q, t2⟩ := e.tab _ t
    exact ⟨ps, by rw [upd_ne (fun z => by rw [z, h2] at q; cases q)]; exact q, t2⟩
theorem sm_mk {H H2 : Hp} {r : Addr} {o : HO} (e : GX.Sm H H2) (hr : H2 r = none) : GX.Sm H (upd H2 r o) := e.trans (GX.Sm.of (same_upd hr))
/-- how many old items a step takes, how many new items it makes -/
def Step.tk : Step → Nat
  | .keep n => n
  | .drop n => n
  | .add _ => 0
def Step.mk' : Step → Nat
  | .keep n => n
  | .drop _ => 0
  | .add xs => xs.length
def taken : List Step → Nat
  | [] => 0
  | s :: ss => s.tk + taken ss
theorem taken_app : ∀ (a b : List Step), taken (a ++ b) = taken a + taken b
  | [], b => by simp [taken]
  | s :: a, b => by
    show s.tk + taken (a ++ b) = s.tk + taken a + taken b
    rw [taken_app a b]
    omega
theorem taken_snoc (a : List Step) (s : Step) : taken (a ++ [s]) = taken a + s.tk := by
  rw [taken_app]
  rfl
theorem taken_take_le (ss : List Step) (i : Nat) : taken (ss.take i) ≤ taken ss := by
  have h := taken_app (ss.take i) (ss.drop i)
  rw [List.take_append_drop] at h
  omega
/-- what a step puts into the new list, the rest of the old one being o -/
def piece (o : List Int) : Step → List Int
  | .keep n => o.take n
  | .drop _ => []
  | .add xs => xs
def run (o : List Int) : List Step → List Int
  | [] => []
  | s :: ss => piece o s ++ run (o.drop s.tk) ss
theorem run_app : ∀ (a b : List Step) (o : List Int), run o (a ++ b) = run o a ++ run (o.drop (taken a)) b
  | [], b, o => by simp [run, taken]
  | s :: a, b, o => by
    show piece o s ++ run (o.drop s.tk) (a ++ b) = piece o s ++ run (o.drop s.tk) a ++ run (o.drop (s.tk + taken a)) b
    rw [run_app a b, List.drop_drop, List.append_assoc]
theorem run_snoc (a : List Step) (s : Step) (o : List Int) : run o (a ++ [s]) = run o a ++ piece (o.drop (taken a)) s := by
  rw [run_app]
  simp [run]
def Step.sz : Step → Nat
  | .keep n => n
  | .drop n => n
  | .add xs => xs.length
/-- what bounds a script -/
def Bd (m : Nat) (ss : List Step) : Prop := ∀ s ∈ ss, s.sz ≤ m
theorem piece_le (o : List Int) (s : Step) : (piece o s).length ≤ s.sz := by
  cases s with
  | keep n => simp only [piece, Step.sz, List.length_take]; omega
  | drop n => simp [piece]
  | add xs => simp [piece, Step.sz]
theorem run_le {m : Nat} : ∀ (ss : List Step) (o : List Int), Bd m ss → (run o ss).length ≤ ss.length * m
  | [], o, _ => by simp [run]
  | s :: ss, o, h => by
    have h1 := piece_le o s
    have h2 : s.sz ≤ m := h s List.mem_cons_self
    have h3 := run_le ss (o.drop s.tk) fun x hx => h x (List.mem_cons_of_mem _ hx)
    show (piece o s ++ run (o.drop s.tk) ss).length ≤ (ss.length + 1) * m
    rw [List.length_append, Nat.add_mul, Nat.one_mul]
    omega
theorem Bd.take {m : Nat} {ss : List Step} (h : Bd m ss) (i : Nat) : Bd m (ss.take i) := fun s hs => h s (List.mem_of_mem_take hs)
theorem Bd.drop {m : Nat} {ss : List Step} (h : Bd m ss) (i : Nat) : Bd m (ss.drop i) := fun s hs => h s (List.mem_of_mem_drop hs)
theorem Bd.app {m : Nat} {a b : List Step} (h1 : Bd m a) (h2 : Bd m b) : Bd m (a ++ b) := fun s hs => (List.mem_append.mp hs).elim (h1 s) (h2 s)
theorem Bd.one {m : Nat} {s : Step} (h : s.sz ≤ m) : Bd m [s] := fun x hx => by
  rw [List.mem_singleton.mp hx]
  exact h
theorem scr_get {K : PySem.W.Frag} {H : Hp} : ∀ {vs : List V} {ss : List Step} {i : Nat} {v : V}, ScrV K H vs ss → vs[i]? = some v → ∃ s, ss[i]? = some s ∧ StepAt K H v s
  | _, _, i, v, .nil, h => by simp at h
  | _, _, 0, v, .cons h r, e => by
    simp at e
    subst e
    exact ⟨_, rfl, h⟩
  | _, _, i + 1, v, .cons h r, e => by
    obtain ⟨s, h1, h2⟩ := scr_get r (by simpa using e)
    exact ⟨s, by simpa using h1, h2⟩
theorem ScrV.app {K : PySem.W.Frag} {H : Hp} : ∀ {a b : List V} {x y : List Step}, ScrV K H a x → ScrV K H b y → ScrV K H (a ++ b) (x ++ y)
  | _, _, _, _, .nil, h => h
  | _, _, _, _, .cons h r, h2 => .cons h (ScrV.app r h2)
theorem ScrV.take {K : PySem.W.Frag} {H : Hp} : ∀ {a : List V} {x : List Step} (i : Nat), ScrV K H a x → ScrV K H (a.take i) (x.take i)
  | _, _, 0, _ => by simp; exact Paired.nil
  | _, _, i + 1, .nil => by simp; exact Paired.nil
  | _, _, i + 1, .cons h r => .cons h (ScrV.take i r)
theorem ScrV.drop {K : PySem.W.Frag} {H : Hp} : ∀ {a : List V} {x : List Step} (i : Nat), ScrV K H a x → ScrV K H (a.drop i) (x.drop i)
  | _, _, 0, h => h
  | _, _, i + 1, .nil => by simp; exact Paired.nil
  | _, _, i + 1, .cons h r => ScrV.drop i r
theorem ScrV.set {K : PySem.W.Frag} {H : Hp} : ∀ {a : List V} {x : List Step} (i : Nat) {v : V} {s : Step}, ScrV K H a x → StepAt K H v s → ScrV K H (a.set i v) (x.set i s)
  | _, _, _, _, _, .nil, _ => by simp; exact Paired.nil
  | _, _, 0, _, _, .cons h r, h2 => .cons h2 r
  | _, _, i + 1, _, _, .cons h r, h2 => .cons h (ScrV.set i r h2)
theorem Bd.mono {m n : Nat} {ss : List Step} (h : Bd m ss) (le : m ≤ n) : Bd n ss := fun s hs => Nat.le_trans (h s hs) le
def tot : List Step → Nat
  | [] => 0
  | s :: ss => s.sz + tot ss
theorem tot_app : ∀ (a b : List Step), tot (a ++ b) = tot a + tot b
  | [], b => by simp [tot]
  | s :: a, b => by
    show s.sz + tot (a ++ b) = s.sz + tot a + tot b
    rw [tot_app a b]
    omega
theorem tot_snoc (a : List Step) (s : Step) : tot (a ++ [s]) = tot a + s.sz := by
  rw [tot_app]
  rfl
theorem tot_take_le (ss : List Step) (i : Nat) : tot (ss.take i) ≤ tot ss := by
  have h := tot_app (ss.take i) (ss.drop i)
  rw [List.take_append_drop] at h
  omega
theorem run_tot : ∀ (ss : List Step) (o : List Int), (run o ss).length ≤ tot ss
  | [], o => by simp [run, tot]
  | s :: ss, o => by
    have h1 := piece_le o s
    have h3 := run_tot ss (o.drop s.tk)
    show (piece o s ++ run (o.drop s.tk) ss).length ≤ s.sz + tot ss
    rw [List.length_append]
    omega
theorem tot_le {m : Nat} : ∀ {ss : List Step}, Bd m ss → tot ss ≤ ss.length * m
  | [], _ => by simp [tot]
  | s :: ss, h => by
    have h1 : s.sz ≤ m := h s List.mem_cons_self
    have h2 := tot_le (ss := ss) fun x hx => h x (List.mem_cons_of_mem _ hx)
    show s.sz + tot ss ≤ (ss.length + 1) * m
    rw [Nat.add_mul, Nat.one_mul]
    omega
def PosS (ss : List Step) : Prop := ∀ s ∈ ss, 0 < s.sz
theorem PosS.app {a b : List Step} (h1 : PosS a) (h2 : PosS b) : PosS (a ++ b) := fun s hs => (List.mem_append.mp hs).elim (h1 s) (h2 s)
theorem PosS.one {s : Step} (h : 0 < s.sz) : PosS [s] := fun x hx => by
  rw [List.mem_singleton.mp hx]
  exact h

theorem cut_midG {xs : List V} {j k : Nat} (h : j ≤ k) : cutV xs (some (j : Int)) (some (k : Int)) = (xs.drop j).take (k - j) := by
  unfold cutV
  have e1 : HT.sIx xs.length 0 (some (j : Int)) = min j xs.length := HT.sIx_nat _ _ j
  have e2 : HT.sIx xs.length xs.length (some (k : Int)) = min k xs.length := HT.sIx_nat _ _ k
  rw [e1, e2]
  by_cases h1 : j ≤ xs.length
  · rw [Nat.min_eq_left h1]
    by_cases h2 : k ≤ xs.length
    · rw [Nat.min_eq_left h2]
    · rw [Nat.min_eq_right (by omega), List.take_of_length_le (by rw [List.length_drop]; omega), List.take_of_length_le (by rw [List.length_drop]; omega)]
  · rw [List.drop_of_length_le (by omega), List.drop_of_length_le (by omega), List.take_nil, List.take_nil]
theorem cut_toG {xs : List V} {k : Nat} : cutV xs none (some (k : Int)) = xs.take k := by
  unfold cutV
  have e2 : HT.sIx xs.length xs.length (some (k : Int)) = min k xs.length := HT.sIx_nat _ _ k
  have e1 : HT.sIx xs.length 0 none = 0 := rfl
  rw [e1, e2, List.drop_zero, Nat.sub_zero]
  by_cases h2 : k ≤ xs.length
  · rw [Nat.min_eq_left h2]
  · rw [Nat.min_eq_right (by omega), List.take_of_length_le (Nat.le_refl _), List.take_of_length_le (by omega)]
theorem tru_l {K : PySem.W.Frag} {H : Hp} {p : Addr} {xs : List V} (h : SqL K H p xs) : TruV K (.ref p) H (!xs.isEmpty) := .inl ⟨xs, h, rfl⟩
theorem tru_t {K : PySem.W.Frag} {H : Hp} {p : Addr} {xs : List V} (h : SqT K H p xs) : TruV K (.ref p) H (!xs.isEmpty) := .inr (.inl ⟨xs, h, rfl⟩)
theorem ne_noG {d e : PyData} {A B : Prop} (h : PyData.eqv d e = true) (hb : B) : ∃ k, V.bl (!PyData.eqv d e) = V.bl k ∧ if k = true then A else B := ⟨_, rfl, by rw [h]; exact iteF hb⟩
theorem nm_noG {x y : V} {A B : Prop} (h : x = y) (hb : B) : ∃ k, V.bl (!decide (x = y)) = V.bl k ∧ if k = true then A else B := ⟨_, rfl, by rw [h]; simpa using hb⟩
theorem if_ff {A B : Prop} (h : B) : if (true = false) then A else B := by
  rw [if_neg (by decide)]
  exact h
theorem if_tf {A B : Prop} (h : A) : if (false = false) then A else B := by
  rw [if_pos rfl]
  exact h

def spTakenBy (K : PySem.W.Frag) : Sp := fun vs H Q _ => ∃ (v : V) (s : Step), vs = [v] ∧ StepAt K H v s ∧ Q (.int (s.tk : Int)) H
theorem ok__taken_by (T : Txt K mg C_ArchiveError C_InvalidScript c_taken_items c_made_items P_taken_items P_made_items) : Ok P w K mg base CX0 1 "_taken_by" ["step"] (spTakenBy K) := by
  refine ok_of T.d__taken_by fun f fd F => F.ok sc__taken_by (fun vs H Q E h => ?_) (fun cdv A outer s H vs Q E hr h => ?_)
  · obtain ⟨v, s, rfl, _⟩ := h
    rfl
  · obtain ⟨v, s, rfl, hs, q⟩ := h
    have nd := sc__taken_by.nd
    refine ⟨_,       (pss_cons (ps_asg (pv 0) (pg_tup rfl (pgs_cons (pg_name (i := 1) nd rfl (Or.inl rfl)) (pgs_cons (pg_name (i := 2) nd rfl (Or.inl rfl)) pgs_nil))))
      (pss_one (ps_ret (pe_ifExp (pt_cmpR op_eq (pv 1) pe_str (nomark _)) pe_int (pv 2))))), ?_⟩
    cases s with
    | keep n =>
      obtain ⟨t, rfl, hT⟩ := hs
      exact ⟨_, rfl, t, _, rfl, hT, rfl, _, _, rfl, _, _, rfl, rfl, _, rfl, rfl, _, rfl, itd (fun h => absurd h (by decide)) (fun _ => ⟨_, rfl, q⟩)⟩
    | drop n =>
      obtain ⟨t, rfl, hT⟩ := hs
      exact ⟨_, rfl, t, _, rfl, hT, rfl, _, _, rfl, _, _, rfl, rfl, _, rfl, rfl, _, rfl, itd (fun h => absurd h (by decide)) (fun _ => ⟨_, rfl, q⟩)⟩
    | add xs =>
      obtain ⟨t, u, rfl, hT, _⟩ := hs
      exact ⟨_, rfl, t, _, rfl, hT, rfl, _, _, rfl, _, _, rfl, rfl, _, rfl, rfl, _, rfl, itd (fun _ => q) (fun h => absurd rfl h)⟩
def spTaken (K : PySem.W.Frag) (P_ : Addr) : Sp := fun vs H Q _ => ∃ (a : Addr) (ss : List Step), vs = [.ref a] ∧ ScrAt K H a ss ∧ GxR.TabG H P_ ∧ ∀ H', GX.Sm H H' → Q (.int (taken ss : Int)) H'
theorem ok_taken_items (T : Txt K mg C_ArchiveError C_InvalidScript c_taken_items c_made_items P_taken_items P_made_items) : Ok P w K mg base CX0 4 "taken_items" ["script"] (spTaken K P_taken_items) := by
  have G__taken_by := ok__taken_by (P := P) (w := w) (base := base) T
  refine GX.okc_of T.d_taken_items sc_taken_items (fun vs H Q E h => ?_) (fun f A outer s H vs Q E hr h => ?_)
  · obtain ⟨a, ss, rfl, _⟩ := h
    rfl
  · obtain ⟨a, ss, rfl, ⟨vs, hL, hV⟩, tb, q⟩ := h
    have nd := sc_taken_items.nd
    refine ⟨_,       (pss_one (ps_ret (GX.pe_sumG (k := 1) (own := [("step", 1)]) (ext := (["step"] : List Str)) (hr.mono (by decide)) (by rfl) T.n_sum TBS.t_taken_items rfl ⟨by show (N_taken_items ++ (["step"] : List Str)).Nodup; decide +kernel, blkOk_by (N := N_taken_items ++ (["step"] : List Str)) (sc := defScope s_taken_items) (by decide +kernel), rfl, by decide +kernel, rfl⟩ (pi_list (pv 0)) (fun _ _ _ _ _ => (pg_name (i := 1) (show (N_taken_items ++ (["step"] : List Str)).Nodup by decide +kernel) rfl (Or.inl rfl))) (fun _ _ _ _ _ rm => (pe_callO G__taken_by (rm.mono (by decide)) pass0 (pa_cons (pv 1) pa_nil)))))), ?_⟩
    refine ⟨_, rfl, a, rfl, ⟨_, hL⟩, tb, GX.sum_it walk_list (fun i t H' => GX.Sm H H' ∧ t = (taken (ss.take i) : Int)) (fun H2 t2 => ⟨GX.Sm.tabbed tb t2, by simp [taken]⟩) (fun i t H' _ h => h.1.seq hL) ?_ ?_⟩
    · rintro i t x H1 H2 hi ⟨e1, rfl⟩ ⟨rfl, hx⟩
      obtain ⟨s, hs, hA⟩ := scr_get hV hx
      refine ⟨_, rfl, _, s, rfl, hA.keeps (sqT_sm e1), _, rfl, e1, ?_⟩
      obtain ⟨hlt, rfl⟩ := List.getElem?_eq_some_iff.mp hs
      rw [take_snoc hlt, taken_snoc]
      omega
    · rintro t H' ⟨e, rfl⟩
      rw [hV.length, List.take_length]
      exact q H' e
def spCheckFit (K : PySem.W.Frag) (P_ C : Addr) : Sp := fun vs H Q E => ∃ (a : Addr) (ss : List Step) (n : Nat), vs = [.ref a, .int (n : Int)] ∧ ScrAt K H a ss ∧ GxR.TabG H P_ ∧ (taken ss ≠ n → ∀ H', GX.Sm H H' → E (.ref C) none H') ∧ (taken ss = n → ∀ H', GX.Sm H H' → Q .non H')
theorem ok_check_fit (T : Txt K mg C_ArchiveError C_InvalidScript c_taken_items c_made_items P_taken_items P_made_items) : Ok P w K mg base (CXN P w) 5 "check_fit" ["script", "length"] (spCheckFit K P_taken_items C_InvalidScript) := by
  have G_taken_items := ok_taken_items (P := P) (w := w) (base := base) T
  refine ok_of T.d_check_fit fun f fd F => okN F sc_check_fit (fun vs H Q E h => ?_) (fun cdv A outer s H vs Q E hr h => ?_)
  · obtain ⟨a, ss, n, rfl, _⟩ := h
    rfl
  · obtain ⟨a, ss, n, rfl, hS, tb, kE, kQ⟩ := h
    have nd := sc_check_fit.nd
    refine ⟨_,       (pss_one (ps_if (pt_cmpR op_ne (pe_callO G_taken_items (hr.mono (by decide)) pass0 (pa_cons (pv 0) pa_nil)) (pv 1) (nomark _))
        (pss_one (L2N.ps_raise rfl (L2N.takes_of rfl rfl rfl rfl) (L2N.pmk_own PySem.F.excBase_ValueError T.x_InvalidScript.x T.x_InvalidScript.g T.x_InvalidScript.k (raises_own T.x_InvalidScript.b T.x_InvalidScript.t) rfl))) pss_nil)), ?_⟩
    refine ⟨_, rfl, a, ss, rfl, hS, tb, fun H' e => ⟨_, rfl, rfl, _, rfl, itn (fun h => kE (fun z => h (by rw [z])) H' e) (fun h => kQ (by injection h with h; omega) H' e)⟩⟩

-- @@CUT
def spItems : Sp := fun vs H Q _ => ∃ (c : Int) (n : Nat), vs = [.int c, .int (n : Int)] ∧ n ≤ 60000 ∧ ∀ p H' (xs : List Int), H p = none → Same H H' → H' p = some (.lst (xs.map V.int)) → xs.length = n → Q (.ref p) H'
theorem ok__law_items (T : Txt K mg C_ArchiveError C_InvalidScript c_taken_items c_made_items P_taken_items P_made_items) : Ok P w K mg base CX0 3 "_law_items" ["cell", "size"] spItems := by
  have G__law_row := ok__law_row (P := P) (w := w) (base := base) T
  refine ok_of T.d__law_items fun f fd F => F.ok sc__law_items (fun vs H Q E h => ?_) (fun cdv A outer s H vs Q E hr h => ?_)
  · obtain ⟨c, n, rfl, _⟩ := h
    rfl
  · obtain ⟨c, n, rfl, hn, kQ⟩ := h
    have nd := sc__law_items.nd
    refine ⟨_,       (pss_cons (ps_set (i := 2) nd rfl (Or.inl rfl) (pe_ix ix_tup (pe_tup (pa_cons pe_int (pa_cons pe_int (pa_cons pe_int pa_nil)))) (pe_op op_mod (pv 0) pe_int) (fun _ _ => rfl)))
      (pss_one (ps_ret (pe_callO G__law_row (hr.mono (by decide)) pass0 (pa_cons (pe_op op_fdiv (pv 0) pe_int) (pa_cons (pv 1) (pa_cons (pv 2) pa_nil))))))), ?_⟩
    refine ⟨(by show 3 ≤ sizeLine; decide), fun u hu => ?_⟩
    have z : c % 3 = 0 ∨ c % 3 = 1 ∨ c % 3 = 2 := by omega
    obtain ⟨b, hb0, hb1, hb⟩ : ∃ b : Int, 0 < b ∧ b < 1073741824 ∧ atI [V.int 2, V.int 3, V.int 256] (c % 3) = some (V.int b) := by
      rcases z with z | z | z
      · exact ⟨2, by decide, by decide, by rw [z]; rfl⟩
      · exact ⟨3, by decide, by decide, by rw [z]; rfl⟩
      · exact ⟨256, by decide, by decide, by rw [z]; rfl⟩
    refine ⟨_, rfl, _, _, rfl, rfl, (by show (0 : Int) < 3; decide), u, _, _, _, rfl, rfl, SqT.of upd_same, hb, ?_⟩
    refine ⟨_, rfl, _, _, rfl, rfl, ⟨by decide, by decide⟩, _, rfl, _, rfl, c / 3, n, b, rfl, hn, hb0, hb1, fun p H' hp e hL => ?_⟩
    exact kQ p H' _ (by
      cases q : H p with
      | none => rfl
      | some o =>
        have q2 := same_upd (o := .tup [V.int 2, V.int 3, V.int 256]) hu _ _ q
        rw [hp] at q2
        cases q2) ((same_upd hu).trans e) hL (rowL_len _ _ _)

def spScript (K : PySem.W.Frag) : Sp := fun vs H Q _ => ∃ (r b : Addr) (cs old : List Int), vs = [.ref r, .ref b] ∧ SqL K H r (cs.map V.int) ∧ SqL K H b (old.map V.int) ∧ cs.length ≤ 60 ∧ old.length ≤ 500 ∧
  ∀ c H' vs ss, H c = none → Same H H' → H' c = some (.lst vs) → ScrV K H' vs ss → ss.length ≤ cs.length + 1 → Bd (old.length + 4) ss → taken ss = old.length → PosS ss → Q (.ref c) H'
theorem ok__law_script (T : Txt K mg C_ArchiveError C_InvalidScript c_taken_items c_made_items P_taken_items P_made_items) : Ok P w K mg base CX0 4 "_law_script" ["cells", "old"] (spScript K) := by
  have G__law_items := ok__law_items (P := P) (w := w) (base := base) T
  refine ok_of T.d__law_script fun f fd F => F.ok sc__law_script (fun vs H Q E h => ?_) (fun cdv A outer s H vs Q E hr h => ?_)
  · obtain ⟨r, b, cs, old, rfl, _⟩ := h
    rfl
  · obtain ⟨r, b, cs, old, rfl, hr1, hb, hc, ho, kQ⟩ := h
    have nd := sc__law_script.nd
    refine ⟨_,       (pss_cons (ps_set (i := 2) nd rfl (Or.inl rfl) (pe_lst pa_nil))
      (pss_cons (ps_set (i := 3) nd rfl (Or.inl rfl) (pe_callB call_len_seq (by rfl) T.n_len PySem.boot_len (pa_cons (pv 1) pa_nil)))
      (pss_cons (ps_for PassesOwn.never rfl (pi_list (pv 0)) (pg_name (i := 4) nd rfl (Or.inl rfl))
        (pss_cons (ps_set (i := 5) nd rfl (Or.inl rfl) (pe_op op_mod (pv 4) pe_int))
        (pss_one (ps_if (pt_cmpR op_eq (pv 5) pe_int (nomark _))
          (pss_one (ps_expr (pe_bm PySem.F.plainAttrs_list PySem.F.slot_list_append PySem.F.type_list_append mt_append (pv 2) (pa_cons (pe_tup (pa_cons pe_str (pa_cons (pe_callTy call_tuple_of (by rfl) T.n_tuple (by decide +kernel) (pa_cons (pe_callO G__law_items (hr.mono (by decide)) pass0 (pa_cons (pe_op op_fdiv (pv 4) pe_int) (pa_cons (pe_op op_add pe_int (pe_op op_mod (pe_op op_fdiv (pv 4) pe_int) pe_int)) pa_nil))) pa_nil)) pa_nil))) pa_nil))))
          (pss_one (ps_if (pt_cmpR op_gt (pv 3) pe_int (nomark _))
            (pss_cons (ps_set (i := 6) nd rfl (Or.inl rfl) (pe_op op_add pe_int (pe_op op_mod (pe_op op_fdiv (pv 4) pe_int) (pe_callB (call_min2 rfl) (by rfl) T.n_min (by decide +kernel) (pa_cons (pv 3) (pa_cons pe_int pa_nil))))))
            (pss_cons (ps_expr (pe_bm PySem.F.plainAttrs_list PySem.F.slot_list_append PySem.F.type_list_append mt_append (pv 2) (pa_cons (pe_tup (pa_cons (pe_ix ix_tup (pe_tup (pa_cons pe_str (pa_cons pe_str pa_nil))) (pv 5) (fun _ _ => rfl)) (pa_cons (pv 6) pa_nil))) pa_nil)))
            (pss_one (ps_set (i := 3) nd rfl (Or.inl rfl) (pe_op op_sub (pv 3) (pv 6)))))) pss_nil))))))
      (pss_cons (ps_if (pt_cmpR op_gt (pv 3) pe_int (nomark _))
        (pss_one (ps_expr (pe_bm PySem.F.plainAttrs_list PySem.F.slot_list_append PySem.F.type_list_append mt_append (pv 2) (pa_cons (pe_tup (pa_cons pe_str (pa_cons (pv 3) pa_nil))) pa_nil)))) pss_nil)
      (pss_one (ps_ret (pv 2))))))), ?_⟩
    refine ⟨by decide, fun l hl => ?_⟩
    refine ⟨_, rfl, b, _, rfl, .inl ((same_upd hl).seq hb), ?_⟩
    refine ⟨_, rfl, r, rfl, ⟨_, (same_upd hl).seq hr1⟩, for_list (K := K) (a := r) (xs := cs.map V.int) (fun i σ H' => ∃ (left : Nat) (ss : List Step) (ws : List V) (v4 v5 v6 : Option V), Same H H' ∧ H' l = some (.lst ws) ∧ ScrV K H' ws ss ∧ ss.length ≤ i ∧ (Bd (old.length + 4) ss ∧ PosS ss) ∧ taken ss + left = old.length ∧ σ = [some (.ref r), some (.ref b), some (.ref l), some (.int (left : Int)), v4, v5, v6])
      ⟨old.length, [], [], none, none, none, same_upd hl, upd_same, .nil, Nat.le_refl _, ⟨fun _ h => (nomatch h), fun _ h => (nomatch h)⟩, by simp [taken], by rw [List.length_map]; rfl⟩ (fun i σ H' _ ⟨_, _, _, _, _, _, e, _⟩ => e.seq hr1) ?_ ?_⟩
    · rintro i x σ H1 hx ⟨left, ss, ws, v4, v5, v6, e1, hL, hV, hsl, hbd, htk, rfl⟩
      obtain ⟨hi, rfl⟩ := get_ints hx
      have hsz : ws.length < sizeLine := small (by rw [hV.length]; omega)
      refine ⟨_, rfl, _, _, rfl, rfl, (by show (0 : Int) < 3; decide), ?_⟩
      refine ⟨_, rfl, rfl, _, rfl, itd (fun hk => ?_) (fun hk => ?_)⟩
      · obtain ⟨n, hn, hn4, hn1⟩ : ∃ n : Nat, (1 : Int) + cs[i] / 9 % 4 = (n : Int) ∧ n ≤ 4 ∧ 1 ≤ n := ⟨((1 : Int) + cs[i] / 9 % 4).toNat, by omega, by omega, by omega⟩
        refine ⟨_, rfl, .inl ⟨rfl, _, SqL.of hL⟩, _, rfl, _, _, rfl, rfl, ⟨by decide, by decide⟩, _, rfl, _, _, rfl, rfl, ⟨by decide, by decide⟩, _, _, rfl, rfl, (by show (0 : Int) < 4; decide), _, _, rfl, rfl, cs[i] / 3, n, (by show [V.int (cs[i] / 3), V.int (1 + cs[i] / 9 % 4)] = _; rw [hn]), by omega, fun p H2 xs hp e2 hP hxs => ?_⟩
        refine ⟨p, _, rfl, .inl ⟨SqL.of hP, fun t ht => ?_⟩⟩
        have et := same_upd (o := .tup (xs.map V.int)) ht
        refine ⟨(by show 2 ≤ sizeLine; decide), fun u hu => ?_⟩
        have eu := same_upd (o := .tup [V.str "add", V.ref t]) hu
        have e3 := (e2.trans et).trans eu
        have hL3 := e3 _ _ hL
        have hT3 : SqT K (upd (upd H2 t (.tup (xs.map V.int))) u (.tup [V.str "add", V.ref t])) u [V.str "add", V.ref t] := SqT.of upd_same
        have hX3 : SqT K (upd (upd H2 t (.tup (xs.map V.int))) u (.tup [V.str "add", V.ref t])) t (xs.map V.int) := SqT.of (eu _ _ upd_same)
        refine ⟨l, _, _, rfl, rfl, hL3, hsz, left, ss ++ [.add xs], ws ++ [.ref u], some (.int cs[i]), some (.int (cs[i] % 3)), v6, same_new (e1.trans e3) hl, upd_same, ?_, ?_, ?_, ?_, rfl⟩
        · have hA : StepAt K (upd (upd H2 t (.tup (xs.map V.int))) u (.tup [V.str "add", V.ref t])) (.ref u) (.add xs) := ⟨u, t, rfl, hT3, hX3⟩
          exact (ScrV.app (hV.keeps (sqT_same e3)) (.cons hA .nil)).keeps (sqT_lst hL3)
        · rw [List.length_append, List.length_singleton]
          omega
        · exact ⟨hbd.1.app (Bd.one (by show xs.length ≤ old.length + 4; omega)), hbd.2.app (PosS.one (by show 0 < xs.length; omega))⟩
        · rw [taken_snoc]
          simp only [Step.tk]
          omega
      · refine ⟨_, rfl, _, _, rfl, rfl, _, rfl, itd (fun hp => ?_) (fun hp => ⟨left, ss, ws, _, _, _, e1, hL, hV, by omega, hbd, htk, rfl⟩)⟩
        have hmin : (if (5 : Int) < (left : Int) then (5 : Int) else (left : Int)) ≤ (left : Int) ∧ 0 < (if (5 : Int) < (left : Int) then (5 : Int) else (left : Int)) := by split <;> omega
        have hm1 := Int.emod_nonneg (cs[i] / 3) (b := (if (5 : Int) < (left : Int) then (5 : Int) else (left : Int))) (by omega)
        have hm2 := Int.emod_lt_of_pos (cs[i] / 3) hmin.2
        generalize hM : (if (5 : Int) < (left : Int) then (5 : Int) else (left : Int)) = M at hmin hm1 hm2
        obtain ⟨n, hn⟩ : ∃ n : Nat, 1 + cs[i] / 3 % M = (n : Int) := ⟨(1 + cs[i] / 3 % M).toNat, by omega⟩
        have z : cs[i] % 3 = 0 ∨ cs[i] % 3 = 1 := by
          have h2 : cs[i] % 3 ≠ 2 := fun z => hk (by show V.int (cs[i] % 3) = V.int 2; rw [z])
          omega
        refine ⟨_, rfl, _, _, rfl, rfl, ⟨by decide, by decide⟩, _, rfl, _, _, rfl, ?_⟩
        rw [hM]
        refine ⟨_, _, rfl, rfl, hmin.2, _, _, rfl, rfl, ?_⟩
        dsimp only
        rw [hn]
        refine ⟨_, rfl, .inl ⟨rfl, _, SqL.of hL⟩, (by show 2 ≤ sizeLine; decide), fun u hu => ?_⟩
        obtain ⟨wd, st, hwd, hst, hz⟩ : ∃ (wd : Str) (st : Step), atI [V.str "keep", V.str "drop"] (cs[i] % 3) = some (V.str wd) ∧ (st.tk = n ∧ st.sz = n) ∧ (∀ (H' : Hp) (t : Addr), SqT K H' t [V.str wd, V.int (n : Int)] → StepAt K H' (.ref t) st) := by
          rcases z with z | z
          · exact ⟨"keep", .keep n, by rw [z]; rfl, ⟨rfl, rfl⟩, fun H' t h => ⟨t, rfl, h⟩⟩
          · exact ⟨"drop", .drop n, by rw [z]; rfl, ⟨rfl, rfl⟩, fun H' t h => ⟨t, rfl, h⟩⟩
        refine ⟨_, rfl, u, _, _, _, rfl, rfl, SqT.of upd_same, hwd, _, rfl, (by show 2 ≤ sizeLine; decide), fun t ht => ?_⟩
        have e3 : Same H1 (upd (upd H1 u (.tup [V.str "keep", V.str "drop"])) t (.tup [V.str wd, V.int (n : Int)])) := (same_upd hu).trans (same_upd ht)
        have hL3 := e3 _ _ hL
        refine ⟨l, _, _, rfl, rfl, hL3, hsz, _, rfl, _, rfl, _, _, rfl, rfl, left - n, ss ++ [st], ws ++ [.ref t], some (.int cs[i]), some (.int (cs[i] % 3)), some (.int (n : Int)), same_new (e1.trans e3) hl, upd_same, ?_, ?_, ?_, ?_, ?_⟩
        · exact (ScrV.app (hV.keeps (sqT_same e3)) (.cons (hz _ _ (SqT.of upd_same)) .nil)).keeps (sqT_lst hL3)
        · rw [List.length_append, List.length_singleton]
          omega
        · exact ⟨hbd.1.app (Bd.one (by omega)), hbd.2.app (PosS.one (by omega))⟩
        · rw [taken_snoc]
          omega
        · show [_, _, _, some (V.int ((left : Int) - (n : Int))), _, _, _] = _
          rw [show ((left : Int) - (n : Int)) = ((left - n : Nat) : Int) by omega]
    · rintro σ H1 ⟨left, ss, ws, v4, v5, v6, e1, hL, hV, hsl, hbd, htk, rfl⟩
      rw [List.length_map] at hsl
      refine ⟨_, rfl, _, _, rfl, rfl, _, rfl, itd (fun hp => ?_) (fun hp => ?_)⟩
      · refine ⟨_, rfl, .inl ⟨rfl, _, SqL.of hL⟩, _, rfl, (by show 2 ≤ sizeLine; decide), fun t ht => ?_⟩
        have e3 := same_upd (o := .tup [V.str "keep", V.int (left : Int)]) ht
        have hL3 := e3 _ _ hL
        refine ⟨l, _, _, rfl, rfl, hL3, small (by rw [hV.length]; omega), ?_⟩
        refine ⟨_, rfl, kQ l _ _ (ss ++ [.keep left]) hl (same_new (e1.trans e3) hl) upd_same ?_ ?_ ?_ ?_ ?_⟩
        · have hA : StepAt K (upd H1 t (.tup [V.str "keep", V.int (left : Int)])) (.ref t) (.keep left) := ⟨t, rfl, SqT.of upd_same⟩
          exact (ScrV.app (hV.keeps (sqT_same e3)) (.cons hA .nil)).keeps (sqT_lst hL3)
        · rw [List.length_append, List.length_singleton]
          omega
        · exact hbd.1.app (Bd.one (by show left ≤ old.length + 4; omega))
        · rw [taken_snoc]
          exact htk
        · exact hbd.2.app (PosS.one (by show 0 < left; omega))
      · exact ⟨_, rfl, kQ l _ _ ss hl e1 hL hV (by omega) hbd.1 (by omega) hbd.2⟩

def spPatchL (K : PySem.W.Frag) : Sp := fun vs H Q _ => ∃ (b c : Addr) (old : List Int) (ss : List Step), vs = [.ref b, .ref c] ∧ SqL K H b (old.map V.int) ∧ ScrAt K H c ss ∧ tot ss ≤ 40000 ∧ (taken ss ≠ old.length → ∀ H', Same H H' → Q .non H') ∧
  (taken ss = old.length → ∀ p H', Same H H' → H' p = some (.lst ((run old ss).map V.int)) → Q (.ref p) H')
theorem ok__law_patch (T : Txt K mg C_ArchiveError C_InvalidScript c_taken_items c_made_items P_taken_items P_made_items) : Ok P w K mg base CX0 1 "_law_patch" ["old", "script"] (spPatchL K) := by
  refine ok_of T.d__law_patch fun f fd F => F.ok sc__law_patch (fun vs H Q E h => ?_) (fun cdv A outer s H vs Q E hr h => ?_)
  · obtain ⟨b, c, old, ss, rfl, _⟩ := h
    rfl
  · obtain ⟨b, c, old, ss, rfl, hb, ⟨vs, hcL, hcV⟩, htot, kN, kQ⟩ := h
    have nd := sc__law_patch.nd
    refine ⟨_,       (pss_cons (ps_set (i := 2) nd rfl (Or.inl rfl) (pe_lst pa_nil))
      (pss_cons (ps_set (i := 3) nd rfl (Or.inl rfl) pe_int)
      (pss_cons (ps_for PassesOwn.never rfl (pi_list (pv 1)) (pg_tup rfl (pgs_cons (pg_name (i := 4) nd rfl (Or.inl rfl)) (pgs_cons (pg_name (i := 5) nd rfl (Or.inl rfl)) pgs_nil)))
        (pss_one (ps_if (pt_cmpR op_eq (pv 4) pe_str (nomark _))
          (pss_one (ps_set (i := 2) nd rfl (Or.inl rfl) (pe_op op_cat (pv 2) (pe_callTy call_list_of (by rfl) T.n_list (by decide +kernel) (pa_cons (pv 5) pa_nil)))))
          (pss_cons (ps_if (pt_cmpR op_gt (pe_op op_add (pv 3) (pv 5)) (pe_callB call_len_seq (by rfl) T.n_len PySem.boot_len (pa_cons (pv 0) pa_nil)) (nomark _))
            (pss_one (ps_ret pe_non)) pss_nil)
          (pss_cons (ps_if (pt_cmpR op_eq (pv 4) pe_str (nomark _))
            (pss_one (ps_set (i := 2) nd rfl (Or.inl rfl) (pe_op op_cat (pv 2) (pe_slice sl_list (pv 0) (po_some (pv 3)) (po_some (pe_op op_add (pv 3) (pv 5))))))) pss_nil)
          (pss_one (ps_set (i := 3) nd rfl (Or.inl rfl) (pe_op op_add (pv 3) (pv 5)))))))))
      (pss_cons (ps_if (pt_cmpR op_lt (pv 3) (pe_callB call_len_seq (by rfl) T.n_len PySem.boot_len (pa_cons (pv 0) pa_nil)) (nomark _))
        (pss_one (ps_ret pe_non)) pss_nil)
      (pss_one (ps_ret (pv 2))))))), ?_⟩
    refine ⟨by decide, fun l0 hl0 => ?_⟩
    refine ⟨_, rfl, c, rfl, ⟨_, (same_upd hl0).seq hcL⟩, for_list (K := K) (a := c) (xs := vs) (fun i σ H' => ∃ (l : Addr) (v4 v5 : Option V), Same H H' ∧ taken (ss.take i) ≤ old.length ∧ H' l = some (.lst ((run old (ss.take i)).map V.int)) ∧ σ = [some (.ref b), some (.ref c), some (.ref l), some (.int (taken (ss.take i) : Int)), v4, v5]) ⟨l0, none, none, same_upd hl0, Nat.zero_le _, upd_same, rfl⟩ (fun i σ H' _ ⟨_, _, _, e, _⟩ => e.seq hcL) ?_ ?_⟩
    · rintro i x σ H2 hx ⟨l, v4, v5, e2, hle, h2, rfl⟩
      obtain ⟨st, hs, hA⟩ := scr_get hcV hx
      have hA2 := hA.keeps (sqT_same e2)
      obtain ⟨hlt, hst⟩ := List.getElem?_eq_some_iff.mp hs
      have hsz : (run old (ss.take i)).length + st.sz ≤ 40000 := by
        have h1 := run_tot (ss.take i) old
        have h2 := tot_take_le ss (i + 1)
        rw [take_snoc hlt, hst, tot_snoc] at h2
        omega
      have et : ss.take (i + 1) = ss.take i ++ [st] := by rw [take_snoc hlt, hst]
      have hb2 := e2.seq hb
      have over : ¬ taken (ss.take i) + st.tk ≤ old.length → taken ss ≠ old.length := fun h z => by
        have := taken_take_le ss (i + 1)
        rw [et, taken_snoc] at this
        omega
      cases st with
      | add xs =>
        obtain ⟨t, u, rfl, hT, hU⟩ := hA2
        refine ⟨t, _, rfl, hT, rfl, _, _, rfl, _, _, rfl, rfl, _, rfl, rfl, _, rfl, itd (fun _ => ?_) (fun h => absurd rfl h)⟩
        refine ⟨_, rfl, _, rfl, u, _, rfl, .inr hU, fun m hm => ?_⟩
        have e3 := same_upd (o := .lst (xs.map V.int)) hm
        refine ⟨l, m, _, _, rfl, rfl, e3 _ _ h2, upd_same, smallE ?_, fun r hr2 => ?_⟩
        · rw [List.length_map, List.length_map]
          simp only [Step.sz] at hsz
          omega
        refine ⟨r, some (.str "add"), some (.ref u), (e2.trans e3).trans (same_upd hr2), by rw [et, taken_snoc]; simp only [Step.tk]; omega, ?_, ?_⟩
        · rw [upd_same, ← List.map_append, et, run_snoc]
          rfl
        · rw [et, taken_snoc]
          rfl
      | keep n =>
        obtain ⟨t, rfl, hT⟩ := hA2
        refine ⟨t, _, rfl, hT, rfl, _, _, rfl, _, _, rfl, rfl, _, rfl, rfl, _, rfl, itd (fun h => absurd h (by decide)) (fun _ => ?_)⟩
        simp only [Step.tk] at over
        refine ⟨_, rfl, _, rfl, _, _, rfl, rfl, _, rfl, b, _, rfl, .inl hb2, _, _, rfl, rfl, _, rfl, itd (fun h => ?_) (fun h => ?_)⟩
        · rw [List.length_map] at h
          exact kN (over (by omega)) H2 e2
        rw [List.length_map] at h
        refine ⟨_, rfl, rfl, _, rfl, itd (fun _ => ?_) (fun h => absurd rfl h)⟩
        refine ⟨_, rfl, _, rfl, _, rfl, _, rfl, _, rfl, _, rfl, _, _, rfl, rfl, _, rfl, b, _, rfl, hb2, fun m hm => ?_⟩
        have e3 : cutV (old.map V.int) (some (taken (ss.take i) : Int)) (some ((taken (ss.take i) : Int) + (n : Int))) = ((old.drop (taken (ss.take i))).take n).map V.int := by
          have z : ((taken (ss.take i) : Int) + (n : Int)) = ((taken (ss.take i) + n : Nat) : Int) := by omega
          rw [z, cut_mid (by omega) (by rw [List.length_map]; omega), show taken (ss.take i) + n - taken (ss.take i) = n by omega, List.map_take, List.map_drop]
        rw [e3]
        have e4 := same_upd (o := .lst (((old.drop (taken (ss.take i))).take n).map V.int)) hm
        refine ⟨l, m, _, _, rfl, rfl, e4 _ _ h2, upd_same, smallE ?_, fun r hr2 => ?_⟩
        · rw [List.length_map, List.length_map, List.length_take]
          simp only [Step.sz] at hsz
          omega
        refine ⟨_, rfl, _, rfl, _, _, rfl, rfl, r, some (.str "keep"), some (.int (n : Int)), (e2.trans e4).trans (same_upd hr2), by rw [et, taken_snoc]; simp only [Step.tk]; omega, ?_, ?_⟩
        · rw [upd_same, ← List.map_append, et, run_snoc]
          rfl
        · rw [et, taken_snoc]
          show [_, _, _, some (V.int ((taken (ss.take i) : Int) + (n : Int))), _, _] = [_, _, _, some (V.int ((taken (ss.take i) + n : Nat) : Int)), _, _]
          rw [show ((taken (ss.take i) : Int) + (n : Int)) = ((taken (ss.take i) + n : Nat) : Int) by omega]
      | drop n =>
        obtain ⟨t, rfl, hT⟩ := hA2
        refine ⟨t, _, rfl, hT, rfl, _, _, rfl, _, _, rfl, rfl, _, rfl, rfl, _, rfl, itd (fun h => absurd h (by decide)) (fun _ => ?_)⟩
        simp only [Step.tk] at over
        refine ⟨_, rfl, _, rfl, _, _, rfl, rfl, _, rfl, b, _, rfl, .inl hb2, _, _, rfl, rfl, _, rfl, itd (fun h => ?_) (fun h => ?_)⟩
        · rw [List.length_map] at h
          exact kN (over (by omega)) H2 e2
        rw [List.length_map] at h
        refine ⟨_, rfl, rfl, _, rfl, itd (fun h => absurd h (by decide)) (fun _ => ?_)⟩
        refine ⟨_, rfl, _, rfl, _, _, rfl, rfl, l, some (.str "drop"), some (.int (n : Int)), e2, by rw [et, taken_snoc]; simp only [Step.tk]; omega, ?_, ?_⟩
        · rw [h2, et, run_snoc]
          simp [piece]
        · rw [et, taken_snoc]
          show [_, _, _, some (V.int ((taken (ss.take i) : Int) + (n : Int))), _, _] = [_, _, _, some (V.int ((taken (ss.take i) + n : Nat) : Int)), _, _]
          rw [show ((taken (ss.take i) : Int) + (n : Int)) = ((taken (ss.take i) + n : Nat) : Int) by omega]
    · rintro σ H2 ⟨l, v4, v5, e2, hle, h2, rfl⟩
      rw [hcV.length, List.take_length] at h2 hle
      rw [hcV.length, List.take_length]
      refine ⟨_, rfl, _, rfl, b, _, rfl, .inl (e2.seq hb), _, _, rfl, rfl, _, rfl, itd (fun h => ?_) (fun h => ?_)⟩
      · rw [List.length_map] at h
        exact kN (by omega) H2 e2
      · rw [List.length_map] at h
        exact ⟨_, rfl, kQ (by omega) l H2 e2 h2⟩

-- @@CUT
/-! ### normal forms of scripts -/
def kp (k : Nat) : List Step := if 0 < k then [.keep k] else []
def dr (d : Nat) : List Step := if 0 < d then [.drop d] else []
def ad (xs : List Int) : List Step := if xs.length ≠ 0 then [.add xs] else []
def blk (k d : Nat) (xs : List Int) : List Step := kp k ++ dr d ++ ad xs
/-- what is left to write, k kept, d dropped and xs added being held back -/
def nfS (k d : Nat) (xs : List Int) : List Step → List Step
  | [] => blk k d xs
  | .drop n :: r => nfS k (d + n) xs r
  | .add ys :: r => nfS k d (xs ++ ys) r
  | .keep n :: r => if 0 < d ∨ xs.length ≠ 0 then blk k d xs ++ nfS n 0 [] r else nfS (k + n) d xs r
def nf (ss : List Step) : List Step := nfS 0 0 [] ss
theorem kp0 : kp 0 = [] := rfl
theorem dr0 : dr 0 = [] := rfl
theorem ad0 : ad [] = [] := rfl
theorem kpP {k : Nat} (h : 0 < k) : kp k = [.keep k] := if_pos h
theorem drP {k : Nat} (h : 0 < k) : dr k = [.drop k] := if_pos h
theorem adP {xs : List Int} (h : xs.length ≠ 0) : ad xs = [.add xs] := if_pos h
theorem nfS_flush {k d n : Nat} {xs : List Int} {r : List Step} (h : 0 < d ∨ xs.length ≠ 0) : nfS k d xs (.keep n :: r) = blk k d xs ++ nfS n 0 [] r := if_pos h
theorem nfS_keep {k n : Nat} {r : List Step} : nfS k 0 [] (.keep n :: r) = nfS (k + n) 0 [] r := if_neg (by simp)
theorem gap_or (d : Nat) (xs : List Int) : (0 < d ∨ xs.length ≠ 0) ∨ (d = 0 ∧ xs = []) := by
  cases xs with
  | nil => cases d with
    | zero => exact .inr ⟨rfl, rfl⟩
    | succ n => exact .inl (.inl (by omega))
  | cons x xs => exact .inl (.inr (by simp))
/-- the kind of a step -/
def Step.kd : Step → Str
  | .keep _ => "keep"
  | .drop _ => "drop"
  | .add _ => "add"
/-- normal form, after a step of the kind b -/
def nfOk (b : Str) : List Step → Prop
  | [] => True
  | s :: r => s.kd ≠ b ∧ 0 < s.sz ∧ (s.kd = "drop" → b ≠ "add") ∧ nfOk s.kd r
theorem kd_keep_drop : (Str.ofString "keep") ≠ Str.ofString "drop" := by decide
theorem kd_keep_add : (Str.ofString "keep") ≠ Str.ofString "add" := by decide
theorem kd_keep_no : (Str.ofString "keep") ≠ Str.ofString "" := by decide
theorem kd_drop_keep : (Str.ofString "drop") ≠ Str.ofString "keep" := by decide
theorem kd_drop_add : (Str.ofString "drop") ≠ Str.ofString "add" := by decide
theorem kd_drop_no : (Str.ofString "drop") ≠ Str.ofString "" := by decide
theorem kd_add_keep : (Str.ofString "add") ≠ Str.ofString "keep" := by decide
theorem kd_add_drop : (Str.ofString "add") ≠ Str.ofString "drop" := by decide
theorem kd_add_no : (Str.ofString "add") ≠ Str.ofString "" := by decide
theorem kd_no_keep : (Str.ofString "") ≠ Str.ofString "keep" := by decide
theorem kd_no_drop : (Str.ofString "") ≠ Str.ofString "drop" := by decide
theorem kd_no_add : (Str.ofString "") ≠ Str.ofString "add" := by decide
theorem blk_ok {k d : Nat} {xs : List Int} {b : Str} (hb : b = "" ∨ b = "drop" ∨ b = "add") (hk : k = 0 → b = "") : nfOk b (blk k d xs) := by
  have k1 : (Str.ofString "keep") ≠ b := by rcases hb with rfl | rfl | rfl <;> decide
  unfold blk
  by_cases h1 : 0 < k
  · rw [kpP h1]
    by_cases h2 : 0 < d
    · rw [drP h2]
      by_cases h3 : xs.length ≠ 0
      · rw [adP h3]
        exact ⟨k1, h1, fun z => absurd z (by first | exact kd_keep_drop | exact kd_keep_add | exact kd_keep_no | exact kd_drop_keep | exact kd_drop_add | exact kd_drop_no | exact kd_add_keep | exact kd_add_drop | exact kd_add_no | exact kd_no_keep | exact kd_no_drop | exact kd_no_add), (by first | exact kd_keep_drop | exact kd_keep_add | exact kd_keep_no | exact kd_drop_keep | exact kd_drop_add | exact kd_drop_no | exact kd_add_keep | exact kd_add_drop | exact kd_add_no | exact kd_no_keep | exact kd_no_drop | exact kd_no_add), h2, fun _ => (by first | exact kd_keep_drop | exact kd_keep_add | exact kd_keep_no | exact kd_drop_keep | exact kd_drop_add | exact kd_drop_no | exact kd_add_keep | exact kd_add_drop | exact kd_add_no | exact kd_no_keep | exact kd_no_drop | exact kd_no_add), (by first | exact kd_keep_drop | exact kd_keep_add | exact kd_keep_no | exact kd_drop_keep | exact kd_drop_add | exact kd_drop_no | exact kd_add_keep | exact kd_add_drop | exact kd_add_no | exact kd_no_keep | exact kd_no_drop | exact kd_no_add), by show 0 < xs.length; omega, fun z => absurd z (by first | exact kd_keep_drop | exact kd_keep_add | exact kd_keep_no | exact kd_drop_keep | exact kd_drop_add | exact kd_drop_no | exact kd_add_keep | exact kd_add_drop | exact kd_add_no | exact kd_no_keep | exact kd_no_drop | exact kd_no_add), True.intro⟩
      · rw [ad, if_neg h3]
        exact ⟨k1, h1, fun z => absurd z (by first | exact kd_keep_drop | exact kd_keep_add | exact kd_keep_no | exact kd_drop_keep | exact kd_drop_add | exact kd_drop_no | exact kd_add_keep | exact kd_add_drop | exact kd_add_no | exact kd_no_keep | exact kd_no_drop | exact kd_no_add), (by first | exact kd_keep_drop | exact kd_keep_add | exact kd_keep_no | exact kd_drop_keep | exact kd_drop_add | exact kd_drop_no | exact kd_add_keep | exact kd_add_drop | exact kd_add_no | exact kd_no_keep | exact kd_no_drop | exact kd_no_add), h2, fun _ => (by first | exact kd_keep_drop | exact kd_keep_add | exact kd_keep_no | exact kd_drop_keep | exact kd_drop_add | exact kd_drop_no | exact kd_add_keep | exact kd_add_drop | exact kd_add_no | exact kd_no_keep | exact kd_no_drop | exact kd_no_add), True.intro⟩
    · rw [dr, if_neg h2]
      by_cases h3 : xs.length ≠ 0
      · rw [adP h3]
        exact ⟨k1, h1, fun z => absurd z (by first | exact kd_keep_drop | exact kd_keep_add | exact kd_keep_no | exact kd_drop_keep | exact kd_drop_add | exact kd_drop_no | exact kd_add_keep | exact kd_add_drop | exact kd_add_no | exact kd_no_keep | exact kd_no_drop | exact kd_no_add), (by first | exact kd_keep_drop | exact kd_keep_add | exact kd_keep_no | exact kd_drop_keep | exact kd_drop_add | exact kd_drop_no | exact kd_add_keep | exact kd_add_drop | exact kd_add_no | exact kd_no_keep | exact kd_no_drop | exact kd_no_add), by show 0 < xs.length; omega, fun z => absurd z (by first | exact kd_keep_drop | exact kd_keep_add | exact kd_keep_no | exact kd_drop_keep | exact kd_drop_add | exact kd_drop_no | exact kd_add_keep | exact kd_add_drop | exact kd_add_no | exact kd_no_keep | exact kd_no_drop | exact kd_no_add), True.intro⟩
      · rw [ad, if_neg h3]
        exact ⟨k1, h1, fun z => absurd z (by first | exact kd_keep_drop | exact kd_keep_add | exact kd_keep_no | exact kd_drop_keep | exact kd_drop_add | exact kd_drop_no | exact kd_add_keep | exact kd_add_drop | exact kd_add_no | exact kd_no_keep | exact kd_no_drop | exact kd_no_add), True.intro⟩
  · have b0 := hk (by omega)
    subst b0
    rw [kp, if_neg h1]
    by_cases h2 : 0 < d
    · rw [drP h2]
      by_cases h3 : xs.length ≠ 0
      · rw [adP h3]
        exact ⟨(by first | exact kd_keep_drop | exact kd_keep_add | exact kd_keep_no | exact kd_drop_keep | exact kd_drop_add | exact kd_drop_no | exact kd_add_keep | exact kd_add_drop | exact kd_add_no | exact kd_no_keep | exact kd_no_drop | exact kd_no_add), h2, fun _ => (by first | exact kd_keep_drop | exact kd_keep_add | exact kd_keep_no | exact kd_drop_keep | exact kd_drop_add | exact kd_drop_no | exact kd_add_keep | exact kd_add_drop | exact kd_add_no | exact kd_no_keep | exact kd_no_drop | exact kd_no_add), (by first | exact kd_keep_drop | exact kd_keep_add | exact kd_keep_no | exact kd_drop_keep | exact kd_drop_add | exact kd_drop_no | exact kd_add_keep | exact kd_add_drop | exact kd_add_no | exact kd_no_keep | exact kd_no_drop | exact kd_no_add), by show 0 < xs.length; omega, fun z => absurd z (by first | exact kd_keep_drop | exact kd_keep_add | exact kd_keep_no | exact kd_drop_keep | exact kd_drop_add | exact kd_drop_no | exact kd_add_keep | exact kd_add_drop | exact kd_add_no | exact kd_no_keep | exact kd_no_drop | exact kd_no_add), True.intro⟩
      · rw [ad, if_neg h3]
        exact ⟨(by first | exact kd_keep_drop | exact kd_keep_add | exact kd_keep_no | exact kd_drop_keep | exact kd_drop_add | exact kd_drop_no | exact kd_add_keep | exact kd_add_drop | exact kd_add_no | exact kd_no_keep | exact kd_no_drop | exact kd_no_add), h2, fun _ => (by first | exact kd_keep_drop | exact kd_keep_add | exact kd_keep_no | exact kd_drop_keep | exact kd_drop_add | exact kd_drop_no | exact kd_add_keep | exact kd_add_drop | exact kd_add_no | exact kd_no_keep | exact kd_no_drop | exact kd_no_add), True.intro⟩
    · rw [dr, if_neg h2]
      by_cases h3 : xs.length ≠ 0
      · rw [adP h3]
        exact ⟨(by first | exact kd_keep_drop | exact kd_keep_add | exact kd_keep_no | exact kd_drop_keep | exact kd_drop_add | exact kd_drop_no | exact kd_add_keep | exact kd_add_drop | exact kd_add_no | exact kd_no_keep | exact kd_no_drop | exact kd_no_add), by show 0 < xs.length; omega, fun z => absurd z (by first | exact kd_keep_drop | exact kd_keep_add | exact kd_keep_no | exact kd_drop_keep | exact kd_drop_add | exact kd_drop_no | exact kd_add_keep | exact kd_add_drop | exact kd_add_no | exact kd_no_keep | exact kd_no_drop | exact kd_no_add), True.intro⟩
      · rw [ad, if_neg h3]
        exact True.intro
/-- a block with a gap ends in a drop or an add -/
theorem blk_then {k d : Nat} {xs : List Int} {b : Str} {r : List Step} (g : 0 < d ∨ xs.length ≠ 0) (h : nfOk b (blk k d xs)) (h1 : nfOk "drop" r) (h2 : nfOk "add" r) : nfOk b (blk k d xs ++ r) := by
  unfold blk at h ⊢
  by_cases hk : 0 < k
  · rw [kpP hk] at h ⊢
    by_cases hd : 0 < d
    · rw [drP hd] at h ⊢
      by_cases hx : xs.length ≠ 0
      · rw [adP hx] at h ⊢
        exact ⟨h.1, h.2.1, h.2.2.1, h.2.2.2.1, h.2.2.2.2.1, h.2.2.2.2.2.1, h.2.2.2.2.2.2.1, h.2.2.2.2.2.2.2.1, h.2.2.2.2.2.2.2.2.1, h2⟩
      · rw [ad, if_neg hx] at h ⊢
        exact ⟨h.1, h.2.1, h.2.2.1, h.2.2.2.1, h.2.2.2.2.1, h.2.2.2.2.2.1, h1⟩
    · rw [dr, if_neg hd] at h ⊢
      rw [adP (g.resolve_left hd)] at h ⊢
      exact ⟨h.1, h.2.1, h.2.2.1, h.2.2.2.1, h.2.2.2.2.1, h.2.2.2.2.2.1, h2⟩
  · rw [kp, if_neg hk] at h ⊢
    by_cases hd : 0 < d
    · rw [drP hd] at h ⊢
      by_cases hx : xs.length ≠ 0
      · rw [adP hx] at h ⊢
        exact ⟨h.1, h.2.1, h.2.2.1, h.2.2.2.1, h.2.2.2.2.1, h.2.2.2.2.2.1, h2⟩
      · rw [ad, if_neg hx] at h ⊢
        exact ⟨h.1, h.2.1, h.2.2.1, h1⟩
    · rw [dr, if_neg hd] at h ⊢
      rw [adP (g.resolve_left hd)] at h ⊢
      exact ⟨h.1, h.2.1, h.2.2.1, h2⟩
theorem nfS_ok : ∀ (r : List Step) (k d : Nat) (xs : List Int) (b : Str), (∀ n, Step.keep n ∈ r → 0 < n) → (b = "" ∨ b = "drop" ∨ b = "add") → (k = 0 → b = "") → nfOk b (nfS k d xs r)
  | [], k, d, xs, b, _, hb, hk => blk_ok hb hk
  | .drop n :: r, k, d, xs, b, hp, hb, hk => nfS_ok r k (d + n) xs b (fun m h => hp m (List.mem_cons_of_mem _ h)) hb hk
  | .add ys :: r, k, d, xs, b, hp, hb, hk => nfS_ok r k d (xs ++ ys) b (fun m h => hp m (List.mem_cons_of_mem _ h)) hb hk
  | .keep n :: r, k, d, xs, b, hp, hb, hk => by
    have hp' : ∀ m, Step.keep m ∈ r → 0 < m := fun m h => hp m (List.mem_cons_of_mem _ h)
    have hn : 0 < n := hp n List.mem_cons_self
    rcases gap_or d xs with g | ⟨rfl, rfl⟩
    · rw [nfS_flush g]
      exact blk_then g (blk_ok hb hk) (nfS_ok r n 0 [] "drop" hp' (.inr (.inl rfl)) (fun z => by omega)) (nfS_ok r n 0 [] "add" hp' (.inr (.inr rfl)) (fun z => by omega))
    · rw [nfS_keep]
      exact nfS_ok r (k + n) 0 [] b hp' hb (fun z => hk (by omega))
theorem nf_ok {ss : List Step} (h : ∀ n, Step.keep n ∈ ss → 0 < n) : nfOk "" (nf ss) := nfS_ok ss 0 0 [] "" h (.inl rfl) fun _ => rfl
theorem nfS_same : ∀ (t : List Step), (∀ k, 0 < k → nfOk "keep" t → nfS k 0 [] t = .keep k :: t) ∧ (∀ k d, 0 < d → nfOk "drop" t → nfS k d [] t = kp k ++ .drop d :: t) ∧ (∀ k d xs, xs.length ≠ 0 → nfOk "add" t → nfS k d xs t = kp k ++ dr d ++ .add xs :: t)
  | [] => ⟨fun k h _ => by simp [nfS, blk, kpP h, dr0, ad0], fun k d h _ => by simp [nfS, blk, drP h, ad0], fun k d xs h _ => by simp [nfS, blk, adP h]⟩
  | .keep n :: r => by
    have ih := nfS_same r
    refine ⟨fun k h z => absurd rfl z.1, fun k d h z => ?_, fun k d xs h z => ?_⟩
    · rw [nfS_flush (.inl h), ih.1 n z.2.1 z.2.2.2]
      simp [blk, drP h, ad0]
    · rw [nfS_flush (.inr h), ih.1 n z.2.1 z.2.2.2]
      simp [blk, adP h]
  | .drop n :: r => by
    have ih := nfS_same r
    refine ⟨fun k h z => ?_, fun k d h z => absurd rfl z.1, fun k d xs h z => absurd rfl (z.2.2.1 rfl)⟩
    show nfS k (0 + n) [] r = _
    rw [Nat.zero_add, ih.2.1 k n z.2.1 z.2.2.2, kpP h]
    rfl
  | .add ys :: r => by
    have ih := nfS_same r
    have hy : ∀ z : 0 < (Step.add ys).sz, ys.length ≠ 0 := fun z => by
      have : 0 < ys.length := z
      omega
    refine ⟨fun k h z => ?_, fun k d h z => ?_, fun k d xs h z => absurd rfl z.1⟩
    · show nfS k 0 ([] ++ ys) r = _
      rw [List.nil_append, ih.2.2 k 0 ys (hy z.2.1) z.2.2.2, kpP h, dr0]
      rfl
    · show nfS k d ([] ++ ys) r = _
      rw [List.nil_append, ih.2.2 k d ys (hy z.2.1) z.2.2.2, drP h]
      simp
theorem nf_same {t : List Step} (h : nfOk "" t) : nf t = t := by
  cases t with
  | nil => rfl
  | cons s r =>
    have ih := nfS_same r
    cases s with
    | keep n =>
      show nfS 0 0 [] (.keep n :: r) = _
      rw [nfS_keep, Nat.zero_add]
      exact ih.1 n h.2.1 h.2.2.2
    | drop n =>
      show nfS 0 (0 + n) [] r = _
      rw [Nat.zero_add]
      exact ih.2.1 0 n h.2.1 h.2.2.2
    | add ys =>
      show nfS 0 0 ([] ++ ys) r = _
      rw [List.nil_append]
      exact ih.2.2 0 0 ys (by have : 0 < ys.length := h.2.1; omega) h.2.2.2
theorem run_blk (o : List Int) (k d : Nat) (xs : List Int) (r : List Step) : run o (blk k d xs ++ r) = o.take k ++ xs ++ run (o.drop (k + d)) r := by
  have e1 : ∀ (o : List Int) (r : List Step), run o (kp k ++ r) = o.take k ++ run (o.drop k) r := fun o r => by
    by_cases h : 0 < k
    · rw [kpP h]
      rfl
    · rw [kp, if_neg h, show k = 0 by omega]
      rfl
  have e2 : ∀ (o : List Int) (r : List Step), run o (dr d ++ r) = run (o.drop d) r := fun o r => by
    by_cases h : 0 < d
    · rw [drP h]
      rfl
    · rw [dr, if_neg h, show d = 0 by omega]
      rfl
  have e3 : ∀ (o : List Int) (r : List Step), run o (ad xs ++ r) = xs ++ run o r := fun o r => by
    by_cases h : xs.length ≠ 0
    · rw [adP h]
      rfl
    · rw [ad, if_neg h, List.eq_nil_of_length_eq_zero (show xs.length = 0 by omega)]
      rfl
  unfold blk
  rw [List.append_assoc, List.append_assoc, e1, e2, e3, List.drop_drop, List.append_assoc]
theorem run_nfS : ∀ (r : List Step) (o : List Int) (k d : Nat) (xs : List Int), run o (nfS k d xs r) = o.take k ++ xs ++ run (o.drop (k + d)) r
  | [], o, k, d, xs => by
    have := run_blk o k d xs []
    rw [List.append_nil] at this
    exact this
  | .drop n :: r, o, k, d, xs => by
    show run o (nfS k (d + n) xs r) = _
    rw [run_nfS r]
    show _ = o.take k ++ xs ++ ([] ++ run ((o.drop (k + d)).drop n) r)
    rw [List.drop_drop, Nat.add_assoc]
    rfl
  | .add ys :: r, o, k, d, xs => by
    show run o (nfS k d (xs ++ ys) r) = _
    rw [run_nfS r]
    show _ = o.take k ++ xs ++ (ys ++ run (o.drop (k + d)) r)
    simp only [List.append_assoc]
  | .keep n :: r, o, k, d, xs => by
    show _ = o.take k ++ xs ++ ((o.drop (k + d)).take n ++ run ((o.drop (k + d)).drop n) r)
    rcases gap_or d xs with g | ⟨rfl, rfl⟩
    · rw [nfS_flush g, run_blk, run_nfS r]
      simp
    · rw [nfS_keep, run_nfS r, Nat.add_zero, Nat.add_zero, List.drop_drop, List.take_add]
      simp
theorem run_nf (o : List Int) (ss : List Step) : run o (nf ss) = run o ss := by
  rw [nf, run_nfS]
  rfl
theorem sum_blk (f : Step → Nat) (F : List Step → Nat) (h0 : F [] = 0) (h1 : ∀ s r, F (s :: r) = f s + F r) (k d : Nat) (xs : List Int) (hk : f (.keep 0) = 0) (hd : f (.drop 0) = 0) (hx : f (.add []) = 0) (r : List Step) :
    F (blk k d xs ++ r) = f (.keep k) + f (.drop d) + f (.add xs) + F r := by
  have e1 : ∀ r, F (kp k ++ r) = f (.keep k) + F r := fun r => by
    by_cases h : 0 < k
    · rw [kpP h]
      exact h1 _ _
    · rw [kp, if_neg h, show k = 0 by omega, hk, Nat.zero_add]
      rfl
  have e2 : ∀ r, F (dr d ++ r) = f (.drop d) + F r := fun r => by
    by_cases h : 0 < d
    · rw [drP h]
      exact h1 _ _
    · rw [dr, if_neg h, show d = 0 by omega, hd, Nat.zero_add]
      rfl
  have e3 : ∀ r, F (ad xs ++ r) = f (.add xs) + F r := fun r => by
    by_cases h : xs.length ≠ 0
    · rw [adP h]
      exact h1 _ _
    · rw [ad, if_neg h, List.eq_nil_of_length_eq_zero (by omega : xs.length = 0), hx, Nat.zero_add]
      rfl
  unfold blk
  rw [List.append_assoc, List.append_assoc, e1, e2, e3]
  omega
/-- what is counted step by step stays in the normal form -/
theorem sum_nfS (f : Step → Nat) (F : List Step → Nat) (h0 : F [] = 0) (h1 : ∀ s r, F (s :: r) = f s + F r) (hk : ∀ a b, f (.keep (a + b)) = f (.keep a) + f (.keep b)) (hd : ∀ a b, f (.drop (a + b)) = f (.drop a) + f (.drop b))
    (hx : ∀ a b, f (.add (a ++ b)) = f (.add a) + f (.add b)) : ∀ (r : List Step) (k d : Nat) (xs : List Int), F (nfS k d xs r) = f (.keep k) + f (.drop d) + f (.add xs) + F r := by
  have k0 : f (.keep 0) = 0 := by have := hk 0 0; simp at this; omega
  have d0 : f (.drop 0) = 0 := by have := hd 0 0; simp at this; omega
  have x0 : f (.add []) = 0 := by have := hx [] []; simp at this; omega
  intro r
  induction r with
  | nil =>
    intro k d xs
    have := sum_blk f F h0 h1 k d xs k0 d0 x0 []
    rw [List.append_nil] at this
    exact this
  | cons s r ih =>
    intro k d xs
    rw [h1]
    cases s with
    | drop n =>
      show F (nfS k (d + n) xs r) = _
      rw [ih, hd]
      omega
    | add ys =>
      show F (nfS k d (xs ++ ys) r) = _
      rw [ih, hx]
      omega
    | keep n =>
      rcases gap_or d xs with g | ⟨rfl, rfl⟩
      · rw [nfS_flush g, sum_blk f F h0 h1 k d xs k0 d0 x0, ih, d0, x0]
        omega
      · rw [nfS_keep, ih, hk]
        omega
theorem tot_nf (ss : List Step) : tot (nf ss) = tot ss := by
  have := sum_nfS Step.sz tot rfl (fun _ _ => rfl) (fun _ _ => rfl) (fun _ _ => rfl) (fun a b => by simp [Step.sz]) ss 0 0 []
  simp [Step.sz] at this
  exact this
theorem taken_nf (ss : List Step) : taken (nf ss) = taken ss := by
  have := sum_nfS Step.tk taken rfl (fun _ _ => rfl) (fun _ _ => rfl) (fun _ _ => rfl) (fun a b => rfl) ss 0 0 []
  simp [Step.tk] at this
  exact this
theorem blk_len (k d : Nat) (xs : List Int) : (blk k d xs).length ≤ 3 := by
  unfold blk kp dr ad
  split <;> split <;> split <;> simp
theorem nfS_len : ∀ (r : List Step) (k d : Nat) (xs : List Int), (nfS k d xs r).length ≤ 3 * (r.length + 1)
  | [], k, d, xs => blk_len k d xs
  | .drop n :: r, k, d, xs => by
    have := nfS_len r k (d + n) xs
    show (nfS k (d + n) xs r).length ≤ 3 * (r.length + 1 + 1)
    omega
  | .add ys :: r, k, d, xs => by
    have := nfS_len r k d (xs ++ ys)
    show (nfS k d (xs ++ ys) r).length ≤ 3 * (r.length + 1 + 1)
    omega
  | .keep n :: r, k, d, xs => by
    show (nfS k d xs (.keep n :: r)).length ≤ 3 * (r.length + 1 + 1)
    rcases gap_or d xs with g | ⟨rfl, rfl⟩
    · rw [nfS_flush g, List.length_append]
      have h1 := blk_len k d xs
      have h2 := nfS_len r n 0 []
      omega
    · rw [nfS_keep]
      have h2 := nfS_len r (k + n) 0 []
      omega

def spSteps (K : PySem.W.Frag) : Sp := fun vs H Q _ => ∃ (k d : Nat) (a : Addr) (xs : List Int), vs = [.int (k : Int), .int (d : Int), .ref a] ∧ SqL K H a (xs.map V.int) ∧ ∀ p H' ws, H p = none → Same H H' → H' p = some (.lst ws) → ScrV K H' ws (blk k d xs) → Q (.ref p) H'
theorem ok__steps (T : Txt K mg C_ArchiveError C_InvalidScript c_taken_items c_made_items P_taken_items P_made_items) : Ok P w K mg base CX0 1 "_steps" ["kept", "dropped", "added"] (spSteps K) := by
  refine ok_of T.d__steps fun f fd F => F.ok sc__steps (fun vs H Q E h => ?_) (fun cdv A outer s H vs Q E hr h => ?_)
  · obtain ⟨k, d, a, xs, rfl, _⟩ := h
    rfl
  · obtain ⟨k, d, a, xs, rfl, hA, kQ⟩ := h
    have nd := sc__steps.nd
    refine ⟨_,       (pss_cons (ps_set (i := 3) nd rfl (Or.inl rfl) (pe_lst pa_nil))
      (Evl.pss_cut (ps_if (pt_cmpR op_gt (pv 0) pe_int (nomark _))
        (pss_one (ps_expr (pe_bm PySem.F.plainAttrs_list PySem.F.slot_list_append PySem.F.type_list_append mt_append (pv 3) (pa_cons (pe_tup (pa_cons pe_str (pa_cons (pv 0) pa_nil))) pa_nil)))) pss_nil)
      (Evl.pss_cut (ps_if (pt_cmpR op_gt (pv 1) pe_int (nomark _))
        (pss_one (ps_expr (pe_bm PySem.F.plainAttrs_list PySem.F.slot_list_append PySem.F.type_list_append mt_append (pv 3) (pa_cons (pe_tup (pa_cons pe_str (pa_cons (pv 1) pa_nil))) pa_nil)))) pss_nil)
      (Evl.pss_cut (ps_if (pt_truth (pv 2) (by intro _; rfl))
        (pss_one (ps_expr (pe_bm PySem.F.plainAttrs_list PySem.F.slot_list_append PySem.F.type_list_append mt_append (pv 3) (pa_cons (pe_tup (pa_cons pe_str (pa_cons (pe_callTy call_tuple_of (by rfl) T.n_tuple (by decide +kernel) (pa_cons (pv 2) pa_nil)) pa_nil))) pa_nil)))) pss_nil)
      (pss_one (ps_ret (pv 3))))))), ?_⟩
    refine ⟨by decide, fun l hl => ?_⟩
    have hl0 := same_upd (o := .lst []) hl
    refine ⟨fun σ' H' => Same H H' ∧ ∃ ws, H' l = some (.lst ws) ∧ ScrV K H' ws (kp k) ∧ ws.length ≤ 1 ∧ σ' = [some (.int (k : Int)), some (.int (d : Int)), some (.ref a), some (.ref l)], ?_, ?_⟩
    · refine ⟨_, rfl, _, _, rfl, rfl, _, rfl, itd (fun h => ?_) (fun h => ?_)⟩
      · refine ⟨_, rfl, .inl ⟨rfl, _, SqL.of upd_same⟩, _, rfl, (by show 2 ≤ sizeLine; decide), fun u hu => ?_⟩
        have e1 := same_upd (o := .tup [V.str "keep", V.int (k : Int)]) hu
        have hL := e1 _ _ (upd_same (H := H) (a := l) (o := .lst []))
        refine ⟨l, _, _, rfl, rfl, hL, small (by simp), same_new (hl0.trans e1) hl, [.ref u], upd_same, ?_, Nat.le_refl _, rfl⟩
        rw [kpP (by omega)]
        have hS : StepAt K (upd (upd H l (.lst [])) u (.tup [V.str "keep", V.int (k : Int)])) (.ref u) (.keep k) := ⟨u, rfl, SqT.of upd_same⟩
        exact (ScrV.keeps (sqT_lst hL) (.cons hS .nil))
      · refine ⟨hl0, [], upd_same, ?_, Nat.zero_le _, rfl⟩
        rw [kp, if_neg (by omega)]
        exact .nil
    rintro σ1 H1 ⟨e1, ws, hL, hV, hw, rfl⟩
    refine ⟨fun σ' H' => Same H H' ∧ ∃ ws, H' l = some (.lst ws) ∧ ScrV K H' ws (kp k ++ dr d) ∧ ws.length ≤ 2 ∧ σ' = [some (.int (k : Int)), some (.int (d : Int)), some (.ref a), some (.ref l)], ?_, ?_⟩
    · refine ⟨_, rfl, _, _, rfl, rfl, _, rfl, itd (fun h => ?_) (fun h => ?_)⟩
      · refine ⟨_, rfl, .inl ⟨rfl, _, SqL.of hL⟩, _, rfl, (by show 2 ≤ sizeLine; decide), fun u hu => ?_⟩
        have e2 := same_upd (o := .tup [V.str "drop", V.int (d : Int)]) hu
        have hL2 := e2 _ _ hL
        refine ⟨l, _, _, rfl, rfl, hL2, small (by omega), same_new (e1.trans e2) hl, ws ++ [.ref u], upd_same, ?_, by rw [List.length_append]; show ws.length + 1 ≤ 2; omega, rfl⟩
        rw [drP (by omega)]
        have hS : StepAt K (upd H1 u (.tup [V.str "drop", V.int (d : Int)])) (.ref u) (.drop d) := ⟨u, rfl, SqT.of upd_same⟩
        exact (ScrV.app (hV.keeps (sqT_same e2)) (.cons hS .nil)).keeps (sqT_lst hL2)
      · refine ⟨e1, ws, hL, ?_, by omega, rfl⟩
        rw [dr, if_neg (by omega), List.append_nil]
        exact hV
    clear hL hV hw
    rintro σ2 H2 ⟨e2, ws, hL, hV, hw, rfl⟩
    have hA2 := e2.seq hA
    refine ⟨fun σ' H' => Same H H' ∧ ∃ ws, H' l = some (.lst ws) ∧ ScrV K H' ws (blk k d xs) ∧ σ' = [some (.int (k : Int)), some (.int (d : Int)), some (.ref a), some (.ref l)], ?_, ?_⟩
    · refine ⟨_, rfl, _, tru_l hA2, itb (fun h => ?_) (fun h => ?_)⟩
      · have hx : xs.length ≠ 0 := by simpa using h
        refine ⟨_, rfl, .inl ⟨rfl, _, SqL.of hL⟩, _, rfl, a, _, rfl, .inl ⟨hA2, fun t ht => ⟨(by show 2 ≤ sizeLine; decide), fun u hu => ?_⟩⟩⟩
        have e3 := same_upd (o := .tup (xs.map V.int)) ht
        have e4 := same_upd (o := .tup [V.str "add", V.ref t]) hu
        have hL2 := e4 _ _ (e3 _ _ hL)
        refine ⟨l, _, _, rfl, rfl, hL2, small (by omega), same_new ((e2.trans e3).trans e4) hl, ws ++ [.ref u], upd_same, ?_, rfl⟩
        rw [blk, adP hx]
        have hS : StepAt K (upd (upd H2 t (.tup (xs.map V.int))) u (.tup [V.str "add", V.ref t])) (.ref u) (.add xs) := ⟨u, t, rfl, SqT.of upd_same, SqT.of (e4 _ _ upd_same)⟩
        exact (ScrV.app (hV.keeps (sqT_same (e3.trans e4))) (.cons hS .nil)).keeps (sqT_lst hL2)
      · have hx : ¬ xs.length ≠ 0 := by simpa using h
        refine ⟨e2, ws, hL, ?_, rfl⟩
        rw [blk, ad, if_neg hx, List.append_nil]
        exact hV
    · rintro σ3 H3 ⟨e3, ws, hL, hV, rfl⟩
      exact ⟨_, rfl, kQ l H3 ws hl e3 hL hV⟩

theorem fresh {H H' : Hp} {p : Addr} (e : Same H H') (h : H' p = none) : H p = none := by
  cases q : H p with
  | none => rfl
  | some o =>
    have := e _ _ q
    rw [h] at this
    cases this
theorem ne_of {H : Hp} {p q : Addr} {o : HO} (h1 : H p = some o) (h2 : H q = none) : q ≠ p := fun z => by
  rw [z, h1] at h2
  cases h2
theorem tot_get {ss : List Step} {i : Nat} (h : i < ss.length) : tot (ss.take (i + 1)) = tot (ss.take i) + ss[i].sz := by rw [take_snoc h, tot_snoc]
def spNorm (K : PySem.W.Frag) : Sp := fun vs H Q _ => ∃ (c : Addr) (ss : List Step), vs = [.ref c] ∧ ScrAt K H c ss ∧ ss.length ≤ 400 ∧ tot ss ≤ 40000 ∧ ∀ p H' ws, H p = none → Same H H' → H' p = some (.lst ws) → ScrV K H' ws (nf ss) → Q (.ref p) H'
theorem ok_normalized (T : Txt K mg C_ArchiveError C_InvalidScript c_taken_items c_made_items P_taken_items P_made_items) : Ok P w K mg base CX0 2 "normalized" ["script"] (spNorm K) := by
  have G__steps := ok__steps (P := P) (w := w) (base := base) T
  refine ok_of T.d_normalized fun f fd F => F.ok sc_normalized (fun vs H Q E h => ?_) (fun cdv A outer s H vs Q E hr h => ?_)
  · obtain ⟨c, ss, rfl, _⟩ := h
    rfl
  · obtain ⟨c, ss, rfl, ⟨vs, hcL, hcV⟩, hl, htot, kQ⟩ := h
    have nd := sc_normalized.nd
    refine ⟨_,       (pss_cons (ps_set (i := 1) nd rfl (Or.inl rfl) (pe_lst pa_nil))
      (pss_cons (ps_set (i := 2) nd rfl (Or.inl rfl) pe_int)
      (pss_cons (ps_set (i := 3) nd rfl (Or.inl rfl) pe_int)
      (pss_cons (ps_set (i := 4) nd rfl (Or.inl rfl) (pe_lst pa_nil))
      (pss_cons (ps_for PassesOwn.never rfl (pi_list (pv 0)) (pg_tup rfl (pgs_cons (pg_name (i := 5) nd rfl (Or.inl rfl)) (pgs_cons (pg_name (i := 6) nd rfl (Or.inl rfl)) pgs_nil)))
        (pss_one (ps_if (pt_cmpR op_eq (pv 5) pe_str (nomark _))
          (pss_one (ps_aug (i := 3) nd rfl (Or.inl rfl) (pv 6) ip_add))
          (pss_one (ps_if (pt_cmpR op_eq (pv 5) pe_str (nomark _))
            (pss_one (ps_expr (pe_bm PySem.F.plainAttrs_list PySem.F.slot_list_extend PySem.F.type_list_extend ET.mt_extendT (pv 4) (pa_cons (pv 6) pa_nil))))
            (pss_cons (ps_if (PW.pt (pw_or (pt_cmpR op_gt (pv 3) pe_int (nomark _)) (pw_or1 (pt_truth (pv 4) (by intro _; rfl)))))
              (pss_cons (ps_expr (pe_bm PySem.F.plainAttrs_list PySem.F.slot_list_extend PySem.F.type_list_extend mt_extend (pv 1) (pa_cons (pe_callO G__steps (hr.mono (by decide)) pass0 (pa_cons (pv 2) (pa_cons (pv 3) (pa_cons (pv 4) pa_nil)))) pa_nil)))
              (pss_cons (ps_set (i := 2) nd rfl (Or.inl rfl) pe_int)
              (pss_cons (ps_set (i := 3) nd rfl (Or.inl rfl) pe_int)
              (pss_one (ps_set (i := 4) nd rfl (Or.inl rfl) (pe_lst pa_nil)))))) pss_nil)
            (pss_one (ps_aug (i := 2) nd rfl (Or.inl rfl) (pv 6) ip_add))))))))
      (pss_one (ps_ret (pe_op op_cat (pv 1) (pe_callO G__steps (hr.mono (by decide)) pass0 (pa_cons (pv 2) (pa_cons (pv 3) (pa_cons (pv 4) pa_nil)))))))))))), ?_⟩
    refine ⟨by decide, fun l hl0 => ⟨by decide, fun al hal => ?_⟩⟩
    have f1 := same_upd (o := .lst []) hl0
    have f2 := same_upd (o := .lst []) hal
    have hal1 : al ≠ l := ne_of (upd_same (H := H) (a := l) (o := .lst [])) hal
    refine ⟨_, rfl, c, rfl, ⟨_, (f1.trans f2).seq hcL⟩, for_list (K := K) (a := c) (xs := vs) (fun i σ H' => ∃ (ws : List V) (em : List Step) (k d : Nat) (xs : List Int) (al : Addr) (v5 v6 : Option V), Same H H' ∧ H' l = some (.lst ws) ∧ ScrV K H' ws em ∧ H' al = some (.lst (xs.map V.int)) ∧ H al = none ∧ al ≠ l ∧
      em ++ nfS k d xs (ss.drop i) = nf ss ∧ em.length ≤ 3 * i ∧ xs.length ≤ tot (ss.take i) ∧ σ = [some (.ref c), some (.ref l), some (.int (k : Int)), some (.int (d : Int)), some (.ref al), v5, v6]) ⟨[], [], 0, 0, [], al, none, none, f1.trans f2, f2 _ _ upd_same, .nil, upd_same, fresh f1 hal, hal1, rfl, Nat.zero_le _, Nat.zero_le _, rfl⟩ (fun i σ H' _ ⟨_, _, _, _, _, _, _, _, e, _⟩ => e.seq hcL) ?_ ?_⟩
    · rintro i x σ H2 hx ⟨ws, em, k, d, xs, al, v5, v6, e2, hL, hV, hA, hn, hne, hem, hml, hxl, rfl⟩
      obtain ⟨st, hs, hS⟩ := scr_get hcV hx
      obtain ⟨hlt, hst⟩ := List.getElem?_eq_some_iff.mp hs
      have hS2 := hS.keeps (sqT_same e2)
      have hdr := List.drop_eq_getElem_cons hlt
      rw [hst] at hdr
      have htt := tot_get hlt
      rw [hst] at htt
      have htt2 := tot_take_le ss (i + 1)
      cases st with
      | drop n =>
        obtain ⟨t, rfl, hT⟩ := hS2
        refine ⟨t, _, rfl, hT, rfl, _, _, rfl, _, _, rfl, rfl, _, rfl, rfl, _, rfl, itd (fun _ => ?_) (fun h => absurd rfl h)⟩
        refine ⟨_, rfl, _, rfl, _, _, rfl, rfl, ws, em, k, d + n, xs, al, some (.str "drop"), some (.int (n : Int)), e2, hL, hV, hA, hn, hne, ?_, by omega, by omega, ?_⟩
        · rw [hdr] at hem
          exact hem
        · rw [show ((d + n : Nat) : Int) = (d : Int) + (n : Int) by omega]
          rfl
      | add ys =>
        obtain ⟨t, u, rfl, hT, hU⟩ := hS2
        refine ⟨t, _, rfl, hT, rfl, _, _, rfl, _, _, rfl, rfl, _, rfl, rfl, _, rfl, itd (fun h => absurd h (by decide)) (fun _ => ?_)⟩
        refine ⟨_, rfl, rfl, _, rfl, itd (fun _ => ?_) (fun h => absurd rfl h)⟩
        simp only [Step.sz] at htt
        refine ⟨_, rfl, .inl ⟨rfl, _, SqL.of hA⟩, _, rfl, al, u, _, _, rfl, rfl, hA, hU, smallE ?_, ws, em, k, d, xs ++ ys, al, some (.str "add"), some (.ref u), same_new e2 hn, ?_, hV.keeps (sqT_lst hA), ?_, hn, hne, ?_, by omega, ?_, rfl⟩
        · rw [List.length_map, List.length_map]
          omega
        · rw [upd_ne (Ne.symm hne)]
          exact hL
        · rw [upd_same, ← List.map_append]
        · rw [hdr] at hem
          exact hem
        · rw [List.length_append]
          omega
      | keep n =>
        obtain ⟨t, rfl, hT⟩ := hS2
        refine ⟨t, _, rfl, hT, rfl, _, _, rfl, _, _, rfl, rfl, _, rfl, rfl, _, rfl, itd (fun h => absurd h (by decide)) (fun _ => ?_)⟩
        refine ⟨_, rfl, rfl, _, rfl, itd (fun h => absurd h (by decide)) (fun _ => ?_)⟩
        refine ⟨_, rfl, _, _, rfl, rfl, _, rfl, itd (fun h => iteT ?b1) (fun h => ⟨_, rfl, _, tru_l (SqL.of hA), itb (fun h2 => ?b2) (fun h2 => ?b3)⟩)⟩
        case b1 | b2 =>
          have g : 0 < d ∨ xs.length ≠ 0 := by
            first
            | exact .inl (by omega)
            | exact .inr (by simpa using h2)
          refine ⟨_, rfl, .inl ⟨rfl, _, SqL.of hL⟩, _, rfl, _, rfl, _, rfl, k, d, al, xs, rfl, SqL.of hA, fun p H3 ws' hp e3 hp2 hV' => ?_⟩
          have hpl : p ≠ l := ne_of hL hp
          have hL3 := e3 _ _ hL
          have hbl : (blk k d xs).length ≤ 3 := blk_len k d xs
          refine ⟨l, p, _, _, rfl, rfl, hL3, hp2, smallE ?_, ?_⟩
          · rw [hV.length, hV'.length]
            omega
          refine ⟨by decide, fun al2 hal2 => ?_⟩
          have f4 := same_upd (o := .lst []) hal2
          have hal2l : al2 ≠ l := ne_of (upd_same (H := H3) (a := l) (o := .lst (ws ++ ws'))) hal2
          have eH := same_new (o := .lst (ws ++ ws')) (e2.trans e3) hl0
          refine ⟨_, rfl, _, rfl, _, _, rfl, rfl, ws ++ ws', em ++ blk k d xs, n, 0, [], al2, some (.str "keep"), some (.int (n : Int)), eH.trans f4, f4 _ _ upd_same, ?_, upd_same, fresh eH hal2, hal2l, ?_, ?_, Nat.zero_le _, ?_⟩
          · exact ((ScrV.app (hV.keeps (sqT_same e3)) hV').keeps (sqT_lst hL3)).keeps (sqT_same f4)
          · rw [hdr, nfS_flush g] at hem
            rw [List.append_assoc]
            exact hem
          · rw [List.length_append]
            omega
          · show [_, _, some (V.int ((0 : Int) + (n : Int))), _, _, _, _] = _
            rw [Int.zero_add]
            rfl
        have hd0 : d = 0 := by omega
        have hx0 : xs = [] := by simpa using h2
        subst hd0 hx0
        refine ⟨_, rfl, _, rfl, _, _, rfl, rfl, ws, em, k + n, 0, [], al, some (.str "keep"), some (.int (n : Int)), e2, hL, hV, hA, hn, hne, ?_, by omega, Nat.zero_le _, ?_⟩
        · rw [hdr, nfS_keep] at hem
          exact hem
        · rw [show ((k + n : Nat) : Int) = (k : Int) + (n : Int) by omega]
          rfl
    · rintro σ H2 ⟨ws, em, k, d, xs, al, v5, v6, e2, hL, hV, hA, hn, hne, hem, hml, hxl, rfl⟩
      rw [hcV.length, List.drop_length] at hem
      rw [hcV.length] at hml
      refine ⟨_, rfl, _, rfl, _, rfl, _, rfl, k, d, al, xs, rfl, SqL.of hA, fun p H3 ws' hp e3 hp2 hV' => ?_⟩
      have hbl : (blk k d xs).length ≤ 3 := blk_len k d xs
      refine ⟨l, p, _, _, rfl, rfl, e3 _ _ hL, hp2, smallE ?_, fun r hr2 => ?_⟩
      · rw [hV.length, hV'.length]
        omega
      have f4 := same_upd (o := .lst (ws ++ ws')) hr2
      refine kQ r _ (ws ++ ws') (fresh (e2.trans e3) hr2) ((e2.trans e3).trans f4) upd_same ?_
      rw [← hem]
      exact (ScrV.app (hV.keeps (sqT_same e3)) hV').keeps (sqT_same f4)

-- @@CUT
def Fr (p : Addr) (H H' : Hp) : Prop := ∀ b o, H b = some o → b ≠ p → H' b = some o
theorem Fr.refl (p : Addr) (H : Hp) : Fr p H H := fun _ _ e _ => e
theorem Fr.trans {p : Addr} {H H1 H2 : Hp} (a : Fr p H H1) (b : Fr p H1 H2) : Fr p H H2 := fun c o e n => b c o (a c o e n) n
theorem Fr.of {p : Addr} {H H' : Hp} (e : Same H H') : Fr p H H' := fun b o q _ => e b o q
theorem Fr.put {p : Addr} {H H' : Hp} {o : HO} (a : Fr p H H') : Fr p H (upd H' p o) := fun c u e n => by
  rw [upd_ne n]
  exact a c u e n
theorem Fr.same {p : Addr} {H0 H H' : Hp} (a : Fr p H H') (e : Same H0 H) (n : H0 p = none) : Same H0 H' := fun b o q => a b o (e b o q) fun z => by
  rw [z, n] at q
  cases q
theorem Fr.sqT {K : PySem.W.Frag} {p : Addr} {H H' : Hp} {ws : List V} (a : Fr p H H') (hp : H p = some (.lst ws)) (t : Addr) (ys : List V) (h : SqT K H t ys) : SqT K H' t ys := by
  rcases h with (h | ⟨o, h⟩) | h
  · exact .inl (.inl (a _ _ h (fun z => by rw [z, hp] at h; cases h)))
  · exact .inl (.inr ⟨o, a _ _ h (fun z => by rw [z, hp] at h; cases h)⟩)
  · exact .inr h
def GapAt (K : PySem.W.Frag) (H : Hp) (v : V) (d : Nat) (xs : List Int) : Prop := ∃ t u, v = .ref t ∧ SqT K H t [.int (d : Int), .ref u] ∧ SqT K H u (xs.map V.int)
theorem GapAt.keeps {K : PySem.W.Frag} {H H' : Hp} (e : ∀ t ys, SqT K H t ys → SqT K H' t ys) {v : V} {d : Nat} {xs : List Int} : GapAt K H v d xs → GapAt K H' v d xs
  | ⟨t, u, h1, h2, h3⟩ => ⟨t, u, h1, e _ _ h2, e _ _ h3⟩
def gapD (d : Nat) (xs : List Int) : PyData := .tuple [.int (d : Int), .tuple (xs.map PyData.int)]
theorem dp_gap {K : PySem.W.Frag} {H : Hp} {v : V} {d : Nat} {xs : List Int} : GapAt K H v d xs → Dp K H v (gapD d xs)
  | ⟨t, u, h1, h2, h3⟩ => h1 ▸ .tup h2 (.cons (.int _) (.cons (.tup h3 (dp_ints xs)) .nil))
theorem shaped_gap (d : Nat) (xs : List Int) : SeqAt.shaped (gapD d xs) = true := by
  refine Bool.and_eq_true_iff.mpr ⟨?_, decide_eq_true ?_⟩
  · show (true && (PyData.canLayAll0 (xs.map PyData.int) && true)) = true
    rw [Cm.canLayAll_ints]
    rfl
  · show max 0 (max (PyData.depthAll (xs.map PyData.int) + 1) 0) + 1 ≤ 64
    rw [Cm.depthAll_ints]
    omega
theorem eqv_gap0 (d : Nat) (xs : List Int) : PyData.eqv (gapD d xs) (gapD 0 []) = decide (d = 0 ∧ xs = []) := by
  cases xs with
  | nil =>
    simp [gapD, PyData.eqv, PyData.eqvAll]
    rw [Bool.eq_iff_iff]
    simp
  | cons x xs => simp [gapD, PyData.eqv, PyData.eqvAll]
theorem catA {K : PySem.W.Frag} {a b : Addr} {xs ys : List V} {H : Hp} {Q : VK} (hx : SqT K H a xs) (hy : SqT K H b ys) (hs : xs.length + ys.length ≤ sizeLine) (k : ∀ p H', Same H H' → SqT K H' p (xs ++ ys) → Q (.ref p) H') : rCatA K (.ref a) (.ref b) H Q :=
  ⟨a, b, xs, ys, rfl, rfl, hx, hy, hs, fun h => k b H (Same.refl H) (by rw [h]; exact hy), fun _ h => k a H (Same.refl H) (by rw [h, List.append_nil]; exact hx), fun _ _ p hp => k p _ (same_upd hp) (SqT.of upd_same)⟩
def spClose (K : PySem.W.Frag) : Sp := fun vs H Q _ => ∃ (p : Addr) (v : V) (ws : List V) (d : Nat) (xs : List Int), vs = [.ref p, v] ∧ H p = some (.lst ws) ∧ ws.length ≤ 10000 ∧ GapAt K H v d xs ∧
  ∀ H' ws', Fr p H H' → H' p = some (.lst (ws ++ ws')) → ScrV K H' ws' (dr d ++ ad xs) → Q .non H'
theorem ok__law_close (T : Txt K mg C_ArchiveError C_InvalidScript c_taken_items c_made_items P_taken_items P_made_items) : Ok P w K mg base CX0 1 "_law_close" ["steps", "gap"] (spClose K) := by
  refine ok_of T.d__law_close fun f fd F => F.ok sc__law_close (fun vs H Q E h => ?_) (fun cdv A outer s H vs Q E hr h => ?_)
  · obtain ⟨p, v, ws, d, xs, rfl, _⟩ := h
    rfl
  · obtain ⟨p, v, ws, d, xs, rfl, hp, hw, hG, kQ⟩ := h
    have nd := sc__law_close.nd
    refine ⟨_,       (Evl.pss_cut (ps_if (pt_cmpR op_gt (pe_ix ix_tup (pv 1) pe_int (fun _ _ => rfl)) pe_int (nomark _))
        (pss_one (ps_expr (pe_bm PySem.F.plainAttrs_list PySem.F.slot_list_append PySem.F.type_list_append mt_append (pv 0) (pa_cons (pe_tup (pa_cons pe_str (pa_cons (pe_ix ix_tup (pv 1) pe_int (fun _ _ => rfl)) pa_nil))) pa_nil)))) pss_nil)
      (pss_one (ps_if (pt_cmpR op_gt (pe_callB call_len_seq (by rfl) T.n_len PySem.boot_len (pa_cons (pe_ix ix_tup (pv 1) pe_int (fun _ _ => rfl)) pa_nil)) pe_int (nomark _))
        (pss_one (ps_expr (pe_bm PySem.F.plainAttrs_list PySem.F.slot_list_append PySem.F.type_list_append mt_append (pv 0) (pa_cons (pe_tup (pa_cons pe_str (pa_cons (pe_ix ix_tup (pv 1) pe_int (fun _ _ => rfl)) pa_nil))) pa_nil)))) pss_nil))), ?_⟩
    obtain ⟨t, u, rfl, hT, hU⟩ := id hG
    refine ⟨fun σ' H' => Fr p H H' ∧ ∃ ws', H' p = some (.lst (ws ++ ws')) ∧ ScrV K H' ws' (dr d) ∧ ws'.length ≤ 1 ∧ σ' = [some (.ref p), some (.ref t)], ?_, ?_⟩
    · refine ⟨_, rfl, t, _, _, .int (d : Int), rfl, rfl, hT, rfl, _, _, rfl, rfl, _, rfl, itd (fun h => ?_) (fun h => ?_)⟩
      · refine ⟨_, rfl, .inl ⟨rfl, _, SqL.of hp⟩, _, rfl, t, _, _, .int (d : Int), rfl, rfl, hT, rfl, (by show 2 ≤ sizeLine; decide), fun a ha => ?_⟩
        have e1 := same_upd (o := .tup [V.str "drop", V.int (d : Int)]) ha
        have hL := e1 _ _ hp
        refine ⟨p, _, _, rfl, rfl, hL, small (by omega), (Fr.of e1).put, [.ref a], upd_same, ?_, Nat.le_refl _, rfl⟩
        rw [drP (by omega)]
        have hS : StepAt K (upd H a (.tup [V.str "drop", V.int (d : Int)])) (.ref a) (.drop d) := ⟨a, rfl, SqT.of upd_same⟩
        exact ScrV.keeps (sqT_lst hL) (.cons hS .nil)
      · refine ⟨Fr.refl p H, [], by rw [List.append_nil]; exact hp, ?_, Nat.zero_le _, rfl⟩
        rw [dr, if_neg (by omega)]
        exact .nil
    rintro σ1 H1 ⟨e1, ws', hp1, hV1, hw1, rfl⟩
    have hT1 := e1.sqT hp _ _ hT
    have hU1 := e1.sqT hp _ _ hU
    refine ⟨_, rfl, t, _, _, .ref u, rfl, rfl, hT1, rfl, u, _, rfl, .inr hU1, _, _, rfl, rfl, _, rfl, itd (fun h => ?_) (fun h => ?_)⟩
    · rw [List.length_map] at h
      refine ⟨_, rfl, .inl ⟨rfl, _, SqL.of hp1⟩, _, rfl, t, _, _, .ref u, rfl, rfl, hT1, rfl, (by show 2 ≤ sizeLine; decide), fun a ha => ?_⟩
      have e2 := same_upd (o := .tup [V.str "add", V.ref u]) ha
      have hL := e2 _ _ hp1
      refine ⟨p, _, _, rfl, rfl, hL, small (by rw [List.length_append]; omega), ?_⟩
      refine kQ _ (ws' ++ [.ref a]) (e1.trans ((Fr.of e2).put)) (by rw [upd_same, List.append_assoc]) ?_
      rw [adP (by omega)]
      have hS : StepAt K (upd H1 a (.tup [V.str "add", V.ref u])) (.ref a) (.add xs) := ⟨a, u, rfl, SqT.of upd_same, sqT_same e2 _ _ hU1⟩
      exact (ScrV.app (hV1.keeps (sqT_same e2)) (.cons hS .nil)).keeps (sqT_lst hL)
    · rw [List.length_map] at h
      refine kQ _ ws' e1 hp1 ?_
      rw [ad, if_neg (by omega), List.append_nil]
      exact hV1
theorem ix_last {ws : List V} {n m : Nat} (h : ws.length = n + m) (hm : m = 1 := by rfl) : ixN ws.length (-1) = some n := by
  unfold ixN
  rw [if_neg (by decide), if_pos (by omega)]
  exact congrArg some (by omega)
theorem at_last {ws : List V} {n m : Nat} (h : ws.length = n + m) (hm : m = 1 := by rfl) (hn : n < ws.length := by omega) : atI ws (-1) = some ws[n] := by
  unfold atI
  rw [ix_last h hm]
  exact List.getElem?_eq_getElem hn
def PosK (ss : List Step) : Prop := ∀ n, Step.keep n ∈ ss → 0 < n
def spLNorm (K : PySem.W.Frag) : Sp := fun vs H Q _ => ∃ (c : Addr) (ss : List Step), vs = [.ref c] ∧ ScrAt K H c ss ∧ PosK ss ∧ ss.length ≤ 400 ∧ tot ss ≤ 40000 ∧ ∀ p H' ws, H p = none → Same H H' → H' p = some (.lst ws) → ScrV K H' ws (nf ss) → Q (.ref p) H'
theorem ok__law_normal (T : Txt K mg C_ArchiveError C_InvalidScript c_taken_items c_made_items P_taken_items P_made_items) : Ok P w K mg base CX0 2 "_law_normal" ["script"] (spLNorm K) := by
  have G__law_close := ok__law_close (P := P) (w := w) (base := base) T
  refine ok_of T.d__law_normal fun f fd F => F.ok sc__law_normal (fun vs H Q E h => ?_) (fun cdv A outer s H vs Q E hr h => ?_)
  · obtain ⟨c, ss, rfl, _⟩ := h
    rfl
  · obtain ⟨c, ss, rfl, ⟨vs, hcL, hcV⟩, hpos, hl, htot, kQ⟩ := h
    have nd := sc__law_normal.nd
    have hu64 : (A.deeper (envOfC "_law_normal" (defScope s__law_normal) s.heap.objs.size f cdv)).units + 64 < cLine := by
      have := hr.un
      omega
    refine ⟨_,       (pss_cons (ps_set (i := 1) nd rfl (Or.inl rfl) (pe_lst pa_nil))
      (pss_cons (ps_set (i := 2) nd rfl (Or.inl rfl) (pe_tup (pa_cons pe_int (pa_cons (pe_tup pa_nil) pa_nil))))
      (pss_cons (ps_for PassesOwn.never rfl (pi_list (pv 0)) (pg_tup rfl (pgs_cons (pg_name (i := 3) nd rfl (Or.inl rfl)) (pgs_cons (pg_name (i := 4) nd rfl (Or.inl rfl)) pgs_nil)))
        (pss_one (ps_if (pt_cmpR op_eq (pv 3) pe_str (nomark _))
          (pss_one (ps_set (i := 2) nd rfl (Or.inl rfl) (pe_tup (pa_cons (pe_op op_add (pe_ix ix_tup (pv 2) pe_int (fun _ _ => rfl)) (pv 4)) (pa_cons (pe_ix ix_tup (pv 2) pe_int (fun _ _ => rfl)) pa_nil)))))
          (pss_one (ps_if (pt_cmpR op_eq (pv 3) pe_str (nomark _))
            (pss_one (ps_set (i := 2) nd rfl (Or.inl rfl) (pe_tup (pa_cons (pe_ix ix_tup (pv 2) pe_int (fun _ _ => rfl)) (pa_cons (pe_op op_catA (pe_ix ix_tup (pv 2) pe_int (fun _ _ => rfl)) (pe_callTy call_tupleT (by rfl) T.n_tuple (by decide +kernel) (pa_cons (pv 4) pa_nil))) pa_nil)))))
            (pss_cons (ps_expr (pe_callO G__law_close (hr.mono (by decide)) pass0 (pa_cons (pv 1) (pa_cons (pv 2) pa_nil))))
            (pss_cons (ps_if (PW.pt (pw_and (pt_cmpR (op_eqD hu64) (pv 2) (pe_tup (pa_cons pe_int (pa_cons (pe_tup pa_nil) pa_nil))) (nomark _)) (pw_and1 (pt_cmpR op_gt (pe_callB call_len_seq (by rfl) T.n_len PySem.boot_len (pa_cons (pv 1) pa_nil)) pe_int (nomark _)))))
              (pss_one (ps_asg (pe_tup (pa_cons pe_str (pa_cons (pe_op op_add (pe_ix ix_tup (pe_ix ix_list (pv 1) (pe_un un_neg pe_int) (fun _ _ => rfl)) pe_int (fun _ _ => rfl)) (pv 4)) pa_nil))) (pg_sub (pv 1) (pe_un un_neg pe_int) set_list)))
              (pss_one (ps_expr (pe_bm PySem.F.plainAttrs_list PySem.F.slot_list_append PySem.F.type_list_append mt_append (pv 1) (pa_cons (pe_tup (pa_cons pe_str (pa_cons (pv 4) pa_nil))) pa_nil)))))
            (pss_one (ps_set (i := 2) nd rfl (Or.inl rfl) (pe_tup (pa_cons pe_int (pa_cons (pe_tup pa_nil) pa_nil))))))))))))
      (pss_cons (ps_expr (pe_callO G__law_close (hr.mono (by decide)) pass0 (pa_cons (pv 1) (pa_cons (pv 2) pa_nil))))
      (pss_one (ps_ret (pv 1))))))), ?_⟩
    refine ⟨by decide, fun l hl0 => ⟨(by show 0 ≤ sizeLine; decide), fun u hu => ⟨(by show 2 ≤ sizeLine; decide), fun g hg => ?_⟩⟩⟩
    have f1 := same_upd (o := .lst []) hl0
    have f2 := same_upd (o := .tup []) hu
    have f3 := same_upd (o := .tup [V.int 0, V.ref u]) hg
    have f13 := (f1.trans f2).trans f3
    refine ⟨_, rfl, c, rfl, ⟨_, f13.seq hcL⟩, for_list (K := K) (a := c) (xs := vs) (fun i σ H' => ∃ (ws : List V) (em : List Step) (k d : Nat) (xs : List Int) (g : V) (v3 v4 : Option V), Same H H' ∧ H' l = some (.lst ws) ∧ ScrV K H' ws (em ++ kp k) ∧ GapAt K H' g d xs ∧ (k = 0 → em = []) ∧
      em ++ nfS k d xs (ss.drop i) = nf ss ∧ em.length ≤ 3 * i ∧ xs.length ≤ tot (ss.take i) ∧ σ = [some (.ref c), some (.ref l), some g, v3, v4]) ⟨[], [], 0, 0, [], .ref g, none, none, f13, (f2.trans f3) _ _ upd_same, .nil, ⟨g, u, rfl, SqT.of upd_same, SqT.of (f3 _ _ upd_same)⟩, fun _ => rfl, rfl, Nat.zero_le _, Nat.zero_le _, rfl⟩ (fun i σ H' _ ⟨_, _, _, _, _, _, _, _, e, _⟩ => e.seq hcL) ?_ ?_⟩
    · rintro i x σ H2 hx ⟨ws, em, k, d, xs, g, v3, v4, e2, hL, hV, hG, hk0, hem, hml, hxl, rfl⟩
      obtain ⟨st, hs, hS⟩ := scr_get hcV hx
      obtain ⟨hlt, hst⟩ := List.getElem?_eq_some_iff.mp hs
      have hS2 := hS.keeps (sqT_same e2)
      have hdr := List.drop_eq_getElem_cons hlt
      rw [hst] at hdr
      have htt := tot_get hlt
      rw [hst] at htt
      have htt2 := tot_take_le ss (i + 1)
      have hwl : ws.length ≤ 1300 := by
        rw [hV.length, List.length_append]
        have : (kp k).length ≤ 1 := by unfold kp; split <;> simp
        omega
      cases st with
      | drop n =>
        obtain ⟨t, rfl, hT⟩ := hS2
        obtain ⟨g0, u0, rfl, hg0, hu0⟩ := hG
        refine ⟨t, _, rfl, hT, rfl, _, _, rfl, _, _, rfl, rfl, _, rfl, rfl, _, rfl, itd (fun _ => ?_) (fun h => absurd rfl h)⟩
        refine ⟨_, rfl, g0, _, _, .int (d : Int), rfl, rfl, hg0, rfl, _, rfl, _, _, rfl, rfl, _, rfl, g0, _, _, .ref u0, rfl, rfl, hg0, rfl, (by show 2 ≤ sizeLine; decide), fun g1 hg1 => ?_⟩
        have e3 := same_upd (o := .tup [V.int ((d : Int) + (n : Int)), V.ref u0]) hg1
        refine ⟨ws, em, k, d + n, xs, .ref g1, some (.str "drop"), some (.int (n : Int)), e2.trans e3, e3 _ _ hL, hV.keeps (sqT_same e3), ⟨g1, u0, rfl, ?_, sqT_same e3 _ _ hu0⟩, hk0, ?_, by omega, by omega, rfl⟩
        · rw [show ((d + n : Nat) : Int) = (d : Int) + (n : Int) by omega]
          exact SqT.of upd_same
        · rw [hdr] at hem
          exact hem
      | add ys =>
        obtain ⟨t, u1, rfl, hT, hU⟩ := hS2
        obtain ⟨g0, u0, rfl, hg0, hu0⟩ := hG
        simp only [Step.sz] at htt
        refine ⟨t, _, rfl, hT, rfl, _, _, rfl, _, _, rfl, rfl, _, rfl, rfl, _, rfl, itd (fun h => absurd h (by decide)) (fun _ => ?_)⟩
        refine ⟨_, rfl, rfl, _, rfl, itd (fun _ => ?_) (fun h => absurd rfl h)⟩
        refine ⟨_, rfl, g0, _, _, .int (d : Int), rfl, rfl, hg0, rfl, _, rfl, g0, _, _, .ref u0, rfl, rfl, hg0, rfl, _, rfl, u1, _, rfl, hU, catA hu0 hU (smallE (by rw [List.length_map, List.length_map]; omega)) fun p H3 e3 hP => ?_⟩
        refine ⟨(by show 2 ≤ sizeLine; decide), fun g1 hg1 => ?_⟩
        have e4 := same_upd (o := .tup [V.int (d : Int), V.ref p]) hg1
        rw [← List.map_append] at hP
        refine ⟨ws, em, k, d, xs ++ ys, .ref g1, some (.str "add"), some (.ref u1), (e2.trans e3).trans e4, (e3.trans e4) _ _ hL, hV.keeps (sqT_same (e3.trans e4)), ⟨g1, p, rfl, SqT.of upd_same, sqT_same e4 _ _ hP⟩, hk0, ?_, by omega, by rw [List.length_append]; omega, rfl⟩
        rw [hdr] at hem
        exact hem
      | keep n =>
        obtain ⟨t, rfl, hT⟩ := hS2
        have hn : 0 < n := hpos n (List.mem_of_getElem? hs)
        refine ⟨t, _, rfl, hT, rfl, _, _, rfl, _, _, rfl, rfl, _, rfl, rfl, _, rfl, itd (fun h => absurd h (by decide)) (fun _ => ?_)⟩
        refine ⟨_, rfl, rfl, _, rfl, itd (fun h => absurd h (by decide)) (fun _ => ?_)⟩
        refine ⟨_, rfl, _, rfl, l, g, ws, d, xs, rfl, hL, by omega, hG, fun H3 ws' fr hL3 hV' => ?_⟩
        have e3 := fr.same e2 hl0
        have hG3 := hG.keeps (fr.sqT hL)
        have hV3 := ScrV.app (hV.keeps (fr.sqT hL)) hV'
        have hwl2 : ws'.length ≤ 2 := by
          rw [hV'.length]
          unfold dr ad
          split <;> split <;> simp
        refine ⟨_, rfl, (by show 0 ≤ sizeLine; decide), fun u4 hu4 => ⟨(by show 2 ≤ sizeLine; decide), fun g4 hg4 => ?_⟩⟩
        have e4 := (same_upd (o := .tup []) hu4).trans (same_upd (o := .tup [V.int 0, V.ref u4]) hg4)
        have hG4 := hG3.keeps (sqT_same e4)
        have hV4 := hV3.keeps (sqT_same e4)
        have hL4 := e4 _ _ hL3
        have hZ : GapAt K (upd (upd H3 u4 (.tup [])) g4 (.tup [V.int 0, V.ref u4])) (.ref g4) 0 [] := ⟨g4, u4, rfl, SqT.of upd_same, SqT.of (same_upd hg4 _ _ upd_same)⟩
        generalize upd (upd H3 u4 (.tup [])) g4 (.tup [V.int 0, V.ref u4]) = H4 at e4 hG4 hV4 hL4 hZ ⊢
        refine ⟨_, _, dp_gap hG4, dp_gap hZ, shaped_gap _ _, shaped_gap _ _, _, rfl, ?_⟩
        rw [eqv_gap0]
        have hwlen : ws.length = em.length + (kp k).length := by rw [hV.length, List.length_append]
        refine itd (fun h => ⟨_, rfl, l, _, rfl, .inl (SqL.of hL4), _, _, rfl, rfl, _, rfl, itd (fun h2 => ?b1) (fun h2 => ?b2)⟩) (fun h => iteF ?b3)
        case b1 =>
          obtain ⟨rfl, rfl⟩ := h
          have hw0 : ws' = [] := List.eq_nil_of_length_eq_zero (by rw [hV'.length]; rfl)
          subst hw0
          rw [List.append_nil] at h2 hL4 hV4
          have hk : 0 < k := by
            rcases Nat.eq_zero_or_pos k with z | z
            · subst z
              rw [hk0 rfl] at hwlen
              rw [hwlen] at h2
              exact absurd h2 (by decide)
            · exact z
          rw [kpP hk] at hwlen hV4
          have hwl1 : em.length < ws.length := by
            rw [hwlen]
            exact Nat.lt_succ_self _
          obtain ⟨s0, hs0, hS0⟩ := scr_get hV4 (List.getElem?_eq_getElem hwl1)
          rw [show em ++ [Step.keep k] ++ (dr 0 ++ ad []) = em ++ [Step.keep k] by simp [dr0, ad0]] at hs0 hV4
          rw [List.getElem?_append_right (Nat.le_refl _), Nat.sub_self] at hs0
          cases hs0
          obtain ⟨t0, ht0, hT0⟩ := hS0
          have hat : atI ws (-1) = some (V.ref t0) := by
            rw [← ht0]
            exact at_last hwlen
          refine ⟨_, rfl, _, rfl, l, _, _, .ref t0, rfl, rfl, SqL.of hL4, hat, t0, _, _, .int (k : Int), rfl, rfl, hT0, rfl, _, rfl, _, _, rfl, rfl, (by show 2 ≤ sizeLine; decide), fun a5 ha5 => ?_⟩
          have e5 := same_upd (o := .tup [V.str "keep", V.int ((k : Int) + (n : Int))]) ha5
          have hL5 := e5 _ _ hL4
          refine ⟨_, rfl, _, rfl, l, _, _, em.length, rfl, rfl, hL5, ix_last hwlen, ?_⟩
          refine ⟨(by show 0 ≤ sizeLine; decide), fun u6 hu6 => ⟨(by show 2 ≤ sizeLine; decide), fun g6 hg6 => ?_⟩⟩
          have e6 := (same_upd (o := .tup []) hu6).trans (same_upd (o := .tup [V.int 0, V.ref u6]) hg6)
          have hS5 : StepAt K (upd H4 a5 (.tup [V.str "keep", V.int ((k : Int) + (n : Int))])) (.ref a5) (.keep (k + n)) := ⟨a5, rfl, by
            rw [show ((k + n : Nat) : Int) = (k : Int) + (n : Int) by omega]
            exact SqT.of upd_same⟩
          have hV5 := (((hV4.keeps (sqT_same e5)).set em.length hS5).keeps (sqT_lst (ws := ws.set em.length (.ref a5)) hL5)).keeps (sqT_same e6)
          rw [List.set_append_right _ _ (Nat.le_refl _), Nat.sub_self] at hV5
          refine ⟨ws.set em.length (.ref a5), em, k + n, 0, [], .ref g6, some (.str "keep"), some (.int (n : Int)), (same_new ((e3.trans e4).trans e5) hl0).trans e6, e6 _ _ upd_same, ?_, ⟨g6, u6, rfl, SqT.of upd_same, SqT.of (same_upd hg6 _ _ upd_same)⟩, fun z => by omega, ?_, by omega, Nat.zero_le _, rfl⟩
          · rw [kpP (by omega)]
            exact hV5
          · rw [hdr, nfS_keep] at hem
            exact hem
        case b2 | b3 =>
          have hem2 : (em ++ blk k d xs) ++ nfS n 0 [] (ss.drop (i + 1)) = nf ss := by
            rw [← hem, hdr]
            rcases gap_or d xs with g | ⟨rfl, rfl⟩
            · rw [nfS_flush g, List.append_assoc]
            · have hk : k = 0 := by
                rcases Nat.eq_zero_or_pos k with z | z
                · exact z
                · exfalso
                  first
                  | exact absurd ⟨rfl, rfl⟩ h
                  | (rw [kpP z] at hwlen
                     rw [List.length_append, hwlen] at h2
                     simp at h2
                     omega)
              subst hk
              rw [nfS_keep, Nat.zero_add]
              simp [blk, kp0, dr0, ad0]
          have hL4' := hL4
          refine ⟨_, rfl, .inl ⟨rfl, _, SqL.of hL4⟩, _, rfl, (by show 2 ≤ sizeLine; decide), fun a5 ha5 => ?_⟩
          have e5 := same_upd (o := .tup [V.str "keep", V.int (n : Int)]) ha5
          have hL5 := e5 _ _ hL4
          refine ⟨l, _, _, rfl, rfl, hL5, small (by rw [List.length_append]; omega), ?_⟩
          refine ⟨(by show 0 ≤ sizeLine; decide), fun u6 hu6 => ⟨(by show 2 ≤ sizeLine; decide), fun g6 hg6 => ?_⟩⟩
          have e6 := (same_upd (o := .tup []) hu6).trans (same_upd (o := .tup [V.int 0, V.ref u6]) hg6)
          have hS5 : StepAt K (upd H4 a5 (.tup [V.str "keep", V.int (n : Int)])) (.ref a5) (.keep n) := ⟨a5, rfl, SqT.of upd_same⟩
          have hV5 := ((ScrV.app (hV4.keeps (sqT_same e5)) (.cons hS5 .nil)).keeps (sqT_lst (ws := (ws ++ ws') ++ [.ref a5]) hL5)).keeps (sqT_same e6)
          have hbl := blk_len k d xs
          refine ⟨(ws ++ ws') ++ [.ref a5], em ++ blk k d xs, n, 0, [], .ref g6, some (.str "keep"), some (.int (n : Int)), (same_new ((e3.trans e4).trans e5) hl0).trans e6, e6 _ _ upd_same, ?_, ⟨g6, u6, rfl, SqT.of upd_same, SqT.of (same_upd hg6 _ _ upd_same)⟩, fun z => by omega, hem2, by rw [List.length_append]; omega, Nat.zero_le _, rfl⟩
          rw [kpP hn, blk]
          simp only [List.append_assoc] at hV5 ⊢
          exact hV5
    · rintro σ H2 ⟨ws, em, k, d, xs, g, v3, v4, e2, hL, hV, hG, hk0, hem, hml, hxl, rfl⟩
      rw [hcV.length, List.drop_length] at hem
      rw [hcV.length] at hml
      have hwl : ws.length ≤ 1300 := by
        rw [hV.length, List.length_append]
        have : (kp k).length ≤ 1 := by unfold kp; split <;> simp
        omega
      refine ⟨_, rfl, _, rfl, l, g, ws, d, xs, rfl, hL, by omega, hG, fun H3 ws' fr hL3 hV' => ⟨_, rfl, kQ l H3 (ws ++ ws') hl0 (fr.same e2 hl0) hL3 ?_⟩⟩
      rw [← hem]
      have := ScrV.app (hV.keeps (fr.sqT hL)) hV'
      rw [List.append_assoc, ← List.append_assoc (kp k)] at this
      exact this

-- @@CUT
def spIsInt : Sp := fun vs H Q _ => ∃ i : Int, vs = [.int i] ∧ Q (.bl true) H
theorem ok__law_is_int (T : Txt K mg C_ArchiveError C_InvalidScript c_taken_items c_made_items P_taken_items P_made_items) : Ok P w K mg base CX0 1 "_law_is_int" ["value"] spIsInt := by
  refine ok_of T.d__law_is_int fun f fd F => F.ok sc__law_is_int (fun vs H Q E h => ?_) (fun cdv A outer s H vs Q E hr h => ?_)
  · obtain ⟨i, rfl, _⟩ := h
    rfl
  · obtain ⟨i, rfl, q⟩ := h
    refine ⟨_,       (pss_one (ps_ret (pe_and (pe_callB call_isi (by rfl) T.n_isinstance (by decide +kernel) (pa_cons (pv 0) (pa_cons (pe_bltn (v := .ty "int") (by rfl) T.n_int (by decide +kernel) rfl) pa_nil))) (pe_one (pe_not (pe_callB call_isi (by rfl) T.n_isinstance (by decide +kernel) (pa_cons (pv 0) (pa_cons (pe_bltn (v := .ty "bool") (by rfl) T.n_bool (by decide +kernel) rfl) pa_nil)))))))), ?_⟩
    refine ⟨_, rfl, _, _, _, _, true, rfl, .ty _, .base (.int i), kit_ty (by decide +kernel), true, rfl, iteT ?_⟩
    exact ⟨_, rfl, _, _, _, _, false, rfl, .ty _, .base (.int i), kit_ty (by decide +kernel), false, rfl, q⟩

def spIsNormal (K : PySem.W.Frag) : Sp := fun vs H Q _ => ∃ (c : Addr) (ss : List Step), vs = [.ref c] ∧ ScrAt K H c ss ∧ nfOk "" ss ∧ Q (.bl true) H
theorem ok__law_is_normal (T : Txt K mg C_ArchiveError C_InvalidScript c_taken_items c_made_items P_taken_items P_made_items) : Ok P w K mg base CX0 2 "_law_is_normal" ["script"] (spIsNormal K) := by
  have G__law_is_int := ok__law_is_int (P := P) (w := w) (base := base) T
  refine ok_of T.d__law_is_normal fun f fd F => F.ok sc__law_is_normal (fun vs H Q E h => ?_) (fun cdv A outer s H vs Q E hr h => ?_)
  · obtain ⟨c, ss, rfl, _⟩ := h
    rfl
  · obtain ⟨c, ss, rfl, ⟨vs, hcL, hcV⟩, hN, kQ⟩ := h
    have nd := sc__law_is_normal.nd
    refine ⟨_,       (pss_cons (ps_if (pt_not (pt_val (pe_callB call_isi (by rfl) T.n_isinstance (by decide +kernel) (pa_cons (pv 0) (pa_cons (pe_bltn (v := .ty "list") (by rfl) T.n_list (by decide +kernel) rfl) pa_nil)))))
        (pss_one (ps_ret pe_bl)) pss_nil)
      (pss_cons (ps_set (i := 1) nd rfl (Or.inl rfl) pe_str)
      (pss_cons (ps_for PassesOwn.never rfl (pi_list (pv 0)) (pg_name (i := 2) nd rfl (Or.inl rfl))
        (pss_cons (ps_if (PW.pt (pw_or (pt_not (pt_val (pe_callB call_isi (by rfl) T.n_isinstance (by decide +kernel) (pa_cons (pv 2) (pa_cons (pe_bltn (v := .ty "tuple") (by rfl) T.n_tuple (by decide +kernel) rfl) pa_nil))))) (pw_or (pt_cmpR op_ne (pe_callB call_len_seq (by rfl) T.n_len PySem.boot_len (pa_cons (pv 2) pa_nil)) pe_int (nomark _)) (pw_or1 (pt_cmpR op_eq (pe_ix ix_tup (pv 2) pe_int (fun _ _ => rfl)) (pv 1) (nomark _))))))
          (pss_one (ps_ret pe_bl)) pss_nil)
        (pss_cons (ps_if (pt_cmpR op_eq (pe_ix ix_tup (pv 2) pe_int (fun _ _ => rfl)) pe_str (nomark _))
          (pss_one (ps_if (PW.pt (pw_or (pt_not (pt_val (pe_callB call_isi (by rfl) T.n_isinstance (by decide +kernel) (pa_cons (pe_ix ix_tup (pv 2) pe_int (fun _ _ => rfl)) (pa_cons (pe_bltn (v := .ty "tuple") (by rfl) T.n_tuple (by decide +kernel) rfl) pa_nil))))) (pw_or1 (pt_cmpR op_eq (pe_callB call_len_seq (by rfl) T.n_len PySem.boot_len (pa_cons (pe_ix ix_tup (pv 2) pe_int (fun _ _ => rfl)) pa_nil)) pe_int (nomark _)))))
            (pss_one (ps_ret pe_bl)) pss_nil))
          (pss_one (ps_if (PW.pt (pw_and (pt_cmpR op_ne (pe_ix ix_tup (pv 2) pe_int (fun _ _ => rfl)) pe_str (nomark _)) (pw_and1 (pt_cmpR op_ne (pe_ix ix_tup (pv 2) pe_int (fun _ _ => rfl)) pe_str (nomark _)))))
            (pss_one (ps_ret pe_bl))
            (pss_one (ps_if (PW.pt (pw_or (pt_not (pt_val (pe_callO G__law_is_int (hr.mono (by decide)) pass0 (pa_cons (pe_ix ix_tup (pv 2) pe_int (fun _ _ => rfl)) pa_nil)))) (pw_or (pt_cmpR op_lt (pe_ix ix_tup (pv 2) pe_int (fun _ _ => rfl)) pe_int (nomark _)) (pw_or1 (PW.pt (pw_and (pt_cmpR op_eq (pe_ix ix_tup (pv 2) pe_int (fun _ _ => rfl)) pe_str (nomark _)) (pw_and1 (pt_cmpR op_eq (pv 1) pe_str (nomark _)))))))))
              (pss_one (ps_ret pe_bl)) pss_nil)))))
        (pss_one (ps_set (i := 1) nd rfl (Or.inl rfl) (pe_ix ix_tup (pv 2) pe_int (fun _ _ => rfl)))))))
      (pss_one (ps_ret pe_bl))))), ?_⟩
    refine ⟨_, rfl, _, _, _, _, true, rfl, .ty _, tyx_list hcL, kit_ty (by decide +kernel), true, rfl, iteF ?_⟩
    refine ⟨_, rfl, c, rfl, ⟨_, hcL⟩, for_list (K := K) (a := c) (xs := vs) (fun i σ H' => ∃ (b : Str) (v2 : Option V), H = H' ∧ nfOk b (ss.drop i) ∧ σ = [some (.ref c), some (.str b), v2]) ⟨"", none, rfl, hN, rfl⟩ (fun i σ H' _ ⟨_, _, e, _⟩ => e ▸ hcL) ?_ ?_⟩
    · rintro i x σ H2 hx ⟨b, v2, rfl, hn, rfl⟩
      obtain ⟨st, hs, hS⟩ := scr_get hcV hx
      obtain ⟨hlt, hst⟩ := List.getElem?_eq_some_iff.mp hs
      have hdr := List.drop_eq_getElem_cons hlt
      rw [hst] at hdr
      rw [hdr] at hn
      obtain ⟨h1, h2, h3, h4⟩ := hn
      cases st with
      | add xs =>
        obtain ⟨t, u, rfl, hT, hU⟩ := hS
        refine ⟨_, rfl, _, _, _, _, true, rfl, .ty _, tyx_tuple hT, kit_ty (by decide +kernel), true, rfl, iteF ?_⟩
        refine ⟨_, rfl, t, _, rfl, .inr hT, rfl, nm_noG rfl ?_⟩
        refine ⟨_, rfl, t, _, _, .str "add", rfl, rfl, hT, rfl, _, rfl, rfl, _, rfl, itd (fun h => absurd (by injection h) h1) (fun _ => ?_)⟩
        refine ⟨_, rfl, t, _, _, .str "add", rfl, rfl, hT, rfl, rfl, _, rfl, itd (fun _ => ?_) (fun h => absurd rfl h)⟩
        refine ⟨_, rfl, t, _, _, .ref u, rfl, rfl, hT, rfl, _, _, _, _, true, rfl, .ty _, tyx_tuple hU, kit_ty (by decide +kernel), true, rfl, iteF ?_⟩
        have hx0 : 0 < xs.length := h2
        refine ⟨_, rfl, t, _, _, .ref u, rfl, rfl, hT, rfl, u, _, rfl, .inr hU, rfl, _, rfl, itd (fun h => ?_) (fun _ => ?_)⟩
        · injection h with h
          rw [List.length_map] at h
          omega
        exact ⟨_, rfl, t, _, _, .str "add", rfl, rfl, hT, rfl, "add", some (.ref t), rfl, h4, rfl⟩
      | keep n =>
        obtain ⟨t, rfl, hT⟩ := hS
        refine ⟨_, rfl, _, _, _, _, true, rfl, .ty _, tyx_tuple hT, kit_ty (by decide +kernel), true, rfl, iteF ?_⟩
        refine ⟨_, rfl, t, _, rfl, .inr hT, rfl, nm_noG rfl ?_⟩
        refine ⟨_, rfl, t, _, _, .str "keep", rfl, rfl, hT, rfl, _, rfl, rfl, _, rfl, itd (fun h => absurd (by injection h) h1) (fun _ => ?_)⟩
        refine ⟨_, rfl, t, _, _, .str "keep", rfl, rfl, hT, rfl, rfl, _, rfl, itd (fun h => absurd h (by decide)) (fun _ => ?_)⟩
        refine ⟨_, rfl, t, _, _, .str "keep", rfl, rfl, hT, rfl, rfl, nm_noG rfl ?_⟩
        have hn0 : 0 < n := h2
        refine iteF ?_
        refine ⟨_, rfl, t, _, _, .int (n : Int), rfl, rfl, hT, rfl, (n : Int), rfl, true, rfl, iteF ?_⟩
        refine ⟨_, rfl, t, _, _, .int (n : Int), rfl, rfl, hT, rfl, _, _, rfl, rfl, _, rfl, itd (fun h => absurd h (by omega)) (fun _ => ?_)⟩
        refine ⟨_, rfl, t, _, _, .str "keep", rfl, rfl, hT, rfl, rfl, _, rfl, itd (fun h => absurd h (by decide)) (fun _ => iteF ?_)⟩
        exact ⟨_, rfl, t, _, _, .str "keep", rfl, rfl, hT, rfl, "keep", some (.ref t), rfl, h4, rfl⟩
      | drop n =>
        obtain ⟨t, rfl, hT⟩ := hS
        refine ⟨_, rfl, _, _, _, _, true, rfl, .ty _, tyx_tuple hT, kit_ty (by decide +kernel), true, rfl, iteF ?_⟩
        refine ⟨_, rfl, t, _, rfl, .inr hT, rfl, nm_noG rfl ?_⟩
        refine ⟨_, rfl, t, _, _, .str "drop", rfl, rfl, hT, rfl, _, rfl, rfl, _, rfl, itd (fun h => absurd (by injection h) h1) (fun _ => ?_)⟩
        refine ⟨_, rfl, t, _, _, .str "drop", rfl, rfl, hT, rfl, rfl, _, rfl, itd (fun h => absurd h (by decide)) (fun _ => ?_)⟩
        refine ⟨_, rfl, t, _, _, .str "drop", rfl, rfl, hT, rfl, rfl, _, rfl, itn (fun _ => ?_) (fun h => absurd h (by decide))⟩
        refine ⟨_, rfl, t, _, _, .str "drop", rfl, rfl, hT, rfl, rfl, nm_noG rfl ?_⟩
        have hn0 : 0 < n := h2
        refine ⟨_, rfl, t, _, _, .int (n : Int), rfl, rfl, hT, rfl, (n : Int), rfl, true, rfl, iteF ?_⟩
        refine ⟨_, rfl, t, _, _, .int (n : Int), rfl, rfl, hT, rfl, _, _, rfl, rfl, _, rfl, itd (fun h => absurd h (by omega)) (fun _ => ?_)⟩
        refine ⟨_, rfl, t, _, _, .str "drop", rfl, rfl, hT, rfl, rfl, _, rfl, itd (fun _ => ?_) (fun h => absurd rfl h)⟩
        refine ⟨_, rfl, rfl, _, rfl, itd (fun h => absurd (by injection h) (h3 rfl)) (fun _ => ?_)⟩
        exact ⟨_, rfl, t, _, _, .str "drop", rfl, rfl, hT, rfl, "drop", some (.ref t), rfl, h4, rfl⟩
    · rintro σ H2 ⟨b, v2, rfl, hn, rfl⟩
      exact kQ

-- @@CUT
def Alike (A B : List Step) : Prop := ∀ k d xs, nfS k d xs A = nfS k d xs B
theorem Alike.refl (A : List Step) : Alike A A := fun _ _ _ => rfl
theorem Alike.trans {A B C : List Step} (h1 : Alike A B) (h2 : Alike B C) : Alike A C := fun k d xs => (h1 k d xs).trans (h2 k d xs)
theorem Alike.symm {A B : List Step} (h1 : Alike A B) : Alike B A := fun k d xs => (h1 k d xs).symm
theorem Alike.cons {A B : List Step} (s : Step) (h : Alike A B) : Alike (s :: A) (s :: B) := fun k d xs => by
  cases s with
  | keep n =>
    rcases gap_or d xs with g | ⟨rfl, rfl⟩
    · rw [nfS_flush g, nfS_flush g, h]
    · rw [nfS_keep, nfS_keep, h]
  | drop n => exact h _ _ _
  | add ys => exact h _ _ _
theorem Alike.app {A B : List Step} : ∀ (P : List Step), Alike A B → Alike (P ++ A) (P ++ B)
  | [], h => h
  | s :: P, h => (Alike.app P h).cons s

theorem alike_ad (x : List Int) (T : List Step) : Alike (ad x ++ T) (.add x :: T) := fun k d xs => by
  by_cases h : x.length ≠ 0
  · rw [adP h]
    rfl
  · have h0 : x = [] := List.eq_nil_of_length_eq_zero (by omega)
    subst h0
    show nfS k d xs T = nfS k d (xs ++ []) T
    rw [List.append_nil]
theorem alike_add0 (T : List Step) : Alike (.add [] :: T) T := fun k d xs => by
  show nfS k d (xs ++ []) T = _
  rw [List.append_nil]
theorem nfS_keeps (T : List Step) : ∀ (m k : Nat), nfS k 0 [] (List.replicate m (.keep 1) ++ T) = nfS (k + m) 0 [] T
  | 0, k => by simp
  | m + 1, k => by
    rw [List.replicate_succ, List.cons_append, nfS_keep, nfS_keeps T m (k + 1), show k + 1 + m = k + (m + 1) by omega]
theorem nfS_drops (T : List Step) : ∀ (m k d : Nat) (xs : List Int), nfS k d xs (List.replicate m (.drop 1) ++ T) = nfS k (d + m) xs T
  | 0, k, d, xs => by simp
  | m + 1, k, d, xs => by
    rw [List.replicate_succ]
    show nfS k (d + 1) xs (List.replicate m (.drop 1) ++ T) = _
    rw [nfS_drops T m k (d + 1) xs, show d + 1 + m = d + (m + 1) by omega]
theorem alike_keeps (m : Nat) (T : List Step) : Alike (List.replicate (m + 1) (.keep 1) ++ T) (.keep (m + 1) :: T) := fun k d xs => by
  rw [List.replicate_succ, List.cons_append]
  rcases gap_or d xs with g | ⟨rfl, rfl⟩
  · rw [nfS_flush g, nfS_flush g, nfS_keeps, Nat.add_comm]
  · rw [nfS_keep, nfS_keep, nfS_keeps, show k + 1 + m = k + (m + 1) by omega]
theorem alike_drops (m : Nat) (T : List Step) : Alike (List.replicate (m + 1) (.drop 1) ++ T) (.drop (m + 1) :: T) := fun k d xs => nfS_drops T (m + 1) k d xs
theorem nfOk_pos : ∀ {ss : List Step} {b : Str}, nfOk b ss → PosS ss
  | [], _, _, s, hs => nomatch hs
  | s :: r, b, h, x, hx => by
    rcases List.mem_cons.mp hx with e | e
    · rw [e]
      exact h.2.1
    · exact nfOk_pos h.2.2.2 x e

/-! ### splitting a script, and following its items -/
def made : List Step → Nat
  | [] => 0
  | s :: ss => s.mk' + made ss
theorem made_app : ∀ (a b : List Step), made (a ++ b) = made a + made b
  | [], b => by simp [made]
  | s :: a, b => by
    show s.mk' + made (a ++ b) = s.mk' + made a + made b
    rw [made_app a b]
    omega
theorem made_snoc (a : List Step) (s : Step) : made (a ++ [s]) = made a + s.mk' := by
  rw [made_app]
  rfl
theorem run_made : ∀ (W : List Step) (o : List Int), taken W ≤ o.length → (run o W).length = made W
  | [], _, _ => rfl
  | s :: W, o, h => by
    have h : s.tk + taken W ≤ o.length := h
    have ih := run_made W (o.drop s.tk) (by rw [List.length_drop]; omega)
    show (piece o s ++ run (o.drop s.tk) W).length = s.mk' + made W
    rw [List.length_append, ih]
    cases s with
    | keep n => simp only [piece, Step.mk', Step.tk, List.length_take] at *; omega
    | drop n => simp [piece, Step.mk']
    | add xs => simp [piece, Step.mk']
def cutA : Step → Nat → Step
  | .keep _, n => .keep n
  | .drop c, _ => .drop c
  | .add xs, n => .add (xs.take n)
def cutB : Step → Nat → Step
  | .keep c, n => .keep (c - n)
  | .drop _, _ => .drop 0
  | .add xs, n => .add (xs.drop n)
def splitN : Nat → List Step → List Step × List Step
  | 0, W => ([], W)
  | _ + 1, [] => ([], [])
  | n + 1, s :: W => if n + 1 < s.mk' then ([cutA s (n + 1)], cutB s (n + 1) :: W) else (s :: (splitN (n + 1 - s.mk') W).1, (splitN (n + 1 - s.mk') W).2)
theorem splitN_zero (W : List Step) : splitN 0 W = ([], W) := by cases W <;> rfl
theorem splitN_cut {n : Nat} {s : Step} {W : List Step} (hn : 0 < n) (h : n < s.mk') : splitN n (s :: W) = ([cutA s n], cutB s n :: W) := by
  obtain ⟨m, rfl⟩ : ∃ m, n = m + 1 := ⟨n - 1, by omega⟩
  rw [splitN, if_pos h]
theorem splitN_take {n : Nat} {s : Step} {W : List Step} (hn : 0 < n) (h : ¬ n < s.mk') : splitN n (s :: W) = (s :: (splitN (n - s.mk') W).1, (splitN (n - s.mk') W).2) := by
  obtain ⟨m, rfl⟩ : ∃ m, n = m + 1 := ⟨n - 1, by omega⟩
  rw [splitN, if_neg h]
theorem splitN_made : ∀ (W : List Step) (n : Nat), n ≤ made W → made (splitN n W).1 = n ∧ made (splitN n W).2 = made W - n
  | W, 0, _ => by rw [splitN_zero]; exact ⟨rfl, rfl⟩
  | [], n + 1, h => by simp [made] at h
  | s :: W, n + 1, h => by
    have h : n + 1 ≤ s.mk' + made W := h
    by_cases c : n + 1 < s.mk'
    · rw [splitN_cut (by omega) c]
      cases s with
      | keep k =>
        simp only [Step.mk'] at c h
        show n + 1 + 0 = n + 1 ∧ k - (n + 1) + made W = k + made W - (n + 1)
        omega
      | drop k => simp [Step.mk'] at c
      | add xs =>
        simp only [Step.mk'] at c h
        show (xs.take (n + 1)).length + 0 = n + 1 ∧ (xs.drop (n + 1)).length + made W = xs.length + made W - (n + 1)
        rw [List.length_take, List.length_drop]
        omega
    · rw [splitN_take (by omega) c]
      have ih := splitN_made W (n + 1 - s.mk') (by omega)
      simp only [made]
      omega
theorem splitN_sum (f : Step → Nat) (F : List Step → Nat) (h0 : F [] = 0) (h1 : ∀ s r, F (s :: r) = f s + F r) (hc : ∀ s n, n < s.mk' → f (cutA s n) + f (cutB s n) = f s) : ∀ (W : List Step) (n : Nat), F (splitN n W).1 + F (splitN n W).2 = F W
  | W, 0 => by rw [splitN_zero, h0, Nat.zero_add]
  | [], n + 1 => by rw [splitN, h0]
  | s :: W, n + 1 => by
    by_cases c : n + 1 < s.mk'
    · rw [splitN_cut (by omega) c, h1, h0, h1, h1, ← hc s (n + 1) c]
      omega
    · have ih := splitN_sum f F h0 h1 hc W (n + 1 - s.mk')
      rw [splitN_take (by omega) c, h1, h1]
      show f s + F (splitN (n + 1 - s.mk') W).1 + F (splitN (n + 1 - s.mk') W).2 = _
      omega
theorem splitN_taken (W : List Step) (n : Nat) : taken (splitN n W).1 + taken (splitN n W).2 = taken W := splitN_sum Step.tk taken rfl (fun _ _ => rfl) (fun s n h => by
  cases s with
  | keep k => simp only [cutA, cutB, Step.tk, Step.mk'] at *; omega
  | drop k => simp [Step.mk'] at h
  | add xs => rfl) W n
theorem splitN_tot (W : List Step) (n : Nat) : tot (splitN n W).1 + tot (splitN n W).2 = tot W := splitN_sum Step.sz tot rfl (fun _ _ => rfl) (fun s n h => by
  cases s with
  | keep k => simp only [cutA, cutB, Step.sz, Step.mk'] at *; omega
  | drop k => simp [Step.mk'] at h
  | add xs => simp only [cutA, cutB, Step.sz, Step.mk', List.length_take, List.length_drop] at *; omega) W n
theorem splitN_len : ∀ (W : List Step) (n : Nat), (splitN n W).1.length + (splitN n W).2.length ≤ W.length + 1
  | W, 0 => by rw [splitN_zero]; simp
  | [], n + 1 => by rw [splitN]; simp
  | s :: W, n + 1 => by
    by_cases c : n + 1 < s.mk'
    · rw [splitN_cut (by omega) c]
      simp
      omega
    · rw [splitN_take (by omega) c]
      have ih := splitN_len W (n + 1 - s.mk')
      simp only [List.length_cons]
      omega
theorem splitN_pos : ∀ (W : List Step) (n : Nat), PosS W → PosS (splitN n W).1 ∧ PosS (splitN n W).2
  | W, 0, h => by rw [splitN_zero]; exact ⟨(fun _ z => nomatch z), h⟩
  | [], n + 1, h => by rw [splitN]; exact ⟨h, h⟩
  | s :: W, n + 1, h => by
    have hW : PosS W := fun x hx => h x (List.mem_cons_of_mem _ hx)
    by_cases c : n + 1 < s.mk'
    · rw [splitN_cut (by omega) c]
      refine ⟨PosS.one ?_, fun x hx => ?_⟩
      · cases s with
        | keep k => simp [cutA, Step.sz]
        | drop k => simp [Step.mk'] at c
        | add xs => simp only [cutA, Step.sz, Step.mk', List.length_take] at *; omega
      · rcases List.mem_cons.mp hx with e | e
        · rw [e]
          cases s with
          | keep k => simp only [cutB, Step.sz, Step.mk'] at *; omega
          | drop k => simp [Step.mk'] at c
          | add xs => simp only [cutB, Step.sz, Step.mk', List.length_drop] at *; omega
        · exact hW x e
    · rw [splitN_take (by omega) c]
      have ih := splitN_pos W (n + 1 - s.mk') hW
      refine ⟨fun x hx => ?_, ih.2⟩
      rcases List.mem_cons.mp hx with e | e
      · rw [e]
        exact h s List.mem_cons_self
      · exact ih.1 x e
theorem splitN_run : ∀ (W : List Step) (n : Nat) (o : List Int), run o ((splitN n W).1 ++ (splitN n W).2) = run o W
  | W, 0, o => by rw [splitN_zero]; rfl
  | [], n + 1, o => by rw [splitN]; rfl
  | s :: W, n + 1, o => by
    by_cases c : n + 1 < s.mk'
    · rw [splitN_cut (by omega) c]
      cases s with
      | keep k =>
        simp only [Step.mk'] at c
        show o.take (n + 1) ++ ((o.drop (n + 1)).take (k - (n + 1)) ++ run ((o.drop (n + 1)).drop (k - (n + 1))) W) = o.take k ++ run (o.drop k) W
        rw [← List.append_assoc, ← List.take_add, List.drop_drop, show n + 1 + (k - (n + 1)) = k by omega]
      | drop k => simp [Step.mk'] at c
      | add xs =>
        show xs.take (n + 1) ++ (xs.drop (n + 1) ++ run (o.drop 0) W) = xs ++ run o W
        rw [← List.append_assoc, List.take_append_drop]
        rfl
    · rw [splitN_take (by omega) c]
      show piece o s ++ run (o.drop s.tk) ((splitN (n + 1 - s.mk') W).1 ++ (splitN (n + 1 - s.mk') W).2) = piece o s ++ run (o.drop s.tk) W
      rw [splitN_run W (n + 1 - s.mk') (o.drop s.tk)]
/-- what the squash writes -/
def PG : List Step → List Step → List Step
  | [], W => W
  | .add xs :: r, W => .add xs :: PG r W
  | .keep n :: r, W => (splitN n W).1 ++ PG r (splitN n W).2
  | .drop n :: r, W => .drop (taken (splitN n W).1) :: PG r (splitN n W).2
theorem PG_taken : ∀ (S W : List Step), taken (PG S W) = taken W
  | [], _ => rfl
  | .add xs :: r, W => by
    show 0 + taken (PG r W) = _
    rw [PG_taken r W, Nat.zero_add]
  | .keep n :: r, W => by
    show taken ((splitN n W).1 ++ PG r (splitN n W).2) = _
    rw [taken_app, PG_taken r, splitN_taken]
  | .drop n :: r, W => by
    show taken (splitN n W).1 + taken (PG r (splitN n W).2) = _
    rw [PG_taken r, splitN_taken]
theorem taken_tot : ∀ W : List Step, taken W ≤ tot W
  | [] => Nat.le_refl _
  | s :: W => by
    have ih := taken_tot W
    show s.tk + taken W ≤ s.sz + tot W
    cases s <;> simp only [Step.tk, Step.sz] <;> omega
theorem PG_tot : ∀ (S W : List Step), tot (PG S W) ≤ tot W + tot S
  | [], _ => Nat.le_refl _
  | .add xs :: r, W => by
    have := PG_tot r W
    show xs.length + tot (PG r W) ≤ tot W + (xs.length + tot r)
    omega
  | .keep n :: r, W => by
    have := PG_tot r (splitN n W).2
    have h := splitN_tot W n
    show tot ((splitN n W).1 ++ PG r (splitN n W).2) ≤ tot W + (n + tot r)
    rw [tot_app]
    omega
  | .drop n :: r, W => by
    have := PG_tot r (splitN n W).2
    have h := splitN_tot W n
    have h2 := taken_tot (splitN n W).1
    show taken (splitN n W).1 + tot (PG r (splitN n W).2) ≤ tot W + (n + tot r)
    omega
theorem PG_len : ∀ (S W : List Step), (PG S W).length ≤ W.length + 2 * S.length
  | [], _ => Nat.le_refl _
  | .add xs :: r, W => by
    have := PG_len r W
    show (PG r W).length + 1 ≤ W.length + 2 * (r.length + 1)
    omega
  | .keep n :: r, W => by
    have := PG_len r (splitN n W).2
    have h := splitN_len W n
    show ((splitN n W).1 ++ PG r (splitN n W).2).length ≤ W.length + 2 * (r.length + 1)
    rw [List.length_append]
    omega
  | .drop n :: r, W => by
    have := PG_len r (splitN n W).2
    have h := splitN_len W n
    show (PG r (splitN n W).2).length + 1 ≤ W.length + 2 * (r.length + 1)
    omega
theorem PG_posk : ∀ (S W : List Step), PosS W → ∀ k, Step.keep k ∈ PG S W → 0 < k
  | [], W, h, k, hk => h _ hk
  | .add xs :: r, W, h, k, hk => by
    rcases List.mem_cons.mp hk with e | e
    · cases e
    · exact PG_posk r W h k e
  | .keep n :: r, W, h, k, hk => by
    have q := splitN_pos W n h
    rcases List.mem_append.mp hk with e | e
    · exact q.1 _ e
    · exact PG_posk r _ q.2 k e
  | .drop n :: r, W, h, k, hk => by
    have q := splitN_pos W n h
    rcases List.mem_cons.mp hk with e | e
    · cases e
    · exact PG_posk r _ q.2 k e
theorem PG_run : ∀ (S W : List Step) (o : List Int), taken W = o.length → taken S = made W → run o (PG S W) = run (run o W) S
  | [], W, o, h1, h2 => by
    have := run_made W o (by omega)
    exact List.eq_nil_of_length_eq_zero (show (run o W).length = 0 by rw [this]; exact h2.symm)
  | .add xs :: r, W, o, h1, h2 => by
    show xs ++ run (o.drop 0) (PG r W) = xs ++ run ((run o W).drop 0) r
    rw [List.drop_zero, List.drop_zero, PG_run r W o h1 (by rw [← h2]; show _ = 0 + taken r; omega)]
  | .keep n :: r, W, o, h1, h2 => by
    have h2 : n + taken r = made W := h2
    have hm := splitN_made W n (by omega)
    have ht := splitN_taken W n
    have hr : run o W = run o (splitN n W).1 ++ run (o.drop (taken (splitN n W).1)) (splitN n W).2 := by rw [← run_app, splitN_run]
    have hl := run_made (splitN n W).1 o (by omega)
    show run o ((splitN n W).1 ++ PG r (splitN n W).2) = (run o W).take n ++ run ((run o W).drop n) r
    rw [run_app, PG_run r _ _ (by rw [List.length_drop]; omega) (by omega), hr, List.take_left' (by omega), List.drop_left' (by omega)]
  | .drop n :: r, W, o, h1, h2 => by
    have h2 : n + taken r = made W := h2
    have hm := splitN_made W n (by omega)
    have ht := splitN_taken W n
    have hr : run o W = run o (splitN n W).1 ++ run (o.drop (taken (splitN n W).1)) (splitN n W).2 := by rw [← run_app, splitN_run]
    have hl := run_made (splitN n W).1 o (by omega)
    show [] ++ run (o.drop (taken (splitN n W).1)) (PG r (splitN n W).2) = [] ++ run ((run o W).drop n) r
    rw [PG_run r _ _ (by rw [List.length_drop]; omega) (by omega), hr, List.drop_left' (by omega)]
/-! #### item by item -/
inductive Un where
  | k
  | d
  | a (x : Int)
  deriving DecidableEq
def un1 : Step → List Un
  | .keep n => List.replicate n .k
  | .drop n => List.replicate n .d
  | .add xs => xs.map .a
def uns (W : List Step) : List Un := W.flatMap un1
theorem uns_cons (s : Step) (W : List Step) : uns (s :: W) = un1 s ++ uns W := rfl
theorem uns_snoc (W : List Step) (s : Step) : uns (W ++ [s]) = uns W ++ un1 s := by simp [uns]
theorem un1_len (s : Step) : (un1 s).length = s.sz := by cases s <;> simp [un1, Step.sz]
theorem uns_len : ∀ W : List Step, (uns W).length = tot W
  | [] => rfl
  | s :: W => by
    rw [uns_cons, List.length_append, un1_len, uns_len W]
    rfl
def eb (b : Bool) : Un → List Step
  | .k => [if b = true then .keep 1 else .drop 1]
  | .d => [.drop 1]
  | .a x => if b = true then [.add [x]] else []
def folN (b : Bool) : Nat → List Un → List Step × List Un
  | 0, R => ([], R)
  | _ + 1, [] => ([], [])
  | n + 1, .d :: R => (.drop 1 :: (folN b (n + 1) R).1, (folN b (n + 1) R).2)
  | n + 1, .k :: R => (eb b .k ++ (folN b n R).1, (folN b n R).2)
  | n + 1, .a x :: R => (eb b (.a x) ++ (folN b n R).1, (folN b n R).2)
theorem folN_zero (b : Bool) (R : List Un) : folN b 0 R = ([], R) := by cases R <;> rfl
theorem folN_d {b : Bool} {n : Nat} {R : List Un} (h : 0 < n) : folN b n (.d :: R) = (.drop 1 :: (folN b n R).1, (folN b n R).2) := by
  obtain ⟨m, rfl⟩ : ∃ m, n = m + 1 := ⟨n - 1, by omega⟩
  rw [folN]
theorem folN_u {b : Bool} {n : Nat} {u : Un} {R : List Un} (h : u ≠ .d) : folN b (n + 1) (u :: R) = (eb b u ++ (folN b n R).1, (folN b n R).2) := by
  cases u with
  | k => rw [folN]
  | d => exact absurd rfl h
  | a x => rw [folN]
theorem folN_ds {b : Bool} {n : Nat} (h : 0 < n) (R : List Un) : ∀ c : Nat, folN b n (List.replicate c .d ++ R) = (List.replicate c (.drop 1) ++ (folN b n R).1, (folN b n R).2)
  | 0 => by simp
  | c + 1 => by
    rw [List.replicate_succ, List.cons_append, folN_d h, folN_ds h R c, List.replicate_succ]
    rfl
theorem folN_us {b : Bool} (R : List Un) : ∀ (L : List Un) (m : Nat), (∀ u ∈ L, u ≠ .d) → L.length ≤ m → folN b m (L ++ R) = (L.flatMap (eb b) ++ (folN b (m - L.length) R).1, (folN b (m - L.length) R).2)
  | [], m, _, _ => by simp
  | u :: L, m, h, hm => by
    obtain ⟨m, rfl⟩ : ∃ n, m = n + 1 := ⟨m - 1, by simp at hm; omega⟩
    rw [List.cons_append, folN_u (h u List.mem_cons_self), folN_us R L m (fun x hx => h x (List.mem_cons_of_mem _ hx)) (by simpa using hm), List.flatMap_cons, List.length_cons, show m + 1 - (L.length + 1) = m - L.length by omega, List.append_assoc]
theorem folN_ut {b : Bool} (R : List Un) : ∀ (L : List Un) (m : Nat), (∀ u ∈ L, u ≠ .d) → m ≤ L.length → folN b m (L ++ R) = ((L.take m).flatMap (eb b), L.drop m ++ R)
  | L, 0, _, _ => by rw [folN_zero]; rfl
  | [], m + 1, _, h => by simp at h
  | u :: L, m + 1, h, hm => by
    rw [List.cons_append, folN_u (h u List.mem_cons_self), folN_ut R L m (fun x hx => h x (List.mem_cons_of_mem _ hx)) (by simpa using hm)]
    rfl
theorem folN_split {b : Bool} : ∀ (W : List Step) (n : Nat), n ≤ made W → folN b n (uns W) = ((uns (splitN n W).1).flatMap (eb b), uns (splitN n W).2)
  | W, 0, _ => by rw [splitN_zero, folN_zero]; rfl
  | [], n + 1, h => by simp [made] at h
  | s :: W, n + 1, h => by
    have h : n + 1 ≤ s.mk' + made W := h
    have nod : ∀ (hs : ∀ c, s ≠ .drop c), (∀ u ∈ un1 s, u ≠ .d) ∧ (un1 s).length = s.mk' := fun hs => by
      cases s with
      | keep c => exact ⟨(fun u hu e => by rw [List.eq_of_mem_replicate hu] at e; cases e), by simp [un1, Step.mk']⟩
      | drop c => exact absurd rfl (hs c)
      | add xs => exact ⟨(fun u hu e => by obtain ⟨x, _, q⟩ := List.mem_map.mp hu; rw [← q] at e; cases e), by simp [un1, Step.mk']⟩
    rw [uns_cons]
    by_cases c : n + 1 < s.mk'
    · have hs : ∀ z, s ≠ .drop z := fun z e => by rw [e] at c; simp [Step.mk'] at c
      obtain ⟨q1, q2⟩ := nod hs
      rw [splitN_cut (by omega) c, folN_ut _ _ _ q1 (by omega)]
      cases s with
      | keep z =>
        simp only [Step.mk'] at c
        refine Prod.ext ?_ ?_
        · show ((List.replicate z Un.k).take (n + 1)).flatMap (eb b) = (uns [.keep (n + 1)]).flatMap (eb b)
          rw [List.take_replicate, show min (n + 1) z = n + 1 by omega]
          simp [uns, un1]
        · show (List.replicate z Un.k).drop (n + 1) ++ uns W = List.replicate (z - (n + 1)) Un.k ++ uns W
          rw [List.drop_replicate]
      | drop z => exact absurd rfl (hs z)
      | add xs =>
        refine Prod.ext ?_ ?_
        · show ((xs.map Un.a).take (n + 1)).flatMap (eb b) = (uns [.add (xs.take (n + 1))]).flatMap (eb b)
          rw [← List.map_take]
          simp [uns, un1]
        · show (xs.map Un.a).drop (n + 1) ++ uns W = (xs.drop (n + 1)).map Un.a ++ uns W
          rw [List.map_drop]
    · rw [splitN_take (by omega) c]
      have ih := folN_split (b := b) W (n + 1 - s.mk') (by omega)
      by_cases hd : ∃ z, s = .drop z
      · obtain ⟨z, rfl⟩ := hd
        show folN b (n + 1) (List.replicate z Un.d ++ uns W) = ((List.replicate z Un.d ++ uns _).flatMap (eb b), _)
        rw [folN_ds (by omega)]
        have e : n + 1 - (Step.drop z).mk' = n + 1 := rfl
        rw [e] at ih ⊢
        rw [ih, List.flatMap_append]
        have er : ∀ z : Nat, (List.replicate z Un.d).flatMap (eb b) = List.replicate z (.drop 1) := fun z => by
          induction z with
          | zero => rfl
          | succ z iz => rw [List.replicate_succ, List.flatMap_cons, iz, List.replicate_succ]; rfl
        rw [er]
      · obtain ⟨q1, q2⟩ := nod fun z e => hd ⟨z, e⟩
        rw [folN_us _ _ _ q1 (by omega), q2, ih]
        show _ = ((un1 s ++ uns _).flatMap (eb b), _)
        rw [List.flatMap_append]
def fol : List Step → List Un → List Step
  | [], R => R.map fun _ => .drop 1
  | .add xs :: r, R => .add xs :: fol r R
  | .keep n :: r, R => (folN true n R).1 ++ fol r (folN true n R).2
  | .drop n :: r, R => (folN false n R).1 ++ fol r (folN false n R).2
theorem alike_adds (T : List Step) : ∀ (xs : List Int), Alike (xs.map (fun x => Step.add [x]) ++ T) (.add xs :: T)
  | [] => (alike_add0 T).symm
  | x :: xs => fun k d ys => by
    show nfS k d (ys ++ [x]) (xs.map (fun x => Step.add [x]) ++ T) = nfS k d (ys ++ x :: xs) T
    rw [alike_adds T xs]
    show nfS k d ((ys ++ [x]) ++ xs) T = _
    rw [List.append_assoc]
    rfl
theorem alike_expand (T : List Step) : ∀ p : List Step, PosS p → Alike ((uns p).flatMap (eb true) ++ T) (p ++ T)
  | [], _ => Alike.refl T
  | s :: p, h => by
    have ih := alike_expand T p fun x hx => h x (List.mem_cons_of_mem _ hx)
    have h0 : 0 < s.sz := h s List.mem_cons_self
    rw [uns_cons, List.flatMap_append, List.append_assoc]
    refine (Alike.app _ ih).trans ?_
    have rep : ∀ (u : Un) (st : Step), eb true u = [st] → ∀ m : Nat, (List.replicate m u).flatMap (eb true) = List.replicate m st := fun u st e m => by
      induction m with
      | zero => rfl
      | succ m im => rw [List.replicate_succ, List.flatMap_cons, im, e, List.replicate_succ]; rfl
    cases s with
    | keep n =>
      obtain ⟨m, rfl⟩ : ∃ m, n = m + 1 := ⟨n - 1, by simp only [Step.sz] at h0; omega⟩
      show Alike ((List.replicate (m + 1) Un.k).flatMap (eb true) ++ (p ++ T)) (.keep (m + 1) :: (p ++ T))
      rw [rep .k (.keep 1) rfl]
      exact alike_keeps m _
    | drop n =>
      obtain ⟨m, rfl⟩ : ∃ m, n = m + 1 := ⟨n - 1, by simp only [Step.sz] at h0; omega⟩
      show Alike ((List.replicate (m + 1) Un.d).flatMap (eb true) ++ (p ++ T)) (.drop (m + 1) :: (p ++ T))
      rw [rep .d (.drop 1) rfl]
      exact alike_drops m _
    | add xs =>
      show Alike ((xs.map Un.a).flatMap (eb true) ++ (p ++ T)) (.add xs :: (p ++ T))
      have e : (xs.map Un.a).flatMap (eb true) = xs.map fun x => Step.add [x] := by
        clear h h0
        induction xs with
        | nil => rfl
        | cons x xs ix => rw [List.map_cons, List.flatMap_cons, ix]; rfl
      rw [e]
      exact alike_adds _ xs
theorem drops_of : ∀ p : List Step, (uns p).flatMap (eb false) = List.replicate (taken p) (.drop 1)
  | [] => rfl
  | s :: p => by
    have rep : ∀ (u : Un), eb false u = [.drop 1] → ∀ m : Nat, (List.replicate m u).flatMap (eb false) = List.replicate m (.drop 1) := fun u e m => by
      induction m with
      | zero => rfl
      | succ m im => rw [List.replicate_succ, List.flatMap_cons, im, e, List.replicate_succ]; rfl
    rw [uns_cons, List.flatMap_append, drops_of p]
    show _ = List.replicate (s.tk + taken p) _
    cases s with
    | keep n =>
      show (List.replicate n Un.k).flatMap (eb false) ++ _ = List.replicate (n + taken p) _
      rw [rep .k rfl, List.replicate_append_replicate]
    | drop n =>
      show (List.replicate n Un.d).flatMap (eb false) ++ _ = List.replicate (n + taken p) _
      rw [rep .d rfl, List.replicate_append_replicate]
    | add xs =>
      show (xs.map Un.a).flatMap (eb false) ++ _ = List.replicate (0 + taken p) _
      have e : (xs.map Un.a).flatMap (eb false) = [] := by
        induction xs with
        | nil => rfl
        | cons x xs ix => rw [List.map_cons, List.flatMap_cons, ix]; rfl
      rw [e, Nat.zero_add]
      rfl
theorem alike_rest : ∀ W : List Step, PosS W → made W = 0 → Alike W ((uns W).map fun _ => Step.drop 1)
  | [], _, _ => Alike.refl _
  | s :: W, h, hm => by
    have hm : s.mk' + made W = 0 := hm
    have ih := alike_rest W (fun x hx => h x (List.mem_cons_of_mem _ hx)) (by omega)
    have h0 : 0 < s.sz := h s List.mem_cons_self
    cases s with
    | keep n => simp only [Step.mk', Step.sz] at *; omega
    | drop n =>
      obtain ⟨m, rfl⟩ : ∃ m, n = m + 1 := ⟨n - 1, by simp only [Step.sz] at h0; omega⟩
      rw [uns_cons, List.map_append]
      show Alike _ ((List.replicate (m + 1) Un.d).map (fun _ => Step.drop 1) ++ _)
      rw [List.map_replicate]
      exact (ih.cons _).trans (alike_drops m _).symm
    | add xs => simp only [Step.mk', Step.sz] at *; omega
theorem alike_fol : ∀ (S W : List Step), PosS W → taken S = made W → Alike (PG S W) (fol S (uns W))
  | [], W, h, hm => alike_rest W h hm.symm
  | .add xs :: r, W, h, hm => (alike_fol r W h (by rw [← hm]; show _ = 0 + taken r; omega)).cons _
  | .keep n :: r, W, h, hm => by
    have hm : n + taken r = made W := hm
    have q := splitN_made W n (by omega)
    have p := splitN_pos W n h
    have ih := alike_fol r (splitN n W).2 p.2 (by omega)
    show Alike ((splitN n W).1 ++ PG r (splitN n W).2) ((folN true n (uns W)).1 ++ fol r (folN true n (uns W)).2)
    rw [folN_split W n (by omega)]
    exact (Alike.app _ ih).trans (alike_expand _ _ p.1).symm
  | .drop n :: r, W, h, hm => by
    have hm : n + taken r = made W := hm
    have q := splitN_made W n (by omega)
    have p := splitN_pos W n h
    have ih := alike_fol r (splitN n W).2 p.2 (by omega)
    show Alike (.drop (taken (splitN n W).1) :: PG r (splitN n W).2) ((folN false n (uns W)).1 ++ fol r (folN false n (uns W)).2)
    rw [folN_split W n (by omega), drops_of]
    exact (ih.cons _).trans fun k d xs => (nfS_drops _ (taken (splitN n W).1) k d xs).symm
theorem nf_fol {S W : List Step} (h : PosS W) (hm : taken S = made W) : nf (PG S W) = nf (fol S (uns W)) := alike_fol S W h hm 0 0 []

-- @@CUT
def spMadeBy (K : PySem.W.Frag) : Sp := fun vs H Q _ => ∃ (v : V) (s : Step), vs = [v] ∧ StepAt K H v s ∧ Q (.int (s.mk' : Int)) H
theorem ok__made_by (T : Txt K mg C_ArchiveError C_InvalidScript c_taken_items c_made_items P_taken_items P_made_items) : Ok P w K mg base CX0 1 "_made_by" ["step"] (spMadeBy K) := by
  refine ok_of T.d__made_by fun f fd F => F.ok sc__made_by (fun vs H Q E h => ?_) (fun cdv A outer s H vs Q E hr h => ?_)
  · obtain ⟨v, s, rfl, _⟩ := h
    rfl
  · obtain ⟨v, s, rfl, hs, q⟩ := h
    have nd := sc__made_by.nd
    refine ⟨_,       (pss_cons (ps_asg (pv 0) (pg_tup rfl (pgs_cons (pg_name (i := 1) nd rfl (Or.inl rfl)) (pgs_cons (pg_name (i := 2) nd rfl (Or.inl rfl)) pgs_nil))))
      (pss_cons (ps_if (pt_cmpR op_eq (pv 1) pe_str (nomark _))
        (pss_one (ps_ret (pe_callB call_len_seq (by rfl) T.n_len PySem.boot_len (pa_cons (pv 2) pa_nil)))) pss_nil)
      (pss_one (ps_ret (pe_ifExp (pt_cmpR op_eq (pv 1) pe_str (nomark _)) pe_int (pv 2)))))), ?_⟩
    cases s with
    | keep n =>
      obtain ⟨t, rfl, hT⟩ := hs
      exact ⟨_, rfl, t, _, rfl, hT, rfl, _, _, rfl, _, _, rfl, rfl, _, rfl, rfl, _, rfl, itd (fun h => absurd h (by decide)) (fun _ => ⟨_, rfl, rfl, _, rfl, itd (fun h => absurd h (by decide)) (fun _ => ⟨_, rfl, q⟩)⟩)⟩
    | drop n =>
      obtain ⟨t, rfl, hT⟩ := hs
      exact ⟨_, rfl, t, _, rfl, hT, rfl, _, _, rfl, _, _, rfl, rfl, _, rfl, rfl, _, rfl, itd (fun h => absurd h (by decide)) (fun _ => ⟨_, rfl, rfl, _, rfl, itd (fun _ => q) (fun h => absurd rfl h)⟩)⟩
    | add xs =>
      obtain ⟨t, u, rfl, hT, hU⟩ := hs
      refine ⟨_, rfl, t, _, rfl, hT, rfl, _, _, rfl, _, _, rfl, rfl, _, rfl, rfl, _, rfl, itd (fun _ => ?_) (fun h => absurd rfl h)⟩
      refine ⟨_, rfl, u, _, rfl, .inr hU, ?_⟩
      rw [List.length_map]
      exact q
def spMade (K : PySem.W.Frag) (P_ : Addr) : Sp := fun vs H Q _ => ∃ (a : Addr) (ss : List Step), vs = [.ref a] ∧ ScrAt K H a ss ∧ GxR.TabG H P_ ∧ ∀ H', GX.Sm H H' → Q (.int (made ss : Int)) H'
theorem ok_made_items (T : Txt K mg C_ArchiveError C_InvalidScript c_taken_items c_made_items P_taken_items P_made_items) : Ok P w K mg base CX0 4 "made_items" ["script"] (spMade K P_made_items) := by
  have G__made_by := ok__made_by (P := P) (w := w) (base := base) T
  refine GX.okc_of T.d_made_items sc_made_items (fun vs H Q E h => ?_) (fun f A outer s H vs Q E hr h => ?_)
  · obtain ⟨a, ss, rfl, _⟩ := h
    rfl
  · obtain ⟨a, ss, rfl, ⟨vs, hL, hV⟩, tb, q⟩ := h
    have nd := sc_made_items.nd
    refine ⟨_,       (pss_one (ps_ret (GX.pe_sumG (k := 1) (own := [("step", 1)]) (ext := (["step"] : List Str)) (hr.mono (by decide)) (by rfl) T.n_sum TBS.t_made_items rfl ⟨by show (N_made_items ++ (["step"] : List Str)).Nodup; decide +kernel, blkOk_by (N := N_made_items ++ (["step"] : List Str)) (sc := defScope s_made_items) (by decide +kernel), rfl, by decide +kernel, rfl⟩ (pi_list (pv 0)) (fun _ _ _ _ _ => (pg_name (i := 1) (show (N_made_items ++ (["step"] : List Str)).Nodup by decide +kernel) rfl (Or.inl rfl))) (fun _ _ _ _ _ rm => (pe_callO G__made_by (rm.mono (by decide)) pass0 (pa_cons (pv 1) pa_nil)))))), ?_⟩
    refine ⟨_, rfl, a, rfl, ⟨_, hL⟩, tb, GX.sum_it walk_list (fun i t H' => GX.Sm H H' ∧ t = (made (ss.take i) : Int)) (fun H2 t2 => ⟨GX.Sm.tabbed tb t2, by simp [made]⟩) (fun i t H' _ h => h.1.seq hL) ?_ ?_⟩
    · rintro i t x H1 H2 hi ⟨e1, rfl⟩ ⟨rfl, hx⟩
      obtain ⟨s, hs, hA⟩ := scr_get hV hx
      refine ⟨_, rfl, _, s, rfl, hA.keeps (sqT_sm e1), _, rfl, e1, ?_⟩
      obtain ⟨hlt, rfl⟩ := List.getElem?_eq_some_iff.mp hs
      rw [take_snoc hlt, made_snoc]
      omega
    · rintro t H' ⟨e, rfl⟩
      rw [hV.length, List.take_length]
      exact q H' e
/-! ### cutting and splitting -/
def spCut (K : PySem.W.Frag) : Sp := fun vs H Q _ => ∃ (v : V) (s : Step) (n : Nat), vs = [v, .int (n : Int)] ∧ StepAt K H v s ∧ 0 < n ∧ n < s.mk' ∧ ∀ u x y H', Same H H' → H' u = some (.tup [x, y]) → StepAt K H' x (cutA s n) → StepAt K H' y (cutB s n) → Q (.ref u) H'
theorem ok__cut (T : Txt K mg C_ArchiveError C_InvalidScript c_taken_items c_made_items P_taken_items P_made_items) : Ok P w K mg base CX0 1 "_cut" ["step", "count"] (spCut K) := by
  refine ok_of T.d__cut fun f fd F => F.ok sc__cut (fun vs H Q E h => ?_) (fun cdv A outer s H vs Q E hr h => ?_)
  · obtain ⟨v, s, n, rfl, _⟩ := h
    rfl
  · obtain ⟨v, s, n, rfl, hs, hn0, hn, kQ⟩ := h
    have nd := sc__cut.nd
    refine ⟨_,       (pss_cons (ps_asg (pv 0) (pg_tup rfl (pgs_cons (pg_name (i := 2) nd rfl (Or.inl rfl)) (pgs_cons (pg_name (i := 3) nd rfl (Or.inl rfl)) pgs_nil))))
      (pss_cons (ps_if (pt_cmpR op_eq (pv 2) pe_str (nomark _))
        (pss_one (ps_ret (pe_tup (pa_cons (pe_tup (pa_cons pe_str (pa_cons (pe_slice sl_tup (pv 3) po_none (po_some (pv 1))) pa_nil))) (pa_cons (pe_tup (pa_cons pe_str (pa_cons (pe_slice sl_tup (pv 3) (po_some (pv 1)) po_none) pa_nil))) pa_nil))))) pss_nil)
      (pss_one (ps_ret (pe_tup (pa_cons (pe_tup (pa_cons pe_str (pa_cons (pv 1) pa_nil))) (pa_cons (pe_tup (pa_cons pe_str (pa_cons (pe_op op_sub (pv 3) (pv 1)) pa_nil))) pa_nil))))))), ?_⟩
    cases s with
    | drop c => simp [Step.mk'] at hn
    | keep c =>
      obtain ⟨t, rfl, hT⟩ := hs
      simp only [Step.mk'] at hn
      refine ⟨_, rfl, t, _, rfl, hT, rfl, _, _, rfl, _, _, rfl, rfl, _, rfl, rfl, _, rfl, itd (fun h => absurd h (by decide)) (fun _ => ?_)⟩
      refine ⟨_, rfl, (by show 2 ≤ sizeLine; decide), fun a ha => ?_⟩
      refine ⟨_, rfl, _, rfl, _, _, rfl, rfl, (by show 2 ≤ sizeLine; decide), fun b hb => ⟨(by show 2 ≤ sizeLine; decide), fun u hu => ?_⟩⟩
      dsimp only at hb hu ⊢
      rw [show ((c : Nat) : Int) - (n : Int) = ((c - n : Nat) : Int) by omega] at hu ⊢
      have g1 := same_upd (o := .tup [V.str "keep", V.int (n : Int)]) ha
      have g2 := same_upd (o := .tup [V.str "keep", V.int ((c - n : Nat) : Int)]) hb
      have g3 := same_upd (o := .tup [V.ref a, V.ref b]) hu
      exact kQ u _ _ _ ((g1.trans g2).trans g3) upd_same ⟨a, rfl, SqT.of (g3 _ _ (g2 _ _ upd_same))⟩ ⟨b, rfl, SqT.of (g3 _ _ upd_same)⟩
    | add xs =>
      obtain ⟨t, x, rfl, hT, hX⟩ := hs
      refine ⟨_, rfl, t, _, rfl, hT, rfl, _, _, rfl, _, _, rfl, rfl, _, rfl, rfl, _, rfl, itd (fun _ => ?_) (fun h => absurd rfl h)⟩
      simp only [Step.mk'] at hn
      have hl : (xs.map V.int).length = xs.length := List.length_map ..
      refine ⟨_, rfl, _, rfl, _, rfl, x, _, rfl, hX, ?_, fun p hp => ?_⟩
      · rintro ⟨_, z⟩
        rw [HT.sIx_nat, hl] at z
        omega
      rw [cut_toG, ← List.map_take]
      have g1 := same_upd (o := .tup ((xs.take n).map V.int)) hp
      refine ⟨(by show 2 ≤ sizeLine; decide), fun a ha => ?_⟩
      have g2 := same_upd (o := .tup [V.str "add", V.ref p]) ha
      refine ⟨_, rfl, _, rfl, _, rfl, x, _, rfl, sqT_same (g1.trans g2) _ _ hX, ?_, fun q hq => ?_⟩
      · rintro ⟨z, _⟩
        rw [HT.sIx_nat, hl] at z
        omega
      rw [cut_fromG, ← List.map_drop]
      have g3 := same_upd (o := .tup ((xs.drop n).map V.int)) hq
      refine ⟨(by show 2 ≤ sizeLine; decide), fun b hb => ⟨(by show 2 ≤ sizeLine; decide), fun u hu => ?_⟩⟩
      have g4 := same_upd (o := .tup [V.str "add", V.ref q]) hb
      have g5 := same_upd (o := .tup [V.ref a, V.ref b]) hu
      exact kQ u _ _ _ ((((g1.trans g2).trans g3).trans g4).trans g5) upd_same ⟨a, p, rfl, SqT.of (g5 _ _ (g4 _ _ (g3 _ _ upd_same))), SqT.of (g5 _ _ (g4 _ _ (g3 _ _ (g2 _ _ upd_same))))⟩ ⟨b, q, rfl, SqT.of (g5 _ _ upd_same), SqT.of (g5 _ _ (g4 _ _ upd_same))⟩
theorem scrV_cons {K : PySem.W.Frag} {H : Hp} {vs : List V} {s : Step} {ss : List Step} (h : ScrV K H vs (s :: ss)) : ∃ v vs', vs = v :: vs' ∧ StepAt K H v s ∧ ScrV K H vs' ss := by
  cases h with
  | cons h r => exact ⟨_, _, rfl, h, r⟩
/-- lists of steps, each in a list of its own that is none of p, q -/
def PartAt (K : PySem.W.Frag) (H : Hp) (p q : Addr) (a : Addr) (ss : List Step) : Prop := a ≠ p ∧ a ≠ q ∧ ∃ vs, H a = some (.lst vs) ∧ ScrV K H vs ss
def PartsV (K : PySem.W.Frag) (H : Hp) (p q : Addr) (as : List Addr) (ps : List (List Step)) : Prop := Paired (PartAt K H p q) as ps
theorem PartsV.length {K : PySem.W.Frag} {H : Hp} {p q : Addr} {as : List Addr} {ps : List (List Step)} (h : PartsV K H p q as ps) : as.length = ps.length := Paired.length h
theorem PartsV.keeps {K : PySem.W.Frag} {H H' : Hp} {p q : Addr} (e : ∀ t ys, SqT K H t ys → SqT K H' t ys) (e2 : ∀ b xs, H b = some (.lst xs) → b ≠ p → b ≠ q → H' b = some (.lst xs)) : ∀ {as : List Addr} {ps : List (List Step)}, PartsV K H p q as ps → PartsV K H' p q as ps
  | _, _, .nil => .nil
  | _, _, .cons ⟨h1, h2, vs, h3, h4⟩ r => .cons ⟨h1, h2, vs, e2 _ _ h3 h1 h2, h4.keeps e⟩ (PartsV.keeps e e2 r)
theorem PartsV.same {K : PySem.W.Frag} {H H' : Hp} {p q : Addr} (e : Same H H') {as : List Addr} {ps : List (List Step)} (h : PartsV K H p q as ps) : PartsV K H' p q as ps := h.keeps (sqT_same e) fun b xs z _ _ => e _ _ z
theorem PartsV.snoc {K : PySem.W.Frag} {H : Hp} {p q : Addr} : ∀ {as : List Addr} {ps : List (List Step)} {a : Addr} {s : List Step}, PartsV K H p q as ps → PartAt K H p q a s → PartsV K H p q (as ++ [a]) (ps ++ [s])
  | _, _, _, _, .nil, h => .cons h .nil
  | _, _, _, _, .cons h r, h2 => .cons h (PartsV.snoc r h2)
theorem PartsV.put {K : PySem.W.Frag} {H : Hp} {p q qa : Addr} {o : HO} (e : ∀ t ys, SqT K H t ys → SqT K (upd H qa o) t ys) : ∀ {as : List Addr} {ps : List (List Step)}, (∀ a ∈ as, a ≠ qa) → PartsV K H p q as ps → PartsV K (upd H qa o) p q as ps
  | _, _, _, .nil => .nil
  | _, _, hn, .cons ⟨h1, h2, vs, h3, h4⟩ r => .cons ⟨h1, h2, vs, by rw [upd_ne (hn _ List.mem_cons_self)]; exact h3, h4.keeps e⟩ (PartsV.put e (fun a ha => hn a (List.mem_cons_of_mem _ ha)) r)
theorem PartsV.re {K : PySem.W.Frag} {H : Hp} {p q p' : Addr} : ∀ {as : List Addr} {ps : List (List Step)}, (∀ a ∈ as, a ≠ p') → PartsV K H p q as ps → PartsV K H p' q as ps
  | _, _, _, .nil => .nil
  | _, _, hn, .cons ⟨h1, h2, h3⟩ r => .cons ⟨hn _ List.mem_cons_self, h2, h3⟩ (PartsV.re (fun a ha => hn a (List.mem_cons_of_mem _ ha)) r)
theorem PartsV.there {K : PySem.W.Frag} {H : Hp} {p q : Addr} : ∀ {as : List Addr} {ps : List (List Step)}, PartsV K H p q as ps → ∀ a ∈ as, ∃ xs, H a = some (.lst xs)
  | _, _, .nil, a, h => nomatch h
  | _, _, .cons ⟨_, _, vs, h3, _⟩ r, a, h => by
    rcases List.mem_cons.mp h with e | e
    · rw [e]
      exact ⟨vs, h3⟩
    · exact PartsV.there r a e
theorem cutA_mk {s : Step} {k : Nat} (h : k < s.mk') : (cutA s k).mk' = k := by
  cases s with
  | keep c => rfl
  | drop c => simp [Step.mk'] at h
  | add xs => simp only [cutA, Step.mk', List.length_take] at *; omega
theorem part_get {K : PySem.W.Frag} {H : Hp} {p q : Addr} : ∀ {as : List Addr} {ps : List (List Step)} {i : Nat} {a : Addr}, PartsV K H p q as ps → as[i]? = some a → ∃ s, ps[i]? = some s ∧ PartAt K H p q a s
  | _, _, i, v, .nil, h => by simp at h
  | _, _, 0, v, .cons h r, e => by
    simp at e
    subst e
    exact ⟨_, rfl, h⟩
  | _, _, i + 1, v, .cons h r, e => by
    obtain ⟨s, h1, h2⟩ := part_get r (by simpa using e)
    exact ⟨s, by simpa using h1, h2⟩
def splits : List Nat → List Step → List (List Step) × List Step
  | [], W => ([], W)
  | n :: r, W => ((splitN n W).1 :: (splits r (splitN n W).2).1, (splits r (splitN n W).2).2)
def spSplit (K : PySem.W.Frag) : Sp := fun vs H Q _ => ∃ (c d : Addr) (W : List Step) (ns : List Nat), vs = [.ref c, .ref d] ∧ ScrAt K H c W ∧ SqL K H d (ns.map fun n : Nat => V.int (n : Int)) ∧ ns.sum = made W ∧ W.length ≤ 400 ∧ ns.length ≤ 400 ∧
  ∀ p H' as (l r : Addr) (rv : List V), Same H H' → H' p = some (.lst (as.map V.ref ++ [V.ref r])) → PartsV K H' p l as (splits ns W).1 → H' r = some (.lst rv) → ScrV K H' rv (splits ns W).2 → Q (.ref p) H'
theorem ok__split (T : Txt K mg C_ArchiveError C_InvalidScript c_taken_items c_made_items P_taken_items P_made_items) : Ok P w K mg base CX0 2 "_split" ["script", "counts"] (spSplit K) := by
  have G__made_by := ok__made_by (P := P) (w := w) (base := base) T
  have G__cut := ok__cut (P := P) (w := w) (base := base) T
  refine ok_of T.d__split fun f fd F => F.ok sc__split (fun vs H Q E h => ?_) (fun cdv A outer s H vs Q E hr h => ?_)
  · obtain ⟨c, d, W, ns, rfl, _⟩ := h
    rfl
  · obtain ⟨c, d, W, ns, rfl, ⟨vs, hL, hV⟩, hN, hsum, hWl, hnl, kQ⟩ := h
    have nd := sc__split.nd
    refine ⟨_,       (pss_cons (ps_set (i := 2) nd rfl (Or.inl rfl) (pe_lst pa_nil))
      (pss_cons (ps_set (i := 3) nd rfl (Or.inl rfl) (pe_revL (pe_callTy call_list_of (by rfl) T.n_list (by decide +kernel) (pa_cons (pv 0) pa_nil))))
      (pss_cons (ps_for PassesOwn.never rfl (pi_list (pv 1)) (pg_name (i := 4) nd rfl (Or.inl rfl))
        (pss_cons (ps_set (i := 5) nd rfl (Or.inl rfl) (pe_lst pa_nil))
        (pss_cons (ps_set (i := 6) nd rfl (Or.inl rfl) (pv 4))
        (pss_cons (ps_while PassesOwn.never (pt_cmpR op_gt (pv 6) pe_int (nomark _))
          (pss_cons (ps_set (i := 7) nd rfl (Or.inl rfl) (pe_bm0 PySem.F.plainAttrs_list PySem.F.slot_list_pop PySem.F.type_list_pop mt_pop (pv 3)))
          (Evl.pss_cut (ps_if (pt_cmpR op_gt (pe_callO G__made_by (hr.mono (by decide)) pass0 (pa_cons (pv 7) pa_nil)) (pv 6) (nomark _))
            (pss_cons (ps_asg (pe_callO G__cut (hr.mono (by decide)) pass0 (pa_cons (pv 7) (pa_cons (pv 6) pa_nil))) (pg_tup rfl (pgs_cons (pg_name (i := 7) nd rfl (Or.inl rfl)) (pgs_cons (pg_name (i := 8) nd rfl (Or.inl rfl)) pgs_nil))))
            (pss_one (ps_expr (pe_bm PySem.F.plainAttrs_list PySem.F.slot_list_append PySem.F.type_list_append mt_append (pv 3) (pa_cons (pv 8) pa_nil))))) pss_nil)
          (pss_cons (ps_expr (pe_bm PySem.F.plainAttrs_list PySem.F.slot_list_append PySem.F.type_list_append mt_append (pv 5) (pa_cons (pv 7) pa_nil)))
          (pss_one (ps_aug (i := 6) nd rfl (Or.inl rfl) (pe_callO G__made_by (hr.mono (by decide)) pass0 (pa_cons (pv 7) pa_nil)) ip_sub))))))
        (pss_one (ps_expr (pe_bm PySem.F.plainAttrs_list PySem.F.slot_list_append PySem.F.type_list_append mt_append (pv 2) (pa_cons (pv 5) pa_nil))))))))
      (pss_one (ps_ret (pe_lst (StX.pa_star (pv 2) (pa_cons (pe_revL (pv 3)) pa_nil)))))))), ?_⟩
    refine ⟨by decide, fun pp hpp => ?_⟩
    have f1 := same_upd (o := .lst ([] : List V)) hpp
    refine ⟨_, rfl, c, _, rfl, .inl (f1.seq hL), fun l0 hl0 => ?_⟩
    have f2 := f1.trans (same_upd (o := .lst vs) hl0)
    refine ⟨l0, _, rfl, SqL.of upd_same, fun wp hwp => ?_⟩
    have f3 := f2.trans (same_upd (o := .lst vs.reverse) hwp)
    have hPP : (upd (upd (upd H pp (.lst [])) l0 (.lst vs)) wp (.lst vs.reverse)) pp = some (.lst []) := ((same_upd hl0).trans (same_upd hwp)) _ _ upd_same
    have hWP : (upd (upd (upd H pp (.lst [])) l0 (.lst vs)) wp (.lst vs.reverse)) wp = some (.lst vs.reverse) := upd_same
    have hpw : pp ≠ wp := fun z => by
      rw [← z, (same_upd hl0) _ _ upd_same] at hwp
      cases hwp
    have hwp0 : H wp = none := f2.free hwp
    have hV3 := hV.keeps (sqT_same f3)
    have hN3 := f3.seq hN
    generalize upd (upd (upd H pp (.lst [])) l0 (.lst vs)) wp (.lst vs.reverse) = H3 at f3 hPP hWP hV3 hN3 ⊢
    refine ⟨_, rfl, d, rfl, ⟨_, hN3⟩, for_list (K := K) (a := d) (xs := ns.map fun n : Nat => V.int (n : Int)) (fun i σ H' => Same H H' ∧ ∃ (as : List Addr) (ps : List (List Step)) (us : List V) (Wi : List Step) (v4 v5 v6 v7 v8 : Option V), H' pp = some (.lst (as.map V.ref)) ∧ PartsV K H' pp wp as ps ∧ as.length = i ∧ H' wp = some (.lst us.reverse) ∧ ScrV K H' us Wi ∧ Wi.length ≤ W.length + i ∧ splits ns W = (ps ++ (splits (ns.drop i) Wi).1, (splits (ns.drop i) Wi).2) ∧ (ns.drop i).sum = made Wi ∧ σ = [some (.ref c), some (.ref d), some (.ref pp), some (.ref wp), v4, v5, v6, v7, v8]) ⟨f3, [], [], vs, W, none, none, none, none, none, hPP, .nil, rfl, hWP, hV3, Nat.le_refl _, rfl, hsum, rfl⟩ (fun i σ H' _ ⟨e, _⟩ => e.seq hN) ?_ ?_⟩
    · rintro i x σ H' hx ⟨e, as, ps, us, Wi, v4, v5, v6, v7, v8, hP, hPs, hal, hW, hU, hWl2, hsp, hsm, rfl⟩
      obtain ⟨n, hn, rfl⟩ : ∃ n, ns[i]? = some n ∧ x = V.int (n : Int) := by
        rw [List.getElem?_map] at hx
        cases q : ns[i]? with
        | none => rw [q] at hx; cases hx
        | some n => rw [q] at hx; exact ⟨n, rfl, (Option.some.inj hx).symm⟩
      obtain ⟨hi, rfl⟩ := List.getElem?_eq_some_iff.mp hn
      rw [List.drop_eq_getElem_cons hi] at hsp hsm
      rw [List.sum_cons] at hsm
      generalize ns[i] = n at hsp hsm
      refine ⟨by decide, fun qa hqa => ?_⟩
      have g1 := same_upd (o := .lst ([] : List V)) hqa
      have hqp : qa ≠ pp := fun z => by rw [z, hP] at hqa; cases hqa
      have hqw : qa ≠ wp := fun z => by rw [z, hW] at hqa; cases hqa
      have hqa0 : H qa = none := e.free hqa
      refine ⟨_, rfl, ?_⟩
      refine ⟨fun m σ H'' => ∃ (us' : List V) (Wc : List Step) (qs : List V) (q : List Step) (k : Nat) (v7 v8 : Option V), m = Wc.length + k ∧ k ≤ made Wc ∧ splitN n Wi = (q ++ (splitN k Wc).1, (splitN k Wc).2) ∧ Same H H'' ∧ H'' wp = some (.lst us'.reverse) ∧ ScrV K H'' us' Wc ∧ Wc.length ≤ Wi.length ∧ H'' qa = some (.lst qs) ∧ ScrV K H'' qs q ∧ H'' pp = some (.lst (as.map V.ref)) ∧ PartsV K H'' pp wp as ps ∧ (∀ a ∈ as, a ≠ qa) ∧ σ = [some (.ref c), some (.ref d), some (.ref pp), some (.ref wp), some (.int (n : Int)), some (.ref qa), some (.int (k : Int)), v7, v8], ⟨_, us, Wi, [], [], n, v7, v8, rfl, by omega, rfl, e.trans g1, g1 _ _ hW, hU.keeps (sqT_same g1), Nat.le_refl _, upd_same, .nil, g1 _ _ hP, hPs.same g1, ?_, rfl⟩, ?_⟩
      · intro a ha z
        obtain ⟨j, hj, rfl⟩ := List.mem_iff_getElem.mp ha
        obtain ⟨_, _, _, _, ws, hws, _⟩ := part_get hPs (List.getElem?_eq_getElem hj)
        rw [z, hqa] at hws
        cases hws
      rintro m σ H4 ⟨us', Wc, qs, q, k, v7, v8, rfl, hkm, hspl, e4, hW4, hU4, hWcl, hQ4, hq4, hP4, hPs4, hne, rfl⟩
      refine ⟨_, rfl, _, _, rfl, rfl, _, rfl, itd (fun hk => ?_) (fun hk => ?_)⟩
      · have hk0 : 0 < k := by omega
        cases Wc with
        | nil => simp [made] at hkm; omega
        | cons s W2 =>
        obtain ⟨v, us2, rfl, hsA, hU2⟩ := scrV_cons hU4
        refine ⟨_, fun σ' H' h => h, ?_⟩
        have hlast : ((v :: us2 : List V).reverse)[((v :: us2 : List V).reverse).length - 1]? = some v := by
          rw [List.reverse_cons, List.length_append, List.length_singleton, Nat.add_sub_cancel, List.getElem?_append_right (by simp)]
          simp
        have hdl : ((v :: us2 : List V).reverse).dropLast = us2.reverse := by
          rw [List.reverse_cons, List.dropLast_concat]
        refine ⟨_, rfl, .inl ⟨rfl, _, SqL.of hW4⟩, wp, _, v, rfl, rfl, hW4, hlast, ?_⟩
        rw [hdl]
        have kT := fun t ys => sqT_lst (K := K) (ws := us2.reverse) hW4 t ys
        have e5 := same_new (o := .lst us2.reverse) e4 hwp0
        have hW5 : (upd H4 wp (.lst us2.reverse)) wp = some (.lst us2.reverse) := upd_same
        have hQ5 : (upd H4 wp (.lst us2.reverse)) qa = some (.lst qs) := by rw [upd_ne hqw]; exact hQ4
        have hP5 : (upd H4 wp (.lst us2.reverse)) pp = some (.lst (as.map V.ref)) := by rw [upd_ne hpw]; exact hP4
        have hPs5 := hPs4.keeps kT (H' := upd H4 wp (.lst us2.reverse)) fun b xs z _ n => by rw [upd_ne n]; exact z
        have hsA5 := hsA.keeps kT
        have hU5 := ScrV.keeps kT hU2
        have hq5 := hq4.keeps kT
        generalize upd H4 wp (.lst us2.reverse) = H5 at e5 hW5 hQ5 hP5 hPs5 hsA5 hU5 hq5 ⊢
        clear kT hW4 hQ4 hP4 hPs4 hq4 e4 hU2 hsA
        have hkm : k ≤ s.mk' + made W2 := hkm
        have hWcl : W2.length + 1 ≤ Wi.length := hWcl
        refine ⟨fun σ' H' => ∃ (us3 : List V) (W3 : List Step) (v1 : V) (s1 : Step) (v8' : Option V), Same H H' ∧ H' wp = some (.lst us3.reverse) ∧ ScrV K H' us3 W3 ∧ StepAt K H' v1 s1 ∧ H' qa = some (.lst qs) ∧ ScrV K H' qs q ∧ H' pp = some (.lst (as.map V.ref)) ∧ PartsV K H' pp wp as ps ∧ s1.mk' ≤ k ∧ W3.length + (k - s1.mk') < W2.length + 1 + k ∧ W3.length ≤ Wi.length ∧ k - s1.mk' ≤ made W3 ∧ splitN k (s :: W2) = (s1 :: (splitN (k - s1.mk') W3).1, (splitN (k - s1.mk') W3).2) ∧ σ' = [some (.ref c), some (.ref d), some (.ref pp), some (.ref wp), some (.int (n : Int)), some (.ref qa), some (.int (k : Int)), some v1, v8'], ?_, ?_⟩
        · refine ⟨_, rfl, v, s, rfl, hsA5, _, rfl, _, _, rfl, rfl, _, rfl, itd (fun hc => ?_) (fun hc => ?_)⟩
          · have hc : k < s.mk' := by omega
            refine ⟨_, rfl, _, rfl, v, s, k, rfl, hsA5, hk0, hc, fun u x y H6 e6 hu hx hy => ⟨u, _, rfl, SqT.of hu, rfl, _, _, rfl, _, _, rfl, rfl, ?_⟩⟩
            have hul := hU5.length
            refine ⟨_, rfl, .inl ⟨rfl, _, SqL.of (e6 _ _ hW5)⟩, _, rfl, wp, _, _, rfl, rfl, e6 _ _ hW5, small (by rw [List.length_reverse]; omega), ?_⟩
            have kT := fun t ys => sqT_lst (K := K) (ws := us2.reverse ++ [y]) (e6 _ _ hW5) t ys
            have hmk := cutA_mk hc
            refine ⟨y :: us2, cutB s k :: W2, x, cutA s k, some y, same_new (e5.trans e6) hwp0, ?_, ?_, hx.keeps kT, ?_, (hq5.keeps (sqT_same e6)).keeps kT, ?_, ?_, by omega, by rw [hmk, List.length_cons]; omega, by rw [List.length_cons]; omega, by rw [hmk, Nat.sub_self]; exact Nat.zero_le _, ?_, rfl⟩
            · rw [upd_same, List.reverse_cons]
            · exact ScrV.keeps kT (.cons hy (hU5.keeps (sqT_same e6)))
            · rw [upd_ne hqw]
              exact e6 _ _ hQ5
            · rw [upd_ne hpw]
              exact e6 _ _ hP5
            · exact (hPs5.same e6).keeps kT fun b xs z _ n => by rw [upd_ne n]; exact z
            · rw [splitN_cut hk0 hc, hmk, Nat.sub_self, splitN_zero]
          · refine ⟨us2, W2, v, s, v8, e5, hW5, hU5, hsA5, hQ5, hq5, hP5, hPs5, by omega, by omega, by omega, by omega, splitN_take hk0 (by omega), rfl⟩
        rintro σ6 H6 ⟨us3, W3, v1, s1, v8', e6, hW6, hU6, hs6, hQ6, hq6, hP6, hPs6, hs1k, hms, hW3l, hk3, hsp3, rfl⟩
        have hql : q.length ≤ Wi.length + 1 := by
          have h1 := splitN_len Wi n
          rw [hspl] at h1
          simp only [List.length_append] at h1
          omega
        have hqsl := hq6.length
        refine ⟨_, rfl, .inl ⟨rfl, _, SqL.of hQ6⟩, _, rfl, qa, _, _, rfl, rfl, hQ6, small (by omega), ?_⟩
        have kT := fun t ys => sqT_lst (K := K) (ws := qs ++ [v1]) hQ6 t ys
        refine ⟨_, rfl, _, rfl, v1, s1, rfl, hs6.keeps kT, _, _, rfl, rfl, W3.length + (k - s1.mk'), hms, us3, W3, qs ++ [v1], q ++ [s1], k - s1.mk', some v1, v8', rfl, hk3, ?_, same_new e6 hqa0, ?_, ScrV.keeps kT hU6, hW3l, upd_same, ?_, ?_, ?_, hne, ?_⟩
        · rw [hspl, hsp3]
          simp
        · rw [upd_ne fun z => hqw z.symm]
          exact hW6
        · exact (hq6.keeps kT).app (.cons (hs6.keeps kT) .nil)
        · rw [upd_ne fun z => hqp z.symm]
          exact hP6
        · exact hPs6.put kT hne
        · show [_, _, _, _, _, _, some (V.int ((k : Int) - (s1.mk' : Int))), _, _] = _
          rw [show ((k : Int) - (s1.mk' : Int)) = ((k - s1.mk' : Nat) : Int) by omega]
      · have hk0 : k = 0 := by omega
        subst hk0
        rw [splitN_zero, List.append_nil] at hspl
        have hmd := splitN_made Wi n (by omega)
        rw [hspl] at hmd
        refine ⟨_, rfl, .inl ⟨rfl, _, SqL.of hP4⟩, _, rfl, pp, _, _, rfl, rfl, hP4, small (by rw [List.length_map]; omega), ?_⟩
        have kT := fun t ys => sqT_lst (K := K) (ws := as.map V.ref ++ [V.ref qa]) hP4 t ys
        refine ⟨same_new e4 hpp, as ++ [qa], ps ++ [q], us', Wc, _, _, _, _, _, ?_, ?_, by rw [List.length_append, hal]; rfl, ?_, ScrV.keeps kT hU4, by omega, ?_, ?_, rfl⟩
        · rw [upd_same, List.map_append]
          rfl
        · exact PartsV.snoc (hPs4.keeps kT fun b xs z n _ => by rw [upd_ne n]; exact z) ⟨hqp, hqw, qs, by rw [upd_ne hqp]; exact hQ4, hq4.keeps kT⟩
        · rw [upd_ne fun z => hpw z.symm]
          exact hW4
        · rw [hsp]
          show (ps ++ ((splitN n Wi).1 :: (splits (ns.drop (i + 1)) (splitN n Wi).2).1), (splits (ns.drop (i + 1)) (splitN n Wi).2).2) = _
          rw [hspl]
          simp
        · show (ns.drop (i + 1)).sum = made Wc
          have hmd2 : made Wc = made Wi - n := hmd.2
          omega
    · rintro σ H' ⟨e, as, ps, us, Wi, v4, v5, v6, v7, v8, hP, hPs, hal, hW, hU, hWl2, hsp, hsm, rfl⟩
      rw [List.length_map] at hal hWl2 hsp
      rw [List.drop_length] at hsp
      have hsp : splits ns W = (ps, Wi) := by
        rw [hsp]
        show (ps ++ [], Wi) = _
        rw [List.append_nil]
      refine ⟨_, rfl, pp, _, rfl, .inr (SqL.of hP), _, rfl, wp, _, rfl, SqL.of hW, fun r hr => ?_⟩
      have g1 := same_upd (o := .lst us.reverse.reverse) hr
      refine ⟨smallE ?_, fun p hp => ?_⟩
      · rw [List.length_append, List.length_map, List.length_singleton]
        omega
      have g2 := same_upd (o := .lst (as.map V.ref ++ [V.ref r])) hp
      refine kQ p _ as wp r us (e.trans (g1.trans g2)) upd_same ?_ ?_ ?_
      · rw [hsp]
        refine PartsV.re (fun a ha z => ?_) (hPs.same (g1.trans g2))
        obtain ⟨xs, hxs⟩ := hPs.there a ha
        have := g1 _ _ hxs
        rw [z, hp] at this
        cases this
      · refine g2 _ _ ?_
        rw [upd_same, List.reverse_reverse]
      · rw [hsp]
        exact hU.keeps (sqT_same (g1.trans g2))

-- @@CUT
def segS : Step × List Step → List Step
  | (.add xs, _) => [.add xs]
  | (.keep _, p) => p
  | (.drop _, p) => [.drop (taken p)]
theorem PG_split : ∀ (S W : List Step), PG S W = (S.zip (splits (S.map Step.tk) W).1).flatMap segS ++ (splits (S.map Step.tk) W).2
  | [], _ => rfl
  | .add xs :: r, W => by
    show .add xs :: PG r W = (.add xs :: (r.zip (splits (r.map Step.tk) (splitN 0 W).2).1).flatMap segS) ++ (splits (r.map Step.tk) (splitN 0 W).2).2
    rw [splitN_zero, PG_split r W]
    rfl
  | .keep n :: r, W => by
    show (splitN n W).1 ++ PG r (splitN n W).2 = ((splitN n W).1 ++ (r.zip (splits (r.map Step.tk) (splitN n W).2).1).flatMap segS) ++ (splits (r.map Step.tk) (splitN n W).2).2
    rw [PG_split r, List.append_assoc]
  | .drop n :: r, W => by
    show .drop (taken (splitN n W).1) :: PG r (splitN n W).2 = (.drop (taken (splitN n W).1) :: (r.zip (splits (r.map Step.tk) (splitN n W).2).1).flatMap segS) ++ (splits (r.map Step.tk) (splitN n W).2).2
    rw [PG_split r]
    rfl
theorem splits_len : ∀ (ns : List Nat) (W : List Step), (splits ns W).1.length = ns.length
  | [], _ => rfl
  | n :: r, W => by
    show (splits r (splitN n W).2).1.length + 1 = _
    rw [splits_len r]
    rfl
theorem sum_tk : ∀ S : List Step, (S.map Step.tk).sum = taken S
  | [] => rfl
  | s :: S => by
    rw [List.map_cons, List.sum_cons, sum_tk S]
    rfl
theorem flatMap_take_len {α : Type} (f : α → List Step) (l : List α) (i : Nat) : ((l.take i).flatMap f).length ≤ (l.flatMap f).length := by
  have h : l.flatMap f = (l.take i).flatMap f ++ (l.drop i).flatMap f := by rw [← List.flatMap_append, List.take_append_drop]
  rw [h, List.length_append]
  omega
def spSquash (K : PySem.W.Frag) (P1 P2 C : Addr) : Sp := fun vs H Q E => ∃ (c1 c2 : Addr) (W S : List Step), vs = [.ref c1, .ref c2] ∧ ScrAt K H c1 W ∧ ScrAt K H c2 S ∧ GxR.TabG H P1 ∧ GxR.TabG H P2 ∧ tot W ≤ 10000 ∧ tot S ≤ 10000 ∧ W.length + 2 * S.length ≤ 400 ∧ (taken S ≠ made W → ∀ H', GX.Sm H H' → E (.ref C) none H') ∧
  (taken S = made W → ∀ p H' ws, GX.Sm H H' → H' p = some (.lst ws) → ScrV K H' ws (nf (PG S W)) → Q (.ref p) H')
theorem ok_squashed (T : Txt K mg C_ArchiveError C_InvalidScript c_taken_items c_made_items P_taken_items P_made_items) : Ok P w K mg base (CXN P w) 6 "squashed" ["first", "second"] (spSquash K P_taken_items P_made_items C_InvalidScript) := by
  have G_check_fit := ok_check_fit (P := P) (w := w) (base := base) T
  have G_made_items := ok_made_items (P := P) (w := w) (base := base) T
  have G_taken_items := ok_taken_items (P := P) (w := w) (base := base) T
  have G__taken_by := ok__taken_by (P := P) (w := w) (base := base) T
  have G__split := ok__split (P := P) (w := w) (base := base) T
  have G_normalized := ok_normalized (P := P) (w := w) (base := base) T
  refine ok_of T.d_squashed fun f fd F => okN F sc_squashed (fun vs H Q E h => ?_) (fun cdv A outer s H vs Q E hr h => ?_)
  · obtain ⟨c1, c2, W, S, rfl, _⟩ := h
    rfl
  · obtain ⟨c1, c2, W, S, rfl, hC1, hC2, tb1, tb2, htW, htS, hlen, kE, kQ⟩ := h
    have nd := sc_squashed.nd
    have po := passes_of (X := cxOf (CXN P w) P w K mg base N_squashed "squashed" (defScope s_squashed) f cdv A outer s H E) rfl
    refine ⟨_,       (pss_cons (ps_expr (pe_callO G_check_fit (hr.mono (by decide)) (passX (L2N.takes_of rfl rfl rfl rfl) (fun _ _ _ z => z)) (pa_cons (pv 1) (pa_cons (pe_callO G_made_items (hr.mono (by decide)) pass0 (pa_cons (pv 0) pa_nil)) pa_nil))))
      (pss_cons (ps_set (i := 2) nd rfl (Or.inl rfl) (pe_callO G__split (hr.mono (by decide)) pass0 (pa_cons (pv 0) (pa_cons (pe_lc (own := [("step", 3)]) (g := gName 3) (tt := tYes) rfl nd (pi_list (pv 1)) (blkOk_by (N := N_squashed) (sc := defScope s_squashed) (by decide +kernel)) (fun _ _ _ _ _ => (pg_name (i := 3) nd rfl (Or.inl rfl))) (fun _ _ _ _ _ => pts_nil) (fun _ _ _ _ _ => (pe_callO G__taken_by (hr.mono (by decide)) pass0 (pa_cons (pv 3) pa_nil)))) pa_nil))))
      (pss_cons (ps_set (i := 4) nd rfl (Or.inl rfl) (pe_lst pa_nil))
      (pss_cons (ps_for po rfl (pi_zip (by rfl) T.n_zip (pa_cons (pv 1) (pa_cons (pv 2) pa_nil))) (pg_tup rfl (pgs_cons (pg_name (i := 3) nd rfl (Or.inl rfl)) (pgs_cons (pg_name (i := 5) nd rfl (Or.inl rfl)) pgs_nil)))
        (pss_one (ps_if (pt_cmpR op_eq (pe_ix ix_tup (pv 3) pe_int (fun _ _ => rfl)) pe_str (nomark _))
          (pss_one (ps_expr (pe_bm PySem.F.plainAttrs_list PySem.F.slot_list_append PySem.F.type_list_append mt_append (pv 4) (pa_cons (pv 3) pa_nil))))
          (pss_one (ps_if (pt_cmpR op_eq (pe_ix ix_tup (pv 3) pe_int (fun _ _ => rfl)) pe_str (nomark _))
            (pss_one (ps_expr (pe_bm PySem.F.plainAttrs_list PySem.F.slot_list_extend PySem.F.type_list_extend mt_extend (pv 4) (pa_cons (pv 5) pa_nil))))
            (pss_one (ps_expr (pe_bm PySem.F.plainAttrs_list PySem.F.slot_list_append PySem.F.type_list_append mt_append (pv 4) (pa_cons (pe_tup (pa_cons pe_str (pa_cons (pe_callO G_taken_items (hr.mono (by decide)) pass0 (pa_cons (pv 5) pa_nil)) pa_nil))) pa_nil)))))))))
      (pss_one (ps_ret (pe_callO G_normalized (hr.mono (by decide)) pass0 (pa_cons (pe_op op_cat (pv 4) (pe_ix ix_list (pv 2) (pe_un un_neg pe_int) (fun _ _ => rfl))) pa_nil)))))))), ?_⟩
    have scr1 : ∀ {H' : Hp}, GX.Sm H H' → ScrAt K H' c1 W := fun e => hC1.elim fun vs z => ⟨vs, e.seq z.1, z.2.keeps (sqT_sm e)⟩
    have scr2 : ∀ {H' : Hp}, GX.Sm H H' → ScrAt K H' c2 S := fun e => hC2.elim fun vs z => ⟨vs, e.seq z.1, z.2.keeps (sqT_sm e)⟩
    refine ⟨_, rfl, _, rfl, c1, W, rfl, hC1, tb2, fun H1 e1 => ⟨c2, S, made W, rfl, scr2 e1, e1.tab _ tb1, fun hn H' e => kE hn H' (e1.trans e), fun hok H2 e2 => ?_⟩⟩
    have e02 := GX.Sm.trans e1 e2
    obtain ⟨ws2, hL2, hV2⟩ := scr2 e02
    have hsl := hV2.length
    -- parts
    refine ⟨_, rfl, _, rfl, c2, rfl, ⟨_, hL2⟩, fun D hD => lc_list (K := K) (a := c2) (xs := ws2) (fun i H' => Same H2 H' ∧ H' D = some (.lst (((S.map Step.tk).take i).map fun n : Nat => V.int (n : Int)))) ⟨same_upd hD, upd_same⟩ (fun i H' _ ⟨e, _⟩ => e.seq hL2) ?_ ?_⟩
    · rintro i x H3 hx ⟨e3, hDl⟩
      obtain ⟨st, hst, hA⟩ := scr_get hV2 hx
      obtain ⟨hi, rfl⟩ := List.getElem?_eq_some_iff.mp hst
      have him : i < (S.map Step.tk).length := by rw [List.length_map]; exact hi
      refine ⟨rfl, ?_⟩
      dsimp only [tYes]
      try rw [if_pos rfl]
      refine ⟨_, rfl, x, S[i], rfl, hA.keeps (sqT_same e3), _, hDl, small (by rw [List.length_map, List.length_take, List.length_map]; omega), same_new e3 hD, ?_⟩
      rw [upd_same, take_snoc him, List.map_append, List.getElem_map]
      rfl
    · rintro H3 ⟨e3, hDl⟩
      rw [hsl, ← List.length_map (f := Step.tk) (as := S), List.take_length] at hDl
      have e03 := GX.Sm.trans e02 (GX.Sm.of e3)
      refine ⟨c1, D, W, S.map Step.tk, rfl, scr1 e03, SqL.of hDl, by rw [sum_tk]; exact hok, by omega, by rw [List.length_map]; omega, fun pp H4 as l r rv e4 hPP hPs hR hRV => ?_⟩
      have e04 := GX.Sm.trans e03 (GX.Sm.of e4)
      have hL4 := (e3.trans e4).seq hL2
      have hV4 := hV2.keeps (sqT_same (e3.trans e4))
      have hpl := splits_len (S.map Step.tk) W
      rw [List.length_map] at hpl
      have hal := hPs.length
      rw [hpl] at hal
      have hPG := PG_split S W
      have hPGl := PG_len S W
      generalize splits (S.map Step.tk) W = sp2 at hPs hRV hpl hPG
      obtain ⟨Ps, Rs⟩ := sp2
      dsimp only at hPs hRV hpl hPG
      -- steps
      refine ⟨by decide, fun sp hsp => ?_⟩
      have f1 := same_upd (o := .lst ([] : List V)) hsp
      refine ⟨_, rfl, _, rfl, c2, pp, _, _, rfl, f1.seq hL4, SqL.of (f1 _ _ hPP), for_it (walk_zip (K := K) (a := c2) (b := pp) (xs := ws2) (ys := as.map V.ref ++ [V.ref r]) (n := S.length) (by rw [List.length_append, List.length_map, hsl, hal]; simp)) (fun i σ H' => GX.Sm H4 H' ∧ ∃ (us : List V) (v3 v5 : Option V), H' sp = some (.lst us) ∧ ScrV K H' us (((S.zip Ps).take i).flatMap segS) ∧ σ = [some (.ref c1), some (.ref c2), some (.ref pp), v3, some (.ref sp), v5]) ⟨GX.Sm.of f1, [], none, none, upd_same, .nil, rfl⟩ (fun i σ H' _ ⟨e, _⟩ => ⟨e.seq hL4, e.seq (SqL.of hPP)⟩) ?_ ?_⟩
      · rintro i x σ H5 H6 hi ⟨e5, us, v3, v5, hSP, hU, rfl⟩ ⟨T1, u, v, rfl, hT, rfl, hu, hv⟩
        have hu : ws2[i]? = some u := hu
        have hv : (as.map V.ref ++ [V.ref r])[i]? = some v := hv
        have g6 := same_upd (o := .tup [u, v]) hT
        have hTT : (upd H5 T1 (.tup [u, v])) T1 = some (.tup [u, v]) := upd_same
        have hSP := g6 _ _ hSP
        have hU := hU.keeps (sqT_same g6)
        have e6 := GX.Sm.trans e5 (GX.Sm.of g6)
        generalize upd H5 T1 (.tup [u, v]) = H6 at hTT hSP hU e6 ⊢
        obtain ⟨st, hst, hA⟩ := scr_get hV4 hu
        have hA := hA.keeps (sqT_sm e6)
        obtain ⟨_, rfl⟩ := List.getElem?_eq_some_iff.mp hst
        have hia : i < as.length := by omega
        rw [List.getElem?_append_left (by rw [List.length_map]; exact hia), List.getElem?_map, List.getElem?_eq_getElem hia] at hv
        obtain rfl := Option.some.inj hv
        obtain ⟨pt, hpt, _, _, pv, hpv, hPV⟩ := part_get hPs (List.getElem?_eq_getElem hia)
        obtain ⟨hip, rfl⟩ := List.getElem?_eq_some_iff.mp hpt
        have hpv := e6.l hpv
        have hPV := hPV.keeps (sqT_sm e6)
        have hiz : i < (S.zip Ps).length := by rw [List.length_zip]; omega
        have hacc : ((S.zip Ps).take (i + 1)).flatMap segS = ((S.zip Ps).take i).flatMap segS ++ segS (S[i], Ps[i]) := by
          rw [take_snoc hiz, List.flatMap_append, List.getElem_zip]
          simp
        have hb1 := flatMap_take_len segS (S.zip Ps) (i + 1)
        have hb0 := flatMap_take_len segS (S.zip Ps) i
        rw [hPG, List.length_append] at hPGl
        have hul := hU.length
        have hpvl := hPV.length
        rw [hacc, List.length_append] at hb1
        rw [hacc]
        generalize hAc : ((S.zip Ps).take i).flatMap segS = Ac at hU hul hb0 hb1 ⊢
        have kT := fun ys t zs => sqT_lst (K := K) (ws := ys) hSP t zs
        have ePut : ∀ ys : List V, GX.Sm H4 (upd H6 sp (.lst ys)) := fun ys => sm_put e6 hsp hSP
        refine ⟨T1, _, rfl, SqT.of hTT, rfl, _, _, rfl, _, _, rfl, rfl, ?_⟩
        generalize Ps[i] = p at hpv hPV hpvl hb1 ⊢
        generalize S[i] = st at hA hb1 ⊢
        cases st with
        | add xs =>
          obtain ⟨t, x, rfl, hT2, hX⟩ := hA
          refine ⟨_, rfl, t, _, _, .str "add", rfl, rfl, hT2, rfl, rfl, _, rfl, itd (fun _ => ?_) (fun h => absurd rfl h)⟩
          refine ⟨_, rfl, .inl ⟨rfl, _, SqL.of hSP⟩, _, rfl, sp, _, _, rfl, rfl, hSP, small (by omega), ?_⟩
          exact ⟨ePut _, us ++ [V.ref t], _, _, upd_same, (hU.keeps (kT _)).app (.cons ⟨t, x, rfl, kT _ _ _ hT2, kT _ _ _ hX⟩ .nil), rfl⟩
        | keep n =>
          obtain ⟨t, rfl, hT2⟩ := hA
          refine ⟨_, rfl, t, _, _, .str "keep", rfl, rfl, hT2, rfl, rfl, _, rfl, itd (fun h => absurd h (by decide)) (fun _ => ?_)⟩
          refine ⟨_, rfl, t, _, _, .str "keep", rfl, rfl, hT2, rfl, rfl, _, rfl, itd (fun _ => ?_) (fun h => absurd rfl h)⟩
          refine ⟨_, rfl, .inl ⟨rfl, _, SqL.of hSP⟩, _, rfl, sp, as[i], _, _, rfl, rfl, hSP, hpv, smallE ?_, ?_⟩
          · have hb1 : Ac.length + p.length ≤ _ := hb1
            omega
          exact ⟨ePut _, us ++ pv, _, _, upd_same, (hU.keeps (kT _)).app (hPV.keeps (kT _)), rfl⟩
        | drop n =>
          obtain ⟨t, rfl, hT2⟩ := hA
          refine ⟨_, rfl, t, _, _, .str "drop", rfl, rfl, hT2, rfl, rfl, _, rfl, itd (fun h => absurd h (by decide)) (fun _ => ?_)⟩
          refine ⟨_, rfl, t, _, _, .str "drop", rfl, rfl, hT2, rfl, rfl, _, rfl, itd (fun h => absurd h (by decide)) (fun _ => ?_)⟩
          refine ⟨_, rfl, .inl ⟨rfl, _, SqL.of hSP⟩, _, rfl, as[i], p, rfl, ⟨pv, SqL.of hpv, hPV⟩, (GX.Sm.trans e04 e6).tab _ tb1, fun H7 e7 => ⟨(by show 2 ≤ sizeLine; decide), fun d hd => ?_⟩⟩
          have g8 := same_upd (o := .tup [V.str "drop", V.int (taken p : Int)]) hd
          have hSP8 := g8 _ _ (e7.l hSP)
          have hU8 := (hU.keeps (sqT_sm e7)).keeps (sqT_same g8)
          refine ⟨sp, _, _, rfl, rfl, hSP8, small (by omega), ?_⟩
          exact ⟨sm_put (GX.Sm.trans e6 (GX.Sm.trans e7 (GX.Sm.of g8))) hsp hSP8, us ++ [V.ref d], _, _, upd_same, (hU8.keeps (sqT_lst hSP8)).app (.cons ⟨d, rfl, sqT_lst hSP8 _ _ (SqT.of upd_same)⟩ .nil), rfl⟩
      · rintro σ H5 ⟨e5, us, v3, v5, hSP, hU, rfl⟩
        rw [show S.length = (S.zip Ps).length by rw [List.length_zip]; omega, List.take_length] at hU
        have hR5 := e5.l hR
        have hRV5 := hRV.keeps (sqT_sm e5)
        have hat : atI (as.map V.ref ++ [V.ref r]) (-1) = some (.ref r) := by
          rw [at_last (n := as.length) (m := 1) (by simp) rfl (by simp)]
          rw [List.getElem_append_right (by simp)]
          simp
        have hul := hU.length
        have hrl := hRV.length
        rw [hPG, List.length_append] at hPGl
        refine ⟨_, rfl, _, rfl, _, rfl, pp, _, _, .ref r, rfl, rfl, e5.seq (SqL.of hPP), hat, sp, r, _, _, rfl, rfl, hSP, hR5, smallE (by omega), fun q hq => ?_⟩
        have g6 := same_upd (o := .lst (us ++ rv)) hq
        have hPGt := PG_tot S W
        refine ⟨q, PG S W, rfl, ⟨us ++ rv, SqL.of upd_same, ?_⟩, ?_, by omega, fun p H7 w7 hp e7 hp7 hW7 => ?_⟩
        · rw [hPG]
          exact (hU.keeps (sqT_same g6)).app (hRV5.keeps (sqT_same g6))
        · rw [hPG, List.length_append]
          omega
        · exact kQ hok p H7 w7 (GX.Sm.trans e04 (GX.Sm.trans e5 (GX.Sm.of (g6.trans e7)))) hp7 hW7

-- @@CUT
theorem flat_one (n : Nat) (v : V) : (List.replicate n [v]).flatten = List.replicate n v := by
  induction n with
  | zero => rfl
  | succ n ih => rw [List.replicate_succ, List.flatten_cons, ih, List.replicate_succ]; rfl
theorem scr_put {K : PySem.W.Frag} {H : Hp} {l : Addr} {es : List V} {E : List Step} {v : V} (s : Step) (hl : H l = some (.lst es)) (hE : ScrV K H es E) (hs : StepAt K H v s) : ScrV K (upd H l (.lst (es ++ [v]))) (es ++ [v]) (E ++ [s]) := (hE.keeps (sqT_lst hl)).app (.cons (hs.keeps (sqT_lst hl)) .nil)
def nond : List Un → Nat
  | [] => 0
  | .d :: r => nond r
  | .k :: r => nond r + 1
  | .a _ :: r => nond r + 1
theorem nond_app : ∀ (a b : List Un), nond (a ++ b) = nond a + nond b
  | [], b => by simp [nond]
  | .d :: a, b => nond_app a b
  | .k :: a, b => by
    show nond (a ++ b) + 1 = nond a + 1 + nond b
    rw [nond_app a b]
    omega
  | .a x :: a, b => by
    show nond (a ++ b) + 1 = nond a + 1 + nond b
    rw [nond_app a b]
    omega
theorem nond_uns : ∀ W : List Step, nond (uns W) = made W
  | [] => rfl
  | s :: W => by
    rw [uns_cons, nond_app, nond_uns W]
    show _ = s.mk' + made W
    have rk : ∀ n : Nat, nond (List.replicate n Un.k) = n := fun n => by
      induction n with
      | zero => rfl
      | succ n ih => rw [List.replicate_succ]; show nond _ + 1 = _; rw [ih]
    have rd : ∀ n : Nat, nond (List.replicate n Un.d) = 0 := fun n => by
      induction n with
      | zero => rfl
      | succ n ih => rw [List.replicate_succ]; exact ih
    cases s with
    | keep n => simp only [un1, Step.mk', rk]
    | drop n => simp only [un1, Step.mk', rd]
    | add xs =>
      simp only [un1, Step.mk']
      have ra : nond (xs.map Un.a) = xs.length := by
        induction xs with
        | nil => rfl
        | cons x xs ih => rw [List.map_cons]; show nond _ + 1 = _; rw [ih]; rfl
      rw [ra]
theorem folN_nond {b : Bool} : ∀ (R : List Un) (n : Nat), n ≤ nond R → nond (folN b n R).2 = nond R - n
  | R, 0, _ => by rw [folN_zero]; rfl
  | [], n + 1, h => by simp [nond] at h
  | .d :: R, n + 1, h => folN_nond R (n + 1) h
  | .k :: R, n + 1, h => by
    have h : n + 1 ≤ nond R + 1 := h
    show nond (folN b n R).2 = nond R + 1 - (n + 1)
    rw [folN_nond R n (by omega)]
    omega
  | .a x :: R, n + 1, h => by
    have h : n + 1 ≤ nond R + 1 := h
    show nond (folN b n R).2 = nond R + 1 - (n + 1)
    rw [folN_nond R n (by omega)]
    omega
theorem folN_len {b : Bool} : ∀ (R : List Un) (n : Nat), (folN b n R).1.length + (folN b n R).2.length ≤ R.length ∧ tot (folN b n R).1 + (folN b n R).2.length ≤ R.length
  | R, 0 => by rw [folN_zero]; simp [tot]
  | [], n + 1 => by simp [folN, tot]
  | .d :: R, n + 1 => by
    have ih := folN_len (b := b) R (n + 1)
    show (folN b (n + 1) R).1.length + 1 + (folN b (n + 1) R).2.length ≤ R.length + 1 ∧ 1 + tot (folN b (n + 1) R).1 + (folN b (n + 1) R).2.length ≤ R.length + 1
    omega
  | .k :: R, n + 1 => by
    have ih := folN_len (b := b) R n
    have e : (eb b .k).length = 1 ∧ tot (eb b .k) = 1 := by cases b <;> exact ⟨rfl, rfl⟩
    show (eb b .k ++ (folN b n R).1).length + (folN b n R).2.length ≤ R.length + 1 ∧ tot (eb b .k ++ (folN b n R).1) + (folN b n R).2.length ≤ R.length + 1
    rw [List.length_append, tot_app]
    omega
  | .a x :: R, n + 1 => by
    have ih := folN_len (b := b) R n
    have e : (eb b (.a x)).length ≤ 1 ∧ tot (eb b (.a x)) ≤ 1 := by cases b <;> simp [eb, tot, Step.sz]
    show (eb b (.a x) ++ (folN b n R).1).length + (folN b n R).2.length ≤ R.length + 1 ∧ tot (eb b (.a x) ++ (folN b n R).1) + (folN b n R).2.length ≤ R.length + 1
    rw [List.length_append, tot_app]
    omega
theorem fol_len : ∀ (S : List Step) (R : List Un), (fol S R).length ≤ R.length + S.length ∧ tot (fol S R) ≤ R.length + tot S
  | [], R => by
    have e : ∀ R : List Un, tot (R.map fun _ => Step.drop 1) = R.length := fun R => by
      induction R with
      | nil => rfl
      | cons u R ih => rw [List.map_cons]; show 1 + tot _ = R.length + 1; rw [ih]; omega
    show (R.map fun _ => Step.drop 1).length ≤ _ ∧ tot (R.map fun _ => Step.drop 1) ≤ _
    rw [e, List.length_map]
    exact ⟨Nat.le_add_right _ _, Nat.le_add_right _ _⟩
  | .add xs :: r, R => by
    have ih := fol_len r R
    show (fol r R).length + 1 ≤ R.length + (r.length + 1) ∧ xs.length + tot (fol r R) ≤ R.length + (xs.length + tot r)
    omega
  | .keep n :: r, R => by
    have ih := fol_len r (folN true n R).2
    have h := folN_len (b := true) R n
    show ((folN true n R).1 ++ fol r (folN true n R).2).length ≤ R.length + (r.length + 1) ∧ tot ((folN true n R).1 ++ fol r (folN true n R).2) ≤ R.length + (n + tot r)
    rw [List.length_append, tot_app]
    omega
  | .drop n :: r, R => by
    have ih := fol_len r (folN false n R).2
    have h := folN_len (b := false) R n
    show ((folN false n R).1 ++ fol r (folN false n R).2).length ≤ R.length + (r.length + 1) ∧ tot ((folN false n R).1 ++ fol r (folN false n R).2) ≤ R.length + (n + tot r)
    rw [List.length_append, tot_app]
    omega
theorem folN_posk {b : Bool} : ∀ (R : List Un) (n : Nat), PosK (folN b n R).1
  | R, 0, k, h => by rw [folN_zero] at h; cases h
  | [], n + 1, k, h => by simp [folN] at h
  | .d :: R, n + 1, k, h => by
    rcases List.mem_cons.mp (show Step.keep k ∈ .drop 1 :: (folN b (n + 1) R).1 from h) with e | e
    · cases e
    · exact folN_posk R (n + 1) k e
  | .k :: R, n + 1, k, h => by
    rcases List.mem_append.mp (show Step.keep k ∈ eb b .k ++ (folN b n R).1 from h) with e | e
    · cases b <;> simp [eb] at e
      omega
    · exact folN_posk R n k e
  | .a x :: R, n + 1, k, h => by
    rcases List.mem_append.mp (show Step.keep k ∈ eb b (.a x) ++ (folN b n R).1 from h) with e | e
    · cases b <;> simp [eb] at e
    · exact folN_posk R n k e
theorem fol_posk : ∀ (S : List Step) (R : List Un), PosK (fol S R)
  | [], R, k, h => by
    obtain ⟨_, _, e⟩ := List.mem_map.mp (show Step.keep k ∈ R.map fun _ => Step.drop 1 from h)
    cases e
  | .add xs :: r, R, k, h => by
    rcases List.mem_cons.mp (show Step.keep k ∈ .add xs :: fol r R from h) with e | e
    · cases e
    · exact fol_posk r R k e
  | .keep n :: r, R, k, h => by
    rcases List.mem_append.mp (show Step.keep k ∈ (folN true n R).1 ++ fol r (folN true n R).2 from h) with e | e
    · exact folN_posk R n k e
    · exact fol_posk r _ k e
  | .drop n :: r, R, k, h => by
    rcases List.mem_append.mp (show Step.keep k ∈ (folN false n R).1 ++ fol r (folN false n R).2 from h) with e | e
    · exact folN_posk R n k e
    · exact fol_posk r _ k e
def unT : Un → List V
  | .k => [.str "keep", .int 0]
  | .d => [.str "drop", .int 0]
  | .a x => [.str "add", .int x]
def UnAt (K : PySem.W.Frag) (H : Hp) (v : V) (u : Un) : Prop := ∃ t, v = .ref t ∧ SqT K H t (unT u)
def UnsV (K : PySem.W.Frag) (H : Hp) (vs : List V) (us : List Un) : Prop := Paired (UnAt K H) vs us
theorem UnsV.keeps {K : PySem.W.Frag} {H H' : Hp} (e : ∀ t ys, SqT K H t ys → SqT K H' t ys) : ∀ {vs : List V} {us : List Un}, UnsV K H vs us → UnsV K H' vs us
  | _, _, .nil => .nil
  | _, _, .cons ⟨t, h1, h2⟩ r => .cons ⟨t, h1, e _ _ h2⟩ (UnsV.keeps e r)
theorem UnsV.app {K : PySem.W.Frag} {H : Hp} : ∀ {a b : List V} {x y : List Un}, UnsV K H a x → UnsV K H b y → UnsV K H (a ++ b) (x ++ y)
  | _, _, _, _, .nil, h => h
  | _, _, _, _, .cons h r, h2 => .cons h (UnsV.app r h2)
theorem UnsV.rep {K : PySem.W.Frag} {H : Hp} {v : V} {u : Un} (h : UnAt K H v u) : ∀ n : Nat, UnsV K H (List.replicate n v) (List.replicate n u)
  | 0 => .nil
  | n + 1 => by rw [List.replicate_succ, List.replicate_succ]; exact .cons h (UnsV.rep h n)
theorem UnsV.length {K : PySem.W.Frag} {H : Hp} {vs : List V} {us : List Un} (h : UnsV K H vs us) : vs.length = us.length := Paired.length h
theorem un_at {K : PySem.W.Frag} {H : Hp} : ∀ {vs : List V} {us : List Un} {i : Nat} {u : Un} {R : List Un}, UnsV K H vs us → us.drop i = u :: R → ∃ v, vs[i]? = some v ∧ UnAt K H v u ∧ us.drop (i + 1) = R ∧ i < us.length
  | _, _, i, u, R, .nil, h => by simp at h
  | _, _, 0, u, R, .cons h r, e => by
    simp at e
    obtain ⟨rfl, rfl⟩ := e
    exact ⟨_, rfl, h, rfl, by simp⟩
  | _, _, i + 1, u, R, .cons h r, e => by
    obtain ⟨v, h1, h2, h3, h4⟩ := un_at (i := i) r (by simpa using e)
    exact ⟨v, by simpa using h1, h2, by simpa using h3, by simpa using h4⟩
theorem nond_pos : ∀ {R : List Un}, 0 < nond R → ∃ u R', R = u :: R'
  | [], h => by simp [nond] at h
  | u :: R, _ => ⟨u, R, rfl⟩
def spFollow (K : PySem.W.Frag) : Sp := fun vs H Q _ => ∃ (c1 c2 : Addr) (W S : List Step), vs = [.ref c1, .ref c2] ∧ ScrAt K H c1 W ∧ ScrAt K H c2 S ∧ taken S = made W ∧ tot W + S.length ≤ 400 ∧ tot S ≤ 10000 ∧ ∀ p H' ws, Same H H' → H' p = some (.lst ws) → ScrV K H' ws (nf (fol S (uns W))) → Q (.ref p) H'
@[reducible] def stF (c1 c2 mp : Addr) (v3 v4 v6 v7 v8 v9 v10 : Option V) : L2.St := [some (.ref c1), some (.ref c2), some (.ref mp), v3, v4, none, v6, v7, v8, v9, v10]
theorem ok__law_follow (T : Txt K mg C_ArchiveError C_InvalidScript c_taken_items c_made_items P_taken_items P_made_items) : Ok P w K mg base CX0 3 "_law_follow" ["first", "second"] (spFollow K) := by
  have G__law_normal := ok__law_normal (P := P) (w := w) (base := base) T
  refine ok_of T.d__law_follow fun f fd F => F.ok sc__law_follow (fun vs H Q E h => ?_) (fun cdv A outer s H vs Q E hr h => ?_)
  · obtain ⟨c1, c2, W, S, rfl, _⟩ := h
    rfl
  · obtain ⟨c1, c2, W, S, rfl, ⟨ws1, hL1, hV1⟩, ⟨ws2, hL2, hV2⟩, hfit, hsz, htS, kQ⟩ := h
    have nd := sc__law_follow.nd
    refine ⟨_,       (pss_cons (ps_set (i := 2) nd rfl (Or.inl rfl) (pe_lst pa_nil))
      (pss_cons (ps_for PassesOwn.never rfl (pi_list (pv 0)) (pg_tup rfl (pgs_cons (pg_name (i := 3) nd rfl (Or.inl rfl)) (pgs_cons (pg_name (i := 4) nd rfl (Or.inl rfl)) pgs_nil)))
        (pss_one (ps_if (pt_cmpR op_eq (pv 3) pe_str (nomark _))
          (pss_one (ps_set (i := 2) nd rfl (Or.inl rfl) (pe_op op_cat (pv 2) (pe_lc (own := [("item", 5)]) (g := gName 5) (tt := tYes) rfl nd (pi_tup (pv 4)) (blkOk_by (N := N__law_follow) (sc := defScope s__law_follow) (by decide +kernel)) (fun _ _ _ _ _ => (pg_name (i := 5) nd rfl (Or.inl rfl))) (fun _ _ _ _ _ => pts_nil) (fun _ _ _ _ _ => (pe_tup (pa_cons pe_str (pa_cons (pv 5) pa_nil))))))))
          (pss_one (ps_set (i := 2) nd rfl (Or.inl rfl) (pe_op op_cat (pv 2) (pe_op op_rep (pe_lst (pa_cons (pe_tup (pa_cons (pv 3) (pa_cons pe_int pa_nil))) pa_nil)) (pv 4))))))))
      (pss_cons (ps_set (i := 6) nd rfl (Or.inl rfl) (pe_lst pa_nil))
      (pss_cons (ps_set (i := 7) nd rfl (Or.inl rfl) pe_int)
      (pss_cons (ps_for PassesOwn.never rfl (pi_list (pv 1)) (pg_tup rfl (pgs_cons (pg_name (i := 3) nd rfl (Or.inl rfl)) (pgs_cons (pg_name (i := 4) nd rfl (Or.inl rfl)) pgs_nil)))
        (pss_one (ps_if (pt_cmpR op_eq (pv 3) pe_str (nomark _))
          (pss_one (ps_expr (pe_bm PySem.F.plainAttrs_list PySem.F.slot_list_append PySem.F.type_list_append mt_append (pv 6) (pa_cons (pe_tup (pa_cons pe_str (pa_cons (pv 4) pa_nil))) pa_nil))))
          (pss_one (ps_for PassesOwn.never rfl (pi_range1 rfl T.n_range (pa_cons (pv 4) pa_nil)) (pg_name (i := 8) nd rfl (Or.inl rfl))
            (pss_cons (ps_for PassesOwn.never rfl (pi_range1 rfl T.n_range (pa_cons (pe_callB call_len_seq (by rfl) T.n_len PySem.boot_len (pa_cons (pv 2) pa_nil)) pa_nil)) (pg_name (i := 9) nd rfl (Or.inl rfl))
              (pss_one (ps_if (pt_cmpR op_eq (pe_ix ix_tup (pe_ix ix_list (pv 2) (pv 7) (fun _ _ => rfl)) pe_int (fun _ _ => rfl)) pe_str (nomark _))
                (pss_cons (ps_expr (pe_bm PySem.F.plainAttrs_list PySem.F.slot_list_append PySem.F.type_list_append mt_append (pv 6) (pa_cons (pe_tup (pa_cons pe_str (pa_cons pe_int pa_nil))) pa_nil)))
                (pss_one (ps_set (i := 7) nd rfl (Or.inl rfl) (pe_op op_add (pv 7) pe_int)))) pss_nil)))
            (pss_cons (ps_if (pt_cmpR op_eq (pe_ix ix_tup (pe_ix ix_list (pv 2) (pv 7) (fun _ _ => rfl)) pe_int (fun _ _ => rfl)) pe_str (nomark _))
              (pss_one (ps_expr (pe_bm PySem.F.plainAttrs_list PySem.F.slot_list_append PySem.F.type_list_append mt_append (pv 6) (pa_cons (pe_tup (pa_cons (pv 3) (pa_cons pe_int pa_nil))) pa_nil))))
              (pss_one (ps_if (pt_cmpR op_eq (pv 3) pe_str (nomark _))
                (pss_one (ps_expr (pe_bm PySem.F.plainAttrs_list PySem.F.slot_list_append PySem.F.type_list_append mt_append (pv 6) (pa_cons (pe_tup (pa_cons pe_str (pa_cons (pe_tup (pa_cons (pe_ix ix_tup (pe_ix ix_list (pv 2) (pv 7) (fun _ _ => rfl)) pe_int (fun _ _ => rfl)) pa_nil)) pa_nil))) pa_nil)))) pss_nil)))
            (pss_one (ps_set (i := 7) nd rfl (Or.inl rfl) (pe_op op_add (pv 7) pe_int))))))))))
      (pss_cons (ps_for PassesOwn.never rfl (pi_list (pe_slice sl_list (pv 2) (po_some (pv 7)) po_none)) (pg_name (i := 10) nd rfl (Or.inl rfl))
        (pss_one (ps_expr (pe_bm PySem.F.plainAttrs_list PySem.F.slot_list_append PySem.F.type_list_append mt_append (pv 6) (pa_cons (pe_tup (pa_cons pe_str (pa_cons pe_int pa_nil))) pa_nil)))))
      (pss_one (ps_ret (pe_callO G__law_normal (hr.mono (by decide)) pass0 (pa_cons (pv 6) pa_nil)))))))))), ?_⟩
    refine ⟨by decide, fun m0 hm0 => ?_⟩
    refine ⟨_, rfl, c1, rfl, ⟨_, (same_upd hm0).seq hL1⟩, for_list (K := K) (a := c1) (xs := ws1) (fun i σ H' => Same H H' ∧ ∃ (mp : Addr) (us : List V) (v3 v4 : Option V), H' mp = some (.lst us) ∧ UnsV K H' us (uns (W.take i)) ∧ σ = stF c1 c2 mp v3 v4 none none none none none) ⟨same_upd hm0, m0, [], none, none, upd_same, .nil, rfl⟩ (fun i σ H' _ ⟨e, _⟩ => e.seq hL1) ?_ ?_⟩
    · rintro i x σ H' hx ⟨e, mp, us, v3, v4, hM, hU, rfl⟩
      obtain ⟨st, hst, hA⟩ := scr_get hV1 hx
      have hA := hA.keeps (sqT_same e)
      obtain ⟨hi, hsi⟩ := List.getElem?_eq_some_iff.mp hst
      have hlim := tot_take_le W (i + 1)
      have hul := hU.length
      rw [uns_len] at hul
      rw [take_snoc hi, hsi, tot_snoc] at hlim
      rw [take_snoc hi, hsi, uns_snoc]
      cases st with
      | add xs =>
        obtain ⟨t, u, rfl, hT, hX⟩ := hA
        simp only [Step.sz] at hlim
        refine ⟨t, _, rfl, hT, rfl, _, _, rfl, _, _, rfl, rfl, ?_⟩
        refine ⟨_, rfl, rfl, _, rfl, itd (fun _ => ?_) (fun h => absurd rfl h)⟩
        refine ⟨_, rfl, _, rfl, u, rfl, ⟨_, hX⟩, fun D hD => lc_tup (K := K) (a := u) (xs := xs.map V.int) (fun j H2 => Same H' H2 ∧ ∃ ds, H2 D = some (.lst ds) ∧ UnsV K H2 ds ((xs.take j).map Un.a)) ⟨same_upd hD, [], upd_same, .nil⟩ (fun j H2 _ ⟨e2, _⟩ => sqT_same e2 _ _ hX) ?_ ?_⟩
        · rintro j y H2 hy ⟨e2, ds, hDl, hDs⟩
          obtain ⟨hj, rfl⟩ := get_ints hy
          have hdl := hDs.length
          rw [List.length_map, List.length_take] at hdl
          rw [take_snoc hj, List.map_append]
          refine ⟨rfl, ?_⟩
          dsimp only [tYes]
          try rw [if_pos rfl]
          refine ⟨_, rfl, (by show 2 ≤ sizeLine; decide), fun v hv => ?_⟩
          have g := same_upd (o := .tup [V.str "add", V.int xs[j]]) hv
          refine ⟨_, g _ _ hDl, small (by omega), same_new (e2.trans g) hD, _, upd_same, ?_⟩
          exact ((hDs.keeps (sqT_same g)).keeps (sqT_lst (g _ _ hDl))).app (.cons ⟨v, rfl, sqT_lst (g _ _ hDl) _ _ (SqT.of upd_same)⟩ .nil)
        · rintro H2 ⟨e2, ds, hDl, hDs⟩
          rw [List.length_map, List.take_length] at hDs
          have hdl := hDs.length
          rw [List.length_map] at hdl
          refine ⟨mp, D, _, _, rfl, rfl, e2 _ _ hM, hDl, smallE (by omega), fun r hr => ?_⟩
          have g := e2.trans (same_upd (o := .lst (us ++ ds)) hr)
          exact ⟨e.trans g, r, us ++ ds, _, _, upd_same, (hU.keeps (sqT_same g)).app (hDs.keeps (sqT_same (same_upd hr))), rfl⟩
      | keep n =>
        obtain ⟨t, rfl, hT⟩ := hA
        simp only [Step.sz] at hlim
        refine ⟨t, _, rfl, hT, rfl, _, _, rfl, _, _, rfl, rfl, ?_⟩
        refine ⟨_, rfl, rfl, _, rfl, itd (fun h => absurd h (by decide)) (fun _ => ?_)⟩
        refine ⟨_, rfl, _, rfl, (by show 2 ≤ sizeLine; decide), fun a ha => ⟨(by show 1 ≤ sizeLine; decide), fun l hl => ?_⟩⟩
        have g1 := same_upd (o := .tup [V.str "keep", V.int 0]) ha
        have g2 := same_upd (o := .lst [V.ref a]) hl
        refine ⟨_, rfl, _, _, _, rfl, rfl, (show (upd (upd H' a (.tup [V.str "keep", V.int 0])) l (.lst [V.ref a])) l = some (.lst [V.ref a]) from upd_same), by omega, by omega, smallE ?_, fun r hr => ?_⟩
        · rw [Int.toNat_natCast, List.length_singleton]
          omega
        rw [Int.toNat_natCast, flat_one]
        have g3 := same_upd (o := .lst (List.replicate n (V.ref a))) hr
        refine ⟨mp, r, _, _, rfl, rfl, ((g1.trans g2).trans g3) _ _ hM, upd_same, smallE ?_, fun q hq => ?_⟩
        · rw [List.length_replicate]
          omega
        have g4 := same_upd (o := .lst (us ++ List.replicate n (V.ref a))) hq
        have g := ((g1.trans g2).trans g3).trans g4
        exact ⟨e.trans g, q, _, _, _, upd_same, (hU.keeps (sqT_same g)).app (UnsV.rep ⟨a, rfl, sqT_same ((g2.trans g3).trans g4) _ _ (SqT.of upd_same)⟩ n), rfl⟩
      | drop n =>
        obtain ⟨t, rfl, hT⟩ := hA
        simp only [Step.sz] at hlim
        refine ⟨t, _, rfl, hT, rfl, _, _, rfl, _, _, rfl, rfl, ?_⟩
        refine ⟨_, rfl, rfl, _, rfl, itd (fun h => absurd h (by decide)) (fun _ => ?_)⟩
        refine ⟨_, rfl, _, rfl, (by show 2 ≤ sizeLine; decide), fun a ha => ⟨(by show 1 ≤ sizeLine; decide), fun l hl => ?_⟩⟩
        have g1 := same_upd (o := .tup [V.str "drop", V.int 0]) ha
        have g2 := same_upd (o := .lst [V.ref a]) hl
        refine ⟨_, rfl, _, _, _, rfl, rfl, (show (upd (upd H' a (.tup [V.str "drop", V.int 0])) l (.lst [V.ref a])) l = some (.lst [V.ref a]) from upd_same), by omega, by omega, smallE ?_, fun r hr => ?_⟩
        · rw [Int.toNat_natCast, List.length_singleton]
          omega
        rw [Int.toNat_natCast, flat_one]
        have g3 := same_upd (o := .lst (List.replicate n (V.ref a))) hr
        refine ⟨mp, r, _, _, rfl, rfl, ((g1.trans g2).trans g3) _ _ hM, upd_same, smallE ?_, fun q hq => ?_⟩
        · rw [List.length_replicate]
          omega
        have g4 := same_upd (o := .lst (us ++ List.replicate n (V.ref a))) hq
        have g := ((g1.trans g2).trans g3).trans g4
        exact ⟨e.trans g, q, _, _, _, upd_same, (hU.keeps (sqT_same g)).app (UnsV.rep ⟨a, rfl, sqT_same ((g2.trans g3).trans g4) _ _ (SqT.of upd_same)⟩ n), rfl⟩
    · rintro σ H1 ⟨e1, mp, us, v3, v4, hM, hU, rfl⟩
      rw [Paired.length hV1, List.take_length] at hU
      have hL2' := e1.seq hL2
      have hV2' := hV2.keeps (sqT_same e1)
      have hUl := hU.length
      rw [uns_len] at hUl
      have hfl := fol_len S (uns W)
      have hfk := fol_posk S (uns W)
      rw [uns_len] at hfl
      have hnd := nond_uns W
      have hul2 := uns_len W
      generalize uns W = U at hU hfl hfk hnd hul2 kQ
      -- steps, at
      refine ⟨by decide, fun sp hsp => ?_⟩
      have f1 := same_upd (o := .lst ([] : List V)) hsp
      have hS0 : (upd H1 sp (.lst [])) sp = some (.lst []) := upd_same
      refine ⟨_, rfl, c2, rfl, ⟨_, f1.seq hL2'⟩, for_list (K := K) (a := c2) (xs := ws2) (fun i σ H' => Same H1 H' ∧ ∃ (es : List V) (E : List Step) (a0 : Nat) (v3 v4 v8 v9 : Option V), H' sp = some (.lst es) ∧ ScrV K H' es E ∧ a0 ≤ U.length ∧ fol S U = E ++ fol (S.drop i) (U.drop a0) ∧ taken (S.drop i) = nond (U.drop a0) ∧ σ = stF c1 c2 mp v3 v4 (some (.ref sp)) (some (.int (a0 : Int))) v8 v9 none) ⟨f1, [], [], 0, v3, v4, none, none, hS0, .nil, Nat.zero_le _, rfl, by rw [List.drop_zero, List.drop_zero, hnd]; exact hfit, rfl⟩ (fun i σ H' _ ⟨e, _⟩ => e.seq hL2') ?_ ?_⟩
      · rintro i x σ H2 hx ⟨e2, es, E, a0, v3, v4, v8, v9, hSP, hE, hat, hfo, hnn, rfl⟩
        obtain ⟨st, hst, hA⟩ := scr_get hV2' hx
        have hA := hA.keeps (sqT_same e2)
        obtain ⟨hi, hsi⟩ := List.getElem?_eq_some_iff.mp hst
        have hdr : S.drop i = st :: S.drop (i + 1) := by rw [List.drop_eq_getElem_cons hi, hsi]
        have hEl : E.length ≤ 400 := by
          have h1 := hfl.1
          rw [hfo, List.length_append] at h1
          omega
        have hesl := hE.length
        rw [hdr] at hfo hnn
        cases st with
        | add xs =>
          obtain ⟨t, u, rfl, hT, hX⟩ := hA
          refine ⟨t, _, rfl, hT, rfl, _, _, rfl, _, _, rfl, rfl, ?_⟩
          refine ⟨_, rfl, rfl, _, rfl, itd (fun _ => ?_) (fun h => absurd rfl h)⟩
          refine ⟨_, rfl, .inl ⟨rfl, _, SqL.of hSP⟩, _, rfl, (by show 2 ≤ sizeLine; decide), fun v hv => ?_⟩
          have g := same_upd (o := .tup [V.str "add", V.ref u]) hv
          refine ⟨sp, _, _, rfl, rfl, g _ _ hSP, small (by omega), ?_⟩
          refine ⟨same_new (e2.trans g) hsp, es ++ [.ref v], E ++ [.add xs], a0, _, _, _, _, upd_same, scr_put (.add xs) (g _ _ hSP) (hE.keeps (sqT_same g)) ⟨v, u, rfl, SqT.of upd_same, sqT_same g _ _ hX⟩, hat, ?_, ?_, rfl⟩
          · rw [hfo]
            show E ++ (.add xs :: fol (S.drop (i + 1)) (U.drop a0)) = _
            simp
          · have hnn : 0 + taken (S.drop (i + 1)) = nond (U.drop a0) := hnn
            omega
        | keep n =>
          obtain ⟨t, rfl, hT⟩ := hA
          have hn : n ≤ 10000 := by
            have h1 : tot (S.drop i) ≤ tot S := by
              have h := tot_app (S.take i) (S.drop i)
              rw [List.take_append_drop] at h
              omega
            rw [hdr] at h1
            have h1 : n + tot (S.drop (i + 1)) ≤ tot S := h1
            omega
          refine ⟨t, _, rfl, hT, rfl, _, _, rfl, _, _, rfl, rfl, ?_⟩
          refine ⟨_, rfl, rfl, _, rfl, itd (fun h => absurd h (by decide)) (fun _ => ?_)⟩
          refine ⟨_, rfl, (n : Int), rfl, by omega, by omega, ?_⟩
          rw [Int.toNat_natCast]
          have hfo : fol S U = E ++ ((folN true n (U.drop a0)).1 ++ fol (S.drop (i + 1)) (folN true n (U.drop a0)).2) := hfo
          have hnn : n + taken (S.drop (i + 1)) = nond (U.drop a0) := hnn
          refine for_range (lo := 0) (n := n) (fun kk σ H' => Same H1 H' ∧ ∃ (es : List V) (E : List Step) (a0 : Nat) (v8 v9 : Option V), H' sp = some (.lst es) ∧ ScrV K H' es E ∧ a0 ≤ U.length ∧ fol S U = E ++ ((folN true (n - kk) (U.drop a0)).1 ++ fol (S.drop (i + 1)) (folN true (n - kk) (U.drop a0)).2) ∧ n - kk + taken (S.drop (i + 1)) = nond (U.drop a0) ∧ σ = stF c1 c2 mp (some (.str (Str.ofString "keep"))) (some (.int (n : Int))) (some (.ref sp)) (some (.int (a0 : Int))) v8 v9 none) ⟨e2, es, E, a0, v8, v9, hSP, hE, hat, hfo, hnn, rfl⟩ ?_ ?_
          · clear hfo hnn hat hSP hE e2 hT
            rintro kk σ H3 hkk ⟨e3, es, E, a0, v8, v9, hSP, hE, hat, hfo, hnn, rfl⟩
            obtain ⟨m, hm⟩ : ∃ m, n - kk = m + 1 := ⟨n - kk - 1, by omega⟩
            have hm2 : n - (kk + 1) = m := by omega
            rw [hm] at hfo hnn
            rw [Int.zero_add]
            refine ⟨_, rfl, mp, _, rfl, .inl (SqL.of (e3 _ _ hM)), (us.length : Int), rfl, by omega, by omega, ?_⟩
            rw [Int.toNat_natCast]
            refine for_range (lo := 0) (n := us.length) (fun jj σ H' => Same H1 H' ∧ ∃ (es : List V) (E : List Step) (a0 : Nat) (v9 : Option V), H' sp = some (.lst es) ∧ ScrV K H' es E ∧ a0 ≤ U.length ∧ fol S U = E ++ ((folN true (m + 1) (U.drop a0)).1 ++ fol (S.drop (i + 1)) (folN true (m + 1) (U.drop a0)).2) ∧ m + 1 + taken (S.drop (i + 1)) = nond (U.drop a0) ∧ ((∀ R, U.drop a0 ≠ .d :: R) ∨ (U.drop a0).length + jj ≤ us.length) ∧ σ = stF c1 c2 mp (some (.str (Str.ofString "keep"))) (some (.int (n : Int))) (some (.ref sp)) (some (.int (a0 : Int))) (some (.int (kk : Int))) v9 none) ⟨e3, es, E, a0, v9, hSP, hE, hat, hfo, hnn, .inr (by rw [List.length_drop]; omega), rfl⟩ ?_ ?_
            · clear hfo hnn hat hSP hE e3
              rintro jj σ H5 hjj ⟨e5, es, E, a5, v9, hSP, hE, hat, hfo, hnn, hor, rfl⟩
              obtain ⟨u, R, hR⟩ := nond_pos (R := U.drop a5) (by omega)
              obtain ⟨v, hv, ⟨t, rfl, hT⟩, hR', hlt⟩ := un_at (hU.keeps (sqT_same e5)) hR
              have hEl : E.length ≤ 400 := by
                have h1 := hfl.1
                rw [hfo, List.length_append] at h1
                omega
              have hesl := hE.length
              rw [hR] at hfo hnn hor
              cases u with
              | d =>
                refine ⟨_, rfl, _, rfl, mp, _, _, .ref t, rfl, rfl, SqL.of (e5 _ _ hM), atI_nat hv, t, _, _, .str "drop", rfl, rfl, hT, rfl, rfl, _, rfl, itd (fun _ => ?_) (fun h => absurd rfl h)⟩
                refine ⟨_, rfl, .inl ⟨rfl, _, SqL.of hSP⟩, (by show 2 ≤ sizeLine; decide), fun v hv => ?_⟩
                have g := same_upd (o := .tup [V.str "drop", V.int 1]) hv
                refine ⟨sp, _, _, rfl, rfl, g _ _ hSP, small (by omega), ?_⟩
                refine ⟨_, rfl, _, _, rfl, rfl, same_new (e5.trans g) hsp, es ++ [.ref v], E ++ [.drop 1], a5 + 1, some (.int (0 + (jj : Int))), upd_same, scr_put (.drop 1) (g _ _ hSP) (hE.keeps (sqT_same g)) ⟨v, rfl, SqT.of upd_same⟩, by omega, ?_, ?_, ?_, ?_⟩
                · rw [hfo, hR', folN_d (by omega)]
                  simp
                · rw [hR']
                  exact hnn
                · rw [hR']
                  refine .inr ?_
                  have := hor.resolve_left fun z => z R rfl
                  rw [List.length_cons] at this
                  omega
                · show stF _ _ _ _ _ _ (some (V.int ((a5 : Int) + 1))) _ _ _ = _
                  rw [show ((a5 : Int) + 1) = ((a5 + 1 : Nat) : Int) by omega]
              | k =>
                refine ⟨_, rfl, _, rfl, mp, _, _, .ref t, rfl, rfl, SqL.of (e5 _ _ hM), atI_nat hv, t, _, _, .str "keep", rfl, rfl, hT, rfl, rfl, _, rfl, itd (fun h => absurd h (by decide)) (fun _ => ?_)⟩
                exact ⟨e5, es, E, a5, _, hSP, hE, hat, by rw [hR]; exact hfo, by rw [hR]; exact hnn, .inl (fun R2 z => by rw [hR] at z; cases z), rfl⟩
              | a y =>
                refine ⟨_, rfl, _, rfl, mp, _, _, .ref t, rfl, rfl, SqL.of (e5 _ _ hM), atI_nat hv, t, _, _, .str "add", rfl, rfl, hT, rfl, rfl, _, rfl, itd (fun h => absurd h (by decide)) (fun _ => ?_)⟩
                exact ⟨e5, es, E, a5, _, hSP, hE, hat, by rw [hR]; exact hfo, by rw [hR]; exact hnn, .inl (fun R2 z => by rw [hR] at z; cases z), rfl⟩
            rintro σ H6 ⟨e6, es6, E6, a6, v96, hSP6, hE6, hat6, hfo6, hnn6, hor6, rfl⟩
            obtain ⟨u, R6, hR6⟩ := nond_pos (R := U.drop a6) (by omega)
            obtain ⟨v, hv6, ⟨t6, rfl, hT6⟩, hR6', hlt6⟩ := un_at (hU.keeps (sqT_same e6)) hR6
            have hE6l : E6.length ≤ 400 := by
              have h1 := hfl.1
              rw [hfo6, List.length_append] at h1
              omega
            have hes6l := hE6.length
            rw [hR6] at hfo6 hnn6 hor6
            cases u with
            | d =>
              rcases hor6 with z | z
              · exact absurd rfl (z R6)
              · rw [List.length_cons] at z
                omega
            | k =>
              refine ⟨_, rfl, _, rfl, mp, _, _, .ref t6, rfl, rfl, SqL.of (e6 _ _ hM), atI_nat hv6, t6, _, _, .str "keep", rfl, rfl, hT6, rfl, rfl, _, rfl, itd (fun _ => ?_) (fun h => absurd rfl h)⟩
              refine ⟨_, rfl, .inl ⟨rfl, _, SqL.of hSP6⟩, _, rfl, (by show 2 ≤ sizeLine; decide), fun v hv => ?_⟩
              have g := same_upd (o := .tup [V.str "keep", V.int 1]) hv
              refine ⟨sp, _, _, rfl, rfl, g _ _ hSP6, small (by omega), ?_⟩
              refine ⟨_, rfl, _, _, rfl, rfl, same_new (e6.trans g) hsp, es6 ++ [.ref v], E6 ++ [.keep 1], a6 + 1, some (.int (kk : Int)), v96, upd_same, scr_put (.keep 1) (g _ _ hSP6) (hE6.keeps (sqT_same g)) ⟨v, rfl, SqT.of upd_same⟩, by omega, ?_, ?_, ?_⟩
              · rw [hfo6, hm2, hR6']
                show E6 ++ (([.keep 1] ++ (folN true m R6).1) ++ fol (S.drop (i + 1)) (folN true m R6).2) = _
                simp
              · rw [hR6', hm2]
                have hnn6 : m + 1 + taken (S.drop (i + 1)) = nond R6 + 1 := hnn6
                omega
              · show stF _ _ _ _ _ _ (some (V.int ((a6 : Int) + 1))) _ _ _ = _
                rw [show ((a6 : Int) + 1) = ((a6 + 1 : Nat) : Int) by omega]
            | a y =>
              refine ⟨_, rfl, _, rfl, mp, _, _, .ref t6, rfl, rfl, SqL.of (e6 _ _ hM), atI_nat hv6, t6, _, _, .str "add", rfl, rfl, hT6, rfl, rfl, _, rfl, itd (fun h => absurd h (by decide)) (fun _ => ?_)⟩
              refine ⟨_, rfl, rfl, _, rfl, itd (fun _ => ?_) (fun h => absurd rfl h)⟩
              refine ⟨_, rfl, .inl ⟨rfl, _, SqL.of hSP6⟩, _, rfl, _, rfl, mp, _, _, .ref t6, rfl, rfl, SqL.of (e6 _ _ hM), atI_nat hv6, t6, _, _, .int y, rfl, rfl, hT6, rfl, (by show 1 ≤ sizeLine; decide), fun w hw => ⟨(by show 2 ≤ sizeLine; decide), fun v hv => ?_⟩⟩
              have g1 := same_upd (o := .tup [V.int y]) hw
              have g2 := same_upd (o := .tup [V.str "add", V.ref w]) hv
              have g := g1.trans g2
              refine ⟨sp, _, _, rfl, rfl, g _ _ hSP6, small (by omega), ?_⟩
              refine ⟨_, rfl, _, _, rfl, rfl, same_new (e6.trans g) hsp, es6 ++ [.ref v], E6 ++ [.add [y]], a6 + 1, some (.int (kk : Int)), v96, upd_same, scr_put (.add [y]) (g _ _ hSP6) (hE6.keeps (sqT_same g)) ⟨v, w, rfl, SqT.of upd_same, SqT.of (g2 _ _ upd_same)⟩, by omega, ?_, ?_, ?_⟩
              · rw [hfo6, hm2, hR6']
                show E6 ++ (([.add [y]] ++ (folN true m R6).1) ++ fol (S.drop (i + 1)) (folN true m R6).2) = _
                simp
              · rw [hR6', hm2]
                have hnn6 : m + 1 + taken (S.drop (i + 1)) = nond R6 + 1 := hnn6
                omega
              · show stF _ _ _ _ _ _ (some (V.int ((a6 : Int) + 1))) _ _ _ = _
                rw [show ((a6 : Int) + 1) = ((a6 + 1 : Nat) : Int) by omega]
          · rintro σ H3 ⟨e3, es, E, a0, v8, v9, hSP, hE, hat, hfo, hnn, rfl⟩
            rw [Nat.sub_self, folN_zero] at hfo
            rw [Nat.sub_self, Nat.zero_add] at hnn
            exact ⟨e3, es, E, a0, _, _, _, _, hSP, hE, hat, hfo, hnn, rfl⟩
        | drop n =>
          obtain ⟨t, rfl, hT⟩ := hA
          have hn : n ≤ 10000 := by
            have h1 : tot (S.drop i) ≤ tot S := by
              have h := tot_app (S.take i) (S.drop i)
              rw [List.take_append_drop] at h
              omega
            rw [hdr] at h1
            have h1 : n + tot (S.drop (i + 1)) ≤ tot S := h1
            omega
          refine ⟨t, _, rfl, hT, rfl, _, _, rfl, _, _, rfl, rfl, ?_⟩
          refine ⟨_, rfl, rfl, _, rfl, itd (fun h => absurd h (by decide)) (fun _ => ?_)⟩
          refine ⟨_, rfl, (n : Int), rfl, by omega, by omega, ?_⟩
          rw [Int.toNat_natCast]
          have hfo : fol S U = E ++ ((folN false n (U.drop a0)).1 ++ fol (S.drop (i + 1)) (folN false n (U.drop a0)).2) := hfo
          have hnn : n + taken (S.drop (i + 1)) = nond (U.drop a0) := hnn
          refine for_range (lo := 0) (n := n) (fun kk σ H' => Same H1 H' ∧ ∃ (es : List V) (E : List Step) (a0 : Nat) (v8 v9 : Option V), H' sp = some (.lst es) ∧ ScrV K H' es E ∧ a0 ≤ U.length ∧ fol S U = E ++ ((folN false (n - kk) (U.drop a0)).1 ++ fol (S.drop (i + 1)) (folN false (n - kk) (U.drop a0)).2) ∧ n - kk + taken (S.drop (i + 1)) = nond (U.drop a0) ∧ σ = stF c1 c2 mp (some (.str (Str.ofString "drop"))) (some (.int (n : Int))) (some (.ref sp)) (some (.int (a0 : Int))) v8 v9 none) ⟨e2, es, E, a0, v8, v9, hSP, hE, hat, hfo, hnn, rfl⟩ ?_ ?_
          · clear hfo hnn hat hSP hE e2 hT
            rintro kk σ H3 hkk ⟨e3, es, E, a0, v8, v9, hSP, hE, hat, hfo, hnn, rfl⟩
            obtain ⟨m, hm⟩ : ∃ m, n - kk = m + 1 := ⟨n - kk - 1, by omega⟩
            have hm2 : n - (kk + 1) = m := by omega
            rw [hm] at hfo hnn
            rw [Int.zero_add]
            refine ⟨_, rfl, mp, _, rfl, .inl (SqL.of (e3 _ _ hM)), (us.length : Int), rfl, by omega, by omega, ?_⟩
            rw [Int.toNat_natCast]
            refine for_range (lo := 0) (n := us.length) (fun jj σ H' => Same H1 H' ∧ ∃ (es : List V) (E : List Step) (a0 : Nat) (v9 : Option V), H' sp = some (.lst es) ∧ ScrV K H' es E ∧ a0 ≤ U.length ∧ fol S U = E ++ ((folN false (m + 1) (U.drop a0)).1 ++ fol (S.drop (i + 1)) (folN false (m + 1) (U.drop a0)).2) ∧ m + 1 + taken (S.drop (i + 1)) = nond (U.drop a0) ∧ ((∀ R, U.drop a0 ≠ .d :: R) ∨ (U.drop a0).length + jj ≤ us.length) ∧ σ = stF c1 c2 mp (some (.str (Str.ofString "drop"))) (some (.int (n : Int))) (some (.ref sp)) (some (.int (a0 : Int))) (some (.int (kk : Int))) v9 none) ⟨e3, es, E, a0, v9, hSP, hE, hat, hfo, hnn, .inr (by rw [List.length_drop]; omega), rfl⟩ ?_ ?_
            · clear hfo hnn hat hSP hE e3
              rintro jj σ H5 hjj ⟨e5, es, E, a5, v9, hSP, hE, hat, hfo, hnn, hor, rfl⟩
              obtain ⟨u, R, hR⟩ := nond_pos (R := U.drop a5) (by omega)
              obtain ⟨v, hv, ⟨t, rfl, hT⟩, hR', hlt⟩ := un_at (hU.keeps (sqT_same e5)) hR
              have hEl : E.length ≤ 400 := by
                have h1 := hfl.1
                rw [hfo, List.length_append] at h1
                omega
              have hesl := hE.length
              rw [hR] at hfo hnn hor
              cases u with
              | d =>
                refine ⟨_, rfl, _, rfl, mp, _, _, .ref t, rfl, rfl, SqL.of (e5 _ _ hM), atI_nat hv, t, _, _, .str "drop", rfl, rfl, hT, rfl, rfl, _, rfl, itd (fun _ => ?_) (fun h => absurd rfl h)⟩
                refine ⟨_, rfl, .inl ⟨rfl, _, SqL.of hSP⟩, (by show 2 ≤ sizeLine; decide), fun v hv => ?_⟩
                have g := same_upd (o := .tup [V.str "drop", V.int 1]) hv
                refine ⟨sp, _, _, rfl, rfl, g _ _ hSP, small (by omega), ?_⟩
                refine ⟨_, rfl, _, _, rfl, rfl, same_new (e5.trans g) hsp, es ++ [.ref v], E ++ [.drop 1], a5 + 1, some (.int (0 + (jj : Int))), upd_same, scr_put (.drop 1) (g _ _ hSP) (hE.keeps (sqT_same g)) ⟨v, rfl, SqT.of upd_same⟩, by omega, ?_, ?_, ?_, ?_⟩
                · rw [hfo, hR', folN_d (by omega)]
                  simp
                · rw [hR']
                  exact hnn
                · rw [hR']
                  refine .inr ?_
                  have := hor.resolve_left fun z => z R rfl
                  rw [List.length_cons] at this
                  omega
                · show stF _ _ _ _ _ _ (some (V.int ((a5 : Int) + 1))) _ _ _ = _
                  rw [show ((a5 : Int) + 1) = ((a5 + 1 : Nat) : Int) by omega]
              | k =>
                refine ⟨_, rfl, _, rfl, mp, _, _, .ref t, rfl, rfl, SqL.of (e5 _ _ hM), atI_nat hv, t, _, _, .str "keep", rfl, rfl, hT, rfl, rfl, _, rfl, itd (fun h => absurd h (by decide)) (fun _ => ?_)⟩
                exact ⟨e5, es, E, a5, _, hSP, hE, hat, by rw [hR]; exact hfo, by rw [hR]; exact hnn, .inl (fun R2 z => by rw [hR] at z; cases z), rfl⟩
              | a y =>
                refine ⟨_, rfl, _, rfl, mp, _, _, .ref t, rfl, rfl, SqL.of (e5 _ _ hM), atI_nat hv, t, _, _, .str "add", rfl, rfl, hT, rfl, rfl, _, rfl, itd (fun h => absurd h (by decide)) (fun _ => ?_)⟩
                exact ⟨e5, es, E, a5, _, hSP, hE, hat, by rw [hR]; exact hfo, by rw [hR]; exact hnn, .inl (fun R2 z => by rw [hR] at z; cases z), rfl⟩
            rintro σ H6 ⟨e6, es6, E6, a6, v96, hSP6, hE6, hat6, hfo6, hnn6, hor6, rfl⟩
            obtain ⟨u, R6, hR6⟩ := nond_pos (R := U.drop a6) (by omega)
            obtain ⟨v, hv6, ⟨t6, rfl, hT6⟩, hR6', hlt6⟩ := un_at (hU.keeps (sqT_same e6)) hR6
            have hE6l : E6.length ≤ 400 := by
              have h1 := hfl.1
              rw [hfo6, List.length_append] at h1
              omega
            have hes6l := hE6.length
            rw [hR6] at hfo6 hnn6 hor6
            cases u with
            | d =>
              rcases hor6 with z | z
              · exact absurd rfl (z R6)
              · rw [List.length_cons] at z
                omega
            | k =>
              refine ⟨_, rfl, _, rfl, mp, _, _, .ref t6, rfl, rfl, SqL.of (e6 _ _ hM), atI_nat hv6, t6, _, _, .str "keep", rfl, rfl, hT6, rfl, rfl, _, rfl, itd (fun _ => ?_) (fun h => absurd rfl h)⟩
              refine ⟨_, rfl, .inl ⟨rfl, _, SqL.of hSP6⟩, _, rfl, (by show 2 ≤ sizeLine; decide), fun v hv => ?_⟩
              have g := same_upd (o := .tup [V.str "drop", V.int 1]) hv
              refine ⟨sp, _, _, rfl, rfl, g _ _ hSP6, small (by omega), ?_⟩
              refine ⟨_, rfl, _, _, rfl, rfl, same_new (e6.trans g) hsp, es6 ++ [.ref v], E6 ++ [.drop 1], a6 + 1, some (.int (kk : Int)), v96, upd_same, scr_put (.drop 1) (g _ _ hSP6) (hE6.keeps (sqT_same g)) ⟨v, rfl, SqT.of upd_same⟩, by omega, ?_, ?_, ?_⟩
              · rw [hfo6, hm2, hR6']
                show E6 ++ (([.drop 1] ++ (folN false m R6).1) ++ fol (S.drop (i + 1)) (folN false m R6).2) = _
                simp
              · rw [hR6', hm2]
                have hnn6 : m + 1 + taken (S.drop (i + 1)) = nond R6 + 1 := hnn6
                omega
              · show stF _ _ _ _ _ _ (some (V.int ((a6 : Int) + 1))) _ _ _ = _
                rw [show ((a6 : Int) + 1) = ((a6 + 1 : Nat) : Int) by omega]
            | a y =>
              refine ⟨_, rfl, _, rfl, mp, _, _, .ref t6, rfl, rfl, SqL.of (e6 _ _ hM), atI_nat hv6, t6, _, _, .str "add", rfl, rfl, hT6, rfl, rfl, _, rfl, itd (fun h => absurd h (by decide)) (fun _ => ?_)⟩
              refine ⟨_, rfl, rfl, _, rfl, itd (fun h => absurd h (by decide)) (fun _ => ?_)⟩
              refine ⟨_, rfl, _, _, rfl, rfl, e6, es6, E6, a6 + 1, some (.int (kk : Int)), v96, hSP6, hE6, by omega, ?_, ?_, ?_⟩
              · rw [hfo6, hm2, hR6']
                show E6 ++ (([] ++ (folN false m R6).1) ++ fol (S.drop (i + 1)) (folN false m R6).2) = _
                simp
              · rw [hR6', hm2]
                have hnn6 : m + 1 + taken (S.drop (i + 1)) = nond R6 + 1 := hnn6
                omega
              · show stF _ _ _ _ _ _ (some (V.int ((a6 : Int) + 1))) _ _ _ = _
                rw [show ((a6 : Int) + 1) = ((a6 + 1 : Nat) : Int) by omega]
          · rintro σ H3 ⟨e3, es, E, a0, v8, v9, hSP, hE, hat, hfo, hnn, rfl⟩
            rw [Nat.sub_self, folN_zero] at hfo
            rw [Nat.sub_self, Nat.zero_add] at hnn
            exact ⟨e3, es, E, a0, _, _, _, _, hSP, hE, hat, hfo, hnn, rfl⟩
      · rintro σ H2 ⟨e2, es, E, a0, v3, v4, v8, v9, hSP, hE, hat, hfo, hnn, rfl⟩
        rw [Paired.length hV2', List.drop_length] at hfo
        have hfo : fol S U = E ++ (U.drop a0).map fun _ => Step.drop 1 := hfo
        refine ⟨_, rfl, _, rfl, _, rfl, mp, _, rfl, SqL.of (e2 _ _ hM), fun r hr => ?_⟩
        rw [cut_fromG]
        have g1 := same_upd (o := .lst (us.drop a0)) hr
        have hrs : r ≠ sp := fun z => by rw [z, hSP] at hr; cases hr
        have hR1 : (upd H2 r (.lst (us.drop a0))) r = some (.lst (us.drop a0)) := upd_same
        refine ⟨r, rfl, ⟨_, SqL.of hR1⟩, for_list (K := K) (a := r) (xs := us.drop a0) (fun j σ H' => Same H1 H' ∧ ∃ (es : List V) (v10 : Option V), H' r = some (.lst (us.drop a0)) ∧ H' sp = some (.lst es) ∧ ScrV K H' es (E ++ List.replicate j (.drop 1)) ∧ σ = stF c1 c2 mp v3 v4 (some (.ref sp)) (some (.int (a0 : Int))) v8 v9 v10) ⟨e2.trans g1, es, none, hR1, g1 _ _ hSP, by rw [List.replicate_zero, List.append_nil]; exact hE.keeps (sqT_same g1), rfl⟩ (fun j σ H' _ ⟨_, _, _, q, _⟩ => SqL.of q) ?_ ?_⟩
        · rintro j x σ H3 hx ⟨e3, es3, v10, hR3, hSP3, hE3, rfl⟩
          have hj := (List.getElem?_eq_some_iff.mp hx).1
          rw [List.length_drop] at hj
          have hl3 := hE3.length
          have hEl : E.length ≤ 400 := by
            have h1 := hfl.1
            rw [hfo, List.length_append] at h1
            omega
          rw [List.length_append, List.length_replicate] at hl3
          refine ⟨_, rfl, .inl ⟨rfl, _, SqL.of hSP3⟩, (by show 2 ≤ sizeLine; decide), fun v hv => ?_⟩
          have g := same_upd (o := .tup [V.str "drop", V.int 1]) hv
          refine ⟨sp, _, _, rfl, rfl, g _ _ hSP3, small (by omega), ?_⟩
          refine ⟨same_new (e3.trans g) hsp, es3 ++ [.ref v], _, by rw [upd_ne hrs]; exact g _ _ hR3, upd_same, ?_, rfl⟩
          rw [List.replicate_succ', ← List.append_assoc]
          exact scr_put (.drop 1) (g _ _ hSP3) (hE3.keeps (sqT_same g)) ⟨v, rfl, SqT.of upd_same⟩
        · rintro σ H3 ⟨e3, es3, v10, hR3, hSP3, hE3, rfl⟩
          have ee : E ++ List.replicate (us.drop a0).length (Step.drop 1) = fol S U := by
            rw [hfo, List.map_const', List.length_drop, List.length_drop, hUl, hul2]
          rw [ee] at hE3
          refine ⟨_, rfl, sp, fol S U, rfl, ⟨es3, SqL.of hSP3, hE3⟩, hfk, by omega, by omega, fun p H4 w4 hp e4 hp4 hW4 => ?_⟩
          exact kQ p H4 w4 (e1.trans (e3.trans e4)) hp4 hW4

-- @@LAW
theorem posK_of {ss : List Step} (h : PosS ss) : PosK ss := fun n hn => h _ hn
def duoD (s1 s2 : List Step) : PyData := .tuple [.list (s1.map stepD), .list (s2.map stepD)]
theorem shaped_duo (s1 s2 : List Step) : SeqAt.shaped (duoD s1 s2) = true := by
  have h1 := depth_steps s1
  have h2 := depth_steps s2
  refine Bool.and_eq_true_iff.mpr ⟨?_, decide_eq_true ?_⟩
  · show (PyData.canLayAll0 (s1.map stepD) && (PyData.canLayAll0 (s2.map stepD) && true)) = true
    rw [canLay_steps, canLay_steps]
    rfl
  · show max (PyData.depthAll (s1.map stepD) + 1) (max (PyData.depthAll (s2.map stepD) + 1) 0) + 1 ≤ 64
    omega
@[reducible] def st14 (a po p1 pm : Addr) (v4 v5 v6 v7 : Option V) : L2.St := [some (.ref a), some (.ref po), some (.ref p1), some (.ref pm), v4, v5, v6, v7, none, none]
theorem ok_law0 (T : Txt K mg C_ArchiveError C_InvalidScript c_taken_items c_made_items P_taken_items P_made_items) (f : Addr) (fd : FuncData) (F : Fun K "law" "law" s_law f fd) : FnOk P w K mg base CX0 7 f fd ["script"] (GX.spLawT K [P_taken_items, P_made_items]) := by
  have G__law_cell := ok__law_cell (P := P) (w := w) (base := base) T
  have G__law_items := ok__law_items (P := P) (w := w) (base := base) T
  have G__law_script := ok__law_script (P := P) (w := w) (base := base) T
  have G__law_normal := ok__law_normal (P := P) (w := w) (base := base) T
  have G__law_patch := ok__law_patch (P := P) (w := w) (base := base) T
  have G__law_is_normal := ok__law_is_normal (P := P) (w := w) (base := base) T
  have G__law_follow := ok__law_follow (P := P) (w := w) (base := base) T
  have G_squashed := ok_squashed (P := P) (w := w) (base := base) T
  refine F.ok sc_law (fun vs H Q E h => ?_) (fun cdv A outer s H vs Q E hr h => ?_)
  · obtain ⟨a, ns, rfl, _⟩ := h
    rfl
  · obtain ⟨a, ns, rfl, hS, hlen, tb, kQ⟩ := h
    have nd := sc_law.nd
    have hu64 : (A.deeper (envOfC "law" (defScope s_law) s.heap.objs.size f cdv)).units + 64 < cLine := by
      have := hr.un
      omega
    have tb1 : GxR.TabG H P_taken_items := tb _ (by simp)
    have tb2 : GxR.TabG H P_made_items := tb _ (by simp)
    refine ⟨_,       (Evl.pss_cut (ps_set (i := 1) nd rfl (Or.inl rfl) (pe_callO G__law_items (hr.mono (by decide)) pass0 (pa_cons (pe_callO G__law_cell (hr.mono (by decide)) pass0 (pa_cons (pv 0) (pa_cons pe_int pa_nil))) (pa_cons (pe_op op_mod (pe_callO G__law_cell (hr.mono (by decide)) pass0 (pa_cons (pv 0) (pa_cons pe_int pa_nil))) pe_int) pa_nil))))
      (Evl.pss_cut (ps_set (i := 2) nd rfl (Or.inl rfl) (pe_callO G__law_normal (hr.mono (by decide)) pass0 (pa_cons (pe_callO G__law_script (hr.mono (by decide)) pass0 (pa_cons (pe_slice sl_list (pv 0) (po_some pe_int) (po_some pe_int)) (pa_cons (pv 1) pa_nil))) pa_nil)))
      (Evl.pss_cut (ps_set (i := 3) nd rfl (Or.inl rfl) (pe_callO G__law_patch (hr.mono (by decide)) pass0 (pa_cons (pv 1) (pa_cons (pv 2) pa_nil))))
      (Evl.pss_cut (ps_set (i := 4) nd rfl (Or.inl rfl) (pe_callO G__law_normal (hr.mono (by decide)) pass0 (pa_cons (pe_callO G__law_script (hr.mono (by decide)) pass0 (pa_cons (pe_slice sl_list (pv 0) (po_some pe_int) (po_some pe_int)) (pa_cons (pv 3) pa_nil))) pa_nil)))
      (Evl.pss_cut (ps_set (i := 5) nd rfl (Or.inl rfl) (pe_op op_mod (pe_callO G__law_cell (hr.mono (by decide)) pass0 (pa_cons (pv 0) (pa_cons pe_int pa_nil))) pe_int))
      (Evl.pss_cut (ps_if (pt_cmpR op_eq (pv 5) pe_int (nomark _))
        (pss_one (ps_set (i := 4) nd rfl (Or.inl rfl) (pe_callO G__law_normal (hr.mono (by decide)) pass0 (pa_cons (pe_op op_cat (pv 4) (pe_lst (pa_cons (pe_tup (pa_cons pe_str (pa_cons pe_int pa_nil))) pa_nil))) pa_nil)))) pss_nil)
      (Evl.pss_cut (ps_if (PW.pt (pw_and (pt_cmpR op_eq (pv 5) pe_int (nomark _)) (pw_and1 (pt_cmpR op_gt (pe_callB call_len_seq (by rfl) T.n_len PySem.boot_len (pa_cons (pv 3) pa_nil)) pe_int (nomark _)))))
        (pss_one (ps_set (i := 4) nd rfl (Or.inl rfl) (pe_ifExp (pt_cmpR op_gt (pe_callB call_len_seq (by rfl) T.n_len PySem.boot_len (pa_cons (pv 3) pa_nil)) pe_int (nomark _)) (pe_lst (pa_cons (pe_tup (pa_cons pe_str (pa_cons (pe_op op_sub (pe_callB call_len_seq (by rfl) T.n_len PySem.boot_len (pa_cons (pv 3) pa_nil)) pe_int) pa_nil))) pa_nil)) (pe_lst pa_nil)))) pss_nil)
      (Evl.pss_cut (ps_set (i := 6) nd rfl (Or.inl rfl) (pe_callO G__law_patch (hr.mono (by decide)) pass0 (pa_cons (pv 3) (pa_cons (pv 4) pa_nil))))
      (Evl.pss_cut (ps_set (i := 7) nd rfl (Or.inl rfl) (pe_tup (pa_cons (pe_callTy call_list_of (by rfl) T.n_list (by decide +kernel) (pa_cons (pv 2) pa_nil)) (pa_cons (pe_callTy call_list_of (by rfl) T.n_list (by decide +kernel) (pa_cons (pv 4) pa_nil)) pa_nil))))
      (pss_cons (L2N.ps_try_as (i := 9) (Wout := fun _ _ _ _ => False) rfl rfl nd rfl rfl ⟨rfl, by decide, Or.inl T.x_ArchiveError.g⟩ takesN
        (fun W pn xe tk po => 
          (pss_one (ps_set (i := 8) nd rfl (Or.inl rfl) (pe_callT G_squashed (hr.mono (by decide)) (fun σ => L2N.passAt tk σ) (pa_cons (pe_ix (r := rIxT K) ix_tup (pv 7) pe_int (fun _ _ => rfl)) (pa_cons (pe_ix (r := rIxT K) ix_tup (pv 7) pe_int (fun _ _ => rfl)) pa_nil))))))
        (fun a oe cls d pn hz hf => pss_guard (p := cls = .ref C_InvalidScript ∧ d = none) (fun ee => by obtain ⟨e1, e2⟩ := ee; subst e1 e2; exact 
          (pss_one (ps_ret (pe_and (pe_callB (call_isE T.x_InvalidScript.e hz.zc hf) (by rfl) T.n_isinstance (by decide +kernel) (pa_cons (pv 9) (pa_cons (pe_globR rfl T.x_InvalidScript.g) pa_nil))) (pe_one (pe_cmpR op_isN (pv 6) pe_non (nomark _)))))))))
      (pss_cons (ps_if (PW.pt (pw_or (pt_cmpR op_isN (pv 6) pe_non (nomark _)) (pw_or (pt_not (pt_val (pe_callO G__law_is_normal (hr.mono (by decide)) pass0 (pa_cons (pv 8) pa_nil)))) (pw_or1 (pt_cmpR (op_neD hu64) (pv 7) (pe_tup (pa_cons (pv 2) (pa_cons (pv 4) pa_nil))) (nomark _))))))
        (pss_one (ps_ret pe_bl)) pss_nil)
      (pss_one (ps_ret (pe_and (pe_cmpR (op_eqD hu64) (pv 8) (pe_callO G__law_follow (hr.mono (by decide)) pass0 (pa_cons (pv 2) (pa_cons (pv 4) pa_nil))) (nomark _)) (pe_one (pe_cmpR (op_eqD hu64) (pe_callO G__law_patch (hr.mono (by decide)) pass0 (pa_cons (pv 1) (pa_cons (pv 8) pa_nil))) (pv 6) (nomark _))))))))))))))))), ?_⟩
    -- old
    refine ⟨fun σ' H' => Same H H' ∧ ∃ (po : Addr) (old : List Int), old.length ≤ 14 ∧ H' po = some (.lst (old.map V.int)) ∧ σ' = [some (.ref a), some (.ref po), none, none, none, none, none, none, none, none], ?_, ?_⟩
    · obtain ⟨n0, hn0, hn1⟩ : ∃ n0 : Nat, cell ns 1 % 15 = (n0 : Int) ∧ n0 ≤ 14 := ⟨(cell ns 1 % 15).toNat, by omega, by omega⟩
      exact ⟨_, rfl, a, ns, 0, rfl, hS, _, rfl, a, ns, 1, rfl, hS, _, _, rfl, rfl, (by show (0 : Int) < 15; decide), cell ns 0, n0, (by show [V.int (cell ns 0), V.int (cell ns 1 % 15)] = _; rw [hn0]), by omega, fun p1 H1 old hp1 e1 hL1 hx1 => ⟨e1, p1, old, by omega, hL1, rfl⟩⟩
    rintro σ0 H0 ⟨e0, po, old, hol, hO, rfl⟩
    -- first
    refine ⟨fun σ' H' => Same H0 H' ∧ ∃ (p1 : Addr) (w1 : List V) (s1 : List Step), nfOk "" s1 ∧ s1.length ≤ 42 ∧ tot s1 ≤ 234 ∧ taken s1 = old.length ∧ H' p1 = some (.lst w1) ∧ ScrV K H' w1 s1 ∧ σ' = [some (.ref a), some (.ref po), some (.ref p1), none, none, none, none, none, none, none], ?_, ?_⟩
    · refine ⟨_, rfl, _, rfl, _, rfl, a, _, rfl, e0.seq hS, fun r hr1 => ?_⟩
      have ecut : cutV (ns.map V.int) (some 3) (some 15) = ((ns.drop 3).take 12).map V.int := by
        rw [List.map_take, List.map_drop]
        exact cut_midG (j := 3) (k := 15) (by decide)
      rw [ecut]
      have f1 := same_upd (o := .lst (((ns.drop 3).take 12).map V.int)) hr1
      refine ⟨_, rfl, r, po, (ns.drop 3).take 12, old, rfl, SqL.of upd_same, SqL.of (f1 _ _ hO), by rw [List.length_take]; omega, by omega, fun p2 H2 ws ss hp2 e2 hL2 hV2 hsl hbd htk hps => ?_⟩
      have hss : ss.length ≤ 13 := by
        rw [List.length_take] at hsl
        omega
      have htot : tot ss ≤ 234 := by
        have := tot_le (hbd.mono (show old.length + 4 ≤ 18 by omega))
        omega
      refine ⟨p2, ss, rfl, ⟨ws, SqL.of hL2, hV2⟩, posK_of hps, by omega, by omega, fun p3 H3 w3 hp3 e3 hL3 hV3 => ?_⟩
      have hnl := nfS_len ss 0 0 []
      exact ⟨(f1.trans e2).trans e3, p3, w3, nf ss, nf_ok (posK_of hps), (by show (nfS 0 0 [] ss).length ≤ 42; omega), by rw [tot_nf]; exact htot, by rw [taken_nf]; exact htk, hL3, hV3, rfl⟩
    rintro σ1 H1 ⟨e1, p1, w1, s1, hn1, hl1, ht1, hk1, hL1, hV1, rfl⟩
    have e01 := e0.trans e1
    have hO1 := e1 _ _ hO
    clear hO e0 e1
    have hmade := run_made s1 old (by omega)
    have hrt := run_tot s1 old
    -- middle
    refine ⟨fun σ' H' => Same H1 H' ∧ ∃ pm : Addr, H' pm = some (.lst ((run old s1).map V.int)) ∧ σ' = st14 a po p1 pm none none none none, ?_, ?_⟩
    · exact ⟨_, rfl, _, rfl, po, p1, old, s1, rfl, SqL.of hO1, ⟨w1, SqL.of hL1, hV1⟩, by omega, fun hn => absurd hk1 hn, fun _ q H' e hq => ⟨e, q, hq, rfl⟩⟩
    rintro σ2 H2 ⟨e2, pm, hM, rfl⟩
    have e02 := e01.trans e2
    have hO2 := e2 _ _ hO1
    have hL12 := e2 _ _ hL1
    have hV12 := hV1.keeps (sqT_same e2)
    clear hO1 hL1 hV1 e01 e2
    generalize hmid : run old s1 = mid at hM hmade hrt
    -- second
    refine ⟨fun σ' H' => Same H2 H' ∧ ∃ (p2 : Addr) (w2 : List V) (s2 : List Step), nfOk "" s2 ∧ s2.length ≤ 51 ∧ tot s2 ≤ 3808 ∧ taken s2 = mid.length ∧ H' p2 = some (.lst w2) ∧ ScrV K H' w2 s2 ∧ σ' = st14 a po p1 pm (some (.ref p2)) none none none, ?_, ?_⟩
    · refine ⟨_, rfl, _, rfl, _, rfl, a, _, rfl, e02.seq hS, fun r hr1 => ?_⟩
      have ecut : cutV (ns.map V.int) (some 15) (some 30) = ((ns.drop 15).take 15).map V.int := by
        rw [List.map_take, List.map_drop]
        exact cut_midG (j := 15) (k := 30) (by decide)
      rw [ecut]
      have f1 := same_upd (o := .lst (((ns.drop 15).take 15).map V.int)) hr1
      refine ⟨_, rfl, r, pm, (ns.drop 15).take 15, mid, rfl, SqL.of upd_same, SqL.of (f1 _ _ hM), by rw [List.length_take]; omega, by omega, fun p2 H3 ws ss hp2 e3 hL2 hV2 hsl hbd htk hps => ?_⟩
      have hss : ss.length ≤ 16 := by
        rw [List.length_take] at hsl
        omega
      have htot : tot ss ≤ 3808 := by
        have := tot_le (hbd.mono (show mid.length + 4 ≤ 238 by omega))
        omega
      refine ⟨p2, ss, rfl, ⟨ws, SqL.of hL2, hV2⟩, posK_of hps, by omega, by omega, fun p3 H4 w3 hp3 e4 hL3 hV3 => ?_⟩
      have hnl := nfS_len ss 0 0 []
      exact ⟨(f1.trans e3).trans e4, p3, w3, nf ss, nf_ok (posK_of hps), (by show (nfS 0 0 [] ss).length ≤ 51; omega), by rw [tot_nf]; exact htot, by rw [taken_nf]; exact htk, hL3, hV3, rfl⟩
    rintro σ3 H3 ⟨e3, p2, w2, s2, hn2, hl2, ht2, hk2, hL2, hV2, rfl⟩
    -- kind
    refine ⟨fun σ' H' => H3 = H' ∧ ∃ k : Int, σ' = st14 a po p1 pm (some (.ref p2)) (some (.int k)) none none, ?_, ?_⟩
    · exact ⟨_, rfl, a, ns, 2, rfl, (e02.trans e3).seq hS, _, _, rfl, rfl, (by show (0 : Int) < 10; decide), rfl, _, rfl⟩
    rintro σ4 H4 ⟨rfl, k, rfl⟩
    -- if kind == 0
    refine ⟨fun σ' H' => Same H2 H' ∧ ∃ (p2 : Addr) (w2 : List V) (s2 : List Step), s2.length ≤ 159 ∧ tot s2 ≤ 3809 ∧ H' p2 = some (.lst w2) ∧ ScrV K H' w2 s2 ∧ σ' = st14 a po p1 pm (some (.ref p2)) (some (.int k)) none none, ?_, ?_⟩
    · refine ⟨_, rfl, rfl, _, rfl, itd (fun _ => ?_) (fun _ => ⟨e3, p2, w2, s2, by omega, by omega, hL2, hV2, rfl⟩)⟩
      refine ⟨_, rfl, (by show 2 ≤ sizeLine; decide), fun u hu => ⟨(by show 1 ≤ sizeLine; decide), fun l hl => ?_⟩⟩
      have g1 := same_upd (o := .tup [V.str "drop", V.int 1]) hu
      have g2 := same_upd (o := .lst [V.ref u]) hl
      have hwl := hV2.length
      refine ⟨p2, l, _, _, rfl, rfl, (g1.trans g2) _ _ hL2, upd_same, smallE (by rw [List.length_singleton]; omega), fun r hr => ?_⟩
      have g3 := (g1.trans g2).trans (same_upd (o := .lst (w2 ++ [V.ref u])) hr)
      have hV3 := (hV2.keeps (sqT_same g3)).app (show ScrV K (upd (upd (upd H3 u (.tup [V.str "drop", V.int 1])) l (.lst [V.ref u])) r (.lst (w2 ++ [V.ref u]))) [V.ref u] [.drop 1] from .cons ⟨u, rfl, sqT_same (g2.trans (same_upd hr)) _ _ (SqT.of upd_same)⟩ .nil)
      have hps : PosS (s2 ++ [.drop 1]) := (nfOk_pos hn2).app (PosS.one (by show 0 < 1; decide))
      have ht3 : tot (s2 ++ [.drop 1]) = tot s2 + 1 := tot_snoc _ _
      refine ⟨r, s2 ++ [.drop 1], rfl, ⟨_, SqL.of upd_same, hV3⟩, posK_of hps, by rw [List.length_append, List.length_singleton]; omega, by omega, fun p3 H6 w3 hp3 e6 hL6 hV6 => ?_⟩
      have q8 := nfS_len (s2 ++ [.drop 1]) 0 0 []
      rw [List.length_append, List.length_singleton] at q8
      exact ⟨e3.trans (g3.trans e6), p3, w3, nf (s2 ++ [.drop 1]), (by show (nfS 0 0 [] _).length ≤ 159; omega), by rw [tot_nf]; omega, hL6, hV6, rfl⟩
    clear hn2 hl2 ht2 hk2 hL2 hV2 e3 s2 w2 p2
    rintro σ5 H5 ⟨e5, p2, w2, s2, hl2, ht2, hL2, hV2, rfl⟩
    -- if kind == 1 and len(middle) > 0
    refine ⟨fun σ' H' => Same H2 H' ∧ ∃ (p2 : Addr) (w2 : List V) (s2 : List Step), s2.length ≤ 159 ∧ tot s2 ≤ 3809 ∧ H' p2 = some (.lst w2) ∧ ScrV K H' w2 s2 ∧ σ' = st14 a po p1 pm (some (.ref p2)) (some (.int k)) none none, ?_, ?_⟩
    · have stay : Same H2 H5 ∧ ∃ (p2_1 : Addr) (w2 : List V) (s2 : List Step), s2.length ≤ 159 ∧ tot s2 ≤ 3809 ∧ H5 p2_1 = some (.lst w2) ∧ ScrV K H5 w2 s2 ∧ st14 a po p1 pm (some (.ref p2)) (some (.int k)) none none = st14 a po p1 pm (some (.ref p2_1)) (some (.int k)) none none := ⟨e5, p2, w2, s2, hl2, ht2, hL2, hV2, rfl⟩
      refine ⟨_, rfl, rfl, _, rfl, itd (fun _ => ?_) (fun _ => stay)⟩
      refine ⟨_, rfl, pm, _, rfl, .inl (SqL.of (e5 _ _ hM)), _, _, rfl, rfl, _, rfl, itd (fun _ => ?_) (fun _ => stay)⟩
      refine ⟨_, rfl, pm, _, rfl, .inl (SqL.of (e5 _ _ hM)), _, _, rfl, rfl, _, rfl, ?_⟩
      rw [List.length_map]
      refine itd (fun h => ?_) (fun h => ?_)
      · refine ⟨_, rfl, pm, _, rfl, .inl (SqL.of (e5 _ _ hM)), _, _, rfl, rfl, (by show 2 ≤ sizeLine; decide), fun u hu => ⟨(by show 1 ≤ sizeLine; decide), fun l hl => ?_⟩⟩
        dsimp only at hu hl ⊢
        rw [List.length_map, show ((mid.length : Nat) : Int) - 1 = ((mid.length - 1 : Nat) : Int) by omega] at hl ⊢
        have g1 := same_upd (o := .tup [V.str "keep", V.int ((mid.length - 1 : Nat) : Int)]) hu
        have g2 := same_upd (o := .lst [V.ref u]) hl
        exact ⟨e5.trans (g1.trans g2), l, [V.ref u], [.keep (mid.length - 1)], by simp, by show mid.length - 1 + 0 ≤ 3809; omega, upd_same, .cons ⟨u, rfl, sqT_same g2 _ _ (SqT.of upd_same)⟩ .nil, rfl⟩
      · refine ⟨by decide, fun l hl => ?_⟩
        exact ⟨e5.trans (same_upd hl), l, [], [], by simp, by simp [tot], upd_same, .nil, rfl⟩
    clear hl2 ht2 hL2 hV2 e5 s2 w2 p2
    rintro σ6 H6 ⟨e6, p2, w2, s2, hl2, ht2, hL2, hV2, rfl⟩
    have hO6 := e6 _ _ hO2
    have hL16 := e6 _ _ hL12
    have hV16 := hV12.keeps (sqT_same e6)
    have hM6 := e6 _ _ hM
    have e06 := e02.trans e6
    clear hO2 hL12 hV12 hM e6
    -- new
    refine ⟨fun σ' H' => Same H6 H' ∧ ∃ v : V, ((taken s2 ≠ mid.length ∧ v = .non) ∨ (taken s2 = mid.length ∧ ∃ q, v = .ref q ∧ H' q = some (.lst ((run mid s2).map V.int)))) ∧ σ' = st14 a po p1 pm (some (.ref p2)) (some (.int k)) (some v) none, ?_, ?_⟩
    · refine ⟨_, rfl, _, rfl, pm, p2, mid, s2, rfl, SqL.of hM6, ⟨w2, SqL.of hL2, hV2⟩, by omega, fun hn H' e => ?_, fun hn q H' e hq => ?_⟩
      · exact ⟨e, .non, .inl ⟨hn, rfl⟩, rfl⟩
      · exact ⟨e, .ref q, .inr ⟨hn, q, rfl, hq⟩, rfl⟩
    rintro σ7 H7 ⟨e7, v, hv, rfl⟩
    -- copies
    refine ⟨fun σ' H' => Same H7 H' ∧ ∃ cp c1 c2 : Addr, H' cp = some (.tup [.ref c1, .ref c2]) ∧ H' c1 = some (.lst w1) ∧ H' c2 = some (.lst w2) ∧ σ' = st14 a po p1 pm (some (.ref p2)) (some (.int k)) (some v) (some (.ref cp)), ?_, ?_⟩
    · refine ⟨_, rfl, p1, _, rfl, .inl (SqL.of (e7 _ _ hL16)), fun c1 hc1 => ?_⟩
      have g1 := same_upd (o := .lst w1) hc1
      refine ⟨_, rfl, p2, _, rfl, .inl (SqL.of (g1 _ _ (e7 _ _ hL2))), fun c2 hc2 => ?_⟩
      have g2 := same_upd (o := .lst w2) hc2
      refine ⟨(by show 2 ≤ sizeLine; decide), fun cp hcp => ?_⟩
      have g3 := same_upd (o := .tup [V.ref c1, V.ref c2]) hcp
      exact ⟨(g1.trans g2).trans g3, cp, c1, c2, upd_same, g3 _ _ (g2 _ _ upd_same), g3 _ _ upd_same, rfl⟩
    rintro σ8 H8 ⟨e8, cp, c1, c2, hC, hC1, hC2, rfl⟩
    have e68 := e7.trans e8
    have hO8 := e68 _ _ hO6
    have hL18 := e68 _ _ hL16
    have hL28 := e68 _ _ hL2
    have hV18 := hV16.keeps (sqT_same e68)
    have hV28 := hV2.keeps (sqT_same e68)
    have hv8 : (taken s2 ≠ mid.length ∧ v = .non) ∨ (taken s2 = mid.length ∧ ∃ q, v = .ref q ∧ H8 q = some (.lst ((run mid s2).map V.int))) := by
      rcases hv with h | ⟨h, q, h2, h3⟩
      · exact .inl h
      · exact .inr ⟨h, q, h2, e8 _ _ h3⟩
    have E8 := GX.Sm.of (e06.trans e68)
    have hps1 := nfOk_pos hn1
    have dpD : ∀ {H' : Hp} {u x y : Addr}, SqT K H' u [.ref x, .ref y] → SqL K H' x w1 → SqL K H' y w2 → ScrV K H' w1 s1 → ScrV K H' w2 s2 → Dp K H' (.ref u) (duoD s1 s2) := fun h1 h2 h3 h4 h5 =>
      .tup h1 (.cons (dp_scr ⟨w1, h2, h4⟩) (.cons (dp_scr ⟨w2, h3, h5⟩) .nil))
    -- try
    refine ⟨_, rfl, cp, _, _, .ref c1, rfl, rfl, SqT.of hC, rfl, _, rfl, cp, _, _, .ref c2, rfl, rfl, SqT.of hC, rfl, c1, c2, s1, s2, rfl, ⟨w1, SqL.of hC1, hV18⟩, ⟨w2, SqL.of hC2, hV28⟩, E8.tab _ tb1, E8.tab _ tb2, by omega, by omega, by omega, fun hn H9 e9 => ?_, fun hn q H9 wa e9 hq hVa => ?_⟩
    · refine ⟨true, exm_own T.x_ArchiveError.toXB T.s_InvalidScript_ArchiveError, fun _ ea hea => ⟨⟨rfl, rfl⟩, ?_⟩, fun q => nomatch q⟩
      have hv' : v = .non := by
        rcases hv8 with h | h
        · exact h.2
        · exact absurd (by omega) hn
      subst hv'
      exact ⟨_, rfl, _, _, true, rfl, fun _ h => h, T.q_InvalidScript_InvalidScript, true, rfl, iteT ⟨_, rfl, rfl, kQ _⟩⟩
    · obtain ⟨q0, rfl, hq0⟩ : ∃ q0, v = .ref q0 ∧ H8 q0 = some (.lst ((run mid s2).map V.int)) := by
        rcases hv8 with h | h
        · exact absurd (by omega) h.1
        · exact h.2
      have hfit : taken s2 = made s1 := hn
      have hpk := PG_posk s2 s1 hps1
      have hrun : run old (nf (PG s2 s1)) = run mid s2 := by rw [run_nf, PG_run s2 s1 old hk1 hfit, hmid]
      have htk : taken (nf (PG s2 s1)) = old.length := by rw [taken_nf, PG_taken, hk1]
      have htt : tot (nf (PG s2 s1)) ≤ 40000 := by
        rw [tot_nf]
        have := PG_tot s2 s1
        omega
      -- if new is None or ..
      refine ⟨_, rfl, rfl, _, rfl, iteF ?_⟩
      refine ⟨_, rfl, q, nf (PG s2 s1), rfl, ⟨wa, SqL.of hq, hVa⟩, nf_ok hpk, true, rfl, iteF ?_⟩
      refine ⟨_, rfl, _, rfl, _, rfl, (by show 2 ≤ sizeLine; decide), fun u hu => ?_⟩
      have hu1 := same_upd (o := .tup [V.ref p1, V.ref p2]) hu
      have gu := GX.Sm.trans e9 (GX.Sm.of hu1)
      refine ⟨_, _, dpD (gu.tup (SqT.of hC)) (gu.seq (SqL.of hC1)) (gu.seq (SqL.of hC2)) (hV18.keeps (sqT_sm gu)) (hV28.keeps (sqT_sm gu)), dpD (SqT.of upd_same) (gu.seq (SqL.of hL18)) (gu.seq (SqL.of hL28)) (hV18.keeps (sqT_sm gu)) (hV28.keeps (sqT_sm gu)), shaped_duo _ _, shaped_duo _ _, ne_noG (eqv_refl' (shaped_duo _ _)) ?_⟩
      have hA10 := hVa.keeps (sqT_same hu1)
      have hq10 := hu1 _ _ hq
      -- actual == _law_follow(first, second)
      refine ⟨_, rfl, _, rfl, _, rfl, p1, p2, s1, s2, rfl, ⟨w1, gu.seq (SqL.of hL18), hV18.keeps (sqT_sm gu)⟩, ⟨w2, gu.seq (SqL.of hL28), hV28.keeps (sqT_sm gu)⟩, hfit, by omega, by omega, fun pf H11 wf e11 hpf hWf => ?_⟩
      rw [← nf_fol hps1 hfit] at hWf
      refine ⟨_, _, dp_scr ⟨wa, SqL.of (e11 _ _ hq10), hA10.keeps (sqT_same e11)⟩, dp_scr ⟨wf, SqL.of hpf, hWf⟩, shaped_steps _, shaped_steps _, _, rfl, ?_⟩
      rw [eqv_refl' (shaped_steps _)]
      refine iteT ?_
      have g11 := GX.Sm.trans gu (GX.Sm.of e11)
      refine ⟨_, rfl, _, rfl, po, q, old, nf (PG s2 s1), rfl, g11.seq (SqL.of hO8), ⟨wa, SqL.of (e11 _ _ hq10), hA10.keeps (sqT_same e11)⟩, htt, fun hne => absurd htk hne, fun _ p12 H12 e12 hp12 => ?_⟩
      rw [hrun] at hp12
      refine ⟨_, rfl, _, _, dp_list (SqL.of hp12), dp_list (ns := run mid s2) (e12.seq (g11.seq (SqL.of hq0))), shaped_ints _, shaped_ints _, ?_⟩
      exact to_true (Q := Q) (eqv_refl' (shaped_ints _)) (kQ _)

end
def names : List Str := ["taken_items", "made_items"]
theorem law_mk {P : Program} {w : World} {K : PySem.W.Frag} {mg : Str → Option Value} {C_ArchiveError C_InvalidScript c_taken_items c_made_items P_taken_items P_made_items : Addr} {C_fa : Addr} (T : Txt K mg C_ArchiveError C_InvalidScript c_taken_items c_made_items P_taken_items P_made_items) (hfa : mg "law" = some (.ref C_fa)) (tb_taken_items : PySem.W.tabIn K "taken_items" = some (c_taken_items, P_taken_items)) (tb_made_items : PySem.W.tabIn K "made_items" = some (c_made_items, P_made_items)) : ∃ (fd : FuncData) (cs : List (Str × Addr × Addr)), (∀ t ∈ cs, t.1 ∈ names ∧ PySem.W.tabIn K t.1 = some t.2) ∧ (∀ (s : Shared) (v : Value), BindsTo s fd ⟨[v], []⟩ [("script", v)]) ∧ ∀ base : Heap, K.In base → base.Ns mainGlobals mg → (∀ t ∈ cs, LamX.TabB base mg t.2.1 t.2.2) → FnOk P w K mg base CX0 7 C_fa fd ["script"] (GX.spLawT K (cs.map (·.2.2))) := by
  obtain ⟨f, fd, F, g, b⟩ := id T.d_law
  have e := hfa.symm.trans g
  cases e
  refine ⟨fd, [("taken_items", c_taken_items, P_taken_items), ("made_items", c_made_items, P_made_items)], fun t ht => ?_, fun s v => ?_, fun base _ _ hT => ?_⟩
  · simp only [List.mem_cons, List.not_mem_nil, or_false] at ht
    rcases ht with rfl | rfl
    · exact ⟨.head _, tb_taken_items⟩
    · exact ⟨.tail _ (.head _), tb_made_items⟩
  · obtain ⟨oc, od, kV, doc, pm, an, cdv, ct, osl, rfl, lk, hcd⟩ := F.ex
    exact .of_eq rfl
  · haveI : Tbs base mg c_taken_items c_made_items P_taken_items P_made_items := ⟨GX.tb_of (hT ("taken_items", c_taken_items, P_taken_items) (by simp)), GX.tb_of (hT ("made_items", c_made_items, P_made_items) (by simp))⟩
    exact ok_law0 T _ fd F
theorem law_end {P : Program} {w : World} {K : PySem.W.Frag} {h : Heap} {mg : Str → Option Value} {C_fa : Addr} {C_ArchiveError C_InvalidScript c_taken_items c_made_items P_taken_items P_made_items : Addr} {f_taken_items : Addr} {oc_taken_items kV_taken_items dc_taken_items pm_taken_items ct_taken_items : Value} {od_taken_items an_taken_items : Option Addr} {sl_taken_items : Array (Option Value)} {f__taken_by : Addr} {oc__taken_by kV__taken_by dc__taken_by pm__taken_by cd__taken_by ct__taken_by : Value} {od__taken_by an__taken_by : Option Addr} {sl__taken_by : Array (Option Value)} {f_made_items : Addr} {oc_made_items kV_made_items dc_made_items pm_made_items ct_made_items : Value} {od_made_items an_made_items : Option Addr} {sl_made_items : Array (Option Value)} {f__made_by : Addr} {oc__made_by kV__made_by dc__made_by pm__made_by cd__made_by ct__made_by : Value} {od__made_by an__made_by : Option Addr} {sl__made_by : Array (Option Value)} {f_check_fit : Addr} {oc_check_fit kV_check_fit dc_check_fit pm_check_fit cd_check_fit ct_check_fit : Value} {od_check_fit an_check_fit : Option Addr} {sl_check_fit : Array (Option Value)} {f_normalized : Addr} {oc_normalized kV_normalized dc_normalized pm_normalized cd_normalized ct_normalized : Value} {od_normalized an_normalized : Option Addr} {sl_normalized : Array (Option Value)} {f__steps : Addr} {oc__steps kV__steps dc__steps pm__steps cd__steps ct__steps : Value} {od__steps an__steps : Option Addr} {sl__steps : Array (Option Value)} {f_squashed : Addr} {oc_squashed kV_squashed dc_squashed pm_squashed cd_squashed ct_squashed : Value} {od_squashed an_squashed : Option Addr} {sl_squashed : Array (Option Value)} {f__split : Addr} {oc__split kV__split dc__split pm__split cd__split ct__split : Value} {od__split an__split : Option Addr} {sl__split : Array (Option Value)} {f__cut : Addr} {oc__cut kV__cut dc__cut pm__cut cd__cut ct__cut : Value} {od__cut an__cut : Option Addr} {sl__cut : Array (Option Value)} {f__law_cell : Addr} {oc__law_cell kV__law_cell dc__law_cell pm__law_cell cd__law_cell ct__law_cell : Value} {od__law_cell an__law_cell : Option Addr} {sl__law_cell : Array (Option Value)} {f__law_mix : Addr} {oc__law_mix kV__law_mix dc__law_mix pm__law_mix cd__law_mix ct__law_mix : Value} {od__law_mix an__law_mix : Option Addr} {sl__law_mix : Array (Option Value)} {f__law_row : Addr} {oc__law_row kV__law_row dc__law_row pm__law_row cd__law_row ct__law_row : Value} {od__law_row an__law_row : Option Addr} {sl__law_row : Array (Option Value)} {f__law_is_int : Addr} {oc__law_is_int kV__law_is_int dc__law_is_int pm__law_is_int cd__law_is_int ct__law_is_int : Value} {od__law_is_int an__law_is_int : Option Addr} {sl__law_is_int : Array (Option Value)} {f__law_items : Addr} {oc__law_items kV__law_items dc__law_items pm__law_items cd__law_items ct__law_items : Value} {od__law_items an__law_items : Option Addr} {sl__law_items : Array (Option Value)} {f__law_script : Addr} {oc__law_script kV__law_script dc__law_script pm__law_script cd__law_script ct__law_script : Value} {od__law_script an__law_script : Option Addr} {sl__law_script : Array (Option Value)} {f__law_patch : Addr} {oc__law_patch kV__law_patch dc__law_patch pm__law_patch cd__law_patch ct__law_patch : Value} {od__law_patch an__law_patch : Option Addr} {sl__law_patch : Array (Option Value)} {f__law_is_normal : Addr} {oc__law_is_normal kV__law_is_normal dc__law_is_normal pm__law_is_normal cd__law_is_normal ct__law_is_normal : Value} {od__law_is_normal an__law_is_normal : Option Addr} {sl__law_is_normal : Array (Option Value)} {f__law_close : Addr} {oc__law_close kV__law_close dc__law_close pm__law_close cd__law_close ct__law_close : Value} {od__law_close an__law_close : Option Addr} {sl__law_close : Array (Option Value)} {f__law_normal : Addr} {oc__law_normal kV__law_normal dc__law_normal pm__law_normal cd__law_normal ct__law_normal : Value} {od__law_normal an__law_normal : Option Addr} {sl__law_normal : Array (Option Value)} {f__law_follow : Addr} {oc__law_follow kV__law_follow dc__law_follow pm__law_follow cd__law_follow ct__law_follow : Value} {od__law_follow an__law_follow : Option Addr} {sl__law_follow : Array (Option Value)} {f_law : Addr} {oc_law kV_law dc_law pm_law cd_law ct_law : Value} {od_law an_law : Option Addr} {sl_law : Array (Option Value)} {cc_taken_items : Value} {ce_taken_items : Option Addr} {cf_taken_items : Array Value} {cg_taken_items : Array (Option Value)} {cc_made_items : Value} {ce_made_items : Option Addr} {cf_made_items : Array Value} {cg_made_items : Array (Option Value)} (X : K.In h) (G : h.Ns mainGlobals mg) (hfa : mg "law" = some (.ref C_fa))
    (a_taken_items : PySem.W.nsIn K mainGlobals "taken_items" = some (some (.ref f_taken_items)))
    (l_taken_items : K.lookup f_taken_items = some ⟨oc_taken_items, od_taken_items, .func (PySem.W.fnOf "taken_items" "taken_items" (defArgs s_taken_items) (defBody s_taken_items) (defScope s_taken_items) .none kV_taken_items dc_taken_items pm_taken_items an_taken_items (.ref c_taken_items) ct_taken_items), sl_taken_items⟩)
    (e_taken_items : PySem.W.codeIn K (.ref c_taken_items) "taken_items" = true)
    (k_taken_items : PySem.W.keepIn K (.ref f_taken_items) = true)
    (a__taken_by : PySem.W.nsIn K mainGlobals "_taken_by" = some (some (.ref f__taken_by)))
    (l__taken_by : K.lookup f__taken_by = some ⟨oc__taken_by, od__taken_by, .func (PySem.W.fnOf "_taken_by" "_taken_by" (defArgs s__taken_by) (defBody s__taken_by) (defScope s__taken_by) .none kV__taken_by dc__taken_by pm__taken_by an__taken_by cd__taken_by ct__taken_by), sl__taken_by⟩)
    (c__taken_by : PySem.W.codeIn K cd__taken_by "_taken_by" = true)
    (k__taken_by : PySem.W.keepIn K (.ref f__taken_by) = true)
    (a_made_items : PySem.W.nsIn K mainGlobals "made_items" = some (some (.ref f_made_items)))
    (l_made_items : K.lookup f_made_items = some ⟨oc_made_items, od_made_items, .func (PySem.W.fnOf "made_items" "made_items" (defArgs s_made_items) (defBody s_made_items) (defScope s_made_items) .none kV_made_items dc_made_items pm_made_items an_made_items (.ref c_made_items) ct_made_items), sl_made_items⟩)
    (e_made_items : PySem.W.codeIn K (.ref c_made_items) "made_items" = true)
    (k_made_items : PySem.W.keepIn K (.ref f_made_items) = true)
    (a__made_by : PySem.W.nsIn K mainGlobals "_made_by" = some (some (.ref f__made_by)))
    (l__made_by : K.lookup f__made_by = some ⟨oc__made_by, od__made_by, .func (PySem.W.fnOf "_made_by" "_made_by" (defArgs s__made_by) (defBody s__made_by) (defScope s__made_by) .none kV__made_by dc__made_by pm__made_by an__made_by cd__made_by ct__made_by), sl__made_by⟩)
    (c__made_by : PySem.W.codeIn K cd__made_by "_made_by" = true)
    (k__made_by : PySem.W.keepIn K (.ref f__made_by) = true)
    (a_check_fit : PySem.W.nsIn K mainGlobals "check_fit" = some (some (.ref f_check_fit)))
    (l_check_fit : K.lookup f_check_fit = some ⟨oc_check_fit, od_check_fit, .func (PySem.W.fnOf "check_fit" "check_fit" (defArgs s_check_fit) (defBody s_check_fit) (defScope s_check_fit) .none kV_check_fit dc_check_fit pm_check_fit an_check_fit cd_check_fit ct_check_fit), sl_check_fit⟩)
    (c_check_fit : PySem.W.codeIn K cd_check_fit "check_fit" = true)
    (k_check_fit : PySem.W.keepIn K (.ref f_check_fit) = true)
    (a_normalized : PySem.W.nsIn K mainGlobals "normalized" = some (some (.ref f_normalized)))
    (l_normalized : K.lookup f_normalized = some ⟨oc_normalized, od_normalized, .func (PySem.W.fnOf "normalized" "normalized" (defArgs s_normalized) (defBody s_normalized) (defScope s_normalized) .none kV_normalized dc_normalized pm_normalized an_normalized cd_normalized ct_normalized), sl_normalized⟩)
    (c_normalized : PySem.W.codeIn K cd_normalized "normalized" = true)
    (k_normalized : PySem.W.keepIn K (.ref f_normalized) = true)
    (a__steps : PySem.W.nsIn K mainGlobals "_steps" = some (some (.ref f__steps)))
    (l__steps : K.lookup f__steps = some ⟨oc__steps, od__steps, .func (PySem.W.fnOf "_steps" "_steps" (defArgs s__steps) (defBody s__steps) (defScope s__steps) .none kV__steps dc__steps pm__steps an__steps cd__steps ct__steps), sl__steps⟩)
    (c__steps : PySem.W.codeIn K cd__steps "_steps" = true)
    (k__steps : PySem.W.keepIn K (.ref f__steps) = true)
    (a_squashed : PySem.W.nsIn K mainGlobals "squashed" = some (some (.ref f_squashed)))
    (l_squashed : K.lookup f_squashed = some ⟨oc_squashed, od_squashed, .func (PySem.W.fnOf "squashed" "squashed" (defArgs s_squashed) (defBody s_squashed) (defScope s_squashed) .none kV_squashed dc_squashed pm_squashed an_squashed cd_squashed ct_squashed), sl_squashed⟩)
    (c_squashed : PySem.W.codeIn K cd_squashed "squashed" = true)
    (k_squashed : PySem.W.keepIn K (.ref f_squashed) = true)
    (a__split : PySem.W.nsIn K mainGlobals "_split" = some (some (.ref f__split)))
    (l__split : K.lookup f__split = some ⟨oc__split, od__split, .func (PySem.W.fnOf "_split" "_split" (defArgs s__split) (defBody s__split) (defScope s__split) .none kV__split dc__split pm__split an__split cd__split ct__split), sl__split⟩)
    (c__split : PySem.W.codeIn K cd__split "_split" = true)
    (k__split : PySem.W.keepIn K (.ref f__split) = true)
    (a__cut : PySem.W.nsIn K mainGlobals "_cut" = some (some (.ref f__cut)))
    (l__cut : K.lookup f__cut = some ⟨oc__cut, od__cut, .func (PySem.W.fnOf "_cut" "_cut" (defArgs s__cut) (defBody s__cut) (defScope s__cut) .none kV__cut dc__cut pm__cut an__cut cd__cut ct__cut), sl__cut⟩)
    (c__cut : PySem.W.codeIn K cd__cut "_cut" = true)
    (k__cut : PySem.W.keepIn K (.ref f__cut) = true)
    (a__law_cell : PySem.W.nsIn K mainGlobals "_law_cell" = some (some (.ref f__law_cell)))
    (l__law_cell : K.lookup f__law_cell = some ⟨oc__law_cell, od__law_cell, .func (PySem.W.fnOf "_law_cell" "_law_cell" (defArgs s__law_cell) (defBody s__law_cell) (defScope s__law_cell) .none kV__law_cell dc__law_cell pm__law_cell an__law_cell cd__law_cell ct__law_cell), sl__law_cell⟩)
    (c__law_cell : PySem.W.codeIn K cd__law_cell "_law_cell" = true)
    (k__law_cell : PySem.W.keepIn K (.ref f__law_cell) = true)
    (a__law_mix : PySem.W.nsIn K mainGlobals "_law_mix" = some (some (.ref f__law_mix)))
    (l__law_mix : K.lookup f__law_mix = some ⟨oc__law_mix, od__law_mix, .func (PySem.W.fnOf "_law_mix" "_law_mix" (defArgs s__law_mix) (defBody s__law_mix) (defScope s__law_mix) .none kV__law_mix dc__law_mix pm__law_mix an__law_mix cd__law_mix ct__law_mix), sl__law_mix⟩)
    (c__law_mix : PySem.W.codeIn K cd__law_mix "_law_mix" = true)
    (k__law_mix : PySem.W.keepIn K (.ref f__law_mix) = true)
    (a__law_row : PySem.W.nsIn K mainGlobals "_law_row" = some (some (.ref f__law_row)))
    (l__law_row : K.lookup f__law_row = some ⟨oc__law_row, od__law_row, .func (PySem.W.fnOf "_law_row" "_law_row" (defArgs s__law_row) (defBody s__law_row) (defScope s__law_row) .none kV__law_row dc__law_row pm__law_row an__law_row cd__law_row ct__law_row), sl__law_row⟩)
    (c__law_row : PySem.W.codeIn K cd__law_row "_law_row" = true)
    (k__law_row : PySem.W.keepIn K (.ref f__law_row) = true)
    (a__law_is_int : PySem.W.nsIn K mainGlobals "_law_is_int" = some (some (.ref f__law_is_int)))
    (l__law_is_int : K.lookup f__law_is_int = some ⟨oc__law_is_int, od__law_is_int, .func (PySem.W.fnOf "_law_is_int" "_law_is_int" (defArgs s__law_is_int) (defBody s__law_is_int) (defScope s__law_is_int) .none kV__law_is_int dc__law_is_int pm__law_is_int an__law_is_int cd__law_is_int ct__law_is_int), sl__law_is_int⟩)
    (c__law_is_int : PySem.W.codeIn K cd__law_is_int "_law_is_int" = true)
    (k__law_is_int : PySem.W.keepIn K (.ref f__law_is_int) = true)
    (a__law_items : PySem.W.nsIn K mainGlobals "_law_items" = some (some (.ref f__law_items)))
    (l__law_items : K.lookup f__law_items = some ⟨oc__law_items, od__law_items, .func (PySem.W.fnOf "_law_items" "_law_items" (defArgs s__law_items) (defBody s__law_items) (defScope s__law_items) .none kV__law_items dc__law_items pm__law_items an__law_items cd__law_items ct__law_items), sl__law_items⟩)
    (c__law_items : PySem.W.codeIn K cd__law_items "_law_items" = true)
    (k__law_items : PySem.W.keepIn K (.ref f__law_items) = true)
    (a__law_script : PySem.W.nsIn K mainGlobals "_law_script" = some (some (.ref f__law_script)))
    (l__law_script : K.lookup f__law_script = some ⟨oc__law_script, od__law_script, .func (PySem.W.fnOf "_law_script" "_law_script" (defArgs s__law_script) (defBody s__law_script) (defScope s__law_script) .none kV__law_script dc__law_script pm__law_script an__law_script cd__law_script ct__law_script), sl__law_script⟩)
    (c__law_script : PySem.W.codeIn K cd__law_script "_law_script" = true)
    (k__law_script : PySem.W.keepIn K (.ref f__law_script) = true)
    (a__law_patch : PySem.W.nsIn K mainGlobals "_law_patch" = some (some (.ref f__law_patch)))
    (l__law_patch : K.lookup f__law_patch = some ⟨oc__law_patch, od__law_patch, .func (PySem.W.fnOf "_law_patch" "_law_patch" (defArgs s__law_patch) (defBody s__law_patch) (defScope s__law_patch) .none kV__law_patch dc__law_patch pm__law_patch an__law_patch cd__law_patch ct__law_patch), sl__law_patch⟩)
    (c__law_patch : PySem.W.codeIn K cd__law_patch "_law_patch" = true)
    (k__law_patch : PySem.W.keepIn K (.ref f__law_patch) = true)
    (a__law_is_normal : PySem.W.nsIn K mainGlobals "_law_is_normal" = some (some (.ref f__law_is_normal)))
    (l__law_is_normal : K.lookup f__law_is_normal = some ⟨oc__law_is_normal, od__law_is_normal, .func (PySem.W.fnOf "_law_is_normal" "_law_is_normal" (defArgs s__law_is_normal) (defBody s__law_is_normal) (defScope s__law_is_normal) .none kV__law_is_normal dc__law_is_normal pm__law_is_normal an__law_is_normal cd__law_is_normal ct__law_is_normal), sl__law_is_normal⟩)
    (c__law_is_normal : PySem.W.codeIn K cd__law_is_normal "_law_is_normal" = true)
    (k__law_is_normal : PySem.W.keepIn K (.ref f__law_is_normal) = true)
    (a__law_close : PySem.W.nsIn K mainGlobals "_law_close" = some (some (.ref f__law_close)))
    (l__law_close : K.lookup f__law_close = some ⟨oc__law_close, od__law_close, .func (PySem.W.fnOf "_law_close" "_law_close" (defArgs s__law_close) (defBody s__law_close) (defScope s__law_close) .none kV__law_close dc__law_close pm__law_close an__law_close cd__law_close ct__law_close), sl__law_close⟩)
    (c__law_close : PySem.W.codeIn K cd__law_close "_law_close" = true)
    (k__law_close : PySem.W.keepIn K (.ref f__law_close) = true)
    (a__law_normal : PySem.W.nsIn K mainGlobals "_law_normal" = some (some (.ref f__law_normal)))
    (l__law_normal : K.lookup f__law_normal = some ⟨oc__law_normal, od__law_normal, .func (PySem.W.fnOf "_law_normal" "_law_normal" (defArgs s__law_normal) (defBody s__law_normal) (defScope s__law_normal) .none kV__law_normal dc__law_normal pm__law_normal an__law_normal cd__law_normal ct__law_normal), sl__law_normal⟩)
    (c__law_normal : PySem.W.codeIn K cd__law_normal "_law_normal" = true)
    (k__law_normal : PySem.W.keepIn K (.ref f__law_normal) = true)
    (a__law_follow : PySem.W.nsIn K mainGlobals "_law_follow" = some (some (.ref f__law_follow)))
    (l__law_follow : K.lookup f__law_follow = some ⟨oc__law_follow, od__law_follow, .func (PySem.W.fnOf "_law_follow" "_law_follow" (defArgs s__law_follow) (defBody s__law_follow) (defScope s__law_follow) .none kV__law_follow dc__law_follow pm__law_follow an__law_follow cd__law_follow ct__law_follow), sl__law_follow⟩)
    (c__law_follow : PySem.W.codeIn K cd__law_follow "_law_follow" = true)
    (k__law_follow : PySem.W.keepIn K (.ref f__law_follow) = true)
    (a_law : PySem.W.nsIn K mainGlobals "law" = some (some (.ref f_law)))
    (l_law : K.lookup f_law = some ⟨oc_law, od_law, .func (PySem.W.fnOf "law" "law" (defArgs s_law) (defBody s_law) (defScope s_law) .none kV_law dc_law pm_law an_law cd_law ct_law), sl_law⟩)
    (c_law : PySem.W.codeIn K cd_law "law" = true)
    (k_law : PySem.W.keepIn K (.ref f_law) = true)
    (z_sum : PySem.W.nsIn K mainGlobals "sum" = some none)
    (z_len : PySem.W.nsIn K mainGlobals "len" = some none)
    (z_tuple : PySem.W.nsIn K mainGlobals "tuple" = some none)
    (z_zip : PySem.W.nsIn K mainGlobals "zip" = some none)
    (z_list : PySem.W.nsIn K mainGlobals "list" = some none)
    (z_int : PySem.W.nsIn K mainGlobals "int" = some none)
    (z_abs : PySem.W.nsIn K mainGlobals "abs" = some none)
    (z_range : PySem.W.nsIn K mainGlobals "range" = some none)
    (z_isinstance : PySem.W.nsIn K mainGlobals "isinstance" = some none)
    (z_bool : PySem.W.nsIn K mainGlobals "bool" = some none)
    (z_min : PySem.W.nsIn K mainGlobals "min" = some none)
    (a_ArchiveError : PySem.W.nsIn K mainGlobals "ArchiveError" = some (some (.ref C_ArchiveError)))
    (x_ArchiveError : PySem.W.excIn K C_ArchiveError [.type "ValueError", .type "Exception", .type "BaseException", .type "object"] "ValueError.__new__" = true)
    (k_ArchiveError : PySem.W.keepIn K (.ref C_ArchiveError) = true)
    (b_ArchiveError : PySem.W.subIn K (.ref C_ArchiveError) (.type "BaseException") = some true)
    (t_ArchiveError : PySem.W.typeIn K (.ref C_ArchiveError) = some (.type "type"))
    (g_ArchiveError : PySem.W.findIn K (.ref C_ArchiveError) "__getattribute__" = some (some (.builtin "BaseException.__getattribute__")))
    (h_ArchiveError : PySem.W.findIn K (.ref C_ArchiveError) "__getattr__" = some none)
    (d_ArchiveError : PySem.W.hasDictIn K C_ArchiveError = true)
    (o_ArchiveError : PySem.W.findIn K (.ref C_ArchiveError) "__class__" = some (some (.builtin "object.__class__")))
    (n_ArchiveError : PySem.W.specialIn K (.builtin "object.__class__") "__get__" = some (some (.builtin "getset_descriptor.__get__")))
    (m_ArchiveError : PySem.W.takesIn K (.builtin "object.__class__") = some true)
    (r_ArchiveError : PySem.W.mroIn K C_ArchiveError (.type "object") = some true)
    (i_ArchiveError : PySem.W.isClsIn K C_ArchiveError = true)
    (a_InvalidScript : PySem.W.nsIn K mainGlobals "InvalidScript" = some (some (.ref C_InvalidScript)))
    (x_InvalidScript : PySem.W.excIn K C_InvalidScript [.type "ValueError", .type "Exception", .type "BaseException", .type "object"] "ValueError.__new__" = true)
    (k_InvalidScript : PySem.W.keepIn K (.ref C_InvalidScript) = true)
    (b_InvalidScript : PySem.W.subIn K (.ref C_InvalidScript) (.type "BaseException") = some true)
    (t_InvalidScript : PySem.W.typeIn K (.ref C_InvalidScript) = some (.type "type"))
    (g_InvalidScript : PySem.W.findIn K (.ref C_InvalidScript) "__getattribute__" = some (some (.builtin "BaseException.__getattribute__")))
    (h_InvalidScript : PySem.W.findIn K (.ref C_InvalidScript) "__getattr__" = some none)
    (d_InvalidScript : PySem.W.hasDictIn K C_InvalidScript = true)
    (o_InvalidScript : PySem.W.findIn K (.ref C_InvalidScript) "__class__" = some (some (.builtin "object.__class__")))
    (n_InvalidScript : PySem.W.specialIn K (.builtin "object.__class__") "__get__" = some (some (.builtin "getset_descriptor.__get__")))
    (m_InvalidScript : PySem.W.takesIn K (.builtin "object.__class__") = some true)
    (r_InvalidScript : PySem.W.mroIn K C_InvalidScript (.type "object") = some true)
    (i_InvalidScript : PySem.W.isClsIn K C_InvalidScript = true)
    (hs_InvalidScript_ArchiveError : PySem.W.subIn K (.ref C_InvalidScript) (.ref C_ArchiveError) = some true)
    (hq_InvalidScript_InvalidScript : PySem.W.subIn K (.ref C_InvalidScript) (.ref C_InvalidScript) = some true)
    (lc_taken_items : K.lookup c_taken_items = some ⟨cc_taken_items, ce_taken_items, .fields cf_taken_items, cg_taken_items⟩)
    (tv_taken_items : cf_taken_items[11]? = some (.ref P_taken_items))
    (lc_made_items : K.lookup c_made_items = some ⟨cc_made_items, ce_made_items, .fields cf_made_items, cg_made_items⟩)
    (tv_made_items : cf_made_items[11]? = some (.ref P_made_items))
    : ∃ (fd : FuncData) (cs : List (Str × Addr × Addr)), (∀ t ∈ cs, t.1 ∈ names ∧ PySem.W.tabIn K t.1 = some t.2) ∧ (∀ (s : Shared) (v : Value), BindsTo s fd ⟨[v], []⟩ [("script", v)]) ∧ ∀ base : Heap, K.In base → base.Ns mainGlobals mg → (∀ t ∈ cs, LamX.TabB base mg t.2.1 t.2.2) → FnOk P w K mg base CX0 7 C_fa fd ["script"] (GX.spLawT K (cs.map (·.2.2))) :=
  law_mk (T := ⟨GX.dnc_mk X G a_taken_items l_taken_items e_taken_items k_taken_items (fun _ _ _ _ _ _ us hl => match us, hl with | [_], _ => rfl),
    dn_mk X G a__taken_by l__taken_by c__taken_by k__taken_by (fun _ _ _ _ _ _ us hl => match us, hl with | [_], _ => rfl),
    GX.dnc_mk X G a_made_items l_made_items e_made_items k_made_items (fun _ _ _ _ _ _ us hl => match us, hl with | [_], _ => rfl),
    dn_mk X G a__made_by l__made_by c__made_by k__made_by (fun _ _ _ _ _ _ us hl => match us, hl with | [_], _ => rfl),
    dn_mk X G a_check_fit l_check_fit c_check_fit k_check_fit (fun _ _ _ _ _ _ us hl => match us, hl with | [_, _], _ => rfl),
    dn_mk X G a_normalized l_normalized c_normalized k_normalized (fun _ _ _ _ _ _ us hl => match us, hl with | [_], _ => rfl),
    dn_mk X G a__steps l__steps c__steps k__steps (fun _ _ _ _ _ _ us hl => match us, hl with | [_, _, _], _ => rfl),
    dn_mk X G a_squashed l_squashed c_squashed k_squashed (fun _ _ _ _ _ _ us hl => match us, hl with | [_, _], _ => rfl),
    dn_mk X G a__split l__split c__split k__split (fun _ _ _ _ _ _ us hl => match us, hl with | [_, _], _ => rfl),
    dn_mk X G a__cut l__cut c__cut k__cut (fun _ _ _ _ _ _ us hl => match us, hl with | [_, _], _ => rfl),
    dn_mk X G a__law_cell l__law_cell c__law_cell k__law_cell (fun _ _ _ _ _ _ us hl => match us, hl with | [_, _], _ => rfl),
    dn_mk X G a__law_mix l__law_mix c__law_mix k__law_mix (fun _ _ _ _ _ _ us hl => match us, hl with | [_, _], _ => rfl),
    dn_mk X G a__law_row l__law_row c__law_row k__law_row (fun _ _ _ _ _ _ us hl => match us, hl with | [_, _, _], _ => rfl),
    dn_mk X G a__law_is_int l__law_is_int c__law_is_int k__law_is_int (fun _ _ _ _ _ _ us hl => match us, hl with | [_], _ => rfl),
    dn_mk X G a__law_items l__law_items c__law_items k__law_items (fun _ _ _ _ _ _ us hl => match us, hl with | [_, _], _ => rfl),
    dn_mk X G a__law_script l__law_script c__law_script k__law_script (fun _ _ _ _ _ _ us hl => match us, hl with | [_, _], _ => rfl),
    dn_mk X G a__law_patch l__law_patch c__law_patch k__law_patch (fun _ _ _ _ _ _ us hl => match us, hl with | [_, _], _ => rfl),
    dn_mk X G a__law_is_normal l__law_is_normal c__law_is_normal k__law_is_normal (fun _ _ _ _ _ _ us hl => match us, hl with | [_], _ => rfl),
    dn_mk X G a__law_close l__law_close c__law_close k__law_close (fun _ _ _ _ _ _ us hl => match us, hl with | [_, _], _ => rfl),
    dn_mk X G a__law_normal l__law_normal c__law_normal k__law_normal (fun _ _ _ _ _ _ us hl => match us, hl with | [_], _ => rfl),
    dn_mk X G a__law_follow l__law_follow c__law_follow k__law_follow (fun _ _ _ _ _ _ us hl => match us, hl with | [_, _], _ => rfl),
    dn_mk X G a_law l_law c_law k_law (fun _ _ _ _ _ _ us hl => match us, hl with | [_], _ => rfl),
    PySem.W.mg_none_of X G z_sum,
    PySem.W.mg_none_of X G z_len,
    PySem.W.mg_none_of X G z_tuple,
    PySem.W.mg_none_of X G z_zip,
    PySem.W.mg_none_of X G z_list,
    PySem.W.mg_none_of X G z_int,
    PySem.W.mg_none_of X G z_abs,
    PySem.W.mg_none_of X G z_range,
    PySem.W.mg_none_of X G z_isinstance,
    PySem.W.mg_none_of X G z_bool,
    PySem.W.mg_none_of X G z_min,
    xcl_mk X G a_ArchiveError x_ArchiveError k_ArchiveError b_ArchiveError t_ArchiveError g_ArchiveError h_ArchiveError d_ArchiveError o_ArchiveError n_ArchiveError m_ArchiveError r_ArchiveError i_ArchiveError,
    xcl_mk X G a_InvalidScript x_InvalidScript k_InvalidScript b_InvalidScript t_InvalidScript g_InvalidScript h_InvalidScript d_InvalidScript o_InvalidScript n_InvalidScript m_InvalidScript r_InvalidScript i_InvalidScript,
    hs_InvalidScript_ArchiveError,
    kit_own i_InvalidScript t_InvalidScript hq_InvalidScript_InvalidScript (fun _ => rfl)⟩) hfa (GX.tabIn_mk a_taken_items l_taken_items rfl lc_taken_items tv_taken_items) (GX.tabIn_mk a_made_items l_made_items rfl lc_made_items tv_made_items)
end My
open PySem PySem.W PyProof.Rows in
set_option maxRecDepth 100000 in
set_option maxHeartbeats 0 in
theorem PySem.Challenge.cw_scanpages_k14_squash_holds : PySem.Challenge.rw_scanpages_k14_squash.Holds := by
  w_on; o_law; k_head; (case hw => w_witness2)
  k_fill
  refine GX.walk_gx (l := PySem.Challenge.rw_scanpages_k14_squash) (k := 7) (names := My.names) rfl rfl ⟨rfl, by decide, by decide⟩ (fun w h Y => PySem.W.kIn_of Y) ?NT ?RC ?F
  case NT => intro w; rfl
  case RC => decide +kernel
  case F =>
    intro w mg fa h KX G hmg
    refine' My.law_end KX G hmg ?a_taken_items ?l_taken_items ?e_taken_items ?k_taken_items ?a__taken_by ?l__taken_by ?c__taken_by ?k__taken_by ?a_made_items ?l_made_items ?e_made_items ?k_made_items ?a__made_by ?l__made_by ?c__made_by ?k__made_by ?a_check_fit ?l_check_fit ?c_check_fit ?k_check_fit ?a_normalized ?l_normalized ?c_normalized ?k_normalized ?a__steps ?l__steps ?c__steps ?k__steps ?a_squashed ?l_squashed ?c_squashed ?k_squashed ?a__split ?l__split ?c__split ?k__split ?a__cut ?l__cut ?c__cut ?k__cut ?a__law_cell ?l__law_cell ?c__law_cell ?k__law_cell ?a__law_mix ?l__law_mix ?c__law_mix ?k__law_mix ?a__law_row ?l__law_row ?c__law_row ?k__law_row ?a__law_is_int ?l__law_is_int ?c__law_is_int ?k__law_is_int ?a__law_items ?l__law_items ?c__law_items ?k__law_items ?a__law_script ?l__law_script ?c__law_script ?k__law_script ?a__law_patch ?l__law_patch ?c__law_patch ?k__law_patch ?a__law_is_normal ?l__law_is_normal ?c__law_is_normal ?k__law_is_normal ?a__law_close ?l__law_close ?c__law_close ?k__law_close ?a__law_normal ?l__law_normal ?c__law_normal ?k__law_normal ?a__law_follow ?l__law_follow ?c__law_follow ?k__law_follow ?a_law ?l_law ?c_law ?k_law ?z_sum ?z_len ?z_tuple ?z_zip ?z_list ?z_int ?z_abs ?z_range ?z_isinstance ?z_bool ?z_min ?a_ArchiveError ?x_ArchiveError ?k_ArchiveError ?b_ArchiveError ?t_ArchiveError ?g_ArchiveError ?h_ArchiveError ?d_ArchiveError ?o_ArchiveError ?n_ArchiveError ?m_ArchiveError ?r_ArchiveError ?i_ArchiveError ?a_InvalidScript ?x_InvalidScript ?k_InvalidScript ?b_InvalidScript ?t_InvalidScript ?g_InvalidScript ?h_InvalidScript ?d_InvalidScript ?o_InvalidScript ?n_InvalidScript ?m_InvalidScript ?r_InvalidScript ?i_InvalidScript ?hs_InvalidScript_ArchiveError ?hq_InvalidScript_InvalidScript ?lc_taken_items ?tv_taken_items ?lc_made_items ?tv_made_items
    (case a_taken_items => k_is)
    (case l_taken_items => k_is)
    (case e_taken_items => k_is)
    (case k_taken_items => k_is)
    (case a__taken_by => k_is)
    (case l__taken_by => k_is)
    (case c__taken_by => k_is)
    (case k__taken_by => k_is)
    (case a_made_items => k_is)
    (case l_made_items => k_is)
    (case e_made_items => k_is)
    (case k_made_items => k_is)
    (case a__made_by => k_is)
    (case l__made_by => k_is)
    (case c__made_by => k_is)
    (case k__made_by => k_is)
    (case a_check_fit => k_is)
    (case l_check_fit => k_is)
    (case c_check_fit => k_is)
    (case k_check_fit => k_is)
    (case a_normalized => k_is)
    (case l_normalized => k_is)
    (case c_normalized => k_is)
    (case k_normalized => k_is)
    (case a__steps => k_is)
    (case l__steps => k_is)
    (case c__steps => k_is)
    (case k__steps => k_is)
    (case a_squashed => k_is)
    (case l_squashed => k_is)
    (case c_squashed => k_is)
    (case k_squashed => k_is)
    (case a__split => k_is)
    (case l__split => k_is)
    (case c__split => k_is)
    (case k__split => k_is)
    (case a__cut => k_is)
    (case l__cut => k_is)
    (case c__cut => k_is)
    (case k__cut => k_is)
    (case a__law_cell => k_is)
    (case l__law_cell => k_is)
    (case c__law_cell => k_is)
    (case k__law_cell => k_is)
    (case a__law_mix => k_is)
    (case l__law_mix => k_is)
    (case c__law_mix => k_is)
    (case k__law_mix => k_is)
    (case a__law_row => k_is)
    (case l__law_row => k_is)
    (case c__law_row => k_is)
    (case k__law_row => k_is)
    (case a__law_is_int => k_is)
    (case l__law_is_int => k_is)
    (case c__law_is_int => k_is)
    (case k__law_is_int => k_is)
    (case a__law_items => k_is)
    (case l__law_items => k_is)
    (case c__law_items => k_is)
    (case k__law_items => k_is)
    (case a__law_script => k_is)
    (case l__law_script => k_is)
    (case c__law_script => k_is)
    (case k__law_script => k_is)
    (case a__law_patch => k_is)
    (case l__law_patch => k_is)
    (case c__law_patch => k_is)
    (case k__law_patch => k_is)
    (case a__law_is_normal => k_is)
    (case l__law_is_normal => k_is)
    (case c__law_is_normal => k_is)
    (case k__law_is_normal => k_is)
    (case a__law_close => k_is)
    (case l__law_close => k_is)
    (case c__law_close => k_is)
    (case k__law_close => k_is)
    (case a__law_normal => k_is)
    (case l__law_normal => k_is)
    (case c__law_normal => k_is)
    (case k__law_normal => k_is)
    (case a__law_follow => k_is)
    (case l__law_follow => k_is)
    (case c__law_follow => k_is)
    (case k__law_follow => k_is)
    (case a_law => k_is)
    (case l_law => k_is)
    (case c_law => k_is)
    (case k_law => k_is)
    (case z_sum => k_is)
    (case z_len => k_is)
    (case z_tuple => k_is)
    (case z_zip => k_is)
    (case z_list => k_is)
    (case z_int => k_is)
    (case z_abs => k_is)
    (case z_range => k_is)
    (case z_isinstance => k_is)
    (case z_bool => k_is)
    (case z_min => k_is)
    (case a_ArchiveError => k_is)
    (case x_ArchiveError => k_exc)
    (case k_ArchiveError => k_is)
    (case b_ArchiveError => k_is)
    (case t_ArchiveError => k_is)
    (case g_ArchiveError => k_is)
    (case h_ArchiveError => k_is)
    (case d_ArchiveError => k_is)
    (case o_ArchiveError => k_is)
    (case n_ArchiveError => k_is)
    (case m_ArchiveError => k_is)
    (case r_ArchiveError => k_is)
    (case i_ArchiveError => k_is)
    (case a_InvalidScript => k_is)
    (case x_InvalidScript => k_exc)
    (case k_InvalidScript => k_is)
    (case b_InvalidScript => k_is)
    (case t_InvalidScript => k_is)
    (case g_InvalidScript => k_is)
    (case h_InvalidScript => k_is)
    (case d_InvalidScript => k_is)
    (case o_InvalidScript => k_is)
    (case n_InvalidScript => k_is)
    (case m_InvalidScript => k_is)
    (case r_InvalidScript => k_is)
    (case i_InvalidScript => k_is)
    (case hs_InvalidScript_ArchiveError => first | k_is | rfl)
    (case hq_InvalidScript_InvalidScript => first | k_is | rfl)
    (case lc_taken_items => k_is)
    (case tv_taken_items => rfl)
    (case lc_made_items => k_is)
    (case tv_made_items => rfl)
#print axioms PySem.Challenge.cw_scanpages_k14_squash_holds
