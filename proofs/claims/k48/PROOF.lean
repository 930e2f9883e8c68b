import PyProof.Rows.All
import Wide.All
import OpenK.AllK
import Wide.FinOn
import PyProof.EqAt
import PyProof.EqKinds
import PyProof.TupleCall
import HandS.ForMost
import HandS.ForExc
import HandS.RaiseMore
import HandS.FStr
import HandS.IsInst
import HandS.ExcIs
import HandS.Wide
import HandS.Flow
import HandS.Conv
import HandS.Evl
import HandS.TupAny
import HandS.Style
import HandS.ExcCtx
import HandS.HotCalls
import HandS.AnyAll
import HandS.GenOver
import HandS.JoinGen
import HandS.Lambda
import HandS.EndOwn
import HandS.EndTab
import HandS.Walk
import HandS.Strs
import HandS.Zip
import HandS.ListItems
import PySem.Challenge.RW_scanpages_k48_whole_groups
set_option Elab.async false
set_option linter.all false
set_option maxRecDepth 100000
set_option maxHeartbeats 4000000
/-! Cm: what all our proofs share -/
namespace Cm
open PySem PySem.Spec PyProof.Rows L2

/-! ### defs of the module, and what they promise -/
/-- the def x stands at some address behind the top -/
def Dn (K : PySem.W.Frag) (mg : Str → Option Value) (x : Str) (st : Stmt) (ps : List Str) : Prop :=
  ∃ (f : Addr) (fd : FuncData), Fun K x x st f fd ∧ mg x = some (.ref f) ∧ Binds K fd ps []
/-- the def x keeps the promise sp -/
def Ok (P : Program) (w : World) (K : PySem.W.Frag) (mg : Str → Option Value) (base : Heap) (CX : CXT) (k : Nat) (x : Str) (ps : List Str) (sp : Sp) : Prop :=
  ∃ (f : Addr) (fd : FuncData), FnOk P w K mg base CX k f fd ps sp ∧ mg x = some (.ref f) ∧ PySem.W.keepIn K (.ref f) = true ∧ Binds K fd ps []
theorem ok_of {P : Program} {w : World} {K : PySem.W.Frag} {mg : Str → Option Value} {base : Heap} {CX : CXT} {k : Nat} {x : Str} {st : Stmt} {ps : List Str} {sp : Sp} (d : Dn K mg x st ps)
    (h : ∀ f fd, Fun K x x st f fd → FnOk P w K mg base CX k f fd ps sp) : Ok P w K mg base CX k x ps sp := by
  obtain ⟨f, fd, F, g, b⟩ := d
  exact ⟨f, fd, h f fd F, g, F.kp, b⟩
section
variable {X : Cx} {CX : CXT} {k : Nat} {ps : List Str} {sp : Sp} {E : XK} {x : Str} {p pos : Pos} {e : Expr} {es : List Expr} {t : TA}
theorem pe_callO (G : Ok X.prog X.w X.K X.mg X.base CX k x ps sp) (hr : Room k X.A) (hx : Passes CX X E) (ha : PA X (e :: es) t) (hg : Gl X x := by rfl)
    (hdb : (x == ("__debug__" : Str)) = false := by decide) (he : starEach (e :: es) X.env = (false, eval e X.env) :: starEach es X.env := by rfl) (hpl : (backTo pos (starEach es X.env)).any (·.1) = false := by rfl) :
    PE X (.Call (.Name x p) (e :: es) [] pos) (tCall sp [] E t) := by
  obtain ⟨f, fd, F, g, kp, b⟩ := G
  exact pe_call F hr hg g kp b .nil hx ha hdb he hpl
theorem pe_callO0 (G : Ok X.prog X.w X.K X.mg X.base CX k x ps sp) (hr : Room k X.A) (hx : Passes CX X E) (hg : Gl X x := by rfl) (hdb : (x == ("__debug__" : Str)) = false := by decide) :
    PE X (.Call (.Name x p) [] [] pos) (tCall sp [] E tNil) := by
  obtain ⟨f, fd, F, g, kp, b⟩ := G
  exact pe_call0 F hr hg g kp b .nil hx hdb
theorem pe_callT {Es : L2.St → XK} (G : Ok X.prog X.w X.K X.mg X.base CX k x ps sp) (hr : Room k X.A) (hx : ∀ σ, PassesAt CX X σ (Es σ)) (ha : PA X (e :: es) t) (hg : Gl X x := by rfl)
    (hdb : (x == ("__debug__" : Str)) = false := by decide) (he : starEach (e :: es) X.env = (false, eval e X.env) :: starEach es X.env := by rfl) (hpl : (backTo pos (starEach es X.env)).any (·.1) = false := by rfl) :
    PE X (.Call (.Name x p) (e :: es) [] pos) (tCallS sp Es t) := by
  obtain ⟨f, fd, F, g, kp, b⟩ := G
  exact pe_callS F hr hg g kp b hx ha hdb he hpl
end
/-! ### errors: raised where nothing is handled -/
/-- what leaves a def: L2N's way -/
abbrev CXN (P : Program) (w : World) : CXT := L2N.CX P w
theorem passN {X : Cx} : Passes (CXN X.prog X.w) X E0 := fun _ _ _ _ _ _ _ h => by
  obtain ⟨_, _, _, _, _, _, _, _, _, _, _, _, z⟩ := h
  exact z.elim
theorem takesN {X : Cx} : L2N.Takes X (fun _ _ _ _ => False) := fun _ _ x => by
  obtain ⟨_, _, _, _, _, _, _, _, _, _, _, _, _, _, _, _, z⟩ := x
  exact z.elim
theorem passX {X : Cx} {E E' : XK} (tk : L2N.Takes X (fun cls d _ H => E cls d H)) (h : ∀ cls d H, E' cls d H → E cls d H) : Passes (CXN X.prog X.w) X E' := fun pins σ H s e s' I c => tk e s' (L2N.XE.of_call I (fun cls d H' q => h cls d H' q) c)
theorem okN {P : Program} {w : World} {K : PySem.W.Frag} {mg : Str → Option Value} {base : Heap} {x qual : Str} {st : Stmt} {f : Addr} {fd : FuncData} {N ps : List Str} {k : Nat} {sp : Sp} (F : Fun K x qual st f fd) (S : FnScope N ps (defScope st)) (len : ∀ vs H Q E, sp vs H Q E → vs.length = ps.length)
    (hbody : ∀ (cdv : Value) (A : Around) (outer : List Env) (s : Shared) (H : Hp) (vs : List V) (Q : VK) (E : XK), Room k (A.deeper (envOfC qual (defScope st) s.heap.objs.size f cdv)) → sp vs H Q E →
      ∃ t, PSs (cxOf (CXN P w) P w K mg base N qual (defScope st) f cdv A outer s H E) (defBody st) t ∧ t { nx := fun _ H' => Q .non H', rt := Q } (L2.start N vs) H) : FnOk P w K mg base (CXN P w) (k + 1) f fd ps sp := by
  obtain ⟨oc, od, kV, doc, pm, an, cdv, ct, osl, rfl, lk, hcd⟩ := F.ex
  exact fn_of lk hcd S len fun A outer s H vs Q E hr hsp => hbody cdv A outer s H vs Q E hr hsp
section
variable {X : Cx}
/-- X(e) -/
theorem pmk_own1 {C : Addr} {bmB : List Value} {B newId initId : String} {x : Str} {e : Expr} {ta : TE} {p pos : Pos} (F : ExcBaseFacts B newId initId bmB) (q : PySem.W.excIn X.K C bmB newId = true) (gC : X.mg x = some (.ref C)) (kC : PySem.W.keepIn X.K (.ref C) = true) (r : Raises X (.ref C)) (hg : Gl X x)
    (he : PE X e ta) (hs : starEach [e] X.env = (false, eval e X.env) :: starEach [] X.env := by rfl) (hdb : (x == ("__debug__" : Str)) = false := by decide) :
    L2N.PMk X (.Call (.Name x p) [e] [] pos) (fun σ H Q => ta σ H fun _ H1 => Q (.ref C) none H1) := by
  intro pins s σ H Q I h
  refine wpAny_Call_Name_kw (ld_glob I hg gC ?_ hdb)
  refine PySem.W.callWith_K (h₀ := X.base) I.ok.mod.kin kC ?_ hs (by rfl)
  rw [hs]
  show wpAny _ _ (spliced ((false, eval e X.env) :: backTo pos (starEach [] X.env))) _ _ s
  refine Calls.spliced_cons (thn (he.run pins s σ H _ I h) fun u s1 ⟨v, H1, I1, r1, q1⟩ => ?_)
  refine Calls.spliced_nil ⟨I1.kIn, ?_⟩
  show wpAny _ _ (call (.ref C) [u]) _ _ _
  obtain ⟨bm, N, nm, qn, bs, hdct, sn, sub, ab, col, dd, k0, k1, k2, k3, k5, mN, hC, hN, hni, T⟩ := exc_obj I1.kIn q
  refine wpAny_call_exc_subT F T hC hN hni (fun h' e hm => ?_) (by show 1 ≤ sizeLine; rw [sizeLine_eq]; omega)
  exact L2N.mk_of I1 hm r q1 (I1.hok.gone hm.new)
end
/-! ### defs called within an except suite -/
def OkH (P : Program) (w : World) (K : PySem.W.Frag) (mg : Str → Option Value) (base : Heap) (CX : CXT) (k : Nat) (x : Str) (ps : List Str) (sp : Sp) : Prop :=
  ∃ (f : Addr) (fd : FuncData), L2H.FnH P w K mg base CX k f fd ps sp ∧ mg x = some (.ref f) ∧ PySem.W.keepIn K (.ref f) = true ∧ Binds K fd ps []
theorem okH_of {P : Program} {w : World} {K : PySem.W.Frag} {mg : Str → Option Value} {base : Heap} {k : Nat} {x : Str} {st : Stmt} {N ps : List Str} {sp : Sp} (d : Dn K mg x st ps) (S : FnScope N ps (defScope st)) (len : ∀ vs H Q E, sp vs H Q E → vs.length = ps.length)
    (hbody : ∀ (f : Addr) (cdv : Value) (A : Around) (outer : List Env) (s : Shared) (H : Hp) (vs : List V) (Q : VK) (E : XK) (p : Addr × Obj), L2H.Hot1 A p → L2H.RoomH k (A.deeper (envOfC x (defScope st) s.heap.objs.size f cdv)) → sp vs H Q E →
      ∃ t, PSs (L2H.cxH CX0 P w K mg base N x (defScope st) f cdv A outer s H E p) (defBody st) t ∧ t { nx := fun _ H' => Q .non H', rt := Q } (L2.start N vs) H) : OkH P w K mg base CX0 (k + 1) x ps sp := by
  obtain ⟨f, fd, F, g, b⟩ := d
  refine ⟨f, fd, ?_, g, F.kp, b⟩
  obtain ⟨oc, od, kV, doc, pm, an, cdv, ct, osl, rfl, lk, hcd⟩ := F.ex
  exact L2H.fn_ofH lk hcd S len fun A outer s H vs Q E p hot hr hsp => hbody f cdv A outer s H vs Q E p hot hr hsp
section
variable {X : Cx} {k : Nat} {ps : List Str} {sp : Sp} {x : Str} {p pos : Pos} {e : Expr} {es : List Expr} {t : TA}
theorem pe_callHO (G : OkH X.prog X.w X.K X.mg X.base CX0 k x ps sp) (hr : L2H.RoomH k X.A) (hc : L2H.HotC X) (ha : PA X (e :: es) t) (hg : Gl X x := by rfl)
    (hdb : (x == ("__debug__" : Str)) = false := by decide) (he : starEach (e :: es) X.env = (false, eval e X.env) :: starEach es X.env := by rfl) (hpl : (backTo pos (starEach es X.env)).any (·.1) = false := by rfl) :
    PE X (.Call (.Name x p) (e :: es) [] pos) (tCallS sp (fun _ => E0) t) := by
  obtain ⟨f, fd, F, g, kp, b⟩ := G
  exact L2H.pe_callH F hr hc hg g kp b (fun _ _ _ _ _ _ _ h => h.elim) ha hdb he hpl
theorem roomS {k j : Nat} {A : Around} {h : Option Value} (hr : Room k A) (hj : j ≤ k) : L2H.RoomH j (A.mark h) := L2H.RoomH.mono (k := k) ⟨hr.dp, hr.un⟩ hj
theorem hotS {a : Addr} {oe : Obj} {cls : Value} {d : Option Addr} {pn : List (Addr × Obj)} (hz : L2N.Zn cls d oe) (hf : ∃ vs, oe.data = .fields vs) : L2H.HotC (X.suite a ((a, oe) :: pn)) := by
  obtain ⟨vs, e⟩ := hf
  exact ⟨(a, oe), ⟨rfl, vs, e, hz.2.2 vs e⟩, List.mem_cons_self⟩
end
/-! ### names of the module -/
/-- the name x of the module holds v -/
def CV (mg : Str → Option Value) (x : Str) (v : V) : Prop := ∃ u, mg x = some u ∧ RelV v u
theorem pe_globC {X : Cx} {x : Str} {v : V} {pos : Pos} (hg : Gl X x) (h : CV X.mg x v) (hd : (x == ("__debug__" : Str)) = false := by decide) : PE X (.Name x pos) (tC v) := by
  obtain ⟨u, hm, r⟩ := h
  exact pe_glob hg hm r hd
theorem pe_globR {X : Cx} {x : Str} {a : Addr} {pos : Pos} (hg : Gl X x) (h : X.mg x = some (.ref a)) (hd : (x == ("__debug__" : Str)) = false := by decide) : PE X (.Name x pos) (tC (.ref a)) := pe_glob hg h rfl hd
/-! ### tests -/
theorem itd {p A B : Prop} [Decidable p] (h1 : p → A) (h2 : ¬ p → B) : if decide p = true then A else B := by
  by_cases h : p
  · rw [if_pos (decide_eq_true h)]
    exact h1 h
  · rw [if_neg (by simp [h])]
    exact h2 h
theorem itb {b : Bool} {A B : Prop} (h1 : b = true → A) (h2 : b = false → B) : if b = true then A else B := by
  cases b with
  | true => exact iteT (h1 rfl)
  | false => exact iteF (h2 rfl)
/-! ### error classes -/
/-- an error class that may have an own __init__ -/
structure XB (K : PySem.W.Frag) (mg : Str → Option Value) (x : Str) (C : Addr) : Prop where
  g : mg x = some (.ref C)
  k : PySem.W.keepIn K (.ref C) = true
  b : PySem.W.subIn K (.ref C) (.type "BaseException") = some true
  t : PySem.W.typeIn K (.ref C) = some (.type "type")
  d : PySem.W.hasDictIn K C = true
  i : PySem.W.isClsIn K C = true
/-- an error class without an own __init__ -/
structure XCl (K : PySem.W.Frag) (mg : Str → Option Value) (x : Str) (C : Addr) : Prop extends XB K mg x C where
  x : PySem.W.excIn K C [.type "ValueError", .type "Exception", .type "BaseException", .type "object"] "ValueError.__new__" = true
  e : ExcC K C
section
variable {K : PySem.W.Frag} {h : Heap} {mg : Str → Option Value} {x : Str} {C : Addr}
theorem xb_mk (X : K.In h) (G : h.Ns mainGlobals mg) (a : PySem.W.nsIn K mainGlobals x = some (some (.ref C))) (k : PySem.W.keepIn K (.ref C) = true) (b : PySem.W.subIn K (.ref C) (.type "BaseException") = some true)
    (t : PySem.W.typeIn K (.ref C) = some (.type "type")) (d : PySem.W.hasDictIn K C = true) (i : PySem.W.isClsIn K C = true) : XB K mg x C := ⟨PySem.W.mg_of X G a, k, b, t, d, i⟩
theorem xcl_mk (X : K.In h) (G : h.Ns mainGlobals mg) (a : PySem.W.nsIn K mainGlobals x = some (some (.ref C)))
    (q : PySem.W.excIn K C [.type "ValueError", .type "Exception", .type "BaseException", .type "object"] "ValueError.__new__" = true) (k : PySem.W.keepIn K (.ref C) = true)
    (b : PySem.W.subIn K (.ref C) (.type "BaseException") = some true) (t : PySem.W.typeIn K (.ref C) = some (.type "type"))
    (hg : PySem.W.findIn K (.ref C) "__getattribute__" = some (some (.builtin "BaseException.__getattribute__"))) (hk : PySem.W.findIn K (.ref C) "__getattr__" = some none) (hd : PySem.W.hasDictIn K C = true)
    (ha : PySem.W.findIn K (.ref C) "__class__" = some (some (.builtin "object.__class__"))) (hn : PySem.W.specialIn K (.builtin "object.__class__") "__get__" = some (some (.builtin "getset_descriptor.__get__")))
    (ht : PySem.W.takesIn K (.builtin "object.__class__") = some true) (hm : PySem.W.mroIn K C (.type "object") = some true) (i : PySem.W.isClsIn K C = true) : XCl K mg x C :=
  ⟨⟨PySem.W.mg_of X G a, k, b, t, hd, i⟩, q, ⟨hg, hk, b, hd, ha, hn, ht, hm⟩⟩
/-- isinstance of an own class -/
theorem kit_own {D : Addr} {r : Bool} (i : PySem.W.isClsIn K C = true) (t : PySem.W.typeIn K (.ref C) = some (.type "type")) (s : PySem.W.subIn K (.ref D) (.ref C) = some r) (hne : (Value.ref D == Value.ref C) = true → r = true) :
    PySem.W.kitOne K (.ref D) (.ref C) = some r := by
  unfold PySem.W.kitOne
  cases e : (Value.ref D == Value.ref C) with
  | true => rw [if_pos rfl, hne e]
  | false =>
    rw [if_neg Bool.false_ne_true]
    have h2 : ((PySem.W.clsIn K C).isSome && PySem.W.typeIn K (.ref C) == some (.type "type")) = true := by
      have h2' : (PySem.W.clsIn K C).isSome = true := i
      rw [h2', t] <;> rfl
    show (if ((PySem.W.clsIn K C).isSome && PySem.W.typeIn K (.ref C) == some (.type "type")) = true then PySem.W.subIn K (.ref D) (.ref C) else none) = some r
    rw [if_pos h2, s]
theorem kit_ve {D : Addr} (s : PySem.W.subIn K (.ref D) (.type "ValueError") = some true) : PySem.W.kitOne K (.ref D) (.type "ValueError") = some true := by
  have e : (Value.ref D == Value.type "ValueError") = false := rfl
  unfold PySem.W.kitOne
  rw [e, if_neg Bool.false_ne_true]
  show (if PySem.W.kitMeta "ValueError" = true then PySem.W.subIn K (.ref D) (.type "ValueError") else none) = some true
  rw [if_pos (by decide +kernel), s]
/-- except C takes an error of the class at D -/
theorem exm_own {D : Addr} {r : Bool} {y : Str} (c : XB K mg y C) (s : PySem.W.subIn K (.ref D) (.ref C) = some r) : PySem.W.exmOne K (.ref D) (.ref C) = some r := PySem.W.exm_ref c.b c.d c.t s
/-! ### the facts of the top -/
theorem dn_mk {st : Stmt} {ps : List Str} {f : Addr} {oc : Value} {od an : Option Addr} {osl : Array (Option Value)} {kV doc pm cdv ct : Value} (X : K.In h) (G : h.Ns mainGlobals mg) (a : PySem.W.nsIn K mainGlobals x = some (some (.ref f)))
    (l : K.lookup f = some ⟨oc, od, .func (PySem.W.fnOf x x (defArgs st) (defBody st) (defScope st) .none kV doc pm an cdv ct), osl⟩) (c : PySem.W.codeIn K cdv x = true) (k : PySem.W.keepIn K (.ref f) = true)
    (hb : ∀ (kV doc pm : Value) (an : Option Addr) (cdv ct : Value) (us : List Value), us.length = ps.length → bindArgs (PySem.W.fnOf x x (defArgs st) (defBody st) (defScope st) .none kV doc pm an cdv ct) ⟨us, []⟩ = pure (ps.zip us)) : Dn K mg x st ps :=
  ⟨f, _, fun_mk l c k, PySem.W.mg_of X G a, (fun_mk l c k).binds hb⟩
theorem cv_int {i : Int} {t : Tok} (X : K.In h) (G : h.Ns mainGlobals mg) (a : PySem.W.nsIn K mainGlobals x = some (some (.int i t))) : CV mg x (.int i) := ⟨_, PySem.W.mg_of X G a, _, rfl⟩
theorem cv_str {i : Str} {t : Tok} (X : K.In h) (G : h.Ns mainGlobals mg) (a : PySem.W.nsIn K mainGlobals x = some (some (.str i t))) : CV mg x (.str i) := ⟨_, PySem.W.mg_of X G a, _, rfl⟩
theorem cv_bl {i : Bool} (X : K.In h) (G : h.Ns mainGlobals mg) (a : PySem.W.nsIn K mainGlobals x = some (some (.bool i))) : CV mg x (.bl i) := ⟨_, PySem.W.mg_of X G a, rfl⟩
/-- the name x of the module holds a tuple of the written part -/
def CT (K : PySem.W.Frag) (mg : Str → Option Value) (x : Str) (xs : List V) : Prop := ∃ p, mg x = some (.ref p) ∧ ∀ H, SqT K H p xs
theorem ct_mk {p : Addr} {od : Option Addr} {its : Array Value} {n : Nat} {sl : Array (Option Value)} {xs : List V} (X : K.In h) (G : h.Ns mainGlobals mg) (a : PySem.W.nsIn K mainGlobals x = some (some (.ref p)))
    (l : K.lookup p = some ⟨.type "tuple", od, .seq its n, sl⟩) (hs : its.size ≤ sizeLine) (hv : Vals xs its.toList) : CT K mg x xs :=
  ⟨p, PySem.W.mg_of X G a, fun _ => .inr ⟨_, its, n, l, rfl, rfl, hs, hv⟩⟩
end
theorem pe_globT {X : Cx} {x : Str} {xs : List V} {pos : Pos} (hg : Gl X x) (h : CT X.K X.mg x xs) (hd : (x == ("__debug__" : Str)) = false := by decide) :
    PE X (.Name x pos) (fun _ H Q => ∀ p, (∀ H', SqT X.K H' p xs) → Q (.ref p) H) := by
  obtain ⟨p, hm, hs⟩ := h
  exact ⟨fun pins s σ H Q I h => (pe_glob hg hm (v := .ref p) rfl hd).run pins s σ H Q I (h p hs)⟩
/-! ### a suite that is read for known errors alone -/
theorem pss_guard {X : Cx} {st : List Stmt} {p : Prop} {t : TS} (h : p → PSs X st t) : PSs X st (fun D σ H => p ∧ t D σ H) :=
  ⟨fun pins s σ H D I q => (h q.1).run pins s σ H D I q.2⟩
theorem to_true {Q : VK} {b : Bool} {H : Hp} (h : b = true) (q : Q (.bl true) H) : Q (.bl b) H := h ▸ q
/-- a new object at p stays the only one that changes -/
theorem same_new {H H' : Hp} {p : Addr} {o : HO} (e : Same H H') (hp : H p = none) : Same H (upd H' p o) := Evl.Ex.mut e hp
theorem same_upd {H : Hp} {p : Addr} {o : HO} (hp : H p = none) : Same H (upd H p o) := Evl.Ex.new hp
theorem tyx_list {K : PySem.W.Frag} {H : Hp} {a : Addr} {xs : List V} (h : SqL K H a xs) : TyX K H (.ref a) (.type "list") := by
  rcases h with (h | ⟨o, h⟩) | ⟨o, its, n, h, hc, _⟩
  · exact .base (.lst h)
  · exact .base (.frz h)
  · exact .kList h hc
theorem tyx_tuple {K : PySem.W.Frag} {H : Hp} {a : Addr} {xs : List V} (h : SqT K H a xs) : TyX K H (.ref a) (.type "tuple") := by
  rcases h with (h | ⟨o, h⟩) | ⟨o, its, n, h, hc, _⟩
  · exact .base (.tup h)
  · exact .fTuple h
  · exact .kTuple h hc
theorem small {n : Nat} (h : n ≤ 100000) : n < sizeLine := Nat.lt_of_le_of_lt h (by decide)
theorem smallE {n : Nat} (h : n ≤ 100000) : n ≤ sizeLine := Nat.le_trans h (by decide)
/-- for .. in enumerate(list) -/
theorem for_enum {K : PySem.W.Frag} {a : Addr} {xs : List V} {g : TG} {tb : TS} {D : Ends} {σ : L2.St} {H : Hp} (Pv : Nat → L2.St → Hp → Prop) (h0 : Pv 0 σ H) (hl : ∀ i σ H, i ≤ xs.length → Pv i σ H → SqL K H a xs)
    (hs : ∀ i x T σ H, xs[i]? = some x → Pv i σ H → H T = none → g (.ref T) σ (upd H T (.tup [.int (i : Nat), x])) fun σ2 H2 => tb { D with nx := Pv (i + 1), ct := Pv (i + 1), bk := D.nx } σ2 H2) (hd : ∀ σ H, Pv xs.length σ H → D.nx σ H) :
    ∃ W : Nat → Nat → L2.St → Hp → Prop, (∃ m, W 0 m σ H) ∧ ∀ i m σ H, W i m σ H →
      ((Ite K a).stop i H ∧ D.nx σ H) ∨ ((Ite K a).go i H ∧ ∃ N : L2.St → Hp → Prop, (∀ σ' H', N σ' H' → ∃ m', m' < m ∧ W (i + 1) m' σ' H') ∧ ∀ x H', (Ite K a).yld i H x H' → g x σ H' fun σ2 H2 => tb { D with nx := N, ct := N, bk := D.nx } σ2 H2) := by
  refine ⟨fun i m σ H => m = xs.length - i ∧ i ≤ xs.length ∧ Pv i σ H, ⟨xs.length, by simp, Nat.zero_le _, h0⟩, ?_⟩
  rintro i m σ H ⟨rfl, hi, p⟩
  have q := hl i σ H hi p
  by_cases hlt : i < xs.length
  · refine .inr ⟨⟨xs, xs[i], q, by simp [hlt]⟩, Pv (i + 1), fun σ' H' p' => ⟨xs.length - (i + 1), by omega, rfl, hlt, p'⟩, fun x H' y => ?_⟩
    obtain ⟨T, z, rfl, hT, rfl, y⟩ := y
    exact hs i z T σ H (y xs q) p hT
  · have e : i = xs.length := by omega
    subst e
    exact .inl ⟨⟨xs, q, Nat.le_refl _⟩, hd σ H p⟩
/-- an item of a list by a number that is told -/
theorem at_nat {α : Type} {xs : List α} {i : Int} {j : Nat} {v : α} (e : i = (j : Int)) (h : xs[j]? = some v) : atI xs i = some v := e ▸ atI_nat h
theorem ix_nat {n j : Nat} {i : Int} (e : i = (j : Int)) (h : j < n) : ixN n i = some j := e ▸ Evl.ixN_nat h
/-! ### rules whose reading names the written part by itself (for the bodies and suites of a try) -/
def rLenK (K : PySem.W.Frag) : List V → Hp → VK → Prop := fun xs H Q => ∃ p ys, xs = [.ref p] ∧ (SqL K H p ys ∨ SqT K H p ys) ∧ Q (.int ys.length) H
theorem call_lenK {X : Cx} {K : PySem.W.Frag} (h : X.K = K := by rfl) : CallR X (.builtin "len") (rLenK K) := by
  subst h
  exact call_len_seq
theorem op_eqDK {X : Cx} {K : PySem.W.Frag} (hu : X.A.units + 64 < cLine) (h : X.K = K := by rfl) : OpR X (compareOp .Eq) (rEqD K) := by
  subst h
  exact op_eqD hu
theorem op_neDK {X : Cx} {K : PySem.W.Frag} (hu : X.A.units + 64 < cLine) (h : X.K = K := by rfl) : OpR X (compareOp .NotEq) (rNeD K) := by
  subst h
  exact op_neD hu
theorem call_isiK' {X : Cx} {K : PySem.W.Frag} (h : X.K = K := by rfl) : CallR X (.builtin "isinstance") (rIsi K) := by
  subst h
  exact call_isi
def rListK (K : PySem.W.Frag) : List V → Hp → VK → Prop := fun xs H Q => ∃ p ys, xs = [.ref p] ∧ (SqL K H p ys ∨ SqT K H p ys) ∧ ∀ l, H l = none → Q (.ref l) (upd H l (.lst ys))
theorem call_list_ofK {X : Cx} {K : PySem.W.Frag} (h : X.K = K := by rfl) : CallR X (.type "list") (rListK K) := by
  subst h
  exact call_list_of
theorem sl_listK {X : Cx} {K : PySem.W.Frag} (h : X.K = K := by rfl) : SlR X (rSlL K) := by
  subst h
  exact sl_list
/-! ### slices -/
theorem sIx_nat {n k : Nat} (d : Nat) (h : k ≤ n) : HT.sIx n d (some (k : Int)) = k := by
  simp only [HT.sIx]
  split <;> omega
theorem cut_to {xs : List V} {k : Nat} (h : k ≤ xs.length) : cutV xs none (some (k : Int)) = xs.take k := by
  unfold cutV
  rw [sIx_nat _ h]
  simp [HT.sIx]
theorem cut_from {xs : List V} {k : Nat} (h : k ≤ xs.length) : cutV xs (some (k : Int)) none = xs.drop k := by
  unfold cutV
  rw [sIx_nat _ h]
  simp only [HT.sIx]
  rw [List.take_of_length_le (by rw [List.length_drop]; omega)]
theorem cut_mid {xs : List V} {j k : Nat} (h1 : j ≤ k) (h : k ≤ xs.length) : cutV xs (some (j : Int)) (some (k : Int)) = (xs.drop j).take (k - j) := by
  unfold cutV
  rw [sIx_nat _ h, sIx_nat _ (Nat.le_trans h1 h)]
/-! ### data -/
mutual
theorem dp_mono {K : PySem.W.Frag} {H H' : Hp} (e : Same H H') : ∀ {d : PyData} {v : V}, Dp K H v d → Dp K H' v d
  | _, _, .non => .non
  | _, _, .bl b => .bl b
  | _, _, .int i => .int i
  | _, _, .str x => .str x
  | _, _, .lst h r => .lst (e.seq h) (dpAll_mono e r)
  | _, _, .tup h r => .tup (Evl.ex_t e h) (dpAll_mono e r)
theorem dpAll_mono {K : PySem.W.Frag} {H H' : Hp} (e : Same H H') : ∀ {ds : List PyData} {vs : List V}, DpAll K H vs ds → DpAll K H' vs ds
  | _, _, .nil => .nil
  | _, _, .cons h r => .cons (dp_mono e h) (dpAll_mono e r)
end
theorem dp_ints {K : PySem.W.Frag} {H : Hp} : ∀ (ns : List Int), DpAll K H (ns.map V.int) (ns.map PyData.int)
  | [] => .nil
  | n :: ns => .cons (.int n) (dp_ints ns)
theorem canLayAll_ints : ∀ (ns : List Int), PyData.canLayAll0 (ns.map PyData.int) = true
  | [] => rfl
  | n :: ns => by simp [PyData.canLayAll0, PyData.canLay0, canLayAll_ints ns]
theorem depthAll_ints : ∀ (ns : List Int), PyData.depthAll (ns.map PyData.int) = 0
  | [] => rfl
  | n :: ns => by simp [PyData.depthAll, PyData.depth, depthAll_ints ns]
theorem shaped_ints (ns : List Int) : SeqAt.shaped (.list (ns.map PyData.int)) = true := by
  simp [SeqAt.shaped, PyData.canLay0, PyData.depth, canLayAll_ints, depthAll_ints]
theorem eqvAll_ints : ∀ (ns ms : List Int), PyData.eqvAll (ns.map PyData.int) (ms.map PyData.int) = decide (ns = ms)
  | [], [] => by simp [PyData.eqvAll]
  | [], m :: ms => by simp [PyData.eqvAll]
  | n :: ns, [] => by simp [PyData.eqvAll]
  | n :: ns, m :: ms => by
    by_cases h : n = m <;> simp [PyData.eqvAll, PyData.eqv, eqvAll_ints ns ms, h]
theorem eqv_ints (ns ms : List Int) : PyData.eqv (.list (ns.map PyData.int)) (.list (ms.map PyData.int)) = decide (ns = ms) := by
  rw [PyData.eqv]
  exact eqvAll_ints ns ms
theorem shaped_pair (as bs : List Int) : SeqAt.shaped (.tuple [.list (as.map PyData.int), .list (bs.map PyData.int)]) = true := by
  simp [SeqAt.shaped, PyData.canLay0, PyData.canLayAll0, PyData.depth, PyData.depthAll, canLayAll_ints, depthAll_ints]
theorem eqv_refl' {d : PyData} (h : SeqAt.shaped d = true) : PyData.eqv d d = true := SeqAt.eqv_refl _ (SeqAt.canLay_of_shaped h)
theorem dp_list {K : PySem.W.Frag} {H : Hp} {a : Addr} {ns : List Int} (h : SqL K H a (ns.map V.int)) : Dp K H (.ref a) (.list (ns.map PyData.int)) := .lst h (dp_ints ns)
theorem get_ints {ns : List Int} {i : Nat} {y : V} (h : (ns.map V.int)[i]? = some y) : ∃ (hi : i < ns.length), y = V.int ns[i] := by
  rw [List.getElem?_map] at h
  by_cases hi : i < ns.length
  · rw [List.getElem?_eq_getElem hi] at h
    exact ⟨hi, (Option.some.inj h).symm⟩
  · rw [List.getElem?_eq_none (Nat.le_of_not_lt hi)] at h
    cases h
theorem take_snoc {α : Type} {l : List α} {i : Nat} (hi : i < l.length) : l.take (i + 1) = l.take i ++ [l[i]] := by
  rw [List.take_add_one, List.getElem?_eq_getElem hi]
  rfl
/-! ### the script's cells -/
def cell (ns : List Int) (k : Nat) : Int := ns.getD k 0
theorem cell_in {ns : List Int} {k : Nat} (hk : k < ns.length) : cell ns k = ns[k] := by simp [cell, List.getD_eq_getElem?_getD, List.getElem?_eq_getElem hk]
theorem cell_out {ns : List Int} {k : Nat} (hk : ¬ k < ns.length) : cell ns k = 0 := by simp [cell, List.getD_eq_getElem?_getD, List.getElem?_eq_none (Nat.le_of_not_lt hk)]
end Cm

/-! ### a generator expression that is used up at once: its body is read in a frame of its own, over the maker's abstract heap -/
namespace GX
open PySem PySem.Spec PyProof.Rows L2 Cm
open Sem (wp)
/-- the names of the generator's frame: the maker's slots, then more -/
abbrev gEnv (X : Cx) (scope : Scope) (C : Addr) (code : Value) : Env := genEnv scope (cloFrom X.env.cells scope.names []) C code builtinsNs X.env
/-- where the generator's body stands: entered at s4 -/
def gCx (X : Cx) (scope : Scope) (code : Value) (fp : List Addr) (s4 : Shared) (H4 : Hp) (B : Around) (ext : List Str) : Cx where
  prog := X.prog
  w := X.w
  K := X.K
  mg := X.mg
  base := X.base
  A := B
  N := X.N ++ ext
  s_0 := s4
  H_0 := H4
  env := gEnv X scope s4.heap.objs.size code
  outer := X.stack
  stack := gEnv X scope s4.heap.objs.size code :: X.stack
  ex := fp
  fn := fun _ => false
  calm := true
  pn := []
  xe := fun _ _ => False
/-- the slots that the body begins with -/
def gS (σ : L2.St) (own : List (Str × Nat)) (ext : List Str) : L2.St := wipe (σ ++ ext.map fun _ => none) (own.map (·.2))
/-- what the text of the expression has -/
structure GOk (N : List Str) (sc scope : Scope) (own : List (Str × Nat)) (ext : List Str) : Prop where
  nd : (N ++ ext).Nodup
  blk : BlkOk (N ++ ext) sc scope own
  co : scope.isCoroutine = false
  cell : ∀ y ∈ scope.names, y.2 ≠ .cell
  dot : scope.names.lookup (".0" : Str) = some NameKind.local
theorem wipe_keeps {σ : L2.St} : ∀ {vs : List Nat} {i : Nat} {v : V}, (wipe σ vs)[i]? = some (some v) → σ[i]? = some (some v) ∧ i ∉ vs
  | [], _, _, h => ⟨h, by simp⟩
  | j :: vs, i, v, h => by
    rw [wipe] at h
    by_cases e : j = i
    · subst e
      rw [List.getElem?_set_self'] at h
      cases q : (wipe σ vs)[j]? with
      | none => rw [q] at h; cases h
      | some u => rw [q] at h; cases h
    · rw [List.getElem?_set_ne e] at h
      obtain ⟨a, b⟩ := wipe_keeps h
      exact ⟨a, by simp only [List.mem_cons, not_or]; exact ⟨fun z => e z.symm, b⟩⟩
section
variable {X : Cx} {pins : List (Addr × Obj)} {σ : L2.St} {H4 H : Hp} {s4 s : Shared} {scope : Scope} {own : List (Str × Nat)} {ext : List Str} {code : Value} {fp : List Addr} {B : Around}
theorem cells_of (ok : ∀ y ∈ scope.names, y.2 = .free → ∃ c, X.env.cells.lookup y.1 = some c) {y : Str} {c : Addr} (e : (cloFrom X.env.cells scope.names []).lookup y = some c) : X.env.cells.lookup y = some c := by
  rcases cloFrom_mem (PySem.mem_of_lookup e) with q | ⟨q, r⟩
  · cases q
  · obtain ⟨c1, hc⟩ := ok _ q rfl
    have hc' : X.env.cells.lookup y = some c1 := hc
    rw [hc'] at r
    rw [hc', r]
    rfl
theorem cells_to {y : Str} (hl : scope.names.lookup y = some .free) : ∃ c, (cloFrom X.env.cells scope.names []).lookup y = some c :=
  mem_lookup (cloFrom_has (cells := X.env.cells) (acc := []) (PySem.mem_of_lookup hl))
theorem free_cells (I : Inv X pins σ H4 s4) (G : GOk X.N X.env.scope scope own ext) : ∀ y ∈ scope.names, y.2 = .free → ∃ c, X.env.cells.lookup y.1 = some c := fun y hy e => by
  rcases G.blk.free y hy e with k | k
  · exact I.ok.has _ (.inl k)
  · exact I.ok.has _ (.inr k)
/-- the body's frame over the maker's heap, at any later state -/
theorem gx_inv (I : Inv X pins σ H4 s4) (G : GOk X.N X.env.scope scope own ext) (hf : ∀ b ∈ fp, FpOk X pins H4 b) (hB : B.frames = some (gEnv X scope s4.heap.objs.size code :: X.stack)) (hh : B.handled = none)
    (os : s.os = s4.os) (bare : AllBare s.gens) (un : Un (frs X.stack) fp H4 H s4.heap s.heap) (hok : HOk X.prog X.w H s.heap) (hns : ∃ m, s.heap.Ns s4.heap.objs.size m) (hC : H s4.heap.objs.size = none) (lt : ∀ b ∈ fp, b < s4.heap.objs.size)
    {ps : List (Addr × Obj)} (hps : ∀ p ∈ ps, s.heap.get? p.1 = some p.2 ∧ H p.1 = none ∧ p.1 ≠ s4.heap.objs.size ∧ p.1 ∉ frs X.stack ∧ ∀ v, p.2.data ≠ .cell v) :
    Inv (gCx X scope code fp s4 H4 B ext) ps (gS σ own ext) H s := by
  have fc := free_cells I G
  have cm : ∀ {y c}, (cloFrom X.env.cells scope.names []).lookup y = some c → X.env.cells.lookup y = some c := fun {y c} e => cells_of fc e
  have e0 := I.env0
  have nfp : ∀ {y c}, X.env.cells.lookup y = some c → c ∉ fp := fun {y c} e z => (hf c z).2.2.2.2.1 y c e rfl
  have cellK : ∀ {y c v}, X.env.cells.lookup y = some c → s4.heap.IsCell c v → s.heap.IsCell c v := fun {y c v} e ⟨o, ho, hd⟩ => by
    obtain ⟨sl, q⟩ := un.any ho (I.freeC y c e) (nfp e)
    exact ⟨_, q, hd⟩
  have hfp : ∀ b ∈ fp, b ∉ frs X.stack := fun b hb z => by
    rcases List.mem_cons.mp (I.stkSub _ z) with e | e
    · exact (hf b hb).2.1 e
    · exact (hf b hb).2.2.1 e
  have hbase : ∀ b o, X.base.get? b = some o → b ∉ fp := fun b o e z => by
    rcases (hf b z).2.2.2.1 with q | q
    · exact I.ok.noex b o e q
    · exact absurd (Nat.lt_of_lt_of_le (Heap.lt_size e) (Nat.le_trans I.ok.bsz q)) (Nat.lt_irrefl _)
  obtain ⟨m, hm⟩ := hns
  refine ⟨⟨e0.mod, G.blk.kind, I.ok.glob, rfl, Nat.le_refl _, fun y z c e1 e2 => I.ok.inj y z c (cm e1) (cm e2), fun y hy => ?_, fun _ _ z _ => ?_, fun _ => hh, hB, .inr ⟨rfl, rfl⟩, fun b hb => ⟨Nat.ne_of_lt (lt b hb), fun y c e => fun z => nfp (cm e) (z ▸ hb)⟩, e0.bs, e0.bsz, hbase, hfp, e0.funs, e0.frf⟩,
    os, bare, un, ⟨m, hm, fun i y v e1 e2 e3 => ?_⟩, fun y c e => ?_, hC, fun y c e => ?_, fun q hq => ?_, hok, ?_⟩
  · have hy' : scope.names.lookup y = some .cell ∨ scope.names.lookup y = some .free := hy
    rcases hy' with hy' | hy'
    · exact absurd rfl (G.cell _ (PySem.mem_of_lookup hy'))
    · exact cells_to hy'
  · exact absurd (show false = true from z) (by decide)
  · have e1' : (X.N ++ ext)[i]? = some y := e1
    obtain ⟨q1, q2⟩ := wipe_keeps e2
    have e3' : Vis scope y := e3
    have own_no : scope.names.lookup y = some .local ∨ scope.names.lookup y = some .cell → False := fun k => by
      have hy : (y, NameKind.local) ∈ scope.names ∨ (y, NameKind.cell) ∈ scope.names := k.elim (fun k => .inl (PySem.mem_of_lookup k)) fun k => .inr (PySem.mem_of_lookup k)
      have own_or : y ∈ own.map (·.1) ∨ y ∉ X.N ++ ext := hy.elim (fun k => G.blk.own _ k (.inl rfl)) fun k => G.blk.own _ k (.inr rfl)
      rcases own_or with z | z
      · obtain ⟨p, hp, ep⟩ := List.mem_map.mp z
        have ei := G.blk.ix p hp
        rw [ep] at ei
        have : p.2 = i := nodup_ix G.nd ei e1'
        exact q2 (List.mem_map.mpr ⟨p, hp, this⟩)
      · exact z (List.mem_of_getElem? e1')
    have hfree : scope.names.lookup y = some .free := by
      rcases e3' with k | k | k
      · exact (own_no (.inl k)).elim
      · exact (own_no (.inr k)).elim
      · exact k
    have hi : i < σ.length := by
      by_cases hi : i < σ.length
      · exact hi
      · rw [List.getElem?_append_right (Nat.le_of_not_lt hi), List.getElem?_map] at q1
        cases q : ext[i - σ.length]? with
        | none => rw [q] at q1; cases q1
        | some u => rw [q] at q1; cases q1
    rw [List.getElem?_append_left hi] at q1
    rw [List.getElem?_append_left (by rw [← I.len]; exact hi)] at e1'
    have sck := G.blk.free _ (PySem.mem_of_lookup hfree) rfl
    obtain ⟨m2, _, hl⟩ := I.loc
    obtain ⟨u, ru, lk⟩ := hl i y v e1' q1 (sck.elim (fun k => .inr (.inl k)) fun k => .inr (.inr k))
    obtain ⟨c2, h2⟩ := cells_to (X := X) hfree
    refine ⟨u, ru, .inr ⟨.inr hfree, c2, h2, ?_⟩⟩
    rcases lk with ⟨k', _⟩ | ⟨_, c3, e', z⟩
    · have k' : X.env.scope.names.lookup y = some .local := k'
      rcases sck with k2 | k2 <;> rw [show X.env.scope.names.lookup y = _ from k2] at k' <;> cases k'
    · rw [cm h2] at e'
      cases e'
      exact cellK (cm h2) z
  · obtain ⟨v, z⟩ := I.cell y c (cm e)
    exact ⟨v, cellK (cm e) z⟩
  · obtain ⟨v, o, ho, hd⟩ := I.cell y c (cm e)
    exact un.free c o ho (I.freeC y c (cm e)) (nfp (cm e))
  · exact hps q (by simpa [gCx] using hq)
  · show (wipe _ _).length = _
    rw [wipe_length, List.length_append, List.length_map]
    show _ = (X.N ++ ext).length
    rw [List.length_append, I.len]
end
/-- what holds while the generator is awake or asleep; sx: what its consumer writes meanwhile -/
structure CO (X : Cx) (fp sx : List Addr) (s4 : Shared) (H4 H : Hp) (s : Shared) : Prop where
  os : s.os = s4.os
  bare : AllBare s.gens
  un : Un (frs X.stack) fp H4 H s4.heap s.heap
  hok : HOk X.prog X.w H s.heap
  ns : ∃ m, s.heap.Ns s4.heap.objs.size m
  free : H s4.heap.objs.size = none
  fr : ∀ b ∈ fp, H b = none
  sx : ∀ b ∈ sx, (∃ o, s.heap.get? b = some o ∧ ∀ v, o.data ≠ .cell v) ∧ H b = none ∧ b ≠ s4.heap.objs.size ∧ b ∉ frs X.stack ∧ b ∉ fp ∧ s4.heap.get? b = none
/-- what the consumer does while the generator sleeps -/
structure Kp (sx : List Addr) (s s' : Shared) : Prop where
  os : s'.os = s.os
  bare : AllBare s'.gens
  keep : ∀ b o, b ∉ sx → s.heap.get? b = some o → s'.heap.get? b = some o
  own : ∀ b ∈ sx, ∃ o, s'.heap.get? b = some o ∧ ∀ v, o.data ≠ .cell v
theorem CO.kp {X : Cx} {fp sx : List Addr} {s4 s s' : Shared} {H4 H : Hp} (h : CO X fp sx s4 H4 H s) (k : Kp sx s s') : CO X fp sx s4 H4 H s' := by
  have n4 : ∀ b o, s4.heap.get? b = some o → b ∉ sx := fun b o e z => by
    rw [(h.sx b z).2.2.2.2.2] at e
    cases e
  have nH : ∀ b u, H b = some u → b ∉ sx := fun b u e z => by
    rw [(h.sx b z).2.1] at e
    cases e
  refine ⟨k.os.trans h.os, k.bare, ⟨fun b o e n h1 h2 => k.keep b o (n4 b o e) (h.un.keep b o e n h1 h2), fun b o e n h1 h2 => ?_, h.un.free, fun b o e h2 => ?_, h.un.tups, h.un.frzs, h.un.tbls⟩, fun a o e => ?_, ?_, h.free, h.fr, fun b hb => ⟨k.own b hb, (h.sx b hb).2⟩⟩
  · obtain ⟨sl, q⟩ := h.un.slot b o e n h1 h2
    exact ⟨sl, k.keep b _ (n4 b o e) q⟩
  · obtain ⟨o', q⟩ := h.un.there b o e h2
    exact ⟨o', k.keep b _ (n4 b o e) q⟩
  · refine (h.hok a o e).stay (fun b u hb q => k.keep b u ?_ q) (fun _ z => z) fun _ _ z => z
    rcases hb with z | z
    · exact z ▸ nH a o e
    · exact nH b _ z
  · obtain ⟨m, o, es, ep, ho, r⟩ := h.ns
    exact ⟨m, o, es, ep, k.keep _ _ (fun z => (h.sx _ z).2.2.1 rfl) ho, r⟩
/-- all that does not change of a generator -/
structure GSt (X : Cx) (pins : List (Addr × Obj)) (σ : L2.St) (scope : Scope) (own : List (Str × Nat)) (ext : List Str) (tg : Expr) (code : Value) (H4 : Hp) (s4 : Shared) (J : It) (fp : List Addr) (it : Addr) (tn : Nat → Heap → Prop) : Prop where
  inv : Inv X pins σ H4 s4
  ok : GOk X.N X.env.scope scope own ext
  turn : Turn X.prog X.w X.K tg J fp it tn
  fpo : ∀ b ∈ fp, FpOk X pins H4 b
  lt : ∀ b ∈ fp, b < s4.heap.objs.size
section
variable {X : Cx} {pins : List (Addr × Obj)} {σ : L2.St} {H4 : Hp} {s4 : Shared} {scope : Scope} {own : List (Str × Nat)} {ext : List Str} {tg elt iter : Expr} {code : Value} {fp sx : List Addr} {J : It} {it : Addr} {tn : Nat → Heap → Prop} {pos : Pos}
/-- the loop's code -/
abbrev gLoop (X : Cx) (tg elt iter : Expr) (scope : Scope) (pos : Pos) (it : Addr) (s4 : Shared) (code : Value) : Code :=
  .compLoop (.GeneratorExp elt [⟨tg, iter, [], 0⟩] scope pos) 0 (.ref it) .none (gEnv X scope s4.heap.objs.size code)
abbrev gFirst (X : Cx) (tg elt iter : Expr) (scope : Scope) (pos : Pos) (it : Addr) (s4 : Shared) (code : Value) : Code :=
  .compStart (.GeneratorExp elt [⟨tg, iter, [], 0⟩] scope pos) 0 (.ref it) .none (gEnv X scope s4.heap.objs.size code)
def gY (X : Cx) (fp sx : List Addr) (s4 : Shared) (H4 : Hp) (tn : Nat → Heap → Prop) (W : Nat → Nat → Hp → Prop) (Yd : Nat → Nat → V → Hp → Prop) : Protocol := fun n s0 v s kap =>
  ∃ (y : V) (i m : Nat) (H : Hp), RelV y v ∧ Yd i m y H ∧ CO X fp sx s4 H4 H s ∧ tn (i + 1) s.heap ∧ (∀ b ∈ sx, s.heap.get? b = s0.heap.get? b) ∧ m ≤ n ∧ ∀ m' s', m' < m → W (i + 1) m' H → Kp sx s s' → kap (.send .none) s'
def gE (X : Cx) (fp sx : List Addr) (s4 : Shared) (H4 : Hp) (Dn : Hp → Prop) : Nat → Shared → Shared → Prop := fun _ s0 s => ∃ H, Dn H ∧ CO X fp sx s4 H4 H s ∧ ∀ b ∈ sx, s.heap.get? b = s0.heap.get? b
theorem CO.inv {H : Hp} {s : Shared} {B : Around} (S : GSt X pins σ scope own ext tg code H4 s4 J fp it tn) (h : CO X fp sx s4 H4 H s) (hB : B.frames = some (gEnv X scope s4.heap.objs.size code :: X.stack)) (hh : B.handled = none) :
    Inv (gCx X scope code fp s4 H4 B ext) (pinsAt sx s.heap) (gS σ own ext) H s := by
  refine gx_inv S.inv S.ok S.fpo hB hh h.os h.bare h.un h.hok h.ns h.free S.lt fun p hp => ?_
  obtain ⟨hb, e⟩ := of_pinsAt hp
  obtain ⟨⟨o, e', d⟩, h2, h3, h4, _⟩ := h.sx p.1 hb
  rw [e] at e'
  cases e'
  exact ⟨e, h2, h3, h4, d⟩
theorem CO.of_inv {H H' : Hp} {s s' : Shared} {B : Around} {σ' : L2.St} (h : CO X fp sx s4 H4 H s) (I : Inv (gCx X scope code fp s4 H4 B ext) (pinsAt sx s.heap) σ' H' s') (hf : ∀ b ∈ fp, H' b = none) : CO X fp sx s4 H4 H' s' ∧ ∀ b ∈ sx, s'.heap.get? b = s.heap.get? b := by
  have pin : ∀ b ∈ sx, ∀ o, s.heap.get? b = some o → s'.heap.get? b = some o ∧ H' b = none := fun b hb o e => by
    have z := I.pin (b, o) (List.mem_append_right _ (mem_pinsAt hb e))
    exact ⟨z.1, z.2.1⟩
  refine ⟨⟨I.os, I.bare, I.base, I.hok, ?_, I.free, hf, fun b hb => ?_⟩, fun b hb => ?_⟩
  · obtain ⟨m, hm, _⟩ := I.loc
    exact ⟨m, hm⟩
  · obtain ⟨⟨o, e, d⟩, h2, h3⟩ := h.sx b hb
    obtain ⟨p1, p2⟩ := pin b hb o e
    exact ⟨⟨o, p1, d⟩, p2, h3⟩
  · obtain ⟨⟨o, e, d⟩, _⟩ := h.sx b hb
    rw [e, (pin b hb o e).1]
theorem seg_loop {Ag : Around} (S : GSt X pins σ scope own ext tg code H4 s4 J fp it tn) (hfr : Ag.frames = some X.stack) (hh : Ag.handled = none) {g : TG} {te : TE}
    (hg : PG (gCx X scope code fp s4 H4 (Ag.over (gLoop X tg elt iter scope pos it s4 code) []) ext) tg g) (he : PE (gCx X scope code fp s4 H4 (Ag.over (gLoop X tg elt iter scope pos it s4 code) []) ext) elt te)
    (W : Nat → Nat → Hp → Prop) (Dn : Hp → Prop) (Yd : Nat → Nat → V → Hp → Prop)
    (turn : ∀ i m H, W i m H → (J.stop i H ∧ Dn H) ∨ (J.go i H ∧ ∃ Yn : V → Hp → Prop, (∀ v H3, Yn v H3 → Yd i m v H3) ∧ ∀ x H', J.yld i H x H' → g x (gS σ own ext) H' fun σ2 H2 => te σ2 H2 Yn)) :
    ∀ n i m H s, m < n → W i m H → CO X fp sx s4 H4 H s → tn i s.heap →
      Seg (model X.prog X.w) Ag (fun n s0 r s1 => r = .ok .next ∧ gE X fp sx s4 H4 Dn n s0 s1) (gY X fp sx s4 H4 tn W Yd) n s (gLoop X tg elt iter scope pos it s4 code) ((model X.prog X.w).den (gLoop X tg elt iter scope pos it s4 code)) [] s := by
  have hB : (Ag.over (gLoop X tg elt iter scope pos it s4 code) []).frames = some (gEnv X scope s4.heap.objs.size code :: X.stack) := by
    show pushEnvs [gEnv X scope s4.heap.objs.size code] (pushEnvs [] Ag.frames) = _
    rw [hfr]
    rfl
  have hBh : (Ag.over (gLoop X tg elt iter scope pos it s4 code) []).handled = none := hh
  intro n
  induction n with
  | zero => exact fun i m H s hm => absurd hm (Nat.not_lt_zero _)
  | succ n ih =>
    intro i m H s hm w0 h0 t0
    have I0 := CO.inv S h0 hB hBh
    have ff : ∀ {H' : Hp}, (∀ b ∈ fp, H' b = none) → ∀ b ∈ fp, FpOk (gCx X scope code fp s4 H4 (Ag.over (gLoop X tg elt iter scope pos it s4 code) []) ext) (pinsAt sx s.heap) H' b := fun hn b hb => by
      refine ⟨hn b hb, Nat.ne_of_lt (S.lt b hb), I0.ok.exfs b hb, .inl hb, (I0.ok.exf b hb).2, fun p hp z => ?_⟩
      have q := (of_pinsAt (show p ∈ pinsAt sx s.heap by simpa [gCx] using hp)).1
      exact (h0.sx p.1 q).2.2.2.2.1 (z ▸ hb)
    show Seg _ Ag _ _ _ s _ ((compTurn (.GeneratorExp elt [⟨tg, iter, [], 0⟩] scope pos) 0 (.ref it) .none (gEnv X scope s4.heap.objs.size code)).onRaise (leaving (gEnv X scope s4.heap.objs.size code))) [] s
    rw [compTurn_gen, Sem.onRaise_eq_wrap]
    refine seg_bind_wrap (wpAny_standAt ?_)
    rcases turn i m H w0 with ⟨stop, dn⟩ | ⟨go, Yn, hYn, step⟩
    · refine seg_bind_wrap (wpAny_mono (S.turn.done (gCx X scope code fp s4 H4 (Ag.over (gLoop X tg elt iter scope pos it s4 code) []) ext) rfl rfl rfl rfl i _ s _ H (fun _ _ => False) I0 (ff h0.fr) t0 stop) (fun r s1 hr => ?_) fun _ _ z => False.elim z)
      obtain ⟨rfl, I1⟩ := hr
      obtain ⟨c1, x1⟩ := h0.of_inv I1 h0.fr
      exact seg_end (.ok .next) ⟨rfl, H, dn, c1, x1⟩
    · refine seg_bind_wrap (wpAny_mono (S.turn.item (gCx X scope code fp s4 H4 (Ag.over (gLoop X tg elt iter scope pos it s4 code) []) ext) rfl rfl rfl rfl i _ s _ H (fun _ _ => False) I0 (ff h0.fr) t0 go) (fun r s1 hr => ?_) fun _ _ z => False.elim z)
      obtain ⟨u, rfl, h1⟩ := hr
      refine seg_bind_wrap (wpAny_mono h1 (fun _ s2 h2 => ?_) fun _ _ z => False.elim z)
      obtain ⟨x, H2, I2, rx, y2, t2, f2⟩ := h2
      have I2p := I2.pinned (ff f2) (S.turn.obj _ _ t2)
      refine seg_bind_wrap (wpAny_mono (hg.run _ s2 _ H2 x u _ I2p rx (step x H2 y2)) (fun _ s3 h3 => ?_) fun _ _ z => False.elim z)
      obtain ⟨σ3, H3, I3, q3⟩ := h3
      simp only [List.forIn_nil]
      refine seg_bind_wrap (wpAny_pure ?_)
      simp only [if_true]
      have hy : ∀ v, yieldOut (gEnv X scope s4.heap.objs.size code) v = yieldValue v := fun v => by
        have q : (gEnv X scope s4.heap.objs.size code).scope.isCoroutine = false := S.ok.co
        simp only [yieldOut, q, Bool.false_eq_true, if_false]
      simp only [hy]
      rw [Sem.bind_eq_wrap', Sem.bind_eq_wrap', Sem.wrap_wrap, Sem.wrap_wrap]
      refine seg_wrap (wpAny_mono (he.run _ s3 σ3 H3 _ I3 q3) (fun v s5 h5 => ?_) fun _ _ z => False.elim z)
      obtain ⟨y, H5, I5, ry, q5⟩ := h5
      have pf : ∀ b ∈ fp, ∀ o, s2.heap.get? b = some o → s5.heap.get? b = some o ∧ H5 b = none := fun b hb o e => by
        have z := I5.pin (b, o) (List.mem_append_right _ (List.mem_append_right _ (mem_pinsAt hb e)))
        exact ⟨z.1, z.2.1⟩
      have f5 : ∀ b ∈ fp, H5 b = none := fun b hb => by
        obtain ⟨o, e, _⟩ := S.turn.obj _ _ t2 b hb
        exact (pf b hb o e).2
      have t5 : tn (i + 1) s5.heap := S.turn.keep _ _ _ t2 fun b hb o e => (pf b hb o e).1
      obtain ⟨c5, x5⟩ := h0.of_inv I5.unpinned f5
      refine seg_at (seg_yield rfl rfl rfl ⟨y, i, m, H5, ry, hYn _ _ q5, c5, t5, x5, Nat.lt_succ_iff.mp hm, fun m' s' hm' w' kp => ?_⟩)
      refine seg_again rfl (ih (i + 1) m' H5 s' (Nat.lt_of_lt_of_le hm' (Nat.lt_succ_iff.mp hm)) w' (c5.kp kp) (S.turn.keep _ _ _ t5 fun b hb o e => kp.keep b o (fun z => (c5.sx b z).2.2.2.2.1 hb) e))
theorem seg_first {Ag : Around} (S : GSt X pins σ scope own ext tg code H4 s4 J fp it tn) (hh : Ag.handled = none) {R : GenEnd} {Y : Protocol} {n : Nat} {s0 s : Shared} (t0 : tn 0 s.heap)
    (loop : Seg (model X.prog X.w) Ag R Y n s0 (gLoop X tg elt iter scope pos it s4 code) ((model X.prog X.w).den (gLoop X tg elt iter scope pos it s4 code)) [] s) :
    Seg (model X.prog X.w) Ag R Y n s0 (gFirst X tg elt iter scope pos it s4 code) ((model X.prog X.w).den (gFirst X tg elt iter scope pos it s4 code)) [] s := by
  show Seg _ Ag _ _ _ s0 _ ((compStart (.GeneratorExp elt [⟨tg, iter, [], 0⟩] scope pos) 0 (.ref it) .none (gEnv X scope s4.heap.objs.size code)).onRaise (leaving (gEnv X scope s4.heap.objs.size code))) [] s
  unfold compStart
  rw [Sem.onRaise_eq_wrap]
  show Seg _ Ag _ _ _ s0 _ ((ask >>= _).wrap _ _ _ _) [] s
  refine seg_bind_wrap (wpAny_askSetting ?_)
  split
  · exact seg_again rfl loop
  · first
      | exact seg_bind_wrap (wpAny_rule (seg_bind_wrap (wpAny_standAt (seg_bind_wrap (S.turn.self _ 0 s _ _ t0 (seg_again rfl loop))))))
      | (refine seg_bind_wrap (wpAny_rule ?_); show Seg _ Ag _ _ _ s0 _ ((standAt iter.pos >>= _).wrap _ _ _ _) [] s; exact seg_bind_wrap (wpAny_standAt (seg_bind_wrap (S.turn.self _ 0 s _ _ t0 (seg_again rfl loop)))))
theorem lim_of {H : Hp} {s : Shared} (S : GSt X pins σ scope own ext tg code H4 s4 J fp it tn) (h : CO X fp sx s4 H4 H s) : s.heap.NoLimit := by
  refine S.inv.ok.mod.nolimit.keeps fun b o e => ?_
  obtain ⟨e1, e2⟩ := S.inv.bs b o e
  refine h.un.keep b o e1 e2 (fun z => ?_) fun z => ?_
  · have q := (S.inv.env0.funs.mem z).1
    rw [e] at q
    cases q
  · rcases (S.fpo b z).2.2.2.1 with q | q
    · exact S.inv.ok.noex b o e q
    · exact absurd (Nat.lt_of_lt_of_le (Heap.lt_size e) (Nat.le_trans S.inv.ok.bsz q)) (Nat.lt_irrefl _)
/-- the generator at ga, its state kept at gi, asleep; n: how often it may be woken -/
structure GA (X : Cx) (fp sx : List Addr) (s4 : Shared) (H4 : Hp) (tn : Nat → Heap → Prop) (W : Nat → Nat → Hp → Prop) (Dn : Hp → Prop) (Yd : Nat → Nat → V → Hp → Prop) (Ag : Around) (ga : Addr) (gi n : Nat) (s : Shared) : Prop where
  gen : s.heap.IsGen ga gi
  mem : ga ∈ sx
  co : ∃ H, CO X fp sx s4 H4 H s
  goes : ∃ gs, s.gens[gi]? = some gs ∧ ∀ s', Kp sx s s' → gs.Goes (model X.prog X.w) Ag (fun n s0 r s1 => r = .ok .next ∧ gE X fp sx s4 H4 Dn n s0 s1) (gY X fp sx s4 H4 tn W Yd) n (.send .none) s'
theorem AllBare.set {s : Shared} {g : Nat} {x : GenState} (h : AllBare s.gens) (hx : x.bare = true) : AllBare (s.setGen g x).gens := fun y hy => by
  obtain ⟨j, hj, e⟩ := Array.mem_iff_getElem.mp hy
  by_cases q : g = j
  · subst q
    simp [Shared.setGen] at e
    exact e ▸ hx
  · have hj' : j < s.gens.size := by simpa [Shared.setGen] using hj
    have e2 : y = s.gens[j] := by
      rw [← e]
      simp only [Shared.setGen]
      exact Array.getElem_setIfInBounds_ne hj' q
    rw [e2]
    exact h _ (Array.getElem_mem hj')
theorem CO.any {H : Hp} {s s' : Shared} (h : CO X fp sx s4 H4 H s) (os : s'.os = s.os) (bare : AllBare s'.gens) (k : ∀ b o, s.heap.get? b = some o → s'.heap.get? b = some o) : CO X fp sx s4 H4 H s' :=
  h.kp ⟨os, bare, fun b o _ e => k b o e, fun b hb => let ⟨⟨o, e, d⟩, _⟩ := h.sx b hb; ⟨o, k b o e, d⟩⟩
theorem gen_next {Ap : Around} {W : Nat → Nat → Hp → Prop} {Dn : Hp → Prop} {Yd : Nat → Nat → V → Hp → Prop} {ga : Addr} {gi n : Nat} {s : Shared} {E : Value → Shared → Prop} (S : GSt X pins σ scope own ext tg code H4 s4 J fp it tn) (hh : Ap.handled = none) (hd : Ap.depth < recursionLimit)
    (h : GA X fp sx s4 H4 tn W Dn Yd Ap.in1 ga gi (n + 1) s) :
    wpAny (model X.prog X.w) Ap (pyNext (.ref ga)) (fun r s1 => (r = none ∧ ∃ H, Dn H ∧ CO X fp sx s4 H4 H s1 ∧ ∀ b ∈ sx, s1.heap.get? b = s.heap.get? b) ∨
      ∃ v y i m H, r = some v ∧ RelV y v ∧ Yd i m y H ∧ CO X fp sx s4 H4 H s1 ∧ (∀ b ∈ sx, s1.heap.get? b = s.heap.get? b) ∧ m ≤ n ∧ ∀ m', m' < m → W (i + 1) m' H → GA X fp sx s4 H4 tn W Dn Yd Ap.in1 ga gi n s1) E s := by
  obtain ⟨hg, hm, ⟨H0, c0⟩, gs, hgs, hgo⟩ := h
  have hlt : gi + 1 ≤ s.gens.size := by
    by_cases q : gi < s.gens.size
    · exact q
    · rw [Array.getElem?_eq_none (Nat.le_of_not_lt q)] at hgs
      cases hgs
  refine GenW.wpAny_gsz hlt (wpAny_pyNext_genexpQ (P := gE X fp sx s4 H4 Dn) hh (lim_of S c0) hd hg hgs (hgo _ ⟨rfl, AllBare.set c0.bare rfl, fun _ _ _ e => e, fun b hb => (c0.sx b hb).1⟩) (fun v s1 gs' hb hy hsz => ?_) (fun s1 he h' hk _ => ?_))
  · obtain ⟨y, i, m, H, ry, yd, c1, t1, x1, hmn, hka⟩ := hy
    have c2 : CO X fp sx s4 H4 H (s1.setGen gi gs') := c1.any rfl (AllBare.set c1.bare hb) fun _ _ e => e
    refine .inr ⟨v, y, i, m, H, rfl, ry, yd, c2, x1, hmn, fun m' hm' w' => ⟨?_, hm, ⟨H, c2⟩, gs', ?_, fun s' kp => ?_⟩⟩
    · obtain ⟨o, nm, qn, ho, r⟩ := hg
      exact ⟨o, nm, qn, (x1 ga hm).trans ho, r⟩
    · have hsz2 : gi < s1.gens.size := by
        have q : (s1.setGen gi gs').gens.size = s1.gens.size := GenW.setGen_size _ _ _
        rw [q] at hsz
        exact hsz
      simp [Shared.setGen, hsz2]
    · exact hka m' s' hm' w' ⟨kp.os, kp.bare, kp.keep, kp.own⟩
  · obtain ⟨H, dn, c1, x1⟩ := he
    have c2 : CO X fp sx s4 H4 H { s1.setGen gi .finished with heap := h' } := c1.any rfl (AllBare.set c1.bare rfl) hk
    refine .inl ⟨rfl, H, dn, c2, fun b hb => ?_⟩
    obtain ⟨⟨o, e, _⟩, _⟩ := c1.sx b hb
    exact (hk b o e).trans (e.symm.trans (x1 b hb))
theorem any_walk {W : Nat → Nat → Hp → Prop} {QT QF : Hp → Prop} {ga : Addr} {gi : Nat} {R : Result → Shared → Prop} (S : GSt X pins σ scope own ext tg code H4 s4 J fp it tn) (hh : X.A.handled = none) (hd : X.A.depth < recursionLimit)
    (hR : ∀ (b : Bool) (H : Hp) (s' : Shared), (if b = true then QT H else QF H) → CO X fp sx s4 H4 H s' → R (.ok (.ret (.bool b))) s') :
    ∀ n s, GA X fp sx s4 H4 tn W QF (fun i m y H => ∃ b, y = V.bl b ∧ if b = true then QT H else ∃ m', m' < m ∧ W (i + 1) m' H) X.A.in1.in1 ga gi (n + 1) s → codeAny (model X.prog X.w) X.A (.builtin "any.loop" ⟨[.ref ga], []⟩) R s := by
  intro n
  induction n with
  | zero =>
    intro s h
    refine codeAny_builtin F.entry_any_loop ?_
    rw [Around.under_plainId F.plain_any_loop _]
    show wpAny _ X.A.in1 (pyNext (.ref ga) >>= _) _ _ s
    refine wpAny_bind (wpAny_mono (gen_next (E := fun _ _ => False) S hh hd h) (fun r s1 hr => ?_) fun _ _ z => False.elim z)
    rcases hr with ⟨rfl, H, dn, c1, _⟩ | ⟨v, y, i, m, H, rfl, ry, ⟨b, rfl, yd⟩, c1, _, hm, _⟩
    · exact wpAny_bind (wpAny_rule (wpAny_pure (hR false H s1 (iteF dn) c1)))
    · obtain rfl : v = Value.bool b := ry
      refine wpAny_bind (wpAny_holding (wpAny_truthy_bool (wpAny_bind (wpAny_letGo ?_))))
      cases b with
      | true => exact wpAny_bind (wpAny_rule (wpAny_pure (hR true H s1 yd c1)))
      | false =>
        obtain ⟨m', hm', _⟩ : ∃ m', m' < m ∧ W (i + 1) m' H := yd
        omega
  | succ n ih =>
    intro s h
    refine codeAny_builtin F.entry_any_loop ?_
    rw [Around.under_plainId F.plain_any_loop _]
    show wpAny _ X.A.in1 (pyNext (.ref ga) >>= _) _ _ s
    refine wpAny_bind (wpAny_mono (gen_next (E := fun _ _ => False) S hh hd h) (fun r s1 hr => ?_) fun _ _ z => False.elim z)
    rcases hr with ⟨rfl, H, dn, c1, _⟩ | ⟨v, y, i, m, H, rfl, ry, ⟨b, rfl, yd⟩, c1, _, hm, more⟩
    · exact wpAny_bind (wpAny_rule (wpAny_pure (hR false H s1 (iteF dn) c1)))
    · obtain rfl : v = Value.bool b := ry
      refine wpAny_bind (wpAny_holding (wpAny_truthy_bool (wpAny_bind (wpAny_letGo ?_))))
      cases b with
      | true => exact wpAny_bind (wpAny_rule (wpAny_pure (hR true H s1 yd c1)))
      | false =>
        obtain ⟨m', hm', w'⟩ : ∃ m', m' < m ∧ W (i + 1) m' H := yd
        exact wpAny_pure ⟨plainId_quiet F.plain_any_loop _, ih s1 (more m' hm' w')⟩
theorem all_walk {W : Nat → Nat → Hp → Prop} {QT QF : Hp → Prop} {ga : Addr} {gi : Nat} {R : Result → Shared → Prop} (S : GSt X pins σ scope own ext tg code H4 s4 J fp it tn) (hh : X.A.handled = none) (hd : X.A.depth < recursionLimit)
    (hR : ∀ (b : Bool) (H : Hp) (s' : Shared), (if b = true then QT H else QF H) → CO X fp sx s4 H4 H s' → R (.ok (.ret (.bool b))) s') :
    ∀ n s, GA X fp sx s4 H4 tn W QT (fun i m y H => ∃ b, y = V.bl b ∧ if b = false then QF H else ∃ m', m' < m ∧ W (i + 1) m' H) X.A.in1.in1 ga gi (n + 1) s → codeAny (model X.prog X.w) X.A (.builtin "all.loop" ⟨[.ref ga], []⟩) R s := by
  intro n
  induction n with
  | zero =>
    intro s h
    refine codeAny_builtin F.entry_all_loop ?_
    rw [Around.under_plainId F.plain_all_loop _]
    show wpAny _ X.A.in1 (pyNext (.ref ga) >>= _) _ _ s
    refine wpAny_bind (wpAny_mono (gen_next (E := fun _ _ => False) S hh hd h) (fun r s1 hr => ?_) fun _ _ z => False.elim z)
    rcases hr with ⟨rfl, H, dn, c1, _⟩ | ⟨v, y, i, m, H, rfl, ry, ⟨b, rfl, yd⟩, c1, _, hm, _⟩
    · exact wpAny_bind (wpAny_rule (wpAny_pure (hR true H s1 (iteT dn) c1)))
    · obtain rfl : v = Value.bool b := ry
      refine wpAny_bind (wpAny_holding (wpAny_truthy_bool (wpAny_bind (wpAny_letGo ?_))))
      cases b with
      | false => exact wpAny_bind (wpAny_rule (wpAny_pure (hR false H s1 yd c1)))
      | true =>
        obtain ⟨m', hm', _⟩ : ∃ m', m' < m ∧ W (i + 1) m' H := yd
        omega
  | succ n ih =>
    intro s h
    refine codeAny_builtin F.entry_all_loop ?_
    rw [Around.under_plainId F.plain_all_loop _]
    show wpAny _ X.A.in1 (pyNext (.ref ga) >>= _) _ _ s
    refine wpAny_bind (wpAny_mono (gen_next (E := fun _ _ => False) S hh hd h) (fun r s1 hr => ?_) fun _ _ z => False.elim z)
    rcases hr with ⟨rfl, H, dn, c1, _⟩ | ⟨v, y, i, m, H, rfl, ry, ⟨b, rfl, yd⟩, c1, _, hm, more⟩
    · exact wpAny_bind (wpAny_rule (wpAny_pure (hR true H s1 (iteT dn) c1)))
    · obtain rfl : v = Value.bool b := ry
      refine wpAny_bind (wpAny_holding (wpAny_truthy_bool (wpAny_bind (wpAny_letGo ?_))))
      cases b with
      | false => exact wpAny_bind (wpAny_rule (wpAny_pure (hR false H s1 yd c1)))
      | true =>
        obtain ⟨m', hm', w'⟩ : ∃ m', m' < m ∧ W (i + 1) m' H := yd
        exact wpAny_pure ⟨plainId_quiet F.plain_all_loop _, ih s1 (more m' hm' w')⟩
end
/-! ### made -/
section
variable {X : Cx} {pins : List (Addr × Obj)} {σ : L2.St} {H : Hp} {s : Shared} {scope : Scope} {own : List (Str × Nat)} {ext : List Str} {tg elt iter : Expr} {pos : Pos} {c P : Addr} {wi : TI} {k : Nat}
theorem gen_eval {R : It → Hp → Prop} {Q' : Value → Shared → Prop} (hr : Room k X.A) (TB : GxR.TabB X.base X.mg c P) (hcode : X.env.code = .ref c) (G : GOk X.N X.env.scope scope own ext) (hi : PI X tg iter wi) (hs : ∀ v, genFold iter X.env v = pure v)
    (I : Inv X pins σ H s) (h : wi σ H fun J H1 => GxR.TabG H1 P ∧ R J H1)
    (hQ : ∀ (J : It) (fp : List Addr) (it : Addr) (tn : Nat → Heap → Prop) (H1 H4 : Hp) (s4 s5 : Shared) (code : Value) (ga : Addr) (gi : Nat), R J H1 → GxR.Tabbed P H1 H4 → GSt X pins σ scope own ext tg code H4 s4 J fp it tn → tn 0 s5.heap → CO X fp [ga] s4 H4 H4 s5 →
      s5.heap.IsGen ga gi → s5.gens[gi]? = some (.fresh (gFirst X tg elt iter scope pos it s4 code)) → Q' (.ref ga) s5) :
    wpAny (model X.prog X.w) X.A (eval (.GeneratorExp elt [⟨tg, iter, [], 0⟩] scope pos) X.env) Q' X.xe s := by
  refine wpAny_GeneratorExp_make G.co (closure_ok (free_cells I G)) G.cell G.dot G.blk.kind hr.depth (thn (hi.run pins s σ H _ I h) fun xv s1 h1 => thn h1 fun itv s2 h2 => ?_) hs
  obtain ⟨it, fp, tn, J, H1, rfl, I2, T, t2, f2, ⟨ps, hP, ht⟩, q⟩ := h2
  have hPs : s2.heap.get? P = some { cls := .none, data := .fields ps } := I2.hok P _ hP
  have cd : PySem.W.CodeHd s2.heap c P := TB.code.keeps fun b u e => I2.bk b u e
  have nP : ∀ b ∈ fp, b ≠ P := fun b hb z => by
    have z2 := (f2 b hb).1
    rw [z, hP] at z2
    cases z2
  refine ⟨I2.nolimit, ?_⟩
  have cont : ∀ (code : Value) (h3 : Heap) (tk : Nat) (more : Array Value), Heap.ExtBut P s2.heap h3 → h3.get? P = some { cls := .none, data := .fields (ps ++ more) } → TriplesOk (ps ++ more).toList →
      wpAny (model X.prog X.w) X.A (builtinsFor X.env.globals X.env.builtins) (fun bi s₄ => ∀ h', h'.Ns s₄.heap.objs.size (fun y => if y = ".0" then some (.ref it) else none) → Heap.SameBut s₄.heap.objs.size (s₄.heap.push { cls := .type "frame", data := .dict #[] }) h' →
          Q' (.ref h'.objs.size) { s₄ with
            gens := s₄.gens.push (.fresh (.compStart (.GeneratorExp elt [⟨tg, iter, [], 0⟩] scope pos) 0 (.ref it) .none (genEnv scope (cloFrom X.env.cells scope.names []) s₄.heap.objs.size code bi X.env))),
            toks := s₄.toks + 1 + 1 + 1,
            heap := h'.push { cls := .type "generator", data := .fields #[.int s₄.gens.size 0, .str "<genexpr>" (s₄.toks + 1), .str (X.env.qual ++ "<genexpr>") (s₄.toks + 1 + 1)] } }) X.xe { s2 with heap := h3, toks := tk } := by
    intro code h3 tk more hx h3P ht3
    have I4 := GxR.inv_tab (more := more) (h' := h3) (g' := s2.gens) (d' := s2.drawn) (t' := tk) I2 hP (fun b u hb e => hx b u hb e) h3P I2.bare
    obtain ⟨bm, ob, e1, e2, e3, e4, e5, e6, e7, e8⟩ := TB.bm
    refine wpAny_builtinsFor (m := X.mg) (by rw [I4.ok.glob]; exact I4.mod.glob.keeps I4.bk) e1 e2 (I4.bk _ _ e5) e6 e7 e8 ?_
    intro h' hn' hs'
    have keep1 : ∀ b o, h3.get? b = some o → h'.get? b = some o := fun b o e => hs'.extBut b o (Nat.ne_of_lt (Heap.lt_size e)) (Heap.get?_push_of_some _ e)
    have sz' : h'.objs.size = h3.objs.size + 1 := by rw [hs'.1, Heap.size_push]
    have keep5 : ∀ b o, h3.get? b = some o → (h'.push { cls := .type "generator", data := .fields #[.int s2.gens.size 0, .str "<genexpr>" (tk + 1), .str (X.env.qual ++ "<genexpr>") (tk + 1 + 1)] }).get? b = some o := fun b o e => Heap.get?_push_of_some _ (keep1 b o e)
    have f4 : ∀ b ∈ fp, FpOk X pins (upd H1 P (.tbl (ps ++ more))) b := fun b hb => ⟨by rw [upd_ne (nP b hb)]; exact (f2 b hb).1, (f2 b hb).2⟩
    have t4 : tn 0 h3 := T.keep _ _ _ t2 fun b hb o e => hx b o (nP b hb) e
    have lt : ∀ b ∈ fp, b < h3.objs.size := fun b hb => by
      obtain ⟨o, e, _⟩ := T.obj _ _ t4 b hb
      exact Heap.lt_size e
    have S : GSt X pins σ scope own ext tg code (upd H1 P (.tbl (ps ++ more))) { s2 with heap := h3, toks := tk } J fp it tn := ⟨I4, G, T, f4, lt⟩
    have nga : ∀ b, h3.objs.size ≤ b → upd H1 P (.tbl (ps ++ more)) b = none := fun b hb => I4.hok.fresh hb
    refine hQ J fp it tn H1 _ { s2 with heap := h3, toks := tk } _ code h'.objs.size s2.gens.size q ⟨⟨_, upd_same, ht3⟩, fun b hb => upd_ne hb⟩ S (T.keep _ _ _ t4 fun b hb o e => keep5 b o e) ⟨rfl, AllBare.push I2.bare rfl, Un.kept keep5, I4.hok.kept keep5, ⟨_, hn'.push _⟩, nga _ (Nat.le_refl _), fun b hb => (f4 b hb).1, fun b hb => ?_⟩ ?_ ?_
    · obtain rfl : b = h'.objs.size := by simpa using hb
      refine ⟨⟨_, Heap.get?_push_size _ rfl, fun v z => by cases z⟩, nga _ (by omega), ?_, fun z => ?_, fun z => ?_, ?_⟩
      · show h'.objs.size ≠ h3.objs.size
        omega
      · rcases List.mem_cons.mp (I4.stkSub _ z) with e | e
        · have z2 := I4.lt
          rw [← e] at z2
          have z3 : h'.objs.size < h3.objs.size := z2
          omega
        · exact I4.nofs (show h3.objs.size ≤ h'.objs.size by omega) e
      · have q5 : (h'.objs.size : Nat) < h3.objs.size := lt _ z
        omega
      · show h3.get? h'.objs.size = none
        cases e : h3.get? h'.objs.size with
        | none => rfl
        | some o =>
          have q5 : (h'.objs.size : Nat) < h3.objs.size := Heap.lt_size e
          omega
    · exact ⟨_, _, _, Heap.get?_push_size _ rfl, rfl, rfl, rfl⟩
    · exact Array.getElem?_push_size ..
  cases hf : codeAmong pos ps.toList with
  | none =>
    refine wpAny_genexprCodeX hcode (cd.code hPs ht) (cd.tab hPs) hf fun c' h' tk hx hge hlt hco' _ htab' _ => ?_
    obtain ⟨o1, vs, f1, tf, fl, tg', inF, tx, tt, op, _, _, _, _, _, _, _, _, _, htr, _⟩ := hco'
    exact cont _ h' tk _ hx htab'.2 htr
  | some cv =>
    refine wpAny_genexprCode_hit hcode (cd.code hPs ht) hf ?_
    exact cont cv s2.heap s2.toks #[] (Heap.ExtBut.refl _ _) (by simpa using hPs) (by simpa using ht)
/-- any(..), all(..) of the expression; behind it the def's table may have grown -/
def tGen (P : Addr) (wi : TI) (g : TG) (te : TE) (own : List (Str × Nat)) (ext : List Str) (stopAt : Bool) : TE := fun σ H Q => wi σ H fun J H1 => GxR.TabG H1 P ∧ ∀ H2, GxR.Tabbed P H1 H2 → ∃ W : Nat → Nat → Hp → Prop, (∃ m, W 0 m H2) ∧
  ∀ i m H, W i m H → (J.stop i H ∧ Q (.bl (!stopAt)) H) ∨ (J.go i H ∧ ∃ N : Hp → Prop, (∀ H', N H' → ∃ m', m' < m ∧ W (i + 1) m' H') ∧ ∀ x H', J.yld i H x H' → g x (gS σ own ext) H' fun σ2 H2 => te σ2 H2 fun v H3 => ∃ b, v = V.bl b ∧ if b = stopAt then Q (.bl stopAt) H3 else N H3)
theorem turn_of {J : It} {g : TG} {te : TE} {σg : L2.St} {W : Nat → Nat → Hp → Prop} {Q : VK} {st : Bool} (turn : ∀ i m H, W i m H → (J.stop i H ∧ Q (.bl (!st)) H) ∨ (J.go i H ∧ ∃ N : Hp → Prop, (∀ H', N H' → ∃ m', m' < m ∧ W (i + 1) m' H') ∧
      ∀ x H', J.yld i H x H' → g x σg H' fun σ2 H2 => te σ2 H2 fun v H3 => ∃ b, v = V.bl b ∧ if b = st then Q (.bl st) H3 else N H3)) (i m : Nat) (H : Hp) (w : W i m H) :
    (J.stop i H ∧ Q (.bl (!st)) H) ∨ (J.go i H ∧ ∃ Yn : V → Hp → Prop, (∀ v H3, Yn v H3 → ∃ b, v = V.bl b ∧ if b = st then Q (.bl st) H3 else ∃ m', m' < m ∧ W (i + 1) m' H3) ∧ ∀ x H', J.yld i H x H' → g x σg H' fun σ2 H2 => te σ2 H2 Yn) := by
  rcases turn i m H w with z | ⟨go, N, hN, step⟩
  · exact .inl z
  · refine .inr ⟨go, _, fun v H3 ⟨b, e, q⟩ => ⟨b, e, ?_⟩, step⟩
    by_cases hb : b = st
    · rw [if_pos hb] at q ⊢
      exact q
    · rw [if_neg hb] at q ⊢
      exact hN _ q
theorem room_over {Ag : Around} {c : Code} (hr : Room (k + 1) Ag) (h1 : c.weight = 1) (h2 : c.cUnits = 3) : Room k (Ag.over c []) := by
  refine ⟨hr.hd, ?_, ?_⟩
  · have := hr.dp
    show Ag.depth + frameCount [] + c.weight + 3 * k + 5 < _
    rw [h1]
    show Ag.depth + 0 + 1 + 3 * k + 5 < _
    omega
  · have := hr.un
    show Ag.units + unitsOf [] + c.cUnits + 16 * k + 200 < _
    rw [h2]
    show Ag.units + 0 + 3 + 16 * k + 200 < _
    omega
theorem room_in1 {Ag : Around} (hr : Room (k + 1) Ag) : Room k Ag.in1.in1 := by
  refine ⟨hr.hd, ?_, ?_⟩
  · have := hr.dp
    show Ag.depth + 3 * k + 5 < _
    omega
  · have := hr.un
    show Ag.units + 1 + 1 + 16 * k + 200 < _
    omega
theorem EP_of {H4 H' : Hp} {s4 s' : Shared} {J : It} {fp sx : List Addr} {it : Addr} {tn : Nat → Heap → Prop} {code : Value} {Q : VK} {v : V} {u : Value} (S : GSt X pins σ scope own ext tg code H4 s4 J fp it tn) (h : CO X fp sx s4 H4 H' s') (r : RelV v u) (q : Q v H') : EP X pins σ Q u s' :=
  ⟨v, H', S.inv.call' h.os h.un h.hok h.bare fun b hb => ⟨(S.fpo b hb).2.2.2.1, (S.fpo b hb).2.1, (S.fpo b hb).2.2.2.2.1, (S.fpo b hb).2.2.2.2.2⟩, r, q⟩
section
variable {g : TG} {te : TE} {p cpos : Pos}
theorem pe_anyG (hr : Room (k + 2) X.A) (hg : Gl X "any") (hm : X.mg "any" = none) (TB : GxR.TabB X.base X.mg c P) (hcode : X.env.code = .ref c) (G : GOk X.N X.env.scope scope own ext) (hi : PI X tg iter wi)
    (ht : ∀ (code : Value) (fp : List Addr) (s4 : Shared) (H4 : Hp) (B : Around), PG (gCx X scope code fp s4 H4 B ext) tg g) (he : ∀ (code : Value) (fp : List Addr) (s4 : Shared) (H4 : Hp) (B : Around), Room k B → PE (gCx X scope code fp s4 H4 B ext) elt te)
    (hs : ∀ v, genFold iter X.env v = pure v := by intro _; rfl) (hst : starEach [.GeneratorExp elt [⟨tg, iter, [], 0⟩] scope pos] X.env = (false, eval (.GeneratorExp elt [⟨tg, iter, [], 0⟩] scope pos) X.env) :: starEach [] X.env := by rfl) :
    PE X (.Call (.Name "any" p) [.GeneratorExp elt [⟨tg, iter, [], 0⟩] scope pos] [] cpos) (tGen P wi g te own ext true) := by
  constructor
  intro pins s σ H Q I h
  refine wpAny_Call_Name_kw (ld_blt I hg hm boot_any (PyProof.Rows.callWith_builtin1 ?_ hst (by rfl)))
  rw [hst]
  show wpAny _ _ (spliced ((false, eval (.GeneratorExp elt [⟨tg, iter, [], 0⟩] scope pos) X.env) :: backTo cpos (starEach [] X.env))) _ _ s
  refine Calls.spliced_cons (gen_eval hr TB hcode G hi hs I h fun J fp it tn H1 H4 s4 s5 code ga gi q htab S t5 c5 hgen hgs => Calls.spliced_nil ?_)
  obtain ⟨W, ⟨m, w0⟩, turn⟩ := q H4 htab
  have rm : Room k (X.A.in1.in1.over (gLoop X tg elt iter scope pos it s4 code) []) := room_over (room_in1 hr) rfl rfl
  refine call_function_tree F.kind_any F.plain_any F.entry_any (F.args_any1 _) ?_
  unfold Builtin.«any»
  refine wpAny_bind (m := oneArg "any" _) (wpAny_pure (wpAny_bind (wpAny_pyIter_gen hgen ?_)))
  refine wpAny_pure ⟨plainId_quiet F.plain_any_loop _, any_walk (W := W) (QT := Q (.bl true)) (QF := Q (.bl false)) S hr.hd hr.depth (fun b H' s' hb hc => EP_of (v := .bl b) S hc rfl (by cases b <;> exact hb)) m s5 ⟨hgen, List.mem_cons_self, ⟨H4, c5⟩, _, hgs, fun s' kp => ⟨rfl, ?_⟩⟩⟩
  have t6 : tn 0 s'.heap := S.turn.keep _ _ _ t5 fun b hb o e => kp.keep b o (fun z => (c5.sx b z).2.2.2.2.1 hb) e
  exact seg_first (Ag := X.A.in1.in1) S hr.hd t6 (seg_loop (Ag := X.A.in1.in1) S S.inv.ok.frames hr.hd (ht ..) (he _ _ _ _ _ rm) W _ _ (turn_of (st := true) turn) (m + 1) 0 m H4 s' (Nat.lt_succ_self m) w0 (c5.kp kp) t6)
theorem pe_allG (hr : Room (k + 2) X.A) (hg : Gl X "all") (hm : X.mg "all" = none) (hb : bootBuiltins "all" = some (.builtin "all")) (TB : GxR.TabB X.base X.mg c P) (hcode : X.env.code = .ref c) (G : GOk X.N X.env.scope scope own ext) (hi : PI X tg iter wi)
    (ht : ∀ (code : Value) (fp : List Addr) (s4 : Shared) (H4 : Hp) (B : Around), PG (gCx X scope code fp s4 H4 B ext) tg g) (he : ∀ (code : Value) (fp : List Addr) (s4 : Shared) (H4 : Hp) (B : Around), Room k B → PE (gCx X scope code fp s4 H4 B ext) elt te)
    (hs : ∀ v, genFold iter X.env v = pure v := by intro _; rfl) (hst : starEach [.GeneratorExp elt [⟨tg, iter, [], 0⟩] scope pos] X.env = (false, eval (.GeneratorExp elt [⟨tg, iter, [], 0⟩] scope pos) X.env) :: starEach [] X.env := by rfl) :
    PE X (.Call (.Name "all" p) [.GeneratorExp elt [⟨tg, iter, [], 0⟩] scope pos] [] cpos) (tGen P wi g te own ext false) := by
  constructor
  intro pins s σ H Q I h
  refine wpAny_Call_Name_kw (ld_blt I hg hm hb (PyProof.Rows.callWith_builtin1 ?_ hst (by rfl)))
  rw [hst]
  show wpAny _ _ (spliced ((false, eval (.GeneratorExp elt [⟨tg, iter, [], 0⟩] scope pos) X.env) :: backTo cpos (starEach [] X.env))) _ _ s
  refine Calls.spliced_cons (gen_eval hr TB hcode G hi hs I h fun J fp it tn H1 H4 s4 s5 code ga gi q htab S t5 c5 hgen hgs => Calls.spliced_nil ?_)
  obtain ⟨W, ⟨m, w0⟩, turn⟩ := q H4 htab
  have rm : Room k (X.A.in1.in1.over (gLoop X tg elt iter scope pos it s4 code) []) := room_over (room_in1 hr) rfl rfl
  refine call_function_tree F.kind_all F.plain_all F.entry_all (F.args_all1 _) ?_
  unfold Builtin.«all»
  refine wpAny_bind (m := oneArg "all" _) (wpAny_pure (wpAny_bind (wpAny_pyIter_gen hgen ?_)))
  refine wpAny_pure ⟨plainId_quiet F.plain_all_loop _, all_walk (W := W) (QT := Q (.bl true)) (QF := Q (.bl false)) S hr.hd hr.depth (fun b H' s' hb hc => EP_of (v := .bl b) S hc rfl (by cases b <;> exact hb)) m s5 ⟨hgen, List.mem_cons_self, ⟨H4, c5⟩, _, hgs, fun s' kp => ⟨rfl, ?_⟩⟩⟩
  have t6 : tn 0 s'.heap := S.turn.keep _ _ _ t5 fun b hb o e => kp.keep b o (fun z => (c5.sx b z).2.2.2.2.1 hb) e
  exact seg_first (Ag := X.A.in1.in1) S hr.hd t6 (seg_loop (Ag := X.A.in1.in1) S S.inv.ok.frames hr.hd (ht ..) (he _ _ _ _ _ rm) W _ _ (turn_of (st := false) turn) (m + 1) 0 m H4 s' (Nat.lt_succ_self m) w0 (c5.kp kp) t6)
end
end
end GX

/-! ### defs that hold a generator expression: their code objects' tables, and the end of a law that calls them -/
namespace GX
open PySem PySem.Spec PyProof.Rows L2 Cm
/-- the def x stands at some address, its code object at c -/
structure FunC (K : PySem.W.Frag) (x : Str) (st : Stmt) (f : Addr) (fd : FuncData) (c : Addr) : Prop where
  ex : ∃ (oc : Value) (od : Option Addr) (kV doc pm : Value) (an : Option Addr) (ct : Value) (osl : Array (Option Value)),
    fd = PySem.W.fnOf x x (defArgs st) (defBody st) (defScope st) .none kV doc pm an (.ref c) ct ∧ K.lookup f = some ⟨oc, od, .func fd, osl⟩ ∧ PySem.W.codeIn K (.ref c) x = true
  kp : PySem.W.keepIn K (.ref f) = true
def DnC (K : PySem.W.Frag) (mg : Str → Option Value) (x : Str) (st : Stmt) (ps : List Str) (c : Addr) : Prop := ∃ (f : Addr) (fd : FuncData), FunC K x st f fd c ∧ mg x = some (.ref f) ∧ Binds K fd ps []
theorem dnc_mk {K : PySem.W.Frag} {h : Heap} {mg : Str → Option Value} {x : Str} {ps : List Str} {st : Stmt} {f c : Addr} {oc : Value} {od an : Option Addr} {osl : Array (Option Value)} {kV doc pm ct : Value} (X : K.In h) (G : h.Ns mainGlobals mg) (a : PySem.W.nsIn K mainGlobals x = some (some (.ref f)))
    (l : K.lookup f = some ⟨oc, od, .func (PySem.W.fnOf x x (defArgs st) (defBody st) (defScope st) .none kV doc pm an (.ref c) ct), osl⟩) (e : PySem.W.codeIn K (.ref c) x = true) (k : PySem.W.keepIn K (.ref f) = true)
    (hb : ∀ (kV doc pm : Value) (an : Option Addr) (cdv ct : Value) (us : List Value), us.length = ps.length → bindArgs (PySem.W.fnOf x x (defArgs st) (defBody st) (defScope st) .none kV doc pm an cdv ct) ⟨us, []⟩ = pure (ps.zip us)) : DnC K mg x st ps c :=
  ⟨f, _, ⟨⟨_, _, _, _, _, _, _, _, rfl, l, e⟩, k⟩, PySem.W.mg_of X G a, (fun_mk l e k).binds hb⟩
theorem okc_of {P : Program} {w : World} {K : PySem.W.Frag} {mg : Str → Option Value} {base : Heap} {CX : CXT} {k : Nat} {x : Str} {st : Stmt} {N ps : List Str} {sp : Sp} {c : Addr} (d : DnC K mg x st ps c) (S : FnScope N ps (defScope st)) (len : ∀ vs H Q E, sp vs H Q E → vs.length = ps.length)
    (hbody : ∀ (f : Addr) (A : Around) (outer : List Env) (s : Shared) (H : Hp) (vs : List V) (Q : VK) (E : XK), Room k (A.deeper (envOfC x (defScope st) s.heap.objs.size f (.ref c))) → sp vs H Q E →
      ∃ t, PSs (cxOf CX P w K mg base N x (defScope st) f (.ref c) A outer s H E) (defBody st) t ∧ t { nx := fun _ H' => Q .non H', rt := Q } (L2.start N vs) H) : Ok P w K mg base CX (k + 1) x ps sp := by
  obtain ⟨f, fd, ⟨⟨oc, od, kV, doc, pm, an, ct, osl, rfl, lk, hcd⟩, kp⟩, g, b⟩ := d
  exact ⟨f, _, fn_of lk hcd S len fun A outer s H vs Q E hr hsp => hbody f A outer s H vs Q E hr hsp, g, kp, b⟩
theorem tb_of {base : Heap} {mg : Str → Option Value} {c P : Addr} (h : LamX.TabB base mg c P) : GxR.TabB base mg c P := ⟨h.code, h.bm, h.gP⟩
/-- law's promise where tables may grow -/
def spLawT (K : PySem.W.Frag) (Ps : List Addr) : Sp := fun vs H Q _ => ∃ (a : Addr) (ns : List Int), vs = [.ref a] ∧ SqL K H a (ns.map V.int) ∧ ns.length ≤ 63 ∧ (∀ P ∈ Ps, GxR.TabG H P) ∧ ∀ H', Q (.bl true) H'
theorem no_tab {K : PySem.W.Frag} {h : Heap} {P : Addr} (X : K.In h) (n : PySem.W.noTabs K = true) (e : h.get? P = some (PySem.W.tabObj #[])) : K.lookup P = none := by
  cases q : K.lookup P with
  | none => rfl
  | some o =>
    have z := X P o q
    rw [e] at z
    cases z
    have z2 := List.all_eq_true.mp n (P, _) (PySem.W.mem_of_lookupK q)
    exact absurd (show false = true from z2) (by decide)
theorem tabIn_mk {K : PySem.W.Frag} {x : Str} {f c P : Addr} {oc cc : Value} {od ce : Option Addr} {fd : FuncData} {sl cg : Array (Option Value)} {vs : Array Value} (h1 : PySem.W.nsIn K mainGlobals x = some (some (.ref f)))
    (h2 : K.lookup f = some ⟨oc, od, .func fd, sl⟩) (h3 : fd.code = .ref c) (h4 : K.lookup c = some ⟨cc, ce, .fields vs, cg⟩) (h5 : vs[11]? = some (.ref P)) : PySem.W.tabIn K x = some (c, P) := by
  unfold PySem.W.tabIn
  simp only [h1, h2, h3, h4, h5]
theorem walk_gx {l : PySem.W.OpenLaw} {k : Nat} {q : Program} {loose : List Str} {XP : (Str → Option Value) → Heap → Prop} {YP : World → Heap → Prop} {d : DefRec} {K : Params → PySem.W.Frag} {names : List Str} (hn : l.most = some 63) (hdf : d.params.defaults = []) (hr : Room k callerA)
    (hY : ∀ (w : World) (h : Heap), YP w h → (K w.params).In h) (hnt : ∀ w : World, PySem.W.noTabs (K w.params) = true) (hrec : ∀ x ∈ names, ((PyProof.Rows.recsOf q).find? fun e => e.name == x).isSome = true)
    (F : ∀ (w : World) (mg : Str → Option Value) (fa : Addr) (h : Heap), (K w.params).In h → h.Ns mainGlobals mg → mg d.name = some (.ref fa) → ∃ (fd : FuncData) (cs : List (Str × Addr × Addr)), (∀ t ∈ cs, t.1 ∈ names ∧ PySem.W.tabIn (K w.params) t.1 = some t.2) ∧
      (∀ (s : Shared) (u : Value), BindsTo s fd ⟨[u], []⟩ [("script", u)]) ∧ ∀ base : Heap, (K w.params).In base → base.Ns mainGlobals mg → (∀ t ∈ cs, LamX.TabB base mg t.2.1 t.2.2) → FnOk l.prog w (K w.params) mg base CX0 k fa fd ["script"] (spLawT (K w.params) (cs.map (·.2.2)))) :
    PySem.W.WalkO q loose XP YP l.row.toRowW d [] (fun f vs => PySem.call f vs) := by
  refine Att.attach_callB hn hdf fun w s0 s1 mg mb fa o pm cd doc a vs ns G Y ho hd hcd hmg hobj hints hlen hbits hg => ?_
  have KX := hY w _ Y
  obtain ⟨fd, cs, hcs, hb, hF⟩ := F w mg fa _ KX G.T.g hmg
  have tab : ∀ t ∈ cs, PySem.W.CodeHd s1.heap t.2.1 t.2.2 ∧ s1.heap.get? t.2.2 = some (PySem.W.tabObj #[]) := fun t ht => by
    obtain ⟨h1, h2⟩ := hcs t ht
    obtain ⟨dr, hdr⟩ := Option.isSome_iff_exists.mp (hrec _ h1)
    exact PySem.W.tab_of G.T KX hdr h2
  have of2 : ∀ p ∈ cs.map (·.2), ∃ t ∈ cs, t.2 = p := fun p hp => List.mem_map.mp hp
  refine LamX.law_callTs (cs := cs.map (·.2)) (sp := spLawT (K w.params) (cs.map (·.2.2))) KX G.T.g G.T.b G.T.builtins G.T.nolimit hg (fun p hp => ?_) (fun p hp => ?_) (fun p hp => ?_) G.T.bmain hobj hints (Nat.le_trans hlen (by decide)) hr (fun base k1 k2 k3 => hF base k1 k2 fun t ht => k3 t.2 (List.mem_map.mpr ⟨t, ht, rfl⟩)) hb (fun H hH hS => ?_) (fun _ _ _ z => z)
  · obtain ⟨t, ht, rfl⟩ := of2 p hp
    exact (tab t ht).2
  · obtain ⟨t, ht, rfl⟩ := of2 p hp
    exact no_tab KX (hnt w) (tab t ht).2
  · obtain ⟨t, ht, rfl⟩ := of2 p hp
    exact (tab t ht).1
  · refine ⟨a, ns, rfl, hS, hlen, fun P hP => ?_, fun _ => rfl⟩
    obtain ⟨t, ht, rfl⟩ := List.mem_map.mp hP
    exact ⟨#[], hH t.2 (List.mem_map.mpr ⟨t, ht, rfl⟩), True.intro⟩
/-! ### heaps in which tables may have grown -/
/-- all but tables stays; tables stay tables -/
structure Sm (H H' : Hp) : Prop where
  keep : ∀ b o, H b = some o → (∀ ps, o ≠ .tbl ps) → H' b = some o
  tab : ∀ P, GxR.TabG H P → GxR.TabG H' P
theorem Sm.refl (H : Hp) : Sm H H := ⟨fun _ _ e _ => e, fun _ t => t⟩
theorem Sm.trans {H H1 H2 : Hp} (a : Sm H H1) (b : Sm H1 H2) : Sm H H2 := ⟨fun c o e n => b.keep c o (a.keep c o e n) n, fun P t => b.tab P (a.tab P t)⟩
theorem Sm.of {H H' : Hp} (e : Same H H') : Sm H H' := ⟨fun b o q _ => e b o q, fun P ⟨ps, q, t⟩ => ⟨ps, e _ _ q, t⟩⟩
theorem Sm.tabbed {H H' : Hp} {P : Addr} (h : GxR.TabG H P) (e : GxR.Tabbed P H H') : Sm H H' := by
  obtain ⟨ps, hP, _⟩ := h
  refine ⟨fun b o q n => ?_, fun P' t => ?_⟩
  · rw [e.2 b fun z => n ps (Option.some.inj (q.symm.trans (z ▸ hP)))]
    exact q
  · by_cases z : P' = P
    · rw [z]
      exact e.1
    · obtain ⟨ps', q, t'⟩ := t
      exact ⟨ps', by rw [e.2 _ z]; exact q, t'⟩
theorem Sm.l {H H' : Hp} (e : Sm H H') {a : Addr} {xs : List V} (h : H a = some (.lst xs)) : H' a = some (.lst xs) := e.keep _ _ h fun _ z => by cases z
theorem Sm.t {H H' : Hp} (e : Sm H H') {a : Addr} {xs : List V} (h : H a = some (.tup xs)) : H' a = some (.tup xs) := e.keep _ _ h fun _ z => by cases z
theorem Sm.seq {K : PySem.W.Frag} {H H' : Hp} (e : Sm H H') {a : Addr} {xs : List V} (h : SqL K H a xs) : SqL K H' a xs := by
  rcases h with (h | ⟨o, h⟩) | h
  · exact .inl (.inl (e.l h))
  · exact .inl (.inr ⟨o, e.keep _ _ h fun _ z => by cases z⟩)
  · exact .inr h
theorem Sm.tup {K : PySem.W.Frag} {H H' : Hp} (e : Sm H H') {a : Addr} {xs : List V} (h : SqT K H a xs) : SqT K H' a xs := by
  rcases h with (h | ⟨o, h⟩) | h
  · exact .inl (.inl (e.t h))
  · exact .inl (.inr ⟨o, e.keep _ _ h fun _ z => by cases z⟩)
  · exact .inr h
mutual
theorem Sm.dp {K : PySem.W.Frag} {H H' : Hp} (e : Sm H H') : ∀ {d : PyData} {v : V}, Dp K H v d → Dp K H' v d
  | _, _, .non => .non
  | _, _, .bl b => .bl b
  | _, _, .int i => .int i
  | _, _, .str x => .str x
  | _, _, .lst h r => .lst (e.seq h) (e.dpAll r)
  | _, _, .tup h r => .tup (e.tup h) (e.dpAll r)
theorem Sm.dpAll {K : PySem.W.Frag} {H H' : Hp} (e : Sm H H') : ∀ {ds : List PyData} {vs : List V}, DpAll K H vs ds → DpAll K H' vs ds
  | _, _, .nil => .nil
  | _, _, .cons h r => .cons (e.dp h) (e.dpAll r)
end
/-! ### the forms one uses -/
section
variable {K : PySem.W.Frag} {a : Addr} {xs : List V} {g : TG} {te : TE} {σg : L2.St} {H1 : Hp} {P : Addr} {Q : VK} {st : Bool}
/-- over a list -/
theorem gen_list (Pv : Nat → Hp → Prop) (h0 : ∀ H2, GxR.Tabbed P H1 H2 → Pv 0 H2) (hl : ∀ i H, i ≤ xs.length → Pv i H → SqL K H a xs)
    (hs : ∀ i x H, xs[i]? = some x → Pv i H → g x σg H fun σ2 H2 => te σ2 H2 fun v H3 => ∃ b, v = V.bl b ∧ if b = st then Q (.bl st) H3 else Pv (i + 1) H3) (hd : ∀ H, Pv xs.length H → Q (.bl (!st)) H) :
    ∀ H2, GxR.Tabbed P H1 H2 → ∃ W : Nat → Nat → Hp → Prop, (∃ m, W 0 m H2) ∧ ∀ i m H, W i m H → ((Itl K a).stop i H ∧ Q (.bl (!st)) H) ∨ ((Itl K a).go i H ∧ ∃ N : Hp → Prop, (∀ H', N H' → ∃ m', m' < m ∧ W (i + 1) m' H') ∧
      ∀ x H', (Itl K a).yld i H x H' → g x σg H' fun σ2 H2 => te σ2 H2 fun v H3 => ∃ b, v = V.bl b ∧ if b = st then Q (.bl st) H3 else N H3) := by
  intro H2 tb
  refine ⟨fun i m H => m = xs.length - i ∧ i ≤ xs.length ∧ Pv i H, ⟨xs.length, by simp, Nat.zero_le _, h0 H2 tb⟩, ?_⟩
  rintro i m H ⟨rfl, hi, p⟩
  have q := hl i H hi p
  by_cases hlt : i < xs.length
  · refine .inr ⟨⟨xs, xs[i], q, List.getElem?_eq_getElem hlt⟩, Pv (i + 1), fun H' p' => ⟨xs.length - (i + 1), by omega, rfl, hlt, p'⟩, fun x H' y => ?_⟩
    obtain ⟨rfl, y⟩ := y
    exact hs i x H' (y xs q) p
  · obtain rfl : i = xs.length := by omega
    exact .inl ⟨⟨xs, q, Nat.le_refl _⟩, hd H p⟩
/-- over a tuple -/
theorem gen_listQ {QF QT : Hp → Prop} (Pv : Nat → Hp → Prop) (h0 : ∀ H2, GxR.Tabbed P H1 H2 → Pv 0 H2) (hl : ∀ i H, i ≤ xs.length → Pv i H → SqL K H a xs)
    (hs : ∀ i x H, xs[i]? = some x → Pv i H → g x σg H fun σ2 H2 => te σ2 H2 fun v H3 => ∃ b, v = V.bl b ∧ if b = st then QF H3 else Pv (i + 1) H3) (hd : ∀ H, Pv xs.length H → QT H) :
    ∀ H2, GxR.Tabbed P H1 H2 → ∃ W : Nat → Nat → Hp → Prop, (∃ m, W 0 m H2) ∧ ∀ i m H, W i m H → ((Itl K a).stop i H ∧ QT H) ∨ ((Itl K a).go i H ∧ ∃ N : Hp → Prop, (∀ H', N H' → ∃ m', m' < m ∧ W (i + 1) m' H') ∧
      ∀ x H', (Itl K a).yld i H x H' → g x σg H' fun σ2 H2 => te σ2 H2 fun v H3 => ∃ b, v = V.bl b ∧ if b = st then QF H3 else N H3) := by
  intro H2 tb
  refine ⟨fun i m H => m = xs.length - i ∧ i ≤ xs.length ∧ Pv i H, ⟨xs.length, by simp, Nat.zero_le _, h0 H2 tb⟩, ?_⟩
  rintro i m H ⟨rfl, hi, p⟩
  have q := hl i H hi p
  by_cases hlt : i < xs.length
  · refine .inr ⟨⟨xs, xs[i], q, List.getElem?_eq_getElem hlt⟩, Pv (i + 1), fun H' p' => ⟨xs.length - (i + 1), by omega, rfl, hlt, p'⟩, fun x H' y => ?_⟩
    obtain ⟨rfl, y⟩ := y
    exact hs i x H' (y xs q) p
  · obtain rfl : i = xs.length := by omega
    exact .inl ⟨⟨xs, q, Nat.le_refl _⟩, hd H p⟩
/-- over a tuple -/
theorem gen_tup (Pv : Nat → Hp → Prop) (h0 : ∀ H2, GxR.Tabbed P H1 H2 → Pv 0 H2) (hl : ∀ i H, i ≤ xs.length → Pv i H → SqT K H a xs)
    (hs : ∀ i x H, xs[i]? = some x → Pv i H → g x σg H fun σ2 H2 => te σ2 H2 fun v H3 => ∃ b, v = V.bl b ∧ if b = st then Q (.bl st) H3 else Pv (i + 1) H3) (hd : ∀ H, Pv xs.length H → Q (.bl (!st)) H) :
    ∀ H2, GxR.Tabbed P H1 H2 → ∃ W : Nat → Nat → Hp → Prop, (∃ m, W 0 m H2) ∧ ∀ i m H, W i m H → ((Itt K a).stop i H ∧ Q (.bl (!st)) H) ∨ ((Itt K a).go i H ∧ ∃ N : Hp → Prop, (∀ H', N H' → ∃ m', m' < m ∧ W (i + 1) m' H') ∧
      ∀ x H', (Itt K a).yld i H x H' → g x σg H' fun σ2 H2 => te σ2 H2 fun v H3 => ∃ b, v = V.bl b ∧ if b = st then Q (.bl st) H3 else N H3) := by
  intro H2 tb
  refine ⟨fun i m H => m = xs.length - i ∧ i ≤ xs.length ∧ Pv i H, ⟨xs.length, by simp, Nat.zero_le _, h0 H2 tb⟩, ?_⟩
  rintro i m H ⟨rfl, hi, p⟩
  have q := hl i H hi p
  by_cases hlt : i < xs.length
  · refine .inr ⟨⟨xs, xs[i], q, List.getElem?_eq_getElem hlt⟩, Pv (i + 1), fun H' p' => ⟨xs.length - (i + 1), by omega, rfl, hlt, p'⟩, fun x H' y => ?_⟩
    obtain ⟨rfl, y⟩ := y
    exact hs i x H' (y xs q) p
  · obtain rfl : i = xs.length := by omega
    exact .inl ⟨⟨xs, q, Nat.le_refl _⟩, hd H p⟩
end
end GX

/-! ### sum of a generator expression -/
namespace GX
open PySem PySem.Spec PyProof.Rows L2 Cm
open Sem (wp)
theorem hu_rm {k : Nat} {A : Around} (hr : Room k A) : A.units + 64 < cLine := by
  have := hr.un
  omega
/-- the total stands in the list at SA -/
def TotAt (SA : Addr) (a : Int) (s : Shared) : Prop := ∃ (t : Tok) (c : Nat), s.heap.get? SA = some { cls := .type "list", dict := none, data := .seq #[.int a t] c, slots := #[] }
theorem TotAt.one {SA : Addr} {a b : Int} {s : Shared} (h : TotAt SA a s) (h2 : TotAt SA b s) : a = b := by
  obtain ⟨t, c, e⟩ := h
  obtain ⟨t2, c2, e2⟩ := h2
  rw [e] at e2
  injection e2 with e2
  injection e2 with _ _ e2 _
  injection e2 with e2 _
  have e3 := congrArg (fun (x : Array Value) => x[0]?) e2
  simp at e3
  exact e3.1
theorem TotAt.at {SA : Addr} {a : Int} {s s' : Shared} (h : TotAt SA a s) (e : s'.heap.get? SA = s.heap.get? SA) : TotAt SA a s' := by
  obtain ⟨t, c, q⟩ := h
  exact ⟨t, c, e.trans q⟩
section
variable {X : Cx} {pins : List (Addr × Obj)} {σ : L2.St} {H4 : Hp} {s4 : Shared} {scope : Scope} {own : List (Str × Nat)} {ext : List Str} {tg elt iter : Expr} {code : Value} {fp sx : List Addr} {J : It} {it : Addr} {tn : Nat → Heap → Prop} {pos : Pos}
def gYS (X : Cx) (fp sx : List Addr) (s4 : Shared) (H4 : Hp) (tn : Nat → Heap → Prop) (SA : Addr) (W : Nat → Nat → Int → Hp → Prop) (Yd : Nat → Nat → Int → V → Hp → Prop) : Protocol := fun n s0 v s kap =>
  ∃ (y : V) (i m : Nat) (a : Int) (H : Hp), TotAt SA a s0 ∧ RelV y v ∧ Yd i m a y H ∧ CO X fp sx s4 H4 H s ∧ tn (i + 1) s.heap ∧ (∀ b ∈ sx, s.heap.get? b = s0.heap.get? b) ∧ m ≤ n ∧ ∀ m' a' s', m' < m → W (i + 1) m' a' H → TotAt SA a' s' → Kp sx s s' → kap (.send .none) s'
def gES (X : Cx) (fp sx : List Addr) (s4 : Shared) (H4 : Hp) (SA : Addr) (Dn : Int → Hp → Prop) : Nat → Shared → Shared → Prop := fun _ s0 s => ∃ a H, TotAt SA a s0 ∧ Dn a H ∧ CO X fp sx s4 H4 H s ∧ ∀ b ∈ sx, s.heap.get? b = s0.heap.get? b
theorem seg_loopS {Ag : Around} {SA : Addr} (S : GSt X pins σ scope own ext tg code H4 s4 J fp it tn) (hfr : Ag.frames = some X.stack) (hh : Ag.handled = none) {g : TG} {te : TE}
    (hg : PG (gCx X scope code fp s4 H4 (Ag.over (gLoop X tg elt iter scope pos it s4 code) []) ext) tg g) (he : PE (gCx X scope code fp s4 H4 (Ag.over (gLoop X tg elt iter scope pos it s4 code) []) ext) elt te)
    (W : Nat → Nat → Int → Hp → Prop) (Dn : Int → Hp → Prop) (Yd : Nat → Nat → Int → V → Hp → Prop)
    (turn : ∀ i m a H, W i m a H → (J.stop i H ∧ Dn a H) ∨ (J.go i H ∧ ∃ Yn : V → Hp → Prop, (∀ v H3, Yn v H3 → Yd i m a v H3) ∧ ∀ x H', J.yld i H x H' → g x (gS σ own ext) H' fun σ2 H2 => te σ2 H2 Yn)) :
    ∀ n i m a H s, m < n → W i m a H → TotAt SA a s → CO X fp sx s4 H4 H s → tn i s.heap →
      Seg (model X.prog X.w) Ag (fun n s0 r s1 => r = .ok .next ∧ gES X fp sx s4 H4 SA Dn n s0 s1) (gYS X fp sx s4 H4 tn SA W Yd) n s (gLoop X tg elt iter scope pos it s4 code) ((model X.prog X.w).den (gLoop X tg elt iter scope pos it s4 code)) [] s := by
  have hB : (Ag.over (gLoop X tg elt iter scope pos it s4 code) []).frames = some (gEnv X scope s4.heap.objs.size code :: X.stack) := by
    show pushEnvs [gEnv X scope s4.heap.objs.size code] (pushEnvs [] Ag.frames) = _
    rw [hfr]
    rfl
  have hBh : (Ag.over (gLoop X tg elt iter scope pos it s4 code) []).handled = none := hh
  intro n
  induction n with
  | zero => exact fun i m a H s hm => absurd hm (Nat.not_lt_zero _)
  | succ n ih =>
    intro i m a H s hm w0 a0 h0 t0
    have I0 := CO.inv S h0 hB hBh
    have ff : ∀ {H' : Hp}, (∀ b ∈ fp, H' b = none) → ∀ b ∈ fp, FpOk (gCx X scope code fp s4 H4 (Ag.over (gLoop X tg elt iter scope pos it s4 code) []) ext) (pinsAt sx s.heap) H' b := fun hn b hb => by
      refine ⟨hn b hb, Nat.ne_of_lt (S.lt b hb), I0.ok.exfs b hb, .inl hb, (I0.ok.exf b hb).2, fun p hp z => ?_⟩
      have q := (of_pinsAt (show p ∈ pinsAt sx s.heap by simpa [gCx] using hp)).1
      exact (h0.sx p.1 q).2.2.2.2.1 (z ▸ hb)
    show Seg _ Ag _ _ _ s _ ((compTurn (.GeneratorExp elt [⟨tg, iter, [], 0⟩] scope pos) 0 (.ref it) .none (gEnv X scope s4.heap.objs.size code)).onRaise (leaving (gEnv X scope s4.heap.objs.size code))) [] s
    rw [compTurn_gen, Sem.onRaise_eq_wrap]
    refine seg_bind_wrap (wpAny_standAt ?_)
    rcases turn i m a H w0 with ⟨stop, dn⟩ | ⟨go, Yn, hYn, step⟩
    · refine seg_bind_wrap (wpAny_mono (S.turn.done (gCx X scope code fp s4 H4 (Ag.over (gLoop X tg elt iter scope pos it s4 code) []) ext) rfl rfl rfl rfl i _ s _ H (fun _ _ => False) I0 (ff h0.fr) t0 stop) (fun r s1 hr => ?_) fun _ _ z => False.elim z)
      obtain ⟨rfl, I1⟩ := hr
      obtain ⟨c1, x1⟩ := h0.of_inv I1 h0.fr
      exact seg_end (.ok .next) ⟨rfl, a, H, a0, dn, c1, x1⟩
    · refine seg_bind_wrap (wpAny_mono (S.turn.item (gCx X scope code fp s4 H4 (Ag.over (gLoop X tg elt iter scope pos it s4 code) []) ext) rfl rfl rfl rfl i _ s _ H (fun _ _ => False) I0 (ff h0.fr) t0 go) (fun r s1 hr => ?_) fun _ _ z => False.elim z)
      obtain ⟨u, rfl, h1⟩ := hr
      refine seg_bind_wrap (wpAny_mono h1 (fun _ s2 h2 => ?_) fun _ _ z => False.elim z)
      obtain ⟨x, H2, I2, rx, y2, t2, f2⟩ := h2
      have I2p := I2.pinned (ff f2) (S.turn.obj _ _ t2)
      refine seg_bind_wrap (wpAny_mono (hg.run _ s2 _ H2 x u _ I2p rx (step x H2 y2)) (fun _ s3 h3 => ?_) fun _ _ z => False.elim z)
      obtain ⟨σ3, H3, I3, q3⟩ := h3
      simp only [List.forIn_nil]
      refine seg_bind_wrap (wpAny_pure ?_)
      simp only [if_true]
      have hy : ∀ v, yieldOut (gEnv X scope s4.heap.objs.size code) v = yieldValue v := fun v => by
        have q : (gEnv X scope s4.heap.objs.size code).scope.isCoroutine = false := S.ok.co
        simp only [yieldOut, q, Bool.false_eq_true, if_false]
      simp only [hy]
      rw [Sem.bind_eq_wrap', Sem.bind_eq_wrap', Sem.wrap_wrap, Sem.wrap_wrap]
      refine seg_wrap (wpAny_mono (he.run _ s3 σ3 H3 _ I3 q3) (fun v s5 h5 => ?_) fun _ _ z => False.elim z)
      obtain ⟨y, H5, I5, ry, q5⟩ := h5
      have pf : ∀ b ∈ fp, ∀ o, s2.heap.get? b = some o → s5.heap.get? b = some o ∧ H5 b = none := fun b hb o e => by
        have z := I5.pin (b, o) (List.mem_append_right _ (List.mem_append_right _ (mem_pinsAt hb e)))
        exact ⟨z.1, z.2.1⟩
      have f5 : ∀ b ∈ fp, H5 b = none := fun b hb => by
        obtain ⟨o, e, _⟩ := S.turn.obj _ _ t2 b hb
        exact (pf b hb o e).2
      have t5 : tn (i + 1) s5.heap := S.turn.keep _ _ _ t2 fun b hb o e => (pf b hb o e).1
      obtain ⟨c5, x5⟩ := h0.of_inv I5.unpinned f5
      refine seg_at (seg_yield rfl rfl rfl ⟨y, i, m, a, H5, a0, ry, hYn _ _ q5, c5, t5, x5, Nat.lt_succ_iff.mp hm, fun m' a' s' hm' w' at' kp => ?_⟩)
      refine seg_again rfl (ih (i + 1) m' a' H5 s' (Nat.lt_of_lt_of_le hm' (Nat.lt_succ_iff.mp hm)) w' at' (c5.kp kp) (S.turn.keep _ _ _ t5 fun b hb o e => kp.keep b o (fun z => (c5.sx b z).2.2.2.2.1 hb) e))
/-- the generator at ga, asleep, the total a at SA -/
structure GAS (X : Cx) (fp sx : List Addr) (s4 : Shared) (H4 : Hp) (tn : Nat → Heap → Prop) (SA : Addr) (W : Nat → Nat → Int → Hp → Prop) (Dn : Int → Hp → Prop) (Yd : Nat → Nat → Int → V → Hp → Prop) (Ag : Around) (a : Int) (ga : Addr) (gi n : Nat) (s : Shared) : Prop where
  gen : s.heap.IsGen ga gi
  mem : ga ∈ sx
  mem2 : SA ∈ sx
  ne : ga ≠ SA
  co : ∃ H, CO X fp sx s4 H4 H s
  goes : ∃ gs, s.gens[gi]? = some gs ∧ ∀ s', TotAt SA a s' → Kp sx s s' → gs.Goes (model X.prog X.w) Ag (fun n s0 r s1 => r = .ok .next ∧ gES X fp sx s4 H4 SA Dn n s0 s1) (gYS X fp sx s4 H4 tn SA W Yd) n (.send .none) s'
theorem Kp.trans {s s' s'' : Shared} (a : Kp sx s s') (b : Kp sx s' s'') : Kp sx s s'' := ⟨b.os.trans a.os, b.bare, fun c o n e => b.keep c o n (a.keep c o n e), b.own⟩
theorem gen_nextS {Ap : Around} {SA : Addr} {a : Int} {W : Nat → Nat → Int → Hp → Prop} {Dn : Int → Hp → Prop} {Yd : Nat → Nat → Int → V → Hp → Prop} {ga : Addr} {gi n : Nat} {s : Shared} {E : Value → Shared → Prop} (S : GSt X pins σ scope own ext tg code H4 s4 J fp it tn) (hh : Ap.handled = none) (hd : Ap.depth < recursionLimit)
    (ha : TotAt SA a s) (h : GAS X fp sx s4 H4 tn SA W Dn Yd Ap.in1 a ga gi (n + 1) s) :
    wpAny (model X.prog X.w) Ap (pyNext (.ref ga)) (fun r s1 => (r = none ∧ ∃ H, Dn a H ∧ CO X fp sx s4 H4 H s1 ∧ TotAt SA a s1) ∨
      ∃ v y i m H, r = some v ∧ RelV y v ∧ Yd i m a y H ∧ CO X fp sx s4 H4 H s1 ∧ TotAt SA a s1 ∧ m ≤ n ∧ ∀ m' a' s', m' < m → W (i + 1) m' a' H → Kp sx s1 s' → s'.gens = s1.gens → s'.heap.get? ga = s1.heap.get? ga → GAS X fp sx s4 H4 tn SA W Dn Yd Ap.in1 a' ga gi n s') E s := by
  obtain ⟨hg, hm, hm2, hne, ⟨H0, c0⟩, gs, hgs, hgo⟩ := h
  have hlt : gi + 1 ≤ s.gens.size := by
    by_cases q : gi < s.gens.size
    · exact q
    · rw [Array.getElem?_eq_none (Nat.le_of_not_lt q)] at hgs
      cases hgs
  refine GenW.wpAny_gsz hlt (wpAny_pyNext_genexpQ (P := gES X fp sx s4 H4 SA Dn) hh (lim_of S c0) hd hg hgs (hgo _ ha ⟨rfl, AllBare.set c0.bare rfl, fun _ _ _ e => e, fun b hb => (c0.sx b hb).1⟩) (fun v s1 gs' hb hy hsz => ?_) (fun s1 he h' hk _ => ?_))
  · obtain ⟨y, i, m, a1, H, at1, ry, yd, c1, t1, x1, hmn, hka⟩ := hy
    obtain rfl : a1 = a := at1.one ha
    have c2 : CO X fp sx s4 H4 H (s1.setGen gi gs') := c1.any rfl (AllBare.set c1.bare hb) fun _ _ e => e
    have at2 : TotAt SA a1 (s1.setGen gi gs') := ha.at (x1 SA hm2)
    refine .inr ⟨v, y, i, m, H, rfl, ry, yd, c2, at2, hmn, fun m' a' s' hm' w' kp hgens hga => ⟨?_, hm, hm2, hne, ⟨H, c2.kp kp⟩, gs', ?_, fun s'' ta kp2 => ?_⟩⟩
    · obtain ⟨o, nm, qn, ho, r⟩ := hg
      exact ⟨o, nm, qn, hga.trans ((x1 ga hm).trans ho), r⟩
    · have hsz2 : gi < s1.gens.size := by
        have q : (s1.setGen gi gs').gens.size = s1.gens.size := GenW.setGen_size _ _ _
        rw [q] at hsz
        exact hsz
      rw [hgens]
      simp [Shared.setGen, hsz2]
    · have kk := kp.trans kp2
      exact hka m' a' s'' hm' w' ta ⟨kk.os, kk.bare, kk.keep, kk.own⟩
  · obtain ⟨a1, H, at1, dn, c1, x1⟩ := he
    obtain rfl : a1 = a := at1.one ha
    have c2 : CO X fp sx s4 H4 H { s1.setGen gi .finished with heap := h' } := c1.any rfl (AllBare.set c1.bare rfl) hk
    refine .inl ⟨rfl, H, dn, c2, ?_⟩
    obtain ⟨t, c, e⟩ := ha
    exact ⟨t, c, hk _ _ ((x1 SA hm2).trans e)⟩
theorem kp_upd {SA : Addr} {s : Shared} {o : Obj} {f : Obj → Obj} {t : Tok} {H : Hp} (c : CO X fp sx s4 H4 H s) (hm : SA ∈ sx) (hS : s.heap.get? SA = some o) (hf : s.heap.update SA f = s.heap.update SA f) (hd : ∃ o', (s.heap.update SA f).get? SA = some o' ∧ ∀ v, o'.data ≠ .cell v) :
    Kp sx s { s with heap := s.heap.update SA f, toks := t } := by
  refine ⟨rfl, c.bare, fun b o' n e => (Heap.get?_update_other _ _ (fun h : SA = b => n (h ▸ hm))).trans e, fun b hb => ?_⟩
  by_cases q : SA = b
  · subst q
    exact hd
  · obtain ⟨⟨o', e, d⟩, _⟩ := c.sx b hb
    exact ⟨o', (Heap.get?_update_other _ _ q).trans e, d⟩
theorem sum_walk {W : Nat → Nat → Int → Hp → Prop} {QD : Int → Hp → Prop} {SA ga : Addr} {gi : Nat} {R : Result → Shared → Prop} (S : GSt X pins σ scope own ext tg code H4 s4 J fp it tn) (hh : X.A.handled = none) (hd : X.A.depth < recursionLimit)
    (hR : ∀ (a : Int) (t : Tok) (H : Hp) (s' : Shared), QD a H → CO X fp sx s4 H4 H s' → R (.ok (.ret (.int a t))) s') :
    ∀ (n : Nat) (s : Shared) (a : Int) (st : Int), (st = 0 ∨ st = 2) → TotAt SA a s → GAS X fp sx s4 H4 tn SA W QD (fun i m a y H => ∃ b, y = V.int b ∧ ∃ m', m' < m ∧ W (i + 1) m' (a + b) H) X.A.in1.in1 a ga gi (n + 1) s →
      codeAny (model X.prog X.w) X.A (.builtin "sum.loop" ⟨[.ref ga, .ref SA, rawInt st, rawInt 0], []⟩) R s := by
  intro n
  induction n with
  | zero =>
    intro s a st hst hat h
    obtain ⟨tA, c0, hS⟩ := id hat
    refine codeAny_builtin F.entry_sum_loop ?_
    rw [Around.under_plainId F.plain_sum_loop _]
    show wpAny _ X.A.in1 (seqItems? (.ref SA) >>= _) _ _ s
    refine wpAny_bind (wpAny_seqItems hS rfl ?_)
    show wpAny _ X.A.in1 (tryCatch (pyNext (.ref ga)) _ >>= _) _ _ s
    refine wpAny_bind (wpAny_tryCatch (wpAny_mono (gen_nextS (E := fun _ _ => False) S hh hd hat h) (fun r s1 hr => ?_) fun _ _ z => False.elim z))
    rcases hr with ⟨rfl, H, dn, c1, _⟩ | ⟨v, y, i, m, H, rfl, ry, ⟨b, rfl, m', hm', w'⟩, c1, at1, hm, more⟩
    · exact wpAny_pure (hR a tA H s1 dn c1)
    · omega
  | succ n ih =>
    intro s a st hst hat h
    have gmem := h.mem2
    have gne := h.ne
    obtain ⟨tA, c0, hS⟩ := id hat
    refine codeAny_builtin F.entry_sum_loop ?_
    rw [Around.under_plainId F.plain_sum_loop _]
    show wpAny _ X.A.in1 (seqItems? (.ref SA) >>= _) _ _ s
    refine wpAny_bind (wpAny_seqItems hS rfl ?_)
    show wpAny _ X.A.in1 (tryCatch (pyNext (.ref ga)) _ >>= _) _ _ s
    refine wpAny_bind (wpAny_tryCatch (wpAny_mono (gen_nextS (E := fun _ _ => False) S hh hd hat h) (fun r s' hr => ?_) fun _ _ z => False.elim z))
    rcases hr with ⟨rfl, H, dn, c1, _⟩ | ⟨v, y, i, m, H, rfl, ry, ⟨b, rfl, m', hm', w'⟩, c1, at1, hm, more⟩
    · exact wpAny_pure (hR a tA H s' dn c1)
    obtain ⟨t, rfl⟩ : ∃ t, v = Value.int b t := ry
    obtain ⟨tB, c1', hS'⟩ := id at1
    have go : ∀ (s'' : Shared) (st' : Int), (st' = 0 ∨ st' = 2) → TotAt SA (a + b) s'' → Kp sx s' s'' → s''.gens = s'.gens → s''.heap.get? ga = s'.heap.get? ga → codeAny (model X.prog X.w) X.A (.builtin "sum.loop" ⟨[.ref ga, .ref SA, rawInt st', rawInt 0], []⟩) R s'' :=
      fun s'' st' h1 h2 h3 h4 h5 => ih s'' (a + b) st' h1 h2 (more m' (a + b) s'' hm' w' h3 h4 h5)
    rcases hst with rfl | rfl
    · show wpAny _ X.A.in1 (if (_ : Bool) = true then (mkInt (a + b) >>= _) else _) _ _ _
      split
      · refine wpAny_bind (wpAny_mkInt ?_)
        show wpAny _ X.A.in1 (updateSeq SA (fun _ => #[.int (a + b) s'.toks]) >>= _) _ _ _
        refine wpAny_bind ?_
        refine wpAny_updateSeq hS' rfl (wpAny_pure ⟨plainId_quiet F.plain_sum_loop _, go _ 0 (.inl rfl) ⟨_, _, Heap.get?_update_self _ hS' rfl⟩ (kp_upd c1 gmem hS' rfl ⟨_, Heap.get?_update_self _ hS' rfl, fun v z => by cases z⟩) rfl (Heap.get?_update_other _ _ gne.symm)⟩)
      · refine wpAny_bind (wpAny_rule ?_)
        refine wpAny_bind (wpAny_attempt (wpAny_holding (wpAny_add_int ?_)))
        show wpAny _ X.A.in1 (updateSeq SA (fun _ => #[.int (a + b) s'.toks]) >>= _) _ _ _
        refine wpAny_bind (wpAny_updateSeq hS' rfl ?_)
        have hS₂ := Heap.get?_update_self (Obj.mapSeq fun _ => #[Value.int (a + b) s'.toks]) hS' rfl
        refine wpAny_bind (wpAny_letGo ?_)
        have k1 : Kp sx s' { s' with heap := s'.heap.update SA (Obj.mapSeq fun _ => #[Value.int (a + b) s'.toks]), toks := s'.toks + 1 } := kp_upd c1 gmem hS' rfl ⟨_, hS₂, fun v z => by cases z⟩
        refine wpAny_bind (wpAny_updateSeq hS₂ rfl (wpAny_pure ⟨plainId_quiet F.plain_sum_loop _, go _ 2 (.inr rfl) ⟨_, _, Heap.get?_update_self _ hS₂ rfl⟩ (k1.trans (kp_upd (c1.kp k1) gmem hS₂ rfl ⟨_, Heap.get?_update_self _ hS₂ rfl, fun v z => by cases z⟩)) rfl ((Heap.get?_update_other _ _ gne.symm).trans (Heap.get?_update_other _ _ gne.symm))⟩))
    · show wpAny _ X.A.in1 ((holding [Value.int b t] (binaryOp .Add (.int a tA) (.int b t))).attempt >>= _) _ _ _
      refine wpAny_bind (wpAny_attempt (wpAny_holding (wpAny_add_int ?_)))
      show wpAny _ X.A.in1 (updateSeq SA (fun _ => #[.int (a + b) s'.toks]) >>= _) _ _ _
      refine wpAny_bind (wpAny_updateSeq hS' rfl ?_)
      have hS₂ := Heap.get?_update_self (Obj.mapSeq fun _ => #[Value.int (a + b) s'.toks]) hS' rfl
      refine wpAny_bind (wpAny_letGo ?_)
      have k1 : Kp sx s' { s' with heap := s'.heap.update SA (Obj.mapSeq fun _ => #[Value.int (a + b) s'.toks]), toks := s'.toks + 1 } := kp_upd c1 gmem hS' rfl ⟨_, hS₂, fun v z => by cases z⟩
      refine wpAny_bind (wpAny_updateSeq hS₂ rfl (wpAny_pure ⟨plainId_quiet F.plain_sum_loop _, go _ 2 (.inr rfl) ⟨_, _, Heap.get?_update_self _ hS₂ rfl⟩ (k1.trans (kp_upd (c1.kp k1) gmem hS₂ rfl ⟨_, Heap.get?_update_self _ hS₂ rfl, fun v z => by cases z⟩)) rfl ((Heap.get?_update_other _ _ gne.symm).trans (Heap.get?_update_other _ _ gne.symm))⟩))
/-- one more object of the consumer's own -/
theorem CO.more {H : Hp} {s s' : Shared} {o : Obj} (S : GSt X pins σ scope own ext tg code H4 s4 J fp it tn) (h : CO X fp sx s4 H4 H s) (os : s'.os = s.os) (bare : AllBare s'.gens) (hk : ∀ b u, s.heap.get? b = some u → s'.heap.get? b = some u) (hS : s'.heap.get? s.heap.objs.size = some o) (hd : ∀ v, o.data ≠ .cell v) : CO X fp (s.heap.objs.size :: sx) s4 H4 H s' := by
  have c := h.any os bare hk
  obtain ⟨m, ob, es, ep, ho, r⟩ := h.ns
  have l4 : s4.heap.objs.size < s.heap.objs.size := Heap.lt_size ho
  have new : ∀ b, s.heap.objs.size ≤ b → H b = none := fun b hb => h.hok.fresh hb
  refine ⟨c.os, c.bare, c.un, c.hok, c.ns, c.free, c.fr, fun b hb => ?_⟩
  rcases List.mem_cons.mp hb with e | e
  · rw [e]
    refine ⟨⟨o, hS, hd⟩, new _ (Nat.le_refl _), Nat.ne_of_gt l4, fun z => ?_, fun z => ?_, ?_⟩
    · rcases List.mem_cons.mp (S.inv.stkSub _ z) with e | e
      · have z2 := S.inv.lt
        rw [← e] at z2
        exact absurd (Nat.lt_trans l4 z2) (Nat.lt_irrefl _)
      · exact S.inv.nofs (Nat.le_of_lt l4) e
    · exact absurd (Nat.lt_trans l4 (S.lt _ z)) (Nat.lt_irrefl _)
    · cases q : s4.heap.get? s.heap.objs.size with
      | none => rfl
      | some u => exact absurd (Nat.lt_trans l4 (Heap.lt_size q)) (Nat.lt_irrefl _)
  · exact c.sx b e
end
section
variable {X : Cx} {pins : List (Addr × Obj)} {σ : L2.St} {H : Hp} {s : Shared} {scope : Scope} {own : List (Str × Nat)} {ext : List Str} {tg elt iter : Expr} {pos p cpos : Pos} {c P : Addr} {wi : TI} {k : Nat} {g : TG} {te : TE}
/-- sum(..) of the expression over ints -/
def tSumG (P : Addr) (wi : TI) (g : TG) (te : TE) (own : List (Str × Nat)) (ext : List Str) : TE := fun σ H Q => wi σ H fun J H1 => GxR.TabG H1 P ∧ ∀ H2, GxR.Tabbed P H1 H2 → ∃ W : Nat → Nat → Int → Hp → Prop, (∃ m, W 0 m 0 H2) ∧
  ∀ i m a H, W i m a H → (J.stop i H ∧ Q (.int a) H) ∨ (J.go i H ∧ ∃ N : Int → Hp → Prop, (∀ a' H', N a' H' → ∃ m', m' < m ∧ W (i + 1) m' a' H') ∧ ∀ x H', J.yld i H x H' → g x (gS σ own ext) H' fun σ2 H2 => te σ2 H2 fun v H3 => ∃ b, v = V.int b ∧ N (a + b) H3)
theorem pe_sumG (hr : Room (k + 2) X.A) (hg : Gl X "sum") (hm : X.mg "sum" = none) (TB : GxR.TabB X.base X.mg c P) (hcode : X.env.code = .ref c) (G : GOk X.N X.env.scope scope own ext) (hi : PI X tg iter wi)
    (ht : ∀ (code : Value) (fp : List Addr) (s4 : Shared) (H4 : Hp) (B : Around), PG (gCx X scope code fp s4 H4 B ext) tg g) (he : ∀ (code : Value) (fp : List Addr) (s4 : Shared) (H4 : Hp) (B : Around), Room k B → PE (gCx X scope code fp s4 H4 B ext) elt te)
    (hb : bootBuiltins "sum" = some (.builtin "sum") := by decide +kernel)
    (hs : ∀ v, genFold iter X.env v = pure v := by intro _; rfl) (hst : starEach [.GeneratorExp elt [⟨tg, iter, [], 0⟩] scope pos] X.env = (false, eval (.GeneratorExp elt [⟨tg, iter, [], 0⟩] scope pos) X.env) :: starEach [] X.env := by rfl) :
    PE X (.Call (.Name "sum" p) [.GeneratorExp elt [⟨tg, iter, [], 0⟩] scope pos] [] cpos) (tSumG P wi g te own ext) := by
  constructor
  intro pins s σ H Q I h
  refine wpAny_Call_Name_kw (ld_blt I hg hm hb (PyProof.Rows.callWith_builtin1 ?_ hst (by rfl)))
  rw [hst]
  show wpAny _ _ (spliced ((false, eval (.GeneratorExp elt [⟨tg, iter, [], 0⟩] scope pos) X.env) :: backTo cpos (starEach [] X.env))) _ _ s
  refine Calls.spliced_cons (gen_eval hr TB hcode G hi hs I h fun J fp it tn H1 H4 s4 s5 code ga gi q htab S t5 c5 hgen hgs => Calls.spliced_nil ?_)
  obtain ⟨W, ⟨m, w0⟩, turn⟩ := q H4 htab
  have rm : Room k (X.A.in1.in1.over (gLoop X tg elt iter scope pos it s4 code) []) := room_over (room_in1 hr) rfl rfl
  refine call_function_tree F.kind_sum F.plain_sum F.entry_sum (F.args_sum1 _) ?_
  unfold Builtin.«sum»
  simp only [List.length_cons, List.length_nil]
  rw [if_neg (by decide)]
  refine wpAny_bind (wpAny_of_eq (show Builtin.Builtins.bindParams "sum" ["start"] 0 { } = pure [none] from rfl) ?_)
  refine wpAny_bind (wpAny_pyIter_gen hgen ?_)
  refine wpAny_bind (wpAny_mkInt ?_)
  refine wpAny_bind (wpAny_pure ?_)
  simp only [List.forIn_cons, List.forIn_nil]
  refine wpAny_bind (wpAny_bind (wpAny_bind (wpAny_isInstance (T := "int") (b := false) (typeIs_int _ _ _) PySem.sub_int_str ?_)))
  simp only [Bool.false_eq_true, if_false]
  refine wpAny_pure (wpAny_bind (wpAny_bind (wpAny_isInstance (T := "int") (b := false) (typeIs_int _ _ _) PySem.sub_int_bytes ?_)))
  simp only [Bool.false_eq_true, if_false]
  refine wpAny_pure (wpAny_bind (wpAny_bind (wpAny_isInstance (T := "int") (b := false) (typeIs_int _ _ _) PySem.sub_int_bytearray ?_)))
  simp only [Bool.false_eq_true, if_false]
  refine wpAny_pure (wpAny_pure ?_)
  refine wpAny_bind (wpAny_newObj_type ?_)
  have gaS : ga < s5.heap.objs.size := by
    obtain ⟨o, nm, qn, ho, _⟩ := hgen
    exact Heap.lt_size ho
  refine wpAny_pure ⟨plainId_quiet F.plain_sum_loop _, ?_⟩
  have hk : ∀ (b : Addr) (u : Obj), s5.heap.get? b = some u → (s5.heap.push { cls := .type "list", data := .seq #[.int 0 s5.toks] }).get? b = some u := fun b u e => Heap.get?_push_of_some _ e
  have hS : (s5.heap.push { cls := .type "list", data := .seq #[.int 0 s5.toks] }).get? s5.heap.objs.size = some { cls := .type "list", data := .seq #[.int 0 s5.toks] } := Heap.get?_push_size _ rfl
  have c6 := CO.more (s' := { s5 with heap := s5.heap.push { cls := .type "list", data := .seq #[.int 0 s5.toks] }, toks := s5.toks + 1 }) S c5 rfl c5.bare hk hS (fun v z => by cases z)
  have t6 : tn 0 (s5.heap.push { cls := .type "list", data := .seq #[.int 0 s5.toks] }) := S.turn.keep _ _ _ t5 fun b hb o e => hk b o e
  have hat : TotAt s5.heap.objs.size 0 { s5 with heap := s5.heap.push { cls := .type "list", data := .seq #[.int 0 s5.toks] }, toks := s5.toks + 1 } := ⟨_, _, hS⟩
  refine sum_walk (W := W) (QD := fun a H' => Q (.int a) H') S hr.hd hr.depth (fun a t H' s' hb hc => EP_of (v := .int a) S hc ⟨t, rfl⟩ hb) m _ 0 0 (.inl rfl) hat ⟨?_, List.mem_cons_of_mem _ List.mem_cons_self, List.mem_cons_self, Nat.ne_of_lt gaS, ⟨H4, c6⟩, _, hgs, fun s' ta kp => ⟨rfl, ?_⟩⟩
  · obtain ⟨o, nm, qn, ho, r⟩ := hgen
    exact ⟨o, nm, qn, hk _ _ ho, r⟩
  have t7 : tn 0 s'.heap := S.turn.keep _ _ _ t6 fun b hb o e => kp.keep b o (fun z => (c6.sx b z).2.2.2.2.1 hb) e
  refine seg_first (Ag := X.A.in1.in1) S hr.hd t7 (seg_loopS (Ag := X.A.in1.in1) S S.inv.ok.frames hr.hd (ht ..) (he _ _ _ _ _ rm) W _ _ (fun i m a H w => ?_) (m + 1) 0 m 0 H4 s' (Nat.lt_succ_self m) w0 ta (c6.kp kp) t7)
  rcases turn i m a H w with z | ⟨go, N, hN, step⟩
  · exact .inl z
  · exact .inr ⟨go, _, fun v H3 ⟨b, e, q⟩ => ⟨b, e, hN _ _ q⟩, step⟩
end
/-! ### readings over any walk -/
section
variable {J : It} {n : Nat} {G : Hp → Prop} {Y : Nat → Hp → V → Hp → Prop} {g : TG} {te : TE} {σg : L2.St} {H1 : Hp} {P : Addr} {Q : VK} {st : Bool}
/-- any, all over any walk -/
theorem gen_it (w : Walk J n G Y) (Pv : Nat → Hp → Prop) (h0 : ∀ H2, GxR.Tabbed P H1 H2 → Pv 0 H2) (hG : ∀ i H, i ≤ n → Pv i H → G H)
    (hs : ∀ i x H H', i < n → Pv i H → Y i H x H' → g x σg H' fun σ2 H2 => te σ2 H2 fun v H3 => ∃ b, v = V.bl b ∧ if b = st then Q (.bl st) H3 else Pv (i + 1) H3) (hd : ∀ H, Pv n H → Q (.bl (!st)) H) :
    ∀ H2, GxR.Tabbed P H1 H2 → ∃ W : Nat → Nat → Hp → Prop, (∃ m, W 0 m H2) ∧ ∀ i m H, W i m H → (J.stop i H ∧ Q (.bl (!st)) H) ∨ (J.go i H ∧ ∃ N : Hp → Prop, (∀ H', N H' → ∃ m', m' < m ∧ W (i + 1) m' H') ∧
      ∀ x H', J.yld i H x H' → g x σg H' fun σ2 H2 => te σ2 H2 fun v H3 => ∃ b, v = V.bl b ∧ if b = st then Q (.bl st) H3 else N H3) := by
  intro H2 tb
  refine ⟨fun i m H => m = n - i ∧ i ≤ n ∧ Pv i H, ⟨n, by simp, Nat.zero_le _, h0 H2 tb⟩, ?_⟩
  rintro i m H ⟨rfl, hi, p⟩
  have q := hG i H hi p
  by_cases hlt : i < n
  · exact .inr ⟨w.goes i H hlt q, Pv (i + 1), fun H' p' => ⟨n - (i + 1), by omega, rfl, hlt, p'⟩, fun x H' y => hs i x H H' hlt p (w.yields i H x H' hlt q y)⟩
  · obtain rfl : i = n := by omega
    exact .inl ⟨w.stops H q, hd H p⟩
/-- sum over any walk: Pv also tells the total -/
theorem sum_it (w : Walk J n G Y) (Pv : Nat → Int → Hp → Prop) (h0 : ∀ H2, GxR.Tabbed P H1 H2 → Pv 0 0 H2) (hG : ∀ i a H, i ≤ n → Pv i a H → G H)
    (hs : ∀ i a x H H', i < n → Pv i a H → Y i H x H' → g x σg H' fun σ2 H2 => te σ2 H2 fun v H3 => ∃ b, v = V.int b ∧ Pv (i + 1) (a + b) H3) (hd : ∀ a H, Pv n a H → Q (.int a) H) :
    ∀ H2, GxR.Tabbed P H1 H2 → ∃ W : Nat → Nat → Int → Hp → Prop, (∃ m, W 0 m 0 H2) ∧ ∀ i m a H, W i m a H → (J.stop i H ∧ Q (.int a) H) ∨ (J.go i H ∧ ∃ N : Int → Hp → Prop, (∀ a' H', N a' H' → ∃ m', m' < m ∧ W (i + 1) m' a' H') ∧
      ∀ x H', J.yld i H x H' → g x σg H' fun σ2 H2 => te σ2 H2 fun v H3 => ∃ b, v = V.int b ∧ N (a + b) H3) := by
  intro H2 tb
  refine ⟨fun i m a H => m = n - i ∧ i ≤ n ∧ Pv i a H, ⟨n, by simp, Nat.zero_le _, h0 H2 tb⟩, ?_⟩
  rintro i m a H ⟨rfl, hi, p⟩
  have q := hG i a H hi p
  by_cases hlt : i < n
  · exact .inr ⟨w.goes i H hlt q, Pv (i + 1), fun a' H' p' => ⟨n - (i + 1), by omega, rfl, hlt, p'⟩, fun x H' y => hs i a x H H' hlt p (w.yields i H x H' hlt q y)⟩
  · obtain rfl : i = n := by omega
    exact .inl ⟨w.stops H q, hd a H p⟩
end
end GX

/-! ### a constant of the module that is a tuple of tuples; tuple.index -/
namespace CT2
open PySem PySem.Spec PyProof.Rows L2 Cm
def TyT (K : PySem.W.Frag) (r : Addr) : Prop := ∃ o, K.lookup r = some o ∧ o.cls = .type "tuple" ∧ o.dict = none
theorem tyT {K : PySem.W.Frag} {r : Addr} {H : Hp} (h : TyT K r) : tyV K "tuple" (.ref r) H := .inr (.inl ⟨rfl, h⟩)
def RowAt (K : PySem.W.Frag) (r : Addr) (row : List V) : Prop := (∀ H, SqT K H r row) ∧ TyT K r
def CTT (K : PySem.W.Frag) (mg : Str → Option Value) (x : Str) (rows : List (List V)) : Prop := ∃ (p : Addr) (rs : List Addr), mg x = some (.ref p) ∧ (∀ H, SqT K H p (rs.map V.ref)) ∧ Paired (RowAt K) rs rows
theorem ctt_get {α β : Type} {R : α → β → Prop} : ∀ {rs : List α} {rows : List β} {i : Nat} {row : β}, Paired R rs rows → rows[i]? = some row → ∃ r, rs[i]? = some r ∧ R r row
  | _, _, i, _, .nil, h => by simp at h
  | _, _, 0, _, .cons h r, e => by
    simp at e
    subst e
    exact ⟨_, rfl, h⟩
  | _, _, i + 1, _, .cons h r, e => by
    obtain ⟨s, h1, h2⟩ := ctt_get r (by simpa using e)
    exact ⟨s, by simpa using h1, h2⟩
theorem vals_refs : ∀ rs : List Addr, Vals (rs.map V.ref) (rs.map Value.ref)
  | [] => .nil
  | r :: rs => .cons rfl (vals_refs rs)
theorem row_mk {K : PySem.W.Frag} {p : Addr} {od : Option Addr} {its : Array Value} {n : Nat} {sl : Array (Option Value)} {xs : List V} (l : K.lookup p = some ⟨.type "tuple", od, .seq its n, sl⟩) (hv : Vals xs its.toList) (hs : xs.length ≤ sizeLine) : ∀ H, SqT K H p xs := fun H => by
  have e : its.size ≤ sizeLine := by
    rw [← Array.length_toList, ← hv.length]
    exact hs
  exact .inr ⟨_, its, n, l, rfl, rfl, e, hv⟩
theorem rowAt_mk {K : PySem.W.Frag} {p : Addr} {its : Array Value} {n : Nat} {sl : Array (Option Value)} {xs : List V} (l : K.lookup p = some ⟨.type "tuple", none, .seq its n, sl⟩) (hv : Vals xs its.toList) (hs : xs.length ≤ sizeLine) : RowAt K p xs := ⟨row_mk l hv hs, _, l, rfl, rfl⟩
theorem ctt_mk {K : PySem.W.Frag} {h : Heap} {mg : Str → Option Value} {x : Str} {p : Addr} {od : Option Addr} {its : Array Value} {n : Nat} {sl : Array (Option Value)} {rs : List Addr} {rows : List (List V)} (X : K.In h) (G : h.Ns mainGlobals mg) (a : PySem.W.nsIn K mainGlobals x = some (some (.ref p)))
    (l : K.lookup p = some ⟨.type "tuple", od, .seq its n, sl⟩) (e : its.toList = rs.map Value.ref) (hs : rs.length ≤ sizeLine) (hr : Paired (RowAt K) rs rows) : CTT K mg x rows :=
  ⟨p, rs, PySem.W.mg_of X G a, row_mk l (by rw [e]; exact vals_refs rs) (by rw [List.length_map]; exact hs), hr⟩
theorem pe_globTT {X : Cx} {x : Str} {rows : List (List V)} {pos : Pos} (hg : Gl X x) (h : CTT X.K X.mg x rows) (hd : (x == ("__debug__" : Str)) = false := by decide) :
    PE X (.Name x pos) (fun _ H Q => ∀ (p : Addr) (rs : List Addr), (∀ H', SqT X.K H' p (rs.map V.ref)) → (∀ (i : Nat) (row : List V), rows[i]? = some row → ∃ r : Addr, (rs.map V.ref)[i]? = some (V.ref r) ∧ (∀ H', SqT X.K H' r row) ∧ TyT X.K r) → Q (.ref p) H) := by
  obtain ⟨p, rs, hm, hs, hr⟩ := h
  refine ⟨fun pins s σ H Q I h => (pe_glob hg hm (v := .ref p) rfl hd).run pins s σ H Q I (h p rs hs fun i row e => ?_)⟩
  obtain ⟨r, h1, h2⟩ := ctt_get hr e
  exact ⟨r, by rw [List.getElem?_map, h1]; rfl, h2⟩
def rIndexT (K : PySem.W.Frag) : V → List V → Hp → VK → Prop := fun x xs H Q => ∃ (a : Addr) (ys : List V) (y : V) (j : Nat) (z : V), x = V.ref a ∧ xs = [y] ∧ SqT K H a ys ∧ flatV y = true ∧ ys.all flatV = true ∧ ys[j]? = some z ∧ eqV z y = true ∧
  (∀ (m : Nat) (z' : V), m < j → ys[m]? = some z' → eqV z' y = false) ∧ Q (.int (j : Nat)) H
theorem mt_indexT {X : Cx} : MtR X "tuple.index" (rIndexT X.K) := by
  intro pins s σ H x xs v us Q I rx rxs h
  obtain ⟨a, ys, y, j, z, rfl, rfl, hs, fy, fys, hz, hzj, hno, q⟩ := h
  cases rx
  cases rxs with
  | cons ry rt =>
    rename_i uy ut
    cases rt
    obtain ⟨its, rv, pl, hlen⟩ := I.tuple hs
    obtain ⟨⟨cls, dd, data, sl⟩, ho, hc, n, hd⟩ := pl
    simp only at hc hd
    subst hc hd
    obtain ⟨u, hu, ru⟩ := rv.get hz
    obtain ⟨hjl, hje⟩ := List.getElem?_eq_some_iff.mp hu
    have hvl := rv.length
    have hj : j < its.toArray.size := by simpa using hjl
    refine call_meets PySem.F.slot_tuple_index ⟨_, ho, rfl⟩ PySem.F.entry_tuple_index (PySem.F.args_tuple_index_2 _ _)
      (TI.tuple_indexAt a its.toArray n dd sl uy (eqU y) j hj ?_ ?_) ⟨ho, fun u' hu' => mem_eqAt ry fy rv fys u' (by simpa using hu'), ?_⟩
    · have e1 : its.toArray[j] = u := by simpa using hje
      rw [e1, eqU_of ru (flat_at fys hz)]
      exact hzj
    · intro m hm hmj
      have hml : m < its.length := by simpa using hm
      have hmy : m < ys.length := by omega
      have hy' : ys[m]? = some ys[m] := List.getElem?_eq_getElem hmy
      obtain ⟨u2, hu2, ru2⟩ := rv.get hy'
      obtain ⟨_, hme⟩ := List.getElem?_eq_some_iff.mp hu2
      have e1 : its.toArray[m] = u2 := by simpa using hme
      rw [e1, eqU_of ru2 (flat_at fys hy')]
      exact hno m _ hmj hy'
    · exact ⟨.int (j : Nat), H, I.tok _, ⟨_, rfl⟩, q⟩
end CT2

/-! ### three comparisons in a row -/
namespace CH3
open PySem PySem.Spec PyProof.Rows L2 Cm
open Sem (wp)
variable {X : Cx} {a b c d : Expr} {pos : Pos} {ta tb tc td : TE}
/-- the rest of a row, from its second comparison on: y stands to its left -/
def tRest (r2 r3 : R2) (tc td : TE) (y : V) : TE := fun σ H Q => tc σ H fun u H4 => r2 y u H4 fun z H5 => ∃ k, z = V.bl k ∧ (if k = true then td σ H5 fun v H6 => r3 u v H6 Q else Q (.bl false) H5)
def tThree (r1 r2 r3 : R2) (ta tb tc td : TE) : TE := fun σ H Q => ta σ H fun x H1 => tb σ H1 fun y H2 => r1 x y H2 fun z H3 => ∃ k, z = V.bl k ∧ (if k = true then tRest r2 r3 tc td y σ H3 Q else Q (.bl false) H3)
theorem pe_three {op1 op2 op3 : CmpOp} {r1 r2 r3 : R2} (h1 : OpR X (compareOp op1) r1) (h2 : OpR X (compareOp op2) r2) (h3 : OpR X (compareOp op3) r3) (ha : PE X a ta) (hb : PE X b tb) (hc : PE X c tc) (hd : PE X d td)
    (hm : lastMarks [op1, op2, op3] [b, c, d] = false := by with_unfolding_all rfl) : PE X (.Compare a [op1, op2, op3] [b, c, d] pos) (tThree r1 r2 r3 ta tb tc td) := by
  constructor
  intro pins s σ H Q I h
  refine Compare_chain ?_ hm
  refine thn (ha.run pins s σ H _ I h) ?_
  rintro v s1 ⟨x, H1, I1, e1, q1⟩
  refine chain_link ?_
  refine thn (hb.run pins s1 σ H1 _ I1 q1) ?_
  rintro u s2 ⟨y, H2, I2, e2, q2⟩
  refine thn (h1 pins s2 σ H2 x y v u _ I2 e1 e2 q2) ?_
  rintro _ s3 ⟨z, H3, I3, e3, k, rfl, q3⟩
  cases e3
  refine wpAny_truthy_bool ?_
  cases k
  · exact ite_ff ⟨.bl false, H3, I3, rfl, q3⟩
  refine ite_tt (chain_link ?_)
  refine thn (hc.run pins s3 σ H3 _ I3 q3) ?_
  rintro u4 s4 ⟨y4, H4, I4, e4, q4⟩
  refine thn (h2 pins s4 σ H4 y y4 u u4 _ I4 e2 e4 q4) ?_
  rintro _ s5 ⟨z5, H5, I5, e5, k, rfl, q5⟩
  cases e5
  refine wpAny_truthy_bool ?_
  cases k
  · exact ite_ff ⟨.bl false, H5, I5, rfl, q5⟩
  refine ite_tt (chain_last ?_)
  refine thn (hd.run pins s5 σ H5 _ I5 q5) ?_
  rintro u6 s6 ⟨y6, H6, I6, e6, q6⟩
  exact h3 pins s6 σ H6 y4 y6 u4 u6 Q I6 e4 e6 q6
theorem pt_three {op1 op2 op3 : CmpOp} {r1 r2 r3 : R2} (h1 : OpR X (compareOp op1) r1) (h2 : OpR X (compareOp op2) r2) (h3 : OpR X (compareOp op3) r3) (ha : PE X a ta) (hb : PE X b tb) (hc : PE X c tc) (hd : PE X d td)
    (hm : lastMarks [op1, op2, op3] [b, c, d] = false := by with_unfolding_all rfl) : PT X (.Compare a [op1, op2, op3] [b, c, d] pos) (tTest (tThree r1 r2 r3 ta tb tc td)) := by
  constructor
  intro pins s σ H Q I h
  refine isTrue_chain ?_ hm
  refine thn (ha.run pins s σ H _ I h) ?_
  rintro v s1 ⟨x, H1, I1, e1, q1⟩
  refine test_link ?_
  refine thn (hb.run pins s1 σ H1 _ I1 q1) ?_
  rintro u s2 ⟨y, H2, I2, e2, q2⟩
  refine thn (h1 pins s2 σ H2 x y v u _ I2 e1 e2 q2) ?_
  rintro _ s3 ⟨z, H3, I3, e3, k, rfl, q3⟩
  cases e3
  refine wpAny_truthy_bool ?_
  cases k
  · obtain ⟨k', e', q'⟩ := q3
    cases e'
    exact ite_ff ⟨H3, I3, q'⟩
  refine ite_tt (test_link ?_)
  refine thn (hc.run pins s3 σ H3 _ I3 q3) ?_
  rintro u4 s4 ⟨y4, H4, I4, e4, q4⟩
  refine thn (h2 pins s4 σ H4 y y4 u u4 _ I4 e2 e4 q4) ?_
  rintro _ s5 ⟨z5, H5, I5, e5, k, rfl, q5⟩
  cases e5
  refine wpAny_truthy_bool ?_
  cases k
  · obtain ⟨k', e', q'⟩ := q5
    cases e'
    exact ite_ff ⟨H5, I5, q'⟩
  refine ite_tt (test_last ?_)
  refine thn (hd.run pins s5 σ H5 _ I5 q5) ?_
  rintro u6 s6 ⟨y6, H6, I6, e6, q6⟩
  refine thn (h3 pins s6 σ H6 y4 y6 u4 u6 _ I6 e4 e6 q6) ?_
  rintro _ s7 ⟨z7, H7, I7, e7, k, rfl, q7⟩
  cases e7
  exact wpAny_truthy_bool ⟨H7, I7, q7⟩
/-- three tests of ints -/
theorem three {p q r : Prop} [Decidable p] [Decidable q] [Decidable r] {A B : Prop} (h1 : p ∧ q ∧ r → A) (h2 : ¬ (p ∧ q ∧ r) → B) : if (decide (p ∧ q ∧ r)) = true then A else B := by
  by_cases h : p ∧ q ∧ r
  · rw [if_pos (decide_eq_true h)]
    exact h1 h
  · rw [if_neg (by simpa using h)]
    exact h2 h
end CH3

/-! ### a tuple target, the written part named -/
namespace TK
open PySem PySem.Spec PyProof.Rows L2 Cm
theorem pg_tupK {X : Cx} {K : PySem.W.Frag} {es : List Expr} {k : Nat} {pos : Pos} {t : TGs} {n : Nat} (hK : X.K = K) (hc : X.calm = true) (h : PGs X es t)
    (hn : (assignEach es X.env).length = n := by rfl) (hst : (assignEach es X.env).findIdx? (·.1) = none := by rfl) : PG X (.Tuple es k pos) (gTup K n t) := by
  subst hK
  exact pg_tup hc h hn hst
theorem op_notInK {X : Cx} {K : PySem.W.Frag} (h : X.K = K := by rfl) : OpR X (compareOp .NotIn) (rIn K true) := by
  subst h
  exact op_notIn_seq
theorem op_inK {X : Cx} {K : PySem.W.Frag} (h : X.K = K := by rfl) : OpR X (compareOp .In) (rIn K false) := by
  subst h
  exact op_in_seq
def rListOf (K : PySem.W.Frag) : List V → Hp → VK → Prop := fun xs H Q => ∃ p ys, xs = [.ref p] ∧ (SqL K H p ys ∨ SqT K H p ys) ∧ ∀ l, H l = none → Q (.ref l) (upd H l (.lst ys))
theorem call_list_ofK {X : Cx} {K : PySem.W.Frag} (h : X.K = K := by rfl) (hc : X.calm = true := by rfl) : CallR X (.type "list") (rListOf K) := by
  subst h
  exact call_list_of
theorem pi_listK {X : Cx} {K : PySem.W.Frag} {tg e : Expr} {te : TE} (he : PE X e te) (h : X.K = K := by rfl) : PI X tg e (iList K te) := by
  subst h
  exact pi_list he
end TK

namespace My
open PySem PySem.Spec PyProof.Rows L2 Cm 
def top (i : Nat) : Stmt := PySem.Challenge.pw_scanpages_k48_whole_groups.main.body.getD i (.Pass ⟨0, 0, 0, 0⟩)
abbrev s_is_symbol : Stmt := (top 6)
abbrev N_is_symbol : List Str := ["integer"]
theorem sc_is_symbol : FnScope N_is_symbol ["integer"] (defScope s_is_symbol) := ⟨rfl, rfl, rfl, by decide +kernel, rfl, by decide +kernel, by decide +kernel⟩
abbrev s_multiply : Stmt := (top 7)
abbrev N_multiply : List Str := ["a", "b"]
theorem sc_multiply : FnScope N_multiply ["a", "b"] (defScope s_multiply) := ⟨rfl, rfl, rfl, by decide +kernel, rfl, by decide +kernel, by decide +kernel⟩
abbrev s_inverse : Stmt := (top 8)
abbrev N_inverse : List Str := ["a"]
theorem sc_inverse : FnScope N_inverse ["a"] (defScope s_inverse) := ⟨rfl, rfl, rfl, by decide +kernel, rfl, by decide +kernel, by decide +kernel⟩
abbrev s_plus_scaled : Stmt := (top 9)
abbrev N_plus_scaled : List Str := ["row", "other", "factor", "products", "symbol", "another"]
theorem sc_plus_scaled : FnScope N_plus_scaled ["row", "other", "factor"] (defScope s_plus_scaled) := ⟨rfl, rfl, rfl, by decide +kernel, rfl, by decide +kernel, by decide +kernel⟩
abbrev s__check_symbol : Stmt := (top 10)
abbrev N__check_symbol : List Str := ["a"]
theorem sc__check_symbol : FnScope N__check_symbol ["a"] (defScope s__check_symbol) := ⟨rfl, rfl, rfl, by decide +kernel, rfl, by decide +kernel, by decide +kernel⟩
abbrev s_extended : Stmt := (top 13)
abbrev N_extended : List Str := ["points", "rows", "targets", "found", "target", "total", "point", "row"]
theorem sc_extended : FnScope N_extended ["points", "rows", "targets"] (defScope s_extended) := ⟨rfl, rfl, rfl, by decide +kernel, rfl, by decide +kernel, by decide +kernel⟩
abbrev s__weight : Stmt := (top 14)
abbrev N__weight : List Str := ["points", "own", "target", "above", "below", "point"]
theorem sc__weight : FnScope N__weight ["points", "own", "target"] (defScope s__weight) := ⟨rfl, rfl, rfl, by decide +kernel, rfl, by decide +kernel, by decide +kernel⟩
abbrev s_check_bodies : Stmt := (top 16)
abbrev N_check_bodies : List Str := ["bodies", "checks", "count", "body"]
theorem sc_check_bodies : FnScope N_check_bodies ["bodies", "checks"] (defScope s_check_bodies) := ⟨rfl, rfl, rfl, by decide +kernel, rfl, by decide +kernel, by decide +kernel⟩
abbrev s_complete : Stmt := (top 17)
abbrev N_complete : List Str := ["bodies", "count", "data", "body", "points", "at", "missing", "computed"]
theorem sc_complete : FnScope N_complete ["bodies", "count"] (defScope s_complete) := ⟨rfl, rfl, rfl, by decide +kernel, rfl, by decide +kernel, by decide +kernel⟩
abbrev s__law_cell : Stmt := (top 19)
abbrev N__law_cell : List Str := ["script", "k"]
theorem sc__law_cell : FnScope N__law_cell ["script", "k"] (defScope s__law_cell) := ⟨rfl, rfl, rfl, by decide +kernel, rfl, by decide +kernel, by decide +kernel⟩
abbrev s__law_mix : Stmt := (top 20)
abbrev N__law_mix : List Str := ["cell", "k", "number"]
theorem sc__law_mix : FnScope N__law_mix ["cell", "k"] (defScope s__law_mix) := ⟨rfl, rfl, rfl, by decide +kernel, rfl, by decide +kernel, by decide +kernel⟩
abbrev s__law_row : Stmt := (top 21)
abbrev N__law_row : List Str := ["cell", "count", "bound", "found", "rest", "k"]
theorem sc__law_row : FnScope N__law_row ["cell", "count", "bound"] (defScope s__law_row) := ⟨rfl, rfl, rfl, by decide +kernel, rfl, by decide +kernel, by decide +kernel⟩
abbrev s__law_is_int : Stmt := (top 22)
abbrev N__law_is_int : List Str := ["value"]
theorem sc__law_is_int : FnScope N__law_is_int ["value"] (defScope s__law_is_int) := ⟨rfl, rfl, rfl, by decide +kernel, rfl, by decide +kernel, by decide +kernel⟩
abbrev s__law_times : Stmt := (top 23)
abbrev N__law_times : List Str := ["a", "b", "logs"]
theorem sc__law_times : FnScope N__law_times ["a", "b"] (defScope s__law_times) := ⟨rfl, rfl, rfl, by decide +kernel, rfl, by decide +kernel, by decide +kernel⟩
abbrev s__law_value_at : Stmt := (top 24)
abbrev N__law_value_at : List Str := ["poly", "point", "value", "symbol"]
theorem sc__law_value_at : FnScope N__law_value_at ["poly", "point"] (defScope s__law_value_at) := ⟨rfl, rfl, rfl, by decide +kernel, rfl, by decide +kernel, by decide +kernel⟩
abbrev s__law_reduced : Stmt := (top 25)
abbrev N__law_reduced : List Str := ["poly", "size", "k"]
theorem sc__law_reduced : FnScope N__law_reduced ["poly"] (defScope s__law_reduced) := ⟨rfl, rfl, rfl, by decide +kernel, rfl, by decide +kernel, by decide +kernel⟩
abbrev s__law_inverse : Stmt := (top 26)
abbrev N__law_inverse : List Str := ["a"]
theorem sc__law_inverse : FnScope N__law_inverse ["a"] (defScope s__law_inverse) := ⟨rfl, rfl, rfl, by decide +kernel, rfl, by decide +kernel, by decide +kernel⟩
abbrev s__law_at : Stmt := (top 27)
abbrev N__law_at : List Str := ["points", "values", "target", "total", "i", "factor", "j"]
theorem sc__law_at : FnScope N__law_at ["points", "values", "target"] (defScope s__law_at) := ⟨rfl, rfl, rfl, by decide +kernel, rfl, by decide +kernel, by decide +kernel⟩
abbrev s__law_codeword : Stmt := (top 28)
abbrev N__law_codeword : List Str := ["symbols", "size", "points", "point"]
theorem sc__law_codeword : FnScope N__law_codeword ["symbols", "size"] (defScope s__law_codeword) := ⟨rfl, rfl, rfl, by decide +kernel, rfl, by decide +kernel, by decide +kernel⟩
abbrev s__law_picks : Stmt := (top 29)
abbrev N__law_picks : List Str := ["cell", "count", "size", "order", "k", "place"]
theorem sc__law_picks : FnScope N__law_picks ["cell", "count", "size"] (defScope s__law_picks) := ⟨rfl, rfl, rfl, by decide +kernel, rfl, by decide +kernel, by decide +kernel⟩
abbrev s__law_refused : Stmt := (top 30)
abbrev N__law_refused : List Str := ["question", "bodies", "number", "e"]
theorem sc__law_refused : FnScope N__law_refused ["question", "bodies", "number"] (defScope s__law_refused) := ⟨rfl, rfl, rfl, by decide +kernel, rfl, by decide +kernel, by decide +kernel⟩
abbrev s_law : Stmt := (top 31)
abbrev N_law : List Str := ["script", "count", "checks", "size", "bodies", "k", "bad", "copy", "body", "more", "columns", "j", "column", "gone", "pages", "place", "before", "actual", "due"]
theorem sc_law : FnScope N_law ["script"] (defScope s_law) := ⟨rfl, rfl, rfl, by decide +kernel, rfl, by decide +kernel, by decide +kernel⟩
structure Txt (K : PySem.W.Frag) (mg : Str → Option Value) (C_ArchiveError C_InvalidSymbol c_check_bodies P_check_bodies : Addr) : Prop where
  d_is_symbol : Dn K mg "is_symbol" s_is_symbol ["integer"]
  d_multiply : Dn K mg "multiply" s_multiply ["a", "b"]
  d_inverse : Dn K mg "inverse" s_inverse ["a"]
  d_plus_scaled : Dn K mg "plus_scaled" s_plus_scaled ["row", "other", "factor"]
  d__check_symbol : Dn K mg "_check_symbol" s__check_symbol ["a"]
  d_extended : Dn K mg "extended" s_extended ["points", "rows", "targets"]
  d__weight : Dn K mg "_weight" s__weight ["points", "own", "target"]
  d_check_bodies : GX.DnC K mg "check_bodies" s_check_bodies ["bodies", "checks"] c_check_bodies
  d_complete : Dn K mg "complete" s_complete ["bodies", "count"]
  d__law_cell : Dn K mg "_law_cell" s__law_cell ["script", "k"]
  d__law_mix : Dn K mg "_law_mix" s__law_mix ["cell", "k"]
  d__law_row : Dn K mg "_law_row" s__law_row ["cell", "count", "bound"]
  d__law_times : Dn K mg "_law_times" s__law_times ["a", "b"]
  d__law_inverse : Dn K mg "_law_inverse" s__law_inverse ["a"]
  d__law_at : Dn K mg "_law_at" s__law_at ["points", "values", "target"]
  d__law_codeword : Dn K mg "_law_codeword" s__law_codeword ["symbols", "size"]
  d__law_picks : Dn K mg "_law_picks" s__law_picks ["cell", "count", "size"]
  d__law_refused : Dn K mg "_law_refused" s__law_refused ["question", "bodies", "number"]
  d_law : Dn K mg "law" s_law ["script"]
  c_SYMBOLS : CV mg "SYMBOLS" (.int 16)
  c_PRODUCTS : CT2.CTT K mg "PRODUCTS" [[V.int 0, V.int 0, V.int 0, V.int 0, V.int 0, V.int 0, V.int 0, V.int 0, V.int 0, V.int 0, V.int 0, V.int 0, V.int 0, V.int 0, V.int 0, V.int 0], [V.int 0, V.int 1, V.int 2, V.int 3, V.int 4, V.int 5, V.int 6, V.int 7, V.int 8, V.int 9, V.int 10, V.int 11, V.int 12, V.int 13, V.int 14, V.int 15], [V.int 0, V.int 2, V.int 4, V.int 6, V.int 8, V.int 10, V.int 12, V.int 14, V.int 3, V.int 1, V.int 7, V.int 5, V.int 11, V.int 9, V.int 15, V.int 13], [V.int 0, V.int 3, V.int 6, V.int 5, V.int 12, V.int 15, V.int 10, V.int 9, V.int 11, V.int 8, V.int 13, V.int 14, V.int 7, V.int 4, V.int 1, V.int 2], [V.int 0, V.int 4, V.int 8, V.int 12, V.int 3, V.int 7, V.int 11, V.int 15, V.int 6, V.int 2, V.int 14, V.int 10, V.int 5, V.int 1, V.int 13, V.int 9], [V.int 0, V.int 5, V.int 10, V.int 15, V.int 7, V.int 2, V.int 13, V.int 8, V.int 14, V.int 11, V.int 4, V.int 1, V.int 9, V.int 12, V.int 3, V.int 6], [V.int 0, V.int 6, V.int 12, V.int 10, V.int 11, V.int 13, V.int 7, V.int 1, V.int 5, V.int 3, V.int 9, V.int 15, V.int 14, V.int 8, V.int 2, V.int 4], [V.int 0, V.int 7, V.int 14, V.int 9, V.int 15, V.int 8, V.int 1, V.int 6, V.int 13, V.int 10, V.int 3, V.int 4, V.int 2, V.int 5, V.int 12, V.int 11], [V.int 0, V.int 8, V.int 3, V.int 11, V.int 6, V.int 14, V.int 5, V.int 13, V.int 12, V.int 4, V.int 15, V.int 7, V.int 10, V.int 2, V.int 9, V.int 1], [V.int 0, V.int 9, V.int 1, V.int 8, V.int 2, V.int 11, V.int 3, V.int 10, V.int 4, V.int 13, V.int 5, V.int 12, V.int 6, V.int 15, V.int 7, V.int 14], [V.int 0, V.int 10, V.int 7, V.int 13, V.int 14, V.int 4, V.int 9, V.int 3, V.int 15, V.int 5, V.int 8, V.int 2, V.int 1, V.int 11, V.int 6, V.int 12], [V.int 0, V.int 11, V.int 5, V.int 14, V.int 10, V.int 1, V.int 15, V.int 4, V.int 7, V.int 12, V.int 2, V.int 9, V.int 13, V.int 6, V.int 8, V.int 3], [V.int 0, V.int 12, V.int 11, V.int 7, V.int 5, V.int 9, V.int 14, V.int 2, V.int 10, V.int 6, V.int 1, V.int 13, V.int 15, V.int 3, V.int 4, V.int 8], [V.int 0, V.int 13, V.int 9, V.int 4, V.int 1, V.int 12, V.int 8, V.int 5, V.int 2, V.int 15, V.int 11, V.int 6, V.int 3, V.int 14, V.int 10, V.int 7], [V.int 0, V.int 14, V.int 15, V.int 1, V.int 13, V.int 3, V.int 2, V.int 12, V.int 9, V.int 7, V.int 6, V.int 8, V.int 4, V.int 10, V.int 11, V.int 5], [V.int 0, V.int 15, V.int 13, V.int 2, V.int 9, V.int 6, V.int 4, V.int 11, V.int 1, V.int 14, V.int 12, V.int 3, V.int 8, V.int 7, V.int 5, V.int 10]]
  c_LONGEST : CV mg "LONGEST" (.int 16)
  n_zip : mg "zip" = none
  n_len : mg "len" = none
  n_list : mg "list" = none
  n_all : mg "all" = none
  n_range : mg "range" = none
  n_enumerate : mg "enumerate" = none
  n_int : mg "int" = none
  n_abs : mg "abs" = none
  n_isinstance : mg "isinstance" = none
  n_min : mg "min" = none
  x_ArchiveError : XCl K mg "ArchiveError" C_ArchiveError
  x_InvalidSymbol : XCl K mg "InvalidSymbol" C_InvalidSymbol
  s_InvalidSymbol_ArchiveError : PySem.W.subIn K (.ref C_InvalidSymbol) (.ref C_ArchiveError) = some true
  q_InvalidSymbol_InvalidSymbol : PySem.W.kitOne K (.ref C_InvalidSymbol) (.ref C_InvalidSymbol) = some true
class Tbs (base : Heap) (mg : Str → Option Value) (c_check_bodies P_check_bodies : Addr) : Prop where
  t_check_bodies : GxR.TabB base mg c_check_bodies P_check_bodies
section
variable {P : Program} {w : World} {K : PySem.W.Frag} {mg : Str → Option Value} {base : Heap} {C_ArchiveError C_InvalidSymbol c_check_bodies P_check_bodies : Addr} [TBS : Tbs base mg c_check_bodies P_check_bodies]
/-! symbols -/
def powL : List Int := [1, 2, 4, 8, 3, 6, 12, 11, 5, 10, 7, 14, 15, 13, 9]
def expL : List Int := [0, 0, 1, 4, 2, 8, 5, 10, 3, 14, 9, 7, 6, 13, 11, 12]
def powV : List V := [V.int 1, V.int 2, V.int 4, V.int 8, V.int 3, V.int 6, V.int 12, V.int 11, V.int 5, V.int 10, V.int 7, V.int 14, V.int 15, V.int 13, V.int 9]
def expV : List V := [V.non, V.int 0, V.int 1, V.int 4, V.int 2, V.int 8, V.int 5, V.int 10, V.int 3, V.int 14, V.int 9, V.int 7, V.int 6, V.int 13, V.int 11, V.int 12]
def sym (a : Int) : Prop := 0 ≤ a ∧ a < 16
def addI (a b : Int) : Int := Builtin.bitXor a b
def mulI (a b : Int) : Int := if a = 0 ∨ b = 0 then 0 else powL.getD ((expL.getD a.toNat 0 + expL.getD b.toNat 0) % 15).toNat 0
def invI (a : Int) : Int := powL.getD ((15 - expL.getD a.toNat 0) % 15).toNat 0
theorem sym_all {p : Int → Prop} (h : ∀ i : Fin 16, p ((i.val : Nat) : Int)) {a : Int} (ha : sym a) : p a := by
  have e : ((a.toNat : Nat) : Int) = a := Int.toNat_of_nonneg ha.1
  have hlt : a.toNat < 16 := by have := ha.2; omega
  have z := h ⟨a.toNat, hlt⟩
  rw [e] at z
  exact z
theorem add_sym {a b : Int} (ha : sym a) (hb : sym b) : sym (addI a b) :=
  sym_all (p := fun a => sym (addI a b)) (fun i => sym_all (p := fun b => sym (addI i.val b)) (fun j => by revert i j; unfold sym addI; decide +kernel) hb) ha
theorem mul_sym {a b : Int} (ha : sym a) (hb : sym b) : sym (mulI a b) :=
  sym_all (p := fun a => sym (mulI a b)) (fun i => sym_all (p := fun b => sym (mulI i.val b)) (fun j => by revert i j; unfold sym mulI; decide +kernel) hb) ha
theorem exp_at {a : Int} (ha : sym a) (h0 : a ≠ 0) : atI expV a = some (.int (expL.getD a.toNat 0)) :=
  sym_all (p := fun a => a ≠ 0 → atI expV a = some (.int (expL.getD a.toNat 0))) (by decide +kernel) ha h0
theorem exp_in {a : Int} (ha : sym a) : 0 ≤ expL.getD a.toNat 0 ∧ expL.getD a.toNat 0 < 15 :=
  sym_all (p := fun a => 0 ≤ expL.getD a.toNat 0 ∧ expL.getD a.toNat 0 < 15) (by decide +kernel) ha
theorem pow_at {k : Int} (h0 : 0 ≤ k) (h1 : k < 15) : atI powV k = some (.int (powL.getD k.toNat 0)) :=
  sym_all (p := fun k => k < 15 → atI powV k = some (.int (powL.getD k.toNat 0))) (by decide +kernel) (a := k) ⟨h0, by omega⟩ h1
theorem mul_comm' {a b : Int} (ha : sym a) (hb : sym b) : mulI b a = mulI a b :=
  sym_all (p := fun a => mulI b a = mulI a b) (fun i => sym_all (p := fun b => mulI b i.val = mulI i.val b) (fun j => by revert i j; unfold mulI; decide +kernel) hb) ha
theorem mul_assoc' {a b c : Int} (ha : sym a) (hb : sym b) (hc : sym c) : mulI a (mulI b c) = mulI (mulI a b) c :=
  sym_all (p := fun a => mulI a (mulI b c) = mulI (mulI a b) c) (fun i => sym_all (p := fun b => mulI i.val (mulI b c) = mulI (mulI i.val b) c) (fun j => sym_all (p := fun c => mulI i.val (mulI j.val c) = mulI (mulI i.val j.val) c) (fun k => by revert i j k; unfold mulI; decide +kernel) hc) hb) ha
theorem mul_add' {a b c : Int} (ha : sym a) (hb : sym b) (hc : sym c) : mulI a (addI b c) = addI (mulI a b) (mulI a c) :=
  sym_all (p := fun a => mulI a (addI b c) = addI (mulI a b) (mulI a c)) (fun i => sym_all (p := fun b => mulI i.val (addI b c) = addI (mulI i.val b) (mulI i.val c)) (fun j => sym_all (p := fun c => mulI i.val (addI j.val c) = addI (mulI i.val j.val) (mulI i.val c)) (fun k => by revert i j k; unfold mulI addI; decide +kernel) hc) hb) ha

/-! the field and its polynomials, plainly -/
abbrev G := Fin 16
def ga (a b : G) : G := ⟨(a.val ^^^ b.val) % 16, Nat.mod_lt _ (by decide)⟩
def gm (a b : G) : G := ⟨(mulI (a.val : Int) (b.val : Int)).toNat % 16, Nat.mod_lt _ (by decide)⟩
def gv (a : G) : G := ⟨(invI (a.val : Int)).toNat % 16, Nat.mod_lt _ (by decide)⟩
def gi (a : G) : Int := ((a.val : Nat) : Int)
def vg (a : G) : V := .int (gi a)
theorem gi_sym (a : G) : sym (gi a) := ⟨Int.natCast_nonneg _, by have := a.isLt; unfold gi; omega⟩
theorem gi_inj {a b : G} (h : gi a = gi b) : a = b := Fin.ext (by unfold gi at h; omega)
theorem of_sym {x : Int} (h : sym x) : ∃ g : G, x = gi g := ⟨⟨x.toNat, by have := h.1; have := h.2; omega⟩, by have := h.1; show x = ((x.toNat : Nat) : Int); omega⟩
theorem of_syms : ∀ {l : List Int}, (∀ x ∈ l, sym x) → ∃ gl : List G, l = gl.map gi
  | [], _ => ⟨[], rfl⟩
  | x :: l, h => by
    obtain ⟨g, e⟩ := of_sym (h x List.mem_cons_self)
    obtain ⟨gl, e2⟩ := of_syms fun y hy => h y (List.mem_cons_of_mem _ hy)
    exact ⟨g :: gl, by rw [e, e2]; rfl⟩
theorem gi_add (a b : G) : addI (gi a) (gi b) = gi (ga a b) := by revert a b; unfold addI gi ga; decide +kernel
theorem gi_mul (a b : G) : mulI (gi a) (gi b) = gi (gm a b) := by revert a b; unfold mulI gi gm; decide +kernel
theorem gi_inv (a : G) : a ≠ 0 → invI (gi a) = gi (gv a) := by revert a; unfold invI gi gv; decide +kernel
theorem gi_zero {a : G} : gi a = 0 ↔ a = 0 := by revert a; unfold gi; decide +kernel
theorem ga_comm (a b : G) : ga a b = ga b a := by revert a b; decide +kernel
theorem ga_assoc (a b c : G) : ga (ga a b) c = ga a (ga b c) := by revert a b c; decide +kernel
instance : Std.Commutative ga := ⟨ga_comm⟩
instance : Std.Associative ga := ⟨ga_assoc⟩
theorem ga_zero (a : G) : ga a 0 = a := by revert a; decide +kernel
theorem zero_ga (a : G) : ga 0 a = a := by revert a; decide +kernel
theorem ga_self (a : G) : ga a a = 0 := by revert a; decide +kernel
theorem gm_zero (a : G) : gm a 0 = 0 := by revert a; decide +kernel
theorem zero_gm (a : G) : gm 0 a = 0 := by revert a; decide +kernel
theorem gm_one (a : G) : gm a 1 = a := by revert a; decide +kernel
theorem gm_comm (a b : G) : gm a b = gm b a := by revert a b; unfold gm mulI; decide +kernel
theorem gm_assoc (a b c : G) : gm (gm a b) c = gm a (gm b c) := by revert a b c; unfold gm mulI; decide +kernel
theorem gm_add (a b c : G) : gm a (ga b c) = ga (gm a b) (gm a c) := by revert a b c; unfold gm mulI; decide +kernel
theorem add_gm (a b c : G) : gm (ga a b) c = ga (gm a c) (gm b c) := by rw [gm_comm, gm_add, gm_comm c a, gm_comm c b]
theorem gm_inv (a : G) : a ≠ 0 → gm a (gv a) = 1 := by revert a; decide +kernel
theorem gm_eq_zero (a b : G) : gm a b = 0 → a = 0 ∨ b = 0 := by revert a b; decide +kernel
theorem ga_eq {a b c : G} (h : ga a b = c) : a = ga c b := by rw [← h, ga_assoc, ga_self, ga_zero]
theorem ga_eq_zero {a b : G} (h : ga a b = 0) : a = b := by rw [ga_eq h, zero_ga]
/-! sums -/
def gs : Nat → (Nat → G) → G
  | 0, _ => 0
  | n + 1, f => ga (gs n f) (f n)
theorem gs_congr {f g : Nat → G} : ∀ {n : Nat}, (∀ k, k < n → f k = g k) → gs n f = gs n g
  | 0, _ => rfl
  | n + 1, h => by rw [gs, gs, gs_congr fun k hk => h k (by omega), h n (by omega)]
theorem gs_zero {f : Nat → G} : ∀ {n : Nat}, (∀ k, k < n → f k = 0) → gs n f = 0
  | 0, _ => rfl
  | n + 1, h => by rw [gs, gs_zero fun k hk => h k (by omega), h n (by omega)]; rfl
theorem gs_add (f g : Nat → G) : ∀ n : Nat, gs n (fun k => ga (f k) (g k)) = ga (gs n f) (gs n g)
  | 0 => (ga_zero 0).symm
  | n + 1 => by rw [gs, gs, gs, gs_add f g n]; ac_rfl
theorem gs_mul (c : G) (f : Nat → G) : ∀ n : Nat, gs n (fun k => gm c (f k)) = gm c (gs n f)
  | 0 => (gm_zero c).symm
  | n + 1 => by rw [gs, gs, gs_mul c f n, gm_add]
theorem gs_more {f : Nat → G} {m : Nat} (h : ∀ k, m ≤ k → f k = 0) : ∀ {n : Nat}, m ≤ n → gs n f = gs m f
  | 0, hm => by
    have e : m = 0 := by omega
    rw [e]
  | n + 1, hm => by
    by_cases e : m = n + 1
    · rw [e]
    · rw [gs, gs_more h (show m ≤ n by omega), h n (by omega), ga_zero]
theorem gs_first (f : Nat → G) : ∀ n : Nat, gs (n + 1) f = ga (f 0) (gs n fun k => f (k + 1))
  | 0 => by rw [gs, gs, gs, zero_ga, ga_zero]
  | n + 1 => by rw [gs, gs_first f n, gs]; ac_rfl
theorem gs_only {f : Nat → G} {j : Nat} : ∀ {n : Nat}, j < n → (∀ k, k < n → k ≠ j → f k = 0) → gs n f = f j
  | 0, h, _ => absurd h (by omega)
  | n + 1, h, hz => by
    by_cases e : j = n
    · rw [gs, gs_zero fun k hk => hz k (by omega) (by omega), zero_ga, e]
    · rw [gs, gs_only (show j < n by omega) fun k hk => hz k (by omega), hz n (by omega) (by omega), ga_zero]
/-! lists as functions -/
def co (p : List G) (n : Nat) : G := p.getD n 0
theorem co_out {p : List G} {n : Nat} (h : p.length ≤ n) : co p n = 0 := by simp [co, List.getD_eq_getElem?_getD, List.getElem?_eq_none h]
theorem co_in {p : List G} {n : Nat} (h : n < p.length) : co p n = p[n] := by simp [co, List.getD_eq_getElem?_getD, List.getElem?_eq_getElem h]
def tab (n : Nat) (f : Nat → G) : List G := (List.range n).map f
theorem tab_len (n : Nat) (f : Nat → G) : (tab n f).length = n := by simp [tab]
theorem tab_co (n : Nat) (f : Nat → G) (k : Nat) : co (tab n f) k = if k < n then f k else 0 := by
  by_cases h : k < n
  · rw [if_pos h, co_in (by rw [tab_len]; exact h)]
    simp [tab]
  · rw [if_neg h, co_out (by rw [tab_len]; omega)]
theorem list_ext {p q : List G} (hl : p.length = q.length) (h : ∀ k, k < p.length → co p k = co q k) : p = q := by
  refine List.ext_getElem hl fun k h1 h2 => ?_
  have z := h k h1
  rw [co_in h1, co_in h2] at z
  exact z
theorem tab_self (p : List G) : tab p.length (co p) = p := by
  refine list_ext (tab_len _ _) fun k hk => ?_
  rw [tab_len] at hk
  rw [tab_co, if_pos hk]
theorem tab_congr {n : Nat} {f g : Nat → G} (h : ∀ k, k < n → f k = g k) : tab n f = tab n g := by
  refine list_ext (by rw [tab_len, tab_len]) fun k hk => ?_
  rw [tab_len] at hk
  rw [tab_co, tab_co, if_pos hk, if_pos hk, h k hk]
theorem tab_set (n : Nat) (f : Nat → G) (k : Nat) (v : G) : (tab n f).set k v = tab n fun j => if j = k then v else f j := by
  refine list_ext (by rw [List.length_set, tab_len, tab_len]) fun j hj => ?_
  rw [List.length_set, tab_len] at hj
  rw [tab_co, if_pos hj, co_in (by rw [List.length_set, tab_len]; exact hj), List.getElem_set]
  by_cases e : k = j
  · rw [if_pos e, if_pos e.symm]
  · rw [if_neg e, if_neg (fun z => e z.symm)]
    simp [tab]
theorem set_co (p : List G) (k : Nat) (v : G) (hk : k < p.length) (j : Nat) : co (p.set k v) j = if j = k then v else co p j := by
  by_cases hj : j < p.length
  · rw [co_in (by rw [List.length_set]; exact hj), List.getElem_set]
    by_cases e : k = j
    · rw [if_pos e, if_pos e.symm]
    · rw [if_neg e, if_neg (fun z => e z.symm), co_in hj]
  · rw [co_out (by rw [List.length_set]; omega), if_neg (by omega), co_out (by omega)]
/-! reduced lists -/
def redLen (p : List G) : Nat → Nat
  | 0 => 0
  | n + 1 => if co p n = 0 then redLen p n else n + 1
def red (p : List G) : List G := p.take (redLen p p.length)
theorem redLen_le (p : List G) : ∀ n, redLen p n ≤ n
  | 0 => Nat.le_refl _
  | n + 1 => by
    rw [redLen]
    split
    · have := redLen_le p n
      omega
    · omega
theorem redLen_zero (p : List G) : ∀ n k, redLen p n ≤ k → k < n → co p k = 0
  | 0, k, _, h => absurd h (by omega)
  | n + 1, k, h1, h2 => by
    rw [redLen] at h1
    split at h1
    · rename_i hz
      by_cases e : k = n
      · rw [e, hz]
      · exact redLen_zero p n k h1 (by omega)
    · omega
theorem redLen_last (p : List G) : ∀ n, redLen p n ≠ 0 → co p (redLen p n - 1) ≠ 0
  | 0, h => absurd rfl h
  | n + 1, h => by
    rw [redLen] at h ⊢
    split
    · rename_i hz
      rw [if_pos hz] at h
      exact redLen_last p n h
    · rename_i hz
      exact hz
theorem red_len (p : List G) : (red p).length = redLen p p.length := by
  have := redLen_le p p.length
  rw [red, List.length_take]
  omega
theorem red_co (p : List G) (n : Nat) : co (red p) n = co p n := by
  by_cases h : n < redLen p p.length
  · have h2 := redLen_le p p.length
    rw [co_in (by rw [red_len]; exact h), co_in (by omega)]
    simp [red]
  · rw [co_out (by rw [red_len]; omega)]
    by_cases h3 : n < p.length
    · exact (redLen_zero p _ n (by omega) h3).symm
    · exact (co_out (by omega)).symm
/-- the length is told by the coefficients -/
theorem redLen_co {p q : List G} (h : ∀ n, co p n = co q n) (k : Nat) : redLen p k = redLen q k := by
  induction k with
  | zero => rfl
  | succ n ih => rw [redLen, redLen, h n, ih]
theorem redLen_far (p : List G) {n : Nat} (h : p.length ≤ n) : redLen p n = redLen p p.length := by
  induction n with
  | zero =>
    have e : p.length = 0 := by omega
    rw [e]
  | succ n ih =>
    by_cases e : p.length = n + 1
    · rw [e]
    · rw [redLen, if_pos (co_out (by omega)), ih (by omega)]
theorem red_ext {p q : List G} (h : ∀ n, co p n = co q n) : red p = red q := by
  have hl : (red p).length = (red q).length := by
    rw [red_len, red_len, ← redLen_far p (Nat.le_max_left p.length q.length), ← redLen_far q (Nat.le_max_right p.length q.length), redLen_co h]
  exact list_ext hl fun k _ => by rw [red_co, red_co, h]
theorem red_red (p : List G) : red (red p) = red p := red_ext (red_co p)
theorem red_short {p : List G} {n : Nat} (h : ∀ k, n ≤ k → co p k = 0) : (red p).length ≤ n := by
  rw [red_len]
  by_cases e : redLen p p.length = 0
  · omega
  · have z := redLen_last p _ e
    by_cases hn : redLen p p.length ≤ n
    · exact hn
    · exact absurd (h (redLen p p.length - 1) (by omega)) z
/-! products -/
def cv (p d : Nat → G) (n : Nat) : G := gs (n + 1) fun k => gm (p k) (d (n - k))
/-- the product behind i items of the first -/
def pc (p d : Nat → G) (i n : Nat) : G := gs i fun k => if k ≤ n then gm (p k) (d (n - k)) else 0
theorem pc_all {p d : Nat → G} {m : Nat} (h : ∀ k, m ≤ k → p k = 0) (n : Nat) : pc p d m n = cv p d n := by
  unfold pc cv
  have e : gs (n + 1) (fun k => gm (p k) (d (n - k))) = gs (n + 1) fun k => if k ≤ n then gm (p k) (d (n - k)) else 0 := gs_congr fun k hk => by rw [if_pos (by omega)]
  have h1 : ∀ k, m ≤ k → (if k ≤ n then gm (p k) (d (n - k)) else 0) = 0 := fun k hk => by
    rw [h k hk, zero_gm]
    split <;> rfl
  have h2 : ∀ k, n + 1 ≤ k → (if k ≤ n then gm (p k) (d (n - k)) else 0) = 0 := fun k hk => by rw [if_neg (by omega)]
  rw [e, ← gs_more h1 (Nat.le_max_left m (n + 1)), ← gs_more h2 (Nat.le_max_right m (n + 1))]
/-- .. and j items of the second in the turn i -/
def pcj (p d : Nat → G) (i j n : Nat) : G := ga (pc p d i n) (if i ≤ n ∧ n < i + j then gm (p i) (d (n - i)) else 0)
theorem pcj_zero (p d : Nat → G) (i n : Nat) : pcj p d i 0 n = pc p d i n := by rw [pcj, if_neg (by omega), ga_zero]
theorem pcj_last {p d : Nat → G} {i m : Nat} (h : ∀ k, m ≤ k → d k = 0) (n : Nat) : pcj p d i m n = pc p d (i + 1) n := by
  rw [pcj, pc, pc, gs]
  congr 1
  by_cases h1 : i ≤ n
  · rw [if_pos h1]
    by_cases h2 : n < i + m
    · rw [if_pos ⟨h1, h2⟩]
    · rw [if_neg (by omega), h _ (by omega), gm_zero]
  · rw [if_neg h1, if_neg (by omega)]
theorem pcj_succ (p d : Nat → G) (i j n : Nat) : pcj p d i (j + 1) n = if n = i + j then ga (pcj p d i j n) (gm (p i) (d j)) else pcj p d i j n := by
  rw [pcj, pcj]
  by_cases e : n = i + j
  · rw [if_pos e, if_pos ⟨by omega, by omega⟩, if_neg (by omega), ga_zero, show n - i = j by omega]
  · rw [if_neg e]
    congr 1
    by_cases h : i ≤ n ∧ n < i + j
    · rw [if_pos h, if_pos ⟨h.1, by omega⟩]
    · rw [if_neg h, if_neg (by omega)]
theorem cv_add (p q d : Nat → G) (n : Nat) : cv (fun k => ga (p k) (q k)) d n = ga (cv p d n) (cv q d n) := by
  unfold cv
  rw [← gs_add]
  exact gs_congr fun k _ => add_gm _ _ _
theorem cv_congr {p p' d d' : Nat → G} (h1 : ∀ k, p k = p' k) (h2 : ∀ k, d k = d' k) (n : Nat) : cv p d n = cv p' d' n := by
  unfold cv
  exact gs_congr fun k _ => by rw [h1, h2]
theorem cv_only (f : G) (s : Nat) (d : Nat → G) (n : Nat) : cv (fun k => if k = s then f else 0) d n = if s ≤ n then gm f (d (n - s)) else 0 := by
  unfold cv
  by_cases h : s ≤ n
  · have e := gs_only (f := fun k => gm (if k = s then f else 0) (d (n - k))) (j := s) (n := n + 1) (by omega) fun k _ hk => by
      show gm (if k = s then f else 0) (d (n - k)) = 0
      rw [if_neg hk, zero_gm]
    rw [if_pos h, e]
    show gm (if s = s then f else 0) (d (n - s)) = _
    rw [if_pos rfl]
  · rw [if_neg h]
    refine gs_zero fun k hk => ?_
    show gm (if k = s then f else 0) (d (n - k)) = 0
    rw [if_neg (by omega), zero_gm]
/-! values -/
def hor (x : G) : List G → G
  | [] => 0
  | a :: p => ga (gm (hor x p) x) a
theorem hor_zero (x : G) : ∀ {p : List G}, (∀ n, co p n = 0) → hor x p = 0
  | [], _ => rfl
  | a :: p, h => by
    have ha : a = 0 := h 0
    rw [hor, hor_zero x (p := p) fun n => h (n + 1), ha, zero_gm]
    rfl
theorem hor_ext (x : G) : ∀ {p q : List G}, (∀ n, co p n = co q n) → hor x p = hor x q
  | [], q, h => (hor_zero x fun n => (h n).symm).symm
  | a :: p, [], h => hor_zero x h
  | a :: p, b :: q, h => by
    have e : a = b := h 0
    rw [hor, hor, hor_ext x (p := p) (q := q) fun n => h (n + 1), e]
def addL (p q : List G) : List G := tab (max p.length q.length) fun k => ga (co p k) (co q k)
theorem addL_co (p q : List G) (n : Nat) : co (addL p q) n = ga (co p n) (co q n) := by
  rw [addL, tab_co]
  split
  · rfl
  · rw [co_out (p := p) (by omega), co_out (p := q) (by omega)]
    rfl
theorem hor_add (x : G) : ∀ {p q r : List G}, (∀ n, co r n = ga (co p n) (co q n)) → hor x r = ga (hor x p) (hor x q)
  | [], q, r, h => by
    rw [hor, zero_ga]
    exact hor_ext x fun n => by rw [h n, co_out (p := []) (Nat.zero_le _), zero_ga]
  | a :: p, [], r, h => by
    rw [hor_ext x (p := r) (q := a :: p) fun n => by rw [h n, co_out (p := []) (Nat.zero_le _), ga_zero]]
    exact (ga_zero _).symm
  | a :: p, b :: q, [], h => by
    have h0 : ga a b = 0 := (h 0).symm
    have hr : ∀ n, co [] n = ga (co p n) (co q n) := fun n => by
      have z := h (n + 1)
      rw [co_out (p := []) (Nat.zero_le _)] at z ⊢
      exact z
    have ih := hor_add x hr
    rw [hor, hor, hor]
    rw [hor] at ih
    have e2 : ga (ga (gm (hor x p) x) a) (ga (gm (hor x q) x) b) = ga (ga (gm (hor x p) x) (gm (hor x q) x)) (ga a b) := by ac_rfl
    rw [e2, h0, ← add_gm, ← ih, zero_gm]
    rfl
  | a :: p, b :: q, c :: r, h => by
    have h0 : c = ga a b := h 0
    rw [hor, hor, hor, hor_add x (p := p) (q := q) (r := r) fun n => h (n + 1), h0, add_gm]
    ac_rfl
theorem hor_scale (x c : G) : ∀ p : List G, hor x (p.map (gm c)) = gm c (hor x p)
  | [] => (gm_zero c).symm
  | a :: p => by rw [List.map_cons, hor, hor, hor_scale x c p, gm_add, gm_assoc]
theorem scale_co (c : G) (p : List G) (n : Nat) : co (p.map (gm c)) n = gm c (co p n) := by
  by_cases h : n < p.length
  · rw [co_in (by rw [List.length_map]; exact h), co_in h, List.getElem_map]
  · rw [co_out (by rw [List.length_map]; omega), co_out (by omega), gm_zero]
theorem hor_mul (x : G) (d : List G) : ∀ {p r : List G}, (∀ n, co r n = cv (co p) (co d) n) → hor x r = gm (hor x p) (hor x d)
  | [], r, h => by
    rw [hor, zero_gm]
    exact hor_zero x fun n => by
      rw [h n]
      exact gs_zero fun k _ => by rw [co_out (p := []) (Nat.zero_le _), zero_gm]
  | a :: p, r, h => by
    have ih := hor_mul x d (p := p) (r := tab (p.length + d.length) (cv (co p) (co d))) fun n => by
      rw [tab_co]
      split
      · rfl
      · refine (gs_zero fun k hk => ?_).symm
        by_cases h1 : k < p.length
        · rw [co_out (p := d) (by omega), gm_zero]
        · rw [co_out (p := p) (by omega), zero_gm]
    have e := hor_add x (p := 0 :: tab (p.length + d.length) (cv (co p) (co d))) (q := d.map (gm a)) (r := r) fun n => by
      rw [h n, scale_co]
      cases n with
      | zero => rw [cv, gs, gs, zero_ga]; exact (zero_ga _).symm
      | succ n =>
        rw [cv, gs_first]
        show ga (gm a (co d (n + 1))) (gs (n + 1) fun k => gm (co p k) (co d (n + 1 - (k + 1)))) = ga (co (tab (p.length + d.length) (cv (co p) (co d))) n) (gm a (co d (n + 1)))
        have e2 : (gs (n + 1) fun k => gm (co p k) (co d (n + 1 - (k + 1)))) = cv (co p) (co d) n := gs_congr fun k _ => by rw [Nat.add_sub_add_right]
        rw [e2, tab_co]
        by_cases hn : n < p.length + d.length
        · rw [if_pos hn, ga_comm]
        · rw [if_neg hn, zero_ga]
          have e3 : cv (co p) (co d) n = 0 := gs_zero fun k hk => by
            by_cases h1 : k < p.length
            · rw [co_out (p := d) (by omega), gm_zero]
            · rw [co_out (p := p) (by omega), zero_gm]
          rw [e3, ga_zero]
    rw [e, hor, hor, ga_zero, ih, hor_scale, add_gm, gm_assoc, gm_comm (hor x d) x, ← gm_assoc]
theorem hor_snoc (x a : G) : ∀ p : List G, hor x (p ++ [a]) = ga (hor x p) (hor x (List.replicate p.length 0 ++ [a]))
  | [] => by rw [hor, zero_ga]; rfl
  | b :: p => by
    rw [List.cons_append, hor, hor_snoc x a p, List.length_cons, List.replicate_succ, List.cons_append, hor, hor, ga_zero, add_gm]
    ac_rfl

theorem hor_step (x : G) (p : List G) {k : Nat} (hk : k < p.length) : hor x (p.drop k) = ga (gm (hor x (p.drop (k + 1))) x) (co p k) := by
  rw [List.drop_eq_getElem_cons hk, hor, co_in hk]

theorem prod_co (p d : List G) (n : Nat) : co (red (tab (p.length + d.length) (cv (co p) (co d)))) n = cv (co p) (co d) n := by
  rw [red_co, tab_co]
  split
  · rfl
  · refine (gs_zero fun k hk => ?_).symm
    by_cases h1 : k < p.length
    · rw [co_out (p := d) (by omega), gm_zero]
    · rw [co_out (p := p) (by omega), zero_gm]

/-! ### interpolation, plainly -/
/-- d divided by what is 0 at a -/
def quot (a : G) : List G → List G
  | [] => []
  | _ :: p => hor a p :: quot a p
theorem quot_co (a : G) : ∀ (d : List G) (k : Nat), co (quot a d) k = hor a (d.drop (k + 1))
  | [], k => by simp [quot, co, hor]
  | c :: p, 0 => by simp [quot, co]
  | c :: p, k + 1 => by
    have h := quot_co a p k
    rw [List.drop_succ_cons, ← h]
    simp [quot, co]
theorem hor_quot (x a : G) : ∀ d : List G, ga (hor x d) (hor a d) = gm (ga x a) (hor x (quot a d))
  | [] => by
    show ga 0 0 = gm (ga x a) 0
    rw [gm_zero, ga_zero]
  | c :: p => by
    have h := hor_quot x a p
    show ga (ga (gm (hor x p) x) c) (ga (gm (hor a p) a) c) = gm (ga x a) (ga (gm (hor x (quot a p)) x) (hor a p))
    rw [gm_add, ← gm_assoc, ← h, add_gm, add_gm, gm_comm x (hor a p), gm_comm a (hor a p)]
    have e1 : ga (ga (gm (hor x p) x) c) (ga (gm (hor a p) a) c) = ga (ga c c) (ga (gm (hor x p) x) (gm (hor a p) a)) := by ac_rfl
    have e2 : ga (ga (gm (hor x p) x) (gm (hor a p) x)) (ga (gm (hor a p) x) (gm (hor a p) a)) = ga (ga (gm (hor a p) x) (gm (hor a p) x)) (ga (gm (hor x p) x) (gm (hor a p) a)) := by ac_rfl
    rw [e1, e2, ga_self, ga_self]
/-- one with as many zeros as coefficients is 0 -/
theorem many_zeros : ∀ (n : Nat) (xs : List G) (d : List G), xs.Nodup → xs.length = n → (∀ k, n ≤ k → co d k = 0) → (∀ x ∈ xs, hor x d = 0) → ∀ k, co d k = 0
  | 0, _, d, _, _, h, _, k => h k (Nat.zero_le _)
  | n + 1, [], _, _, hl, _, _, _ => by cases hl
  | n + 1, a :: xs, d, nd, hl, h, hz, k => by
    have nd' := List.nodup_cons.mp nd
    have ha : hor a d = 0 := hz a List.mem_cons_self
    have hq : ∀ k, co (quot a d) k = 0 := many_zeros n xs (quot a d) nd'.2 (Nat.succ.inj hl)
      (fun k hk => by
        rw [quot_co]
        refine hor_zero a fun j => ?_
        have z := h (k + 1 + j) (by omega)
        simpa [co, List.getD_eq_getElem?_getD, List.getElem?_drop] using z)
      (fun x hx => by
        have z := hor_quot x a d
        rw [hz x (List.mem_cons_of_mem _ hx), ha, ga_zero] at z
        rcases gm_eq_zero _ _ z.symm with y | y
        · exact absurd (ga_eq_zero y ▸ hx) nd'.1
        · exact y)
    have hd : ∀ k, hor a (d.drop k) = 0 := fun k => by
      cases k with
      | zero => exact ha
      | succ k => rw [← quot_co, hq]
    by_cases hk : k < d.length
    · have z := hor_step a d hk
      rw [hd k, hd (k + 1), zero_gm, zero_ga] at z
      exact z.symm
    · exact co_out (Nat.le_of_not_lt hk)
theorem same_poly {xs : List G} {p r : List G} (nd : xs.Nodup) (hp : p.length ≤ xs.length) (hr : r.length ≤ xs.length) (h : ∀ x ∈ xs, hor x p = hor x r) : red p = red r := red_ext fun n => by
  have z := many_zeros xs.length xs (addL p r) nd rfl (fun k hk => by rw [addL_co, co_out (Nat.le_trans hp hk), co_out (Nat.le_trans hr hk), ga_zero]) (fun x hx => by rw [hor_add x (p := p) (q := r) (addL_co p r), h x hx, ga_self]) n
  rw [addL_co] at z
  exact ga_eq_zero z
theorem hor_one (x c : G) : hor x [c] = c := by
  show ga (gm 0 x) c = c
  rw [zero_gm, zero_ga]
theorem hor_two (x a : G) : hor x [a, 1] = ga x a := by
  show ga (gm (hor x [1]) x) a = _
  rw [hor_one, gm_comm, gm_one]
/-- the state behind the pairs pts -/
structure Ipol (pts : List (G × G)) (poly zeros : List G) : Prop where
  rd : red poly = poly
  pl : poly.length ≤ pts.length
  zl : zeros.length ≤ pts.length + 1
  at_ : ∀ q ∈ pts, hor q.1 poly = q.2
  zer : ∀ x, hor x zeros = 0 ↔ x ∈ pts.map (·.1)
  nd : (pts.map (·.1)).Nodup
theorem Ipol.nil : Ipol [] [] [1] := ⟨rfl, Nat.le_refl _, Nat.le_refl _, (fun _ h => nomatch h), (fun x => by
  rw [hor_one]
  exact ⟨fun h => absurd h (by decide), fun h => nomatch h⟩), List.nodup_nil⟩
theorem Ipol.snoc {pts : List (G × G)} {poly zeros : List G} {x y : G} (I : Ipol pts poly zeros) (hg : hor x zeros ≠ 0) :
    Ipol (pts ++ [(x, y)]) (red (addL poly (red (tab ([gm (ga y (hor x poly)) (gv (hor x zeros))].length + zeros.length) (cv (co [gm (ga y (hor x poly)) (gv (hor x zeros))]) (co zeros))))))
      (red (tab (zeros.length + [x, 1].length) (cv (co zeros) (co [x, 1])))) := by
  generalize hc : gm (ga y (hor x poly)) (gv (hor x zeros)) = c
  have ev : ∀ x', hor x' (red (addL poly (red (tab ([c].length + zeros.length) (cv (co [c]) (co zeros)))))) = ga (hor x' poly) (gm c (hor x' zeros)) := fun x' => by
    rw [hor_add x' (p := poly) (q := red (tab ([c].length + zeros.length) (cv (co [c]) (co zeros)))) fun n => by rw [red_co, addL_co], hor_mul x' zeros (p := [c]) (prod_co [c] zeros), hor_one]
  have ez : ∀ x', hor x' (red (tab (zeros.length + [x, 1].length) (cv (co zeros) (co [x, 1])))) = gm (hor x' zeros) (ga x' x) := fun x' => by
    rw [hor_mul x' [x, 1] (prod_co zeros [x, 1]), hor_two]
  have hx : x ∉ pts.map (·.1) := fun h => hg ((I.zer x).mpr h)
  refine ⟨red_red _, ?_, ?_, fun q hq => ?_, fun x' => ?_, ?_⟩
  · rw [List.length_append]
    refine red_short fun k hk => ?_
    have h1 := I.pl
    have h2 := I.zl
    have hk' : pts.length + 1 ≤ k := hk
    rw [addL_co, co_out (by omega), zero_ga, prod_co]
    have e : cv (co [c]) (co zeros) k = cv (fun j => if j = 0 then c else 0) (co zeros) k := cv_congr (fun j => by
      cases j with
      | zero => rfl
      | succ j => simp [co]) (fun _ => rfl) k
    rw [e, cv_only, if_pos (Nat.zero_le _), Nat.sub_zero, co_out (by omega), gm_zero]
  · rw [List.length_append]
    refine red_short fun k hk => ?_
    have h2 := I.zl
    have hk' : pts.length + 1 + 1 ≤ k := hk
    rw [tab_co]
    split
    · refine gs_zero fun j hj => ?_
      by_cases hz : j < zeros.length
      · rw [co_out (p := [x, 1]) (by show 2 ≤ k - j; omega), gm_zero]
      · rw [co_out (Nat.le_of_not_lt hz), zero_gm]
    · rfl
  · rw [ev]
    rcases List.mem_append.mp hq with hq | hq
    · rw [(I.zer q.1).mpr (List.mem_map_of_mem hq), gm_zero, ga_zero, I.at_ q hq]
    · rw [List.mem_singleton.mp hq]
      show ga (hor x poly) (gm c (hor x zeros)) = y
      rw [← hc, gm_assoc, gm_comm (gv _), gm_inv _ hg, gm_one, ga_comm y, ← ga_assoc, ga_self, zero_ga]
  · rw [ez, List.map_append, List.mem_append]
    constructor
    · intro h
      rcases gm_eq_zero _ _ h with h | h
      · exact .inl ((I.zer x').mp h)
      · exact .inr (by rw [ga_eq_zero h]; exact List.mem_singleton.mpr rfl)
    · rintro (h | h)
      · rw [(I.zer x').mpr h, zero_gm]
      · have e : x' = x := List.mem_singleton.mp h
        rw [e, ga_self, gm_zero]
  · rw [List.map_append, List.nodup_append]
    refine ⟨I.nd, by simp, fun a ha b hb e => ?_⟩
    have hb' : b = x := List.mem_singleton.mp hb
    rw [e, hb'] at ha
    exact hx ha
theorem paired_imp {α β : Type} {R S : α → β → Prop} (h : ∀ x y, R x y → S x y) : ∀ {xs : List α} {ys : List β}, Paired R xs ys → Paired S xs ys
  | _, _, .nil => .nil
  | _, _, .cons a r => .cons (h _ _ a) (paired_imp h r)
theorem paired_snoc {α β : Type} {R : α → β → Prop} {x : α} {y : β} : ∀ {xs : List α} {ys : List β}, Paired R xs ys → R x y → Paired R (xs ++ [x]) (ys ++ [y])
  | _, _, .nil, h => .cons h .nil
  | _, _, .cons a r, h => .cons a (paired_snoc r h)
theorem zip_self {α β : Type} (f : α → β) : ∀ {l : List α} {x : α}, x ∈ l → (x, f x) ∈ l.zip (l.map f)
  | a :: l, x, h => by
    rcases List.mem_cons.mp h with e | h
    · rw [e]
      exact List.mem_cons_self
    · exact List.mem_cons_of_mem _ (zip_self f h)
def ptD (q : G × G) : PyData := .tuple [.int (gi q.1), .int (gi q.2)]
theorem dp_pts {K : PySem.W.Frag} {H : Hp} {p : Addr} {ts : List Addr} {pts : List (G × G)} (hp : SqL K H p (ts.map V.ref)) (h : Paired (fun (t : Addr) (q : G × G) => H t = some (.tup [vg q.1, vg q.2])) ts pts) : Dp K H (.ref p) (.list (pts.map ptD)) := by
  refine .lst hp ?_
  clear hp
  induction h with
  | nil => exact .nil
  | cons a _ ih => exact .cons (.tup (SqT.of a) (.cons (.int _) (.cons (.int _) .nil))) ih
theorem canLayAll_pts : ∀ pts : List (G × G), PyData.canLayAll0 (pts.map ptD) = true
  | [] => rfl
  | q :: pts => by simp [PyData.canLayAll0, PyData.canLay0, ptD, canLayAll_pts pts]
theorem depthAll_pts : ∀ pts : List (G × G), PyData.depthAll (pts.map ptD) ≤ 1
  | [] => Nat.zero_le _
  | q :: pts => by
    have h := depthAll_pts pts
    simp [PyData.depthAll, PyData.depth, ptD]
    omega
theorem shaped_pts (pts : List (G × G)) : SeqAt.shaped (.list (pts.map ptD)) = true := by
  have h := depthAll_pts pts
  simp [SeqAt.shaped, PyData.canLay0, PyData.depth, canLayAll_pts]
  omega

/-! ### Lagrange's formula over the symbols -/
def above (own t : G) : List G → G → G
  | [], acc => acc
  | p :: ps, acc => above own t ps (if p = own then acc else gm acc (ga t p))
def wt (pts : List G) (own t : G) : G := gm (above own t pts 1) (gv (above own own pts 1))
def lag (pts vals : List G) (t : G) : G := gs pts.length fun i => gm (wt pts (co pts i) t) (co vals i)
theorem above_app (own t : G) : ∀ (a b : List G) (acc : G), above own t (a ++ b) acc = above own t b (above own t a acc)
  | [], b, acc => rfl
  | p :: a, b, acc => above_app own t a b _
theorem above_mul (own t : G) : ∀ (ps : List G) (acc : G), above own t ps acc = gm acc (above own t ps 1)
  | [], acc => (gm_one acc).symm
  | p :: ps, acc => by
    show above own t ps (if p = own then acc else gm acc (ga t p)) = gm acc (above own t ps (if p = own then 1 else gm 1 (ga t p)))
    by_cases h : p = own
    · rw [if_pos h, if_pos h]
      exact above_mul own t ps acc
    · rw [if_neg h, if_neg h, above_mul own t ps (gm acc (ga t p)), above_mul own t ps (gm 1 (ga t p)), gm_comm 1 (ga t p), gm_one, gm_assoc]
theorem above_ne (own : G) : ∀ (ps : List G) (acc : G), acc ≠ 0 → above own own ps acc ≠ 0
  | [], acc, h => h
  | p :: ps, acc, h => by
    refine above_ne own ps _ ?_
    by_cases e : p = own
    · rw [if_pos e]
      exact h
    · rw [if_neg e]
      intro z
      rcases gm_eq_zero _ _ z with z | z
      · exact h z
      · exact e (ga_eq_zero z).symm
theorem above_zero (own t : G) : ∀ (ps : List G) (acc : G), t ∈ ps → t ≠ own → above own t ps acc = 0
  | p :: ps, acc, hm, hne => by
    rcases List.mem_cons.mp hm with e | hm
    · show above own t ps (if p = own then acc else gm acc (ga t p)) = 0
      rw [← e, if_neg hne, ga_self, gm_zero, above_mul, zero_gm]
    · exact above_zero own t ps _ hm hne
theorem above_poly (own : G) : ∀ (ps : List G) (A : List G), ∃ P : List G, P.length ≤ A.length + (ps.filter (fun p => decide (p ≠ own))).length ∧ ∀ t, hor t P = above own t ps (hor t A)
  | [], A => ⟨A, Nat.le_refl _, fun _ => rfl⟩
  | p :: ps, A => by
    by_cases e : p = own
    · obtain ⟨P, h1, h2⟩ := above_poly own ps A
      refine ⟨P, ?_, fun t => ?_⟩
      · rw [List.filter_cons_of_neg (by simp [e])]
        exact h1
      · show _ = above own t ps (if p = own then hor t A else gm (hor t A) (ga t p))
        rw [if_pos e]
        exact h2 t
    · have hlin : ∀ t, hor t (addL (0 :: A) (A.map (gm p))) = gm (hor t A) (ga t p) := fun t => by
        rw [hor_add t (addL_co (0 :: A) (A.map (gm p))), hor_scale]
        show ga (ga (gm (hor t A) t) 0) (gm p (hor t A)) = _
        rw [ga_zero, gm_add, gm_comm p]
      obtain ⟨P, h1, h2⟩ := above_poly own ps (addL (0 :: A) (A.map (gm p)))
      refine ⟨P, ?_, fun t => ?_⟩
      · rw [List.filter_cons_of_pos (by simp [e])]
        have hl : (addL (0 :: A) (A.map (gm p))).length = A.length + 1 := by
          rw [addL, tab_len, List.length_map]
          show max (A.length + 1) A.length = _
          omega
        rw [hl] at h1
        show P.length ≤ A.length + ((ps.filter fun p => decide (p ≠ own)).length + 1)
        omega
      · show _ = above own t ps (if p = own then hor t A else gm (hor t A) (ga t p))
        rw [if_neg e, h2, hlin]
theorem filter_lt {own : G} : ∀ {ps : List G}, own ∈ ps → (ps.filter (fun p => decide (p ≠ own))).length + 1 ≤ ps.length
  | p :: ps, h => by
    by_cases e : p = own
    · rw [List.filter_cons_of_neg (by simp [e])]
      have := List.length_filter_le (fun p => decide (p ≠ own)) ps
      show _ + 1 ≤ ps.length + 1
      omega
    · rw [List.filter_cons_of_pos (by simp [e])]
      rcases List.mem_cons.mp h with z | h
      · exact absurd z.symm e
      have := filter_lt h
      show _ + 1 + 1 ≤ ps.length + 1
      omega
theorem co_mem {l : List G} {i : Nat} (h : i < l.length) : co l i ∈ l := by
  rw [co_in h]
  exact List.getElem_mem h
theorem lag_poly (pts vals : List G) : ∀ k, k ≤ pts.length → ∃ P : List G, P.length ≤ pts.length ∧ ∀ t, hor t P = gs k fun i => gm (wt pts (co pts i) t) (co vals i)
  | 0, _ => ⟨[], Nat.zero_le _, fun _ => rfl⟩
  | k + 1, h => by
    obtain ⟨P, h1, h2⟩ := lag_poly pts vals k (by omega)
    obtain ⟨A, a1, a2⟩ := above_poly (co pts k) pts [1]
    have hf := filter_lt (co_mem (l := pts) (i := k) (by omega))
    have hA : A.length ≤ pts.length := by
      have : ([1] : List G).length = 1 := rfl
      omega
    refine ⟨addL P (A.map (gm (gm (gv (above (co pts k) (co pts k) pts 1)) (co vals k)))), ?_, fun t => ?_⟩
    · rw [addL, tab_len, List.length_map]
      omega
    · rw [hor_add t (addL_co _ _), hor_scale, h2, a2, hor_one]
      show _ = ga (gs k fun i => gm (wt pts (co pts i) t) (co vals i)) (gm (wt pts (co pts k) t) (co vals k))
      rw [wt]
      congr 1
      rw [gm_comm, ← gm_assoc]
theorem co_inj {l : List G} (nd : l.Nodup) {i j : Nat} (hi : i < l.length) (hj : j < l.length) (h : co l i = co l j) : i = j := by
  rw [co_in hi, co_in hj] at h
  rcases Nat.lt_trichotomy i j with z | z | z
  · exact absurd h (List.pairwise_iff_getElem.mp nd i j hi hj z)
  · exact z
  · exact absurd h.symm (List.pairwise_iff_getElem.mp nd j i hj hi z)
theorem lag_at {pts vals : List G} (nd : pts.Nodup) {j : Nat} (hj : j < pts.length) : lag pts vals (co pts j) = co vals j := by
  unfold lag
  rw [gs_only hj fun k hk hne => ?_]
  · rw [wt, gm_inv _ (above_ne _ _ _ (by decide)), gm_comm, gm_one]
  · have hne' : co pts j ≠ co pts k := fun z => hne (co_inj nd hk hj z.symm)
    rw [wt, above_zero _ _ _ _ (co_mem hj) hne', zero_gm, zero_gm]
/-- lists of values whose codewords agree in as many places as there are points are equal -/
theorem lag_unique {pts v v' : List G} (nd : pts.Nodup) (h1 : v.length = pts.length) (h2 : v'.length = pts.length) {xs : List G} (nx : xs.Nodup) (hx : pts.length ≤ xs.length) (h : ∀ x ∈ xs, lag pts v x = lag pts v' x) : v = v' := by
  obtain ⟨P, p1, p2⟩ := lag_poly pts v pts.length (Nat.le_refl _)
  obtain ⟨P', p3, p4⟩ := lag_poly pts v' pts.length (Nat.le_refl _)
  have hr := same_poly nx (p := P) (r := P') (by omega) (by omega) fun x hxm => by
    rw [p2, p4]
    exact h x hxm
  have all : ∀ t, lag pts v t = lag pts v' t := fun t => by
    have e1 : hor t P = hor t (red P) := hor_ext t fun n => (red_co P n).symm
    have e2 : hor t P' = hor t (red P') := hor_ext t fun n => (red_co P' n).symm
    have e3 : hor t P = hor t P' := by rw [e1, e2, hr]
    rw [p2, p4] at e3
    exact e3
  refine list_ext (by omega) fun k hk => ?_
  have := all (co pts k)
  rw [lag_at nd (by omega), lag_at nd (by omega)] at this
  exact this
/-- the law's order of the factors -/
def lawF (own t v : G) : List G → G
  | [] => v
  | p :: ps => lawF own t (if p = own then v else gm (gm v (ga t p)) (gv (ga own p))) ps
theorem lawF_snoc (own t : G) : ∀ (ps : List G) (p v : G), lawF own t v (ps ++ [p]) = if p = own then lawF own t v ps else gm (gm (lawF own t v ps) (ga t p)) (gv (ga own p))
  | [], _, _ => rfl
  | q :: ps, p, v => lawF_snoc own t ps p _
theorem gv_mul (a b : G) : a ≠ 0 → b ≠ 0 → gv (gm a b) = gm (gv a) (gv b) := by revert a b; decide +kernel
theorem gv_one : gv 1 = 1 := by decide +kernel
instance : Std.Commutative gm := ⟨gm_comm⟩
instance : Std.Associative gm := ⟨gm_assoc⟩
theorem lawF_eq (own t : G) : ∀ (ps : List G) (v : G), lawF own t v ps = gm (gm (above own t ps 1) (gv (above own own ps 1))) v
  | [], v => by
    show v = gm (gm 1 (gv 1)) v
    rw [gv_one, gm_one, gm_comm, gm_one]
  | p :: ps, v => by
    show lawF own t (if p = own then v else gm (gm v (ga t p)) (gv (ga own p))) ps = gm (gm (above own t ps (if p = own then 1 else gm 1 (ga t p))) (gv (above own own ps (if p = own then 1 else gm 1 (ga own p))))) v
    rw [lawF_eq own t ps]
    by_cases e : p = own
    · rw [if_pos e, if_pos e, if_pos e]
    · have n1 : ga own p ≠ 0 := fun z => e (ga_eq_zero z).symm
      rw [if_neg e, if_neg e, if_neg e, above_mul own t ps (gm 1 (ga t p)), above_mul own own ps (gm 1 (ga own p)), gm_comm 1 (ga t p), gm_comm 1 (ga own p), gm_one, gm_one, gv_mul _ _ n1 (above_ne own ps 1 (by decide))]
      generalize above own t ps 1 = A
      generalize gv (above own own ps 1) = B
      generalize ga t p = x
      generalize gv (ga own p) = y
      ac_rfl
theorem lawF_wt (pts : List G) (own t v : G) : lawF own t v pts = gm (wt pts own t) v := lawF_eq own t pts v

/-- a polynomial through as many other points of its own is the same one -/
theorem lag_same {pts pts' vals : List G} (nd' : pts'.Nodup) (hl : pts'.length = pts.length) (t : G) : lag pts' (pts'.map fun x => lag pts vals x) t = lag pts vals t := by
  obtain ⟨A, a1, a2⟩ := lag_poly pts' (pts'.map fun x => lag pts vals x) pts'.length (Nat.le_refl _)
  obtain ⟨B, b1, b2⟩ := lag_poly pts vals pts.length (Nat.le_refl _)
  have a3 : ∀ t, hor t A = lag pts' (pts'.map fun x => lag pts vals x) t := a2
  have b3 : ∀ t, hor t B = lag pts vals t := b2
  have hr := same_poly nd' (p := A) (r := B) a1 (by omega) fun x hx => by
    rw [a3, b3]
    obtain ⟨i, hi, rfl⟩ := List.mem_iff_getElem.mp hx
    have e := lag_at (pts := pts') (vals := pts'.map fun x => lag pts vals x) nd' hi
    rw [co_in hi] at e
    rw [e, co_in (by rw [List.length_map]; exact hi), List.getElem_map]
  have e1 : hor t A = hor t (red A) := hor_ext t fun n => (red_co A n).symm
  have e2 : hor t B = hor t (red B) := hor_ext t fun n => (red_co B n).symm
  rw [← a3, ← b3, e1, e2, hr]

-- @@CUT
/-- the cell's promise -/
def spCell (K : PySem.W.Frag) : Sp := fun vs H Q _ => ∃ (l : Addr) (ns : List Int) (k : Nat), vs = [.ref l, .int (k : Int)] ∧ SqL K H l (ns.map V.int) ∧ Q (.int (cell ns k)) H
theorem ok__law_cell (T : Txt K mg C_ArchiveError C_InvalidSymbol c_check_bodies P_check_bodies) : Ok P w K mg base CX0 1 "_law_cell" ["script", "k"] (spCell K) := by
  refine ok_of T.d__law_cell fun f fd F => F.ok sc__law_cell (fun vs H Q E h => ?_) (fun cdv A outer s H vs Q E hr h => ?_)
  · obtain ⟨l, ns, k, rfl, _⟩ := h
    rfl
  · obtain ⟨l, ns, k, rfl, hs, q⟩ := h
    refine ⟨_,       (pss_cons (ps_if (pt_cmpR op_lt (pv 1) (pe_callB call_len_seq (by rfl) T.n_len PySem.boot_len (pa_cons (pv 0) pa_nil)) (nomark _))
        (pss_one (ps_ret (pe_callTy call_int1 (by rfl) T.n_int (by decide +kernel) (pa_cons (pe_ix ix_list (pv 0) (pv 1) (fun _ _ => rfl)) pa_nil)))) pss_nil)
      (pss_one (ps_ret pe_int))), ?_⟩
    refine ⟨_, rfl, _, rfl, l, _, rfl, .inl hs, _, _, rfl, rfl, _, rfl, itd (fun h => ?_) (fun h => ?_)⟩
    · have hk : k < ns.length := by
        rw [List.length_map] at h
        omega
      refine ⟨_, rfl, _, rfl, l, _, _, .int ns[k], rfl, rfl, hs, atI_nat (by rw [List.getElem?_map, List.getElem?_eq_getElem hk]; rfl), .inl ⟨_, rfl, ?_⟩⟩
      rw [Cm.cell_in hk] at q
      exact q
    · have hk : ¬ k < ns.length := by
        rw [List.length_map] at h
        omega
      rw [Cm.cell_out hk] at q
      exact q

def mixI (c k : Int) : Int := ((c * 48271 + k * 69621 + 12345) % 2147483647 * 16807 + k * 40692 + 777) % 2147483629 / 997
def spMix : Sp := fun vs H Q _ => ∃ c k : Int, vs = [.int c, .int k] ∧ Q (.int (mixI c k)) H
theorem ok__law_mix (T : Txt K mg C_ArchiveError C_InvalidSymbol c_check_bodies P_check_bodies) : Ok P w K mg base CX0 1 "_law_mix" ["cell", "k"] spMix := by
  refine ok_of T.d__law_mix fun f fd F => F.ok sc__law_mix (fun vs H Q E h => ?_) (fun cdv A outer s H vs Q E hr h => ?_)
  · obtain ⟨c, k, rfl, _⟩ := h
    rfl
  · obtain ⟨c, k, rfl, q⟩ := h
    have nd := sc__law_mix.nd
    refine ⟨_,       (pss_cons (ps_set (i := 2) nd rfl (Or.inl rfl) (pe_op op_mod (pe_callTy call_int1 (by rfl) T.n_int (by decide +kernel) (pa_cons (pe_op op_add (pe_op op_add (pe_op op_mul (pv 0) pe_int) (pe_op op_mul (pv 1) pe_int)) pe_int) pa_nil)) pe_int))
      (pss_cons (ps_set (i := 2) nd rfl (Or.inl rfl) (pe_op op_mod (pe_callTy call_int1 (by rfl) T.n_int (by decide +kernel) (pa_cons (pe_op op_add (pe_op op_add (pe_op op_mul (pv 2) pe_int) (pe_op op_mul (pv 1) pe_int)) pe_int) pa_nil)) pe_int))
      (pss_one (ps_ret (pe_op op_fdiv (pv 2) pe_int))))), ?_⟩
    refine ⟨_, rfl, _, _, rfl, rfl, .inr (by decide), _, rfl, _, _, rfl, rfl, .inr (by decide), _, _, rfl, rfl, _, _, rfl, rfl, .inl ⟨_, rfl, _, _, rfl, rfl, (by show (0 : Int) < 2147483647; decide), ?_⟩⟩
    refine ⟨_, rfl, _, _, rfl, rfl, .inr (by decide), _, rfl, _, _, rfl, rfl, .inr (by decide), _, _, rfl, rfl, _, _, rfl, rfl, .inl ⟨_, rfl, _, _, rfl, rfl, (by show (0 : Int) < 2147483629; decide), ?_⟩⟩
    exact ⟨_, rfl, _, _, rfl, rfl, ⟨by decide, by decide⟩, q⟩

def divs : Nat → Int → Int → Int
  | 0, x, _ => x
  | k + 1, x, b => divs k x b / b
def rowAt (c : Int) (b : Int) (k : Nat) : Int := if 1000000000000000000 ≤ (if c < 0 then -c else c) then divs k (if c < 0 then -c else c) b % b else mixI c k % b
/-- the digits of a cell, or its mixture -/
def rowL (c : Int) (n : Nat) (b : Int) : List Int := (List.range n).map (rowAt c b)
theorem rowL_len (c : Int) (n : Nat) (b : Int) : (rowL c n b).length = n := by simp [rowL]
theorem rowL_in {c : Int} {n : Nat} {b x : Int} (hb : 0 < b) (h : x ∈ rowL c n b) : 0 ≤ x ∧ x < b := by
  obtain ⟨k, _, rfl⟩ := List.mem_map.mp h
  have z : ∀ y : Int, 0 ≤ y % b ∧ y % b < b := fun y => ⟨Int.emod_nonneg _ (by omega), Int.emod_lt_of_pos _ hb⟩
  by_cases hc : 1000000000000000000 ≤ (if c < 0 then -c else c)
  · rw [rowAt, if_pos hc]
    exact z _
  · rw [rowAt, if_neg hc]
    exact z _
theorem rowL_succ (c : Int) (n : Nat) (b : Int) : rowL c (n + 1) b = rowL c n b ++ [rowAt c b n] := by simp [rowL, List.range_succ]
def spRow : Sp := fun vs H Q _ => ∃ (c : Int) (n : Nat) (b : Int), vs = [.int c, .int (n : Int), .int b] ∧ n ≤ 60000 ∧ 0 < b ∧ b < 1073741824 ∧ ∀ p H', H p = none → Same H H' → H' p = some (.lst ((rowL c n b).map V.int)) → Q (.ref p) H'
theorem ok__law_row (T : Txt K mg C_ArchiveError C_InvalidSymbol c_check_bodies P_check_bodies) : Ok P w K mg base CX0 2 "_law_row" ["cell", "count", "bound"] spRow := by
  have G__law_mix := ok__law_mix (P := P) (w := w) (base := base) T
  refine ok_of T.d__law_row fun f fd F => F.ok sc__law_row (fun vs H Q E h => ?_) (fun cdv A outer s H vs Q E hr h => ?_)
  · obtain ⟨c, n, b, rfl, _⟩ := h
    rfl
  · obtain ⟨c, n, b, rfl, hn, hb0, hb1, kQ⟩ := h
    have nd := sc__law_row.nd
    refine ⟨_,       (pss_cons (ps_set (i := 3) nd rfl (Or.inl rfl) (pe_lst pa_nil))
      (pss_cons (ps_set (i := 4) nd rfl (Or.inl rfl) (pe_callB call_abs (by rfl) T.n_abs (by decide +kernel) (pa_cons (pv 0) pa_nil)))
      (pss_cons (ps_for PassesOwn.never rfl (pi_range1 rfl T.n_range (pa_cons (pv 1) pa_nil)) (pg_name (i := 5) nd rfl (Or.inl rfl))
        (pss_one (ps_if (pt_cmpR op_ge (pe_callB call_abs (by rfl) T.n_abs (by decide +kernel) (pa_cons (pv 0) pa_nil)) pe_int (nomark _))
          (pss_cons (ps_expr (pe_bm PySem.F.plainAttrs_list PySem.F.slot_list_append PySem.F.type_list_append mt_append (pv 3) (pa_cons (pe_op op_mod (pe_callTy call_int1 (by rfl) T.n_int (by decide +kernel) (pa_cons (pv 4) pa_nil)) (pv 2)) pa_nil)))
          (pss_one (ps_set (i := 4) nd rfl (Or.inl rfl) (pe_op op_fdiv (pv 4) (pv 2)))))
          (pss_one (ps_expr (pe_bm PySem.F.plainAttrs_list PySem.F.slot_list_append PySem.F.type_list_append mt_append (pv 3) (pa_cons (pe_op op_mod (pe_callTy call_int1 (by rfl) T.n_int (by decide +kernel) (pa_cons (pe_callO G__law_mix (hr.mono (by decide)) pass0 (pa_cons (pv 0) (pa_cons (pv 5) pa_nil))) pa_nil)) (pv 2)) pa_nil)))))))
      (pss_one (ps_ret (pv 3)))))), ?_⟩
    refine ⟨by decide, fun p hp => ⟨_, rfl, _, rfl, ?_⟩⟩
    refine ⟨_, rfl, (n : Int), rfl, by omega, by omega, for_range (lo := 0) (n := (n : Int).toNat) (fun i σ H' => ∃ (r : Int) (v : Option V), (1000000000000000000 ≤ (if c < 0 then -c else c) → r = divs i (if c < 0 then -c else c) b) ∧ σ = [some (.int c), some (.int (n : Int)), some (.int b), some (.ref p), some (.int r), v] ∧ Same H H' ∧ H' p = some (.lst ((rowL c i b).map V.int))) ⟨_, none, fun _ => rfl, rfl, same_upd hp, upd_same⟩ ?_ ?_⟩
    · rintro i σ H' hi ⟨r, v, hr', rfl, e, hL⟩
      have ei : (0 : Int) + (i : Int) = (i : Int) := by omega
      have hsz : ((rowL c i b).map V.int).length < sizeLine := small (by rw [List.length_map, rowL_len]; omega)
      refine ⟨_, rfl, _, rfl, _, _, rfl, rfl, _, rfl, itd (fun h => ?_) (fun h => ?_)⟩
      · refine ⟨_, rfl, .inl ⟨rfl, _, SqL.of hL⟩, _, rfl, .inl ⟨_, rfl, _, rfl, _, _, rfl, rfl, hb0, p, _, _, rfl, rfl, hL, hsz, ?_⟩⟩
        refine ⟨_, rfl, _, rfl, _, _, rfl, rfl, ⟨hb0, hb1⟩, ?_⟩
        refine ⟨r / b, _, fun z => ?_, rfl, same_new e hp, ?_⟩
        · rw [hr' z]
          rfl
        · rw [upd_same, rowL_succ, rowAt, if_pos h, ← hr' h]
          simp
      · refine ⟨_, rfl, .inl ⟨rfl, _, SqL.of hL⟩, _, rfl, _, rfl, c, 0 + (i : Int), rfl, .inl ⟨_, rfl, _, rfl, _, _, rfl, rfl, hb0, p, _, _, rfl, rfl, hL, hsz, ?_⟩⟩
        refine ⟨r, _, fun z => absurd z h, rfl, same_new e hp, ?_⟩
        rw [upd_same, rowL_succ, rowAt, if_neg h, ei]
        simp
    · rintro σ H' ⟨r, v, _, rfl, e, hL⟩
      refine ⟨_, rfl, kQ p _ hp e ?_⟩
      rw [Int.toNat_natCast] at hL
      exact hL

theorem cut_midG {xs : List V} {j k : Nat} (h : j ≤ k) : cutV xs (some (j : Int)) (some (k : Int)) = (xs.drop j).take (k - j) := by
  unfold cutV
  have e1 : HT.sIx xs.length 0 (some (j : Int)) = min j xs.length := HT.sIx_nat _ _ j
  have e2 : HT.sIx xs.length xs.length (some (k : Int)) = min k xs.length := HT.sIx_nat _ _ k
  rw [e1, e2]
  by_cases h1 : j ≤ xs.length
  · rw [Nat.min_eq_left h1]
    by_cases h2 : k ≤ xs.length
    · rw [Nat.min_eq_left h2]
    · rw [Nat.min_eq_right (by omega), List.take_of_length_le (by rw [List.length_drop]; omega), List.take_of_length_le (by rw [List.length_drop]; omega)]
  · rw [List.drop_of_length_le (by omega), List.drop_of_length_le (by omega), List.take_nil, List.take_nil]
theorem cut_toG {xs : List V} {k : Nat} : cutV xs none (some (k : Int)) = xs.take k := by
  unfold cutV
  have e2 : HT.sIx xs.length xs.length (some (k : Int)) = min k xs.length := HT.sIx_nat _ _ k
  have e1 : HT.sIx xs.length 0 none = 0 := rfl
  rw [e1, e2, List.drop_zero, Nat.sub_zero]
  by_cases h2 : k ≤ xs.length
  · rw [Nat.min_eq_left h2]
  · rw [Nat.min_eq_right (by omega), List.take_of_length_le (Nat.le_refl _), List.take_of_length_le (by omega)]
theorem tru_l {K : PySem.W.Frag} {H : Hp} {p : Addr} {xs : List V} (h : SqL K H p xs) : TruV K (.ref p) H (!xs.isEmpty) := .inl ⟨xs, h, rfl⟩
theorem tru_t {K : PySem.W.Frag} {H : Hp} {p : Addr} {xs : List V} (h : SqT K H p xs) : TruV K (.ref p) H (!xs.isEmpty) := .inr (.inl ⟨xs, h, rfl⟩)
theorem ne_noG {d e : PyData} {A B : Prop} (h : PyData.eqv d e = true) (hb : B) : ∃ k, V.bl (!PyData.eqv d e) = V.bl k ∧ if k = true then A else B := ⟨_, rfl, by rw [h]; exact iteF hb⟩
theorem nm_noG {x y : V} {A B : Prop} (h : x = y) (hb : B) : ∃ k, V.bl (!decide (x = y)) = V.bl k ∧ if k = true then A else B := ⟨_, rfl, by rw [h]; simpa using hb⟩
theorem if_ff {A B : Prop} (h : B) : if (true = false) then A else B := by
  rw [if_neg (by decide)]
  exact h
theorem if_tf {A B : Prop} (h : A) : if (false = false) then A else B := by
  rw [if_pos rfl]
  exact h

def spIsSym : Sp := fun vs H Q _ => ∃ n : Int, vs = [.int n] ∧ Q (.bl (decide (0 ≤ n ∧ n < 16))) H
theorem ok_is_symbol (T : Txt K mg C_ArchiveError C_InvalidSymbol c_check_bodies P_check_bodies) : Ok P w K mg base CX0 1 "is_symbol" ["integer"] spIsSym := by
  refine ok_of T.d_is_symbol fun f fd F => F.ok sc_is_symbol (fun vs H Q E h => ?_) (fun cdv A outer s H vs Q E hr h => ?_)
  · obtain ⟨n, rfl, _⟩ := h
    rfl
  · obtain ⟨n, rfl, q⟩ := h
    have nd := sc_is_symbol.nd
    refine ⟨_,       (pss_one (ps_ret (pe_chain op_le op_lt pe_int (pv 0) (pe_globC rfl T.c_SYMBOLS)))), ?_⟩
    refine ⟨_, rfl, _, _, rfl, rfl, _, rfl, itd (fun h0 => ?_) (fun h0 => ?_)⟩
    · refine ⟨_, _, rfl, rfl, ?_⟩
      have e : decide (0 ≤ n ∧ n < 16) = decide (n < 16) := by simp [h0]
      rw [e] at q
      exact q
    · have e : decide (0 ≤ n ∧ n < 16) = false := by simp [h0]
      rw [e] at q
      exact q
def spCheck (C : Addr) : Sp := fun vs H Q E => ∃ n : Int, vs = [.int n] ∧ (¬ sym n → E (.ref C) none H) ∧ (sym n → Q .non H)
theorem ok__check_symbol (T : Txt K mg C_ArchiveError C_InvalidSymbol c_check_bodies P_check_bodies) : Ok P w K mg base (CXN P w) 2 "_check_symbol" ["a"] (spCheck C_InvalidSymbol) := by
  have G_is_symbol := ok_is_symbol (P := P) (w := w) (base := base) T
  refine ok_of T.d__check_symbol fun f fd F => okN F sc__check_symbol (fun vs H Q E h => ?_) (fun cdv A outer s H vs Q E hr h => ?_)
  · obtain ⟨n, rfl, _⟩ := h
    rfl
  · obtain ⟨n, rfl, kE, kQ⟩ := h
    have nd := sc__check_symbol.nd
    refine ⟨_,       (pss_one (ps_if (pt_not (pt_val (pe_callO G_is_symbol (hr.mono (by decide)) pass0 (pa_cons (pv 0) pa_nil))))
        (pss_one (L2N.ps_raise rfl (L2N.takes_of rfl rfl rfl rfl) (L2N.pmk_own PySem.F.excBase_ValueError T.x_InvalidSymbol.x T.x_InvalidSymbol.g T.x_InvalidSymbol.k (raises_own T.x_InvalidSymbol.b T.x_InvalidSymbol.t) rfl))) pss_nil)), ?_⟩
    refine ⟨_, rfl, n, rfl, _, rfl, itb (fun h => ?_) (fun h => ?_)⟩
    · exact kE fun z => by
        have := z.1
        have := z.2
        simp at h
        omega
    · simp at h
      exact kQ ⟨h.1, h.2⟩

def sp2 (C : Addr) (op : Int → Int → Int) : Sp := fun vs H Q E => ∃ a b : Int, vs = [.int a, .int b] ∧ (¬ (sym a ∧ sym b) → E (.ref C) none H) ∧ (sym a → sym b → Q (.int (op a b)) H)
abbrev rowV : List (List V) := [[V.int 0, V.int 0, V.int 0, V.int 0, V.int 0, V.int 0, V.int 0, V.int 0, V.int 0, V.int 0, V.int 0, V.int 0, V.int 0, V.int 0, V.int 0, V.int 0], [V.int 0, V.int 1, V.int 2, V.int 3, V.int 4, V.int 5, V.int 6, V.int 7, V.int 8, V.int 9, V.int 10, V.int 11, V.int 12, V.int 13, V.int 14, V.int 15], [V.int 0, V.int 2, V.int 4, V.int 6, V.int 8, V.int 10, V.int 12, V.int 14, V.int 3, V.int 1, V.int 7, V.int 5, V.int 11, V.int 9, V.int 15, V.int 13], [V.int 0, V.int 3, V.int 6, V.int 5, V.int 12, V.int 15, V.int 10, V.int 9, V.int 11, V.int 8, V.int 13, V.int 14, V.int 7, V.int 4, V.int 1, V.int 2], [V.int 0, V.int 4, V.int 8, V.int 12, V.int 3, V.int 7, V.int 11, V.int 15, V.int 6, V.int 2, V.int 14, V.int 10, V.int 5, V.int 1, V.int 13, V.int 9], [V.int 0, V.int 5, V.int 10, V.int 15, V.int 7, V.int 2, V.int 13, V.int 8, V.int 14, V.int 11, V.int 4, V.int 1, V.int 9, V.int 12, V.int 3, V.int 6], [V.int 0, V.int 6, V.int 12, V.int 10, V.int 11, V.int 13, V.int 7, V.int 1, V.int 5, V.int 3, V.int 9, V.int 15, V.int 14, V.int 8, V.int 2, V.int 4], [V.int 0, V.int 7, V.int 14, V.int 9, V.int 15, V.int 8, V.int 1, V.int 6, V.int 13, V.int 10, V.int 3, V.int 4, V.int 2, V.int 5, V.int 12, V.int 11], [V.int 0, V.int 8, V.int 3, V.int 11, V.int 6, V.int 14, V.int 5, V.int 13, V.int 12, V.int 4, V.int 15, V.int 7, V.int 10, V.int 2, V.int 9, V.int 1], [V.int 0, V.int 9, V.int 1, V.int 8, V.int 2, V.int 11, V.int 3, V.int 10, V.int 4, V.int 13, V.int 5, V.int 12, V.int 6, V.int 15, V.int 7, V.int 14], [V.int 0, V.int 10, V.int 7, V.int 13, V.int 14, V.int 4, V.int 9, V.int 3, V.int 15, V.int 5, V.int 8, V.int 2, V.int 1, V.int 11, V.int 6, V.int 12], [V.int 0, V.int 11, V.int 5, V.int 14, V.int 10, V.int 1, V.int 15, V.int 4, V.int 7, V.int 12, V.int 2, V.int 9, V.int 13, V.int 6, V.int 8, V.int 3], [V.int 0, V.int 12, V.int 11, V.int 7, V.int 5, V.int 9, V.int 14, V.int 2, V.int 10, V.int 6, V.int 1, V.int 13, V.int 15, V.int 3, V.int 4, V.int 8], [V.int 0, V.int 13, V.int 9, V.int 4, V.int 1, V.int 12, V.int 8, V.int 5, V.int 2, V.int 15, V.int 11, V.int 6, V.int 3, V.int 14, V.int 10, V.int 7], [V.int 0, V.int 14, V.int 15, V.int 1, V.int 13, V.int 3, V.int 2, V.int 12, V.int 9, V.int 7, V.int 6, V.int 8, V.int 4, V.int 10, V.int 11, V.int 5], [V.int 0, V.int 15, V.int 13, V.int 2, V.int 9, V.int 6, V.int 4, V.int 11, V.int 1, V.int 14, V.int 12, V.int 3, V.int 8, V.int 7, V.int 5, V.int 10]]
def rowOf (a : Int) : List V := (List.range 16).map fun b => V.int (mulI a (b : Nat))
theorem rowV_at {a : Int} (ha : sym a) : rowV[a.toNat]? = some (rowOf a) := sym_all (p := fun a => rowV[a.toNat]? = some (rowOf a)) (by decide +kernel) ha
theorem rowOf_at {a b : Int} (ha : sym a) (hb : sym b) : atI (rowOf a) b = some (.int (mulI a b)) :=
  sym_all (p := fun b => atI (rowOf a) b = some (.int (mulI a b))) (fun j => by
    refine atI_nat ?_
    rw [rowOf, List.getElem?_map, List.getElem?_range j.isLt]
    rfl) hb
theorem row_at {a b : Int} (ha : sym a) (hb : sym b) : ∃ row, rowV[a.toNat]? = some row ∧ atI row b = some (.int (mulI a b)) := ⟨_, rowV_at ha, rowOf_at ha hb⟩
theorem ok_multiply (T : Txt K mg C_ArchiveError C_InvalidSymbol c_check_bodies P_check_bodies) : Ok P w K mg base (CXN P w) 3 "multiply" ["a", "b"] (sp2 C_InvalidSymbol mulI) := by
  have G__check_symbol := ok__check_symbol (P := P) (w := w) (base := base) T
  refine ok_of T.d_multiply fun f fd F => okN F sc_multiply (fun vs H Q E h => ?_) (fun cdv A outer s H vs Q E hr h => ?_)
  · obtain ⟨a, b, rfl, _⟩ := h
    rfl
  · obtain ⟨a, b, rfl, kE, kQ⟩ := h
    have nd := sc_multiply.nd
    refine ⟨_,       (pss_cons (ps_expr (pe_callO G__check_symbol (hr.mono (by decide)) (passX (L2N.takes_of rfl rfl rfl rfl) (fun _ _ _ z => z)) (pa_cons (pv 0) pa_nil)))
      (pss_cons (ps_expr (pe_callO G__check_symbol (hr.mono (by decide)) (passX (L2N.takes_of rfl rfl rfl rfl) (fun _ _ _ z => z)) (pa_cons (pv 1) pa_nil)))
      (pss_one (ps_ret (pe_ix ix_tup (pe_ix ix_tup (CT2.pe_globTT rfl T.c_PRODUCTS) (pv 0) (fun _ _ => rfl)) (pv 1) (fun _ _ => rfl)))))), ?_⟩
    refine ⟨_, rfl, a, rfl, fun hn => kE fun z => hn z.1, fun ha => ?_⟩
    refine ⟨_, rfl, b, rfl, fun hn => kE fun z => hn z.2, fun hb => ?_⟩
    intro p rs hp hr
    obtain ⟨row, h1, h2⟩ := row_at ha hb
    obtain ⟨r, h3, h4, _⟩ := hr a.toNat row h1
    refine ⟨_, rfl, p, _, a, .ref r, rfl, rfl, hp _, at_nat (j := a.toNat) (by have := ha.1; omega) h3, _, rfl, r, _, b, _, rfl, rfl, h4 _, h2, kQ ha hb⟩
theorem inv_nat {a : Int} (ha : sym a) : ((invI a).toNat : Int) = invI a := sym_all (p := fun a => ((invI a).toNat : Int) = invI a) (by decide +kernel) ha
theorem inv_at {a : Int} (ha : sym a) (h0 : a ≠ 0) : (rowOf a)[(invI a).toNat]? = some (V.int 1) ∧ ∀ (m : Nat) (z : V), m < (invI a).toNat → (rowOf a)[m]? = some z → eqV z (V.int 1) = false := by
  refine sym_all (p := fun a => a ≠ 0 → (rowOf a)[(invI a).toNat]? = some (V.int 1) ∧ ∀ (m : Nat) (z : V), m < (invI a).toNat → (rowOf a)[m]? = some z → eqV z (V.int 1) = false) (fun i => ?_) ha h0
  intro hi
  have h1 : ∀ i : Fin 16, ((i.val : Nat) : Int) ≠ 0 → (rowOf (i.val : Nat))[(invI (i.val : Nat)).toNat]? = some (V.int 1) := by decide +kernel
  have h2 : ∀ i : Fin 16, ((i.val : Nat) : Int) ≠ 0 → ∀ m : Fin 16, m.val < (invI (i.val : Nat)).toNat → mulI (i.val : Nat) (m.val : Nat) ≠ 1 := by decide +kernel
  refine ⟨h1 i hi, fun m z hm hz => ?_⟩
  have hm16 : m < 16 := by
    have := (List.getElem?_eq_some_iff.mp hz).1
    simp [rowOf] at this
    exact this
  have h3 := h2 i hi ⟨m, hm16⟩ hm
  rw [rowOf, List.getElem?_map, List.getElem?_range hm16] at hz
  cases hz
  show (mulI (i.val : Nat) (m : Nat) == 1) = false
  exact beq_eq_false_iff_ne.mpr h3
def spInv (C : Addr) : Sp := fun vs H Q E => ∃ a : Int, vs = [.int a] ∧ (¬ (sym a ∧ a ≠ 0) → E (.ref C) none H) ∧ (sym a → a ≠ 0 → Q (.int (invI a)) H)
theorem ok_inverse (T : Txt K mg C_ArchiveError C_InvalidSymbol c_check_bodies P_check_bodies) : Ok P w K mg base (CXN P w) 3 "inverse" ["a"] (spInv C_InvalidSymbol) := by
  have G__check_symbol := ok__check_symbol (P := P) (w := w) (base := base) T
  refine ok_of T.d_inverse fun f fd F => okN F sc_inverse (fun vs H Q E h => ?_) (fun cdv A outer s H vs Q E hr h => ?_)
  · obtain ⟨a, rfl, _⟩ := h
    rfl
  · obtain ⟨a, rfl, kE, kQ⟩ := h
    have nd := sc_inverse.nd
    refine ⟨_,       (pss_cons (ps_expr (pe_callO G__check_symbol (hr.mono (by decide)) (passX (L2N.takes_of rfl rfl rfl rfl) (fun _ _ _ z => z)) (pa_cons (pv 0) pa_nil)))
      (pss_cons (ps_if (pt_cmpR op_eq (pv 0) pe_int (nomark _))
        (pss_one (L2N.ps_raise rfl (L2N.takes_of rfl rfl rfl rfl) (L2N.pmk_own PySem.F.excBase_ValueError T.x_InvalidSymbol.x T.x_InvalidSymbol.g T.x_InvalidSymbol.k (raises_own T.x_InvalidSymbol.b T.x_InvalidSymbol.t) rfl))) pss_nil)
      (pss_one (ps_ret (pe_bm PySem.F.plainAttrs_tuple PySem.F.slot_tuple_index PySem.F.type_tuple_index CT2.mt_indexT (pe_ix ix_tup (CT2.pe_globTT rfl T.c_PRODUCTS) (pv 0) (fun _ _ => rfl)) (pa_cons pe_int pa_nil)))))), ?_⟩
    refine ⟨_, rfl, a, rfl, fun hn => kE fun z => hn z.1, fun ha => ?_⟩
    have e0 : ∀ z : Int, decide (V.int z = V.int 0) = decide (z = 0) := fun z => by simp
    refine ⟨_, rfl, rfl, _, rfl, ?_⟩
    rw [e0]
    refine itd (fun h0 => kE fun z => z.2 h0) (fun h0 => ?_)
    intro p rs hp hr
    obtain ⟨r, h3, h4, h5⟩ := hr a.toNat (rowOf a) (rowV_at ha)
    refine ⟨_, rfl, p, _, a, .ref r, rfl, rfl, hp _, at_nat (j := a.toNat) (by have := ha.1; omega) h3, CT2.tyT h5, r, rowOf a, V.int 1, (invI a).toNat, V.int 1, rfl, rfl, h4 _, rfl, ?_, ?_, rfl, ?_, ?_⟩
    · rw [rowOf, List.all_map]
      exact List.all_eq_true.mpr fun _ _ => rfl
    · exact (inv_at ha h0).1
    · exact (inv_at ha h0).2
    · have e : ((invI a).toNat : Int) = invI a := (inv_nat ha)
      rw [e]
      exact kQ ha h0

theorem vg_dec (a : G) : decide (vg a = V.int 0) = decide (a = 0) := by
  have e : (vg a = V.int 0) = (a = 0) := by
    unfold vg
    rw [V.int.injEq]
    exact propext gi_zero
  simp only [e]
theorem vg_get {gl : List G} {i : Nat} (hi : i < gl.length) : (gl.map vg)[i]? = some (vg (co gl i)) := by
  rw [List.getElem?_map, List.getElem?_eq_getElem hi, co_in hi]
  rfl
theorem get_vg {gl : List G} {i : Nat} {y : V} (h : (gl.map vg)[i]? = some y) : i < gl.length ∧ y = vg (co gl i) := by
  have hi : i < gl.length := by
    have z := (List.getElem?_eq_some_iff.mp h).1
    rw [List.length_map] at z
    exact z
  rw [vg_get hi] at h
  exact ⟨hi, (Option.some.inj h).symm⟩
/-- a new list of symbols -/
def RetG (gl : List G) (H : Hp) (Q : VK) : Prop := ∀ p H', H p = none → Same H H' → H' p = some (.lst (gl.map vg)) → Q (.ref p) H'
/-- a value, the heap may have grown -/
def RetV (v : V) (H : Hp) (Q : VK) : Prop := ∀ H', Same H H' → Q v H'
theorem flat_zero (n : Nat) : (List.replicate n [V.int 0]).flatten = (tab n fun _ => 0).map vg := by
  induction n with
  | zero => rfl
  | succ n ih =>
    have e : tab (n + 1) (fun _ => 0) = tab n (fun _ => (0 : G)) ++ [0] := by simp [tab, List.range_succ]
    rw [List.replicate_succ', List.flatten_append, ih, e, List.map_append]
    rfl

theorem map_co (c : G) (p : List G) (n : Nat) : co (p.map (gm c)) n = gm c (co p n) := by
  by_cases h : n < p.length
  · rw [co_in (by rw [List.length_map]; exact h), co_in h, List.getElem_map]
  · rw [co_out (by rw [List.length_map]; omega), co_out (by omega), gm_zero]
theorem rowG_at (c x : G) : atI (rowOf (gi c)) (gi x) = some (vg (gm c x)) := by
  rw [rowOf_at (gi_sym c) (gi_sym x), gi_mul]
  rfl

-- @@CUT
theorem tab_suc (n : Nat) (f : Nat → G) : tab (n + 1) f = tab n f ++ [f n] := by
  rw [tab, List.range_succ, List.map_append]
  rfl
theorem vg_xor (a b : G) : V.int (Builtin.bitXor (gi a) (gi b)) = vg (ga a b) := by
  unfold vg
  rw [← gi_add]
  rfl
theorem itnV {p A B : Prop} [Decidable p] (h1 : ¬ p → A) (h2 : p → B) : if (!decide p) = true then A else B := by
  by_cases h : p
  · rw [decide_eq_true h]
    exact iteF (h2 h)
  · rw [decide_eq_false h]
    exact iteT (h1 h)
def plusR (p q : List G) (c : G) : List G := tab p.length fun j => ga (co p j) (gm c (co q j))
def spPlus (K : PySem.W.Frag) : Sp := fun vs H Q _ => ∃ (a b : Addr) (p q : List G) (c : G), vs = [.ref a, .ref b, vg c] ∧ SqL K H a (p.map vg) ∧ SqL K H b (q.map vg) ∧ p.length = q.length ∧ p.length ≤ 60000 ∧ RetG (plusR p q c) H Q
theorem ok_plus_scaled (T : Txt K mg C_ArchiveError C_InvalidSymbol c_check_bodies P_check_bodies) : Ok P w K mg base CX0 1 "plus_scaled" ["row", "other", "factor"] (spPlus K) := by
  refine ok_of T.d_plus_scaled fun f fd F => F.ok sc_plus_scaled (fun vs H Q E h => ?_) (fun cdv A outer s H vs Q E hr h => ?_)
  · obtain ⟨a, b, p, q, c, rfl, _⟩ := h
    rfl
  · obtain ⟨a, b, p, q, c, rfl, hA, hB, hl, hz, kQ⟩ := h
    have nd := sc_plus_scaled.nd
    refine ⟨_,       (pss_cons (ps_set (i := 3) nd rfl (Or.inr rfl) (pe_ix ix_tup (CT2.pe_globTT rfl T.c_PRODUCTS) (pv 2) (fun _ _ => rfl)))
      (pss_one (ps_ret (pe_lc (own := [("symbol", 4), ("another", 5)]) (g := _) (tt := tYes) rfl nd (pi_zip (by rfl) T.n_zip (pa_cons (pv 0) (pa_cons (pv 1) pa_nil))) (blkOk_by (N := N_plus_scaled) (sc := defScope s_plus_scaled) (by decide +kernel)) (fun _ _ _ _ _ => (TK.pg_tupK (K := K) (n := 2) rfl rfl (pgs_cons (pg_name (i := 4) nd rfl (Or.inl rfl)) (pgs_cons (pg_name (i := 5) nd rfl (Or.inl rfl)) pgs_nil)))) (fun _ _ _ _ _ => pts_nil) (fun _ _ _ _ _ => (pe_op op_xor (pv 4) (pe_ix (r := rIxT K) ix_tup (pv 3) (pv 5) (fun _ _ => rfl)))))))), ?_⟩
    intro p0 rs hp hr0
    obtain ⟨r, h3, h4, _⟩ := hr0 (gi c).toNat (rowOf (gi c)) (rowV_at (gi_sym c))
    refine ⟨_, rfl, p0, _, gi c, .ref r, rfl, rfl, hp _, at_nat (j := (gi c).toNat) (by have := (gi_sym c).1; omega) h3, ?_⟩
    refine ⟨_, rfl, _, rfl, a, b, _, _, rfl, hA, hB, fun D hD => lc_it (walk_zip (n := p.length) (by rw [List.length_map, List.length_map]; omega)) (fun i H' => Same H H' ∧ H' D = some (.lst ((tab i fun j => ga (co p j) (gm c (co q j))).map vg))) ⟨same_upd hD, upd_same⟩ (fun i H' _ ⟨e, _⟩ => ⟨e.seq hA, e.seq hB⟩) ?_ ?_⟩
    · rintro i x H1 H2 hi ⟨e, hDl⟩ ⟨T1, u, v, rfl, hT, rfl, hu, hv⟩
      obtain ⟨_, rfl⟩ := get_vg hu
      obtain ⟨hq, rfl⟩ := get_vg hv
      have nD : D ≠ T1 := ne_of_none hDl hT
      have e2 := e.trans (same_upd (o := .tup [vg (co p i), vg (co q i)]) hT)
      refine ⟨T1, _, rfl, SqT.of upd_same, rfl, _, _, rfl, _, _, rfl, rfl, rfl, ?_⟩
      dsimp only [tYes]
      try rw [if_pos rfl]
      refine ⟨_, rfl, _, rfl, _, rfl, r, _, gi (co q i), _, rfl, rfl, h4 _, rowG_at c (co q i), _, _, rfl, rfl, _, (by rw [upd_ne nD]; exact hDl), small (by rw [List.length_map, tab_len]; omega), same_new e2 hD, ?_⟩
      rw [upd_same, tab_suc, List.map_append]
      show some (HO.lst (_ ++ [V.int (Builtin.bitXor (gi (co p i)) (gi (gm c (co q i))))])) = _
      rw [vg_xor]
      rfl
    · rintro H' ⟨e, hDl⟩
      exact kQ D H' hD e hDl
def spWeight (K : PySem.W.Frag) : Sp := fun vs H Q _ => ∃ (a : Addr) (pts : List G) (own t : G), vs = [.ref a, vg own, vg t] ∧ SqL K H a (pts.map vg) ∧ Q (vg (wt pts own t)) H
theorem vg_inj {a b : G} (h : vg a = vg b) : a = b := gi_inj (by unfold vg at h; exact V.int.inj h)
theorem ok__weight (T : Txt K mg C_ArchiveError C_InvalidSymbol c_check_bodies P_check_bodies) : Ok P w K mg base (CXN P w) 4 "_weight" ["points", "own", "target"] (spWeight K) := by
  have G_multiply := ok_multiply (P := P) (w := w) (base := base) T
  have G_inverse := ok_inverse (P := P) (w := w) (base := base) T
  refine ok_of T.d__weight fun f fd F => okN F sc__weight (fun vs H Q E h => ?_) (fun cdv A outer s H vs Q E hr h => ?_)
  · obtain ⟨a, pts, own, t, rfl, _⟩ := h
    rfl
  · obtain ⟨a, pts, own, t, rfl, hA, kQ⟩ := h
    have nd := sc__weight.nd
    have po := passes_of (X := cxOf (CXN P w) P w K mg base N__weight "_weight" (defScope s__weight) f cdv A outer s H E) rfl
    refine ⟨_,       (pss_cons (ps_set (i := 3) nd rfl (Or.inl rfl) pe_int)
      (pss_cons (ps_set (i := 4) nd rfl (Or.inl rfl) pe_int)
      (pss_cons (ps_for po rfl (pi_list (pv 0)) (pg_name (i := 5) nd rfl (Or.inl rfl))
        (pss_one (ps_if (pt_cmpR op_ne (pv 5) (pv 1) (nomark _))
          (pss_cons (ps_set (i := 3) nd rfl (Or.inl rfl) (pe_ix ix_tup (pe_ix ix_tup (CT2.pe_globTT rfl T.c_PRODUCTS) (pv 3) (fun _ _ => rfl)) (pe_op op_xor (pv 2) (pv 5)) (fun _ _ => rfl)))
          (pss_one (ps_set (i := 4) nd rfl (Or.inl rfl) (pe_ix ix_tup (pe_ix ix_tup (CT2.pe_globTT rfl T.c_PRODUCTS) (pv 4) (fun _ _ => rfl)) (pe_op op_xor (pv 1) (pv 5)) (fun _ _ => rfl))))) pss_nil)))
      (pss_one (ps_ret (pe_callO G_multiply (hr.mono (by decide)) (passX (L2N.takes_of rfl rfl rfl rfl) (fun _ _ _ z => z)) (pa_cons (pv 3) (pa_cons (pe_callO G_inverse (hr.mono (by decide)) (passX (L2N.takes_of rfl rfl rfl rfl) (fun _ _ _ z => z)) (pa_cons (pv 4) pa_nil)) pa_nil)))))))), ?_⟩
    refine ⟨_, rfl, a, rfl, ⟨_, hA⟩, for_list (K := K) (a := a) (xs := pts.map vg) (fun i σ H' => H = H' ∧ ∃ v, σ = [some (.ref a), some (vg own), some (vg t), some (vg (above own t (pts.take i) 1)), some (vg (above own own (pts.take i) 1)), v]) ⟨rfl, none, rfl⟩ (fun i σ H' _ ⟨e, _⟩ => e ▸ hA) ?_ ?_⟩
    · rintro i x σ H' hx ⟨rfl, v, rfl⟩
      obtain ⟨hi, rfl⟩ := get_vg hx
      rw [take_snoc hi, above_app, above_app, ← co_in hi]
      generalize above own t (pts.take i) 1 = A1
      generalize above own own (pts.take i) 1 = B1
      generalize co pts i = x
      refine ⟨_, rfl, _, rfl, rfl, _, rfl, itnV (fun hne => ?_) (fun he => ?_)⟩
      · have hne' : ¬ x = own := fun z => hne (by rw [z])
        intro p0 rs hp hr0
        obtain ⟨r, h3, h4, _⟩ := hr0 (gi A1).toNat (rowOf (gi A1)) (rowV_at (gi_sym A1))
        refine ⟨_, rfl, p0, _, gi A1, .ref r, rfl, rfl, hp _, at_nat (j := (gi A1).toNat) (by have := (gi_sym A1).1; omega) h3, _, rfl, _, rfl, _, _, rfl, rfl, r, _, _, _, rfl, rfl, h4 _, (show atI (rowOf (gi A1)) (Builtin.bitXor (gi t) (gi x)) = some (vg (gm A1 (ga t x))) from by rw [show Builtin.bitXor (gi t) (gi x) = gi (ga t x) from gi_add t x]; exact rowG_at A1 (ga t x)), ?_⟩
        intro p1 rs1 hp1 hr1
        obtain ⟨r1, h31, h41, _⟩ := hr1 (gi B1).toNat (rowOf (gi B1)) (rowV_at (gi_sym B1))
        refine ⟨_, rfl, p1, _, gi B1, .ref r1, rfl, rfl, hp1 _, at_nat (j := (gi B1).toNat) (by have := (gi_sym B1).1; omega) h31, _, rfl, _, rfl, _, _, rfl, rfl, r1, _, _, _, rfl, rfl, h41 _, (show atI (rowOf (gi B1)) (Builtin.bitXor (gi own) (gi x)) = some (vg (gm B1 (ga own x))) from by rw [show Builtin.bitXor (gi own) (gi x) = gi (ga own x) from gi_add own x]; exact rowG_at B1 (ga own x)), rfl, some (vg x), ?_⟩
        show _ = [_, _, _, some (vg (if x = own then A1 else gm A1 (ga t x))), some (vg (if x = own then B1 else gm B1 (ga own x))), _]
        rw [if_neg hne', if_neg hne']
        rfl
      · refine ⟨rfl, some (vg x), ?_⟩
        show _ = [_, _, _, some (vg (if x = own then A1 else gm A1 (ga t x))), some (vg (if x = own then B1 else gm B1 (ga own x))), _]
        rw [if_pos (vg_inj he), if_pos (vg_inj he)]
        rfl
    · rintro σ H' ⟨rfl, v, rfl⟩
      rw [List.length_map, List.take_length]
      have hB := above_ne own pts 1 (by decide)
      have eB : invI (gi (above own own pts 1)) = gi (gv (above own own pts 1)) := gi_inv _ hB
      refine ⟨_, rfl, _, rfl, gi (above own own pts 1), rfl, (fun hn => absurd ⟨gi_sym _, fun z => hB (gi_zero.mp z)⟩ hn), fun _ _ => ?_⟩
      rw [eB]
      refine ⟨_, _, rfl, (fun hn => absurd ⟨gi_sym _, gi_sym _⟩ hn), fun _ _ => ?_⟩
      rw [gi_mul]
      exact kQ
/-- the row of values at t of the polynomials with the rows rws at the points pts -/
def extRow (pts : List G) (rws : List (List G)) (wd : Nat) (t : G) (k : Nat) : List G := tab wd fun j => gs k fun i => gm (wt pts (co pts i) t) (co (rws.getD i []) j)
def RowsAt (K : PySem.W.Frag) (H : Hp) (b : Addr) (wd : Nat) (rws : List (List G)) : Prop := ∃ ras : List Addr, SqL K H b (ras.map V.ref) ∧ Paired (fun r row => SqL K H r (row.map vg)) ras rws ∧ ∀ row ∈ rws, row.length = wd
def NewRows (H : Hp) (l : Addr) (os : List Addr) (rows : List (List G)) : Prop := Paired (fun o row => o ≠ l ∧ H o = some (.lst (row.map vg))) os rows
theorem NewRows.keep {H H' : Hp} {l : Addr} (e : ∀ b o, H b = some o → b ≠ l → H' b = some o) : ∀ {os : List Addr} {rows : List (List G)}, NewRows H l os rows → NewRows H' l os rows
  | _, _, .nil => .nil
  | _, _, .cons h r => .cons ⟨h.1, e _ _ h.2 h.1⟩ (NewRows.keep e r)
theorem NewRows.snoc {H : Hp} {l : Addr} : ∀ {os : List Addr} {rows : List (List G)} {o : Addr} {row : List G}, NewRows H l os rows → o ≠ l → H o = some (.lst (row.map vg)) → NewRows H l (os ++ [o]) (rows ++ [row])
  | _, _, _, _, .nil, h, h2 => .cons ⟨h, h2⟩ .nil
  | _, _, _, _, .cons h r, h1, h2 => .cons h (NewRows.snoc r h1 h2)
theorem pair_get {α β : Type} {R : α → β → Prop} : ∀ {rs : List α} {rows : List β} {i : Nat} {r : α}, Paired R rs rows → rs[i]? = some r → ∃ row, rows[i]? = some row ∧ R r row
  | _, _, i, _, .nil, h => by simp at h
  | _, _, 0, _, .cons h r, e => by
    simp at e
    subst e
    exact ⟨_, rfl, h⟩
  | _, _, i + 1, _, .cons h r, e => by
    obtain ⟨s, h1, h2⟩ := pair_get r (by simpa using e)
    exact ⟨s, by simpa using h1, h2⟩
def spExt (K : PySem.W.Frag) : Sp := fun vs H Q _ => ∃ (a b c : Addr) (pts ts : List G) (rws : List (List G)) (wd : Nat), vs = [.ref a, .ref b, .ref c] ∧ SqL K H a (pts.map vg) ∧ RowsAt K H b wd rws ∧ SqL K H c (ts.map vg) ∧ pts.length = rws.length ∧ 1 ≤ rws.length ∧ wd ≤ 60000 ∧ ts.length ≤ 10000 ∧
  ∀ p H' os, H p = none → Same H H' → H' p = some (.lst (os.map V.ref)) → NewRows H' p os (ts.map fun t => extRow pts rws wd t pts.length) → (∀ o ∈ os, H o = none) → os.Nodup → Q (.ref p) H'
theorem ok_extended (T : Txt K mg C_ArchiveError C_InvalidSymbol c_check_bodies P_check_bodies) : Ok P w K mg base (CXN P w) 5 "extended" ["points", "rows", "targets"] (spExt K) := by
  have G_plus_scaled := ok_plus_scaled (P := P) (w := w) (base := base) T
  have G__weight := ok__weight (P := P) (w := w) (base := base) T
  refine ok_of T.d_extended fun f fd F => okN F sc_extended (fun vs H Q E h => ?_) (fun cdv A outer s H vs Q E hr h => ?_)
  · obtain ⟨a, b, c, pts, ts, rws, wd, rfl, _⟩ := h
    rfl
  · obtain ⟨a, b, c, pts, ts, rws, wd, rfl, hA, ⟨ras, hB, hR, hW⟩, hC, hpr, h1, hwd, hts, kQ⟩ := h
    have nd := sc_extended.nd
    have po := passes_of (X := cxOf (CXN P w) P w K mg base N_extended "extended" (defScope s_extended) f cdv A outer s H E) rfl
    refine ⟨_,       (pss_cons (ps_set (i := 3) nd rfl (Or.inl rfl) (pe_lst pa_nil))
      (pss_cons (ps_for po rfl (pi_list (pv 2)) (pg_name (i := 4) nd rfl (Or.inl rfl))
        (pss_cons (ps_set (i := 5) nd rfl (Or.inl rfl) (pe_op op_rep (pe_lst (pa_cons pe_int pa_nil)) (pe_callB call_len_seq (by rfl) T.n_len PySem.boot_len (pa_cons (pe_ix ix_list (pv 1) pe_int (fun _ _ => rfl)) pa_nil))))
        (pss_cons (ps_for po rfl (pi_zip (by rfl) T.n_zip (pa_cons (pv 0) (pa_cons (pv 1) pa_nil))) (pg_tup rfl (pgs_cons (pg_name (i := 6) nd rfl (Or.inl rfl)) (pgs_cons (pg_name (i := 7) nd rfl (Or.inl rfl)) pgs_nil)))
          (pss_one (ps_set (i := 5) nd rfl (Or.inl rfl) (pe_callO G_plus_scaled (hr.mono (by decide)) pass0 (pa_cons (pv 5) (pa_cons (pv 7) (pa_cons (pe_callO G__weight (hr.mono (by decide)) (passX (L2N.takes_of rfl rfl rfl rfl) (fun _ _ _ z => z)) (pa_cons (pv 0) (pa_cons (pv 6) (pa_cons (pv 4) pa_nil)))) pa_nil)))))))
        (pss_one (ps_expr (pe_bm PySem.F.plainAttrs_list PySem.F.slot_list_append PySem.F.type_list_append mt_append (pv 3) (pa_cons (pv 5) pa_nil)))))))
      (pss_one (ps_ret (pv 3))))), ?_⟩
    have hRl := hR.length
    obtain ⟨r0, hr0⟩ : ∃ r0, ras[0]? = some r0 := ⟨ras[0]'(by omega), List.getElem?_eq_getElem (by omega)⟩
    obtain ⟨row0, hw0, hs0⟩ := pair_get hR hr0
    have hl0 : row0.length = wd := hW row0 (List.mem_of_getElem? hw0)
    refine ⟨by decide, fun l hl => ?_⟩
    refine ⟨_, rfl, c, rfl, ⟨_, (same_upd hl).seq hC⟩, for_list (K := K) (a := c) (xs := ts.map vg) (fun i σ H' => Same H H' ∧ ∃ (os : List Addr) (v4 v5 v6 v7 : Option V), H' l = some (.lst (os.map V.ref)) ∧ NewRows H' l os ((ts.take i).map fun t => extRow pts rws wd t pts.length) ∧ (∀ o ∈ os, H o = none) ∧ os.Nodup ∧
      σ = [some (.ref a), some (.ref b), some (.ref c), some (.ref l), v4, v5, v6, v7]) ⟨same_upd hl, [], none, none, none, none, upd_same, .nil, (fun _ h => nomatch h), List.nodup_nil, rfl⟩ (fun i σ H' _ ⟨e, _⟩ => e.seq hC) ?_ ?_⟩
    · rintro i x σ Hs hx ⟨e0, os, v4, v5, v6, v7, hL, hN, hfr, hnd, rfl⟩
      obtain ⟨hi, rfl⟩ := get_vg hx
      have hos : os.length ≤ 10000 := by
        have := Paired.length hN
        rw [List.length_map, List.length_take] at this
        omega
      generalize ht : co ts i = t
      refine ⟨(by show 1 ≤ sizeLine; decide), fun z hz => ⟨_, rfl, b, _, 0, .ref r0, rfl, rfl, (e0.trans (same_upd hz)).seq hB, (by rw [show (0 : Int) = ((0 : Nat) : Int) from rfl]; exact atI_nat (by rw [List.getElem?_map, hr0]; rfl)), r0, _, rfl, .inl ((e0.trans (same_upd hz)).seq hs0), z, _, _, rfl, rfl, upd_same, (by first | (simp; done) | (simp; omega)), (by first | (simp; done) | (simp; omega)), ?_, fun tt htt => ?_⟩⟩
      · rw [Int.toNat_natCast, List.length_map, hl0]
        exact smallE (by simp; omega)
      rw [Int.toNat_natCast, List.length_map, hl0, flat_zero]
      have eS : Same Hs (upd (upd Hs z (.lst [V.int 0])) tt (.lst ((tab wd fun _ => 0).map vg))) := (same_upd hz).trans (same_upd htt)
      have nl : tt ≠ l := fun q => by
        have := same_upd (o := .lst [V.int 0]) hz _ _ hL
        rw [← q, htt] at this
        cases this
      refine ⟨_, rfl, _, rfl, a, b, _, _, rfl, (e0.trans eS).seq hA, (e0.trans eS).seq hB, RZ.for_zipL (K := K) (a := a) (b := b) (xs := pts.map vg) (ys := ras.map V.ref) (by rw [List.length_map, List.length_map]; omega)
        (fun k σ H' => Same Hs H' ∧ ∃ (u : Addr) (v6 v7 : Option V), u ≠ l ∧ Hs u = none ∧ H' u = some (.lst ((extRow pts rws wd t k).map vg)) ∧ σ = [some (.ref a), some (.ref b), some (.ref c), some (.ref l), some (vg t), some (.ref u), v6, v7]) ⟨eS, tt, v6, v7, nl, (same_upd hz).free htt, upd_same, by rw [← ht]; rfl⟩ (fun k σ H' ⟨e, _⟩ => ⟨(e0.trans e).seq hA, (e0.trans e).seq hB⟩) ?_ ?_⟩
      · rintro k x y T1 σ H1 hx hy ⟨e1, u, v6, v7, nu, hun, hU, rfl⟩ hT
        obtain ⟨hk, rfl⟩ := get_vg hx
        obtain ⟨rk, hrk, rfl⟩ : ∃ rk, ras[k]? = some rk ∧ y = V.ref rk := by
          rw [List.getElem?_map] at hy
          cases q : ras[k]? with
          | none => rw [q] at hy; cases hy
          | some rk => rw [q] at hy; exact ⟨rk, rfl, (Option.some.inj hy).symm⟩
        obtain ⟨row, hrow, hsr⟩ := pair_get hR hrk
        have hrl : row.length = wd := hW row (List.mem_of_getElem? hrow)
        have e2 := e1.trans (same_upd (o := .tup [vg (co pts k), V.ref rk]) hT)
        have e02 := e0.trans e2
        refine ⟨T1, _, rfl, SqT.of upd_same, rfl, _, _, rfl, _, _, rfl, rfl, ?_⟩
        refine ⟨_, rfl, _, rfl, _, rfl, _, rfl, _, rfl, a, pts, co pts k, t, rfl, e02.seq hA, ?_⟩
        refine ⟨u, rk, extRow pts rws wd t k, row, wt pts (co pts k) t, rfl, SqL.of (same_upd hT _ _ hU), e02.seq hsr, by rw [extRow, tab_len]; omega, by rw [extRow, tab_len]; omega, fun q H2 hq e3 hQ => ?_⟩
        have e13 := e2.trans e3
        refine ⟨e13, q, some (vg (co pts k)), some (.ref rk), ?_, e2.free hq, ?_, rfl⟩
        · intro z
          have := e2 _ _ hL
          rw [← z, hq] at this
          cases this
        · rw [hQ]
          congr 3
          rw [plusR, extRow, tab_len, extRow]
          refine tab_congr fun j hj => ?_
          rw [tab_co, if_pos hj]
          have er : rws.getD k [] = row := by
            rw [List.getD_eq_getElem?_getD, hrow]
            rfl
          show ga _ (gm _ (co row j)) = ga _ (gm _ (co (rws.getD k []) j))
          rw [er]
      · rintro σ H1 ⟨e1, u, v6, v7, nu, hun, hU, rfl⟩
        rw [List.length_map] at hU
        have hL1 := e1 _ _ hL
        have hN1 := hN.keep (H' := H1) fun b o q _ => e1 b o q
        refine ⟨_, rfl, .inl ⟨rfl, _, SqL.of hL1⟩, _, rfl, l, _, _, rfl, rfl, hL1, small (by rw [List.length_map]; omega), same_new (e0.trans e1) hl, os ++ [u], some (vg t), some (.ref u), v6, v7, ?_, ?_, ?_, ?_, rfl⟩
        · rw [upd_same, List.map_append]
          rfl
        · have hN2 : NewRows (upd H1 l (.lst (os.map V.ref ++ [V.ref u]))) l os ((ts.take i).map fun t => extRow pts rws wd t pts.length) := hN1.keep fun b o q n => by rw [upd_ne n]; exact q
          rw [take_snoc hi, List.map_append, ← co_in hi, ht]
          exact hN2.snoc nu (by rw [upd_ne nu]; exact hU)
        · intro o ho
          rcases List.mem_append.mp ho with z | z
          · exact hfr o z
          · rw [List.mem_singleton.mp z]
            exact e0.free hun
        · refine List.nodup_append.mpr ⟨hnd, List.pairwise_singleton _ _, fun x hx y hy e => ?_⟩
          rw [List.mem_singleton.mp hy] at e
          obtain ⟨i, hi, rfl⟩ := List.mem_iff_getElem.mp hx
          obtain ⟨row, _, _, hro⟩ := pair_get hN (List.getElem?_eq_getElem hi)
          rw [e, hun] at hro
          cases hro
    · rintro σ H1 ⟨e1, os, v4, v5, v6, v7, hL, hN, hfr, hnd, rfl⟩
      rw [List.length_map, List.take_length] at hN
      exact ⟨_, rfl, kQ l H1 os hl e1 hL hN hfr hnd⟩

def gN (i : Nat) : G := ⟨i % 16, Nat.mod_lt _ (by decide)⟩
theorem gi_gN {i : Nat} (h : i < 16) : gi (gN i) = (i : Int) := by
  show ((i % 16 : Nat) : Int) = _
  rw [Nat.mod_eq_of_lt h]
def ptsOf (n : Nat) : List G := (List.range n).map gN
def tgsOf (n m : Nat) : List G := (List.range (m - n)).map fun i => gN (n + i)
theorem ptsOf_len (n : Nat) : (ptsOf n).length = n := by simp [ptsOf]
theorem tgsOf_len (n m : Nat) : (tgsOf n m).length = m - n := by simp [tgsOf]
theorem ptsOf_co {n i : Nat} (h : i < n) : co (ptsOf n) i = gN i := by
  rw [co_in (by rw [ptsOf_len]; exact h)]
  simp [ptsOf]
theorem tgsOf_co {n m i : Nat} (h : i < m - n) : co (tgsOf n m) i = gN (n + i) := by
  rw [co_in (by rw [tgsOf_len]; exact h)]
  simp [tgsOf]
theorem nd_map_range {f : Nat → G} {n : Nat} (h : ∀ i j, i < n → j < n → f i = f j → i = j) : ((List.range n).map f).Nodup := by
  refine List.pairwise_map.mpr (List.Pairwise.imp_of_mem (R := fun a b => a ≠ b) (fun {a b} ha hb hne e => hne (h a b (List.mem_range.mp ha) (List.mem_range.mp hb) e)) List.nodup_range)
theorem gN_inj {i j : Nat} (hi : i < 16) (hj : j < 16) (h : gN i = gN j) : i = j := by
  have := congrArg gi h
  rw [gi_gN hi, gi_gN hj] at this
  omega
theorem ptsOf_nd {n : Nat} (h : n ≤ 16) : (ptsOf n).Nodup := nd_map_range fun i j hi hj e => gN_inj (by omega) (by omega) e
theorem rgV_pts {n : Nat} (h : n ≤ 16) : rgV 0 (n : Int) = (ptsOf n).map vg := by
  unfold rgV ptsOf
  rw [List.map_map, show ((n : Int) - 0).toNat = n by omega]
  refine List.map_congr_left fun i hi => ?_
  have := List.mem_range.mp hi
  show V.int (0 + (i : Int)) = vg (gN i)
  unfold vg
  rw [gi_gN (by omega), Int.zero_add]
theorem rgV_tgs {n m : Nat} (h : m ≤ 16) : rgV (n : Int) (m : Int) = (tgsOf n m).map vg := by
  unfold rgV tgsOf
  rw [List.map_map, show ((m : Int) - (n : Int)).toNat = m - n by omega]
  refine List.map_congr_left fun i hi => ?_
  have := List.mem_range.mp hi
  show V.int ((n : Int) + (i : Int)) = vg (gN (n + i))
  unfold vg
  rw [gi_gN (by omega)]
  congr 1
/-- the codeword of the symbols gl -/
def codeW (gl : List G) (m : Nat) : List G := gl ++ (tgsOf gl.length m).map fun t => lag (ptsOf gl.length) gl t
theorem codeW_len {gl : List G} {m : Nat} (h : gl.length ≤ m) : (codeW gl m).length = m := by
  rw [codeW, List.length_append, List.length_map, tgsOf_len]
  omega
theorem map_vg_gi (gl : List G) : (gl.map gi).map V.int = gl.map vg := by
  rw [List.map_map]
  rfl
theorem rows_one (gl : List G) (i : Nat) : co ((gl.map fun g => [g]).getD i []) 0 = co gl i := by
  by_cases h : i < gl.length
  · rw [List.getD_eq_getElem?_getD, List.getElem?_map, List.getElem?_eq_getElem h, co_in h]
    rfl
  · rw [List.getD_eq_getElem?_getD, List.getElem?_eq_none (by rw [List.length_map]; omega), co_out (p := gl) (by omega)]
    rfl
theorem ext_one (pts gl : List G) (t : G) : extRow pts (gl.map fun g => [g]) 1 t pts.length = [lag pts gl t] := by
  unfold extRow lag
  show [gs pts.length fun i => gm (wt pts (co pts i) t) (co ((gl.map fun g => [g]).getD i []) 0)] = _
  refine congrArg (fun z => [z]) (gs_congr fun k _ => ?_)
  rw [rows_one]
theorem NewRows.rows {K : PySem.W.Frag} {H : Hp} {l : Addr} : ∀ {os : List Addr} {rows : List (List G)}, NewRows H l os rows → Paired (fun r row => SqL K H r (row.map vg)) os rows
  | _, _, .nil => .nil
  | _, _, .cons h r => .cons (SqL.of h.2) (NewRows.rows r)

-- @@CUT
def natV (l : List Nat) : List V := l.map fun k : Nat => V.int (k : Int)
theorem natV_snoc (l : List Nat) (k : Nat) : natV (l ++ [k]) = natV l ++ [V.int (k : Int)] := by simp [natV]
theorem natV_gN {l : List Nat} (h : ∀ k ∈ l, k < 16) : natV l = (l.map gN).map vg := by
  unfold natV
  rw [List.map_map]
  refine List.map_congr_left fun k hk => ?_
  show V.int (k : Int) = vg (gN k)
  unfold vg
  rw [gi_gN (h k hk)]
theorem flats_nat (l : List Nat) : (natV l).all flatV = true := by
  refine List.all_eq_true.mpr fun x hx => ?_
  obtain ⟨k, _, rfl⟩ := List.mem_map.mp hx
  rfl
theorem inV_nat (j : Nat) : ∀ l : List Nat, inV (V.int (j : Int)) (natV l) = decide (j ∈ l)
  | [] => by simp [inV, natV]
  | k :: l => by
    have ih := inV_nat j l
    show (eqV (V.int (k : Int)) (V.int (j : Int)) || inV (V.int (j : Int)) (natV l)) = _
    rw [ih]
    show (((k : Int) == (j : Int)) || decide (j ∈ l)) = _
    rw [Bool.eq_iff_iff]
    simp only [Bool.or_eq_true, beq_iff_eq, decide_eq_true_eq, List.mem_cons]
    constructor
    · rintro (h | h)
      · exact .inl (by omega)
      · exact .inr h
    · rintro (h | h)
      · exact .inl (by omega)
      · exact .inr h
theorem filt_snoc (p : Nat → Bool) (i : Nat) : (List.range (i + 1)).filter p = (List.range i).filter p ++ (if p i = true then [i] else []) := by
  rw [List.range_succ, List.filter_append]
  by_cases h : p i = true
  · rw [if_pos h, List.filter_cons_of_pos h]
    rfl
  · rw [if_neg h, List.filter_cons_of_neg h]
    rfl
theorem filt_len (p : Nat → Bool) (i : Nat) : ((List.range i).filter p).length ≤ i := by
  have := List.length_filter_le p (List.range i)
  rw [List.length_range] at this
  exact this

/-- an entry of a group: none, or the row at a reference -/
def EntAt (K : PySem.W.Frag) (H : Hp) (v : V) : Option (List G) → Prop
  | none => v = .non
  | some l => ∃ a, v = .ref a ∧ SqL K H a (l.map vg)
theorem EntAt.keep {K : PySem.W.Frag} {H H' : Hp} (e : Same H H') {v : V} : ∀ {o : Option (List G)}, EntAt K H v o → EntAt K H' v o
  | none, h => h
  | some _, ⟨a, h1, h2⟩ => ⟨a, h1, e.seq h2⟩
def EntsAt (K : PySem.W.Frag) (H : Hp) (vs : List V) (es : List (Option (List G))) : Prop := vs.length = es.length ∧ ∀ (i : Nat) (v : V) (o : Option (List G)), vs[i]? = some v → es[i]? = some o → EntAt K H v o
/-- the same, every row a list that H0 has not -/
def NewEnt (H0 H : Hp) (D : Addr) (v : V) : Option (List G) → Prop
  | none => v = .non
  | some l => ∃ a, v = .ref a ∧ a ≠ D ∧ H0 a = none ∧ H a = some (.lst (l.map vg))
theorem NewEnt.keep {H0 H H' : Hp} {D : Addr} (e : ∀ b o, H b = some o → b ≠ D → H' b = some o) {v : V} : ∀ {o : Option (List G)}, NewEnt H0 H D v o → NewEnt H0 H' D v o
  | none, h => h
  | some _, ⟨a, h1, h2, h3, h4⟩ => ⟨a, h1, h2, h3, e _ _ h4 h2⟩
structure NewEnts (H0 H : Hp) (D : Addr) (vs : List V) (es : List (Option (List G))) : Prop where
  len : vs.length = es.length
  ent : ∀ (i : Nat) (v : V) (o : Option (List G)), vs[i]? = some v → es[i]? = some o → NewEnt H0 H D v o
  inj : ∀ (i j : Nat) (a : Addr), vs[i]? = some (.ref a) → vs[j]? = some (.ref a) → i = j
theorem NewEnts.nil {H0 H : Hp} {D : Addr} : NewEnts H0 H D [] [] := ⟨rfl, fun i v o h => by simp at h, fun i j a h => by simp at h⟩
theorem NewEnts.keep {H0 H H' : Hp} {D : Addr} {vs : List V} {es : List (Option (List G))} (e : ∀ b o, H b = some o → b ≠ D → H' b = some o) (h : NewEnts H0 H D vs es) : NewEnts H0 H' D vs es :=
  ⟨h.len, fun i v o h1 h2 => (h.ent i v o h1 h2).keep e, h.inj⟩
theorem NewEnts.there {H0 H : Hp} {D : Addr} {vs : List V} {es : List (Option (List G))} (h : NewEnts H0 H D vs es) {i : Nat} {a : Addr} (ha : vs[i]? = some (.ref a)) : ∃ xs, H a = some (.lst xs) := by
  obtain ⟨hi, _⟩ := List.getElem?_eq_some_iff.mp ha
  have hi' : i < es.length := by rw [← h.len]; exact hi
  have z := h.ent i _ _ ha (List.getElem?_eq_getElem hi')
  cases q : es[i] with
  | none =>
    rw [q] at z
    cases z
  | some l =>
    rw [q] at z
    obtain ⟨b, h1, _, _, h4⟩ := z
    cases h1
    exact ⟨_, h4⟩
theorem NewEnts.snoc {H0 H : Hp} {D : Addr} {vs : List V} {es : List (Option (List G))} {v : V} {o : Option (List G)} (h : NewEnts H0 H D vs es) (hv : NewEnt H0 H D v o) (hn : ∀ (a : Addr) (i : Nat), v = .ref a → vs[i]? ≠ some (.ref a)) : NewEnts H0 H D (vs ++ [v]) (es ++ [o]) := by
  have get : ∀ {i : Nat} {u : V}, (vs ++ [v])[i]? = some u → (i < vs.length ∧ vs[i]? = some u) ∨ (i = vs.length ∧ u = v) := fun {i u} q => by
    by_cases hi : i < vs.length
    · rw [List.getElem?_append_left hi] at q
      exact .inl ⟨hi, q⟩
    · rw [List.getElem?_append_right (by omega)] at q
      have hz : i - vs.length = 0 := by
        have := (List.getElem?_eq_some_iff.mp q).1
        simp at this
        omega
      rw [hz] at q
      simp at q
      exact .inr ⟨by omega, q.symm⟩
  refine ⟨by rw [List.length_append, List.length_append, h.len]; rfl, fun i u p h1 h2 => ?_, fun i j a h1 h2 => ?_⟩
  · rcases get h1 with ⟨hi, q⟩ | ⟨rfl, rfl⟩
    · rw [List.getElem?_append_left (by rw [← h.len]; exact hi)] at h2
      exact h.ent i u p q h2
    · rw [List.getElem?_append_right (by rw [h.len]; omega), h.len] at h2
      simp at h2
      exact h2 ▸ hv
  · rcases get h1 with ⟨hi, q1⟩ | ⟨rfl, r1⟩
    · rcases get h2 with ⟨hj, q2⟩ | ⟨rfl, r2⟩
      · exact h.inj i j a q1 q2
      · exact absurd q1 (hn a i r2.symm)
    · rcases get h2 with ⟨hj, q2⟩ | ⟨rfl, r2⟩
      · exact absurd q2 (hn a j r1.symm)
      · rfl
theorem NewEnts.set {H0 H : Hp} {D : Addr} {vs : List V} {es : List (Option (List G))} {k : Nat} {a : Addr} {l : List G} (h : NewEnts H0 H D vs es) (hk : k < es.length) (hD : a ≠ D) (h0 : H0 a = none) (ha : H a = some (.lst (l.map vg))) (hn : ∀ i : Nat, vs[i]? ≠ some (.ref a)) : NewEnts H0 H D (vs.set k (.ref a)) (es.set k (some l)) := by
  have hk' : k < vs.length := by rw [h.len]; exact hk
  have get : ∀ {i : Nat} {u : V}, (vs.set k (.ref a))[i]? = some u → (i ≠ k ∧ vs[i]? = some u) ∨ (i = k ∧ u = .ref a) := fun {i u} q => by
    by_cases hi : i = k
    · subst hi
      rw [List.getElem?_set_self hk'] at q
      exact .inr ⟨rfl, (Option.some.inj q).symm⟩
    · rw [List.getElem?_set_ne (fun z => hi z.symm)] at q
      exact .inl ⟨hi, q⟩
  refine ⟨by rw [List.length_set, List.length_set]; exact h.len, fun i u p h1 h2 => ?_, fun i j b h1 h2 => ?_⟩
  · rcases get h1 with ⟨hi, q⟩ | ⟨rfl, rfl⟩
    · rw [List.getElem?_set_ne (fun z => hi z.symm)] at h2
      exact h.ent i u p q h2
    · rw [List.getElem?_set_self hk] at h2
      rw [← Option.some.inj h2]
      exact ⟨a, rfl, hD, h0, ha⟩
  · rcases get h1 with ⟨hi, q1⟩ | ⟨rfl, r1⟩
    · rcases get h2 with ⟨hj, q2⟩ | ⟨rfl, r2⟩
      · exact h.inj i j b q1 q2
      · cases r2
        exact absurd q1 (hn i)
    · rcases get h2 with ⟨hj, q2⟩ | ⟨rfl, r2⟩
      · cases r1
        exact absurd q2 (hn j)
      · rfl
def isE (es : List (Option (List G))) (k : Nat) : Bool := (es.getD k none).isSome
def ptsE (es : List (Option (List G))) (c : Nat) : List Nat := ((List.range es.length).filter (isE es)).take c
def misE (es : List (Option (List G))) (c : Nat) : List Nat := (List.range c).filter fun k => !isE es k
def rowsE (es : List (Option (List G))) (c : Nat) : List (List G) := (ptsE es c).map fun k => (es.getD k none).getD []
def fillE (es : List (Option (List G))) (c wd k : Nat) : List G := extRow ((ptsE es c).map gN) (rowsE es c) wd (gN k) (ptsE es c).length
/-- the bodies of the data pages, the first i missing ones filled -/
def dataE (es : List (Option (List G))) (c wd i : Nat) : List (Option (List G)) := (List.range c).map fun k => if k ∈ (misE es c).take i then some (fillE es c wd k) else es.getD k none
theorem dataE_zero {es : List (Option (List G))} {c wd : Nat} (h : c ≤ es.length) : dataE es c wd 0 = es.take c := by
  refine List.ext_getElem (by simp [dataE]; omega) fun k h1 h2 => ?_
  have hk : k < es.length := by simp at h2; omega
  simp [dataE, hk]
theorem dataE_succ {es : List (Option (List G))} {c wd i : Nat} (hi : i < (misE es c).length) : (dataE es c wd i).set (misE es c)[i] (some (fillE es c wd (misE es c)[i])) = dataE es c wd (i + 1) := by
  refine List.ext_getElem (by simp [dataE]) fun k h1 h2 => ?_
  rw [List.getElem_set]
  simp only [dataE, List.getElem_map, List.getElem_range]
  rw [take_snoc hi]
  by_cases e : (misE es c)[i] = k
  · rw [if_pos e, if_pos (by simp [e]), e]
  · rw [if_neg e]
    by_cases e2 : k ∈ (misE es c).take i
    · rw [if_pos e2, if_pos (List.mem_append_left _ e2)]
    · rw [if_neg e2, if_neg (by simp only [List.mem_append, List.mem_singleton, not_or]; exact ⟨e2, fun z => e z.symm⟩)]
def dueE (es : List (Option (List G))) (c wd : Nat) : List (Option (List G)) := if (ptsE es c).length < c then es.take c else dataE es c wd (misE es c).length
def okC (es : List (Option (List G))) (cnt : Int) : Prop := 1 ≤ cnt ∧ cnt ≤ (es.length : Int) ∧ (es.length : Int) ≤ 16
def spComplete (K : PySem.W.Frag) (C : Addr) : Sp := fun vs H Q E => ∃ (b : Addr) (us : List V) (es : List (Option (List G))) (cnt : Int) (wd : Nat), vs = [.ref b, .int cnt] ∧ SqL K H b us ∧ EntsAt K H us es ∧ (∀ l, some l ∈ es → l.length = wd) ∧ wd ≤ 60000 ∧ (¬ okC es cnt → E (.ref C) none H) ∧
  ∀ c : Nat, cnt = (c : Int) → 1 ≤ c → c ≤ es.length → es.length ≤ 16 → ∀ p H' ws, H p = none → Same H H' → H' p = some (.lst ws) → NewEnts H H' p ws (dueE es c wd) → Q (.ref p) H'
theorem ok_complete (T : Txt K mg C_ArchiveError C_InvalidSymbol c_check_bodies P_check_bodies) : Ok P w K mg base (CXN P w) 6 "complete" ["bodies", "count"] (spComplete K C_InvalidSymbol) := by
  have G_extended := ok_extended (P := P) (w := w) (base := base) T
  refine ok_of T.d_complete fun f fd F => okN F sc_complete (fun vs H Q E h => ?_) (fun cdv A outer s H vs Q E hr h => ?_)
  · obtain ⟨b, us, es, cnt, wd, rfl, _⟩ := h
    rfl
  · obtain ⟨b, us, es, cnt, wd, rfl, hB, ⟨hul, hent⟩, hwd, hw6, kE, kQ⟩ := h
    have nd := sc_complete.nd
    have po := passes_of (X := cxOf (CXN P w) P w K mg base N_complete "complete" (defScope s_complete) f cdv A outer s H E) rfl
    refine ⟨_,       (pss_cons (ps_if (pt_not (CH3.pt_three op_le op_le op_le pe_int (pv 1) (pe_callB call_len_seq (by rfl) T.n_len PySem.boot_len (pa_cons (pv 0) pa_nil)) (pe_globC rfl T.c_LONGEST)))
        (pss_one (L2N.ps_raise rfl (L2N.takes_of rfl rfl rfl rfl) (L2N.pmk_own PySem.F.excBase_ValueError T.x_InvalidSymbol.x T.x_InvalidSymbol.g T.x_InvalidSymbol.k (raises_own T.x_InvalidSymbol.b T.x_InvalidSymbol.t) rfl))) pss_nil)
      (pss_cons (ps_set (i := 2) nd rfl (Or.inr rfl) (pe_lc (own := [("body", 3)]) (g := gName 3) (tt := tYes) rfl nd (pi_list (pe_slice sl_list (pv 0) po_none (po_some (pv 1)))) (blkOk_by (N := N_complete) (sc := defScope s_complete) (by decide +kernel)) (fun _ _ _ _ _ => (pg_name (i := 3) nd rfl (Or.inl rfl))) (fun _ _ _ _ _ => pts_nil) (fun _ _ _ _ _ => (pe_ifExp (pt_cmpR op_isN (pv 3) pe_non (nomark _)) pe_non (pe_callTy (TK.call_list_ofK (K := K)) (by rfl) T.n_list (by decide +kernel) (pa_cons (pv 3) pa_nil))))))
      (pss_cons (ps_set (i := 4) nd rfl (Or.inl rfl) (pe_slice sl_list (pe_lc (own := [("at", 5), ("body", 3)]) (g := _) rfl nd (pi_enum (by rfl) T.n_enumerate (pa_cons (pv 0) pa_nil)) (blkOk_by (N := N_complete) (sc := defScope s_complete) (by decide +kernel)) (fun _ _ _ _ _ => (TK.pg_tupK (K := K) (n := 2) rfl rfl (pgs_cons (pg_name (i := 5) nd rfl (Or.inl rfl)) (pgs_cons (pg_name (i := 3) nd rfl (Or.inl rfl)) pgs_nil)))) (fun _ _ _ _ _ => (pts_one (pt_cmpR op_notN (pv 3) pe_non (nomark _)))) (fun _ _ _ _ _ => (pv 5))) po_none (po_some (pv 1))))
      (pss_cons (ps_if (pt_cmpR op_lt (pe_callB call_len_seq (by rfl) T.n_len PySem.boot_len (pa_cons (pv 4) pa_nil)) (pv 1) (nomark _))
        (pss_one (ps_ret (pv 2))) pss_nil)
      (pss_cons (ps_setLc (i := 6) (own := [("at", 5)]) (g := gName 5) rfl nd rfl rfl (sw_true rfl rfl rfl (by decide +kernel)) (pi_range1 rfl T.n_range (pa_cons (pv 1) pa_nil)) (blkOk_by (N := N_complete) (sc := defScope s_complete) (by decide +kernel)) (fun _ _ _ _ _ => (pg_name (i := 5) nd rfl (Or.inl rfl))) (fun _ _ _ _ _ => (pts_one (pt_cmpR op_isN (pe_ix (r := rIxL K) ix_list (pv 2) (pv 5) (fun _ _ => rfl)) pe_non (nomark _)))) (fun _ _ _ _ _ => (pv 5)))
      (pss_cons (ps_set (i := 7) nd rfl (Or.inl rfl) (pe_callO G_extended (hr.mono (by decide)) (passX (L2N.takes_of rfl rfl rfl rfl) (fun _ _ _ z => z)) (pa_cons (pv 4) (pa_cons (pe_lc (own := [("at", 5)]) (g := gName 5) (tt := tYes) rfl nd (pi_list (pv 4)) (blkOk_by (N := N_complete) (sc := defScope s_complete) (by decide +kernel)) (fun _ _ _ _ _ => (pg_name (i := 5) nd rfl (Or.inl rfl))) (fun _ _ _ _ _ => pts_nil) (fun _ _ _ _ _ => (pe_ix (r := rIxL K) ix_list (pv 0) (pv 5) (fun _ _ => rfl)))) (pa_cons (pv 6) pa_nil)))))
      (pss_cons (ps_for po rfl (pi_zip (by rfl) T.n_zip (pa_cons (pv 6) (pa_cons (pv 7) pa_nil))) (pg_tup rfl (pgs_cons (pg_name (i := 5) nd rfl (Or.inl rfl)) (pgs_cons (pg_name (i := 3) nd rfl (Or.inl rfl)) pgs_nil)))
        (pss_one (ps_asg (pv 3) (pg_sub (pv 2) (pv 5) set_list))))
      (pss_one (ps_ret (pv 2)))))))))), ?_⟩
    refine ⟨_, rfl, _, _, rfl, rfl, _, rfl, itd (fun c1 => ?_) (fun c1 => ⟨_, rfl, iteT (kE fun z => c1 z.1)⟩)⟩
    refine ⟨_, rfl, b, _, rfl, .inl hB, _, _, rfl, rfl, _, rfl, itd (fun c2 => ?_) (fun c2 => ⟨_, rfl, iteT (kE fun z => c2 (by rw [hul]; exact z.2.1))⟩)⟩
    refine ⟨_, _, rfl, rfl, _, rfl, itnV (fun c3 => kE fun z => c3 (by rw [hul]; exact z.2.2)) (fun c3 => ?_)⟩
    rw [hul] at c2 c3
    obtain ⟨c, rfl⟩ : ∃ c : Nat, cnt = (c : Int) := ⟨cnt.toNat, by omega⟩
    have hc1 : 1 ≤ c := by omega
    have hcn : c ≤ es.length := by omega
    have h16 : es.length ≤ 16 := by omega
    have kR := kQ c rfl hc1 hcn h16
    have hus : ∀ {i : Nat}, i < es.length → ∃ v, us[i]? = some v ∧ EntAt K H v (es.getD i none) := fun {i} hi => by
      have h1 : i < us.length := by omega
      refine ⟨us[i], List.getElem?_eq_getElem h1, ?_⟩
      rw [List.getD_eq_getElem?_getD, List.getElem?_eq_getElem hi]
      exact hent i _ _ (List.getElem?_eq_getElem h1) (List.getElem?_eq_getElem hi)
    -- data
    refine ⟨_, rfl, _, rfl, _, rfl, b, _, rfl, hB, fun r hr => ?_⟩
    rw [cut_toG]
    have f1 := same_upd (o := .lst (us.take c)) hr
    have hR : (upd H r (.lst (us.take c))) r = some (.lst (us.take c)) := upd_same
    generalize upd H r (.lst (us.take c)) = H1 at f1 hR ⊢
    refine ⟨r, rfl, ⟨_, SqL.of hR⟩, fun D hD => lc_list (K := K) (a := r) (xs := us.take c) (fun i H' => Same H1 H' ∧ ∃ ws, H' D = some (.lst ws) ∧ NewEnts H H' D ws (es.take (min i c))) ⟨same_upd hD, [], upd_same, by simp; exact NewEnts.nil⟩ (fun i H' _ ⟨e, _⟩ => SqL.of (e _ _ hR)) ?_ ?_⟩
    · rintro i x H2 hx ⟨e2, ws, hDl, hN⟩
      have hic : i < c := by
        have := (List.getElem?_eq_some_iff.mp hx).1
        rw [List.length_take] at this
        omega
      rw [List.getElem?_take_of_lt hic] at hx
      obtain ⟨v, hv, hE⟩ := hus (i := i) (by omega)
      rw [hx] at hv
      obtain rfl := Option.some.inj hv
      have hwl : ws.length ≤ 16 := by
        have := hN.len
        rw [List.length_take] at this
        omega
      rw [show min i c = i by omega] at hN
      rw [show min (i + 1) c = i + 1 by omega, take_snoc (show i < es.length by omega)]
      have he : es[i]'(by omega) = es.getD i none := by
        rw [List.getD_eq_getElem?_getD, List.getElem?_eq_getElem (show i < es.length by omega)]
        rfl
      rw [he]
      refine ⟨rfl, ?_⟩
      dsimp only [tYes]
      try rw [if_pos rfl]
      generalize es.getD i none = o at hE
      cases o with
      | none =>
        obtain rfl : x = .non := hE
        refine ⟨_, rfl, rfl, _, rfl, itd (fun _ => ?_) (fun h => absurd rfl h)⟩
        refine ⟨_, hDl, small (by omega), same_new e2 hD, ws ++ [.non], upd_same, ?_⟩
        exact NewEnts.snoc (hN.keep fun b o q n => by rw [upd_ne n]; exact q) rfl (fun a i h => by cases h)
      | some l =>
        obtain ⟨a, rfl, hA⟩ := hE
        refine ⟨_, rfl, rfl, _, rfl, itd (fun h => by cases h) (fun _ => ?_)⟩
        have e02 := f1.trans e2
        refine ⟨_, rfl, a, _, rfl, .inl (e02.seq hA), fun l2 hl2 => ?_⟩
        have g1 := same_upd (o := .lst (l.map vg)) hl2
        have nl : l2 ≠ D := fun z => by rw [z, hDl] at hl2; cases hl2
        refine ⟨_, g1 _ _ hDl, small (by omega), same_new (e2.trans g1) hD, ws ++ [.ref l2], upd_same, ?_⟩
        refine NewEnts.snoc (hN.keep fun b o q n => by rw [upd_ne n]; exact g1 _ _ q) ⟨l2, rfl, nl, e02.free hl2, by rw [upd_ne nl, upd_same]⟩ (fun a i h q => ?_)
        cases h
        obtain ⟨xs, hxs⟩ := hN.there q
        rw [hl2] at hxs
        cases hxs
    · rintro H2 ⟨e2, ws, hDl, hN⟩
      rw [List.length_take, show min (min c us.length) c = c by omega] at hN
      have e02 := f1.trans e2
      have hB2 := e02.seq hB
      have hgetE : ∀ {i : Nat}, i < es.length → ∃ v, us[i]? = some v ∧ EntAt K H2 v (es.getD i none) := fun {i} hi => by
        obtain ⟨v, h1, h2⟩ := hus hi
        exact ⟨v, h1, h2.keep e02⟩
      -- points
      refine ⟨_, rfl, b, _, rfl, hB2, fun D2 hD2 => lc_it walk_enum (fun i H' => Same H2 H' ∧ H' D2 = some (.lst (natV ((List.range i).filter (isE es))))) ⟨same_upd hD2, upd_same⟩ (fun i H' _ ⟨e, _⟩ => e.seq hB2) ?_ ?_⟩
      · rintro i x H3 H4 hi ⟨e3, hDl2⟩ ⟨T1, u, v, rfl, hT, rfl, hu, hv⟩
        obtain rfl := Option.some.inj hu
        obtain ⟨v', hv', hE⟩ := hgetE (i := i) (by omega)
        have hvv : us[i]? = some v := hv
        rw [hvv] at hv'
        obtain rfl := Option.some.inj hv'
        have nD : D2 ≠ T1 := ne_of_none hDl2 hT
        have e4 := e3.trans (same_upd (o := .tup [V.int (i : Nat), v]) hT)
        refine ⟨T1, _, rfl, SqT.of upd_same, rfl, _, _, rfl, _, _, rfl, rfl, rfl, ?_⟩
        rw [filt_snoc]
        have hse : (v = .non) ↔ ¬ isE es i = true := by
          unfold isE
          generalize es.getD i none = o at hE
          cases o with
          | none => exact ⟨fun _ h => (by cases h), fun _ => hE⟩
          | some l =>
            obtain ⟨a, rfl, _⟩ := hE
            exact ⟨fun h => (by cases h), fun h => absurd rfl h⟩
        refine ⟨_, rfl, rfl, _, rfl, itnV (fun h => ?_) (fun h => ?_)⟩
        · have hs : isE es i = true := by
            cases q : isE es i with
            | true => rfl
            | false => exact absurd (hse.mpr (by rw [q]; decide)) h
          refine ⟨_, rfl, _, (by rw [upd_ne nD]; exact hDl2), small (by have := filt_len (isE es) i; simp only [natV, List.length_map]; omega), same_new e4 hD2, ?_⟩
          rw [upd_same, if_pos hs, natV_snoc]
        · refine ⟨e4, ?_⟩
          rw [upd_ne nD, hDl2, if_neg (hse.mp h), List.append_nil]
      · rintro H3 ⟨e3, hDl2⟩
        rw [hul] at hDl2
        refine ⟨_, rfl, _, rfl, D2, _, rfl, SqL.of hDl2, fun pp hpp => ?_⟩
        rw [cut_toG]
        have hP : (natV ((List.range es.length).filter (isE es))).take c = natV (ptsE es c) := by
          unfold natV ptsE
          rw [List.map_take]
        rw [hP]
        have f4 := e3.trans (same_upd (o := .lst (natV (ptsE es c))) hpp)
        have hPP : (upd H3 pp (.lst (natV (ptsE es c)))) pp = some (.lst (natV (ptsE es c))) := upd_same
        generalize upd H3 pp (.lst (natV (ptsE es c))) = H4 at f4 hPP ⊢
        have e04 := e02.trans f4
        have hN4 := hN.keep (H' := H4) fun b o q _ => f4 _ _ q
        have hD4 := f4 _ _ hDl
        have hD0 : H D = none := f1.free hD
        have hlen : (natV (ptsE es c)).length = (ptsE es c).length := by simp [natV]
        refine ⟨_, rfl, pp, _, rfl, .inl (SqL.of hPP), _, rfl, _, _, rfl, rfl, _, rfl, itd (fun h => ?_) (fun h => ?_)⟩
        · refine ⟨_, rfl, kR D H4 ws hD0 e04 hD4 ?_⟩
          rw [dueE, if_pos (by omega)]
          exact hN4
        have hfull : ¬ (ptsE es c).length < c := by omega
        have hwsl : ws.length = c := by
          rw [hN4.len, List.length_take]
          omega
        have hget : ∀ {k : Nat}, k < c → ∃ v, ws[k]? = some v ∧ ((v = .non) ↔ isE es k = false) := fun {k} hk => by
          have h1 : k < ws.length := by omega
          have h2 : k < es.length := by omega
          refine ⟨ws[k], List.getElem?_eq_getElem h1, ?_⟩
          have z := hN4.ent k _ _ (List.getElem?_eq_getElem h1) (by rw [List.getElem?_take_of_lt hk]; exact List.getElem?_eq_getElem h2)
          unfold isE
          rw [List.getD_eq_getElem?_getD, List.getElem?_eq_getElem h2]
          generalize es[k] = o at z
          cases o with
          | none => exact ⟨fun _ => rfl, fun _ => z⟩
          | some l =>
            obtain ⟨a, h3, _⟩ := z
            rw [h3]
            exact ⟨fun h => (by cases h), fun h => (by cases h)⟩
        -- missing
        refine ⟨_, rfl, (c : Int), rfl, by omega, by omega, fun D3 hD3 => ?_⟩
        rw [Int.toNat_natCast]
        refine lc_range (lo := 0) (n := c) (fun i H' => Same H4 H' ∧ H' D3 = some (.lst (natV ((List.range i).filter fun k => !isE es k)))) ⟨same_upd hD3, upd_same⟩ ?_ ?_
        · rintro i H5 hi ⟨e5, hDl3⟩
          rw [Int.zero_add, filt_snoc]
          obtain ⟨v, hv, hvn⟩ := hget hi
          refine ⟨rfl, _, rfl, _, rfl, D, _, _, v, rfl, rfl, SqL.of (e5 _ _ hD4), atI_nat hv, rfl, _, rfl, itd (fun h => ?_) (fun h => ?_)⟩
          · refine ⟨_, rfl, _, hDl3, small (by have := filt_len (fun k => !isE es k) i; simp only [natV, List.length_map]; omega), same_new e5 hD3, ?_⟩
            rw [upd_same, if_pos (by rw [hvn.mp h]; rfl), natV_snoc]
          · refine ⟨e5, ?_⟩
            rw [hDl3, if_neg (by cases q : isE es i with
              | true => decide
              | false => exact absurd (hvn.mpr q) h), List.append_nil]
        · rintro H5 ⟨e5, hM⟩
          have hp16 : ∀ k ∈ ptsE es c, k < 16 := fun k hk => by
            have := List.mem_range.mp (List.mem_filter.mp (List.mem_of_mem_take hk)).1
            omega
          have hm16 : ∀ k ∈ misE es c, k < 16 := fun k hk => by
            have := List.mem_range.mp (List.mem_filter.mp hk).1
            omega
          have hPP5 := e5 _ _ hPP
          have e05 := e04.trans e5
          -- rows
          refine ⟨_, rfl, _, rfl, pp, rfl, ⟨_, SqL.of hPP5⟩, fun D4 hD4' => lc_list (K := K) (a := pp) (xs := natV (ptsE es c)) (fun i H' => Same H5 H' ∧ ∃ ras : List Addr, H' D4 = some (.lst (ras.map V.ref)) ∧ Paired (fun r row => SqL K H r (row.map vg)) ras ((rowsE es c).take i)) ⟨same_upd hD4', [], upd_same, .nil⟩ (fun i H' _ ⟨e, _⟩ => SqL.of (e _ _ hPP5)) ?_ ?_⟩
          · rintro i x H6 hx ⟨e6, ras, hDl4, hPr⟩
            have hi : i < (ptsE es c).length := by
              have z := (List.getElem?_eq_some_iff.mp hx).1
              simp [natV] at z
              simpa using z
            have hx' : x = V.int ((ptsE es c)[i] : Nat) := by
              rw [natV, List.getElem?_map, List.getElem?_eq_getElem hi] at hx
              exact (Option.some.inj hx).symm
            subst hx'
            have hk := List.mem_filter.mp (List.mem_of_mem_take (List.getElem_mem hi))
            have hk1 := List.mem_range.mp hk.1
            obtain ⟨v, hv, hE⟩ := hus hk1
            obtain ⟨l, hl⟩ : ∃ l, es.getD (ptsE es c)[i] none = some l := by
              have := hk.2
              unfold isE at this
              cases q : es.getD (ptsE es c)[i] none with
              | none => rw [q] at this; cases this
              | some l => exact ⟨l, rfl⟩
            rw [hl] at hE
            obtain ⟨a, rfl, hA⟩ := hE
            have hir : i < (rowsE es c).length := by rw [rowsE, List.length_map]; exact hi
            have hrow : (rowsE es c)[i] = l := by
              simp only [rowsE, List.getElem_map, hl]
              rfl
            have hrl : ras.length ≤ 16 := by
              have h1 := Paired.length hPr
              have h2 : (rowsE es c).length = (ptsE es c).length := by rw [rowsE, List.length_map]
              have h3 : (ptsE es c).length ≤ es.length := by
                have := filt_len (isE es) es.length
                simp only [ptsE, List.length_take]
                omega
              rw [List.length_take] at h1
              omega
            refine ⟨rfl, ?_⟩
            dsimp only [tYes]
            try rw [if_pos rfl]
            refine ⟨_, rfl, _, rfl, b, _, _, V.ref a, rfl, rfl, (e05.trans e6).seq hB, atI_nat hv, _, hDl4, small (by rw [List.length_map]; omega), same_new e6 hD4', ras ++ [a], ?_, ?_⟩
            · rw [upd_same, List.map_append]
              rfl
            · rw [take_snoc hir, hrow]
              have app : ∀ {xs : List Addr} {ys : List (List G)}, Paired (fun r row => SqL K H r (row.map vg)) xs ys → Paired (fun r row => SqL K H r (row.map vg)) (xs ++ [a]) (ys ++ [l]) := by
                intro xs ys h
                induction h with
                | nil => exact .cons hA .nil
                | cons h _ ih => exact .cons h ih
              exact app hPr
          · rintro H6 ⟨e6, ras, hDl4, hPr⟩
            rw [show (natV (ptsE es c)).length = (rowsE es c).length by simp [natV, rowsE], List.take_length] at hPr
            rw [natV_gN hp16] at hPP5
            have hM' : H5 D3 = some (.lst (((misE es c).map gN).map vg)) := by
              rw [← natV_gN hm16]
              exact hM
            have e06 := e05.trans e6
            have hrws : Paired (fun r row => SqL K H6 r (row.map vg)) ras (rowsE es c) := L2.Paired.mapP hPr fun r row h => e06.seq h
            refine ⟨_, rfl, pp, D4, D3, (ptsE es c).map gN, (misE es c).map gN, rowsE es c, wd, rfl, SqL.of (e6 _ _ hPP5), ⟨ras, SqL.of hDl4, hrws, ?_⟩, SqL.of (e6 _ _ hM'), by rw [List.length_map, rowsE, List.length_map], by rw [rowsE, List.length_map]; omega, hw6, ?_, fun p5 H7 os5 hp5 e7 hL7 hN7 hfr hnd => ?_⟩
            · intro row hrow
              obtain ⟨k, hk, rfl⟩ := List.mem_map.mp hrow
              have hk' := List.mem_filter.mp (List.mem_of_mem_take hk)
              have := hk'.2
              unfold isE at this
              cases q : es.getD k none with
              | none => rw [q] at this; cases this
              | some l =>
                refine hwd l ?_
                have hk1 := List.mem_range.mp hk'.1
                rw [List.getD_eq_getElem?_getD, List.getElem?_eq_getElem hk1] at q
                have q' : es[k] = some l := q
                rw [← q']
                exact List.getElem_mem hk1
            · have := filt_len (fun k => !isE es k) c
              rw [List.length_map]
              show ((List.range c).filter fun k => !isE es k).length ≤ 10000
              omega
            have ho5 : os5.length = (misE es c).length := by
              have := Paired.length hN7
              rw [List.length_map, List.length_map] at this
              exact this
            have e47 := (e5.trans e6).trans e7
            have e07 := e06.trans e7
            have hD7 := e47 _ _ hD4
            have hN47 := hN4.keep (H' := H7) fun b o q _ => e47 _ _ q
            have nD3 : D ≠ D3 := fun z => by rw [← z, hD4] at hD3; cases hD3
            have nD5 : D ≠ p5 := fun z => by rw [← z, (e5.trans e6) _ _ hD4] at hp5; cases hp5
            have h46 := e5.trans e6
            have hfrD : ∀ o ∈ os5, o ≠ D ∧ H o = none ∧ ∀ i : Nat, ws[i]? ≠ some (.ref o) := fun o ho => by
              have hn := hfr o ho
              refine ⟨fun z => ?_, ?_, fun i q => ?_⟩
              · rw [z, h46 _ _ hD4] at hn
                cases hn
              · exact e06.free hn
              · obtain ⟨xs, hxs⟩ := hN4.there q
                rw [h46 _ _ hxs] at hn
                cases hn
            have hM7 : H7 D3 = some (.lst (natV (misE es c))) := (e6.trans e7) _ _ hM
            refine ⟨_, rfl, _, rfl, D3, p5, _, _, rfl, SqL.of hM7, SqL.of hL7, RZ.for_zipL (K := K) (a := D3) (b := p5) (xs := natV (misE es c)) (ys := os5.map V.ref) (by simp [natV, ho5])
              (fun i σ H' => Same H H' ∧ (∀ b o, H7 b = some o → b ≠ D → H' b = some o) ∧ ∃ (ws : List V) (v3 v5 : Option V), H' D = some (.lst ws) ∧ NewEnts H H' D ws (dataE es c wd i) ∧ (∀ j o, i ≤ j → os5[j]? = some o → ∀ k : Nat, ws[k]? ≠ some (.ref o)) ∧ σ = [some (.ref b), some (.int (c : Int)), some (.ref D), v3, some (.ref pp), v5, some (.ref D3), some (.ref p5)]) ⟨e07, fun _ _ q _ => q, ws, none, none, hD7, by rw [dataE_zero hcn]; exact hN47, fun j o _ q => (hfrD o (List.mem_of_getElem? q)).2.2, rfl⟩ (fun i σ H' ⟨_, e, _⟩ => ⟨SqL.of (e _ _ hM7 nD3.symm), SqL.of (e _ _ hL7 nD5.symm)⟩) ?_ ?_⟩
            · rintro i x y T1 σ H8 hx hy ⟨e8, k8, ws8, v3, v5, hD8, hN8, hno, rfl⟩ hT
              have hi : i < (misE es c).length := by
                have z := (List.getElem?_eq_some_iff.mp hx).1
                simp [natV] at z
                exact z
              have hx' : x = V.int ((misE es c)[i] : Nat) := by
                rw [natV, List.getElem?_map, List.getElem?_eq_getElem hi] at hx
                exact (Option.some.inj hx).symm
              subst hx'
              obtain ⟨oi, hoi, rfl⟩ : ∃ oi, os5[i]? = some oi ∧ y = V.ref oi := by
                rw [List.getElem?_map] at hy
                cases q : os5[i]? with
                | none => rw [q] at hy; cases hy
                | some rk => rw [q] at hy; exact ⟨rk, rfl, (Option.some.inj hy).symm⟩
              obtain ⟨row, hrow, _, hro⟩ := pair_get hN7 hoi
              have er : row = fillE es c wd (misE es c)[i] := by
                rw [List.getElem?_map, List.getElem?_map, List.getElem?_eq_getElem hi] at hrow
                rw [← Option.some.inj hrow, fillE, List.length_map]
              subst er
              obtain ⟨noD, ho0, _⟩ := hfrD oi (List.mem_of_getElem? hoi)
              have nD : D ≠ T1 := ne_of_none hD8 hT
              have g9 := same_upd (o := .tup [V.int ((misE es c)[i] : Nat), V.ref oi]) hT
              have hk := List.mem_range.mp (List.mem_filter.mp (List.getElem_mem hi)).1
              have hdl : (dataE es c wd i).length = c := by simp [dataE]
              refine ⟨T1, _, rfl, SqT.of upd_same, rfl, _, _, rfl, _, _, rfl, rfl, ?_⟩
              refine ⟨_, rfl, _, rfl, _, rfl, D, _, _, (misE es c)[i], rfl, rfl, (by rw [upd_ne nD]; exact hD8), ix_nat rfl (by rw [hN8.len, hdl]; exact hk), ?_⟩
              have k9 : ∀ b o, H8 b = some o → b ≠ D → upd (upd H8 T1 (.tup [V.int ((misE es c)[i] : Nat), V.ref oi])) D (.lst (ws8.set (misE es c)[i] (V.ref oi))) b = some o := fun b o q n => by rw [upd_ne n]; exact g9 _ _ q
              refine ⟨same_new (e8.trans g9) hD0, fun b o q n => k9 _ _ (k8 _ _ q n) n, ws8.set (misE es c)[i] (V.ref oi), some (V.ref oi), some (V.int ((misE es c)[i] : Nat)), upd_same, ?_, ?_, rfl⟩
              · rw [← dataE_succ hi]
                exact (hN8.keep k9).set (by rw [hdl]; exact hk) noD ho0 (k9 _ _ (k8 _ _ hro noD) noD) (hno i oi (Nat.le_refl _) hoi)
              · intro j o hj ho k q
                by_cases e : (misE es c)[i] = k
                · rw [← e, List.getElem?_set_self (by rw [hN8.len, hdl]; exact hk)] at q
                  have q' : oi = o := by
                    injection q with q
                    injection q
                  subst q'
                  have h1 := (List.getElem?_eq_some_iff.mp hoi)
                  have h2 := (List.getElem?_eq_some_iff.mp ho)
                  obtain ⟨l1, m1⟩ := h1
                  obtain ⟨l2, m2⟩ := h2
                  exact absurd (m1.trans m2.symm) (List.pairwise_iff_getElem.mp hnd i j l1 l2 (by omega))
                · rw [List.getElem?_set_ne e] at q
                  exact hno j o (by omega) ho k q
            · rintro σ H8 ⟨e8, k8, ws8, v3, v5, hD8, hN8, _, rfl⟩
              rw [show (natV (misE es c)).length = (misE es c).length by simp [natV]] at hN8
              refine ⟨_, rfl, kR D H8 ws8 hD0 e8 hD8 ?_⟩
              rw [dueE, if_neg hfull]
              exact hN8

-- @@CUT
def okB (rws : List (List G)) (ck : Int) : Prop := 1 ≤ rws.length ∧ 0 ≤ ck ∧ (rws.length : Int) + ck ≤ 16
def spCheckB (K : PySem.W.Frag) (P_ C : Addr) : Sp := fun vs H Q E => ∃ (b : Addr) (ck : Int) (rws : List (List G)) (wd : Nat), vs = [.ref b, .int ck] ∧ RowsAt K H b wd rws ∧ wd ≤ 60000 ∧ rws.length ≤ 100 ∧ GxR.TabG H P_ ∧ (¬ okB rws ck → ∀ H', GX.Sm H H' → E (.ref C) none H') ∧
  ∀ k : Nat, ck = (k : Int) → 1 ≤ rws.length → rws.length + k ≤ 16 → ∀ p H' os, GX.Sm H H' → H' p = some (.lst (os.map V.ref)) → NewRows H' p os ((tgsOf rws.length (rws.length + k)).map fun t => extRow (ptsOf rws.length) rws wd t rws.length) → Q (.ref p) H'
theorem RowsAt.sm {K : PySem.W.Frag} {H H' : Hp} {b : Addr} {wd : Nat} {rws : List (List G)} (e : GX.Sm H H') : RowsAt K H b wd rws → RowsAt K H' b wd rws
  | ⟨ras, h1, h2, h3⟩ => ⟨ras, e.seq h1, L2.Paired.mapP h2 fun _ _ h => e.seq h, h3⟩
theorem ok_check_bodies (T : Txt K mg C_ArchiveError C_InvalidSymbol c_check_bodies P_check_bodies) : Ok P w K mg base (CXN P w) 6 "check_bodies" ["bodies", "checks"] (spCheckB K P_check_bodies C_InvalidSymbol) := by
  have G_is_symbol := ok_is_symbol (P := P) (w := w) (base := base) T
  have G_extended := ok_extended (P := P) (w := w) (base := base) T
  refine GX.okc_of T.d_check_bodies sc_check_bodies (fun vs H Q E h => ?_) (fun f A outer s H vs Q E hr h => ?_)
  · obtain ⟨b, ck, rws, wd, rfl, _⟩ := h
    rfl
  · obtain ⟨b, ck, rws, wd, rfl, ⟨ras, hB, hR, hW⟩, hw6, h100, tb, kE, kQ⟩ := h
    have nd := sc_check_bodies.nd
    have po := passes_of (X := cxOf (CXN P w) P w K mg base N_check_bodies "check_bodies" (defScope s_check_bodies) f (.ref c_check_bodies) A outer s H E) rfl
    refine ⟨_,       (pss_cons (ps_set (i := 2) nd rfl (Or.inl rfl) (pe_callB call_len_seq (by rfl) T.n_len PySem.boot_len (pa_cons (pv 0) pa_nil)))
      (pss_cons (ps_if (PW.pt (pw_or (pt_cmpR op_eq (pv 2) pe_int (nomark _)) (pw_or (pt_cmpR op_lt (pv 1) pe_int (nomark _)) (pw_or1 (pt_cmpR op_gt (pe_op op_add (pv 2) (pv 1)) (pe_globC rfl T.c_LONGEST) (nomark _))))))
        (pss_one (L2N.ps_raise rfl (L2N.takes_of rfl rfl rfl rfl) (L2N.pmk_own PySem.F.excBase_ValueError T.x_InvalidSymbol.x T.x_InvalidSymbol.g T.x_InvalidSymbol.k (raises_own T.x_InvalidSymbol.b T.x_InvalidSymbol.t) rfl))) pss_nil)
      (pss_cons (ps_for po rfl (pi_list (pv 0)) (pg_name (i := 3) nd rfl (Or.inl rfl))
        (pss_one (ps_if (pt_not (pt_val (GX.pe_allG (k := 1) (own := [("symbol", 4)]) (ext := (["symbol"] : List Str)) (hr.mono (by decide)) (by rfl) T.n_all (by decide +kernel) TBS.t_check_bodies rfl ⟨by show (N_check_bodies ++ (["symbol"] : List Str)).Nodup; decide +kernel, blkOk_by (N := N_check_bodies ++ (["symbol"] : List Str)) (sc := defScope s_check_bodies) (by decide +kernel), rfl, by decide +kernel, rfl⟩ (pi_list (pv 3)) (fun _ _ _ _ _ => (pg_name (i := 4) (show (N_check_bodies ++ (["symbol"] : List Str)).Nodup by decide +kernel) rfl (Or.inl rfl))) (fun _ _ _ _ _ rm => (pe_callO G_is_symbol (rm.mono (by decide)) pass0 (pa_cons (pv 4) pa_nil))))))
          (pss_one (L2N.ps_raise rfl (L2N.takes_of rfl rfl rfl rfl) (L2N.pmk_own PySem.F.excBase_ValueError T.x_InvalidSymbol.x T.x_InvalidSymbol.g T.x_InvalidSymbol.k (raises_own T.x_InvalidSymbol.b T.x_InvalidSymbol.t) rfl))) pss_nil)))
      (pss_one (ps_ret (pe_callO G_extended (hr.mono (by decide)) (passX (L2N.takes_of rfl rfl rfl rfl) (fun _ _ _ z => z)) (pa_cons (pe_listRg rfl rfl T.n_list (prg_1 rfl T.n_range (pv 2))) (pa_cons (pv 0) (pa_cons (pe_listRg rfl rfl T.n_list (prg_2 rfl T.n_range (pv 2) (pe_op op_add (pv 2) (pv 1)))) pa_nil))))))))), ?_⟩
    have hRl := hR.length
    refine ⟨_, rfl, b, _, rfl, .inl hB, ?_⟩
    rw [List.length_map, hRl]
    refine ⟨_, rfl, rfl, _, rfl, itd (fun h => iteT (kE (fun z => ?_) _ (GX.Sm.refl _))) (fun h0 => ?_)⟩
    · have z1 := z.1
      injection h with h
      omega
    refine ⟨_, rfl, _, _, rfl, rfl, _, rfl, itd (fun h => iteT (kE (fun z => by have := z.2.1; omega) _ (GX.Sm.refl _))) (fun h1 => ?_)⟩
    refine ⟨_, rfl, _, rfl, _, _, rfl, rfl, _, _, rfl, rfl, _, rfl, itd (fun h => kE (fun z => by have := z.2.2; omega) _ (GX.Sm.refl _)) (fun h2 => ?_)⟩
    have hn0 : 1 ≤ rws.length := Nat.pos_of_ne_zero fun z => h0 (by rw [z]; rfl)
    obtain ⟨k, rfl⟩ : ∃ k : Nat, ck = (k : Int) := ⟨ck.toNat, by omega⟩
    have hk16 : rws.length + k ≤ 16 := by omega
    refine ⟨_, rfl, b, rfl, ⟨_, hB⟩, for_list (K := K) (a := b) (xs := ras.map V.ref) (fun i σ H' => GX.Sm H H' ∧ ∃ v3, σ = [some (.ref b), some (.int (k : Int)), some (.int (rws.length : Int)), v3]) ⟨GX.Sm.refl _, none, rfl⟩ (fun i σ H' _ ⟨e, _⟩ => e.seq hB) ?_ ?_⟩
    · rintro i x σ H1 hx ⟨e1, v3, rfl⟩
      obtain ⟨ri, hri, rfl⟩ : ∃ ri, ras[i]? = some ri ∧ x = V.ref ri := by
        rw [List.getElem?_map] at hx
        cases q : ras[i]? with
        | none => rw [q] at hx; cases hx
        | some rk => rw [q] at hx; exact ⟨rk, rfl, (Option.some.inj hx).symm⟩
      obtain ⟨row, hrow, hsr⟩ := pair_get hR hri
      refine ⟨_, rfl, ri, rfl, ⟨_, e1.seq hsr⟩, e1.tab _ tb, GX.gen_listQ (st := false) (xs := row.map vg) (fun i H' => GX.Sm H H') (fun H2 t2 => GX.Sm.trans e1 (GX.Sm.tabbed (e1.tab _ tb) t2)) (fun i H' _ e => e.seq hsr) ?_ ?_⟩
      · rintro j y H2 hy e2
        obtain ⟨hj, rfl⟩ := get_vg hy
        have hz := gi_sym (co row j)
        refine ⟨_, rfl, gi (co row j), rfl, _, rfl, ?_⟩
        rw [decide_eq_true (show 0 ≤ gi (co row j) ∧ gi (co row j) < 16 from hz)]
        exact if_ff e2
      · rintro H2 e2
        exact ⟨true, rfl, iteF ⟨e2, some (.ref ri), rfl⟩⟩
    · rintro σ H1 ⟨e1, v3, rfl⟩
      refine ⟨_, rfl, _, rfl, RgOk.of_le (by omega) (by omega) (by omega) (by omega), fun q1 hq1 => ?_⟩
      rw [rgV_pts (by omega)]
      have f1 := same_upd (o := .lst ((ptsOf rws.length).map vg)) hq1
      refine ⟨_, rfl, _, rfl, _, rfl, _, rfl, _, _, rfl, rfl, _, _, rfl, rfl, RgOk.of_le (by omega) (by omega) (by omega) (by omega), fun q2 hq2 => ?_⟩
      rw [show ((rws.length : Int) + (k : Int)) = ((rws.length + k : Nat) : Int) by omega, rgV_tgs hk16]
      have f2 := f1.trans (same_upd (o := .lst ((tgsOf rws.length (rws.length + k)).map vg)) hq2)
      have e2 := GX.Sm.trans e1 (GX.Sm.of f2)
      refine ⟨q1, b, q2, ptsOf rws.length, tgsOf rws.length (rws.length + k), rws, wd, rfl, SqL.of (same_upd hq2 _ _ upd_same), RowsAt.sm e2 ⟨ras, hB, hR, hW⟩, SqL.of upd_same, ptsOf_len _, hn0, hw6, by rw [tgsOf_len]; omega, fun p H3 os hp e3 hL3 hN3 _ _ => ?_⟩
      rw [ptsOf_len] at hN3
      exact kQ k rfl hn0 hk16 p H3 os (GX.Sm.trans e2 (GX.Sm.of e3)) hL3 hN3
def spRefused (K : PySem.W.Frag) (P_ : Addr) : Sp := fun vs H Q _ => ∃ (q : Int) (b : Addr) (num : Int), vs = [.int q, .ref b, .int num] ∧ GxR.TabG H P_ ∧
  ((q = 0 ∧ ∃ (rws : List (List G)) (wd : Nat), RowsAt K H b wd rws ∧ wd ≤ 60000 ∧ rws.length ≤ 100 ∧ ¬ okB rws num) ∨ (q ≠ 0 ∧ ∃ (us : List V) (es : List (Option (List G))) (wd : Nat), SqL K H b us ∧ EntsAt K H us es ∧ (∀ l, some l ∈ es → l.length = wd) ∧ wd ≤ 60000 ∧ ¬ okC es num)) ∧ ∀ H', GX.Sm H H' → Q (.bl true) H'
theorem ok__law_refused (T : Txt K mg C_ArchiveError C_InvalidSymbol c_check_bodies P_check_bodies) : Ok P w K mg base CX0 7 "_law_refused" ["question", "bodies", "number"] (spRefused K P_check_bodies) := by
  have G_check_bodies := ok_check_bodies (P := P) (w := w) (base := base) T
  have G_complete := ok_complete (P := P) (w := w) (base := base) T
  refine ok_of T.d__law_refused fun f fd F => F.ok sc__law_refused (fun vs H Q E h => ?_) (fun cdv A outer s H vs Q E hr h => ?_)
  · obtain ⟨q, b, num, rfl, _⟩ := h
    rfl
  · obtain ⟨q, b, num, rfl, tb, hask, kQ⟩ := h
    have nd := sc__law_refused.nd
    refine ⟨_,       (pss_one (L2N.ps_try_as (i := 3) (Wout := fun _ _ _ _ => False) rfl rfl nd rfl rfl ⟨rfl, by decide, Or.inl T.x_ArchiveError.g⟩ takesN
        (fun W pn xe tk po => 
          (pss_cons (ps_if (pt_cmpR op_eq (pv 0) pe_int (nomark _))
            (pss_one (ps_expr (pe_callT G_check_bodies (hr.mono (by decide)) (fun σ => L2N.passAt tk σ) (pa_cons (pv 1) (pa_cons (pv 2) pa_nil)))))
            (pss_one (ps_expr (pe_callT G_complete (hr.mono (by decide)) (fun σ => L2N.passAt tk σ) (pa_cons (pv 1) (pa_cons (pv 2) pa_nil))))))
          (pss_one (ps_ret pe_bl))))
        (fun a oe cls d pn hz hf => pss_guard (p := cls = .ref C_InvalidSymbol ∧ d = none) (fun ee => by obtain ⟨e1, e2⟩ := ee; subst e1 e2; exact 
          (pss_one (ps_ret (pe_callB (call_isE T.x_InvalidSymbol.e hz.zc hf) (by rfl) T.n_isinstance (by decide +kernel) (pa_cons (pv 3) (pa_cons (pe_globR rfl T.x_InvalidSymbol.g) pa_nil))))))))), ?_⟩
    rcases hask with ⟨rfl, rws, wd, hR, hw, hl, hno⟩ | ⟨hq, us, es, wd, hB, hE, hwd, hw, hno⟩
    · refine ⟨_, rfl, rfl, _, rfl, itd (fun _ => ?_) (fun h => absurd rfl h)⟩
      refine ⟨_, rfl, _, rfl, b, num, rws, wd, rfl, hR, hw, hl, tb, fun _ H' e => ?_, fun k hk h1 h2 => absurd ⟨h1, by omega, by omega⟩ hno⟩
      refine ⟨true, exm_own T.x_ArchiveError.toXB T.s_InvalidSymbol_ArchiveError, fun _ ea hea => ⟨⟨rfl, rfl⟩, ?_⟩, fun q => nomatch q⟩
      exact ⟨_, rfl, _, _, true, rfl, fun _ h => h, T.q_InvalidSymbol_InvalidSymbol, kQ _ e⟩
    · refine ⟨_, rfl, rfl, _, rfl, itd (fun h => absurd (V.int.inj h) hq) (fun _ => ?_)⟩
      refine ⟨_, rfl, _, rfl, b, us, es, num, wd, rfl, hB, hE, hwd, hw, fun _ => ?_, fun k hk h1 h2 h3 => absurd ⟨by omega, by omega, by omega⟩ hno⟩
      refine ⟨true, exm_own T.x_ArchiveError.toXB T.s_InvalidSymbol_ArchiveError, fun _ ea hea => ⟨⟨rfl, rfl⟩, ?_⟩, fun q => nomatch q⟩
      exact ⟨_, rfl, _, _, true, rfl, fun _ h => h, T.q_InvalidSymbol_InvalidSymbol, kQ _ (GX.Sm.refl _)⟩

-- @@CUT
def logV : List V := [V.int 0, V.int 0, V.int 1, V.int 4, V.int 2, V.int 8, V.int 5, V.int 10, V.int 3, V.int 14, V.int 9, V.int 7, V.int 6, V.int 13, V.int 11, V.int 12]
theorem log_at {a : Int} (ha : sym a) : atI logV a = some (.int (expL.getD a.toNat 0)) :=
  sym_all (p := fun a => atI logV a = some (.int (expL.getD a.toNat 0))) (by decide +kernel) ha
def spTimesG : Sp := fun vs H Q _ => ∃ a b : G, vs = [vg a, vg b] ∧ RetV (vg (gm a b)) H Q
theorem ok__law_times (T : Txt K mg C_ArchiveError C_InvalidSymbol c_check_bodies P_check_bodies) : Ok P w K mg base CX0 1 "_law_times" ["a", "b"] spTimesG := by
  refine ok_of T.d__law_times fun f fd F => F.ok sc__law_times (fun vs H Q E h => ?_) (fun cdv A outer s H vs Q E hr h => ?_)
  · obtain ⟨a, b, rfl, _⟩ := h
    rfl
  · obtain ⟨a, b, rfl, kQ⟩ := h
    have nd := sc__law_times.nd
    refine ⟨_,       (pss_cons (ps_if (PW.pt (pw_or (pt_cmpR op_eq (pv 0) pe_int (nomark _)) (pw_or1 (pt_cmpR op_eq (pv 1) pe_int (nomark _)))))
        (pss_one (ps_ret pe_int)) pss_nil)
      (pss_cons (ps_set (i := 2) nd rfl (Or.inl rfl) (pe_tup (pa_cons pe_int (pa_cons pe_int (pa_cons pe_int (pa_cons pe_int (pa_cons pe_int (pa_cons pe_int (pa_cons pe_int (pa_cons pe_int (pa_cons pe_int (pa_cons pe_int (pa_cons pe_int (pa_cons pe_int (pa_cons pe_int (pa_cons pe_int (pa_cons pe_int (pa_cons pe_int pa_nil))))))))))))))))))
      (pss_one (ps_ret (pe_ix ix_tup (pe_tup (pa_cons pe_int (pa_cons pe_int (pa_cons pe_int (pa_cons pe_int (pa_cons pe_int (pa_cons pe_int (pa_cons pe_int (pa_cons pe_int (pa_cons pe_int (pa_cons pe_int (pa_cons pe_int (pa_cons pe_int (pa_cons pe_int (pa_cons pe_int (pa_cons pe_int pa_nil)))))))))))))))) (pe_op op_mod (pe_op op_add (pe_ix ix_tup (pv 2) (pv 0) (fun _ _ => rfl)) (pe_ix ix_tup (pv 2) (pv 1) (fun _ _ => rfl))) pe_int) (fun _ _ => rfl)))))), ?_⟩
    refine ⟨_, rfl, rfl, _, rfl, ?_⟩
    show if decide (vg a = V.int 0) = true then _ else _
    rw [vg_dec]
    refine itd (fun h0 => ?_) (fun h0 => ?_)
    · rw [h0, zero_gm] at kQ
      exact iteT (kQ H (Same.refl H))
    refine ⟨_, rfl, rfl, _, rfl, ?_⟩
    show if decide (vg b = V.int 0) = true then _ else _
    rw [vg_dec]
    refine itd (fun h1 => ?_) (fun h1 => ?_)
    · rw [h1, gm_zero] at kQ
      exact kQ H (Same.refl H)
    refine ⟨by decide, fun t ht => ⟨by decide, fun u hu => ?_⟩⟩
    have et := same_upd (o := .tup powV) hu
    refine ⟨_, rfl, _, rfl, t, _, _, _, rfl, rfl, SqT.of (et _ _ upd_same), log_at (gi_sym a), _, rfl, _, rfl, t, _, _, _, rfl, rfl, SqT.of (et _ _ upd_same), log_at (gi_sym b), _, _, rfl, rfl, _, _, rfl, rfl, (by show (0 : Int) < 15; decide), ?_⟩
    have i1 := exp_in (gi_sym a)
    have i2 := exp_in (gi_sym b)
    refine ⟨u, _, _, _, rfl, rfl, SqT.of upd_same, pow_at (k := (expL.getD (gi a).toNat 0 + expL.getD (gi b).toNat 0) % 15) (by omega) (by omega), ?_⟩
    have e : vg (gm a b) = V.int (powL.getD ((expL.getD (gi a).toNat 0 + expL.getD (gi b).toNat 0) % 15).toNat 0) := by
      unfold vg
      rw [← gi_mul, mulI, if_neg (by rw [gi_zero, gi_zero]; simp [h0, h1])]
    rw [e] at kQ
    exact kQ _ ((same_upd ht).trans et)

abbrev invV : List V := [V.int 0, V.int 1, V.int 9, V.int 14, V.int 13, V.int 11, V.int 7, V.int 6, V.int 15, V.int 2, V.int 12, V.int 5, V.int 10, V.int 4, V.int 3, V.int 8]
theorem invV_at : ∀ a : G, a ≠ 0 → atI invV (gi a) = some (vg (gv a)) := by decide +kernel
def spInvG : Sp := fun vs H Q _ => ∃ a : G, vs = [vg a] ∧ a ≠ 0 ∧ RetV (vg (gv a)) H Q
theorem ok__law_inverse (T : Txt K mg C_ArchiveError C_InvalidSymbol c_check_bodies P_check_bodies) : Ok P w K mg base CX0 1 "_law_inverse" ["a"] spInvG := by
  refine ok_of T.d__law_inverse fun f fd F => F.ok sc__law_inverse (fun vs H Q E h => ?_) (fun cdv A outer s H vs Q E hr h => ?_)
  · obtain ⟨a, rfl, _⟩ := h
    rfl
  · obtain ⟨a, rfl, h0, kQ⟩ := h
    have nd := sc__law_inverse.nd
    refine ⟨_,       (pss_one (ps_ret (pe_ix ix_tup (pe_tup (pa_cons pe_int (pa_cons pe_int (pa_cons pe_int (pa_cons pe_int (pa_cons pe_int (pa_cons pe_int (pa_cons pe_int (pa_cons pe_int (pa_cons pe_int (pa_cons pe_int (pa_cons pe_int (pa_cons pe_int (pa_cons pe_int (pa_cons pe_int (pa_cons pe_int (pa_cons pe_int pa_nil))))))))))))))))) (pv 0) (fun _ _ => rfl)))), ?_⟩
    exact ⟨(by show 16 ≤ sizeLine; decide), fun u hu => ⟨_, rfl, u, _, gi a, _, rfl, rfl, SqT.of upd_same, invV_at a h0, kQ _ (same_upd hu)⟩⟩
def spAt (K : PySem.W.Frag) : Sp := fun vs H Q _ => ∃ (a b : Addr) (pts vals : List G) (t : G), vs = [.ref a, .ref b, vg t] ∧ SqL K H a (pts.map vg) ∧ SqL K H b (vals.map vg) ∧ vals.length = pts.length ∧ pts.length ≤ 100 ∧ pts.Nodup ∧ RetV (vg (lag pts vals t)) H Q
theorem ok__law_at (T : Txt K mg C_ArchiveError C_InvalidSymbol c_check_bodies P_check_bodies) : Ok P w K mg base CX0 2 "_law_at" ["points", "values", "target"] (spAt K) := by
  have G__law_times := ok__law_times (P := P) (w := w) (base := base) T
  have G__law_inverse := ok__law_inverse (P := P) (w := w) (base := base) T
  refine ok_of T.d__law_at fun f fd F => F.ok sc__law_at (fun vs H Q E h => ?_) (fun cdv A outer s H vs Q E hr h => ?_)
  · obtain ⟨a, b, pts, vals, t, rfl, _⟩ := h
    rfl
  · obtain ⟨a, b, pts, vals, t, rfl, hA, hB, hl, h100, nodup, kQ⟩ := h
    have nd := sc__law_at.nd
    refine ⟨_,       (pss_cons (ps_set (i := 3) nd rfl (Or.inl rfl) pe_int)
      (pss_cons (ps_for PassesOwn.never rfl (pi_range1 rfl T.n_range (pa_cons (pe_callB call_len_seq (by rfl) T.n_len PySem.boot_len (pa_cons (pv 0) pa_nil)) pa_nil)) (pg_name (i := 4) nd rfl (Or.inl rfl))
        (pss_cons (ps_set (i := 5) nd rfl (Or.inl rfl) (pe_ix ix_list (pv 1) (pv 4) (fun _ _ => rfl)))
        (pss_cons (ps_for PassesOwn.never rfl (pi_range1 rfl T.n_range (pa_cons (pe_callB call_len_seq (by rfl) T.n_len PySem.boot_len (pa_cons (pv 0) pa_nil)) pa_nil)) (pg_name (i := 6) nd rfl (Or.inl rfl))
          (pss_one (ps_if (pt_cmpR op_ne (pv 6) (pv 4) (nomark _))
            (pss_cons (ps_set (i := 5) nd rfl (Or.inl rfl) (pe_callO G__law_times (hr.mono (by decide)) pass0 (pa_cons (pv 5) (pa_cons (pe_op op_xor (pv 2) (pe_ix ix_list (pv 0) (pv 6) (fun _ _ => rfl))) pa_nil))))
            (pss_one (ps_set (i := 5) nd rfl (Or.inl rfl) (pe_callO G__law_times (hr.mono (by decide)) pass0 (pa_cons (pv 5) (pa_cons (pe_callO G__law_inverse (hr.mono (by decide)) pass0 (pa_cons (pe_op op_xor (pe_ix ix_list (pv 0) (pv 4) (fun _ _ => rfl)) (pe_ix ix_list (pv 0) (pv 6) (fun _ _ => rfl))) pa_nil)) pa_nil)))))) pss_nil)))
        (pss_one (ps_set (i := 3) nd rfl (Or.inl rfl) (pe_op op_xor (pv 3) (pv 5)))))))
      (pss_one (ps_ret (pv 3))))), ?_⟩
    refine ⟨_, rfl, a, _, rfl, .inl hA, (pts.length : Int), by rw [List.length_map], by omega, by omega, ?_⟩
    rw [Int.toNat_natCast]
    refine for_range (lo := 0) (n := pts.length) (fun i σ H' => Same H H' ∧ ∃ x y z, σ = [some (.ref a), some (.ref b), some (vg t), some (vg (gs i fun k => gm (wt pts (co pts k) t) (co vals k))), x, y, z]) ⟨Same.refl H, none, none, none, rfl⟩ ?_ ?_
    · rintro i σ H1 hi ⟨e1, x, y, z, rfl⟩
      rw [Int.zero_add]
      refine ⟨_, rfl, _, rfl, b, _, _, vg (co vals i), rfl, rfl, e1.seq hB, atI_nat (vg_get (by omega)), ?_⟩
      refine ⟨_, rfl, a, _, rfl, .inl (e1.seq hA), (pts.length : Int), by rw [List.length_map], by omega, by omega, ?_⟩
      rw [Int.toNat_natCast]
      refine for_range (lo := 0) (n := pts.length) (fun j σ H' => Same H H' ∧ ∃ z, σ = [some (.ref a), some (.ref b), some (vg t), some (vg (gs i fun k => gm (wt pts (co pts k) t) (co vals k))), some (.int (i : Int)), some (vg (lawF (co pts i) t (co vals i) (pts.take j))), z]) ⟨e1, z, rfl⟩ ?_ ?_
      · rintro j σ H2 hj ⟨e2, z, rfl⟩
        rw [Int.zero_add, take_snoc hj, lawF_snoc, ← co_in hj]
        generalize lawF (co pts i) t (co vals i) (pts.take j) = A1
        refine ⟨_, rfl, _, rfl, rfl, _, rfl, itnV (fun hne => ?_) (fun he => ?_)⟩
        · have hne' : ¬ co pts j = co pts i := fun q => hne (by rw [co_inj nodup hj hi q])
          have n0 : ga (co pts i) (co pts j) ≠ 0 := fun q => hne' (ga_eq_zero q).symm
          refine ⟨_, rfl, _, rfl, _, rfl, _, rfl, a, _, _, vg (co pts j), rfl, rfl, e2.seq hA, atI_nat (vg_get hj), _, _, rfl, rfl, A1, ga t (co pts j), ?_, fun H3 e3 => ?_⟩
          · show [vg A1, V.int (Builtin.bitXor (gi t) (gi (co pts j)))] = _
            rw [vg_xor]
          have e23 := e2.trans e3
          refine ⟨_, rfl, _, rfl, _, rfl, a, _, _, vg (co pts i), rfl, rfl, e23.seq hA, atI_nat (vg_get hi), _, rfl, _, rfl, a, _, _, vg (co pts j), rfl, rfl, e23.seq hA, atI_nat (vg_get hj), _, _, rfl, rfl, ga (co pts i) (co pts j), ?_, n0, fun H4 e4 => ?_⟩
          · show [V.int (Builtin.bitXor (gi (co pts i)) (gi (co pts j)))] = _
            rw [vg_xor]
          refine ⟨gm A1 (ga t (co pts j)), gv (ga (co pts i) (co pts j)), rfl, fun H5 e5 => ⟨(e23.trans e4).trans e5, some (.int (j : Int)), ?_⟩⟩
          rw [if_neg hne']
          rfl
        · have he' : co pts j = co pts i := by
            have : j = i := by injection he with he; omega
            rw [this]
          refine ⟨e2, some (.int (j : Int)), ?_⟩
          rw [if_pos he']
          rfl
      · rintro σ H2 ⟨e2, z, rfl⟩
        rw [List.take_length, lawF_wt]
        refine ⟨_, rfl, _, rfl, _, _, rfl, rfl, e2, some (.int (i : Int)), some (vg (gm (wt pts (co pts i) t) (co vals i))), z, ?_⟩
        show [_, _, _, some (V.int (Builtin.bitXor (gi (gs i fun k => gm (wt pts (co pts k) t) (co vals k))) (gi (gm (wt pts (co pts i) t) (co vals i))))), _, _, _] = _
        rw [vg_xor]
        rfl
    · rintro σ H1 ⟨e1, x, y, z, rfl⟩
      exact ⟨_, rfl, kQ H1 e1⟩
def spCW (K : PySem.W.Frag) : Sp := fun vs H Q _ => ∃ (b : Addr) (gl : List G) (m : Nat), vs = [.ref b, .int (m : Int)] ∧ H b = some (.lst (gl.map vg)) ∧ 1 ≤ gl.length ∧ gl.length ≤ m ∧ m ≤ 16 ∧ RetG (codeW gl m) H Q
theorem ok__law_codeword (T : Txt K mg C_ArchiveError C_InvalidSymbol c_check_bodies P_check_bodies) : Ok P w K mg base CX0 3 "_law_codeword" ["symbols", "size"] (spCW K) := by
  have G__law_at := ok__law_at (P := P) (w := w) (base := base) T
  refine ok_of T.d__law_codeword fun f fd F => F.ok sc__law_codeword (fun vs H Q E h => ?_) (fun cdv A outer s H vs Q E hr h => ?_)
  · obtain ⟨b, gl, m, rfl, _⟩ := h
    rfl
  · obtain ⟨b, gl, m, rfl, hB, h1, hm, h16, kQ⟩ := h
    have nd := sc__law_codeword.nd
    refine ⟨_,       (pss_cons (ps_set (i := 2) nd rfl (Or.inr rfl) (pe_listRg rfl rfl T.n_list (prg_1 rfl T.n_range (pe_callB call_len_seq (by rfl) T.n_len PySem.boot_len (pa_cons (pv 0) pa_nil)))))
      (pss_one (ps_ret (pe_op op_cat (pv 0) (pe_lc (own := [("point", 3)]) (g := gName 3) (tt := tYes) rfl nd (pi_range2 rfl T.n_range (pa_cons (pe_callB call_len_seq (by rfl) T.n_len PySem.boot_len (pa_cons (pv 0) pa_nil)) (pa_cons (pv 1) pa_nil))) (blkOk_by (N := N__law_codeword) (sc := defScope s__law_codeword) (by decide +kernel)) (fun _ _ _ _ _ => (pg_name (i := 3) nd rfl (Or.inl rfl))) (fun _ _ _ _ _ => pts_nil) (fun _ _ _ _ _ => (pe_callO G__law_at (hr.mono (by decide)) pass0 (pa_cons (pv 2) (pa_cons (pv 0) (pa_cons (pv 3) pa_nil)))))))))), ?_⟩
    refine ⟨_, rfl, b, _, rfl, .inl (SqL.of hB), ?_⟩
    rw [List.length_map]
    refine ⟨_, rfl, RgOk.of_le (by omega) (by omega) (by omega) (by omega), fun pp hpp => ?_⟩
    rw [rgV_pts (by omega)]
    have f1 := same_upd (o := .lst ((ptsOf gl.length).map vg)) hpp
    have hP : (upd H pp (.lst ((ptsOf gl.length).map vg))) pp = some (.lst ((ptsOf gl.length).map vg)) := upd_same
    generalize upd H pp (.lst ((ptsOf gl.length).map vg)) = H1 at f1 hP ⊢
    refine ⟨_, rfl, _, rfl, b, _, rfl, .inl (SqL.of (f1 _ _ hB)), _, rfl, (gl.length : Int), (m : Int), by rw [List.length_map], ⟨by omega, by omega, by omega, by omega⟩, ?_⟩
    intro D hD
    rw [show ((m : Int) - (gl.length : Int)).toNat = m - gl.length by omega]
    refine lc_range (lo := (gl.length : Int)) (n := m - gl.length) (fun i H' => Same H1 H' ∧ H' D = some (.lst ((((tgsOf gl.length m).take i).map fun t => lag (ptsOf gl.length) gl t).map vg))) ⟨same_upd hD, by rw [upd_same]; rfl⟩ ?_ ?_
    · rintro i H2 hi ⟨e2, hDl⟩
      have hit : i < (tgsOf gl.length m).length := by rw [tgsOf_len]; exact hi
      refine ⟨rfl, ?_⟩
      dsimp only [tYes]
      try rw [if_pos rfl]
      refine ⟨_, rfl, _, rfl, _, rfl, pp, b, ptsOf gl.length, gl, co (tgsOf gl.length m) i, ?_, SqL.of (e2 _ _ hP), SqL.of (e2 _ _ (f1 _ _ hB)), by rw [ptsOf_len], by rw [ptsOf_len]; omega, ptsOf_nd (by omega), fun H3 e3 => ?_⟩
      · have ev : V.int ((gl.length : Int) + (i : Int)) = vg (co (tgsOf gl.length m) i) := by
          rw [tgsOf_co hi]
          unfold vg
          rw [gi_gN (by omega)]
          congr 1
        show [_, _, V.int ((gl.length : Int) + (i : Int))] = _
        rw [ev]
      refine ⟨_, e3 _ _ hDl, small (by rw [List.length_map, List.length_map, List.length_take, tgsOf_len]; omega), same_new (e2.trans e3) hD, ?_⟩
      rw [upd_same, take_snoc hit, List.map_append, List.map_append, ← co_in hit]
      rfl
    · rintro H2 ⟨e2, hDl⟩
      rw [← tgsOf_len gl.length m, List.take_length] at hDl
      refine ⟨b, D, _, _, rfl, rfl, e2 _ _ (f1 _ _ hB), hDl, smallE (by rw [List.length_map, List.length_map, List.length_map, tgsOf_len]; omega), fun r hr => ?_⟩
      have e02 := f1.trans e2
      refine kQ r _ (e02.free hr) (e02.trans (same_upd hr)) ?_
      rw [upd_same, codeW, List.map_append]

theorem nd_snoc {l : List Nat} {k : Nat} (h : l.Nodup) (hk : ¬ k ∈ l) : (l ++ [k]).Nodup := List.nodup_append.mpr ⟨h, List.pairwise_singleton _ _, fun x hx y hy e => hk (by rw [← List.mem_singleton.mp hy, ← e]; exact hx)⟩
theorem all_in {l : List Nat} : ∀ {n : Nat}, l.Nodup → (∀ j, j < n → j ∈ l) → n ≤ l.length := fun {n} nd h => by
  have key : ∀ (m : List Nat), m.Nodup → ∀ l : List Nat, (∀ x ∈ m, x ∈ l) → m.length ≤ l.length := by
    intro m
    induction m with
    | nil => exact fun _ _ _ => Nat.zero_le _
    | cons x m ih =>
      intro nm l hs
      have nm' := List.nodup_cons.mp nm
      have hx := hs x List.mem_cons_self
      have := ih nm'.2 (l.erase x) fun y hy => (List.mem_erase_of_ne fun e => nm'.1 (by rw [← e]; exact hy)).mpr (hs y (List.mem_cons_of_mem _ hy))
      rw [List.length_erase_of_mem hx] at this
      have := List.length_pos_of_mem hx
      rw [List.length_cons]
      omega
  have := key (List.range n) List.nodup_range l fun x hx => h x (List.mem_range.mp hx)
  rw [List.length_range] at this
  exact this
def spPicks : Sp := fun vs H Q _ => ∃ (cell gone : Int) (n : Nat), vs = [.int cell, .int gone, .int (n : Int)] ∧ 1 ≤ n ∧ n ≤ 100 ∧ ∀ p H' (ls : List Nat), H p = none → Same H H' → H' p = some (.lst (natV ls)) → (∀ k ∈ ls, k < n) → ls.length ≤ 200 → ls.Nodup → (0 ≤ gone → gone ≤ (n : Int) → (ls.length : Int) = gone) → Q (.ref p) H'
theorem ok__law_picks (T : Txt K mg C_ArchiveError C_InvalidSymbol c_check_bodies P_check_bodies) : Ok P w K mg base CX0 2 "_law_picks" ["cell", "count", "size"] spPicks := by
  have G__law_mix := ok__law_mix (P := P) (w := w) (base := base) T
  refine ok_of T.d__law_picks fun f fd F => F.ok sc__law_picks (fun vs H Q E h => ?_) (fun cdv A outer s H vs Q E hr h => ?_)
  · obtain ⟨cell, gone, n, rfl, _⟩ := h
    rfl
  · obtain ⟨cell, gone, n, rfl, hn1, hn, kQ⟩ := h
    have nd := sc__law_picks.nd
    refine ⟨_,       (pss_cons (ps_set (i := 3) nd rfl (Or.inl rfl) (pe_lst pa_nil))
      (pss_cons (ps_for PassesOwn.never rfl (pi_range1 rfl T.n_range (pa_cons pe_int pa_nil)) (pg_name (i := 4) nd rfl (Or.inl rfl))
        (pss_cons (ps_set (i := 5) nd rfl (Or.inl rfl) (pe_op op_mod (pe_callO G__law_mix (hr.mono (by decide)) pass0 (pa_cons (pv 0) (pa_cons (pv 4) pa_nil))) (pv 2)))
        (pss_one (ps_if (PW.pt (pw_and (pt_cmpR op_lt (pe_callB call_len_seq (by rfl) T.n_len PySem.boot_len (pa_cons (pv 3) pa_nil)) (pv 1) (nomark _)) (pw_and1 (pt_cmpR op_notIn_seq (pv 5) (pv 3) (by with_unfolding_all rfl)))))
          (pss_one (ps_expr (pe_bm PySem.F.plainAttrs_list PySem.F.slot_list_append PySem.F.type_list_append mt_append (pv 3) (pa_cons (pv 5) pa_nil)))) pss_nil))))
      (pss_cons (ps_for PassesOwn.never rfl (pi_range1 rfl T.n_range (pa_cons (pv 2) pa_nil)) (pg_name (i := 5) nd rfl (Or.inl rfl))
        (pss_one (ps_if (PW.pt (pw_and (pt_cmpR op_lt (pe_callB call_len_seq (by rfl) T.n_len PySem.boot_len (pa_cons (pv 3) pa_nil)) (pv 1) (nomark _)) (pw_and1 (pt_cmpR op_notIn_seq (pv 5) (pv 3) (by with_unfolding_all rfl)))))
          (pss_one (ps_expr (pe_bm PySem.F.plainAttrs_list PySem.F.slot_list_append PySem.F.type_list_append mt_append (pv 3) (pa_cons (pv 5) pa_nil)))) pss_nil)))
      (pss_one (ps_ret (pv 3)))))), ?_⟩
    have step : ∀ {ls : List Nat} {k : Nat}, (∀ j ∈ ls, j < n) → k < n → ∀ j ∈ ls ++ [k], j < n := fun h hk j hj => by
      rcases List.mem_append.mp hj with z | z
      · exact h j z
      · rw [List.mem_singleton.mp z]
        exact hk
    refine ⟨by decide, fun l hl => ⟨(60 : Int), rfl, by decide, by decide, for_range (lo := 0) (n := 60) (fun i σ H' => ∃ (ls : List Nat) (v4 v5 : Option V), Same H H' ∧ H' l = some (.lst (natV ls)) ∧ (∀ k ∈ ls, k < n) ∧ ls.length ≤ i ∧ (ls.Nodup ∧ ((ls.length : Int) ≤ gone ∨ ls.length = 0)) ∧ σ = [some (.int cell), some (.int gone), some (.int (n : Int)), some (.ref l), v4, v5]) ⟨[], none, none, same_upd hl, upd_same, (fun _ h => nomatch h), Nat.zero_le _, ⟨List.nodup_nil, .inr rfl⟩, rfl⟩ ?_ ?_⟩⟩
    · rintro i σ H1 hi ⟨ls, v4, v5, e1, hL, hb, hlen, hnd, rfl⟩
      have hz := Int.emod_nonneg (mixI cell (0 + (i : Int))) (show ((n : Nat) : Int) ≠ 0 by omega)
      have hz2 := Int.emod_lt_of_pos (mixI cell (0 + (i : Int))) (show (0 : Int) < ((n : Nat) : Int) by omega)
      obtain ⟨k, hk⟩ : ∃ k : Nat, mixI cell (0 + (i : Int)) % (n : Int) = (k : Int) := ⟨(mixI cell (0 + (i : Int)) % (n : Int)).toNat, by omega⟩
      have hkn : k < n := by omega
      refine ⟨_, rfl, _, rfl, cell, 0 + (i : Int), rfl, _, rfl, _, _, rfl, rfl, (by show (0 : Int) < ((n : Nat) : Int); omega), ?_⟩
      dsimp only
      rw [hk]
      refine ⟨_, rfl, l, _, rfl, .inl (SqL.of hL), _, rfl, _, _, rfl, rfl, _, rfl, itd (fun h1 => ?_) (fun h1 => iteF ⟨ls, _, _, e1, hL, hb, by omega, hnd, rfl⟩)⟩
      refine ⟨_, rfl, _, rfl, l, _, rfl, .inl (SqL.of hL), rfl, flats_nat _, _, rfl, ?_⟩
      show if (!inV (V.int (k : Int)) (natV ls)) = true then _ else _
      rw [inV_nat]
      refine itnV (fun h => ?_) (fun h => ⟨ls, _, _, e1, hL, hb, by omega, hnd, rfl⟩)
      refine ⟨_, rfl, .inl ⟨rfl, _, SqL.of hL⟩, _, rfl, l, _, _, rfl, rfl, hL, small (by rw [natV, List.length_map]; omega), ls ++ [k], _, _, same_new e1 hl, ?_, step hb hkn, by rw [List.length_append, List.length_singleton]; omega, ⟨nd_snoc hnd.1 h, .inl (by rw [List.length_append, List.length_singleton]; rw [natV, List.length_map] at h1; omega)⟩, rfl⟩
      rw [upd_same, natV_snoc]
    · rintro σ H1 ⟨ls, v4, v5, e1, hL, hb, hlen, hnd, rfl⟩
      refine ⟨_, rfl, (n : Int), rfl, by omega, by omega, ?_⟩
      rw [Int.toNat_natCast]
      refine for_range (lo := 0) (n := n) (fun i σ H' => ∃ (ls : List Nat) (v4 v5 : Option V), Same H H' ∧ H' l = some (.lst (natV ls)) ∧ (∀ k ∈ ls, k < n) ∧ ls.length ≤ 60 + i ∧ (ls.Nodup ∧ ((ls.length : Int) ≤ gone ∨ ls.length = 0) ∧ (0 ≤ gone → (ls.length : Int) = gone ∨ ∀ j, j < i → j ∈ ls)) ∧ σ = [some (.int cell), some (.int gone), some (.int (n : Int)), some (.ref l), v4, v5]) ⟨ls, v4, v5, e1, hL, hb, by omega, ⟨hnd.1, hnd.2, fun _ => .inr fun j hj => absurd hj (Nat.not_lt_zero _)⟩, rfl⟩ ?_ ?_
      · rintro i σ H2 hi ⟨ls, v4, v5, e2, hL, hb, hlen, hnd, rfl⟩
        rw [Int.zero_add]
        refine ⟨_, rfl, l, _, rfl, .inl (SqL.of hL), _, rfl, _, _, rfl, rfl, _, rfl, itd (fun h1 => ?_) (fun h1 => iteF ⟨ls, _, _, e2, hL, hb, by omega, ⟨hnd.1, hnd.2.1, fun hg => .inl (by rw [natV, List.length_map] at h1; have := hnd.2.1; omega)⟩, rfl⟩)⟩
        refine ⟨_, rfl, _, rfl, l, _, rfl, .inl (SqL.of hL), rfl, flats_nat _, _, rfl, ?_⟩
        show if (!inV (V.int (i : Int)) (natV ls)) = true then _ else _
        rw [inV_nat]
        refine itnV (fun h => ?_) (fun h => ⟨ls, _, _, e2, hL, hb, by omega, ⟨hnd.1, hnd.2.1, fun hg => (hnd.2.2 hg).imp id fun z j hj => by
          by_cases e : j = i
          · rw [e]; exact h
          · exact z j (by omega)⟩, rfl⟩)
        refine ⟨_, rfl, .inl ⟨rfl, _, SqL.of hL⟩, _, rfl, l, _, _, rfl, rfl, hL, small (by rw [natV, List.length_map]; omega), ls ++ [i], _, _, same_new e2 hl, ?_, step hb hi, by rw [List.length_append, List.length_singleton]; omega, ⟨nd_snoc hnd.1 h, .inl (by rw [List.length_append, List.length_singleton]; rw [natV, List.length_map] at h1; omega), fun hg => .inr fun j hj => ?_⟩, rfl⟩
        · rw [upd_same, natV_snoc]
        · rcases hnd.2.2 hg with z | z
          · rw [natV, List.length_map] at h1
            omega
          · by_cases e : j = i
            · rw [e]
              exact List.mem_append_right _ (List.mem_singleton.mpr rfl)
            · exact List.mem_append_left _ (z j (by omega))
      · rintro σ H2 ⟨ls, v4, v5, e2, hL, hb, hlen, hnd, rfl⟩
        refine ⟨_, rfl, kQ l H2 ls hl e2 hL hb (by omega) hnd.1 fun hg hgn => ?_⟩
        rcases hnd.2.2 hg with z | z
        · exact z
        · have := all_in hnd.1 z
          have := hnd.2.1
          omega

-- @@CUT
def colG (rws : List (List G)) (j : Nat) : List G := rws.map fun row => co row j
theorem codeW_at {gl : List G} {m k : Nat} (hm : gl.length ≤ m) (h16 : m ≤ 16) (hk : k < m) : co (codeW gl m) k = lag (ptsOf gl.length) gl (gN k) := by
  have hl := codeW_len hm
  rw [co_in (by omega)]
  by_cases h : k < gl.length
  · have e1 : (codeW gl m)[k]'(by omega) = gl[k] := List.getElem_append_left h
    rw [e1, ← ptsOf_co h, lag_at (ptsOf_nd (by omega)) (by rw [ptsOf_len]; exact h), co_in h]
  · have e1 : (codeW gl m)[k]'(by omega) = ((tgsOf gl.length m).map fun t => lag (ptsOf gl.length) gl t)[k - gl.length]'(by rw [List.length_map, tgsOf_len]; omega) := List.getElem_append_right (by omega)
    rw [e1, List.getElem_map, ← co_in (by rw [tgsOf_len]; omega), tgsOf_co (by omega), show gl.length + (k - gl.length) = k by omega]
theorem colG_co (rws : List (List G)) (i m : Nat) : co (colG rws i) m = co (rws.getD m []) i := by
  by_cases h : m < rws.length
  · rw [co_in (by rw [colG, List.length_map]; exact h), List.getD_eq_getElem?_getD, List.getElem?_eq_getElem h]
    simp [colG]
  · rw [co_out (by rw [colG, List.length_map]; omega), List.getD_eq_getElem?_getD, List.getElem?_eq_none (by omega)]
    exact (co_out (Nat.zero_le _)).symm
theorem more_rows {rws : List (List G)} {c k z : Nat} (hc : rws.length = c) (h16 : c + k ≤ 16) : ((tgsOf c (c + k)).map fun t => extRow (ptsOf c) rws z t c) = (List.range k).map fun j => tab z fun i => co (codeW (colG rws i) (c + k)) (c + j) := by
  unfold tgsOf
  rw [List.map_map, show c + k - c = k by omega]
  refine List.map_congr_left fun j hj => ?_
  have hj := List.mem_range.mp hj
  show tab z _ = tab z _
  refine tab_congr fun i _ => ?_
  have hl : (colG rws i).length = c := by rw [colG, List.length_map]; exact hc
  rw [codeW_at (by omega) h16 (by omega), hl, lag, ptsOf_len]
  exact gs_congr fun m _ => by rw [colG_co]
def rowD (row : List G) : PyData := .list ((row.map gi).map PyData.int)
theorem dpAll_rows {K : PySem.W.Frag} {H : Hp} {l : Addr} : ∀ {os : List Addr} {rows : List (List G)}, NewRows H l os rows → DpAll K H (os.map V.ref) (rows.map rowD)
  | _, _, .nil => .nil
  | _, row :: _, .cons h r => .cons (dp_list (SqL.of (by rw [map_vg_gi]; exact h.2))) (dpAll_rows r)
theorem dp_rows {K : PySem.W.Frag} {H : Hp} {p : Addr} {os : List Addr} {rows : List (List G)} (h : H p = some (.lst (os.map V.ref))) (hN : NewRows H p os rows) : Dp K H (.ref p) (.list (rows.map rowD)) := .lst (SqL.of h) (dpAll_rows hN)
theorem lay_rows : ∀ rows : List (List G), PyData.canLayAll0 (rows.map rowD) = true
  | [] => rfl
  | row :: rows => by
    show (PyData.canLayAll0 ((row.map gi).map PyData.int) && PyData.canLayAll0 (rows.map rowD)) = true
    rw [lay_rows rows, Cm.canLayAll_ints]
    rfl
theorem depth_rows : ∀ rows : List (List G), PyData.depthAll (rows.map rowD) ≤ 1
  | [] => by simp [PyData.depthAll]
  | row :: rows => by
    show max (PyData.depthAll ((row.map gi).map PyData.int) + 1) (PyData.depthAll (rows.map rowD)) ≤ 1
    have := depth_rows rows
    rw [Cm.depthAll_ints]
    omega
theorem shaped_rows (rows : List (List G)) : SeqAt.shaped (.list (rows.map rowD)) = true := by
  have h := depth_rows rows
  refine Bool.and_eq_true_iff.mpr ⟨lay_rows rows, decide_eq_true ?_⟩
  show PyData.depthAll (rows.map rowD) + 1 ≤ 64
  omega
/-! ### entries with holes -/
def entD : Option (List G) → PyData
  | none => .none
  | some l => rowD l
theorem dp_ent {K : PySem.W.Frag} {H : Hp} {v : V} {o : Option (List G)} (h : EntAt K H v o) : Dp K H v (entD o) := by
  cases o with
  | none =>
    obtain rfl : v = .non := h
    exact .non
  | some l =>
    obtain ⟨a, rfl, hA⟩ := h
    exact dp_list (ns := l.map gi) (by rw [map_vg_gi]; exact hA)
theorem EntsAt.tail {K : PySem.W.Frag} {H : Hp} {v : V} {vs : List V} {o : Option (List G)} {es : List (Option (List G))} (h : EntsAt K H (v :: vs) (o :: es)) : EntAt K H v o ∧ EntsAt K H vs es :=
  ⟨h.2 0 v o rfl rfl, by have := h.1; simpa using this, fun i v' o' h1 h2 => h.2 (i + 1) v' o' (by simpa using h1) (by simpa using h2)⟩
theorem dpAll_ents {K : PySem.W.Frag} {H : Hp} : ∀ {vs : List V} {es : List (Option (List G))}, EntsAt K H vs es → DpAll K H vs (es.map entD)
  | [], [], _ => .nil
  | [], _ :: _, h => absurd h.1 (by simp)
  | _ :: _, [], h => absurd h.1 (by simp)
  | _ :: _, _ :: _, h => .cons (dp_ent h.tail.1) (dpAll_ents h.tail.2)
theorem dp_ents {K : PySem.W.Frag} {H : Hp} {p : Addr} {vs : List V} {es : List (Option (List G))} (hp : SqL K H p vs) (h : EntsAt K H vs es) : Dp K H (.ref p) (.list (es.map entD)) := .lst hp (dpAll_ents h)
theorem lay_ents : ∀ es : List (Option (List G)), PyData.canLayAll0 (es.map entD) = true
  | [] => rfl
  | none :: es => by
    show (PyData.canLay0 PyData.none && PyData.canLayAll0 (es.map entD)) = true
    rw [lay_ents es]
    rfl
  | some row :: es => by
    show (PyData.canLayAll0 ((row.map gi).map PyData.int) && PyData.canLayAll0 (es.map entD)) = true
    rw [lay_ents es, Cm.canLayAll_ints]
    rfl
theorem depth_ents : ∀ es : List (Option (List G)), PyData.depthAll (es.map entD) ≤ 1
  | [] => by simp [PyData.depthAll]
  | none :: es => by
    show max (PyData.depth PyData.none) (PyData.depthAll (es.map entD)) ≤ 1
    have := depth_ents es
    simp [PyData.depth]
    exact this
  | some row :: es => by
    show max (PyData.depthAll ((row.map gi).map PyData.int) + 1) (PyData.depthAll (es.map entD)) ≤ 1
    have := depth_ents es
    rw [Cm.depthAll_ints]
    omega
theorem shaped_ents (es : List (Option (List G))) : SeqAt.shaped (.list (es.map entD)) = true := by
  have h := depth_ents es
  refine Bool.and_eq_true_iff.mpr ⟨lay_ents es, decide_eq_true ?_⟩
  show PyData.depthAll (es.map entD) + 1 ≤ 64
  omega
/-- entries, none of which stands in ws -/
def OffEnt (H : Hp) (ws : List V) (v : V) : Option (List G) → Prop
  | none => v = .non
  | some l => ∃ a, v = .ref a ∧ (∀ j : Nat, ws[j]? ≠ some (.ref a)) ∧ H a = some (.lst (l.map vg))
def Off (H : Hp) (ws vs : List V) (es : List (Option (List G))) : Prop := vs.length = es.length ∧ ∀ (i : Nat) (v : V) (o : Option (List G)), vs[i]? = some v → es[i]? = some o → OffEnt H ws v o
theorem Off.keep {H H' : Hp} {ws vs : List V} {es : List (Option (List G))} (e : ∀ b o, H b = some o → (∀ j : Nat, ws[j]? ≠ some (.ref b)) → H' b = some o) (h : Off H ws vs es) : Off H' ws vs es :=
  ⟨h.1, fun i v o h1 h2 => by
    have z := h.2 i v o h1 h2
    cases o with
    | none => exact z
    | some l =>
      obtain ⟨a, q1, q2, q3⟩ := z
      exact ⟨a, q1, q2, e _ _ q3 q2⟩⟩
theorem Off.same {H H' : Hp} {ws vs : List V} {es : List (Option (List G))} (e : Same H H') (h : Off H ws vs es) : Off H' ws vs es := h.keep fun b o q _ => e b o q
theorem Off.ents {K : PySem.W.Frag} {H : Hp} {ws vs : List V} {es : List (Option (List G))} (h : Off H ws vs es) : EntsAt K H vs es :=
  ⟨h.1, fun i v o h1 h2 => by
    have z := h.2 i v o h1 h2
    cases o with
    | none => exact z
    | some l =>
      obtain ⟨a, q1, _, q3⟩ := z
      exact ⟨a, q1, SqL.of q3⟩⟩
theorem Off.take {H : Hp} {ws vs : List V} {es : List (Option (List G))} (h : Off H ws vs es) (c : Nat) : Off H ws (vs.take c) (es.take c) :=
  ⟨by rw [List.length_take, List.length_take, h.1], fun i v o h1 h2 => by
    have hi : i < c := by
      have := (List.getElem?_eq_some_iff.mp h1).1
      rw [List.length_take] at this
      omega
    rw [List.getElem?_take_of_lt hi] at h1 h2
    exact h.2 i v o h1 h2⟩
theorem NewEnts.new {H0 H : Hp} {D : Addr} {vs : List V} {es : List (Option (List G))} (h : NewEnts H0 H D vs es) {i : Nat} {a : Addr} (q : vs[i]? = some (.ref a)) : a ≠ D ∧ H0 a = none ∧ ∃ l, es[i]? = some (some l) ∧ H a = some (.lst (l.map vg)) := by
  obtain ⟨hi, _⟩ := List.getElem?_eq_some_iff.mp q
  have hi' : i < es.length := by rw [← h.len]; exact hi
  have z := h.ent i _ _ q (List.getElem?_eq_getElem hi')
  have e : es[i]? = some es[i] := List.getElem?_eq_getElem hi'
  revert z e
  generalize es[i] = o
  intro z e
  cases o with
  | none => cases z
  | some l =>
    obtain ⟨b, h1, h2, h3, h4⟩ := z
    cases h1
    exact ⟨h2, h3, l, e, h4⟩
theorem NewEnts.ents {K : PySem.W.Frag} {H0 H : Hp} {D : Addr} {vs : List V} {es : List (Option (List G))} (h : NewEnts H0 H D vs es) : EntsAt K H vs es :=
  ⟨h.len, fun i v o h1 h2 => by
    have z := h.ent i v o h1 h2
    cases o with
    | none => exact z
    | some l =>
      obtain ⟨a, q1, _, _, q4⟩ := z
      exact ⟨a, q1, SqL.of q4⟩⟩
/-- what was there before a list of new rows stands in none of them -/
theorem NewEnts.off {H0 H H' : Hp} {D p : Addr} {vs ws : List V} {es es2 : List (Option (List G))} (h : NewEnts H0 H D vs es) (e : Same H H') (h2 : NewEnts H H' p ws es2) : Off H' ws vs es :=
  ⟨h.len, fun i v o h1 h3 => by
    have z := h.ent i v o h1 h3
    cases o with
    | none => exact z
    | some l =>
      obtain ⟨a, q1, _, _, q4⟩ := z
      refine ⟨a, q1, fun j q => ?_, e _ _ q4⟩
      rw [(h2.new q).2.1] at q4
      cases q4⟩
theorem NewEnts.off2 {H0 H H' : Hp} {D p : Addr} {vs ws : List V} {es es2 : List (Option (List G))} (h : NewEnts H0 H p ws es2) (h2 : NewEnts H H' D vs es) : Off H' ws vs es :=
  ⟨h2.len, fun i v o h1 h3 => by
    have z := h2.ent i v o h1 h3
    cases o with
    | none => exact z
    | some l =>
      obtain ⟨a, q1, _, q3, q4⟩ := z
      refine ⟨a, q1, fun j q => ?_, q4⟩
      obtain ⟨_, _, l2, _, q5⟩ := h.new q
      rw [q3] at q5
      cases q5⟩
theorem NewEnts.setN {H0 H : Hp} {D : Addr} {vs : List V} {es : List (Option (List G))} {k : Nat} (h : NewEnts H0 H D vs es) (hk : k < es.length) : NewEnts H0 H D (vs.set k .non) (es.set k none) := by
  have hk' : k < vs.length := by rw [h.len]; exact hk
  have get : ∀ {i : Nat} {u : V}, (vs.set k .non)[i]? = some u → (i ≠ k ∧ vs[i]? = some u) ∨ (i = k ∧ u = .non) := fun {i u} q => by
    by_cases hi : i = k
    · subst hi
      rw [List.getElem?_set_self hk'] at q
      exact .inr ⟨rfl, (Option.some.inj q).symm⟩
    · rw [List.getElem?_set_ne (fun z => hi z.symm)] at q
      exact .inl ⟨hi, q⟩
  refine ⟨by rw [List.length_set, List.length_set]; exact h.len, fun i u p h1 h2 => ?_, fun i j b h1 h2 => ?_⟩
  · rcases get h1 with ⟨hi, q⟩ | ⟨rfl, rfl⟩
    · rw [List.getElem?_set_ne (fun z => hi z.symm)] at h2
      exact h.ent i u p q h2
    · rw [List.getElem?_set_self hk] at h2
      rw [← Option.some.inj h2]
      rfl
  · rcases get h1 with ⟨hi, q1⟩ | ⟨rfl, r1⟩
    · rcases get h2 with ⟨hj, q2⟩ | ⟨rfl, r2⟩
      · exact h.inj i j b q1 q2
      · cases r2
    · cases r1
/-- the rows but those at the places l -/
def holes (AR : List (List G)) (l : List Nat) : List (Option (List G)) := (List.range AR.length).map fun i => if i ∈ l then none else some (AR.getD i [])
theorem holes_len (AR : List (List G)) (l : List Nat) : (holes AR l).length = AR.length := by simp [holes]
theorem holes_get {AR : List (List G)} {l : List Nat} {i : Nat} (h : i < AR.length) : (holes AR l).getD i none = if i ∈ l then none else some (AR.getD i []) := by
  rw [List.getD_eq_getElem?_getD, holes, List.getElem?_map, List.getElem?_range h]
  rfl
theorem holes_nil (AR : List (List G)) : holes AR [] = AR.map some := by
  refine List.ext_getElem (by simp [holes]) fun i h1 h2 => ?_
  have hi : i < AR.length := by simpa using h2
  simp [holes, hi]
theorem holes_snoc (AR : List (List G)) (l : List Nat) (k : Nat) : holes AR (l ++ [k]) = (holes AR l).set k none := by
  refine List.ext_getElem (by simp [holes]) fun i h1 h2 => ?_
  rw [List.getElem_set]
  simp only [holes, List.getElem_map, List.getElem_range, List.mem_append, List.mem_singleton]
  by_cases e : k = i
  · rw [if_pos (.inr e.symm), if_pos e]
  · rw [if_neg e]
    by_cases e2 : i ∈ l
    · rw [if_pos (.inl e2), if_pos e2]
    · rw [if_neg (by rintro (z | z)
                     · exact e2 z
                     · exact e z.symm), if_neg e2]
theorem range_less {ls : List Nat} {n : Nat} (nd : ls.Nodup) (h : ∀ x ∈ ls, x < n) : ((List.range n).filter fun i => !decide (i ∈ ls)).length + ls.length = n := by
  have h1 := List.length_eq_countP_add_countP (fun i => decide (i ∈ ls)) (l := List.range n)
  rw [List.length_range, List.countP_eq_length_filter, List.countP_eq_length_filter] at h1
  have h2 : ((List.range n).filter fun i => decide (i ∈ ls)).length = ls.length := by
    refine List.Perm.length_eq ((List.perm_ext_iff_of_nodup (List.nodup_range.filter _) nd).mpr fun x => ?_)
    rw [List.mem_filter, List.mem_range, decide_eq_true_iff]
    exact ⟨fun z => z.2, fun z => ⟨h x z, z⟩⟩
  have h3 : ((List.range n).filter fun i => !decide (i ∈ ls)) = (List.range n).filter fun a => decide (¬ decide (a ∈ ls) = true) := List.filter_congr fun x _ => by simp
  rw [h3]
  omega
def moreR (rws : List (List G)) (c k z : Nat) : List (List G) := (List.range k).map fun j => tab z fun i => co (codeW (colG rws i) (c + k)) (c + j)
theorem isE_holes {AR : List (List G)} {ls : List Nat} {i : Nat} (h : i < AR.length) : isE (holes AR ls) i = !decide (i ∈ ls) := by
  unfold isE
  rw [holes_get h]
  by_cases e : i ∈ ls
  · rw [if_pos e, decide_eq_true e]
    rfl
  · rw [if_neg e, decide_eq_false e]
    rfl
theorem ptsE_holes {AR : List (List G)} {ls : List Nat} (c : Nat) : ptsE (holes AR ls) c = ((List.range AR.length).filter fun i => !decide (i ∈ ls)).take c := by
  unfold ptsE
  rw [holes_len]
  exact congrArg (List.take c) (List.filter_congr fun x hx => isE_holes (List.mem_range.mp hx))
theorem due_few {AR : List (List G)} {ls : List Nat} {c k z : Nat} (hA : AR.length = c + k) (nd : ls.Nodup) (hin : ∀ x ∈ ls, x < c + k) (hl : k < ls.length) : dueE (holes AR ls) c z = (holes AR ls).take c := by
  have h := range_less nd hin
  rw [dueE, if_pos ?_]
  rw [ptsE_holes, List.length_take, hA]
  omega
theorem all_at {rws : List (List G)} {c k z m i : Nat} (hc : rws.length = c) (hz : ∀ row ∈ rws, row.length = z) (h16 : c + k ≤ 16) (hm : m < c + k) (hi : i < z) : co ((rws ++ moreR rws c k z).getD m []) i = lag (ptsOf c) (colG rws i) (gN m) := by
  have hl : (colG rws i).length = c := by rw [colG, List.length_map]; exact hc
  have e := codeW_at (gl := colG rws i) (m := c + k) (k := m) (by omega) h16 hm
  rw [hl] at e
  rw [← e]
  by_cases hmc : m < c
  · rw [List.getD_eq_getElem?_getD, List.getElem?_append_left (by omega), ← List.getD_eq_getElem?_getD, ← colG_co]
    have hw := codeW_len (gl := colG rws i) (m := c + k) (by omega)
    rw [co_in (by omega), co_in (by omega)]
    exact (List.getElem_append_left (by omega)).symm
  · rw [List.getD_eq_getElem?_getD, List.getElem?_append_right (by omega), hc]
    unfold moreR
    rw [List.getElem?_map, List.getElem?_range (by omega)]
    show co (tab z _) i = _
    rw [tab_co, if_pos hi, show c + (m - c) = m by omega]
theorem due_full {rws : List (List G)} {ls : List Nat} {c k z : Nat} (hc : rws.length = c) (hz : ∀ row ∈ rws, row.length = z) (h16 : c + k ≤ 16) (nd : ls.Nodup) (hin : ∀ x ∈ ls, x < c + k) (hl : ls.length ≤ k) : dueE (holes (rws ++ moreR rws c k z) ls) c z = rws.map some := by
  have hA : (rws ++ moreR rws c k z).length = c + k := by rw [List.length_append, hc]; simp [moreR]
  have h := range_less nd hin
  have hp : ptsE (holes (rws ++ moreR rws c k z) ls) c = ((List.range (c + k)).filter fun i => !decide (i ∈ ls)).take c := by rw [ptsE_holes, hA]
  have hpl : (ptsE (holes (rws ++ moreR rws c k z) ls) c).length = c := by
    rw [hp, List.length_take]
    omega
  rw [dueE, if_neg (by omega)]
  refine List.ext_getElem (by simp [dataE, hc]) fun i h1 h2 => ?_
  have hi : i < c := by simpa [dataE] using h1
  have hrow : rws[i]'(by omega) = (rws ++ moreR rws c k z).getD i [] := by
    rw [List.getD_eq_getElem?_getD, List.getElem?_append_left (by omega), List.getElem?_eq_getElem (by omega)]
    rfl
  simp only [dataE, List.getElem_map, List.getElem_range, List.take_length]
  rw [hrow]
  by_cases hm : i ∈ misE (holes (rws ++ moreR rws c k z) ls) c
  · rw [if_pos hm]
    refine congrArg some ?_
    have hri : ((rws ++ moreR rws c k z).getD i []).length = z := by
      rw [← hrow]
      exact hz _ (List.getElem_mem _)
    have hmem : ∀ m ∈ ptsE (holes (rws ++ moreR rws c k z) ls) c, m < c + k ∧ ¬ m ∈ ls := fun m q => by
      rw [hp] at q
      have q := List.mem_filter.mp (List.mem_of_mem_take q)
      exact ⟨List.mem_range.mp q.1, by simpa using q.2⟩
    have ndp : (ptsE (holes (rws ++ moreR rws c k z) ls) c).Nodup := by
      rw [hp]
      exact (List.take_sublist _ _).nodup (List.nodup_range.filter _)
    clear hrow
    generalize hP : ptsE (holes (rws ++ moreR rws c k z) ls) c = P at hpl hmem ndp
    rw [fillE, hP]
    have hrw : ∀ m (hm : m < P.length), (rowsE (holes (rws ++ moreR rws c k z) ls) c).getD m [] = (rws ++ moreR rws c k z).getD P[m] [] := fun m hm => by
      have q := hmem P[m] (List.getElem_mem hm)
      rw [rowsE, hP, List.getD_eq_getElem?_getD, List.getElem?_map, List.getElem?_eq_getElem hm]
      show ((holes (rws ++ moreR rws c k z) ls).getD P[m] none).getD [] = _
      rw [holes_get (by omega), if_neg q.2]
      rfl
    refine list_ext (by rw [extRow, tab_len, hri]) fun j hj => ?_
    rw [extRow, tab_len] at hj
    rw [extRow, tab_co, if_pos hj, all_at hc hz h16 (by omega) hj]
    have ndg : (P.map gN).Nodup := by
      rw [List.nodup_iff_pairwise_ne, List.pairwise_map]
      exact (List.Pairwise.imp_of_mem fun {x y} hx hy ne e => ne (gN_inj (by have := hmem x hx; omega) (by have := hmem y hy; omega) e)) (List.nodup_iff_pairwise_ne.mp ndp)
    rw [← lag_same (pts := ptsOf c) (pts' := P.map gN) (vals := colG rws j) ndg (by rw [List.length_map, ptsOf_len, hpl]) (gN i)]
    unfold lag
    rw [List.length_map]
    refine gs_congr fun m hm => ?_
    have q := hmem P[m] (List.getElem_mem hm)
    refine congrArg (gm _) ?_
    rw [hrw m hm, all_at hc hz h16 q.1 hj, co_in (by rw [List.length_map, List.length_map]; exact hm), List.getElem_map, List.getElem_map]
    rfl
  · rw [if_neg hm, holes_get (by omega), if_neg ?_]
    intro q
    refine hm (List.mem_filter.mpr ⟨List.mem_range.mpr hi, ?_⟩)
    show (!isE _ i) = true
    rw [isE_holes (by omega), decide_eq_true q]
    rfl
theorem holes_wide {rws : List (List G)} {ls : List Nat} {c k z : Nat} (hz : ∀ row ∈ rws, row.length = z) : ∀ l, some l ∈ holes (rws ++ moreR rws c k z) ls → l.length = z := fun l h => by
  obtain ⟨i, hi, e⟩ := List.mem_map.mp h
  have hi := List.mem_range.mp hi
  by_cases q : i ∈ ls
  · rw [if_pos q] at e
    cases e
  · rw [if_neg q] at e
    cases e
    rw [List.getD_eq_getElem?_getD, List.getElem?_eq_getElem hi]
    show ((rws ++ moreR rws c k z)[i]).length = z
    rcases List.mem_append.mp (List.getElem_mem hi) with y | y
    · exact hz _ y
    · obtain ⟨j, _, e⟩ := List.mem_map.mp y
      rw [← e, tab_len]
-- @@LAW
@[reducible] def st48 (a pb pc pm pl : Addr) (c k z : Nat) (x8 x13 x14 x15 x16 x17 x18 : Option V) : L2.St := [some (.ref a), some (.int (c : Int)), some (.int (k : Int)), some (.int (z : Int)), some (.ref pb), none, none, some (.ref pc), x8, some (.ref pm), some (.ref pl), none, none, x13, x14, x15, x16, x17, x18]
theorem ok_law0 (T : Txt K mg C_ArchiveError C_InvalidSymbol c_check_bodies P_check_bodies) (f : Addr) (fd : FuncData) (F : Fun K "law" "law" s_law f fd) : FnOk P w K mg base CX0 8 f fd ["script"] (GX.spLawT K [P_check_bodies]) := by
  have G__law_cell := ok__law_cell (P := P) (w := w) (base := base) T
  have G__law_row := ok__law_row (P := P) (w := w) (base := base) T
  have G__law_codeword := ok__law_codeword (P := P) (w := w) (base := base) T
  have G__law_picks := ok__law_picks (P := P) (w := w) (base := base) T
  have G__law_refused := ok__law_refused (P := P) (w := w) (base := base) T
  have G_check_bodies := ok_check_bodies (P := P) (w := w) (base := base) T
  have G_complete := ok_complete (P := P) (w := w) (base := base) T
  refine F.ok sc_law (fun vs H Q E h => ?_) (fun cdv A outer s H vs Q E hr h => ?_)
  · obtain ⟨a, ns, rfl, _⟩ := h
    rfl
  · obtain ⟨a, ns, rfl, hS, hlen, tb, kQ⟩ := h
    have nd := sc_law.nd
    have hu64 : (A.deeper (envOfC "law" (defScope s_law) s.heap.objs.size f cdv)).units + 64 < cLine := by
      have := hr.un
      omega
    refine ⟨_,       (Evl.pss_cut (ps_set (i := 1) nd rfl (Or.inr rfl) (pe_op op_add pe_int (pe_op op_mod (pe_callO G__law_cell (hr.mono (by decide)) pass0 (pa_cons (pv 0) (pa_cons pe_int pa_nil))) pe_int)))
      (Evl.pss_cut (ps_set (i := 2) nd rfl (Or.inr rfl) (pe_op op_mod (pe_op op_fdiv (pe_callO G__law_cell (hr.mono (by decide)) pass0 (pa_cons (pv 0) (pa_cons pe_int pa_nil))) pe_int) (pe_op op_sub pe_int (pv 1))))
      (Evl.pss_cut (ps_set (i := 3) nd rfl (Or.inr rfl) (pe_op op_mod (pe_callO G__law_cell (hr.mono (by decide)) pass0 (pa_cons (pv 0) (pa_cons pe_int pa_nil))) pe_int))
      (Evl.pss_cut (ps_set (i := 4) nd rfl (Or.inr rfl) (pe_lc (own := [("k", 5)]) (g := gName 5) (tt := tYes) rfl nd (pi_range1 rfl T.n_range (pa_cons (pv 1) pa_nil)) (blkOk_by (N := N_law) (sc := defScope s_law) (by decide +kernel)) (fun _ _ _ _ _ => (pg_name (i := 5) nd rfl (Or.inl rfl))) (fun _ _ _ _ _ => pts_nil) (fun _ _ _ _ _ => (pe_callO G__law_row (hr.mono (by decide)) pass0 (pa_cons (pe_op op_add (pe_callO G__law_cell (hr.mono (by decide)) pass0 (pa_cons (pv 0) (pa_cons pe_int pa_nil))) (pe_op op_mul pe_int (pv 5))) (pa_cons (pv 3) (pa_cons pe_int pa_nil)))))))
      (pss_cons (ps_if (pt_cmpR op_eq (pe_op op_mod (pe_callO G__law_cell (hr.mono (by decide)) pass0 (pa_cons (pv 0) (pa_cons pe_int pa_nil))) pe_int) pe_int (nomark _))
        (pss_cons (ps_set (i := 6) nd rfl (Or.inl rfl) (pe_and (pe_callO G__law_refused (hr.mono (by decide)) pass0 (pa_cons pe_int (pa_cons (pe_lst pa_nil) (pa_cons (pv 2) pa_nil)))) (pe_and (pe_callO G__law_refused (hr.mono (by decide)) pass0 (pa_cons pe_int (pa_cons (pv 4) (pa_cons (pe_op op_sub pe_int (pv 1)) pa_nil)))) (pe_one (pe_callO G__law_refused (hr.mono (by decide)) pass0 (pa_cons pe_int (pa_cons (pv 4) (pa_cons (pe_un un_neg pe_int) pa_nil))))))))
        (pss_cons (ps_set (i := 6) nd rfl (Or.inl rfl) (pe_and (pv 6) (pe_and (pe_callO G__law_refused (hr.mono (by decide)) pass0 (pa_cons pe_int (pa_cons (pv 4) (pa_cons pe_int pa_nil)))) (pe_one (pe_callO G__law_refused (hr.mono (by decide)) pass0 (pa_cons pe_int (pa_cons (pv 4) (pa_cons (pe_op op_add (pv 1) pe_int) pa_nil))))))))
        (pss_one (ps_ret (pe_and (pv 6) (pe_one (pe_callO G__law_refused (hr.mono (by decide)) pass0 (pa_cons pe_int (pa_cons (pe_op op_cat (pv 4) (pe_op op_rep (pe_lst (pa_cons pe_non pa_nil)) (pe_op op_sub pe_int (pv 1)))) (pa_cons (pv 1) pa_nil)))))))))) pss_nil)
      (Evl.pss_cut (ps_setLc (i := 7) (own := [("body", 8)]) (g := gName 8) (tt := tYes) rfl nd rfl rfl (sw_true rfl rfl rfl (by decide +kernel)) (pi_list (pv 4)) (blkOk_by (N := N_law) (sc := defScope s_law) (by decide +kernel)) (fun _ _ _ _ _ => (pg_name (i := 8) nd rfl (Or.inl rfl))) (fun _ _ _ _ _ => pts_nil) (fun _ _ _ _ _ => (pe_callTy (TK.call_list_ofK (K := K)) (by rfl) T.n_list (by decide +kernel) (pa_cons (pv 8) pa_nil))))
      (pss_cons (ps_set (i := 9) nd rfl (Or.inl rfl) (pe_callO G_check_bodies (hr.mono (by decide)) passN (pa_cons (pv 7) (pa_cons (pv 2) pa_nil))))
      (Evl.pss_cut (ps_set (i := 10) nd rfl (Or.inr rfl) (pe_lc (own := [("k", 5)]) (g := gName 5) (tt := tYes) rfl nd (pi_range1 rfl T.n_range (pa_cons (pv 3) pa_nil)) (blkOk_by (N := N_law) (sc := defScope s_law) (by decide +kernel)) (fun _ _ _ _ _ => (pg_name (i := 5) nd rfl (Or.inr rfl))) (fun _ _ _ _ _ => pts_nil) (fun _ _ _ _ _ => (pe_callO G__law_codeword (hr.mono (by decide)) pass0 (pa_cons (pe_lc (own := [("body", 8)]) (g := gName 8) (tt := tYes) rfl nd (TK.pi_listK (K := K) (pv 4)) (blkOk_by (N := N_law) (sc := { kind := .function, names := [(".0", .local), ("k", .cell), ("_law_codeword", .globalImplicit), ("bodies", .cell), ("checks", .cell), ("count", .cell)], isGenerator := false, isCoroutine := false }) (by decide +kernel)) (fun _ _ _ _ _ => (pg_name (i := 8) nd rfl (Or.inl rfl))) (fun _ _ _ _ _ => pts_nil) (fun _ _ _ _ _ => (pe_ix (r := rIxL K) ix_list (pv 8) (pv 5) (fun _ _ => rfl)))) (pa_cons (pe_op op_add (pv 1) (pv 2)) pa_nil))))))
      (pss_cons (ps_if (PW.pt (pw_or (pt_cmpR (op_neD hu64) (pv 7) (pv 4) (nomark _)) (pw_or1 (pt_cmpR (op_neD hu64) (pv 9) (pe_lc (own := [("j", 11)]) (g := gName 11) (tt := tYes) rfl nd (pi_range1 rfl T.n_range (pa_cons (pv 2) pa_nil)) (blkOk_by (N := N_law) (sc := defScope s_law) (by decide +kernel)) (fun _ _ _ _ _ => (pg_name (i := 11) nd rfl (Or.inr rfl))) (fun _ _ _ _ _ => pts_nil) (fun _ _ _ _ _ => (pe_lc (own := [("column", 12)]) (g := gName 12) (tt := tYes) rfl nd (TK.pi_listK (K := K) (pv 10)) (blkOk_by (N := N_law) (sc := { kind := .function, names := [(".0", .local), ("j", .cell), ("columns", .cell), ("count", .cell)], isGenerator := false, isCoroutine := false }) (by decide +kernel)) (fun _ _ _ _ _ => (pg_name (i := 12) nd rfl (Or.inl rfl))) (fun _ _ _ _ _ => pts_nil) (fun _ _ _ _ _ => (pe_ix (r := rIxL K) ix_list (pv 12) (pe_op op_add (pv 1) (pv 11)) (fun _ _ => rfl)))))) (nomark _)))))
        (pss_one (ps_ret pe_bl)) pss_nil)
      (Evl.pss_cut (ps_set (i := 13) nd rfl (Or.inl rfl) (pe_op op_mod (pe_callO G__law_cell (hr.mono (by decide)) pass0 (pa_cons (pv 0) (pa_cons pe_int pa_nil))) (pe_op op_add (pe_op op_add (pv 1) (pv 2)) pe_int)))
      (Evl.pss_cut (ps_if (pt_cmpR op_eq (pe_op op_mod (pe_op op_fdiv (pe_callO G__law_cell (hr.mono (by decide)) pass0 (pa_cons (pv 0) (pa_cons pe_int pa_nil))) pe_int) pe_int) pe_int (nomark _))
        (pss_one (ps_set (i := 13) nd rfl (Or.inl rfl) (pv 2))) pss_nil)
      (Evl.pss_cut (ps_if (pt_cmpR op_eq (pe_op op_mod (pe_op op_fdiv (pe_callO G__law_cell (hr.mono (by decide)) pass0 (pa_cons (pv 0) (pa_cons pe_int pa_nil))) pe_int) pe_int) pe_int (nomark _))
        (pss_one (ps_set (i := 13) nd rfl (Or.inl rfl) (pe_callB (call_min2 rfl) (by rfl) T.n_min (by decide +kernel) (pa_cons (pe_op op_add (pv 1) (pv 2)) (pa_cons (pe_op op_add (pv 2) pe_int) pa_nil))))) pss_nil)
      (Evl.pss_cut (ps_setLc (i := 14) (own := [("body", 8)]) (g := gName 8) (tt := tYes) rfl nd rfl rfl (sw_true rfl rfl rfl (by decide +kernel)) (pi_list (pe_op op_cat (pv 4) (pv 9))) (blkOk_by (N := N_law) (sc := defScope s_law) (by decide +kernel)) (fun _ _ _ _ _ => (pg_name (i := 8) nd rfl (Or.inl rfl))) (fun _ _ _ _ _ => pts_nil) (fun _ _ _ _ _ => (pe_callTy (TK.call_list_ofK (K := K)) (by rfl) T.n_list (by decide +kernel) (pa_cons (pv 8) pa_nil))))
      (pss_cons (ps_for PassesOwn.never rfl (pi_list (pe_callO G__law_picks (hr.mono (by decide)) pass0 (pa_cons (pe_callO G__law_cell (hr.mono (by decide)) pass0 (pa_cons (pv 0) (pa_cons pe_int pa_nil))) (pa_cons (pv 13) (pa_cons (pe_op op_add (pv 1) (pv 2)) pa_nil))))) (pg_name (i := 15) nd rfl (Or.inl rfl))
        (pss_one (ps_asg pe_non (pg_sub (pv 14) (pv 15) set_list))))
      (Evl.pss_cut (ps_setLc (i := 16) (own := [("body", 8)]) (g := gName 8) (tt := tYes) rfl nd rfl rfl (sw_true rfl rfl rfl (by decide +kernel)) (pi_list (pv 14)) (blkOk_by (N := N_law) (sc := defScope s_law) (by decide +kernel)) (fun _ _ _ _ _ => (pg_name (i := 8) nd rfl (Or.inl rfl))) (fun _ _ _ _ _ => pts_nil) (fun _ _ _ _ _ => (pe_ifExp (pt_cmpR op_isN (pv 8) pe_non (nomark _)) pe_non (pe_callTy (TK.call_list_ofK (K := K)) (by rfl) T.n_list (by decide +kernel) (pa_cons (pv 8) pa_nil)))))
      (pss_cons (ps_set (i := 17) nd rfl (Or.inl rfl) (pe_callO G_complete (hr.mono (by decide)) passN (pa_cons (pv 14) (pa_cons (pv 1) pa_nil))))
      (Evl.pss_cut (ps_setLc (i := 18) (own := [("body", 8)]) (g := gName 8) (tt := tYes) rfl nd rfl rfl (sw_true rfl rfl rfl (by decide +kernel)) (pi_list (pv 4)) (blkOk_by (N := N_law) (sc := defScope s_law) (by decide +kernel)) (fun _ _ _ _ _ => (pg_name (i := 8) nd rfl (Or.inl rfl))) (fun _ _ _ _ _ => pts_nil) (fun _ _ _ _ _ => (pe_callTy (TK.call_list_ofK (K := K)) (by rfl) T.n_list (by decide +kernel) (pa_cons (pv 8) pa_nil))))
      (Evl.pss_cut (ps_if (pt_cmpR op_gt (pv 13) (pv 2) (nomark _))
        (pss_one (ps_set (i := 18) nd rfl (Or.inl rfl) (pe_slice sl_list (pv 16) po_none (po_some (pv 1))))) pss_nil)
      (pss_cons (ps_if (PW.pt (pw_or (pt_not (pt_val (pe_callB call_isi (by rfl) T.n_isinstance (by decide +kernel) (pa_cons (pv 17) (pa_cons (pe_bltn (v := .ty "list") (by rfl) T.n_list (by decide +kernel) rfl) pa_nil))))) (pw_or (pt_cmpR (op_neD hu64) (pv 17) (pv 18) (nomark _)) (pw_or1 (pt_cmpR (op_neD hu64) (pv 14) (pv 16) (nomark _))))))
        (pss_one (ps_ret pe_bl)) pss_nil)
      (pss_cons (ps_for PassesOwn.never rfl (pi_list (pv 17)) (pg_name (i := 8) nd rfl (Or.inl rfl))
        (pss_one (ps_if (pt_cmpR op_notN (pv 8) pe_non (nomark _))
          (pss_one (ps_expr (pe_bm PySem.F.plainAttrs_list PySem.F.slot_list_append PySem.F.type_list_append mt_append (pv 8) (pa_cons pe_int pa_nil)))) pss_nil)))
      (pss_one (ps_ret (pe_and (pe_cmpR (op_eqD hu64) (pv 14) (pv 16) (nomark _)) (pe_one (pe_cmpR (op_eqD hu64) (pe_callO G_complete (hr.mono (by decide)) passN (pa_cons (pv 14) (pa_cons (pv 1) pa_nil))) (pv 18) (nomark _)))))))))))))))))))))))))), ?_⟩
    -- count
    refine ⟨fun σ' H' => H = H' ∧ ∃ c : Nat, 1 ≤ c ∧ c ≤ 12 ∧ σ' = [some (.ref a), some (.int (c : Int)), none, none, none, none, none, none, none, none, none, none, none, none, none, none, none, none, none], ?_, ?_⟩
    · refine ⟨_, rfl, a, ns, 0, rfl, hS, _, _, rfl, rfl, (by show (0 : Int) < 12; decide), _, _, rfl, rfl, rfl, (1 + cell ns 0 % 12).toNat, by omega, by omega, ?_⟩
      rw [show (((1 + cell ns 0 % 12).toNat : Nat) : Int) = 1 + cell ns 0 % 12 by omega]
      rfl
    rintro σ0 H0 ⟨rfl, c, hc1, hc12, rfl⟩
    -- checks
    refine ⟨fun σ' H' => H = H' ∧ ∃ k : Nat, c + k ≤ 16 ∧ σ' = [some (.ref a), some (.int (c : Int)), some (.int (k : Int)), none, none, none, none, none, none, none, none, none, none, none, none, none, none, none, none], ?_, ?_⟩
    · have hz := Int.emod_nonneg (cell ns 0 / 12) (show ((17 : Int) - (c : Int)) ≠ 0 by omega)
      have hz2 := Int.emod_lt_of_pos (cell ns 0 / 12) (show (0 : Int) < 17 - (c : Int) by omega)
      refine ⟨_, rfl, a, ns, 0, rfl, hS, _, _, rfl, rfl, ⟨by decide, by decide⟩, _, rfl, _, _, rfl, rfl, _, _, rfl, rfl, (by show (0 : Int) < 17 - (c : Int); omega), rfl, (cell ns 0 / 12 % (17 - (c : Int))).toNat, by omega, ?_⟩
      rw [show (((cell ns 0 / 12 % (17 - (c : Int))).toNat : Nat) : Int) = cell ns 0 / 12 % (17 - (c : Int)) by omega]
      rfl
    rintro σ1 H1 ⟨rfl, k, hk16, rfl⟩
    -- size
    refine ⟨fun σ' H' => H = H' ∧ ∃ z : Nat, z ≤ 20 ∧ σ' = [some (.ref a), some (.int (c : Int)), some (.int (k : Int)), some (.int (z : Int)), none, none, none, none, none, none, none, none, none, none, none, none, none, none, none], ?_, ?_⟩
    · refine ⟨_, rfl, a, ns, 1, rfl, hS, _, _, rfl, rfl, (by show (0 : Int) < 21; decide), rfl, (cell ns 1 % 21).toNat, by omega, ?_⟩
      rw [show (((cell ns 1 % 21).toNat : Nat) : Int) = cell ns 1 % 21 by omega]
      rfl
    rintro σ2 H2 ⟨rfl, z, hz20, rfl⟩
    -- bodies
    refine ⟨fun σ' H' => Same H H' ∧ ∃ (pb : Addr) (ras : List Addr) (rws : List (List G)), rws.length = c ∧ (∀ row ∈ rws, row.length = z) ∧ H' pb = some (.lst (ras.map V.ref)) ∧ NewRows H' pb ras rws ∧ σ' = [some (.ref a), some (.int (c : Int)), some (.int (k : Int)), some (.int (z : Int)), some (.ref pb), none, none, none, none, none, none, none, none, none, none, none, none, none, none], ?_, ?_⟩
    · refine ⟨_, rfl, (c : Int), rfl, by omega, by omega, fun D hD => ?_⟩
      rw [Int.toNat_natCast]
      refine lc_range (lo := 0) (n := c) (fun i H' => Same H H' ∧ ∃ (ras : List Addr) (rws : List (List G)), rws.length = i ∧ (∀ row ∈ rws, row.length = z) ∧ H' D = some (.lst (ras.map V.ref)) ∧ NewRows H' D ras rws) ⟨same_upd hD, [], [], rfl, (fun _ h => nomatch h), upd_same, .nil⟩ ?_ ?_
      · rintro i H1 hi ⟨e1, ras, rws, hl, hw, hDl, hN⟩
        refine ⟨rfl, ?_⟩
        dsimp only [tYes]
        try rw [if_pos rfl]
        refine ⟨_, rfl, a, ns, 2, rfl, e1.seq hS, _, rfl, _, _, rfl, rfl, .inr ⟨by omega, by omega⟩, _, _, rfl, rfl, _, rfl, _, z, 16, rfl, by omega, by decide, by decide, fun p H2 hp e2 hL => ?_⟩
        generalize hcv : rowL _ z 16 = rl at hL
        obtain ⟨gl, rfl⟩ := of_syms (l := rl) fun x hx => rowL_in (by decide) (by rw [hcv]; exact hx)
        have hgz : gl.length = z := by
          have := congrArg List.length hcv
          rw [rowL_len, List.length_map] at this
          exact this.symm
        rw [map_vg_gi] at hL
        have np : p ≠ D := fun q => by rw [q, hDl] at hp; cases hp
        have hrl : ras.length ≤ 16 := by
          have := Paired.length hN
          omega
        refine ⟨_, e2 _ _ hDl, small (by rw [List.length_map]; omega), same_new (e1.trans e2) hD, ras ++ [p], rws ++ [gl], by rw [List.length_append]; simp [hl], ?_, ?_, ?_⟩
        · intro row hrow
          rcases List.mem_append.mp hrow with q | q
          · exact hw row q
          · rw [List.mem_singleton.mp q]
            exact hgz
        · rw [upd_same, List.map_append]
          rfl
        · have hN1 : NewRows (upd H2 D (.lst (ras.map V.ref ++ [V.ref p]))) D ras rws := hN.keep fun b o q n => by rw [upd_ne n]; exact e2 _ _ q
          exact hN1.snoc np (by rw [upd_ne np]; exact hL)
      · rintro H1 ⟨e1, ras, rws, hl, hw, hDl, hN⟩
        exact ⟨e1, D, ras, rws, hl, hw, hDl, hN, rfl⟩
    rintro σ3 H3 ⟨e3, pb, ras, rws, hrc, hrz, hPB, hNB, rfl⟩
    have hS3 := e3.seq hS
    have tb3 := (GX.Sm.of e3).tab _ (tb _ (List.mem_singleton.mpr rfl))
    have hRA : RowsAt K H3 pb z rws := ⟨ras, SqL.of hPB, NewRows.rows hNB, hrz⟩
    have hral : ras.length = c := by rw [← hrc]; exact Paired.length hNB
    have hES : ∀ {H' : Hp}, GX.Sm H3 H' → EntsAt K H' (ras.map V.ref) (rws.map some) := fun {H'} e => by
      refine ⟨by rw [List.length_map, List.length_map, hral, hrc], fun i v o h1 h2 => ?_⟩
      rw [List.getElem?_map] at h1 h2
      cases q : ras[i]? with
      | none => rw [q] at h1; cases h1
      | some r =>
        rw [q] at h1
        obtain ⟨row, h3, h4, h5⟩ := pair_get hNB q
        rw [h3] at h2
        obtain rfl := Option.some.inj h1
        obtain rfl := Option.some.inj h2
        exact ⟨r, rfl, e.seq (SqL.of h5)⟩
    have hwS : ∀ l, some l ∈ rws.map some → l.length = z := fun l h => by
      obtain ⟨row, h1, h2⟩ := List.mem_map.mp h
      exact hrz l (Option.some.inj h2 ▸ h1)
    -- what is refused
    refine ⟨_, rfl, a, ns, 3, rfl, hS3, _, _, rfl, rfl, (by show (0 : Int) < 8; decide), rfl, _, rfl, itd (fun _ => ?_) (fun _ => ?_)⟩
    · refine ⟨(by show 0 ≤ sizeLine; decide), fun l0 hl0 => ?_⟩
      have g0 := GX.Sm.of (same_upd (o := .lst ([] : List V)) hl0)
      refine ⟨_, rfl, 0, l0, (k : Int), rfl, g0.tab _ tb3, .inl ⟨rfl, [], 0, ⟨[], SqL.of upd_same, .nil, fun _ h => nomatch h⟩, by decide, by decide, fun q => absurd q.1 (by decide)⟩, fun Ha ea => ⟨true, rfl, iteT ?_⟩⟩
      have ga := GX.Sm.trans g0 ea
      refine ⟨_, rfl, _, rfl, _, _, rfl, rfl, 0, pb, _, rfl, ga.tab _ tb3, .inl ⟨rfl, rws, z, RowsAt.sm ga hRA, by omega, by omega, fun q => absurd q.2.2 (by omega)⟩, fun Hb eb => ⟨true, rfl, iteT ?_⟩⟩
      have gb := GX.Sm.trans ga eb
      refine ⟨_, rfl, _, rfl, 0, pb, _, rfl, gb.tab _ tb3, .inl ⟨rfl, rws, z, RowsAt.sm gb hRA, by omega, by omega, fun q => absurd q.2.1 (by omega)⟩, fun Hc ec => ?_⟩
      have gc := GX.Sm.trans gb ec
      refine ⟨_, rfl, true, rfl, iteT ?_⟩
      refine ⟨_, rfl, 1, pb, 0, rfl, gc.tab _ tb3, .inr ⟨by decide, ras.map V.ref, rws.map some, z, gc.seq (SqL.of hPB), hES gc, hwS, by omega, fun q => absurd q.1 (by decide)⟩, fun Hd ed => ⟨true, rfl, iteT ?_⟩⟩
      have gd := GX.Sm.trans gc ed
      refine ⟨_, rfl, _, rfl, _, _, rfl, rfl, 1, pb, _, rfl, gd.tab _ tb3, .inr ⟨by decide, ras.map V.ref, rws.map some, z, gd.seq (SqL.of hPB), hES gd, hwS, by omega, fun q => absurd q.2.1 (by rw [List.length_map, hrc]; omega)⟩, fun He ee => ?_⟩
      have ge := GX.Sm.trans gd ee
      refine ⟨_, rfl, true, rfl, iteT ?_⟩
      have hn17 : ((17 : Int) - (c : Int)).toNat = 17 - c := by omega
      refine ⟨_, rfl, (by show 1 ≤ sizeLine; decide), fun l hl => ?_⟩
      have g1 := GX.Sm.trans ge (GX.Sm.of (same_upd (o := .lst [V.non]) hl))
      refine ⟨_, rfl, _, _, rfl, rfl, l, _, _, rfl, rfl, upd_same, by omega, by omega, ?_, fun t ht => ?_⟩
      · rw [hn17]
        exact smallE (by simp; omega)
      have fl : ∀ n : Nat, (List.replicate n [V.non]).flatten = List.replicate n V.non := fun n => by
        induction n with
        | zero => rfl
        | succ n ih => rw [List.replicate_succ, List.flatten_cons, ih, List.replicate_succ]; rfl
      rw [hn17, fl]
      have g2 := GX.Sm.trans g1 (GX.Sm.of (same_upd (o := .lst (List.replicate (17 - c) V.non)) ht))
      refine ⟨pb, t, _, _, rfl, rfl, g2.l hPB, upd_same, smallE (by simp; omega), fun r hr => ?_⟩
      have g3 := GX.Sm.trans g2 (GX.Sm.of (same_upd (o := .lst (ras.map V.ref ++ List.replicate (17 - c) V.non)) hr))
      refine ⟨_, rfl, 1, r, _, rfl, g3.tab _ tb3, .inr ⟨by decide, ras.map V.ref ++ List.replicate (17 - c) V.non, rws.map some ++ List.replicate (17 - c) none, z, SqL.of upd_same, ⟨by simp [hral, hrc], fun i v o h1 h2 => ?_⟩, fun l h => ?_, by omega, fun q => absurd q.2.2 (by simp [hrc]; omega)⟩, fun Hf ef => to_true (Q := Q) rfl (kQ _)⟩
      · have hE3 := hES g3
        by_cases hi : i < c
        · rw [List.getElem?_append_left (by simp [hral]; exact hi)] at h1
          rw [List.getElem?_append_left (by simp [hrc]; exact hi)] at h2
          exact hE3.2 i v o h1 h2
        · rw [List.getElem?_append_right (by simp [hral]; omega)] at h1
          rw [List.getElem?_append_right (by simp [hrc]; omega)] at h2
          have h1' := List.eq_of_mem_replicate (List.mem_of_getElem? h1)
          have h2' := List.eq_of_mem_replicate (List.mem_of_getElem? h2)
          rw [h1', h2']
          rfl
      · rcases List.mem_append.mp h with q | q
        · exact hwS l q
        · have := List.eq_of_mem_replicate q
          cases this
    -- copy
    refine ⟨fun σ' H' => Same H3 H' ∧ ∃ (pc : Addr) (cs : List Addr), H' pc = some (.lst (cs.map V.ref)) ∧ NewRows H' pc cs rws ∧ σ' = [some (.ref a), some (.int (c : Int)), some (.int (k : Int)), some (.int (z : Int)), some (.ref pb), none, none, some (.ref pc), none, none, none, none, none, none, none, none, none, none, none], ?_, ?_⟩
    · refine ⟨_, rfl, pb, rfl, ⟨_, SqL.of hPB⟩, fun D hD => lc_list (K := K) (a := pb) (xs := ras.map V.ref) (fun i H' => Same H3 H' ∧ ∃ cs : List Addr, H' D = some (.lst (cs.map V.ref)) ∧ NewRows H' D cs (rws.take i)) ⟨same_upd hD, [], upd_same, .nil⟩ (fun i H' _ ⟨e, _⟩ => SqL.of (e _ _ hPB)) ?_ ?_⟩
      · rintro i x H4 hx ⟨e4, cs, hDl, hN⟩
        obtain ⟨ri, hri, rfl⟩ : ∃ ri, ras[i]? = some ri ∧ x = V.ref ri := by
          rw [List.getElem?_map] at hx
          cases q : ras[i]? with
          | none => rw [q] at hx; cases hx
          | some rk => rw [q] at hx; exact ⟨rk, rfl, (Option.some.inj hx).symm⟩
        obtain ⟨row, hrow, _, hro⟩ := pair_get hNB hri
        obtain ⟨hi, rfl⟩ := List.getElem?_eq_some_iff.mp hrow
        have hcl : cs.length ≤ 16 := by
          have := Paired.length hN
          rw [List.length_take] at this
          omega
        refine ⟨rfl, ?_⟩
        dsimp only [tYes]
        try rw [if_pos rfl]
        refine ⟨_, rfl, ri, _, rfl, .inl (SqL.of (e4 _ _ hro)), fun l hl => ?_⟩
        have g1 := same_upd (o := .lst (rws[i].map vg)) hl
        have nl : l ≠ D := fun q => by rw [q, hDl] at hl; cases hl
        refine ⟨_, g1 _ _ hDl, small (by rw [List.length_map]; omega), same_new (e4.trans g1) hD, cs ++ [l], ?_, ?_⟩
        · rw [upd_same, List.map_append]
          rfl
        · have hN1 : NewRows (upd (upd H4 l (.lst (rws[i].map vg))) D (.lst (cs.map V.ref ++ [V.ref l]))) D cs (rws.take i) := hN.keep fun b o q n => by rw [upd_ne n]; exact g1 _ _ q
          rw [take_snoc hi]
          exact hN1.snoc nl (by rw [upd_ne nl, upd_same])
      · rintro H4 ⟨e4, cs, hDl, hN⟩
        rw [List.length_map, hral, ← hrc, List.take_length] at hN
        exact ⟨e4, D, cs, hDl, hN, rfl⟩
    rintro σ5 H5 ⟨e5, pc, cs, hPC, hNC, rfl⟩
    have tb5 := (GX.Sm.of e5).tab _ tb3
    -- more
    refine ⟨_, rfl, _, rfl, pc, (k : Int), rws, z, rfl, ⟨cs, SqL.of hPC, NewRows.rows hNC, hrz⟩, by omega, by omega, tb5, fun hn => absurd ⟨by omega, by omega, by omega⟩ hn, fun k' hk' _ _ pm H6 os e6 hPM hNM => ?_⟩
    obtain rfl : k = k' := by omega
    rw [hrc] at hNM
    have g36 := GX.Sm.trans (GX.Sm.of e5) e6
    have hPB6 := g36.l hPB
    have hro6 : ∀ {i : Nat} {r : Addr}, ras[i]? = some r → ∃ row, rws[i]? = some row ∧ H6 r = some (.lst (row.map vg)) := fun {i r} q => by
      obtain ⟨row, h1, _, h3⟩ := pair_get hNB q
      exact ⟨row, h1, g36.l h3⟩
    -- columns
    refine ⟨fun σ' H' => Same H6 H' ∧ ∃ (pl : Addr) (ps : List Addr), H' pl = some (.lst (ps.map V.ref)) ∧ NewRows H' pl ps ((List.range z).map fun j => codeW (colG rws j) (c + k)) ∧ σ' = [some (.ref a), some (.int (c : Int)), some (.int (k : Int)), some (.int (z : Int)), some (.ref pb), none, none, some (.ref pc), none, some (.ref pm), some (.ref pl), none, none, none, none, none, none, none, none], ?_, ?_⟩
    · refine ⟨_, rfl, (z : Int), rfl, by omega, by omega, fun D hD => ?_⟩
      rw [Int.toNat_natCast]
      refine lc_range (lo := 0) (n := z) (fun i H' => Same H6 H' ∧ ∃ ps : List Addr, H' D = some (.lst (ps.map V.ref)) ∧ NewRows H' D ps ((List.range i).map fun j => codeW (colG rws j) (c + k))) ⟨same_upd hD, [], upd_same, .nil⟩ ?_ ?_
      · rintro i H7 hi ⟨e7, ps, hDl, hN⟩
        rw [Int.zero_add]
        have hpl : ps.length ≤ 20 := by
          have := Paired.length hN
          rw [List.length_map, List.length_range] at this
          omega
        refine ⟨rfl, ?_⟩
        dsimp only [tYes]
        try rw [if_pos rfl]
        refine ⟨_, rfl, pb, rfl, ⟨_, SqL.of (e7 _ _ hPB6)⟩, fun D2 hD2 => lc_list (K := K) (a := pb) (xs := ras.map V.ref) (fun j H' => Same H7 H' ∧ H' D2 = some (.lst (((colG rws i).take j).map vg))) ⟨same_upd hD2, upd_same⟩ (fun j H' _ ⟨e, _⟩ => SqL.of (e _ _ (e7 _ _ hPB6))) ?_ ?_⟩
        · rintro j x H8 hx ⟨e8, hDl2⟩
          obtain ⟨rj, hrj, rfl⟩ : ∃ rj, ras[j]? = some rj ∧ x = V.ref rj := by
            rw [List.getElem?_map] at hx
            cases q : ras[j]? with
            | none => rw [q] at hx; cases hx
            | some rk => rw [q] at hx; exact ⟨rk, rfl, (Option.some.inj hx).symm⟩
          obtain ⟨row, hrow, hro⟩ := hro6 hrj
          have hrl : row.length = z := hrz row (List.mem_of_getElem? hrow)
          have hjc : j < (colG rws i).length := by
            rw [colG, List.length_map]
            exact (List.getElem?_eq_some_iff.mp hrow).1
          have hcj : (colG rws i)[j] = co row i := by
            obtain ⟨_, e⟩ := List.getElem?_eq_some_iff.mp hrow
            simp only [colG, List.getElem_map, e]
          refine ⟨rfl, ?_⟩
          dsimp only [tYes]
          try rw [if_pos rfl]
          refine ⟨_, rfl, _, rfl, rj, _, _, vg (co row i), rfl, rfl, SqL.of (e8 _ _ (e7 _ _ hro)), atI_nat (vg_get (by omega)), _, hDl2, small (by rw [List.length_map, List.length_take, colG, List.length_map]; omega), same_new e8 hD2, ?_⟩
          rw [upd_same, take_snoc hjc, List.map_append, hcj]
          rfl
        · rintro H8 ⟨e8, hDl2⟩
          have hcl : (colG rws i).length = c := by rw [colG, List.length_map]; exact hrc
          rw [List.length_map, hral, ← hcl, List.take_length] at hDl2
          refine ⟨_, rfl, _, rfl, _, _, rfl, rfl, D2, colG rws i, c + k, (by show [_, V.int ((c : Int) + (k : Int))] = _; rw [show ((c : Int) + (k : Int)) = ((c + k : Nat) : Int) by omega]), hDl2, by omega, by omega, hk16, fun p H9 hp e9 hL => ?_⟩
          have np : p ≠ D := fun q => by rw [q, e8 _ _ hDl] at hp; cases hp
          have e79 := e8.trans e9
          refine ⟨_, e79 _ _ hDl, small (by rw [List.length_map]; omega), same_new (e7.trans e79) hD, ps ++ [p], ?_, ?_⟩
          · rw [upd_same, List.map_append]
            rfl
          · have hN1 : NewRows (upd H9 D (.lst (ps.map V.ref ++ [V.ref p]))) D ps ((List.range i).map fun j => codeW (colG rws j) (c + k)) := hN.keep fun b o q n => by rw [upd_ne n]; exact e79 _ _ q
            rw [List.range_succ, List.map_append]
            exact hN1.snoc np (by rw [upd_ne np]; exact hL)
      · rintro H7 ⟨e7, ps, hDl, hN⟩
        exact ⟨e7, D, ps, hDl, hN, rfl⟩
    rintro σ7 H7 ⟨e7, pl, ps, hPL, hNL, rfl⟩
    have hNB7 : NewRows H7 pb ras rws := L2.Paired.mapP hNB fun _ _ h => ⟨h.1, e7 _ _ (g36.l h.2)⟩
    have hNC7 : NewRows H7 pc cs rws := L2.Paired.mapP hNC fun _ _ h => ⟨h.1, e7 _ _ (e6.l h.2)⟩
    have hPB7 := e7 _ _ hPB6
    have hPC7 := e7 _ _ (e6.l hPC)
    have hPM7 := e7 _ _ hPM
    have hNM7 : NewRows H7 pm os _ := hNM.keep (H' := H7) fun b o q _ => e7 _ _ q
    rw [more_rows hrc hk16] at hNM7
    -- copy != bodies or more != ..
    refine ⟨_, rfl, _, rfl, _, _, dp_rows hPC7 hNC7, dp_rows hPB7 hNB7, shaped_rows _, shaped_rows _, ne_noG (eqv_refl' (shaped_rows _)) ?_⟩
    refine ⟨_, rfl, _, rfl, (k : Int), rfl, by omega, by omega, fun D hD => ?_⟩
    rw [Int.toNat_natCast]
    refine lc_range (lo := 0) (n := k) (fun j H' => Same H7 H' ∧ ∃ qs : List Addr, H' D = some (.lst (qs.map V.ref)) ∧ NewRows H' D qs ((List.range j).map fun j => tab z fun i => co (codeW (colG rws i) (c + k)) (c + j))) ⟨same_upd hD, [], upd_same, .nil⟩ ?_ ?_
    · rintro j H8 hj ⟨e8, qs, hDl, hN⟩
      rw [Int.zero_add]
      have hql : qs.length ≤ 20 := by
        have := Paired.length hN
        rw [List.length_map, List.length_range] at this
        omega
      refine ⟨rfl, ?_⟩
      dsimp only [tYes]
      try rw [if_pos rfl]
      refine ⟨_, rfl, pl, rfl, ⟨_, SqL.of (e8 _ _ hPL)⟩, fun D2 hD2 => lc_list (K := K) (a := pl) (xs := ps.map V.ref) (fun i H' => Same H8 H' ∧ H' D2 = some (.lst ((tab i fun i => co (codeW (colG rws i) (c + k)) (c + j)).map vg))) ⟨same_upd hD2, upd_same⟩ (fun i H' _ ⟨e, _⟩ => SqL.of (e _ _ (e8 _ _ hPL))) ?_ ?_⟩
      · rintro i x H9 hx ⟨e9, hDl2⟩
        obtain ⟨ri, hri, rfl⟩ : ∃ ri, ps[i]? = some ri ∧ x = V.ref ri := by
          rw [List.getElem?_map] at hx
          cases q : ps[i]? with
          | none => rw [q] at hx; cases hx
          | some rk => rw [q] at hx; exact ⟨rk, rfl, (Option.some.inj hx).symm⟩
        obtain ⟨row, hrow, _, hro⟩ := pair_get hNL hri
        obtain ⟨hiz, hrow'⟩ := List.getElem?_eq_some_iff.mp hrow
        rw [List.length_map, List.length_range] at hiz
        have hrow2 : row = codeW (colG rws i) (c + k) := by
          rw [← hrow', List.getElem_map, List.getElem_range]
        subst hrow2
        have hcl : (colG rws i).length = c := by rw [colG, List.length_map]; exact hrc
        have hwl : (codeW (colG rws i) (c + k)).length = c + k := codeW_len (by omega)
        refine ⟨rfl, ?_⟩
        dsimp only [tYes]
        try rw [if_pos rfl]
        refine ⟨_, rfl, _, rfl, _, rfl, _, _, rfl, rfl, ri, _, _, vg (co (codeW (colG rws i) (c + k)) (c + j)), rfl, rfl, SqL.of (e9 _ _ (e8 _ _ hro)), at_nat (j := c + j) (by omega) (vg_get (by omega)), _, hDl2, small (by rw [List.length_map, tab_len]; omega), same_new e9 hD2, ?_⟩
        rw [upd_same, tab_suc, List.map_append]
        rfl
      · rintro H9 ⟨e9, hDl2⟩
        have hpsz : ps.length = z := by
          have := Paired.length hNL
          rw [List.length_map, List.length_range] at this
          exact this
        rw [List.length_map, hpsz] at hDl2
        have n2 : D2 ≠ D := fun q => by
          rw [q, hDl] at hD2
          cases hD2
        refine ⟨_, e9 _ _ hDl, small (by rw [List.length_map]; omega), same_new (e8.trans e9) hD, qs ++ [D2], ?_, ?_⟩
        · rw [upd_same, List.map_append]
          rfl
        · have hN1 : NewRows (upd H9 D (.lst (qs.map V.ref ++ [V.ref D2]))) D qs ((List.range j).map fun j => tab z fun i => co (codeW (colG rws i) (c + k)) (c + j)) := hN.keep fun b o q n => by rw [upd_ne n]; exact e9 _ _ q
          rw [List.range_succ, List.map_append]
          exact hN1.snoc n2 (by rw [upd_ne n2]; exact hDl2)
    rintro H8 ⟨e8, qs, hQ, hNQ⟩
    refine ⟨_, _, dp_rows (e8 _ _ hPM7) (hNM7.keep fun b o q _ => e8 _ _ q), dp_rows hQ hNQ, shaped_rows _, shaped_rows _, ne_noG (eqv_refl' (shaped_rows _)) ?_⟩
    -- gone
    have hNM8 := hNM7.keep (H' := H8) fun b o q _ => e8 _ _ q
    have hPM8 := e8 _ _ hPM7
    have hPB8 := e8 _ _ hPB7
    have hNB8 : NewRows H8 pb ras rws := L2.Paired.mapP hNB7 fun _ _ h => ⟨h.1, e8 _ _ h.2⟩
    have g8 : GX.Sm H3 H8 := GX.Sm.trans g36 (GX.Sm.of (e7.trans e8))
    have hS8 := g8.seq hS3
    clear hQ hNQ hPM7 hNM7 hNC7 hPC7 hPL hNL
    refine ⟨fun σ' H' => H8 = H' ∧ ∃ g : Nat, g ≤ c + k ∧ σ' = st48 a pb pc pm pl c k z none (some (.int (g : Int))) none none none none none, ?_, ?_⟩
    · have hz := Int.emod_nonneg (cell ns 4) (show ((c : Int) + (k : Int) + 1) ≠ 0 by omega)
      have hz2 := Int.emod_lt_of_pos (cell ns 4) (show (0 : Int) < (c : Int) + (k : Int) + 1 by omega)
      refine ⟨_, rfl, a, ns, 4, rfl, hS8, _, rfl, _, rfl, _, _, rfl, rfl, _, _, rfl, rfl, _, _, rfl, rfl, (by show (0 : Int) < (c : Int) + (k : Int) + 1; omega), rfl, (cell ns 4 % ((c : Int) + (k : Int) + 1)).toNat, by omega, ?_⟩
      rw [show (((cell ns 4 % ((c : Int) + (k : Int) + 1)).toNat : Nat) : Int) = cell ns 4 % ((c : Int) + (k : Int) + 1) by omega]
      rfl
    rintro σ9 H9 ⟨rfl, g, hg, rfl⟩
    refine ⟨fun σ' H' => H8 = H' ∧ ∃ g : Nat, g ≤ c + k ∧ σ' = st48 a pb pc pm pl c k z none (some (.int (g : Int))) none none none none none, ?_, ?_⟩
    · refine ⟨_, rfl, a, ns, 3, rfl, hS8, _, _, rfl, rfl, ⟨by decide, by decide⟩, _, _, rfl, rfl, (by show (0 : Int) < 3; decide), rfl, _, rfl, itd (fun _ => ?_) (fun _ => ⟨rfl, g, hg, rfl⟩)⟩
      exact ⟨_, rfl, rfl, k, by omega, rfl⟩
    clear hg g
    rintro σ9 H9 ⟨rfl, g, hg, rfl⟩
    refine ⟨fun σ' H' => H8 = H' ∧ ∃ g : Nat, g ≤ c + k ∧ σ' = st48 a pb pc pm pl c k z none (some (.int (g : Int))) none none none none none, ?_, ?_⟩
    · refine ⟨_, rfl, a, ns, 3, rfl, hS8, _, _, rfl, rfl, ⟨by decide, by decide⟩, _, _, rfl, rfl, (by show (0 : Int) < 4; decide), rfl, _, rfl, itd (fun _ => ?_) (fun _ => ⟨rfl, g, hg, rfl⟩)⟩
      refine ⟨_, rfl, _, rfl, _, _, rfl, rfl, _, rfl, _, _, rfl, rfl, _, _, rfl, rfl, min (c + k) (k + 1), by omega, ?_⟩
      have em : (if (k : Int) + 1 < (c : Int) + (k : Int) then (k : Int) + 1 else (c : Int) + (k : Int)) = ((min (c + k) (k + 1) : Nat) : Int) := by split <;> omega
      try dsimp only
      rw [em]
      rfl
    clear hg g
    rintro σ9 H9 ⟨rfl, g, hg, rfl⟩
    -- pages
    refine ⟨fun σ' H' => Same H8 H' ∧ ∃ (pp : Addr) (us : List V), H8 pp = none ∧ H' pp = some (.lst us) ∧ NewEnts H8 H' pp us ((rws ++ moreR rws c k z).map some) ∧ σ' = st48 a pb pc pm pl c k z none (some (.int (g : Int))) (some (.ref pp)) none none none none, ?_, ?_⟩
    · have hosl : os.length = k := by
        have := Paired.length hNM8
        rw [List.length_map, List.length_range] at this
        exact this
      refine ⟨_, rfl, _, rfl, pb, pm, _, _, rfl, rfl, hPB8, hPM8, smallE (by simp only [List.length_map, hral, hosl]; omega), fun r hr => ?_⟩
      have hAll : ∀ {H' : Hp}, Same H8 H' → ∀ (i : Nat) (x : V), (ras.map V.ref ++ os.map V.ref)[i]? = some x → ∃ (ri : Addr) (h : i < (rws ++ moreR rws c k z).length), x = .ref ri ∧ H' ri = some (.lst (((rws ++ moreR rws c k z)[i]).map vg)) := fun {H'} e i x hx => by
        by_cases hi : i < c
        · rw [List.getElem?_append_left (by rw [List.length_map]; omega), List.getElem?_map] at hx
          cases q : ras[i]? with
          | none => rw [q] at hx; cases hx
          | some ri =>
            rw [q] at hx
            obtain ⟨row, hrow, _, hro⟩ := pair_get hNB8 q
            obtain ⟨hil, rfl⟩ := List.getElem?_eq_some_iff.mp hrow
            refine ⟨ri, by rw [List.length_append]; omega, (Option.some.inj hx).symm, ?_⟩
            rw [List.getElem_append_left hil]
            exact e _ _ hro
        · rw [List.getElem?_append_right (by rw [List.length_map]; omega), List.length_map, hral, List.getElem?_map] at hx
          cases q : os[i - c]? with
          | none => rw [q] at hx; cases hx
          | some ri =>
            rw [q] at hx
            obtain ⟨row, hrow, _, hro⟩ := pair_get hNM8 q
            have hrow : (moreR rws c k z)[i - c]? = some row := hrow
            obtain ⟨hil, rfl⟩ := List.getElem?_eq_some_iff.mp hrow
            refine ⟨ri, by rw [List.length_append]; omega, (Option.some.inj hx).symm, ?_⟩
            have e3 : (rws ++ moreR rws c k z)[i]'(by rw [List.length_append]; omega) = (moreR rws c k z)[i - c] := by
              rw [List.getElem_append_right (by omega)]
              simp only [hrc]
            rw [e3]
            exact e _ _ hro
      have f1 := same_upd (o := .lst (ras.map V.ref ++ os.map V.ref)) hr
      refine ⟨r, rfl, ⟨_, SqL.of upd_same⟩, fun D hD => lc_list (K := K) (a := r) (xs := ras.map V.ref ++ os.map V.ref) (fun i H' => Same (upd H8 r (.lst (ras.map V.ref ++ os.map V.ref))) H' ∧ ∃ ws, H' D = some (.lst ws) ∧ NewEnts H8 H' D ws (((rws ++ moreR rws c k z).take i).map some)) ⟨same_upd hD, [], upd_same, NewEnts.nil⟩ (fun i H' _ ⟨e, _⟩ => SqL.of (e _ _ upd_same)) ?_ ?_⟩
      · rintro i x H10 hx ⟨e10, ws, hDl, hN⟩
        have e8x := f1.trans e10
        obtain ⟨ri, hil, rfl, hro⟩ := hAll e8x i x hx
        have hwl : ws.length ≤ 16 := by
          have := hN.len
          rw [List.length_map, List.length_take] at this
          have h2 : (rws ++ moreR rws c k z).length = c + k := by rw [List.length_append, hrc]; simp [moreR]
          omega
        refine ⟨rfl, ?_⟩
        dsimp only [tYes]
        try rw [if_pos rfl]
        refine ⟨_, rfl, ri, _, rfl, .inl (SqL.of hro), fun l2 hl2 => ?_⟩
        have g1 := same_upd (o := .lst (((rws ++ moreR rws c k z)[i]).map vg)) hl2
        have nl : l2 ≠ D := fun q => by rw [q, hDl] at hl2; cases hl2
        refine ⟨_, g1 _ _ hDl, small (by omega), same_new (e10.trans g1) hD, ws ++ [.ref l2], upd_same, ?_⟩
        rw [take_snoc hil, List.map_append]
        refine NewEnts.snoc (hN.keep fun b o q n => by rw [upd_ne n]; exact g1 _ _ q) ⟨l2, rfl, nl, e8x.free hl2, by rw [upd_ne nl, upd_same]⟩ (fun b i h q => ?_)
        cases h
        obtain ⟨xs, hxs⟩ := hN.there q
        rw [hl2] at hxs
        cases hxs
      · rintro H10 ⟨e10, ws, hDl, hN⟩
        rw [List.length_append, List.length_map, List.length_map, hral, hosl, List.take_of_length_le (by rw [List.length_append, hrc]; simp [moreR])] at hN
        exact ⟨f1.trans e10, D, ws, f1.free hD, hDl, hN, rfl⟩
    rintro σ10 H10 ⟨e10, pp, us0, hpp8, hPP, hNP, rfl⟩
    -- picks
    have hAl : (rws ++ moreR rws c k z).length = c + k := by rw [List.length_append, hrc]; simp [moreR]
    refine ⟨_, rfl, a, ns, 5, rfl, e10.seq hS8, _, rfl, _, rfl, _, rfl, _, _, rfl, rfl, cell ns 5, (g : Int), c + k, (by show [V.int (cell ns 5), V.int (g : Int), V.int ((c : Int) + (k : Int))] = _; rw [show ((c : Int) + (k : Int)) = ((c + k : Nat) : Int) by omega]), by omega, by omega, fun pk H11 ls hpk e11 hL hin hl200 hnd hlg => ?_⟩
    have hlg : ls.length = g := by have := hlg (by omega) (by omega); omega
    rw [← holes_nil] at hNP
    have hPP11 := e11 _ _ hPP
    have hNP11 := hNP.keep (H' := H11) fun b o q _ => e11 _ _ q
    have npk : pk ≠ pp := fun q => by rw [q, hPP] at hpk; cases hpk
    refine ⟨pk, rfl, ⟨_, SqL.of hL⟩, for_list (K := K) (a := pk) (xs := natV ls) (fun i σ H' => (∀ b o, H11 b = some o → b ≠ pp → H' b = some o) ∧ ∃ (us : List V) (v : Option V), H' pp = some (.lst us) ∧ NewEnts H8 H' pp us (holes (rws ++ moreR rws c k z) (ls.take i)) ∧ σ = st48 a pb pc pm pl c k z none (some (.int (g : Int))) (some (.ref pp)) v none none none) ⟨fun b o q _ => q, us0, none, hPP11, hNP11, rfl⟩ (fun i σ H' _ ⟨e, _⟩ => SqL.of (e _ _ hL npk)) ?_ ?_⟩
    · rintro i x σ H12 hx ⟨e12, us, v, hPP12, hNP12, rfl⟩
      have hi : i < ls.length := by
        have z := (List.getElem?_eq_some_iff.mp hx).1
        simp [natV] at z
        exact z
      have hx' : x = V.int (ls[i] : Nat) := by
        rw [natV, List.getElem?_map, List.getElem?_eq_getElem hi] at hx
        exact (Option.some.inj hx).symm
      subst hx'
      have hlt := hin ls[i] (List.getElem_mem hi)
      have hk16' : ls[i] < us.length := by rw [hNP12.len, holes_len, hAl]; exact hlt
      refine ⟨_, rfl, _, rfl, pp, _, _, ls[i], rfl, rfl, hPP12, ix_nat rfl hk16', ?_⟩
      have k9 : ∀ b o, H12 b = some o → b ≠ pp → upd H12 pp (.lst (us.set ls[i] .non)) b = some o := fun b o q n => by rw [upd_ne n]; exact q
      refine ⟨fun b o q n => k9 _ _ (e12 _ _ q n) n, us.set ls[i] .non, some (.int (ls[i] : Nat)), upd_same, ?_, rfl⟩
      rw [take_snoc hi, holes_snoc]
      exact (hNP12.keep k9).setN (by rw [holes_len, hAl]; exact hlt)
    rintro σ12 H12 ⟨e12, us, v15, hPP12, hNP12, rfl⟩
    rw [show (natV ls).length = ls.length by simp [natV], List.take_length] at hNP12
    have e8_12 : Same H8 H12 := fun b o q => e12 _ _ (e11 _ _ (e10 _ _ q)) fun z => by
      rw [z, hpp8] at q
      cases q
    have hwide := holes_wide (rws := rws) (ls := ls) (c := c) (k := k) (z := z) hrz
    have hfew : k < ls.length → dueE (holes (rws ++ moreR rws c k z) ls) c z = (holes (rws ++ moreR rws c k z) ls).take c := fun h => due_few hAl hnd hin h
    have hful : ls.length ≤ k → dueE (holes (rws ++ moreR rws c k z) ls) c z = rws.map some := fun h => due_full hrc hrz hk16 hnd hin h
    have hhl : (holes (rws ++ moreR rws c k z) ls).length = c + k := by rw [holes_len, hAl]
    clear hin hnd hl200 hNP hNP11 hPP hPP11 e12 e11 hL npk hpk
    generalize holes (rws ++ moreR rws c k z) ls = es at hNP12 hwide hfew hful hhl
    -- before
    refine ⟨fun σ' H' => Same H12 H' ∧ ∃ (pq : Addr) (qs : List V), H' pq = some (.lst qs) ∧ NewEnts H12 H' pq qs es ∧ σ' = st48 a pb pc pm pl c k z none (some (.int (g : Int))) (some (.ref pp)) v15 (some (.ref pq)) none none, ?_, ?_⟩
    · refine ⟨_, rfl, pp, rfl, ⟨_, SqL.of hPP12⟩, fun D hD => lc_list (K := K) (a := pp) (xs := us) (fun i H' => Same H12 H' ∧ ∃ ws, H' D = some (.lst ws) ∧ NewEnts H12 H' D ws (es.take i)) ⟨same_upd hD, [], upd_same, NewEnts.nil⟩ (fun i H' _ ⟨e, _⟩ => SqL.of (e _ _ hPP12)) ?_ ?_⟩
      · rintro i x H2 hx ⟨e2, ws, hDl, hN⟩
        have hil : i < es.length := by
          rw [← hNP12.len]
          exact (List.getElem?_eq_some_iff.mp hx).1
        have hE := hNP12.ent i x _ hx (List.getElem?_eq_getElem hil)
        have hwl : ws.length ≤ 16 := by
          have := hN.len
          rw [List.length_take] at this
          omega
        rw [take_snoc hil]
        refine ⟨rfl, ?_⟩
        dsimp only [tYes]
        try rw [if_pos rfl]
        generalize es[i] = o at hE
        cases o with
        | none =>
          obtain rfl : x = .non := hE
          refine ⟨_, rfl, rfl, _, rfl, itd (fun _ => ?_) (fun h => absurd rfl h)⟩
          refine ⟨_, hDl, small (by omega), same_new e2 hD, ws ++ [.non], upd_same, ?_⟩
          exact NewEnts.snoc (hN.keep fun b o q n => by rw [upd_ne n]; exact q) rfl (fun a i h => by cases h)
        | some l =>
          obtain ⟨b, rfl, _, _, hA⟩ := hE
          refine ⟨_, rfl, rfl, _, rfl, itd (fun h => by cases h) (fun _ => ?_)⟩
          refine ⟨_, rfl, b, _, rfl, .inl (SqL.of (e2 _ _ hA)), fun l2 hl2 => ?_⟩
          have g1 := same_upd (o := .lst (l.map vg)) hl2
          have nl : l2 ≠ D := fun z => by rw [z, hDl] at hl2; cases hl2
          refine ⟨_, g1 _ _ hDl, small (by omega), same_new (e2.trans g1) hD, ws ++ [.ref l2], upd_same, ?_⟩
          refine NewEnts.snoc (hN.keep fun b o q n => by rw [upd_ne n]; exact g1 _ _ q) ⟨l2, rfl, nl, e2.free hl2, by rw [upd_ne nl, upd_same]⟩ (fun a i h q => ?_)
          cases h
          obtain ⟨xs, hxs⟩ := hN.there q
          rw [hl2] at hxs
          cases hxs
      · rintro H2 ⟨e2, ws, hDl, hN⟩
        rw [hNP12.len, List.take_length] at hN
        exact ⟨e2, D, ws, hDl, hN, rfl⟩
    rintro σ13 H13 ⟨e13, pq, qs, hPQ, hNQ, rfl⟩
    have hPP13 := e13 _ _ hPP12
    have hNP13 := hNP12.keep (H' := H13) fun b o q _ => e13 _ _ q
    -- actual
    refine ⟨_, rfl, _, rfl, pp, us, es, (c : Int), z, rfl, SqL.of hPP13, hNP13.ents, hwide, by omega, fun hn => absurd ⟨by omega, by omega, by omega⟩ hn, fun c' hc' _ _ _ pa H14 ws hpa e14 hPA hNA => ?_⟩
    obtain rfl : c = c' := by omega
    have oP := hNP13.off e14 hNA
    have oQ := hNQ.off e14 hNA
    have hPP14 := e14 _ _ hPP13
    have hPQ14 := e14 _ _ hPQ
    have nP : ∀ j : Nat, ws[j]? ≠ some (.ref pp) := fun j q => by
      have h := (hNA.new q).2.1
      rw [hPP13] at h
      cases h
    have nQ : ∀ j : Nat, ws[j]? ≠ some (.ref pq) := fun j q => by
      have h := (hNA.new q).2.1
      rw [hPQ] at h
      cases h
    have nA : ∀ j : Nat, ws[j]? ≠ some (.ref pa) := fun j q => (hNA.new q).1 rfl
    -- due
    have hPB14 := e14 _ _ (e13 _ _ (e8_12 _ _ hPB8))
    have hNB14 : NewRows H14 pb ras rws := L2.Paired.mapP hNB8 fun _ _ h => ⟨h.1, e14 _ _ (e13 _ _ (e8_12 _ _ h.2))⟩
    have hdw : ∀ l, some l ∈ dueE es c z → l.length = z := fun l h => by
      by_cases q : k < ls.length
      · rw [hfew q] at h
        exact hwide l (List.mem_of_mem_take h)
      · rw [hful (by omega)] at h
        obtain ⟨row, h1, h2⟩ := List.mem_map.mp h
        exact hrz l (Option.some.inj h2 ▸ h1)
    have hwl : ws.length ≤ 16 := by
      have h1 := hNA.len
      by_cases q : k < ls.length
      · rw [hfew q, List.length_take] at h1
        omega
      · rw [hful (by omega), List.length_map] at h1
        omega
    refine ⟨fun σ' H' => Same H14 H' ∧ ∃ (pd : Addr) (ds : List V), H14 pd = none ∧ H' pd = some (.lst ds) ∧ NewEnts H14 H' pd ds (rws.map some) ∧ σ' = st48 a pb pc pm pl c k z none (some (.int (g : Int))) (some (.ref pp)) v15 (some (.ref pq)) (some (.ref pa)) (some (.ref pd)), ?_, ?_⟩
    · refine ⟨_, rfl, pb, rfl, ⟨_, SqL.of hPB14⟩, fun D hD => lc_list (K := K) (a := pb) (xs := ras.map V.ref) (fun i H' => Same H14 H' ∧ ∃ ds, H' D = some (.lst ds) ∧ NewEnts H14 H' D ds ((rws.take i).map some)) ⟨same_upd hD, [], upd_same, NewEnts.nil⟩ (fun i H' _ ⟨e, _⟩ => SqL.of (e _ _ hPB14)) ?_ ?_⟩
      · rintro i x H2 hx ⟨e2, ds, hDl, hN⟩
        obtain ⟨ri, hri, rfl⟩ : ∃ ri, ras[i]? = some ri ∧ x = V.ref ri := by
          rw [List.getElem?_map] at hx
          cases q : ras[i]? with
          | none => rw [q] at hx; cases hx
          | some rk => rw [q] at hx; exact ⟨rk, rfl, (Option.some.inj hx).symm⟩
        obtain ⟨row, hrow, _, hro⟩ := pair_get hNB14 hri
        obtain ⟨hi, rfl⟩ := List.getElem?_eq_some_iff.mp hrow
        have hdl : ds.length ≤ 16 := by
          have := hN.len
          rw [List.length_map, List.length_take] at this
          omega
        refine ⟨rfl, ?_⟩
        dsimp only [tYes]
        try rw [if_pos rfl]
        refine ⟨_, rfl, ri, _, rfl, .inl (SqL.of (e2 _ _ hro)), fun l2 hl2 => ?_⟩
        have g1 := same_upd (o := .lst (rws[i].map vg)) hl2
        have nl : l2 ≠ D := fun q => by rw [q, hDl] at hl2; cases hl2
        refine ⟨_, g1 _ _ hDl, small (by omega), same_new (e2.trans g1) hD, ds ++ [.ref l2], upd_same, ?_⟩
        rw [take_snoc hi, List.map_append]
        refine NewEnts.snoc (hN.keep fun b o q n => by rw [upd_ne n]; exact g1 _ _ q) ⟨l2, rfl, nl, e2.free hl2, by rw [upd_ne nl, upd_same]⟩ (fun b i h q => ?_)
        cases h
        obtain ⟨xs, hxs⟩ := hN.there q
        rw [hl2] at hxs
        cases hxs
      · rintro H2 ⟨e2, ds, hDl, hN⟩
        rw [List.length_map, hral, ← hrc, List.take_length] at hN
        exact ⟨e2, D, ds, hD, hDl, hN, rfl⟩
    rintro σ15 H15 ⟨e15, pd0, ds0, hpd0, hPD0, hND0, rfl⟩
    have there : ∀ {b : Addr}, (∃ j : Nat, ws[j]? = some (.ref b)) → ∃ l : List G, H14 b = some (.lst (l.map vg)) := fun {b} ⟨j, q⟩ => by
      obtain ⟨_, _, l, _, h⟩ := hNA.new q
      exact ⟨l, h⟩
    refine ⟨fun σ' H' => Same H14 H' ∧ ∃ (pd : Addr) (ds : List V), (∀ j : Nat, ws[j]? ≠ some (.ref pd)) ∧ H' pd = some (.lst ds) ∧ Off H' ws ds (dueE es c z) ∧ σ' = st48 a pb pc pm pl c k z none (some (.int (g : Int))) (some (.ref pp)) v15 (some (.ref pq)) (some (.ref pa)) (some (.ref pd)), ?_, ?_⟩
    · refine ⟨_, rfl, _, rfl, _, _, rfl, rfl, _, rfl, itd (fun h => ?_) (fun h => ?_)⟩
      · refine ⟨_, rfl, _, rfl, _, rfl, pq, _, rfl, SqL.of (e15 _ _ hPQ14), fun r hr => ?_⟩
        rw [cut_toG]
        have f1 := same_upd (o := .lst (qs.take c)) hr
        refine ⟨e15.trans f1, r, qs.take c, fun j q => ?_, upd_same, ?_, rfl⟩
        · obtain ⟨l, h2⟩ := there ⟨j, q⟩
          rw [e15 _ _ h2] at hr
          cases hr
        · rw [hfew (by omega)]
          exact (oQ.same (e15.trans f1)).take c
      · refine ⟨e15, pd0, ds0, fun j q => ?_, hPD0, ?_, rfl⟩
        · obtain ⟨l, h2⟩ := there ⟨j, q⟩
          rw [hpd0] at h2
          cases h2
        · rw [hful (by omega)]
          exact hNA.off2 hND0
    clear hND0 hPD0 hpd0 e15
    rintro σ16 H16 ⟨e16, pd, ds, nD, hPD, oD, rfl⟩
    have oP16 := oP.same e16
    have oQ16 := oQ.same e16
    have hPA16 := e16 _ _ hPA
    have hNA16 := hNA.keep (H' := H16) fun b o q _ => e16 _ _ q
    have hPP16 := e16 _ _ hPP14
    have hPQ16 := e16 _ _ hPQ14
    -- the comparison
    refine ⟨_, rfl, _, _, _, _, true, rfl, .ty _, tyx_list (SqL.of hPA16), kit_ty (by decide +kernel), true, rfl, iteF ?_⟩
    refine ⟨_, rfl, _, rfl, _, _, dp_ents (SqL.of hPA16) hNA16.ents, dp_ents (SqL.of hPD) oD.ents, shaped_ents _, shaped_ents _, ne_noG (eqv_refl' (shaped_ents _)) ?_⟩
    refine ⟨_, rfl, _, rfl, _, _, dp_ents (SqL.of hPP16) oP16.ents, dp_ents (SqL.of hPQ16) oQ16.ents, shaped_ents _, shaped_ents _, ne_noG (eqv_refl' (shaped_ents _)) ?_⟩
    -- the appends
    refine ⟨_, rfl, pa, rfl, ⟨_, SqL.of hPA16⟩, for_list (K := K) (a := pa) (xs := ws) (fun i σ H' => (∀ b o, H16 b = some o → (∀ j : Nat, ws[j]? ≠ some (.ref b)) → H' b = some o) ∧ (∀ (j : Nat) (b : Addr), i ≤ j → ws[j]? = some (.ref b) → ∃ l, H' b = some (.lst l) ∧ l.length ≤ 20) ∧ ∃ v8 : Option V, σ = st48 a pb pc pm pl c k z v8 (some (.int (g : Int))) (some (.ref pp)) v15 (some (.ref pq)) (some (.ref pa)) (some (.ref pd))) ⟨fun b o q _ => q, fun j b _ q => ?_, none, rfl⟩ (fun i σ H' _ ⟨e, _⟩ => SqL.of (e _ _ hPA16 nA)) ?_ ?_⟩
    · obtain ⟨_, _, l, h1, h2⟩ := hNA16.new q
      refine ⟨_, h2, ?_⟩
      rw [List.length_map, hdw l (List.mem_of_getElem? h1)]
      exact hz20
    · rintro i x σ H17 hx ⟨e17, hl17, v8, rfl⟩
      have hil : i < (dueE es c z).length := by
        rw [← hNA.len]
        exact (List.getElem?_eq_some_iff.mp hx).1
      have hE := hNA.ent i x _ hx (List.getElem?_eq_getElem hil)
      generalize (dueE es c z)[i] = o at hE
      cases o with
      | none =>
        obtain rfl : x = .non := hE
        exact ⟨_, rfl, rfl, _, rfl, itnV (fun h => absurd rfl h) (fun _ => ⟨e17, fun j b hj q => hl17 j b (by omega) q, _, rfl⟩)⟩
      | some l =>
        obtain ⟨b, rfl, _, _, _⟩ := hE
        obtain ⟨xs, hxs, hxl⟩ := hl17 i b (Nat.le_refl _) hx
        refine ⟨_, rfl, rfl, _, rfl, itnV (fun _ => ?_) (fun h => by cases h)⟩
        refine ⟨_, rfl, .inl ⟨rfl, _, SqL.of hxs⟩, b, _, _, rfl, rfl, hxs, small (by omega), ?_⟩
        refine ⟨fun b' o q n => ?_, fun j b' hj q => ?_, _, rfl⟩
        · have nb : b' ≠ b := fun z => n i (by rw [z]; exact hx)
          rw [upd_ne nb]
          exact e17 _ _ q n
        · have nb : b' ≠ b := fun z => by
            have := hNA.inj i j b hx (by rw [← z]; exact q)
            omega
          rw [upd_ne nb]
          exact hl17 j b' (by omega) q
    rintro σ17 H17 ⟨e17, _, v8, rfl⟩
    have oP17 := oP16.keep e17
    have oQ17 := oQ16.keep e17
    have oD17 := oD.keep e17
    have hPP17 := e17 _ _ hPP16 nP
    have hPQ17 := e17 _ _ hPQ16 nQ
    have hPD17 := e17 _ _ hPD nD
    refine ⟨_, rfl, _, rfl, _, _, dp_ents (SqL.of hPP17) oP17.ents, dp_ents (SqL.of hPQ17) oQ17.ents, shaped_ents _, shaped_ents _, _, rfl, ?_⟩
    rw [eqv_refl' (shaped_ents _)]
    refine iteT ?_
    refine ⟨_, rfl, _, rfl, pp, us, es, (c : Int), z, rfl, SqL.of hPP17, oP17.ents, hwide, by omega, fun hn => absurd ⟨by omega, by omega, by omega⟩ hn, fun c' hc' _ _ _ p3 H18 ws3 hp3 e18 hP3 hN3 => ?_⟩
    obtain rfl : c = c' := by omega
    refine ⟨_, rfl, _, _, dp_ents (SqL.of hP3) hN3.ents, dp_ents (SqL.of (e18 _ _ hPD17)) (oD17.same e18).ents, shaped_ents _, shaped_ents _, ?_⟩
    exact to_true (Q := Q) (eqv_refl' (shaped_ents _)) (kQ _)

end
def names : List Str := ["check_bodies"]
theorem law_mk {P : Program} {w : World} {K : PySem.W.Frag} {mg : Str → Option Value} {C_ArchiveError C_InvalidSymbol c_check_bodies P_check_bodies : Addr} {C_fa : Addr} (T : Txt K mg C_ArchiveError C_InvalidSymbol c_check_bodies P_check_bodies) (hfa : mg "law" = some (.ref C_fa)) (tb_check_bodies : PySem.W.tabIn K "check_bodies" = some (c_check_bodies, P_check_bodies)) : ∃ (fd : FuncData) (cs : List (Str × Addr × Addr)), (∀ t ∈ cs, t.1 ∈ names ∧ PySem.W.tabIn K t.1 = some t.2) ∧ (∀ (s : Shared) (v : Value), BindsTo s fd ⟨[v], []⟩ [("script", v)]) ∧ ∀ base : Heap, K.In base → base.Ns mainGlobals mg → (∀ t ∈ cs, LamX.TabB base mg t.2.1 t.2.2) → FnOk P w K mg base CX0 8 C_fa fd ["script"] (GX.spLawT K (cs.map (·.2.2))) := by
  obtain ⟨f, fd, F, g, b⟩ := id T.d_law
  have e := hfa.symm.trans g
  cases e
  refine ⟨fd, [("check_bodies", c_check_bodies, P_check_bodies)], fun t ht => ?_, fun s v => ?_, fun base _ _ hT => ?_⟩
  · simp only [List.mem_cons, List.not_mem_nil, or_false] at ht
    subst ht
    exact ⟨.head _, tb_check_bodies⟩
  · obtain ⟨oc, od, kV, doc, pm, an, cdv, ct, osl, rfl, lk, hcd⟩ := F.ex
    exact .of_eq rfl
  · haveI : Tbs base mg c_check_bodies P_check_bodies := ⟨GX.tb_of (hT ("check_bodies", c_check_bodies, P_check_bodies) (by simp))⟩
    exact ok_law0 T _ fd F
theorem law_end {P : Program} {w : World} {K : PySem.W.Frag} {h : Heap} {mg : Str → Option Value} {C_fa : Addr} {C_ArchiveError C_InvalidSymbol c_check_bodies P_check_bodies : Addr} {f_is_symbol : Addr} {oc_is_symbol kV_is_symbol dc_is_symbol pm_is_symbol cd_is_symbol ct_is_symbol : Value} {od_is_symbol an_is_symbol : Option Addr} {sl_is_symbol : Array (Option Value)} {f_multiply : Addr} {oc_multiply kV_multiply dc_multiply pm_multiply cd_multiply ct_multiply : Value} {od_multiply an_multiply : Option Addr} {sl_multiply : Array (Option Value)} {f_inverse : Addr} {oc_inverse kV_inverse dc_inverse pm_inverse cd_inverse ct_inverse : Value} {od_inverse an_inverse : Option Addr} {sl_inverse : Array (Option Value)} {f_plus_scaled : Addr} {oc_plus_scaled kV_plus_scaled dc_plus_scaled pm_plus_scaled cd_plus_scaled ct_plus_scaled : Value} {od_plus_scaled an_plus_scaled : Option Addr} {sl_plus_scaled : Array (Option Value)} {f__check_symbol : Addr} {oc__check_symbol kV__check_symbol dc__check_symbol pm__check_symbol cd__check_symbol ct__check_symbol : Value} {od__check_symbol an__check_symbol : Option Addr} {sl__check_symbol : Array (Option Value)} {f_extended : Addr} {oc_extended kV_extended dc_extended pm_extended cd_extended ct_extended : Value} {od_extended an_extended : Option Addr} {sl_extended : Array (Option Value)} {f__weight : Addr} {oc__weight kV__weight dc__weight pm__weight cd__weight ct__weight : Value} {od__weight an__weight : Option Addr} {sl__weight : Array (Option Value)} {f_check_bodies : Addr} {oc_check_bodies kV_check_bodies dc_check_bodies pm_check_bodies ct_check_bodies : Value} {od_check_bodies an_check_bodies : Option Addr} {sl_check_bodies : Array (Option Value)} {f_complete : Addr} {oc_complete kV_complete dc_complete pm_complete cd_complete ct_complete : Value} {od_complete an_complete : Option Addr} {sl_complete : Array (Option Value)} {f__law_cell : Addr} {oc__law_cell kV__law_cell dc__law_cell pm__law_cell cd__law_cell ct__law_cell : Value} {od__law_cell an__law_cell : Option Addr} {sl__law_cell : Array (Option Value)} {f__law_mix : Addr} {oc__law_mix kV__law_mix dc__law_mix pm__law_mix cd__law_mix ct__law_mix : Value} {od__law_mix an__law_mix : Option Addr} {sl__law_mix : Array (Option Value)} {f__law_row : Addr} {oc__law_row kV__law_row dc__law_row pm__law_row cd__law_row ct__law_row : Value} {od__law_row an__law_row : Option Addr} {sl__law_row : Array (Option Value)} {f__law_times : Addr} {oc__law_times kV__law_times dc__law_times pm__law_times cd__law_times ct__law_times : Value} {od__law_times an__law_times : Option Addr} {sl__law_times : Array (Option Value)} {f__law_inverse : Addr} {oc__law_inverse kV__law_inverse dc__law_inverse pm__law_inverse cd__law_inverse ct__law_inverse : Value} {od__law_inverse an__law_inverse : Option Addr} {sl__law_inverse : Array (Option Value)} {f__law_at : Addr} {oc__law_at kV__law_at dc__law_at pm__law_at cd__law_at ct__law_at : Value} {od__law_at an__law_at : Option Addr} {sl__law_at : Array (Option Value)} {f__law_codeword : Addr} {oc__law_codeword kV__law_codeword dc__law_codeword pm__law_codeword cd__law_codeword ct__law_codeword : Value} {od__law_codeword an__law_codeword : Option Addr} {sl__law_codeword : Array (Option Value)} {f__law_picks : Addr} {oc__law_picks kV__law_picks dc__law_picks pm__law_picks cd__law_picks ct__law_picks : Value} {od__law_picks an__law_picks : Option Addr} {sl__law_picks : Array (Option Value)} {f__law_refused : Addr} {oc__law_refused kV__law_refused dc__law_refused pm__law_refused cd__law_refused ct__law_refused : Value} {od__law_refused an__law_refused : Option Addr} {sl__law_refused : Array (Option Value)} {f_law : Addr} {oc_law kV_law dc_law pm_law cd_law ct_law : Value} {od_law an_law : Option Addr} {sl_law : Array (Option Value)} {t_SYMBOLS : Tok} {p_PRODUCTS : Addr} {od_PRODUCTS : Option Addr} {sl_PRODUCTS : Array (Option Value)} {n_PRODUCTS : Nat} {its_PRODUCTS : Array Value} {r0_PRODUCTS : Addr} {rz0_PRODUCTS : Array (Option Value)} {rn0_PRODUCTS : Nat} {ri0_PRODUCTS : Array Value} {r1_PRODUCTS : Addr} {rz1_PRODUCTS : Array (Option Value)} {rn1_PRODUCTS : Nat} {ri1_PRODUCTS : Array Value} {r2_PRODUCTS : Addr} {rz2_PRODUCTS : Array (Option Value)} {rn2_PRODUCTS : Nat} {ri2_PRODUCTS : Array Value} {r3_PRODUCTS : Addr} {rz3_PRODUCTS : Array (Option Value)} {rn3_PRODUCTS : Nat} {ri3_PRODUCTS : Array Value} {r4_PRODUCTS : Addr} {rz4_PRODUCTS : Array (Option Value)} {rn4_PRODUCTS : Nat} {ri4_PRODUCTS : Array Value} {r5_PRODUCTS : Addr} {rz5_PRODUCTS : Array (Option Value)} {rn5_PRODUCTS : Nat} {ri5_PRODUCTS : Array Value} {r6_PRODUCTS : Addr} {rz6_PRODUCTS : Array (Option Value)} {rn6_PRODUCTS : Nat} {ri6_PRODUCTS : Array Value} {r7_PRODUCTS : Addr} {rz7_PRODUCTS : Array (Option Value)} {rn7_PRODUCTS : Nat} {ri7_PRODUCTS : Array Value} {r8_PRODUCTS : Addr} {rz8_PRODUCTS : Array (Option Value)} {rn8_PRODUCTS : Nat} {ri8_PRODUCTS : Array Value} {r9_PRODUCTS : Addr} {rz9_PRODUCTS : Array (Option Value)} {rn9_PRODUCTS : Nat} {ri9_PRODUCTS : Array Value} {r10_PRODUCTS : Addr} {rz10_PRODUCTS : Array (Option Value)} {rn10_PRODUCTS : Nat} {ri10_PRODUCTS : Array Value} {r11_PRODUCTS : Addr} {rz11_PRODUCTS : Array (Option Value)} {rn11_PRODUCTS : Nat} {ri11_PRODUCTS : Array Value} {r12_PRODUCTS : Addr} {rz12_PRODUCTS : Array (Option Value)} {rn12_PRODUCTS : Nat} {ri12_PRODUCTS : Array Value} {r13_PRODUCTS : Addr} {rz13_PRODUCTS : Array (Option Value)} {rn13_PRODUCTS : Nat} {ri13_PRODUCTS : Array Value} {r14_PRODUCTS : Addr} {rz14_PRODUCTS : Array (Option Value)} {rn14_PRODUCTS : Nat} {ri14_PRODUCTS : Array Value} {r15_PRODUCTS : Addr} {rz15_PRODUCTS : Array (Option Value)} {rn15_PRODUCTS : Nat} {ri15_PRODUCTS : Array Value} {t_LONGEST : Tok} {cc_check_bodies : Value} {ce_check_bodies : Option Addr} {cf_check_bodies : Array Value} {cg_check_bodies : Array (Option Value)} (X : K.In h) (G : h.Ns mainGlobals mg) (hfa : mg "law" = some (.ref C_fa))
    (a_is_symbol : PySem.W.nsIn K mainGlobals "is_symbol" = some (some (.ref f_is_symbol)))
    (l_is_symbol : K.lookup f_is_symbol = some ⟨oc_is_symbol, od_is_symbol, .func (PySem.W.fnOf "is_symbol" "is_symbol" (defArgs s_is_symbol) (defBody s_is_symbol) (defScope s_is_symbol) .none kV_is_symbol dc_is_symbol pm_is_symbol an_is_symbol cd_is_symbol ct_is_symbol), sl_is_symbol⟩)
    (c_is_symbol : PySem.W.codeIn K cd_is_symbol "is_symbol" = true)
    (k_is_symbol : PySem.W.keepIn K (.ref f_is_symbol) = true)
    (a_multiply : PySem.W.nsIn K mainGlobals "multiply" = some (some (.ref f_multiply)))
    (l_multiply : K.lookup f_multiply = some ⟨oc_multiply, od_multiply, .func (PySem.W.fnOf "multiply" "multiply" (defArgs s_multiply) (defBody s_multiply) (defScope s_multiply) .none kV_multiply dc_multiply pm_multiply an_multiply cd_multiply ct_multiply), sl_multiply⟩)
    (c_multiply : PySem.W.codeIn K cd_multiply "multiply" = true)
    (k_multiply : PySem.W.keepIn K (.ref f_multiply) = true)
    (a_inverse : PySem.W.nsIn K mainGlobals "inverse" = some (some (.ref f_inverse)))
    (l_inverse : K.lookup f_inverse = some ⟨oc_inverse, od_inverse, .func (PySem.W.fnOf "inverse" "inverse" (defArgs s_inverse) (defBody s_inverse) (defScope s_inverse) .none kV_inverse dc_inverse pm_inverse an_inverse cd_inverse ct_inverse), sl_inverse⟩)
    (c_inverse : PySem.W.codeIn K cd_inverse "inverse" = true)
    (k_inverse : PySem.W.keepIn K (.ref f_inverse) = true)
    (a_plus_scaled : PySem.W.nsIn K mainGlobals "plus_scaled" = some (some (.ref f_plus_scaled)))
    (l_plus_scaled : K.lookup f_plus_scaled = some ⟨oc_plus_scaled, od_plus_scaled, .func (PySem.W.fnOf "plus_scaled" "plus_scaled" (defArgs s_plus_scaled) (defBody s_plus_scaled) (defScope s_plus_scaled) .none kV_plus_scaled dc_plus_scaled pm_plus_scaled an_plus_scaled cd_plus_scaled ct_plus_scaled), sl_plus_scaled⟩)
    (c_plus_scaled : PySem.W.codeIn K cd_plus_scaled "plus_scaled" = true)
    (k_plus_scaled : PySem.W.keepIn K (.ref f_plus_scaled) = true)
    (a__check_symbol : PySem.W.nsIn K mainGlobals "_check_symbol" = some (some (.ref f__check_symbol)))
    (l__check_symbol : K.lookup f__check_symbol = some ⟨oc__check_symbol, od__check_symbol, .func (PySem.W.fnOf "_check_symbol" "_check_symbol" (defArgs s__check_symbol) (defBody s__check_symbol) (defScope s__check_symbol) .none kV__check_symbol dc__check_symbol pm__check_symbol an__check_symbol cd__check_symbol ct__check_symbol), sl__check_symbol⟩)
    (c__check_symbol : PySem.W.codeIn K cd__check_symbol "_check_symbol" = true)
    (k__check_symbol : PySem.W.keepIn K (.ref f__check_symbol) = true)
    (a_extended : PySem.W.nsIn K mainGlobals "extended" = some (some (.ref f_extended)))
    (l_extended : K.lookup f_extended = some ⟨oc_extended, od_extended, .func (PySem.W.fnOf "extended" "extended" (defArgs s_extended) (defBody s_extended) (defScope s_extended) .none kV_extended dc_extended pm_extended an_extended cd_extended ct_extended), sl_extended⟩)
    (c_extended : PySem.W.codeIn K cd_extended "extended" = true)
    (k_extended : PySem.W.keepIn K (.ref f_extended) = true)
    (a__weight : PySem.W.nsIn K mainGlobals "_weight" = some (some (.ref f__weight)))
    (l__weight : K.lookup f__weight = some ⟨oc__weight, od__weight, .func (PySem.W.fnOf "_weight" "_weight" (defArgs s__weight) (defBody s__weight) (defScope s__weight) .none kV__weight dc__weight pm__weight an__weight cd__weight ct__weight), sl__weight⟩)
    (c__weight : PySem.W.codeIn K cd__weight "_weight" = true)
    (k__weight : PySem.W.keepIn K (.ref f__weight) = true)
    (a_check_bodies : PySem.W.nsIn K mainGlobals "check_bodies" = some (some (.ref f_check_bodies)))
    (l_check_bodies : K.lookup f_check_bodies = some ⟨oc_check_bodies, od_check_bodies, .func (PySem.W.fnOf "check_bodies" "check_bodies" (defArgs s_check_bodies) (defBody s_check_bodies) (defScope s_check_bodies) .none kV_check_bodies dc_check_bodies pm_check_bodies an_check_bodies (.ref c_check_bodies) ct_check_bodies), sl_check_bodies⟩)
    (e_check_bodies : PySem.W.codeIn K (.ref c_check_bodies) "check_bodies" = true)
    (k_check_bodies : PySem.W.keepIn K (.ref f_check_bodies) = true)
    (a_complete : PySem.W.nsIn K mainGlobals "complete" = some (some (.ref f_complete)))
    (l_complete : K.lookup f_complete = some ⟨oc_complete, od_complete, .func (PySem.W.fnOf "complete" "complete" (defArgs s_complete) (defBody s_complete) (defScope s_complete) .none kV_complete dc_complete pm_complete an_complete cd_complete ct_complete), sl_complete⟩)
    (c_complete : PySem.W.codeIn K cd_complete "complete" = true)
    (k_complete : PySem.W.keepIn K (.ref f_complete) = true)
    (a__law_cell : PySem.W.nsIn K mainGlobals "_law_cell" = some (some (.ref f__law_cell)))
    (l__law_cell : K.lookup f__law_cell = some ⟨oc__law_cell, od__law_cell, .func (PySem.W.fnOf "_law_cell" "_law_cell" (defArgs s__law_cell) (defBody s__law_cell) (defScope s__law_cell) .none kV__law_cell dc__law_cell pm__law_cell an__law_cell cd__law_cell ct__law_cell), sl__law_cell⟩)
    (c__law_cell : PySem.W.codeIn K cd__law_cell "_law_cell" = true)
    (k__law_cell : PySem.W.keepIn K (.ref f__law_cell) = true)
    (a__law_mix : PySem.W.nsIn K mainGlobals "_law_mix" = some (some (.ref f__law_mix)))
    (l__law_mix : K.lookup f__law_mix = some ⟨oc__law_mix, od__law_mix, .func (PySem.W.fnOf "_law_mix" "_law_mix" (defArgs s__law_mix) (defBody s__law_mix) (defScope s__law_mix) .none kV__law_mix dc__law_mix pm__law_mix an__law_mix cd__law_mix ct__law_mix), sl__law_mix⟩)
    (c__law_mix : PySem.W.codeIn K cd__law_mix "_law_mix" = true)
    (k__law_mix : PySem.W.keepIn K (.ref f__law_mix) = true)
    (a__law_row : PySem.W.nsIn K mainGlobals "_law_row" = some (some (.ref f__law_row)))
    (l__law_row : K.lookup f__law_row = some ⟨oc__law_row, od__law_row, .func (PySem.W.fnOf "_law_row" "_law_row" (defArgs s__law_row) (defBody s__law_row) (defScope s__law_row) .none kV__law_row dc__law_row pm__law_row an__law_row cd__law_row ct__law_row), sl__law_row⟩)
    (c__law_row : PySem.W.codeIn K cd__law_row "_law_row" = true)
    (k__law_row : PySem.W.keepIn K (.ref f__law_row) = true)
    (a__law_times : PySem.W.nsIn K mainGlobals "_law_times" = some (some (.ref f__law_times)))
    (l__law_times : K.lookup f__law_times = some ⟨oc__law_times, od__law_times, .func (PySem.W.fnOf "_law_times" "_law_times" (defArgs s__law_times) (defBody s__law_times) (defScope s__law_times) .none kV__law_times dc__law_times pm__law_times an__law_times cd__law_times ct__law_times), sl__law_times⟩)
    (c__law_times : PySem.W.codeIn K cd__law_times "_law_times" = true)
    (k__law_times : PySem.W.keepIn K (.ref f__law_times) = true)
    (a__law_inverse : PySem.W.nsIn K mainGlobals "_law_inverse" = some (some (.ref f__law_inverse)))
    (l__law_inverse : K.lookup f__law_inverse = some ⟨oc__law_inverse, od__law_inverse, .func (PySem.W.fnOf "_law_inverse" "_law_inverse" (defArgs s__law_inverse) (defBody s__law_inverse) (defScope s__law_inverse) .none kV__law_inverse dc__law_inverse pm__law_inverse an__law_inverse cd__law_inverse ct__law_inverse), sl__law_inverse⟩)
    (c__law_inverse : PySem.W.codeIn K cd__law_inverse "_law_inverse" = true)
    (k__law_inverse : PySem.W.keepIn K (.ref f__law_inverse) = true)
    (a__law_at : PySem.W.nsIn K mainGlobals "_law_at" = some (some (.ref f__law_at)))
    (l__law_at : K.lookup f__law_at = some ⟨oc__law_at, od__law_at, .func (PySem.W.fnOf "_law_at" "_law_at" (defArgs s__law_at) (defBody s__law_at) (defScope s__law_at) .none kV__law_at dc__law_at pm__law_at an__law_at cd__law_at ct__law_at), sl__law_at⟩)
    (c__law_at : PySem.W.codeIn K cd__law_at "_law_at" = true)
    (k__law_at : PySem.W.keepIn K (.ref f__law_at) = true)
    (a__law_codeword : PySem.W.nsIn K mainGlobals "_law_codeword" = some (some (.ref f__law_codeword)))
    (l__law_codeword : K.lookup f__law_codeword = some ⟨oc__law_codeword, od__law_codeword, .func (PySem.W.fnOf "_law_codeword" "_law_codeword" (defArgs s__law_codeword) (defBody s__law_codeword) (defScope s__law_codeword) .none kV__law_codeword dc__law_codeword pm__law_codeword an__law_codeword cd__law_codeword ct__law_codeword), sl__law_codeword⟩)
    (c__law_codeword : PySem.W.codeIn K cd__law_codeword "_law_codeword" = true)
    (k__law_codeword : PySem.W.keepIn K (.ref f__law_codeword) = true)
    (a__law_picks : PySem.W.nsIn K mainGlobals "_law_picks" = some (some (.ref f__law_picks)))
    (l__law_picks : K.lookup f__law_picks = some ⟨oc__law_picks, od__law_picks, .func (PySem.W.fnOf "_law_picks" "_law_picks" (defArgs s__law_picks) (defBody s__law_picks) (defScope s__law_picks) .none kV__law_picks dc__law_picks pm__law_picks an__law_picks cd__law_picks ct__law_picks), sl__law_picks⟩)
    (c__law_picks : PySem.W.codeIn K cd__law_picks "_law_picks" = true)
    (k__law_picks : PySem.W.keepIn K (.ref f__law_picks) = true)
    (a__law_refused : PySem.W.nsIn K mainGlobals "_law_refused" = some (some (.ref f__law_refused)))
    (l__law_refused : K.lookup f__law_refused = some ⟨oc__law_refused, od__law_refused, .func (PySem.W.fnOf "_law_refused" "_law_refused" (defArgs s__law_refused) (defBody s__law_refused) (defScope s__law_refused) .none kV__law_refused dc__law_refused pm__law_refused an__law_refused cd__law_refused ct__law_refused), sl__law_refused⟩)
    (c__law_refused : PySem.W.codeIn K cd__law_refused "_law_refused" = true)
    (k__law_refused : PySem.W.keepIn K (.ref f__law_refused) = true)
    (a_law : PySem.W.nsIn K mainGlobals "law" = some (some (.ref f_law)))
    (l_law : K.lookup f_law = some ⟨oc_law, od_law, .func (PySem.W.fnOf "law" "law" (defArgs s_law) (defBody s_law) (defScope s_law) .none kV_law dc_law pm_law an_law cd_law ct_law), sl_law⟩)
    (c_law : PySem.W.codeIn K cd_law "law" = true)
    (k_law : PySem.W.keepIn K (.ref f_law) = true)
    (a_SYMBOLS : PySem.W.nsIn K mainGlobals "SYMBOLS" = some (some (.int 16 t_SYMBOLS)))
    (a_PRODUCTS : PySem.W.nsIn K mainGlobals "PRODUCTS" = some (some (.ref p_PRODUCTS)))
    (l_PRODUCTS : K.lookup p_PRODUCTS = some ⟨.type "tuple", od_PRODUCTS, .seq its_PRODUCTS n_PRODUCTS, sl_PRODUCTS⟩)
    (e_PRODUCTS : its_PRODUCTS.toList = [Value.ref r0_PRODUCTS, Value.ref r1_PRODUCTS, Value.ref r2_PRODUCTS, Value.ref r3_PRODUCTS, Value.ref r4_PRODUCTS, Value.ref r5_PRODUCTS, Value.ref r6_PRODUCTS, Value.ref r7_PRODUCTS, Value.ref r8_PRODUCTS, Value.ref r9_PRODUCTS, Value.ref r10_PRODUCTS, Value.ref r11_PRODUCTS, Value.ref r12_PRODUCTS, Value.ref r13_PRODUCTS, Value.ref r14_PRODUCTS, Value.ref r15_PRODUCTS])
    (rl0_PRODUCTS : K.lookup r0_PRODUCTS = some ⟨.type "tuple", none, .seq ri0_PRODUCTS rn0_PRODUCTS, rz0_PRODUCTS⟩)
    (rv0_PRODUCTS : Vals [V.int 0, V.int 0, V.int 0, V.int 0, V.int 0, V.int 0, V.int 0, V.int 0, V.int 0, V.int 0, V.int 0, V.int 0, V.int 0, V.int 0, V.int 0, V.int 0] ri0_PRODUCTS.toList)
    (rl1_PRODUCTS : K.lookup r1_PRODUCTS = some ⟨.type "tuple", none, .seq ri1_PRODUCTS rn1_PRODUCTS, rz1_PRODUCTS⟩)
    (rv1_PRODUCTS : Vals [V.int 0, V.int 1, V.int 2, V.int 3, V.int 4, V.int 5, V.int 6, V.int 7, V.int 8, V.int 9, V.int 10, V.int 11, V.int 12, V.int 13, V.int 14, V.int 15] ri1_PRODUCTS.toList)
    (rl2_PRODUCTS : K.lookup r2_PRODUCTS = some ⟨.type "tuple", none, .seq ri2_PRODUCTS rn2_PRODUCTS, rz2_PRODUCTS⟩)
    (rv2_PRODUCTS : Vals [V.int 0, V.int 2, V.int 4, V.int 6, V.int 8, V.int 10, V.int 12, V.int 14, V.int 3, V.int 1, V.int 7, V.int 5, V.int 11, V.int 9, V.int 15, V.int 13] ri2_PRODUCTS.toList)
    (rl3_PRODUCTS : K.lookup r3_PRODUCTS = some ⟨.type "tuple", none, .seq ri3_PRODUCTS rn3_PRODUCTS, rz3_PRODUCTS⟩)
    (rv3_PRODUCTS : Vals [V.int 0, V.int 3, V.int 6, V.int 5, V.int 12, V.int 15, V.int 10, V.int 9, V.int 11, V.int 8, V.int 13, V.int 14, V.int 7, V.int 4, V.int 1, V.int 2] ri3_PRODUCTS.toList)
    (rl4_PRODUCTS : K.lookup r4_PRODUCTS = some ⟨.type "tuple", none, .seq ri4_PRODUCTS rn4_PRODUCTS, rz4_PRODUCTS⟩)
    (rv4_PRODUCTS : Vals [V.int 0, V.int 4, V.int 8, V.int 12, V.int 3, V.int 7, V.int 11, V.int 15, V.int 6, V.int 2, V.int 14, V.int 10, V.int 5, V.int 1, V.int 13, V.int 9] ri4_PRODUCTS.toList)
    (rl5_PRODUCTS : K.lookup r5_PRODUCTS = some ⟨.type "tuple", none, .seq ri5_PRODUCTS rn5_PRODUCTS, rz5_PRODUCTS⟩)
    (rv5_PRODUCTS : Vals [V.int 0, V.int 5, V.int 10, V.int 15, V.int 7, V.int 2, V.int 13, V.int 8, V.int 14, V.int 11, V.int 4, V.int 1, V.int 9, V.int 12, V.int 3, V.int 6] ri5_PRODUCTS.toList)
    (rl6_PRODUCTS : K.lookup r6_PRODUCTS = some ⟨.type "tuple", none, .seq ri6_PRODUCTS rn6_PRODUCTS, rz6_PRODUCTS⟩)
    (rv6_PRODUCTS : Vals [V.int 0, V.int 6, V.int 12, V.int 10, V.int 11, V.int 13, V.int 7, V.int 1, V.int 5, V.int 3, V.int 9, V.int 15, V.int 14, V.int 8, V.int 2, V.int 4] ri6_PRODUCTS.toList)
    (rl7_PRODUCTS : K.lookup r7_PRODUCTS = some ⟨.type "tuple", none, .seq ri7_PRODUCTS rn7_PRODUCTS, rz7_PRODUCTS⟩)
    (rv7_PRODUCTS : Vals [V.int 0, V.int 7, V.int 14, V.int 9, V.int 15, V.int 8, V.int 1, V.int 6, V.int 13, V.int 10, V.int 3, V.int 4, V.int 2, V.int 5, V.int 12, V.int 11] ri7_PRODUCTS.toList)
    (rl8_PRODUCTS : K.lookup r8_PRODUCTS = some ⟨.type "tuple", none, .seq ri8_PRODUCTS rn8_PRODUCTS, rz8_PRODUCTS⟩)
    (rv8_PRODUCTS : Vals [V.int 0, V.int 8, V.int 3, V.int 11, V.int 6, V.int 14, V.int 5, V.int 13, V.int 12, V.int 4, V.int 15, V.int 7, V.int 10, V.int 2, V.int 9, V.int 1] ri8_PRODUCTS.toList)
    (rl9_PRODUCTS : K.lookup r9_PRODUCTS = some ⟨.type "tuple", none, .seq ri9_PRODUCTS rn9_PRODUCTS, rz9_PRODUCTS⟩)
    (rv9_PRODUCTS : Vals [V.int 0, V.int 9, V.int 1, V.int 8, V.int 2, V.int 11, V.int 3, V.int 10, V.int 4, V.int 13, V.int 5, V.int 12, V.int 6, V.int 15, V.int 7, V.int 14] ri9_PRODUCTS.toList)
    (rl10_PRODUCTS : K.lookup r10_PRODUCTS = some ⟨.type "tuple", none, .seq ri10_PRODUCTS rn10_PRODUCTS, rz10_PRODUCTS⟩)
    (rv10_PRODUCTS : Vals [V.int 0, V.int 10, V.int 7, V.int 13, V.int 14, V.int 4, V.int 9, V.int 3, V.int 15, V.int 5, V.int 8, V.int 2, V.int 1, V.int 11, V.int 6, V.int 12] ri10_PRODUCTS.toList)
    (rl11_PRODUCTS : K.lookup r11_PRODUCTS = some ⟨.type "tuple", none, .seq ri11_PRODUCTS rn11_PRODUCTS, rz11_PRODUCTS⟩)
    (rv11_PRODUCTS : Vals [V.int 0, V.int 11, V.int 5, V.int 14, V.int 10, V.int 1, V.int 15, V.int 4, V.int 7, V.int 12, V.int 2, V.int 9, V.int 13, V.int 6, V.int 8, V.int 3] ri11_PRODUCTS.toList)
    (rl12_PRODUCTS : K.lookup r12_PRODUCTS = some ⟨.type "tuple", none, .seq ri12_PRODUCTS rn12_PRODUCTS, rz12_PRODUCTS⟩)
    (rv12_PRODUCTS : Vals [V.int 0, V.int 12, V.int 11, V.int 7, V.int 5, V.int 9, V.int 14, V.int 2, V.int 10, V.int 6, V.int 1, V.int 13, V.int 15, V.int 3, V.int 4, V.int 8] ri12_PRODUCTS.toList)
    (rl13_PRODUCTS : K.lookup r13_PRODUCTS = some ⟨.type "tuple", none, .seq ri13_PRODUCTS rn13_PRODUCTS, rz13_PRODUCTS⟩)
    (rv13_PRODUCTS : Vals [V.int 0, V.int 13, V.int 9, V.int 4, V.int 1, V.int 12, V.int 8, V.int 5, V.int 2, V.int 15, V.int 11, V.int 6, V.int 3, V.int 14, V.int 10, V.int 7] ri13_PRODUCTS.toList)
    (rl14_PRODUCTS : K.lookup r14_PRODUCTS = some ⟨.type "tuple", none, .seq ri14_PRODUCTS rn14_PRODUCTS, rz14_PRODUCTS⟩)
    (rv14_PRODUCTS : Vals [V.int 0, V.int 14, V.int 15, V.int 1, V.int 13, V.int 3, V.int 2, V.int 12, V.int 9, V.int 7, V.int 6, V.int 8, V.int 4, V.int 10, V.int 11, V.int 5] ri14_PRODUCTS.toList)
    (rl15_PRODUCTS : K.lookup r15_PRODUCTS = some ⟨.type "tuple", none, .seq ri15_PRODUCTS rn15_PRODUCTS, rz15_PRODUCTS⟩)
    (rv15_PRODUCTS : Vals [V.int 0, V.int 15, V.int 13, V.int 2, V.int 9, V.int 6, V.int 4, V.int 11, V.int 1, V.int 14, V.int 12, V.int 3, V.int 8, V.int 7, V.int 5, V.int 10] ri15_PRODUCTS.toList)
    (a_LONGEST : PySem.W.nsIn K mainGlobals "LONGEST" = some (some (.int 16 t_LONGEST)))
    (z_zip : PySem.W.nsIn K mainGlobals "zip" = some none)
    (z_len : PySem.W.nsIn K mainGlobals "len" = some none)
    (z_list : PySem.W.nsIn K mainGlobals "list" = some none)
    (z_all : PySem.W.nsIn K mainGlobals "all" = some none)
    (z_range : PySem.W.nsIn K mainGlobals "range" = some none)
    (z_enumerate : PySem.W.nsIn K mainGlobals "enumerate" = some none)
    (z_int : PySem.W.nsIn K mainGlobals "int" = some none)
    (z_abs : PySem.W.nsIn K mainGlobals "abs" = some none)
    (z_isinstance : PySem.W.nsIn K mainGlobals "isinstance" = some none)
    (z_min : PySem.W.nsIn K mainGlobals "min" = some none)
    (a_ArchiveError : PySem.W.nsIn K mainGlobals "ArchiveError" = some (some (.ref C_ArchiveError)))
    (x_ArchiveError : PySem.W.excIn K C_ArchiveError [.type "ValueError", .type "Exception", .type "BaseException", .type "object"] "ValueError.__new__" = true)
    (k_ArchiveError : PySem.W.keepIn K (.ref C_ArchiveError) = true)
    (b_ArchiveError : PySem.W.subIn K (.ref C_ArchiveError) (.type "BaseException") = some true)
    (t_ArchiveError : PySem.W.typeIn K (.ref C_ArchiveError) = some (.type "type"))
    (g_ArchiveError : PySem.W.findIn K (.ref C_ArchiveError) "__getattribute__" = some (some (.builtin "BaseException.__getattribute__")))
    (h_ArchiveError : PySem.W.findIn K (.ref C_ArchiveError) "__getattr__" = some none)
    (d_ArchiveError : PySem.W.hasDictIn K C_ArchiveError = true)
    (o_ArchiveError : PySem.W.findIn K (.ref C_ArchiveError) "__class__" = some (some (.builtin "object.__class__")))
    (n_ArchiveError : PySem.W.specialIn K (.builtin "object.__class__") "__get__" = some (some (.builtin "getset_descriptor.__get__")))
    (m_ArchiveError : PySem.W.takesIn K (.builtin "object.__class__") = some true)
    (r_ArchiveError : PySem.W.mroIn K C_ArchiveError (.type "object") = some true)
    (i_ArchiveError : PySem.W.isClsIn K C_ArchiveError = true)
    (a_InvalidSymbol : PySem.W.nsIn K mainGlobals "InvalidSymbol" = some (some (.ref C_InvalidSymbol)))
    (x_InvalidSymbol : PySem.W.excIn K C_InvalidSymbol [.type "ValueError", .type "Exception", .type "BaseException", .type "object"] "ValueError.__new__" = true)
    (k_InvalidSymbol : PySem.W.keepIn K (.ref C_InvalidSymbol) = true)
    (b_InvalidSymbol : PySem.W.subIn K (.ref C_InvalidSymbol) (.type "BaseException") = some true)
    (t_InvalidSymbol : PySem.W.typeIn K (.ref C_InvalidSymbol) = some (.type "type"))
    (g_InvalidSymbol : PySem.W.findIn K (.ref C_InvalidSymbol) "__getattribute__" = some (some (.builtin "BaseException.__getattribute__")))
    (h_InvalidSymbol : PySem.W.findIn K (.ref C_InvalidSymbol) "__getattr__" = some none)
    (d_InvalidSymbol : PySem.W.hasDictIn K C_InvalidSymbol = true)
    (o_InvalidSymbol : PySem.W.findIn K (.ref C_InvalidSymbol) "__class__" = some (some (.builtin "object.__class__")))
    (n_InvalidSymbol : PySem.W.specialIn K (.builtin "object.__class__") "__get__" = some (some (.builtin "getset_descriptor.__get__")))
    (m_InvalidSymbol : PySem.W.takesIn K (.builtin "object.__class__") = some true)
    (r_InvalidSymbol : PySem.W.mroIn K C_InvalidSymbol (.type "object") = some true)
    (i_InvalidSymbol : PySem.W.isClsIn K C_InvalidSymbol = true)
    (hs_InvalidSymbol_ArchiveError : PySem.W.subIn K (.ref C_InvalidSymbol) (.ref C_ArchiveError) = some true)
    (hq_InvalidSymbol_InvalidSymbol : PySem.W.subIn K (.ref C_InvalidSymbol) (.ref C_InvalidSymbol) = some true)
    (lc_check_bodies : K.lookup c_check_bodies = some ⟨cc_check_bodies, ce_check_bodies, .fields cf_check_bodies, cg_check_bodies⟩)
    (tv_check_bodies : cf_check_bodies[11]? = some (.ref P_check_bodies))
    : ∃ (fd : FuncData) (cs : List (Str × Addr × Addr)), (∀ t ∈ cs, t.1 ∈ names ∧ PySem.W.tabIn K t.1 = some t.2) ∧ (∀ (s : Shared) (v : Value), BindsTo s fd ⟨[v], []⟩ [("script", v)]) ∧ ∀ base : Heap, K.In base → base.Ns mainGlobals mg → (∀ t ∈ cs, LamX.TabB base mg t.2.1 t.2.2) → FnOk P w K mg base CX0 8 C_fa fd ["script"] (GX.spLawT K (cs.map (·.2.2))) :=
  law_mk (T := ⟨dn_mk X G a_is_symbol l_is_symbol c_is_symbol k_is_symbol (fun _ _ _ _ _ _ us hl => match us, hl with | [_], _ => rfl),
    dn_mk X G a_multiply l_multiply c_multiply k_multiply (fun _ _ _ _ _ _ us hl => match us, hl with | [_, _], _ => rfl),
    dn_mk X G a_inverse l_inverse c_inverse k_inverse (fun _ _ _ _ _ _ us hl => match us, hl with | [_], _ => rfl),
    dn_mk X G a_plus_scaled l_plus_scaled c_plus_scaled k_plus_scaled (fun _ _ _ _ _ _ us hl => match us, hl with | [_, _, _], _ => rfl),
    dn_mk X G a__check_symbol l__check_symbol c__check_symbol k__check_symbol (fun _ _ _ _ _ _ us hl => match us, hl with | [_], _ => rfl),
    dn_mk X G a_extended l_extended c_extended k_extended (fun _ _ _ _ _ _ us hl => match us, hl with | [_, _, _], _ => rfl),
    dn_mk X G a__weight l__weight c__weight k__weight (fun _ _ _ _ _ _ us hl => match us, hl with | [_, _, _], _ => rfl),
    GX.dnc_mk X G a_check_bodies l_check_bodies e_check_bodies k_check_bodies (fun _ _ _ _ _ _ us hl => match us, hl with | [_, _], _ => rfl),
    dn_mk X G a_complete l_complete c_complete k_complete (fun _ _ _ _ _ _ us hl => match us, hl with | [_, _], _ => rfl),
    dn_mk X G a__law_cell l__law_cell c__law_cell k__law_cell (fun _ _ _ _ _ _ us hl => match us, hl with | [_, _], _ => rfl),
    dn_mk X G a__law_mix l__law_mix c__law_mix k__law_mix (fun _ _ _ _ _ _ us hl => match us, hl with | [_, _], _ => rfl),
    dn_mk X G a__law_row l__law_row c__law_row k__law_row (fun _ _ _ _ _ _ us hl => match us, hl with | [_, _, _], _ => rfl),
    dn_mk X G a__law_times l__law_times c__law_times k__law_times (fun _ _ _ _ _ _ us hl => match us, hl with | [_, _], _ => rfl),
    dn_mk X G a__law_inverse l__law_inverse c__law_inverse k__law_inverse (fun _ _ _ _ _ _ us hl => match us, hl with | [_], _ => rfl),
    dn_mk X G a__law_at l__law_at c__law_at k__law_at (fun _ _ _ _ _ _ us hl => match us, hl with | [_, _, _], _ => rfl),
    dn_mk X G a__law_codeword l__law_codeword c__law_codeword k__law_codeword (fun _ _ _ _ _ _ us hl => match us, hl with | [_, _], _ => rfl),
    dn_mk X G a__law_picks l__law_picks c__law_picks k__law_picks (fun _ _ _ _ _ _ us hl => match us, hl with | [_, _, _], _ => rfl),
    dn_mk X G a__law_refused l__law_refused c__law_refused k__law_refused (fun _ _ _ _ _ _ us hl => match us, hl with | [_, _, _], _ => rfl),
    dn_mk X G a_law l_law c_law k_law (fun _ _ _ _ _ _ us hl => match us, hl with | [_], _ => rfl),
    cv_int X G a_SYMBOLS,
    CT2.ctt_mk (rs := [r0_PRODUCTS, r1_PRODUCTS, r2_PRODUCTS, r3_PRODUCTS, r4_PRODUCTS, r5_PRODUCTS, r6_PRODUCTS, r7_PRODUCTS, r8_PRODUCTS, r9_PRODUCTS, r10_PRODUCTS, r11_PRODUCTS, r12_PRODUCTS, r13_PRODUCTS, r14_PRODUCTS, r15_PRODUCTS]) X G a_PRODUCTS l_PRODUCTS e_PRODUCTS (by show 16 ≤ sizeLine; decide) (.cons (CT2.rowAt_mk rl0_PRODUCTS rv0_PRODUCTS (by decide)) (.cons (CT2.rowAt_mk rl1_PRODUCTS rv1_PRODUCTS (by decide)) (.cons (CT2.rowAt_mk rl2_PRODUCTS rv2_PRODUCTS (by decide)) (.cons (CT2.rowAt_mk rl3_PRODUCTS rv3_PRODUCTS (by decide)) (.cons (CT2.rowAt_mk rl4_PRODUCTS rv4_PRODUCTS (by decide)) (.cons (CT2.rowAt_mk rl5_PRODUCTS rv5_PRODUCTS (by decide)) (.cons (CT2.rowAt_mk rl6_PRODUCTS rv6_PRODUCTS (by decide)) (.cons (CT2.rowAt_mk rl7_PRODUCTS rv7_PRODUCTS (by decide)) (.cons (CT2.rowAt_mk rl8_PRODUCTS rv8_PRODUCTS (by decide)) (.cons (CT2.rowAt_mk rl9_PRODUCTS rv9_PRODUCTS (by decide)) (.cons (CT2.rowAt_mk rl10_PRODUCTS rv10_PRODUCTS (by decide)) (.cons (CT2.rowAt_mk rl11_PRODUCTS rv11_PRODUCTS (by decide)) (.cons (CT2.rowAt_mk rl12_PRODUCTS rv12_PRODUCTS (by decide)) (.cons (CT2.rowAt_mk rl13_PRODUCTS rv13_PRODUCTS (by decide)) (.cons (CT2.rowAt_mk rl14_PRODUCTS rv14_PRODUCTS (by decide)) (.cons (CT2.rowAt_mk rl15_PRODUCTS rv15_PRODUCTS (by decide)) .nil)))))))))))))))),
    cv_int X G a_LONGEST,
    PySem.W.mg_none_of X G z_zip,
    PySem.W.mg_none_of X G z_len,
    PySem.W.mg_none_of X G z_list,
    PySem.W.mg_none_of X G z_all,
    PySem.W.mg_none_of X G z_range,
    PySem.W.mg_none_of X G z_enumerate,
    PySem.W.mg_none_of X G z_int,
    PySem.W.mg_none_of X G z_abs,
    PySem.W.mg_none_of X G z_isinstance,
    PySem.W.mg_none_of X G z_min,
    xcl_mk X G a_ArchiveError x_ArchiveError k_ArchiveError b_ArchiveError t_ArchiveError g_ArchiveError h_ArchiveError d_ArchiveError o_ArchiveError n_ArchiveError m_ArchiveError r_ArchiveError i_ArchiveError,
    xcl_mk X G a_InvalidSymbol x_InvalidSymbol k_InvalidSymbol b_InvalidSymbol t_InvalidSymbol g_InvalidSymbol h_InvalidSymbol d_InvalidSymbol o_InvalidSymbol n_InvalidSymbol m_InvalidSymbol r_InvalidSymbol i_InvalidSymbol,
    hs_InvalidSymbol_ArchiveError,
    kit_own i_InvalidSymbol t_InvalidSymbol hq_InvalidSymbol_InvalidSymbol (fun _ => rfl)⟩) hfa (GX.tabIn_mk a_check_bodies l_check_bodies rfl lc_check_bodies tv_check_bodies)
end My
open PySem PySem.W PyProof.Rows in
set_option maxRecDepth 100000 in
set_option maxHeartbeats 0 in
theorem PySem.Challenge.cw_scanpages_k48_whole_groups_holds : PySem.Challenge.rw_scanpages_k48_whole_groups.Holds := by
  w_on; o_law; k_head; (case hw => w_witness2)
  k_fill
  refine GX.walk_gx (l := PySem.Challenge.rw_scanpages_k48_whole_groups) (k := 8) (names := My.names) rfl rfl ⟨rfl, by decide, by decide⟩ (fun w h Y => PySem.W.kIn_of Y) ?NT ?RC ?F
  case NT => intro w; rfl
  case RC => decide +kernel
  case F =>
    intro w mg fa h KX G hmg
    refine' My.law_end KX G hmg ?a_is_symbol ?l_is_symbol ?c_is_symbol ?k_is_symbol ?a_multiply ?l_multiply ?c_multiply ?k_multiply ?a_inverse ?l_inverse ?c_inverse ?k_inverse ?a_plus_scaled ?l_plus_scaled ?c_plus_scaled ?k_plus_scaled ?a__check_symbol ?l__check_symbol ?c__check_symbol ?k__check_symbol ?a_extended ?l_extended ?c_extended ?k_extended ?a__weight ?l__weight ?c__weight ?k__weight ?a_check_bodies ?l_check_bodies ?e_check_bodies ?k_check_bodies ?a_complete ?l_complete ?c_complete ?k_complete ?a__law_cell ?l__law_cell ?c__law_cell ?k__law_cell ?a__law_mix ?l__law_mix ?c__law_mix ?k__law_mix ?a__law_row ?l__law_row ?c__law_row ?k__law_row ?a__law_times ?l__law_times ?c__law_times ?k__law_times ?a__law_inverse ?l__law_inverse ?c__law_inverse ?k__law_inverse ?a__law_at ?l__law_at ?c__law_at ?k__law_at ?a__law_codeword ?l__law_codeword ?c__law_codeword ?k__law_codeword ?a__law_picks ?l__law_picks ?c__law_picks ?k__law_picks ?a__law_refused ?l__law_refused ?c__law_refused ?k__law_refused ?a_law ?l_law ?c_law ?k_law ?a_SYMBOLS ?a_PRODUCTS ?l_PRODUCTS ?e_PRODUCTS ?rl0_PRODUCTS ?rv0_PRODUCTS ?rl1_PRODUCTS ?rv1_PRODUCTS ?rl2_PRODUCTS ?rv2_PRODUCTS ?rl3_PRODUCTS ?rv3_PRODUCTS ?rl4_PRODUCTS ?rv4_PRODUCTS ?rl5_PRODUCTS ?rv5_PRODUCTS ?rl6_PRODUCTS ?rv6_PRODUCTS ?rl7_PRODUCTS ?rv7_PRODUCTS ?rl8_PRODUCTS ?rv8_PRODUCTS ?rl9_PRODUCTS ?rv9_PRODUCTS ?rl10_PRODUCTS ?rv10_PRODUCTS ?rl11_PRODUCTS ?rv11_PRODUCTS ?rl12_PRODUCTS ?rv12_PRODUCTS ?rl13_PRODUCTS ?rv13_PRODUCTS ?rl14_PRODUCTS ?rv14_PRODUCTS ?rl15_PRODUCTS ?rv15_PRODUCTS ?a_LONGEST ?z_zip ?z_len ?z_list ?z_all ?z_range ?z_enumerate ?z_int ?z_abs ?z_isinstance ?z_min ?a_ArchiveError ?x_ArchiveError ?k_ArchiveError ?b_ArchiveError ?t_ArchiveError ?g_ArchiveError ?h_ArchiveError ?d_ArchiveError ?o_ArchiveError ?n_ArchiveError ?m_ArchiveError ?r_ArchiveError ?i_ArchiveError ?a_InvalidSymbol ?x_InvalidSymbol ?k_InvalidSymbol ?b_InvalidSymbol ?t_InvalidSymbol ?g_InvalidSymbol ?h_InvalidSymbol ?d_InvalidSymbol ?o_InvalidSymbol ?n_InvalidSymbol ?m_InvalidSymbol ?r_InvalidSymbol ?i_InvalidSymbol ?hs_InvalidSymbol_ArchiveError ?hq_InvalidSymbol_InvalidSymbol ?lc_check_bodies ?tv_check_bodies
    (case a_is_symbol => k_is)
    (case l_is_symbol => k_is)
    (case c_is_symbol => k_is)
    (case k_is_symbol => k_is)
    (case a_multiply => k_is)
    (case l_multiply => k_is)
    (case c_multiply => k_is)
    (case k_multiply => k_is)
    (case a_inverse => k_is)
    (case l_inverse => k_is)
    (case c_inverse => k_is)
    (case k_inverse => k_is)
    (case a_plus_scaled => k_is)
    (case l_plus_scaled => k_is)
    (case c_plus_scaled => k_is)
    (case k_plus_scaled => k_is)
    (case a__check_symbol => k_is)
    (case l__check_symbol => k_is)
    (case c__check_symbol => k_is)
    (case k__check_symbol => k_is)
    (case a_extended => k_is)
    (case l_extended => k_is)
    (case c_extended => k_is)
    (case k_extended => k_is)
    (case a__weight => k_is)
    (case l__weight => k_is)
    (case c__weight => k_is)
    (case k__weight => k_is)
    (case a_check_bodies => k_is)
    (case l_check_bodies => k_is)
    (case e_check_bodies => k_is)
    (case k_check_bodies => k_is)
    (case a_complete => k_is)
    (case l_complete => k_is)
    (case c_complete => k_is)
    (case k_complete => k_is)
    (case a__law_cell => k_is)
    (case l__law_cell => k_is)
    (case c__law_cell => k_is)
    (case k__law_cell => k_is)
    (case a__law_mix => k_is)
    (case l__law_mix => k_is)
    (case c__law_mix => k_is)
    (case k__law_mix => k_is)
    (case a__law_row => k_is)
    (case l__law_row => k_is)
    (case c__law_row => k_is)
    (case k__law_row => k_is)
    (case a__law_times => k_is)
    (case l__law_times => k_is)
    (case c__law_times => k_is)
    (case k__law_times => k_is)
    (case a__law_inverse => k_is)
    (case l__law_inverse => k_is)
    (case c__law_inverse => k_is)
    (case k__law_inverse => k_is)
    (case a__law_at => k_is)
    (case l__law_at => k_is)
    (case c__law_at => k_is)
    (case k__law_at => k_is)
    (case a__law_codeword => k_is)
    (case l__law_codeword => k_is)
    (case c__law_codeword => k_is)
    (case k__law_codeword => k_is)
    (case a__law_picks => k_is)
    (case l__law_picks => k_is)
    (case c__law_picks => k_is)
    (case k__law_picks => k_is)
    (case a__law_refused => k_is)
    (case l__law_refused => k_is)
    (case c__law_refused => k_is)
    (case k__law_refused => k_is)
    (case a_law => k_is)
    (case l_law => k_is)
    (case c_law => k_is)
    (case k_law => k_is)
    (case a_SYMBOLS => k_is)
    (case a_PRODUCTS => k_is)
    (case l_PRODUCTS => k_is)
    (case e_PRODUCTS => rfl)
    (case rl0_PRODUCTS => k_is)
    (case rv0_PRODUCTS => exact .cons ⟨_, rfl⟩ (.cons ⟨_, rfl⟩ (.cons ⟨_, rfl⟩ (.cons ⟨_, rfl⟩ (.cons ⟨_, rfl⟩ (.cons ⟨_, rfl⟩ (.cons ⟨_, rfl⟩ (.cons ⟨_, rfl⟩ (.cons ⟨_, rfl⟩ (.cons ⟨_, rfl⟩ (.cons ⟨_, rfl⟩ (.cons ⟨_, rfl⟩ (.cons ⟨_, rfl⟩ (.cons ⟨_, rfl⟩ (.cons ⟨_, rfl⟩ (.cons ⟨_, rfl⟩ (.nil)))))))))))))))))
    (case rl1_PRODUCTS => k_is)
    (case rv1_PRODUCTS => exact .cons ⟨_, rfl⟩ (.cons ⟨_, rfl⟩ (.cons ⟨_, rfl⟩ (.cons ⟨_, rfl⟩ (.cons ⟨_, rfl⟩ (.cons ⟨_, rfl⟩ (.cons ⟨_, rfl⟩ (.cons ⟨_, rfl⟩ (.cons ⟨_, rfl⟩ (.cons ⟨_, rfl⟩ (.cons ⟨_, rfl⟩ (.cons ⟨_, rfl⟩ (.cons ⟨_, rfl⟩ (.cons ⟨_, rfl⟩ (.cons ⟨_, rfl⟩ (.cons ⟨_, rfl⟩ (.nil)))))))))))))))))
    (case rl2_PRODUCTS => k_is)
    (case rv2_PRODUCTS => exact .cons ⟨_, rfl⟩ (.cons ⟨_, rfl⟩ (.cons ⟨_, rfl⟩ (.cons ⟨_, rfl⟩ (.cons ⟨_, rfl⟩ (.cons ⟨_, rfl⟩ (.cons ⟨_, rfl⟩ (.cons ⟨_, rfl⟩ (.cons ⟨_, rfl⟩ (.cons ⟨_, rfl⟩ (.cons ⟨_, rfl⟩ (.cons ⟨_, rfl⟩ (.cons ⟨_, rfl⟩ (.cons ⟨_, rfl⟩ (.cons ⟨_, rfl⟩ (.cons ⟨_, rfl⟩ (.nil)))))))))))))))))
    (case rl3_PRODUCTS => k_is)
    (case rv3_PRODUCTS => exact .cons ⟨_, rfl⟩ (.cons ⟨_, rfl⟩ (.cons ⟨_, rfl⟩ (.cons ⟨_, rfl⟩ (.cons ⟨_, rfl⟩ (.cons ⟨_, rfl⟩ (.cons ⟨_, rfl⟩ (.cons ⟨_, rfl⟩ (.cons ⟨_, rfl⟩ (.cons ⟨_, rfl⟩ (.cons ⟨_, rfl⟩ (.cons ⟨_, rfl⟩ (.cons ⟨_, rfl⟩ (.cons ⟨_, rfl⟩ (.cons ⟨_, rfl⟩ (.cons ⟨_, rfl⟩ (.nil)))))))))))))))))
    (case rl4_PRODUCTS => k_is)
    (case rv4_PRODUCTS => exact .cons ⟨_, rfl⟩ (.cons ⟨_, rfl⟩ (.cons ⟨_, rfl⟩ (.cons ⟨_, rfl⟩ (.cons ⟨_, rfl⟩ (.cons ⟨_, rfl⟩ (.cons ⟨_, rfl⟩ (.cons ⟨_, rfl⟩ (.cons ⟨_, rfl⟩ (.cons ⟨_, rfl⟩ (.cons ⟨_, rfl⟩ (.cons ⟨_, rfl⟩ (.cons ⟨_, rfl⟩ (.cons ⟨_, rfl⟩ (.cons ⟨_, rfl⟩ (.cons ⟨_, rfl⟩ (.nil)))))))))))))))))
    (case rl5_PRODUCTS => k_is)
    (case rv5_PRODUCTS => exact .cons ⟨_, rfl⟩ (.cons ⟨_, rfl⟩ (.cons ⟨_, rfl⟩ (.cons ⟨_, rfl⟩ (.cons ⟨_, rfl⟩ (.cons ⟨_, rfl⟩ (.cons ⟨_, rfl⟩ (.cons ⟨_, rfl⟩ (.cons ⟨_, rfl⟩ (.cons ⟨_, rfl⟩ (.cons ⟨_, rfl⟩ (.cons ⟨_, rfl⟩ (.cons ⟨_, rfl⟩ (.cons ⟨_, rfl⟩ (.cons ⟨_, rfl⟩ (.cons ⟨_, rfl⟩ (.nil)))))))))))))))))
    (case rl6_PRODUCTS => k_is)
    (case rv6_PRODUCTS => exact .cons ⟨_, rfl⟩ (.cons ⟨_, rfl⟩ (.cons ⟨_, rfl⟩ (.cons ⟨_, rfl⟩ (.cons ⟨_, rfl⟩ (.cons ⟨_, rfl⟩ (.cons ⟨_, rfl⟩ (.cons ⟨_, rfl⟩ (.cons ⟨_, rfl⟩ (.cons ⟨_, rfl⟩ (.cons ⟨_, rfl⟩ (.cons ⟨_, rfl⟩ (.cons ⟨_, rfl⟩ (.cons ⟨_, rfl⟩ (.cons ⟨_, rfl⟩ (.cons ⟨_, rfl⟩ (.nil)))))))))))))))))
    (case rl7_PRODUCTS => k_is)
    (case rv7_PRODUCTS => exact .cons ⟨_, rfl⟩ (.cons ⟨_, rfl⟩ (.cons ⟨_, rfl⟩ (.cons ⟨_, rfl⟩ (.cons ⟨_, rfl⟩ (.cons ⟨_, rfl⟩ (.cons ⟨_, rfl⟩ (.cons ⟨_, rfl⟩ (.cons ⟨_, rfl⟩ (.cons ⟨_, rfl⟩ (.cons ⟨_, rfl⟩ (.cons ⟨_, rfl⟩ (.cons ⟨_, rfl⟩ (.cons ⟨_, rfl⟩ (.cons ⟨_, rfl⟩ (.cons ⟨_, rfl⟩ (.nil)))))))))))))))))
    (case rl8_PRODUCTS => k_is)
    (case rv8_PRODUCTS => exact .cons ⟨_, rfl⟩ (.cons ⟨_, rfl⟩ (.cons ⟨_, rfl⟩ (.cons ⟨_, rfl⟩ (.cons ⟨_, rfl⟩ (.cons ⟨_, rfl⟩ (.cons ⟨_, rfl⟩ (.cons ⟨_, rfl⟩ (.cons ⟨_, rfl⟩ (.cons ⟨_, rfl⟩ (.cons ⟨_, rfl⟩ (.cons ⟨_, rfl⟩ (.cons ⟨_, rfl⟩ (.cons ⟨_, rfl⟩ (.cons ⟨_, rfl⟩ (.cons ⟨_, rfl⟩ (.nil)))))))))))))))))
    (case rl9_PRODUCTS => k_is)
    (case rv9_PRODUCTS => exact .cons ⟨_, rfl⟩ (.cons ⟨_, rfl⟩ (.cons ⟨_, rfl⟩ (.cons ⟨_, rfl⟩ (.cons ⟨_, rfl⟩ (.cons ⟨_, rfl⟩ (.cons ⟨_, rfl⟩ (.cons ⟨_, rfl⟩ (.cons ⟨_, rfl⟩ (.cons ⟨_, rfl⟩ (.cons ⟨_, rfl⟩ (.cons ⟨_, rfl⟩ (.cons ⟨_, rfl⟩ (.cons ⟨_, rfl⟩ (.cons ⟨_, rfl⟩ (.cons ⟨_, rfl⟩ (.nil)))))))))))))))))
    (case rl10_PRODUCTS => k_is)
    (case rv10_PRODUCTS => exact .cons ⟨_, rfl⟩ (.cons ⟨_, rfl⟩ (.cons ⟨_, rfl⟩ (.cons ⟨_, rfl⟩ (.cons ⟨_, rfl⟩ (.cons ⟨_, rfl⟩ (.cons ⟨_, rfl⟩ (.cons ⟨_, rfl⟩ (.cons ⟨_, rfl⟩ (.cons ⟨_, rfl⟩ (.cons ⟨_, rfl⟩ (.cons ⟨_, rfl⟩ (.cons ⟨_, rfl⟩ (.cons ⟨_, rfl⟩ (.cons ⟨_, rfl⟩ (.cons ⟨_, rfl⟩ (.nil)))))))))))))))))
    (case rl11_PRODUCTS => k_is)
    (case rv11_PRODUCTS => exact .cons ⟨_, rfl⟩ (.cons ⟨_, rfl⟩ (.cons ⟨_, rfl⟩ (.cons ⟨_, rfl⟩ (.cons ⟨_, rfl⟩ (.cons ⟨_, rfl⟩ (.cons ⟨_, rfl⟩ (.cons ⟨_, rfl⟩ (.cons ⟨_, rfl⟩ (.cons ⟨_, rfl⟩ (.cons ⟨_, rfl⟩ (.cons ⟨_, rfl⟩ (.cons ⟨_, rfl⟩ (.cons ⟨_, rfl⟩ (.cons ⟨_, rfl⟩ (.cons ⟨_, rfl⟩ (.nil)))))))))))))))))
    (case rl12_PRODUCTS => k_is)
    (case rv12_PRODUCTS => exact .cons ⟨_, rfl⟩ (.cons ⟨_, rfl⟩ (.cons ⟨_, rfl⟩ (.cons ⟨_, rfl⟩ (.cons ⟨_, rfl⟩ (.cons ⟨_, rfl⟩ (.cons ⟨_, rfl⟩ (.cons ⟨_, rfl⟩ (.cons ⟨_, rfl⟩ (.cons ⟨_, rfl⟩ (.cons ⟨_, rfl⟩ (.cons ⟨_, rfl⟩ (.cons ⟨_, rfl⟩ (.cons ⟨_, rfl⟩ (.cons ⟨_, rfl⟩ (.cons ⟨_, rfl⟩ (.nil)))))))))))))))))
    (case rl13_PRODUCTS => k_is)
    (case rv13_PRODUCTS => exact .cons ⟨_, rfl⟩ (.cons ⟨_, rfl⟩ (.cons ⟨_, rfl⟩ (.cons ⟨_, rfl⟩ (.cons ⟨_, rfl⟩ (.cons ⟨_, rfl⟩ (.cons ⟨_, rfl⟩ (.cons ⟨_, rfl⟩ (.cons ⟨_, rfl⟩ (.cons ⟨_, rfl⟩ (.cons ⟨_, rfl⟩ (.cons ⟨_, rfl⟩ (.cons ⟨_, rfl⟩ (.cons ⟨_, rfl⟩ (.cons ⟨_, rfl⟩ (.cons ⟨_, rfl⟩ (.nil)))))))))))))))))
    (case rl14_PRODUCTS => k_is)
    (case rv14_PRODUCTS => exact .cons ⟨_, rfl⟩ (.cons ⟨_, rfl⟩ (.cons ⟨_, rfl⟩ (.cons ⟨_, rfl⟩ (.cons ⟨_, rfl⟩ (.cons ⟨_, rfl⟩ (.cons ⟨_, rfl⟩ (.cons ⟨_, rfl⟩ (.cons ⟨_, rfl⟩ (.cons ⟨_, rfl⟩ (.cons ⟨_, rfl⟩ (.cons ⟨_, rfl⟩ (.cons ⟨_, rfl⟩ (.cons ⟨_, rfl⟩ (.cons ⟨_, rfl⟩ (.cons ⟨_, rfl⟩ (.nil)))))))))))))))))
    (case rl15_PRODUCTS => k_is)
    (case rv15_PRODUCTS => exact .cons ⟨_, rfl⟩ (.cons ⟨_, rfl⟩ (.cons ⟨_, rfl⟩ (.cons ⟨_, rfl⟩ (.cons ⟨_, rfl⟩ (.cons ⟨_, rfl⟩ (.cons ⟨_, rfl⟩ (.cons ⟨_, rfl⟩ (.cons ⟨_, rfl⟩ (.cons ⟨_, rfl⟩ (.cons ⟨_, rfl⟩ (.cons ⟨_, rfl⟩ (.cons ⟨_, rfl⟩ (.cons ⟨_, rfl⟩ (.cons ⟨_, rfl⟩ (.cons ⟨_, rfl⟩ (.nil)))))))))))))))))
    (case a_LONGEST => k_is)
    (case z_zip => k_is)
    (case z_len => k_is)
    (case z_list => k_is)
    (case z_all => k_is)
    (case z_range => k_is)
    (case z_enumerate => k_is)
    (case z_int => k_is)
    (case z_abs => k_is)
    (case z_isinstance => k_is)
    (case z_min => k_is)
    (case a_ArchiveError => k_is)
    (case x_ArchiveError => k_exc)
    (case k_ArchiveError => k_is)
    (case b_ArchiveError => k_is)
    (case t_ArchiveError => k_is)
    (case g_ArchiveError => k_is)
    (case h_ArchiveError => k_is)
    (case d_ArchiveError => k_is)
    (case o_ArchiveError => k_is)
    (case n_ArchiveError => k_is)
    (case m_ArchiveError => k_is)
    (case r_ArchiveError => k_is)
    (case i_ArchiveError => k_is)
    (case a_InvalidSymbol => k_is)
    (case x_InvalidSymbol => k_exc)
    (case k_InvalidSymbol => k_is)
    (case b_InvalidSymbol => k_is)
    (case t_InvalidSymbol => k_is)
    (case g_InvalidSymbol => k_is)
    (case h_InvalidSymbol => k_is)
    (case d_InvalidSymbol => k_is)
    (case o_InvalidSymbol => k_is)
    (case n_InvalidSymbol => k_is)
    (case m_InvalidSymbol => k_is)
    (case r_InvalidSymbol => k_is)
    (case i_InvalidSymbol => k_is)
    (case hs_InvalidSymbol_ArchiveError => first | k_is | rfl)
    (case hq_InvalidSymbol_InvalidSymbol => first | k_is | rfl)
    (case lc_check_bodies => k_is)
    (case tv_check_bodies => rfl)
#print axioms PySem.Challenge.cw_scanpages_k48_whole_groups_holds
