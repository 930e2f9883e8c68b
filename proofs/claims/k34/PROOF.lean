import PyProof.Rows.All
import Wide.All
import OpenK.AllK
import Wide.FinOn
import PyProof.EqAt
import PyProof.EqKinds
import PyProof.TupleCall
import HandS.ForMost
import HandS.ForExc
import HandS.RaiseMore
import HandS.FStr
import HandS.IsInst
import HandS.ExcIs
import HandS.Wide
import HandS.Flow
import HandS.Conv
import HandS.Evl
import HandS.TupAny
import HandS.Style
import HandS.ExcCtx
import HandS.HotCalls
import HandS.SortInts
import PySem.Challenge.RW_scanpages_k34_groups_of_pages
set_option Elab.async false
set_option linter.all false
set_option maxRecDepth 100000
set_option maxHeartbeats 4000000
/-! Cm: what all our proofs share -/
namespace Cm
open PySem PySem.Spec PyProof.Rows L2

/-! ### defs of the module, and what they promise -/
/-- the def x stands at some address behind the top -/
def Dn (K : PySem.W.Frag) (mg : Str → Option Value) (x : Str) (st : Stmt) (ps : List Str) : Prop :=
  ∃ (f : Addr) (fd : FuncData), Fun K x x st f fd ∧ mg x = some (.ref f) ∧ Binds K fd ps []
/-- the def x keeps the promise sp -/
def Ok (P : Program) (w : World) (K : PySem.W.Frag) (mg : Str → Option Value) (base : Heap) (CX : CXT) (k : Nat) (x : Str) (ps : List Str) (sp : Sp) : Prop :=
  ∃ (f : Addr) (fd : FuncData), FnOk P w K mg base CX k f fd ps sp ∧ mg x = some (.ref f) ∧ PySem.W.keepIn K (.ref f) = true ∧ Binds K fd ps []
theorem ok_of {P : Program} {w : World} {K : PySem.W.Frag} {mg : Str → Option Value} {base : Heap} {CX : CXT} {k : Nat} {x : Str} {st : Stmt} {ps : List Str} {sp : Sp} (d : Dn K mg x st ps)
    (h : ∀ f fd, Fun K x x st f fd → FnOk P w K mg base CX k f fd ps sp) : Ok P w K mg base CX k x ps sp := by
  obtain ⟨f, fd, F, g, b⟩ := d
  exact ⟨f, fd, h f fd F, g, F.kp, b⟩
section
variable {X : Cx} {CX : CXT} {k : Nat} {ps : List Str} {sp : Sp} {E : XK} {x : Str} {p pos : Pos} {e : Expr} {es : List Expr} {t : TA}
theorem pe_callO (G : Ok X.prog X.w X.K X.mg X.base CX k x ps sp) (hr : Room k X.A) (hx : Passes CX X E) (ha : PA X (e :: es) t) (hg : Gl X x := by rfl)
    (hdb : (x == ("__debug__" : Str)) = false := by decide) (he : starEach (e :: es) X.env = (false, eval e X.env) :: starEach es X.env := by rfl) (hpl : (backTo pos (starEach es X.env)).any (·.1) = false := by rfl) :
    PE X (.Call (.Name x p) (e :: es) [] pos) (tCall sp [] E t) := by
  obtain ⟨f, fd, F, g, kp, b⟩ := G
  exact pe_call F hr hg g kp b .nil hx ha hdb he hpl
theorem pe_callO0 (G : Ok X.prog X.w X.K X.mg X.base CX k x ps sp) (hr : Room k X.A) (hx : Passes CX X E) (hg : Gl X x := by rfl) (hdb : (x == ("__debug__" : Str)) = false := by decide) :
    PE X (.Call (.Name x p) [] [] pos) (tCall sp [] E tNil) := by
  obtain ⟨f, fd, F, g, kp, b⟩ := G
  exact pe_call0 F hr hg g kp b .nil hx hdb
theorem pe_callT {Es : L2.St → XK} (G : Ok X.prog X.w X.K X.mg X.base CX k x ps sp) (hr : Room k X.A) (hx : ∀ σ, PassesAt CX X σ (Es σ)) (ha : PA X (e :: es) t) (hg : Gl X x := by rfl)
    (hdb : (x == ("__debug__" : Str)) = false := by decide) (he : starEach (e :: es) X.env = (false, eval e X.env) :: starEach es X.env := by rfl) (hpl : (backTo pos (starEach es X.env)).any (·.1) = false := by rfl) :
    PE X (.Call (.Name x p) (e :: es) [] pos) (tCallS sp Es t) := by
  obtain ⟨f, fd, F, g, kp, b⟩ := G
  exact pe_callS F hr hg g kp b hx ha hdb he hpl
end
/-! ### errors: raised where nothing is handled -/
/-- what leaves a def: L2N's way -/
abbrev CXN (P : Program) (w : World) : CXT := L2N.CX P w
theorem passN {X : Cx} : Passes (CXN X.prog X.w) X E0 := fun _ _ _ _ _ _ _ h => by
  obtain ⟨_, _, _, _, _, _, _, _, _, _, _, _, z⟩ := h
  exact z.elim
theorem takesN {X : Cx} : L2N.Takes X (fun _ _ _ _ => False) := fun _ _ x => by
  obtain ⟨_, _, _, _, _, _, _, _, _, _, _, _, _, _, _, _, z⟩ := x
  exact z.elim
theorem passX {X : Cx} {E E' : XK} (tk : L2N.Takes X (fun cls d _ H => E cls d H)) (h : ∀ cls d H, E' cls d H → E cls d H) : Passes (CXN X.prog X.w) X E' := fun pins σ H s e s' I c => tk e s' (L2N.XE.of_call I (fun cls d H' q => h cls d H' q) c)
theorem okN {P : Program} {w : World} {K : PySem.W.Frag} {mg : Str → Option Value} {base : Heap} {x qual : Str} {st : Stmt} {f : Addr} {fd : FuncData} {N ps : List Str} {k : Nat} {sp : Sp} (F : Fun K x qual st f fd) (S : FnScope N ps (defScope st)) (len : ∀ vs H Q E, sp vs H Q E → vs.length = ps.length)
    (hbody : ∀ (cdv : Value) (A : Around) (outer : List Env) (s : Shared) (H : Hp) (vs : List V) (Q : VK) (E : XK), Room k (A.deeper (envOfC qual (defScope st) s.heap.objs.size f cdv)) → sp vs H Q E →
      ∃ t, PSs (cxOf (CXN P w) P w K mg base N qual (defScope st) f cdv A outer s H E) (defBody st) t ∧ t { nx := fun _ H' => Q .non H', rt := Q } (L2.start N vs) H) : FnOk P w K mg base (CXN P w) (k + 1) f fd ps sp := by
  obtain ⟨oc, od, kV, doc, pm, an, cdv, ct, osl, rfl, lk, hcd⟩ := F.ex
  exact fn_of lk hcd S len fun A outer s H vs Q E hr hsp => hbody cdv A outer s H vs Q E hr hsp
section
variable {X : Cx}
/-- X(e) -/
theorem pmk_own1 {C : Addr} {bmB : List Value} {B newId initId : String} {x : Str} {e : Expr} {ta : TE} {p pos : Pos} (F : ExcBaseFacts B newId initId bmB) (q : PySem.W.excIn X.K C bmB newId = true) (gC : X.mg x = some (.ref C)) (kC : PySem.W.keepIn X.K (.ref C) = true) (r : Raises X (.ref C)) (hg : Gl X x)
    (he : PE X e ta) (hs : starEach [e] X.env = (false, eval e X.env) :: starEach [] X.env := by rfl) (hdb : (x == ("__debug__" : Str)) = false := by decide) :
    L2N.PMk X (.Call (.Name x p) [e] [] pos) (fun σ H Q => ta σ H fun _ H1 => Q (.ref C) none H1) := by
  intro pins s σ H Q I h
  refine wpAny_Call_Name_kw (ld_glob I hg gC ?_ hdb)
  refine PySem.W.callWith_K (h₀ := X.base) I.ok.mod.kin kC ?_ hs (by rfl)
  rw [hs]
  show wpAny _ _ (spliced ((false, eval e X.env) :: backTo pos (starEach [] X.env))) _ _ s
  refine Calls.spliced_cons (thn (he.run pins s σ H _ I h) fun u s1 ⟨v, H1, I1, r1, q1⟩ => ?_)
  refine Calls.spliced_nil ⟨I1.kIn, ?_⟩
  show wpAny _ _ (call (.ref C) [u]) _ _ _
  obtain ⟨bm, N, nm, qn, bs, hdct, sn, sub, ab, col, dd, k0, k1, k2, k3, k5, mN, hC, hN, hni, T⟩ := exc_obj I1.kIn q
  refine wpAny_call_exc_subT F T hC hN hni (fun h' e hm => ?_) (by show 1 ≤ sizeLine; rw [sizeLine_eq]; omega)
  exact L2N.mk_of I1 hm r q1 (I1.hok.gone hm.new)
end
/-! ### defs called within an except suite -/
def OkH (P : Program) (w : World) (K : PySem.W.Frag) (mg : Str → Option Value) (base : Heap) (CX : CXT) (k : Nat) (x : Str) (ps : List Str) (sp : Sp) : Prop :=
  ∃ (f : Addr) (fd : FuncData), L2H.FnH P w K mg base CX k f fd ps sp ∧ mg x = some (.ref f) ∧ PySem.W.keepIn K (.ref f) = true ∧ Binds K fd ps []
theorem okH_of {P : Program} {w : World} {K : PySem.W.Frag} {mg : Str → Option Value} {base : Heap} {k : Nat} {x : Str} {st : Stmt} {N ps : List Str} {sp : Sp} (d : Dn K mg x st ps) (S : FnScope N ps (defScope st)) (len : ∀ vs H Q E, sp vs H Q E → vs.length = ps.length)
    (hbody : ∀ (f : Addr) (cdv : Value) (A : Around) (outer : List Env) (s : Shared) (H : Hp) (vs : List V) (Q : VK) (E : XK) (p : Addr × Obj), L2H.Hot1 A p → L2H.RoomH k (A.deeper (envOfC x (defScope st) s.heap.objs.size f cdv)) → sp vs H Q E →
      ∃ t, PSs (L2H.cxH CX0 P w K mg base N x (defScope st) f cdv A outer s H E p) (defBody st) t ∧ t { nx := fun _ H' => Q .non H', rt := Q } (L2.start N vs) H) : OkH P w K mg base CX0 (k + 1) x ps sp := by
  obtain ⟨f, fd, F, g, b⟩ := d
  refine ⟨f, fd, ?_, g, F.kp, b⟩
  obtain ⟨oc, od, kV, doc, pm, an, cdv, ct, osl, rfl, lk, hcd⟩ := F.ex
  exact L2H.fn_ofH lk hcd S len fun A outer s H vs Q E p hot hr hsp => hbody f cdv A outer s H vs Q E p hot hr hsp
section
variable {X : Cx} {k : Nat} {ps : List Str} {sp : Sp} {x : Str} {p pos : Pos} {e : Expr} {es : List Expr} {t : TA}
theorem pe_callHO (G : OkH X.prog X.w X.K X.mg X.base CX0 k x ps sp) (hr : L2H.RoomH k X.A) (hc : L2H.HotC X) (ha : PA X (e :: es) t) (hg : Gl X x := by rfl)
    (hdb : (x == ("__debug__" : Str)) = false := by decide) (he : starEach (e :: es) X.env = (false, eval e X.env) :: starEach es X.env := by rfl) (hpl : (backTo pos (starEach es X.env)).any (·.1) = false := by rfl) :
    PE X (.Call (.Name x p) (e :: es) [] pos) (tCallS sp (fun _ => E0) t) := by
  obtain ⟨f, fd, F, g, kp, b⟩ := G
  exact L2H.pe_callH F hr hc hg g kp b (fun _ _ _ _ _ _ _ h => h.elim) ha hdb he hpl
theorem roomS {k j : Nat} {A : Around} {h : Option Value} (hr : Room k A) (hj : j ≤ k) : L2H.RoomH j (A.mark h) := L2H.RoomH.mono (k := k) ⟨hr.dp, hr.un⟩ hj
theorem hotS {a : Addr} {oe : Obj} {cls : Value} {d : Option Addr} {pn : List (Addr × Obj)} (hz : L2N.Zn cls d oe) (hf : ∃ vs, oe.data = .fields vs) : L2H.HotC (X.suite a ((a, oe) :: pn)) := by
  obtain ⟨vs, e⟩ := hf
  exact ⟨(a, oe), ⟨rfl, vs, e, hz.2.2 vs e⟩, List.mem_cons_self⟩
end
/-! ### names of the module -/
/-- the name x of the module holds v -/
def CV (mg : Str → Option Value) (x : Str) (v : V) : Prop := ∃ u, mg x = some u ∧ RelV v u
theorem pe_globC {X : Cx} {x : Str} {v : V} {pos : Pos} (hg : Gl X x) (h : CV X.mg x v) (hd : (x == ("__debug__" : Str)) = false := by decide) : PE X (.Name x pos) (tC v) := by
  obtain ⟨u, hm, r⟩ := h
  exact pe_glob hg hm r hd
theorem pe_globR {X : Cx} {x : Str} {a : Addr} {pos : Pos} (hg : Gl X x) (h : X.mg x = some (.ref a)) (hd : (x == ("__debug__" : Str)) = false := by decide) : PE X (.Name x pos) (tC (.ref a)) := pe_glob hg h rfl hd
/-! ### tests -/
theorem itd {p A B : Prop} [Decidable p] (h1 : p → A) (h2 : ¬ p → B) : if decide p = true then A else B := by
  by_cases h : p
  · rw [if_pos (decide_eq_true h)]
    exact h1 h
  · rw [if_neg (by simp [h])]
    exact h2 h
theorem itb {b : Bool} {A B : Prop} (h1 : b = true → A) (h2 : b = false → B) : if b = true then A else B := by
  cases b with
  | true => exact iteT (h1 rfl)
  | false => exact iteF (h2 rfl)
/-! ### error classes -/
/-- an error class that may have an own __init__ -/
structure XB (K : PySem.W.Frag) (mg : Str → Option Value) (x : Str) (C : Addr) : Prop where
  g : mg x = some (.ref C)
  k : PySem.W.keepIn K (.ref C) = true
  b : PySem.W.subIn K (.ref C) (.type "BaseException") = some true
  t : PySem.W.typeIn K (.ref C) = some (.type "type")
  d : PySem.W.hasDictIn K C = true
  i : PySem.W.isClsIn K C = true
/-- an error class without an own __init__ -/
structure XCl (K : PySem.W.Frag) (mg : Str → Option Value) (x : Str) (C : Addr) : Prop extends XB K mg x C where
  x : PySem.W.excIn K C [.type "ValueError", .type "Exception", .type "BaseException", .type "object"] "ValueError.__new__" = true
  e : ExcC K C
section
variable {K : PySem.W.Frag} {h : Heap} {mg : Str → Option Value} {x : Str} {C : Addr}
theorem xb_mk (X : K.In h) (G : h.Ns mainGlobals mg) (a : PySem.W.nsIn K mainGlobals x = some (some (.ref C))) (k : PySem.W.keepIn K (.ref C) = true) (b : PySem.W.subIn K (.ref C) (.type "BaseException") = some true)
    (t : PySem.W.typeIn K (.ref C) = some (.type "type")) (d : PySem.W.hasDictIn K C = true) (i : PySem.W.isClsIn K C = true) : XB K mg x C := ⟨PySem.W.mg_of X G a, k, b, t, d, i⟩
theorem xcl_mk (X : K.In h) (G : h.Ns mainGlobals mg) (a : PySem.W.nsIn K mainGlobals x = some (some (.ref C)))
    (q : PySem.W.excIn K C [.type "ValueError", .type "Exception", .type "BaseException", .type "object"] "ValueError.__new__" = true) (k : PySem.W.keepIn K (.ref C) = true)
    (b : PySem.W.subIn K (.ref C) (.type "BaseException") = some true) (t : PySem.W.typeIn K (.ref C) = some (.type "type"))
    (hg : PySem.W.findIn K (.ref C) "__getattribute__" = some (some (.builtin "BaseException.__getattribute__"))) (hk : PySem.W.findIn K (.ref C) "__getattr__" = some none) (hd : PySem.W.hasDictIn K C = true)
    (ha : PySem.W.findIn K (.ref C) "__class__" = some (some (.builtin "object.__class__"))) (hn : PySem.W.specialIn K (.builtin "object.__class__") "__get__" = some (some (.builtin "getset_descriptor.__get__")))
    (ht : PySem.W.takesIn K (.builtin "object.__class__") = some true) (hm : PySem.W.mroIn K C (.type "object") = some true) (i : PySem.W.isClsIn K C = true) : XCl K mg x C :=
  ⟨⟨PySem.W.mg_of X G a, k, b, t, hd, i⟩, q, ⟨hg, hk, b, hd, ha, hn, ht, hm⟩⟩
/-- isinstance of an own class -/
theorem kit_own {D : Addr} {r : Bool} (i : PySem.W.isClsIn K C = true) (t : PySem.W.typeIn K (.ref C) = some (.type "type")) (s : PySem.W.subIn K (.ref D) (.ref C) = some r) (hne : (Value.ref D == Value.ref C) = true → r = true) :
    PySem.W.kitOne K (.ref D) (.ref C) = some r := by
  unfold PySem.W.kitOne
  cases e : (Value.ref D == Value.ref C) with
  | true => rw [if_pos rfl, hne e]
  | false =>
    rw [if_neg Bool.false_ne_true]
    have h2 : ((PySem.W.clsIn K C).isSome && PySem.W.typeIn K (.ref C) == some (.type "type")) = true := by
      have h2' : (PySem.W.clsIn K C).isSome = true := i
      rw [h2', t] <;> rfl
    show (if ((PySem.W.clsIn K C).isSome && PySem.W.typeIn K (.ref C) == some (.type "type")) = true then PySem.W.subIn K (.ref D) (.ref C) else none) = some r
    rw [if_pos h2, s]
theorem kit_ve {D : Addr} (s : PySem.W.subIn K (.ref D) (.type "ValueError") = some true) : PySem.W.kitOne K (.ref D) (.type "ValueError") = some true := by
  have e : (Value.ref D == Value.type "ValueError") = false := rfl
  unfold PySem.W.kitOne
  rw [e, if_neg Bool.false_ne_true]
  show (if PySem.W.kitMeta "ValueError" = true then PySem.W.subIn K (.ref D) (.type "ValueError") else none) = some true
  rw [if_pos (by decide +kernel), s]
/-- except C takes an error of the class at D -/
theorem exm_own {D : Addr} {r : Bool} {y : Str} (c : XB K mg y C) (s : PySem.W.subIn K (.ref D) (.ref C) = some r) : PySem.W.exmOne K (.ref D) (.ref C) = some r := PySem.W.exm_ref c.b c.d c.t s
/-! ### the facts of the top -/
theorem dn_mk {st : Stmt} {ps : List Str} {f : Addr} {oc : Value} {od an : Option Addr} {osl : Array (Option Value)} {kV doc pm cdv ct : Value} (X : K.In h) (G : h.Ns mainGlobals mg) (a : PySem.W.nsIn K mainGlobals x = some (some (.ref f)))
    (l : K.lookup f = some ⟨oc, od, .func (PySem.W.fnOf x x (defArgs st) (defBody st) (defScope st) .none kV doc pm an cdv ct), osl⟩) (c : PySem.W.codeIn K cdv x = true) (k : PySem.W.keepIn K (.ref f) = true)
    (hb : ∀ (kV doc pm : Value) (an : Option Addr) (cdv ct : Value) (us : List Value), us.length = ps.length → bindArgs (PySem.W.fnOf x x (defArgs st) (defBody st) (defScope st) .none kV doc pm an cdv ct) ⟨us, []⟩ = pure (ps.zip us)) : Dn K mg x st ps :=
  ⟨f, _, fun_mk l c k, PySem.W.mg_of X G a, (fun_mk l c k).binds hb⟩
theorem cv_int {i : Int} {t : Tok} (X : K.In h) (G : h.Ns mainGlobals mg) (a : PySem.W.nsIn K mainGlobals x = some (some (.int i t))) : CV mg x (.int i) := ⟨_, PySem.W.mg_of X G a, _, rfl⟩
theorem cv_str {i : Str} {t : Tok} (X : K.In h) (G : h.Ns mainGlobals mg) (a : PySem.W.nsIn K mainGlobals x = some (some (.str i t))) : CV mg x (.str i) := ⟨_, PySem.W.mg_of X G a, _, rfl⟩
theorem cv_bl {i : Bool} (X : K.In h) (G : h.Ns mainGlobals mg) (a : PySem.W.nsIn K mainGlobals x = some (some (.bool i))) : CV mg x (.bl i) := ⟨_, PySem.W.mg_of X G a, rfl⟩
/-- the name x of the module holds a tuple of the written part -/
def CT (K : PySem.W.Frag) (mg : Str → Option Value) (x : Str) (xs : List V) : Prop := ∃ p, mg x = some (.ref p) ∧ ∀ H, SqT K H p xs
theorem ct_mk {p : Addr} {od : Option Addr} {its : Array Value} {n : Nat} {sl : Array (Option Value)} {xs : List V} (X : K.In h) (G : h.Ns mainGlobals mg) (a : PySem.W.nsIn K mainGlobals x = some (some (.ref p)))
    (l : K.lookup p = some ⟨.type "tuple", od, .seq its n, sl⟩) (hs : its.size ≤ sizeLine) (hv : Vals xs its.toList) : CT K mg x xs :=
  ⟨p, PySem.W.mg_of X G a, fun _ => .inr ⟨_, its, n, l, rfl, rfl, hs, hv⟩⟩
end
theorem pe_globT {X : Cx} {x : Str} {xs : List V} {pos : Pos} (hg : Gl X x) (h : CT X.K X.mg x xs) (hd : (x == ("__debug__" : Str)) = false := by decide) :
    PE X (.Name x pos) (fun _ H Q => ∀ p, (∀ H', SqT X.K H' p xs) → Q (.ref p) H) := by
  obtain ⟨p, hm, hs⟩ := h
  exact ⟨fun pins s σ H Q I h => (pe_glob hg hm (v := .ref p) rfl hd).run pins s σ H Q I (h p hs)⟩
/-! ### a suite that is read for known errors alone -/
theorem pss_guard {X : Cx} {st : List Stmt} {p : Prop} {t : TS} (h : p → PSs X st t) : PSs X st (fun D σ H => p ∧ t D σ H) :=
  ⟨fun pins s σ H D I q => (h q.1).run pins s σ H D I q.2⟩
theorem to_true {Q : VK} {b : Bool} {H : Hp} (h : b = true) (q : Q (.bl true) H) : Q (.bl b) H := h ▸ q
/-- a new object at p stays the only one that changes -/
theorem same_new {H H' : Hp} {p : Addr} {o : HO} (e : Same H H') (hp : H p = none) : Same H (upd H' p o) := Evl.Ex.mut e hp
theorem same_upd {H : Hp} {p : Addr} {o : HO} (hp : H p = none) : Same H (upd H p o) := Evl.Ex.new hp
theorem tyx_list {K : PySem.W.Frag} {H : Hp} {a : Addr} {xs : List V} (h : SqL K H a xs) : TyX K H (.ref a) (.type "list") := by
  rcases h with (h | ⟨o, h⟩) | ⟨o, its, n, h, hc, _⟩
  · exact .base (.lst h)
  · exact .base (.frz h)
  · exact .kList h hc
theorem tyx_tuple {K : PySem.W.Frag} {H : Hp} {a : Addr} {xs : List V} (h : SqT K H a xs) : TyX K H (.ref a) (.type "tuple") := by
  rcases h with (h | ⟨o, h⟩) | ⟨o, its, n, h, hc, _⟩
  · exact .base (.tup h)
  · exact .fTuple h
  · exact .kTuple h hc
theorem small {n : Nat} (h : n ≤ 100000) : n < sizeLine := Nat.lt_of_le_of_lt h (by decide)
theorem smallE {n : Nat} (h : n ≤ 100000) : n ≤ sizeLine := Nat.le_trans h (by decide)
/-- for .. in enumerate(list) -/
theorem for_enum {K : PySem.W.Frag} {a : Addr} {xs : List V} {g : TG} {tb : TS} {D : Ends} {σ : L2.St} {H : Hp} (Pv : Nat → L2.St → Hp → Prop) (h0 : Pv 0 σ H) (hl : ∀ i σ H, i ≤ xs.length → Pv i σ H → SqL K H a xs)
    (hs : ∀ i x T σ H, xs[i]? = some x → Pv i σ H → H T = none → g (.ref T) σ (upd H T (.tup [.int (i : Nat), x])) fun σ2 H2 => tb { D with nx := Pv (i + 1), ct := Pv (i + 1), bk := D.nx } σ2 H2) (hd : ∀ σ H, Pv xs.length σ H → D.nx σ H) :
    ∃ W : Nat → Nat → L2.St → Hp → Prop, (∃ m, W 0 m σ H) ∧ ∀ i m σ H, W i m σ H →
      ((Ite K a).stop i H ∧ D.nx σ H) ∨ ((Ite K a).go i H ∧ ∃ N : L2.St → Hp → Prop, (∀ σ' H', N σ' H' → ∃ m', m' < m ∧ W (i + 1) m' σ' H') ∧ ∀ x H', (Ite K a).yld i H x H' → g x σ H' fun σ2 H2 => tb { D with nx := N, ct := N, bk := D.nx } σ2 H2) := by
  refine ⟨fun i m σ H => m = xs.length - i ∧ i ≤ xs.length ∧ Pv i σ H, ⟨xs.length, by simp, Nat.zero_le _, h0⟩, ?_⟩
  rintro i m σ H ⟨rfl, hi, p⟩
  have q := hl i σ H hi p
  by_cases hlt : i < xs.length
  · refine .inr ⟨⟨xs, xs[i], q, by simp [hlt]⟩, Pv (i + 1), fun σ' H' p' => ⟨xs.length - (i + 1), by omega, rfl, hlt, p'⟩, fun x H' y => ?_⟩
    obtain ⟨T, z, rfl, hT, rfl, y⟩ := y
    exact hs i z T σ H (y xs q) p hT
  · have e : i = xs.length := by omega
    subst e
    exact .inl ⟨⟨xs, q, Nat.le_refl _⟩, hd σ H p⟩
/-- an item of a list by a number that is told -/
theorem at_nat {α : Type} {xs : List α} {i : Int} {j : Nat} {v : α} (e : i = (j : Int)) (h : xs[j]? = some v) : atI xs i = some v := e ▸ atI_nat h
theorem ix_nat {n j : Nat} {i : Int} (e : i = (j : Int)) (h : j < n) : ixN n i = some j := e ▸ Evl.ixN_nat h
/-! ### rules whose reading names the written part by itself (for the bodies and suites of a try) -/
def rLenK (K : PySem.W.Frag) : List V → Hp → VK → Prop := fun xs H Q => ∃ p ys, xs = [.ref p] ∧ (SqL K H p ys ∨ SqT K H p ys) ∧ Q (.int ys.length) H
theorem call_lenK {X : Cx} {K : PySem.W.Frag} (h : X.K = K := by rfl) : CallR X (.builtin "len") (rLenK K) := by
  subst h
  exact call_len_seq
theorem op_eqDK {X : Cx} {K : PySem.W.Frag} (hu : X.A.units + 64 < cLine) (h : X.K = K := by rfl) : OpR X (compareOp .Eq) (rEqD K) := by
  subst h
  exact op_eqD hu
theorem op_neDK {X : Cx} {K : PySem.W.Frag} (hu : X.A.units + 64 < cLine) (h : X.K = K := by rfl) : OpR X (compareOp .NotEq) (rNeD K) := by
  subst h
  exact op_neD hu
theorem call_isiK' {X : Cx} {K : PySem.W.Frag} (h : X.K = K := by rfl) : CallR X (.builtin "isinstance") (rIsi K) := by
  subst h
  exact call_isi
def rListK (K : PySem.W.Frag) : List V → Hp → VK → Prop := fun xs H Q => ∃ p ys, xs = [.ref p] ∧ (SqL K H p ys ∨ SqT K H p ys) ∧ ∀ l, H l = none → Q (.ref l) (upd H l (.lst ys))
theorem call_list_ofK {X : Cx} {K : PySem.W.Frag} (h : X.K = K := by rfl) : CallR X (.type "list") (rListK K) := by
  subst h
  exact call_list_of
theorem sl_listK {X : Cx} {K : PySem.W.Frag} (h : X.K = K := by rfl) : SlR X (rSlL K) := by
  subst h
  exact sl_list
/-! ### slices -/
theorem sIx_nat {n k : Nat} (d : Nat) (h : k ≤ n) : HT.sIx n d (some (k : Int)) = k := by
  simp only [HT.sIx]
  split <;> omega
theorem cut_to {xs : List V} {k : Nat} (h : k ≤ xs.length) : cutV xs none (some (k : Int)) = xs.take k := by
  unfold cutV
  rw [sIx_nat _ h]
  simp [HT.sIx]
theorem cut_from {xs : List V} {k : Nat} (h : k ≤ xs.length) : cutV xs (some (k : Int)) none = xs.drop k := by
  unfold cutV
  rw [sIx_nat _ h]
  simp only [HT.sIx]
  rw [List.take_of_length_le (by rw [List.length_drop]; omega)]
theorem cut_mid {xs : List V} {j k : Nat} (h1 : j ≤ k) (h : k ≤ xs.length) : cutV xs (some (j : Int)) (some (k : Int)) = (xs.drop j).take (k - j) := by
  unfold cutV
  rw [sIx_nat _ h, sIx_nat _ (Nat.le_trans h1 h)]
/-! ### data -/
mutual
theorem dp_mono {K : PySem.W.Frag} {H H' : Hp} (e : Same H H') : ∀ {d : PyData} {v : V}, Dp K H v d → Dp K H' v d
  | _, _, .non => .non
  | _, _, .bl b => .bl b
  | _, _, .int i => .int i
  | _, _, .str x => .str x
  | _, _, .lst h r => .lst (e.seq h) (dpAll_mono e r)
  | _, _, .tup h r => .tup (Evl.ex_t e h) (dpAll_mono e r)
theorem dpAll_mono {K : PySem.W.Frag} {H H' : Hp} (e : Same H H') : ∀ {ds : List PyData} {vs : List V}, DpAll K H vs ds → DpAll K H' vs ds
  | _, _, .nil => .nil
  | _, _, .cons h r => .cons (dp_mono e h) (dpAll_mono e r)
end
theorem dp_ints {K : PySem.W.Frag} {H : Hp} : ∀ (ns : List Int), DpAll K H (ns.map V.int) (ns.map PyData.int)
  | [] => .nil
  | n :: ns => .cons (.int n) (dp_ints ns)
theorem canLayAll_ints : ∀ (ns : List Int), PyData.canLayAll0 (ns.map PyData.int) = true
  | [] => rfl
  | n :: ns => by simp [PyData.canLayAll0, PyData.canLay0, canLayAll_ints ns]
theorem depthAll_ints : ∀ (ns : List Int), PyData.depthAll (ns.map PyData.int) = 0
  | [] => rfl
  | n :: ns => by simp [PyData.depthAll, PyData.depth, depthAll_ints ns]
theorem shaped_ints (ns : List Int) : SeqAt.shaped (.list (ns.map PyData.int)) = true := by
  simp [SeqAt.shaped, PyData.canLay0, PyData.depth, canLayAll_ints, depthAll_ints]
theorem eqvAll_ints : ∀ (ns ms : List Int), PyData.eqvAll (ns.map PyData.int) (ms.map PyData.int) = decide (ns = ms)
  | [], [] => by simp [PyData.eqvAll]
  | [], m :: ms => by simp [PyData.eqvAll]
  | n :: ns, [] => by simp [PyData.eqvAll]
  | n :: ns, m :: ms => by
    by_cases h : n = m <;> simp [PyData.eqvAll, PyData.eqv, eqvAll_ints ns ms, h]
theorem eqv_ints (ns ms : List Int) : PyData.eqv (.list (ns.map PyData.int)) (.list (ms.map PyData.int)) = decide (ns = ms) := by
  rw [PyData.eqv]
  exact eqvAll_ints ns ms
theorem shaped_pair (as bs : List Int) : SeqAt.shaped (.tuple [.list (as.map PyData.int), .list (bs.map PyData.int)]) = true := by
  simp [SeqAt.shaped, PyData.canLay0, PyData.canLayAll0, PyData.depth, PyData.depthAll, canLayAll_ints, depthAll_ints]
theorem eqv_refl' {d : PyData} (h : SeqAt.shaped d = true) : PyData.eqv d d = true := SeqAt.eqv_refl _ (SeqAt.canLay_of_shaped h)
theorem dp_list {K : PySem.W.Frag} {H : Hp} {a : Addr} {ns : List Int} (h : SqL K H a (ns.map V.int)) : Dp K H (.ref a) (.list (ns.map PyData.int)) := .lst h (dp_ints ns)
theorem get_ints {ns : List Int} {i : Nat} {y : V} (h : (ns.map V.int)[i]? = some y) : ∃ (hi : i < ns.length), y = V.int ns[i] := by
  rw [List.getElem?_map] at h
  by_cases hi : i < ns.length
  · rw [List.getElem?_eq_getElem hi] at h
    exact ⟨hi, (Option.some.inj h).symm⟩
  · rw [List.getElem?_eq_none (Nat.le_of_not_lt hi)] at h
    cases h
theorem take_snoc {α : Type} {l : List α} {i : Nat} (hi : i < l.length) : l.take (i + 1) = l.take i ++ [l[i]] := by
  rw [List.take_add_one, List.getElem?_eq_getElem hi]
  rfl
/-! ### the script's cells -/
def cell (ns : List Int) (k : Nat) : Int := ns.getD k 0
theorem cell_in {ns : List Int} {k : Nat} (hk : k < ns.length) : cell ns k = ns[k] := by simp [cell, List.getD_eq_getElem?_getD, List.getElem?_eq_getElem hk]
theorem cell_out {ns : List Int} {k : Nat} (hk : ¬ k < ns.length) : cell ns k = 0 := by simp [cell, List.getD_eq_getElem?_getD, List.getElem?_eq_none (Nat.le_of_not_lt hk)]
end Cm

namespace My
open PySem PySem.Spec PyProof.Rows L2 Cm 
def top (i : Nat) : Stmt := PySem.Challenge.pw_scanpages_k34_groups_of_pages.main.body.getD i (.Pass ⟨0, 0, 0, 0⟩)
abbrev s_is_group : Stmt := (top 8)
abbrev N_is_group : List Str := ["size", "checks"]
theorem sc_is_group : FnScope N_is_group ["size", "checks"] (defScope s_is_group) := ⟨rfl, rfl, rfl, by decide +kernel, rfl, by decide +kernel, by decide +kernel⟩
abbrev s_group_count : Stmt := (top 9)
abbrev N_group_count : List Str := ["data_pages", "size"]
theorem sc_group_count : FnScope N_group_count ["data_pages", "size"] (defScope s_group_count) := ⟨rfl, rfl, rfl, by decide +kernel, rfl, by decide +kernel, by decide +kernel⟩
abbrev s_all_pages : Stmt := (top 10)
abbrev N_all_pages : List Str := ["data_pages", "size", "checks"]
theorem sc_all_pages : FnScope N_all_pages ["data_pages", "size", "checks"] (defScope s_all_pages) := ⟨rfl, rfl, rfl, by decide +kernel, rfl, by decide +kernel, by decide +kernel⟩
abbrev s_check_label : Stmt := (top 11)
abbrev N_check_label : List Str := ["label", "archive", "page", "data_pages", "size", "checks", "pages"]
theorem sc_check_label : FnScope N_check_label ["label"] (defScope s_check_label) := ⟨rfl, rfl, rfl, by decide +kernel, rfl, by decide +kernel, by decide +kernel⟩
abbrev s_group_pages : Stmt := (top 12)
abbrev N_group_pages : List Str := ["label", "group", "_", "data_pages", "size", "checks", "first", "first_check"]
theorem sc_group_pages : FnScope N_group_pages ["label", "group"] (defScope s_group_pages) := ⟨rfl, rfl, rfl, by decide +kernel, rfl, by decide +kernel, by decide +kernel⟩
abbrev s__law_cell : Stmt := (top 14)
abbrev N__law_cell : List Str := ["script", "k"]
theorem sc__law_cell : FnScope N__law_cell ["script", "k"] (defScope s__law_cell) := ⟨rfl, rfl, rfl, by decide +kernel, rfl, by decide +kernel, by decide +kernel⟩
abbrev s__law_is_int : Stmt := (top 15)
abbrev N__law_is_int : List Str := ["value"]
theorem sc__law_is_int : FnScope N__law_is_int ["value"] (defScope s__law_is_int) := ⟨rfl, rfl, rfl, by decide +kernel, rfl, by decide +kernel, by decide +kernel⟩
abbrev s__law_is_list : Stmt := (top 16)
abbrev N__law_is_list : List Str := ["value", "least", "greatest", "item"]
theorem sc__law_is_list : FnScope N__law_is_list ["value", "least", "greatest"] (defScope s__law_is_list) := ⟨rfl, rfl, rfl, by decide +kernel, rfl, by decide +kernel, by decide +kernel⟩
abbrev s__law_label : Stmt := (top 17)
abbrev N__law_label : List Str := ["cell", "size", "checks", "data", "pages", "number"]
theorem sc__law_label : FnScope N__law_label ["cell"] (defScope s__law_label) := ⟨rfl, rfl, rfl, by decide +kernel, rfl, by decide +kernel, by decide +kernel⟩
abbrev s__law_label_symbols : Stmt := (top 18)
abbrev N__law_label_symbols : List Str := ["label", "symbols", "value"]
theorem sc__law_label_symbols : FnScope N__law_label_symbols ["label"] (defScope s__law_label_symbols) := ⟨rfl, rfl, rfl, by decide +kernel, rfl, by decide +kernel, by decide +kernel⟩
abbrev s__law_refused : Stmt := (top 19)
abbrev N__law_refused : List Str := ["label", "group", "e"]
theorem sc__law_refused : FnScope N__law_refused ["label", "group"] (defScope s__law_refused) := ⟨rfl, rfl, rfl, by decide +kernel, rfl, by decide +kernel, by decide +kernel⟩
abbrev s_law : Stmt := (top 20)
abbrev N_law : List Str := ["script", "label", "archive", "number", "data", "size", "checks", "seen", "groups", "group", "pages", "due", "k"]
theorem sc_law : FnScope N_law ["script"] (defScope s_law) := ⟨rfl, rfl, rfl, by decide +kernel, rfl, by decide +kernel, by decide +kernel⟩
structure Txt (K : PySem.W.Frag) (mg : Str → Option Value) (C_ArchiveError C_InvalidLabel : Addr) : Prop where
  d_is_group : Dn K mg "is_group" s_is_group ["size", "checks"]
  d_group_count : Dn K mg "group_count" s_group_count ["data_pages", "size"]
  d_all_pages : Dn K mg "all_pages" s_all_pages ["data_pages", "size", "checks"]
  d_check_label : Dn K mg "check_label" s_check_label ["label"]
  d_group_pages : Dn K mg "group_pages" s_group_pages ["label", "group"]
  d__law_cell : Dn K mg "_law_cell" s__law_cell ["script", "k"]
  d__law_is_int : Dn K mg "_law_is_int" s__law_is_int ["value"]
  d__law_is_list : Dn K mg "_law_is_list" s__law_is_list ["value", "least", "greatest"]
  d__law_label : Dn K mg "_law_label" s__law_label ["cell"]
  d__law_refused : Dn K mg "_law_refused" s__law_refused ["label", "group"]
  d_law : Dn K mg "law" s_law ["script"]
  c_GREATEST_GROUP : CV mg "GREATEST_GROUP" (.int 12)
  c_MOST_GROUP_PAGES : CV mg "MOST_GROUP_PAGES" (.int 16)
  c_MOST_PAGES : CV mg "MOST_PAGES" (.int 255)
  c_GREATEST_ARCHIVE : CV mg "GREATEST_ARCHIVE" (.int 255)
  n_list : mg "list" = none
  n_range : mg "range" = none
  n_min : mg "min" = none
  n_len : mg "len" = none
  n_int : mg "int" = none
  n_isinstance : mg "isinstance" = none
  n_bool : mg "bool" = none
  n_sorted : mg "sorted" = none
  x_ArchiveError : XCl K mg "ArchiveError" C_ArchiveError
  x_InvalidLabel : XCl K mg "InvalidLabel" C_InvalidLabel
  s_InvalidLabel_ArchiveError : PySem.W.subIn K (.ref C_InvalidLabel) (.ref C_ArchiveError) = some true
  q_InvalidLabel_InvalidLabel : PySem.W.kitOne K (.ref C_InvalidLabel) (.ref C_InvalidLabel) = some true
section
variable {P : Program} {w : World} {K : PySem.W.Frag} {mg : Str → Option Value} {base : Heap} {C_ArchiveError C_InvalidLabel : Addr}
/-- the cell's promise -/
def spCell (K : PySem.W.Frag) : Sp := fun vs H Q _ => ∃ (l : Addr) (ns : List Int) (k : Nat), vs = [.ref l, .int (k : Int)] ∧ SqL K H l (ns.map V.int) ∧ Q (.int (cell ns k)) H
theorem ok__law_cell (T : Txt K mg C_ArchiveError C_InvalidLabel) : Ok P w K mg base CX0 1 "_law_cell" ["script", "k"] (spCell K) := by
  refine ok_of T.d__law_cell fun f fd F => F.ok sc__law_cell (fun vs H Q E h => ?_) (fun cdv A outer s H vs Q E hr h => ?_)
  · obtain ⟨l, ns, k, rfl, _⟩ := h
    rfl
  · obtain ⟨l, ns, k, rfl, hs, q⟩ := h
    refine ⟨_,       (pss_cons (ps_if (pt_cmpR op_lt (pv 1) (pe_callB call_len_seq (by rfl) T.n_len PySem.boot_len (pa_cons (pv 0) pa_nil)) (nomark _))
        (pss_one (ps_ret (pe_callTy call_int1 (by rfl) T.n_int (by decide +kernel) (pa_cons (pe_ix ix_list (pv 0) (pv 1) (fun _ _ => rfl)) pa_nil)))) pss_nil)
      (pss_one (ps_ret pe_int))), ?_⟩
    refine ⟨_, rfl, _, rfl, l, _, rfl, .inl hs, _, _, rfl, rfl, _, rfl, itd (fun h => ?_) (fun h => ?_)⟩
    · have hk : k < ns.length := by
        rw [List.length_map] at h
        omega
      refine ⟨_, rfl, _, rfl, l, _, _, .int ns[k], rfl, rfl, hs, atI_nat (by rw [List.getElem?_map, List.getElem?_eq_getElem hk]; rfl), .inl ⟨_, rfl, ?_⟩⟩
      rw [Cm.cell_in hk] at q
      exact q
    · have hk : ¬ k < ns.length := by
        rw [List.length_map] at h
        omega
      rw [Cm.cell_out hk] at q
      exact q

def spIsInt : Sp := fun vs H Q _ => ∃ i : Int, vs = [.int i] ∧ Q (.bl true) H
theorem ok__law_is_int (T : Txt K mg C_ArchiveError C_InvalidLabel) : Ok P w K mg base CX0 1 "_law_is_int" ["value"] spIsInt := by
  refine ok_of T.d__law_is_int fun f fd F => F.ok sc__law_is_int (fun vs H Q E h => ?_) (fun cdv A outer s H vs Q E hr h => ?_)
  · obtain ⟨i, rfl, _⟩ := h
    rfl
  · obtain ⟨i, rfl, q⟩ := h
    refine ⟨_,       (pss_one (ps_ret (pe_and (pe_callB call_isi (by rfl) T.n_isinstance (by decide +kernel) (pa_cons (pv 0) (pa_cons (pe_bltn (v := .ty "int") (by rfl) T.n_int (by decide +kernel) rfl) pa_nil))) (pe_one (pe_not (pe_callB call_isi (by rfl) T.n_isinstance (by decide +kernel) (pa_cons (pv 0) (pa_cons (pe_bltn (v := .ty "bool") (by rfl) T.n_bool (by decide +kernel) rfl) pa_nil)))))))), ?_⟩
    refine ⟨_, rfl, _, _, _, _, true, rfl, .ty _, .base (.int i), kit_ty (by decide +kernel), true, rfl, iteT ?_⟩
    exact ⟨_, rfl, _, _, _, _, false, rfl, .ty _, .base (.int i), kit_ty (by decide +kernel), false, rfl, q⟩

def allIn (lo hi : Int) (ns : List Int) : Bool := ns.all fun n => decide (lo ≤ n) && decide (n ≤ hi)
def spIsList (K : PySem.W.Frag) : Sp := fun vs H Q _ => ∃ (a : Addr) (ns : List Int) (lo hi : Int), vs = [.ref a, .int lo, .int hi] ∧ SqL K H a (ns.map V.int) ∧ Q (.bl (allIn lo hi ns)) H
theorem ok__law_is_list (T : Txt K mg C_ArchiveError C_InvalidLabel) : Ok P w K mg base CX0 2 "_law_is_list" ["value", "least", "greatest"] (spIsList K) := by
  have G__law_is_int := ok__law_is_int (P := P) (w := w) (base := base) T
  refine ok_of T.d__law_is_list fun f fd F => F.ok sc__law_is_list (fun vs H Q E h => ?_) (fun cdv A outer s H vs Q E hr h => ?_)
  · obtain ⟨a, ns, lo, hi, rfl, _⟩ := h
    rfl
  · obtain ⟨a, ns, lo, hi, rfl, hs, q⟩ := h
    have nd := sc__law_is_list.nd
    refine ⟨_,       (pss_cons (ps_if (pt_not (pt_val (pe_callB call_isi (by rfl) T.n_isinstance (by decide +kernel) (pa_cons (pv 0) (pa_cons (pe_bltn (v := .ty "list") (by rfl) T.n_list (by decide +kernel) rfl) pa_nil)))))
        (pss_one (ps_ret pe_bl)) pss_nil)
      (pss_cons (ps_for PassesOwn.never rfl (pi_list (pv 0)) (pg_name (i := 3) nd rfl (Or.inl rfl))
        (pss_one (ps_if (PW.pt (pw_or (pt_not (pt_val (pe_callO G__law_is_int (hr.mono (by decide)) pass0 (pa_cons (pv 3) pa_nil)))) (pw_or (pt_cmpR op_lt (pv 3) (pv 1) (nomark _)) (pw_or1 (pt_cmpR op_gt (pv 3) (pv 2) (nomark _))))))
          (pss_one (ps_ret pe_bl)) pss_nil)))
      (pss_one (ps_ret pe_bl)))), ?_⟩
    refine ⟨_, rfl, _, _, _, _, true, rfl, .ty _, tyx_list hs, kit_ty (by decide +kernel), true, rfl, iteF ?_⟩
    refine ⟨_, rfl, a, rfl, ⟨_, hs⟩, for_list (K := K) (a := a) (xs := ns.map V.int) (fun i σ H' => H' = H ∧ allIn lo hi (ns.take i) = true ∧ ∃ v, σ = [some (.ref a), some (.int lo), some (.int hi), v]) ⟨rfl, rfl, none, rfl⟩ (fun i σ H' _ ⟨e, _⟩ => e ▸ hs) ?_ ?_⟩
    · rintro i y σ H' hi' ⟨rfl, ht, v, rfl⟩
      obtain ⟨hin, rfl⟩ := get_ints hi'
      have bad : ¬ (lo ≤ ns[i] ∧ ns[i] ≤ hi) → allIn lo hi ns = false := fun hb => by
        rw [allIn, List.all_eq_false]
        exact ⟨ns[i], List.getElem_mem hin, by simpa using fun h1 => Int.not_le.mp fun h2 => hb ⟨h1, h2⟩⟩
      refine ⟨_, rfl, _, rfl, true, rfl, iteF ?_⟩
      refine ⟨_, rfl, _, rfl, _, _, rfl, rfl, _, rfl, itd (fun h1 => ?_) (fun h1 => ?_)⟩
      · refine iteT ?_
        rw [bad (by omega)] at q
        exact q
      · refine ⟨_, rfl, _, rfl, _, _, rfl, rfl, _, rfl, itd (fun h2 => ?_) (fun h2 => ?_)⟩
        · rw [bad (by omega)] at q
          exact q
        · refine ⟨rfl, ?_, _, rfl⟩
          have e1 : (decide (lo ≤ ns[i]) && decide (ns[i] ≤ hi)) = true := by
            rw [decide_eq_true (show lo ≤ ns[i] by omega), decide_eq_true (show ns[i] ≤ hi by omega)]
            rfl
          unfold allIn at ht ⊢
          rw [take_snoc hin, List.all_append, ht, List.all_cons, e1]
          rfl
    · rintro σ H' ⟨rfl, ht, v, rfl⟩
      rw [List.length_map, List.take_length] at ht
      rw [ht] at q
      exact q

/-! ### labels -/
/-- lo, lo + 1, .. below hi -/
def rg (a b : Int) : List Int := (List.range (b - a).toNat).map fun i => a + (i : Nat)
theorem rg_V (a b : Int) : rgV a b = (rg a b).map V.int := by
  unfold rgV rg
  rw [List.map_map]
  rfl
theorem rg_nil {a b : Int} (h : b ≤ a) : rg a b = [] := by
  unfold rg
  have e : (b - a).toNat = 0 := by omega
  rw [e]
  rfl
theorem rg_len (a b : Int) : (rg a b).length = (b - a).toNat := by simp [rg]
theorem rg_snoc {a b : Int} (h : a ≤ b) : rg a (b + 1) = rg a b ++ [b] := by
  unfold rg
  have e : (b + 1 - a).toNat = (b - a).toNat + 1 := by omega
  rw [e, List.range_succ, List.map_append]
  have e2 : a + (((b - a).toNat : Nat) : Int) = b := by omega
  simp only [List.map_cons, List.map_nil, e2]
theorem rg_app {a b : Int} (h1 : a ≤ b) : ∀ (n : Nat), rg a b ++ rg b (b + n) = rg a (b + n)
  | 0 => by
    have e : b + ((0 : Nat) : Int) = b := by omega
    rw [e, rg_nil (Int.le_refl b), List.append_nil]
  | n + 1 => by
    have e : b + ((n + 1 : Nat) : Int) = b + (n : Int) + 1 := by omega
    rw [e, rg_snoc (by omega), rg_snoc (by omega), ← List.append_assoc, rg_app h1 n]
theorem rg_cat {a b c : Int} (h1 : a ≤ b) (h2 : b ≤ c) : rg a b ++ rg b c = rg a c := by
  have e : c = b + ((c - b).toNat : Nat) := by omega
  rw [e]
  exact rg_app h1 _
theorem rg_mem {a b x : Int} : x ∈ rg a b ↔ a ≤ x ∧ x < b := by
  unfold rg
  rw [List.mem_map]
  constructor
  · rintro ⟨i, hi, rfl⟩
    have := List.mem_range.mp hi
    exact ⟨by omega, by omega⟩
  · rintro ⟨h1, h2⟩
    exact ⟨(x - a).toNat, List.mem_range.mpr (by omega), by omega⟩
theorem rg_pw (a b : Int) : (rg a b).Pairwise (· ≤ ·) := by
  unfold rg
  rw [List.pairwise_map]
  exact List.Pairwise.imp (fun {i j} h => by omega) (List.pairwise_lt_range (n := (b - a).toNat))
/-- the number of groups -/
def grp (d s : Int) : Int := (d + s - 1) / s
def okLab (ar nu d s c : Int) : Prop := (0 ≤ ar ∧ ar ≤ 255) ∧ (1 ≤ d ∧ d ≤ 255) ∧ (1 ≤ s ∧ s ≤ 12) ∧ (0 ≤ c ∧ c ≤ 16 - s) ∧ d + grp d s * c ≤ 255 ∧ 0 ≤ nu ∧ nu < d + grp d s * c
theorem grp_pos {d s : Int} (hd : 1 ≤ d) (hs : 1 ≤ s) : 1 ≤ grp d s := by
  unfold grp
  rw [Int.le_ediv_iff_mul_le (by omega)]
  omega
theorem grp_ge {d s : Int} (hs : 1 ≤ s) : d ≤ grp d s * s := by
  unfold grp
  have h1 := Int.emod_lt_of_pos (d + s - 1) (show 0 < s by omega)
  have h2 := Int.emod_add_mul_ediv (d + s - 1) s
  have h3 : (d + s - 1) / s * s = s * ((d + s - 1) / s) := Int.mul_comm _ _
  omega
theorem grp_lt {d s g : Int} (hs : 1 ≤ s) (h : g < grp d s) : g * s < d := by
  unfold grp at h
  have h0 : g + 1 ≤ (d + s - 1) / s := by omega
  rw [Int.le_ediv_iff_mul_le (by omega), Int.add_mul] at h0
  omega
theorem grp_le {d s : Int} (hd : 1 ≤ d) (hs : 1 ≤ s) : grp d s ≤ d := by
  unfold grp
  have h2 : (d + s - 1) / s < d + 1 := by
    rw [Int.ediv_lt_iff_lt_mul (by omega), Int.add_mul]
    have h3 : (d - 1) * 1 ≤ (d - 1) * s := Int.mul_le_mul_of_nonneg_left (by omega) (by omega)
    rw [Int.sub_mul, Int.sub_mul] at h3
    omega
  omega
theorem div_is {i s g : Int} (hs : 1 ≤ s) : i / s = g ↔ g * s ≤ i ∧ i < g * s + s := by
  have h1 := Int.le_ediv_iff_mul_le (a := g) (b := i) (show 0 < s by omega)
  have h2 := Int.ediv_lt_iff_lt_mul (a := i) (b := g + 1) (show 0 < s by omega)
  rw [Int.add_mul] at h2
  constructor
  · intro e
    exact ⟨h1.mp (by omega), by have := h2.mp (by omega); omega⟩
  · intro ⟨a, b⟩
    have a1 := h1.mpr a
    have b1 := h2.mpr (by omega)
    omega
def sp2i (f : Int → Int → Int) (ok : Int → Int → Prop) : Sp := fun vs H Q _ => ∃ a b : Int, vs = [.int a, .int b] ∧ ok a b ∧ Q (.int (f a b)) H
def spIsGroup : Sp := fun vs H Q _ => ∃ s c : Int, vs = [.int s, .int c] ∧ ∀ b : Bool, (b = true ↔ (1 ≤ s ∧ s ≤ 12) ∧ 0 ≤ c ∧ c ≤ 16 - s) → Q (.bl b) H
theorem ok_is_group (T : Txt K mg C_ArchiveError C_InvalidLabel) : Ok P w K mg base CX0 1 "is_group" ["size", "checks"] spIsGroup := by
  refine ok_of T.d_is_group fun f fd F => F.ok sc_is_group (fun vs H Q E h => ?_) (fun cdv A outer s H vs Q E hr h => ?_)
  · obtain ⟨a, b, rfl, _⟩ := h
    rfl
  · obtain ⟨a, b, rfl, kQ⟩ := h
    have nd := sc_is_group.nd
    refine ⟨_,       (pss_one (ps_ret (pe_and (pe_chain op_le op_le pe_int (pv 0) (pe_globC rfl T.c_GREATEST_GROUP)) (pe_one (pe_chain op_le op_le pe_int (pv 1) (pe_op op_sub (pe_globC rfl T.c_MOST_GROUP_PAGES) (pv 0))))))), ?_⟩
    refine ⟨_, rfl, _, _, rfl, rfl, _, rfl, ?_⟩
    refine itd (fun h1 => ?_) (fun h1 => ⟨_, rfl, iteF (kQ false (by simp; omega))⟩)
    refine ⟨_, _, rfl, rfl, _, rfl, ?_⟩
    refine itb (fun h2 => ?_) (fun h2 => ?_)
    · have h2 : a ≤ 12 := by simpa using h2
      refine ⟨_, rfl, _, _, rfl, rfl, _, rfl, itd (fun h3 => ?_) (fun h3 => ?_)⟩
      · exact ⟨_, rfl, _, _, rfl, rfl, _, _, rfl, rfl, kQ _ (by simp; omega)⟩
      · exact kQ false (by simp; omega)
    · have h2 : ¬ a ≤ 12 := by simpa using h2
      exact kQ false (by simp; omega)

def spGrp : Sp := fun vs H Q _ => ∃ d s : Int, vs = [.int d, .int s] ∧ 1 ≤ s ∧ s ≤ 12 ∧ Q (.int (grp d s)) H
theorem ok_group_count (T : Txt K mg C_ArchiveError C_InvalidLabel) : Ok P w K mg base CX0 1 "group_count" ["data_pages", "size"] spGrp := by
  refine ok_of T.d_group_count fun f fd F => F.ok sc_group_count (fun vs H Q E h => ?_) (fun cdv A outer s H vs Q E hr h => ?_)
  · obtain ⟨a, b, rfl, _⟩ := h
    rfl
  · obtain ⟨a, b, rfl, h1, h2, kQ⟩ := h
    have nd := sc_group_count.nd
    refine ⟨_,       (pss_one (ps_ret (pe_op op_fdiv (pe_op op_sub (pe_op op_add (pv 0) (pv 1)) pe_int) (pv 1)))), ?_⟩
    exact ⟨_, rfl, _, rfl, _, _, rfl, rfl, _, _, rfl, rfl, _, rfl, _, _, rfl, rfl, ⟨by omega, by omega⟩, kQ⟩
def spAll : Sp := fun vs H Q _ => ∃ d s c : Int, vs = [.int d, .int s, .int c] ∧ 1 ≤ s ∧ s ≤ 12 ∧ 0 ≤ c ∧ c ≤ 16 ∧ Q (.int (d + grp d s * c)) H
theorem ok_all_pages (T : Txt K mg C_ArchiveError C_InvalidLabel) : Ok P w K mg base CX0 2 "all_pages" ["data_pages", "size", "checks"] spAll := by
  have G_group_count := ok_group_count (P := P) (w := w) (base := base) T
  refine ok_of T.d_all_pages fun f fd F => F.ok sc_all_pages (fun vs H Q E h => ?_) (fun cdv A outer s H vs Q E hr h => ?_)
  · obtain ⟨a, b, c, rfl, _⟩ := h
    rfl
  · obtain ⟨a, b, c, rfl, h1, h2, h3, h4, kQ⟩ := h
    have nd := sc_all_pages.nd
    refine ⟨_,       (pss_one (ps_ret (pe_op op_add (pv 0) (pe_op op_mul (pe_callO G_group_count (hr.mono (by decide)) pass0 (pa_cons (pv 0) (pa_cons (pv 1) pa_nil))) (pv 2))))), ?_⟩
    exact ⟨_, rfl, _, rfl, _, rfl, a, b, rfl, h1, h2, _, rfl, _, _, rfl, rfl, .inr ⟨by omega, by omega⟩, _, _, rfl, rfl, kQ⟩

def labV (ar nu d s c : Int) : List V := [.int ar, .int nu, .int d, .int s, .int c]
def spCheckLabel (K : PySem.W.Frag) (C : Addr) : Sp := fun vs H Q E => ∃ (t : Addr) (ar nu d s c : Int), vs = [.ref t] ∧ SqT K H t (labV ar nu d s c) ∧ (¬ okLab ar nu d s c → E (.ref C) none H) ∧ (okLab ar nu d s c → Q (.int (d + grp d s * c)) H)
theorem ok_check_label (T : Txt K mg C_ArchiveError C_InvalidLabel) : Ok P w K mg base (CXN P w) 3 "check_label" ["label"] (spCheckLabel K C_InvalidLabel) := by
  have G_is_group := ok_is_group (P := P) (w := w) (base := base) T
  have G_all_pages := ok_all_pages (P := P) (w := w) (base := base) T
  refine ok_of T.d_check_label fun f fd F => okN F sc_check_label (fun vs H Q E h => ?_) (fun cdv A outer s H vs Q E hr h => ?_)
  · obtain ⟨t, _, _, _, _, _, rfl, _⟩ := h
    rfl
  · obtain ⟨t, ar, nu, d, s, c, rfl, hS, kE, kQ⟩ := h
    have nd := sc_check_label.nd
    refine ⟨_,       (pss_cons (ps_asg (pv 0) (pg_tup rfl (pgs_cons (pg_name (i := 1) nd rfl (Or.inl rfl)) (pgs_cons (pg_name (i := 2) nd rfl (Or.inl rfl)) (pgs_cons (pg_name (i := 3) nd rfl (Or.inl rfl)) (pgs_cons (pg_name (i := 4) nd rfl (Or.inl rfl)) (pgs_cons (pg_name (i := 5) nd rfl (Or.inl rfl)) pgs_nil)))))))
      (pss_cons (ps_if (PW.pt (pw_or (pt_not (pt_chain op_le op_le pe_int (pv 1) (pe_globC rfl T.c_GREATEST_ARCHIVE))) (pw_or (pt_not (pt_chain op_le op_le pe_int (pv 3) (pe_globC rfl T.c_MOST_PAGES))) (pw_or1 (pt_not (pt_val (pe_callO G_is_group (hr.mono (by decide)) pass0 (pa_cons (pv 4) (pa_cons (pv 5) pa_nil)))))))))
        (pss_one (L2N.ps_raise rfl (L2N.takes_of rfl rfl rfl rfl) (L2N.pmk_own PySem.F.excBase_ValueError T.x_InvalidLabel.x T.x_InvalidLabel.g T.x_InvalidLabel.k (raises_own T.x_InvalidLabel.b T.x_InvalidLabel.t) rfl))) pss_nil)
      (pss_cons (ps_set (i := 6) nd rfl (Or.inl rfl) (pe_callO G_all_pages (hr.mono (by decide)) pass0 (pa_cons (pv 3) (pa_cons (pv 4) (pa_cons (pv 5) pa_nil)))))
      (pss_cons (ps_if (PW.pt (pw_or (pt_cmpR op_gt (pv 6) (pe_globC rfl T.c_MOST_PAGES) (nomark _)) (pw_or1 (pt_not (pt_chain op_le op_lt pe_int (pv 2) (pv 6))))))
        (pss_one (L2N.ps_raise rfl (L2N.takes_of rfl rfl rfl rfl) (L2N.pmk_own PySem.F.excBase_ValueError T.x_InvalidLabel.x T.x_InvalidLabel.g T.x_InvalidLabel.k (raises_own T.x_InvalidLabel.b T.x_InvalidLabel.t) rfl))) pss_nil)
      (pss_one (ps_ret (pv 6))))))), ?_⟩
    refine ⟨_, rfl, t, _, rfl, hS, rfl, _, _, rfl, _, _, rfl, _, _, rfl, _, _, rfl, _, _, rfl, rfl, ?_⟩
    have bad : ∀ {p : Prop}, ¬ p → (okLab ar nu d s c → p) → E (.ref C_InvalidLabel) none H := fun hn hp => kE fun z => hn (hp z)
    refine ⟨_, rfl, _, _, rfl, rfl, _, rfl, ?_⟩
    refine itd (fun h1 => ⟨_, _, rfl, rfl, _, rfl, itb (fun h2 => iteT (bad (p := ar ≤ 255) (by simpa using h2) fun z => z.1.2)) (fun h2 => ?_)⟩) (fun h1 => ⟨_, rfl, iteT (iteT (bad h1 fun z => z.1.1))⟩)
    replace h2 : ar ≤ 255 := by simpa using h2
    refine ⟨_, rfl, _, _, rfl, rfl, _, rfl, ?_⟩
    refine itd (fun h3 => ⟨_, _, rfl, rfl, _, rfl, itb (fun h4 => iteT (bad (p := d ≤ 255) (by simpa using h4) fun z => z.2.1.2)) (fun h4 => ?_)⟩) (fun h3 => ⟨_, rfl, iteT (iteT (bad h3 fun z => z.2.1.1))⟩)
    replace h4 : d ≤ 255 := by simpa using h4
    refine ⟨_, rfl, _, rfl, s, c, rfl, fun b hb => ⟨_, rfl, ?_⟩⟩
    cases b with
    | false => exact iteT (bad (fun z => Bool.noConfusion (hb.mpr z)) fun z => ⟨z.2.2.1, z.2.2.2.1⟩)
    | true =>
      obtain ⟨h5, h6⟩ := hb.mp rfl
      refine iteF ?_
      refine ⟨_, rfl, _, rfl, _, rfl, d, s, c, rfl, h5.1, h5.2, h6.1, by omega, ?_⟩
      refine ⟨_, rfl, _, _, rfl, rfl, _, rfl, itd (fun h7 => iteT (bad (p := d + grp d s * c ≤ 255) (by omega) fun z => z.2.2.2.2.1)) (fun h7 => ?_)⟩
      refine ⟨_, rfl, _, _, rfl, rfl, _, rfl, itd (fun h8 => ⟨_, rfl, _, _, rfl, rfl, _, rfl, itb (fun h9 => bad (p := nu < d + grp d s * c) (by simpa using h9) fun z => z.2.2.2.2.2.2) (fun h9 => ?_)⟩) (fun h8 => ⟨_, rfl, iteT (bad h8 fun z => z.2.2.2.2.2.1)⟩)⟩
      exact ⟨_, rfl, kQ ⟨⟨h1, h2⟩, ⟨h3, h4⟩, h5, h6, by omega, h8, by simpa using h9⟩⟩

def gpL (d s c g : Int) : List Int := rg (g * s) (if d < g * s + s then d else g * s + s) ++ rg (d + g * c) (d + g * c + c)
def spGroupPages (K : PySem.W.Frag) (C : Addr) : Sp := fun vs H Q E => ∃ (t : Addr) (ar nu d s c g : Int), vs = [.ref t, .int g] ∧ SqT K H t (labV ar nu d s c) ∧ (¬ (okLab ar nu d s c ∧ 0 ≤ g ∧ g < grp d s) → E (.ref C) none H) ∧
  (okLab ar nu d s c → 0 ≤ g → g < grp d s → ∀ p H', Same H H' → H p = none → H' p = some (.lst ((gpL d s c g).map V.int)) → Q (.ref p) H')
theorem ok_group_pages (T : Txt K mg C_ArchiveError C_InvalidLabel) : Ok P w K mg base (CXN P w) 4 "group_pages" ["label", "group"] (spGroupPages K C_InvalidLabel) := by
  have G_check_label := ok_check_label (P := P) (w := w) (base := base) T
  have G_group_count := ok_group_count (P := P) (w := w) (base := base) T
  refine ok_of T.d_group_pages fun f fd F => okN F sc_group_pages (fun vs H Q E h => ?_) (fun cdv A outer s H vs Q E hr h => ?_)
  · obtain ⟨t, _, _, _, _, _, _, rfl, _⟩ := h
    rfl
  · obtain ⟨t, ar, nu, d, s, c, g, rfl, hS, kE, kQ⟩ := h
    have nd := sc_group_pages.nd
    refine ⟨_,       (pss_cons (ps_expr (pe_callO G_check_label (hr.mono (by decide)) (passX (L2N.takes_of rfl rfl rfl rfl) (fun _ _ _ z => z)) (pa_cons (pv 0) pa_nil)))
      (pss_cons (ps_asg (pv 0) (pg_tup rfl (pgs_cons (pg_name (i := 2) nd rfl (Or.inl rfl)) (pgs_cons (pg_name (i := 2) nd rfl (Or.inl rfl)) (pgs_cons (pg_name (i := 3) nd rfl (Or.inl rfl)) (pgs_cons (pg_name (i := 4) nd rfl (Or.inl rfl)) (pgs_cons (pg_name (i := 5) nd rfl (Or.inl rfl)) pgs_nil)))))))
      (pss_cons (ps_if (pt_not (pt_chain op_le op_lt pe_int (pv 1) (pe_callO G_group_count (hr.mono (by decide)) pass0 (pa_cons (pv 3) (pa_cons (pv 4) pa_nil)))))
        (pss_one (L2N.ps_raise rfl (L2N.takes_of rfl rfl rfl rfl) (L2N.pmk_own PySem.F.excBase_ValueError T.x_InvalidLabel.x T.x_InvalidLabel.g T.x_InvalidLabel.k (raises_own T.x_InvalidLabel.b T.x_InvalidLabel.t) rfl))) pss_nil)
      (pss_cons (ps_set (i := 6) nd rfl (Or.inl rfl) (pe_op op_mul (pv 1) (pv 4)))
      (pss_cons (ps_set (i := 7) nd rfl (Or.inl rfl) (pe_op op_add (pv 3) (pe_op op_mul (pv 1) (pv 5))))
      (pss_one (ps_ret (pe_op op_cat (pe_listRg rfl rfl T.n_list (prg_2 rfl T.n_range (pv 6) (pe_callB (call_min2 rfl) (by rfl) T.n_min (by decide +kernel) (pa_cons (pe_op op_add (pv 6) (pv 4)) (pa_cons (pv 3) pa_nil))))) (pe_listRg rfl rfl T.n_list (prg_2 rfl T.n_range (pv 7) (pe_op op_add (pv 7) (pv 5)))))))))))), ?_⟩
    refine ⟨_, rfl, t, ar, nu, d, s, c, rfl, hS, fun hn => kE fun z => hn z.1, fun hok => ?_⟩
    obtain ⟨h1, h2, h3, h4, h5, h6, h7⟩ := id hok
    refine ⟨_, rfl, t, _, rfl, hS, rfl, _, _, rfl, _, _, rfl, _, _, rfl, _, _, rfl, _, _, rfl, rfl, ?_⟩
    refine ⟨_, rfl, _, _, rfl, rfl, _, rfl, itd (fun g1 => ⟨_, rfl, _, rfl, d, s, rfl, h3.1, h3.2, _, _, rfl, rfl, _, rfl, itb (fun g2 => ?_) (fun g2 => ?_)⟩) (fun g1 => ⟨_, rfl, iteT (kE fun z => g1 z.2.1)⟩)⟩
    · exact kE fun z => by have := z.2.2; simp at g2; omega
    replace g2 : g < grp d s := by simpa using g2
    have gl := grp_le h2.1 h3.1
    have gs := grp_lt h3.1 g2
    have gm : 0 ≤ g * s := Int.mul_nonneg g1 (by omega)
    have gc : 0 ≤ g * c := Int.mul_nonneg g1 (by omega)
    have gc2 : g * c ≤ grp d s * c := Int.mul_le_mul_of_nonneg_right (by omega) (by omega)
    refine ⟨_, rfl, _, rfl, _, _, rfl, rfl, .inl ⟨by omega, by omega⟩, ?_⟩
    refine ⟨_, rfl, _, rfl, _, rfl, _, _, rfl, rfl, .inl ⟨by omega, by omega⟩, _, _, rfl, rfl, ?_⟩
    refine ⟨_, rfl, _, rfl, _, rfl, _, _, rfl, rfl, _, rfl, _, _, rfl, _, _, rfl, rfl, RgOk.of_le gm ?_ (by omega) ?_, fun p hp => ?_⟩
    · split <;> omega
    · split <;> omega
    refine ⟨_, rfl, _, rfl, _, rfl, _, _, rfl, rfl, _, _, rfl, rfl, RgOk.of_le (by omega) (by omega) (by omega) (by omega), fun q hq => ?_⟩
    have hp' := (same_upd (o := .lst (rgV (d + g * c) (d + g * c + c))) hq) _ _ (upd_same (a := p) (H := H))
    refine ⟨p, q, _, _, rfl, rfl, hp', upd_same, smallE ?_, fun r hr' => ?_⟩
    · rw [rgV_length, rgV_length]
      split <;> omega
    refine kQ hok g1 g2 r _ (((same_upd hp).trans (same_upd hq)).trans (same_upd hr')) ?_ ?_
    · cases e : H r with
      | none => rfl
      | some u =>
        rw [((same_upd hp).trans (same_upd hq)) _ _ e] at hr'
        cases hr'
    · rw [upd_same, rg_V, rg_V, ← List.map_append]
      rfl

/-- some label -/
def spLabel : Sp := fun vs H Q _ => ∃ cell : Int, vs = [.int cell] ∧ ∀ (t : Addr) (H' : Hp) (ar nu d s c : Int), Same H H' → H' t = some (.tup (labV ar nu d s c)) → okLab ar nu d s c → Q (.ref t) H'
theorem grp_one {s : Int} (h : 1 ≤ s) : grp 1 s = 1 := by
  unfold grp
  have e : 1 + s - 1 = s := by omega
  rw [e, Int.ediv_self (by omega)]
theorem ok__law_label (T : Txt K mg C_ArchiveError C_InvalidLabel) : Ok P w K mg base CX0 1 "_law_label" ["cell"] spLabel := by
  refine ok_of T.d__law_label fun f fd F => F.ok sc__law_label (fun vs H Q E h => ?_) (fun cdv A outer s H vs Q E hr h => ?_)
  · obtain ⟨a, rfl, _⟩ := h
    rfl
  · obtain ⟨a, rfl, kQ⟩ := h
    have nd := sc__law_label.nd
    refine ⟨_,       (pss_cons (ps_set (i := 1) nd rfl (Or.inl rfl) (pe_op op_add pe_int (pe_op op_mod (pv 0) pe_int)))
      (pss_cons (ps_set (i := 2) nd rfl (Or.inl rfl) (pe_op op_mod (pe_op op_fdiv (pv 0) pe_int) (pe_op op_sub pe_int (pv 1))))
      (Evl.pss_cut (ps_if (pt_cmpR op_gt (pe_op op_mod (pe_op op_fdiv (pv 0) pe_int) pe_int) pe_int (nomark _))
        (pss_one (ps_set (i := 2) nd rfl (Or.inl rfl) (pe_op op_mod (pv 2) pe_int))) pss_nil)
      (pss_cons (ps_set (i := 3) nd rfl (Or.inl rfl) (pe_op op_add pe_int (pe_op op_mod (pe_op op_fdiv (pv 0) pe_int) pe_int)))
      (pss_cons (ps_set (i := 4) nd rfl (Or.inl rfl) (pe_op op_add (pv 3) (pe_op op_mul (pe_op op_fdiv (pe_op op_sub (pe_op op_add (pv 3) (pv 1)) pe_int) (pv 1)) (pv 2))))
      (Evl.pss_cut (ps_if (pt_cmpR op_gt (pv 4) pe_int (nomark _))
        (pss_cons (ps_set (i := 3) nd rfl (Or.inl rfl) pe_int)
        (pss_one (ps_set (i := 4) nd rfl (Or.inl rfl) (pe_op op_add pe_int (pv 2))))) pss_nil)
      (pss_cons (ps_set (i := 5) nd rfl (Or.inl rfl) (pe_op op_mod (pe_op op_fdiv (pv 0) pe_int) (pv 4)))
      (pss_one (ps_ret (pe_tup (pa_cons (pe_op op_mod (pe_op op_fdiv (pv 0) pe_int) pe_int) (pa_cons (pv 5) (pa_cons (pv 3) (pa_cons (pv 1) (pa_cons (pv 2) pa_nil))))))))))))))), ?_⟩
    refine ⟨_, rfl, _, _, rfl, rfl, (by show (0 : Int) < 12; decide), _, _, rfl, rfl, ?_⟩
    refine ⟨_, rfl, _, _, rfl, rfl, ⟨by decide, by decide⟩, _, rfl, _, _, rfl, rfl, _, _, rfl, rfl, (by show (0 : Int) < 17 - (1 + a % 12); omega), ?_⟩
    obtain ⟨s, es⟩ : ∃ s, s = 1 + a % 12 := ⟨_, rfl⟩
    have hs : 1 ≤ s ∧ s ≤ 12 := by omega
    try dsimp only
    rw [← es]
    obtain ⟨c, ec⟩ : ∃ c, c = a / 12 % (17 - s) := ⟨_, rfl⟩
    have hc : 0 ≤ c ∧ c ≤ 16 - s := by
      have h1 := Int.emod_nonneg (a / 12) (b := 17 - s) (by omega)
      have h2 := Int.emod_lt_of_pos (a / 12) (b := 17 - s) (by omega)
      omega
    try dsimp only
    rw [← ec]
    try rw [← es]
    clear ec es
    refine ⟨fun σ' H' => H = H' ∧ ∃ c' : Int, (0 ≤ c' ∧ c' ≤ 16 - s) ∧ σ' = [some (.int a), some (.int s), some (.int c'), none, none, none], ?_, ?_⟩
    · refine ⟨_, rfl, _, _, rfl, rfl, ⟨by decide, by decide⟩, _, _, rfl, rfl, (by show (0 : Int) < 3; decide), _, _, rfl, rfl, _, rfl, itd (fun h => ?_) (fun h => ?_)⟩
      · exact ⟨_, rfl, _, _, rfl, rfl, (by show (0 : Int) < 4; decide), rfl, c % 4, ⟨by omega, by omega⟩, rfl⟩
      · exact ⟨rfl, _, hc, rfl⟩
    clear hc c
    rintro σ1 H1 ⟨rfl, c, hc, rfl⟩
    refine ⟨_, rfl, _, _, rfl, rfl, ⟨by decide, by decide⟩, _, _, rfl, rfl, (by show (0 : Int) < 60; decide), _, _, rfl, rfl, ?_⟩
    obtain ⟨d, ed⟩ : ∃ d, d = 1 + a / 612 % 60 := ⟨_, rfl⟩
    have hd : 1 ≤ d ∧ d ≤ 60 := by omega
    try dsimp only
    rw [← ed]
    clear ed
    refine ⟨_, rfl, _, rfl, _, rfl, _, _, rfl, rfl, _, _, rfl, rfl, _, rfl, _, _, rfl, rfl, ⟨by omega, by omega⟩, _, rfl, _, _, rfl, rfl, .inr ⟨by omega, by omega⟩, _, _, rfl, rfl, ?_⟩
    refine ⟨fun σ' H' => H = H' ∧ ∃ d' : Int, (1 ≤ d' ∧ d' ≤ 255) ∧ d' + grp d' s * c ≤ 255 ∧ σ' = [some (.int a), some (.int s), some (.int c), some (.int d'), some (.int (d' + grp d' s * c)), none], ?_, ?_⟩
    · refine ⟨_, rfl, _, _, rfl, rfl, _, rfl, itd (fun h => ?_) (fun h => ?_)⟩
      · refine ⟨_, rfl, _, _, rfl, rfl, rfl, 1, ⟨by omega, by omega⟩, ?_, ?_⟩
        · rw [grp_one hs.1]
          omega
        · rw [grp_one hs.1, Int.one_mul]
          rfl
      · exact ⟨rfl, d, ⟨by omega, by omega⟩, by unfold grp; omega, rfl⟩
    clear hd d
    rintro σ1 H1 ⟨rfl, d, hd, hp, rfl⟩
    have hpos : 0 < d + grp d s * c := by
      have := Int.mul_nonneg (show 0 ≤ grp d s from by have := grp_pos hd.1 hs.1; omega) hc.1
      omega
    refine ⟨_, rfl, _, _, rfl, rfl, ⟨by decide, by decide⟩, _, rfl, _, _, rfl, rfl, hpos, ?_⟩
    refine ⟨_, rfl, _, _, rfl, rfl, ⟨by decide, by decide⟩, _, _, rfl, rfl, (by show (0 : Int) < 256; decide), _, rfl, _, rfl, _, rfl, _, rfl, by show 5 ≤ sizeLine; decide, fun t ht => ?_⟩
    refine kQ t _ _ _ d s c (same_upd ht) upd_same ⟨⟨by omega, by omega⟩, hd, hs, hc, hp, Int.emod_nonneg _ (by omega), Int.emod_lt_of_pos _ hpos⟩

def spRefused34 (K : PySem.W.Frag) : Sp := fun vs H Q _ => ∃ (t : Addr) (ar nu d s c g : Int), vs = [.ref t, .int g] ∧ SqT K H t (labV ar nu d s c) ∧ ¬ (okLab ar nu d s c ∧ 0 ≤ g ∧ g < grp d s) ∧ Q (.bl true) H
theorem ok__law_refused (T : Txt K mg C_ArchiveError C_InvalidLabel) : Ok P w K mg base CX0 5 "_law_refused" ["label", "group"] (spRefused34 K) := by
  have G_group_pages := ok_group_pages (P := P) (w := w) (base := base) T
  refine ok_of T.d__law_refused fun f fd F => F.ok sc__law_refused (fun vs H Q E h => ?_) (fun cdv A outer s H vs Q E hr h => ?_)
  · obtain ⟨t, _, _, _, _, _, _, rfl, _⟩ := h
    rfl
  · obtain ⟨t, ar, nu, d, s, c, g, rfl, hS, hn, kQ⟩ := h
    have nd := sc__law_refused.nd
    refine ⟨_,       (pss_one (L2N.ps_try_as (i := 2) (Wout := fun _ _ _ _ => False) rfl rfl nd rfl rfl ⟨rfl, by decide, Or.inl T.x_ArchiveError.g⟩ takesN
        (fun W pn xe tk po => 
          (pss_cons (ps_expr (pe_callT G_group_pages (hr.mono (by decide)) (fun σ => L2N.passAt tk σ) (pa_cons (pv 0) (pa_cons (pv 1) pa_nil))))
          (pss_one (ps_ret pe_bl))))
        (fun a oe cls d pn hz hf => pss_guard (p := cls = .ref C_InvalidLabel ∧ d = none) (fun ee => by obtain ⟨e1, e2⟩ := ee; subst e1 e2; exact 
          (pss_one (ps_ret (pe_callB (call_isE T.x_InvalidLabel.e hz.zc hf) (by rfl) T.n_isinstance (by decide +kernel) (pa_cons (pv 2) (pa_cons (pe_globR rfl T.x_InvalidLabel.g) pa_nil))))))))), ?_⟩
    refine ⟨_, rfl, _, rfl, t, ar, nu, d, s, c, g, rfl, hS, fun _ => ?_, fun h1 h2 h3 => absurd ⟨h1, h2, h3⟩ hn⟩
    refine ⟨true, exm_own T.x_ArchiveError.toXB T.s_InvalidLabel_ArchiveError, fun _ ea hea => ⟨⟨rfl, rfl⟩, ?_⟩, fun q => nomatch q⟩
    exact ⟨_, rfl, _, _, true, rfl, fun _ h => h, T.q_InvalidLabel_InvalidLabel, kQ⟩
-- @@LAW
theorem allIn_of {lo hi : Int} {l : List Int} (h : ∀ x ∈ l, lo ≤ x ∧ x ≤ hi) : allIn lo hi l = true := by
  unfold allIn
  rw [List.all_eq_true]
  intro x hx
  have z := h x hx
  rw [decide_eq_true z.1, decide_eq_true z.2]
  rfl
theorem gp_mem {d s c g x : Int} (hd : 1 ≤ d) (hs : 1 ≤ s) (hc : 0 ≤ c) (hg : 0 ≤ g) (hg2 : g < grp d s) (h : x ∈ gpL d s c g) : 0 ≤ x ∧ x < d + grp d s * c := by
  have gm : 0 ≤ g * s := Int.mul_nonneg hg (by omega)
  have gc : 0 ≤ g * c := Int.mul_nonneg hg (by omega)
  have gc2 : (g + 1) * c ≤ grp d s * c := Int.mul_le_mul_of_nonneg_right (by omega) (by omega)
  rw [Int.add_mul, Int.one_mul] at gc2
  have gcn : 0 ≤ grp d s * c := Int.mul_nonneg (by omega) hc
  unfold gpL at h
  rcases List.mem_append.mp h with h | h
  · have z := rg_mem.mp h
    refine ⟨by omega, ?_⟩
    have z2 := z.2
    split at z2 <;> omega
  · have z := rg_mem.mp h
    omega
/-- all numbers of the first i groups -/
def upto (d s c i : Int) : List Int := rg 0 (if d < i * s then d else i * s) ++ rg d (d + i * c)
theorem upto_step {d s c i : Int} (hs : 1 ≤ s) (hc : 0 ≤ c) (hi : 0 ≤ i) (hi2 : i < grp d s) {acc : List Int} (h : acc.Perm (upto d s c i)) : (acc ++ gpL d s c i).Perm (upto d s c (i + 1)) := by
  have gs := grp_lt hs hi2
  have gm : 0 ≤ i * s := Int.mul_nonneg hi (by omega)
  have gc : 0 ≤ i * c := Int.mul_nonneg hi (by omega)
  have e1 : (i + 1) * s = i * s + s := by rw [Int.add_mul, Int.one_mul]
  have e2 : (i + 1) * c = i * c + c := by rw [Int.add_mul, Int.one_mul]
  have a1 : upto d s c i = rg 0 (i * s) ++ rg d (d + i * c) := by rw [upto, if_neg (by omega)]
  have a2 : upto d s c (i + 1) = (rg 0 (i * s) ++ rg (i * s) (if d < i * s + s then d else i * s + s)) ++ (rg d (d + i * c) ++ rg (d + i * c) (d + i * c + c)) := by
    rw [rg_cat gm (by split <;> omega), rg_cat (by omega) (by omega), upto, e1, e2, Int.add_assoc]
  rw [a2]
  rw [a1] at h
  refine (h.append_right _).trans ?_
  unfold gpL
  rw [List.append_assoc, List.append_assoc]
  refine List.Perm.append_left _ ?_
  rw [← List.append_assoc, ← List.append_assoc]
  exact List.Perm.append_right _ List.perm_append_comm
theorem upto_all {d s c : Int} (hd : 1 ≤ d) (hs : 1 ≤ s) (hc : 0 ≤ c) : upto d s c (grp d s) = rg 0 (d + grp d s * c) := by
  have h1 := grp_ge (d := d) hs
  have h2 := grp_pos hd hs
  have h3 : 0 ≤ grp d s * c := Int.mul_nonneg (by omega) hc
  have e : (if d < grp d s * s then d else grp d s * s) = d := by split <;> omega
  rw [upto, e, rg_cat (by omega) (by omega)]
theorem upto_len {d s c i : Int} (hd : 0 ≤ d) (hs : 0 ≤ i * s) (hc : 0 ≤ i * c) : (upto d s c i).length ≤ d.toNat + (i * c).toNat := by
  rw [upto, List.length_append, rg_len, rg_len]
  split <;> omega
def spLaw (K : PySem.W.Frag) : Sp := fun vs H Q _ => ∃ (a : Addr) (ns : List Int), vs = [.ref a] ∧ SqL K H a (ns.map V.int) ∧ ns.length ≤ 63 ∧ ∀ H', Q (.bl true) H'
theorem ok_law0 (T : Txt K mg C_ArchiveError C_InvalidLabel) (f : Addr) (fd : FuncData) (F : Fun K "law" "law" s_law f fd) : FnOk P w K mg base CX0 6 f fd ["script"] (spLaw K) := by
  have G__law_cell := ok__law_cell (P := P) (w := w) (base := base) T
  have G__law_is_list := ok__law_is_list (P := P) (w := w) (base := base) T
  have G__law_label := ok__law_label (P := P) (w := w) (base := base) T
  have G__law_refused := ok__law_refused (P := P) (w := w) (base := base) T
  have G_group_pages := ok_group_pages (P := P) (w := w) (base := base) T
  refine F.ok sc_law (fun vs H Q E h => ?_) (fun cdv A outer s H vs Q E hr h => ?_)
  · obtain ⟨a, ns, rfl, _⟩ := h
    rfl
  · obtain ⟨a, ns, rfl, hS, hlen, kQ⟩ := h
    have nd := sc_law.nd
    have hu64 : (A.deeper (envOfC "law" (defScope s_law) s.heap.objs.size f cdv)).units + 64 < cLine := by
      have := hr.un
      omega
    refine ⟨_,       (pss_cons (ps_set (i := 1) nd rfl (Or.inl rfl) (pe_callO G__law_label (hr.mono (by decide)) pass0 (pa_cons (pe_callO G__law_cell (hr.mono (by decide)) pass0 (pa_cons (pv 0) (pa_cons pe_int pa_nil))) pa_nil)))
      (pss_cons (ps_if (pt_cmpR op_eq (pe_op op_mod (pe_callO G__law_cell (hr.mono (by decide)) pass0 (pa_cons (pv 0) (pa_cons pe_int pa_nil))) pe_int) pe_int (nomark _))
        (pss_one (ps_ret (pe_and (pe_callO G__law_refused (hr.mono (by decide)) pass0 (pa_cons (pe_tup (pa_cons (pe_ix ix_tup (pv 1) pe_int (fun _ _ => rfl)) (pa_cons pe_int (pa_cons (pe_ix ix_tup (pv 1) pe_int (fun _ _ => rfl)) (pa_cons (pe_ix ix_tup (pv 1) pe_int (fun _ _ => rfl)) (pa_cons (pe_ix ix_tup (pv 1) pe_int (fun _ _ => rfl)) pa_nil)))))) (pa_cons pe_int pa_nil))) (pe_one (pe_callO G__law_refused (hr.mono (by decide)) pass0 (pa_cons (pe_tup (pa_cons (pe_ix ix_tup (pv 1) pe_int (fun _ _ => rfl)) (pa_cons (pe_ix ix_tup (pv 1) pe_int (fun _ _ => rfl)) (pa_cons pe_int (pa_cons pe_int (pa_cons pe_int pa_nil)))))) (pa_cons pe_int pa_nil))))))) pss_nil)
      (pss_cons (ps_asg (pv 1) (pg_tup rfl (pgs_cons (pg_name (i := 2) nd rfl (Or.inl rfl)) (pgs_cons (pg_name (i := 3) nd rfl (Or.inl rfl)) (pgs_cons (pg_name (i := 4) nd rfl (Or.inr rfl)) (pgs_cons (pg_name (i := 5) nd rfl (Or.inr rfl)) (pgs_cons (pg_name (i := 6) nd rfl (Or.inr rfl)) pgs_nil)))))))
      (pss_cons (ps_set (i := 7) nd rfl (Or.inl rfl) (pe_lst pa_nil))
      (pss_cons (ps_set (i := 8) nd rfl (Or.inl rfl) (pe_op op_fdiv (pe_op op_sub (pe_op op_add (pv 4) (pv 5)) pe_int) (pv 5)))
      (pss_cons (ps_for PassesOwn.never rfl (pi_range1 rfl T.n_range (pa_cons (pv 8) pa_nil)) (pg_name (i := 9) nd rfl (Or.inr rfl))
        (pss_cons (ps_set (i := 10) nd rfl (Or.inl rfl) (pe_callO G_group_pages (hr.mono (by decide)) passN (pa_cons (pv 1) (pa_cons (pv 9) pa_nil))))
        (pss_cons (ps_set (i := 11) nd rfl (Or.inl rfl) (pe_op op_cat (pe_lc (own := [("k", 12)]) (g := gName 12) rfl nd (pi_range1 rfl T.n_range (pa_cons (pv 4) pa_nil)) (blkOk_by (N := N_law) (sc := defScope s_law) (by decide +kernel)) (fun _ _ _ _ _ => (pg_name (i := 12) nd rfl (Or.inl rfl))) (fun _ _ _ _ _ => (pts_one (pt_cmpR op_eq (pe_op op_fdiv (pv 12) (pv 5)) (pv 9) (nomark _)))) (fun _ _ _ _ _ => (pv 12))) (pe_lc (own := [("k", 12)]) (g := gName 12) (tt := tYes) rfl nd (pi_range1 rfl T.n_range (pa_cons (pv 6) pa_nil)) (blkOk_by (N := N_law) (sc := defScope s_law) (by decide +kernel)) (fun _ _ _ _ _ => (pg_name (i := 12) nd rfl (Or.inl rfl))) (fun _ _ _ _ _ => pts_nil) (fun _ _ _ _ _ => (pe_op op_add (pe_op op_add (pv 4) (pe_op op_mul (pv 9) (pv 6))) (pv 12))))))
        (pss_cons (ps_if (PW.pt (pw_or (pt_not (pt_val (pe_callO G__law_is_list (hr.mono (by decide)) pass0 (pa_cons (pv 10) (pa_cons pe_int (pa_cons pe_int pa_nil)))))) (pw_or1 (pt_cmpR (op_neD hu64) (pv 10) (pv 11) (nomark _)))))
          (pss_one (ps_ret pe_bl)) pss_nil)
        (pss_one (ps_set (i := 7) nd rfl (Or.inl rfl) (pe_op op_cat (pv 7) (pv 10))))))))
      (pss_cons (ps_if (pt_cmpR (op_neD hu64) (pe_callB cr_sortedI (by rfl) T.n_sorted (by decide +kernel) (pa_cons (pv 7) pa_nil)) (pe_listRg rfl rfl T.n_list (prg_1 rfl T.n_range (pe_op op_add (pv 4) (pe_op op_mul (pv 8) (pv 6))))) (nomark _))
        (pss_one (ps_ret pe_bl)) pss_nil)
      (pss_one (ps_ret (pe_and (pe_callO G__law_refused (hr.mono (by decide)) pass0 (pa_cons (pv 1) (pa_cons (pe_un un_neg pe_int) pa_nil))) (pe_and (pe_callO G__law_refused (hr.mono (by decide)) pass0 (pa_cons (pv 1) (pa_cons (pv 8) pa_nil))) (pe_one (pe_callO G__law_refused (hr.mono (by decide)) pass0 (pa_cons (pv 1) (pa_cons (pe_op op_add (pv 8) (pe_op op_mod (pe_callO G__law_cell (hr.mono (by decide)) pass0 (pa_cons (pv 0) (pa_cons pe_int pa_nil))) pe_int)) pa_nil))))))))))))))), ?_⟩
    refine ⟨_, rfl, a, ns, 0, rfl, hS, cell ns 0, rfl, fun t H0 ar nu d s c e0 ht hok => ?_⟩
    have hS0 := e0.seq hS
    refine ⟨_, rfl, a, ns, 1, rfl, hS0, _, _, rfl, rfl, (by show (0 : Int) < 6; decide), rfl, _, rfl, itd (fun h => ?_) (fun h => ?_)⟩
    · refine ⟨_, rfl, t, _, _, V.int ar, rfl, rfl, SqT.of ht, rfl, _, rfl, t, _, _, V.int d, rfl, rfl, SqT.of ht, rfl, _, rfl, t, _, _, V.int s, rfl, rfl, SqT.of ht, rfl, _, rfl, t, _, _, V.int c, rfl, rfl, SqT.of ht, rfl, (by show 5 ≤ sizeLine; decide), fun u hu => ?_⟩
      refine ⟨u, ar, 255, d, s, c, 0, rfl, SqT.of upd_same, fun z => ?_, _, rfl, iteT ?_⟩
      · have z1 := z.1.2.2.2.2
        omega
      have ht1 := (same_upd (o := .tup [V.int ar, V.int 255, V.int d, V.int s, V.int c]) hu) _ _ ht
      refine ⟨_, rfl, t, _, _, V.int ar, rfl, rfl, SqT.of ht1, rfl, _, rfl, t, _, _, V.int nu, rfl, rfl, SqT.of ht1, rfl, (by show 5 ≤ sizeLine; decide), fun v hv => ?_⟩
      exact ⟨v, ar, nu, 0, 1, 0, 0, rfl, SqT.of upd_same, fun z => by have z1 := z.1.2.1.1; omega, kQ _⟩
    refine ⟨_, rfl, t, _, rfl, SqT.of ht, rfl, _, _, rfl, _, _, rfl, _, _, rfl, _, _, rfl, _, _, rfl, rfl, ?_⟩
    obtain ⟨h1, h2, h3, h4, h5, h6, h7⟩ := id hok
    have hG := grp_pos h2.1 h3.1
    have hGd := grp_le h2.1 h3.1
    refine ⟨by decide, fun l hl => ?_⟩
    refine ⟨_, rfl, _, rfl, _, _, rfl, rfl, _, _, rfl, rfl, _, rfl, _, _, rfl, rfl, ⟨by omega, by omega⟩, ?_⟩
    refine ⟨_, rfl, grp d s, rfl, by omega, by omega, for_range (lo := 0) (n := (grp d s).toNat) (fun i σ H' => ∃ (sl : Addr) (acc : List Int) (v9 v10 v11 : Option V), Same H0 H' ∧ H' sl = some (.lst (acc.map V.int)) ∧ acc.Perm (upto d s c i) ∧
      σ = [some (.ref a), some (.ref t), some (.int ar), some (.int nu), some (.int d), some (.int s), some (.int c), some (.ref sl), some (.int (grp d s)), v9, v10, v11, none]) ⟨l, [], none, none, none, same_upd hl, upd_same, ?_, rfl⟩ ?_ ?_⟩
    · have e : upto d s c ((0 : Nat) : Int) = [] := by
        show rg 0 (if d < (0 : Int) * s then d else (0 : Int) * s) ++ rg d (d + (0 : Int) * c) = []
        rw [Int.zero_mul, Int.zero_mul, if_neg (by omega), rg_nil (by omega), rg_nil (by omega)]
        rfl
      rw [e]
    · rintro i σ H1 hi ⟨sl, acc, v9, v10, v11, e1, hsl, hp, rfl⟩
      have ei : (0 : Int) + (i : Int) = (i : Int) := by omega
      have hi2 : (i : Int) < grp d s := by omega
      have ht1 := e1 _ _ ht
      refine ⟨_, rfl, _, rfl, t, ar, nu, d, s, c, 0 + (i : Int), rfl, SqT.of ht1, fun hn => absurd ⟨hok, by omega, by omega⟩ hn, fun _ _ _ p H2 e2 _ hL => ?_⟩
      rw [ei] at hL
      have eq1 : ∀ x y : Int, decide (V.int x = V.int y) = decide (x = y) := fun x y => by simp
      have gm : 0 ≤ (i : Int) * s := Int.mul_nonneg (by omega) (by omega)
      have gc : 0 ≤ (i : Int) * c := Int.mul_nonneg (by omega) (by omega)
      have gs := grp_lt h3.1 hi2
      have gc2 : (i : Int) * c ≤ grp d s * c := Int.mul_le_mul_of_nonneg_right (by omega) (by omega)
      refine ⟨_, rfl, d, rfl, by omega, by omega, fun D hD => lc_range (lo := 0) (n := d.toNat) (fun j H' => Same H2 H' ∧ H' D = some (.lst ((rg (i * s) (if (j : Int) < i * s + s then (j : Int) else i * s + s)).map V.int))) ⟨same_upd hD, ?_⟩ ?_ ?_⟩
      · rw [upd_same, rg_nil (by split <;> omega)]
        rfl
      · rintro j H' hj ⟨e, hL'⟩
        have ej : (0 : Int) + (j : Int) = (j : Int) := by omega
        refine ⟨rfl, _, rfl, _, rfl, _, _, rfl, rfl, ⟨by omega, by omega⟩, _, rfl, rfl, _, rfl, ?_⟩
        rw [eq1, ei, ej]
        refine itd (fun hm => ?_) (fun hm => ?_)
        · have hm2 := (div_is h3.1).mp hm
          refine ⟨_, rfl, _, hL', ?_, same_new e hD, ?_⟩
          · refine small ?_
            rw [List.length_map, rg_len]
            split <;> omega
          · rw [upd_same, if_pos hm2.2]
            have e3 : (if (((j + 1 : Nat) : Int)) < i * s + s then (((j + 1 : Nat) : Int)) else i * s + s) = (j : Int) + 1 := by split <;> omega
            rw [e3, rg_snoc hm2.1, List.map_append]
            rfl
        · have hm2 : ¬ ((i : Int) * s ≤ j ∧ (j : Int) < i * s + s) := fun z => hm ((div_is h3.1).mpr z)
          refine ⟨e, ?_⟩
          rw [hL']
          by_cases hlt : (j : Int) < i * s + s
          · rw [if_pos hlt, rg_nil (by omega), rg_nil (by split <;> omega)]
          · rw [if_neg hlt, if_neg (by omega)]
      · rintro H3 ⟨e3, hL3⟩
        rw [show ((d.toNat : Nat) : Int) = d by omega] at hL3
        refine ⟨_, rfl, c, rfl, by omega, by omega, fun D2 hD2 => lc_range (lo := 0) (n := c.toNat) (fun j H' => Same H3 H' ∧ H' D2 = some (.lst ((rg (d + i * c) (d + i * c + (j : Int))).map V.int))) ⟨same_upd hD2, ?_⟩ ?_ ?_⟩
        · rw [upd_same, rg_nil (by omega)]
          rfl
        · rintro j H' hj ⟨e, hL'⟩
          have ej : (0 : Int) + (j : Int) = (j : Int) := by omega
          refine ⟨rfl, ?_⟩
          dsimp only [tYes]
          try rw [if_pos rfl]
          refine ⟨_, rfl, _, rfl, _, rfl, _, _, rfl, rfl, .inl ⟨by omega, by omega⟩, _, _, rfl, rfl, _, rfl, _, _, rfl, rfl, _, hL', ?_, same_new e hD2, ?_⟩
          · refine small ?_
            rw [List.length_map, rg_len]
            omega
          · rw [upd_same, ei, ej]
            have e4 : d + (i : Int) * c + (((j + 1 : Nat) : Int)) = d + i * c + (j : Int) + 1 := by omega
            rw [e4, rg_snoc (by omega), List.map_append]
            rfl
        · rintro H4 ⟨e4, hL4⟩
          rw [show ((c.toNat : Nat) : Int) = c by omega] at hL4
          have hL34 := e4 _ _ hL3
          refine ⟨D, D2, _, _, rfl, rfl, hL34, hL4, smallE ?_, fun r hr' => ?_⟩
          · rw [List.length_map, List.length_map, rg_len, rg_len]
            split <;> omega
          rw [← List.map_append]
          have hLp := ((e3.trans e4).trans (same_upd (o := .lst (List.map V.int (gpL d s c i))) hr')) _ _ hL
          have eall : Same H0 (upd H4 r (.lst (List.map V.int (gpL d s c i)))) := ((e1.trans e2).trans (e3.trans e4)).trans (same_upd hr')
          refine ⟨_, rfl, p, gpL d s c i, 0, 254, rfl, SqL.of hLp, ?_⟩
          rw [allIn_of fun x hx => by
            have z := gp_mem h2.1 h3.1 h4.1 (by omega) hi2 hx
            omega]
          refine ⟨_, rfl, iteF ?_⟩
          refine ⟨_, rfl, _, rfl, _, _, dp_list (SqL.of hLp), dp_list (ns := gpL d s c i) (SqL.of upd_same), shaped_ints _, shaped_ints _, _, rfl, ?_⟩
          rw [eqv_refl' (shaped_ints _)]
          refine iteF ?_
          have hsl1 := ((e2.trans (e3.trans e4)).trans (same_upd (o := .lst (List.map V.int (gpL d s c i))) hr')) _ _ hsl
          refine ⟨_, rfl, _, rfl, sl, p, _, _, rfl, rfl, hsl1, hLp, smallE ?_, fun q hq => ?_⟩
          · rw [List.length_map, List.length_map, hp.length_eq]
            have z := upto_len (d := d) (s := s) (c := c) (i := i) (by omega) gm gc
            unfold gpL
            rw [List.length_append, rg_len, rg_len]
            split <;> omega
          refine ⟨q, acc ++ gpL d s c i, _, _, _, eall.trans (same_upd hq), ?_, upto_step h3.1 h4.1 (by omega) hi2 hp, rfl⟩
          rw [upd_same, List.map_append]
    · rintro σ H1 ⟨sl, acc, v9, v10, v11, e1, hsl, hp, rfl⟩
      rw [show (((grp d s).toNat : Nat) : Int) = grp d s by omega, upto_all h2.1 h3.1 h4.1] at hp
      have hN : 0 ≤ grp d s * c := Int.mul_nonneg (by omega) h4.1
      refine ⟨_, rfl, sl, acc, rfl, SqL.of hsl, fun ns' p hperm hpw hp1 => ?_⟩
      have en : ns' = rg 0 (d + grp d s * c) := (hperm.trans hp).eq_of_pairwise (fun x y _ _ a b => Int.le_antisymm a b) hpw (rg_pw _ _)
      subst en
      refine ⟨_, rfl, _, rfl, _, rfl, _, _, rfl, rfl, .inr ⟨by omega, by omega⟩, _, _, rfl, rfl, _, rfl, RgOk.of_le (by omega) (by omega) (by omega) (by omega), fun q hq => ?_⟩
      rw [rg_V]
      refine ⟨_, _, dp_list (SqL.of ((same_upd (o := .lst ((rg 0 (d + grp d s * c)).map V.int)) hq) _ _ upd_same)), dp_list (ns := rg 0 (d + grp d s * c)) (SqL.of upd_same), shaped_ints _, shaped_ints _, _, rfl, ?_⟩
      rw [eqv_refl' (shaped_ints _)]
      refine iteF ?_
      have eall : Same H0 (upd (upd H1 p (.lst ((rg 0 (d + grp d s * c)).map V.int))) q (.lst ((rg 0 (d + grp d s * c)).map V.int))) := (e1.trans (same_upd hp1)).trans (same_upd hq)
      have ht1 := eall _ _ ht
      refine ⟨_, rfl, _, rfl, t, ar, nu, d, s, c, -1, rfl, SqT.of ht1, fun z => by omega, _, rfl, iteT ?_⟩
      refine ⟨_, rfl, _, rfl, t, ar, nu, d, s, c, grp d s, rfl, SqT.of ht1, fun z => by omega, _, rfl, iteT ?_⟩
      refine ⟨_, rfl, _, rfl, _, rfl, a, ns, 2, rfl, eall.seq hS0, _, _, rfl, rfl, (by show (0 : Int) < 1000; decide), _, _, rfl, rfl, t, ar, nu, d, s, c, _, rfl, SqT.of ht1, fun z => ?_, kQ _⟩
      have z1 := z.2.2
      have z2 := Int.emod_nonneg (cell ns 2) (b := 1000) (by decide)
      omega

end
theorem law_mk {P : Program} {w : World} {K : PySem.W.Frag} {mg : Str → Option Value} {C_ArchiveError C_InvalidLabel : Addr} {C_fa : Addr} (T : Txt K mg C_ArchiveError C_InvalidLabel) (hfa : mg "law" = some (.ref C_fa)) : ∃ fd : FuncData, (∀ (s : Shared) (v : Value), BindsTo s fd ⟨[v], []⟩ [("script", v)]) ∧ ∀ base : Heap, K.In base → base.Ns mainGlobals mg → FnOk P w K mg base CX0 6 C_fa fd ["script"] (spLaw K) := by
  obtain ⟨f, fd, F, g, b⟩ := id T.d_law
  have e := hfa.symm.trans g
  cases e
  refine ⟨fd, fun s v => ?_, fun base _ _ => ?_⟩
  · obtain ⟨oc, od, kV, doc, pm, an, cdv, ct, osl, rfl, lk, hcd⟩ := F.ex
    exact .of_eq rfl
  · exact ok_law0 T _ fd F
theorem law_end {P : Program} {w : World} {K : PySem.W.Frag} {h : Heap} {mg : Str → Option Value} {fa : Addr} {C_ArchiveError C_InvalidLabel : Addr} {f_is_group : Addr} {oc_is_group kV_is_group dc_is_group pm_is_group cd_is_group ct_is_group : Value} {od_is_group an_is_group : Option Addr} {sl_is_group : Array (Option Value)} {f_group_count : Addr} {oc_group_count kV_group_count dc_group_count pm_group_count cd_group_count ct_group_count : Value} {od_group_count an_group_count : Option Addr} {sl_group_count : Array (Option Value)} {f_all_pages : Addr} {oc_all_pages kV_all_pages dc_all_pages pm_all_pages cd_all_pages ct_all_pages : Value} {od_all_pages an_all_pages : Option Addr} {sl_all_pages : Array (Option Value)} {f_check_label : Addr} {oc_check_label kV_check_label dc_check_label pm_check_label cd_check_label ct_check_label : Value} {od_check_label an_check_label : Option Addr} {sl_check_label : Array (Option Value)} {f_group_pages : Addr} {oc_group_pages kV_group_pages dc_group_pages pm_group_pages cd_group_pages ct_group_pages : Value} {od_group_pages an_group_pages : Option Addr} {sl_group_pages : Array (Option Value)} {f__law_cell : Addr} {oc__law_cell kV__law_cell dc__law_cell pm__law_cell cd__law_cell ct__law_cell : Value} {od__law_cell an__law_cell : Option Addr} {sl__law_cell : Array (Option Value)} {f__law_is_int : Addr} {oc__law_is_int kV__law_is_int dc__law_is_int pm__law_is_int cd__law_is_int ct__law_is_int : Value} {od__law_is_int an__law_is_int : Option Addr} {sl__law_is_int : Array (Option Value)} {f__law_is_list : Addr} {oc__law_is_list kV__law_is_list dc__law_is_list pm__law_is_list cd__law_is_list ct__law_is_list : Value} {od__law_is_list an__law_is_list : Option Addr} {sl__law_is_list : Array (Option Value)} {f__law_label : Addr} {oc__law_label kV__law_label dc__law_label pm__law_label cd__law_label ct__law_label : Value} {od__law_label an__law_label : Option Addr} {sl__law_label : Array (Option Value)} {f__law_refused : Addr} {oc__law_refused kV__law_refused dc__law_refused pm__law_refused cd__law_refused ct__law_refused : Value} {od__law_refused an__law_refused : Option Addr} {sl__law_refused : Array (Option Value)} {f_law : Addr} {oc_law kV_law dc_law pm_law cd_law ct_law : Value} {od_law an_law : Option Addr} {sl_law : Array (Option Value)} {t_GREATEST_GROUP : Tok} {t_MOST_GROUP_PAGES : Tok} {t_MOST_PAGES : Tok} {t_GREATEST_ARCHIVE : Tok} (X : K.In h) (G : h.Ns mainGlobals mg) (hfa : mg "law" = some (.ref fa))
    (a_is_group : PySem.W.nsIn K mainGlobals "is_group" = some (some (.ref f_is_group)))
    (l_is_group : K.lookup f_is_group = some ⟨oc_is_group, od_is_group, .func (PySem.W.fnOf "is_group" "is_group" (defArgs s_is_group) (defBody s_is_group) (defScope s_is_group) .none kV_is_group dc_is_group pm_is_group an_is_group cd_is_group ct_is_group), sl_is_group⟩)
    (c_is_group : PySem.W.codeIn K cd_is_group "is_group" = true)
    (k_is_group : PySem.W.keepIn K (.ref f_is_group) = true)
    (a_group_count : PySem.W.nsIn K mainGlobals "group_count" = some (some (.ref f_group_count)))
    (l_group_count : K.lookup f_group_count = some ⟨oc_group_count, od_group_count, .func (PySem.W.fnOf "group_count" "group_count" (defArgs s_group_count) (defBody s_group_count) (defScope s_group_count) .none kV_group_count dc_group_count pm_group_count an_group_count cd_group_count ct_group_count), sl_group_count⟩)
    (c_group_count : PySem.W.codeIn K cd_group_count "group_count" = true)
    (k_group_count : PySem.W.keepIn K (.ref f_group_count) = true)
    (a_all_pages : PySem.W.nsIn K mainGlobals "all_pages" = some (some (.ref f_all_pages)))
    (l_all_pages : K.lookup f_all_pages = some ⟨oc_all_pages, od_all_pages, .func (PySem.W.fnOf "all_pages" "all_pages" (defArgs s_all_pages) (defBody s_all_pages) (defScope s_all_pages) .none kV_all_pages dc_all_pages pm_all_pages an_all_pages cd_all_pages ct_all_pages), sl_all_pages⟩)
    (c_all_pages : PySem.W.codeIn K cd_all_pages "all_pages" = true)
    (k_all_pages : PySem.W.keepIn K (.ref f_all_pages) = true)
    (a_check_label : PySem.W.nsIn K mainGlobals "check_label" = some (some (.ref f_check_label)))
    (l_check_label : K.lookup f_check_label = some ⟨oc_check_label, od_check_label, .func (PySem.W.fnOf "check_label" "check_label" (defArgs s_check_label) (defBody s_check_label) (defScope s_check_label) .none kV_check_label dc_check_label pm_check_label an_check_label cd_check_label ct_check_label), sl_check_label⟩)
    (c_check_label : PySem.W.codeIn K cd_check_label "check_label" = true)
    (k_check_label : PySem.W.keepIn K (.ref f_check_label) = true)
    (a_group_pages : PySem.W.nsIn K mainGlobals "group_pages" = some (some (.ref f_group_pages)))
    (l_group_pages : K.lookup f_group_pages = some ⟨oc_group_pages, od_group_pages, .func (PySem.W.fnOf "group_pages" "group_pages" (defArgs s_group_pages) (defBody s_group_pages) (defScope s_group_pages) .none kV_group_pages dc_group_pages pm_group_pages an_group_pages cd_group_pages ct_group_pages), sl_group_pages⟩)
    (c_group_pages : PySem.W.codeIn K cd_group_pages "group_pages" = true)
    (k_group_pages : PySem.W.keepIn K (.ref f_group_pages) = true)
    (a__law_cell : PySem.W.nsIn K mainGlobals "_law_cell" = some (some (.ref f__law_cell)))
    (l__law_cell : K.lookup f__law_cell = some ⟨oc__law_cell, od__law_cell, .func (PySem.W.fnOf "_law_cell" "_law_cell" (defArgs s__law_cell) (defBody s__law_cell) (defScope s__law_cell) .none kV__law_cell dc__law_cell pm__law_cell an__law_cell cd__law_cell ct__law_cell), sl__law_cell⟩)
    (c__law_cell : PySem.W.codeIn K cd__law_cell "_law_cell" = true)
    (k__law_cell : PySem.W.keepIn K (.ref f__law_cell) = true)
    (a__law_is_int : PySem.W.nsIn K mainGlobals "_law_is_int" = some (some (.ref f__law_is_int)))
    (l__law_is_int : K.lookup f__law_is_int = some ⟨oc__law_is_int, od__law_is_int, .func (PySem.W.fnOf "_law_is_int" "_law_is_int" (defArgs s__law_is_int) (defBody s__law_is_int) (defScope s__law_is_int) .none kV__law_is_int dc__law_is_int pm__law_is_int an__law_is_int cd__law_is_int ct__law_is_int), sl__law_is_int⟩)
    (c__law_is_int : PySem.W.codeIn K cd__law_is_int "_law_is_int" = true)
    (k__law_is_int : PySem.W.keepIn K (.ref f__law_is_int) = true)
    (a__law_is_list : PySem.W.nsIn K mainGlobals "_law_is_list" = some (some (.ref f__law_is_list)))
    (l__law_is_list : K.lookup f__law_is_list = some ⟨oc__law_is_list, od__law_is_list, .func (PySem.W.fnOf "_law_is_list" "_law_is_list" (defArgs s__law_is_list) (defBody s__law_is_list) (defScope s__law_is_list) .none kV__law_is_list dc__law_is_list pm__law_is_list an__law_is_list cd__law_is_list ct__law_is_list), sl__law_is_list⟩)
    (c__law_is_list : PySem.W.codeIn K cd__law_is_list "_law_is_list" = true)
    (k__law_is_list : PySem.W.keepIn K (.ref f__law_is_list) = true)
    (a__law_label : PySem.W.nsIn K mainGlobals "_law_label" = some (some (.ref f__law_label)))
    (l__law_label : K.lookup f__law_label = some ⟨oc__law_label, od__law_label, .func (PySem.W.fnOf "_law_label" "_law_label" (defArgs s__law_label) (defBody s__law_label) (defScope s__law_label) .none kV__law_label dc__law_label pm__law_label an__law_label cd__law_label ct__law_label), sl__law_label⟩)
    (c__law_label : PySem.W.codeIn K cd__law_label "_law_label" = true)
    (k__law_label : PySem.W.keepIn K (.ref f__law_label) = true)
    (a__law_refused : PySem.W.nsIn K mainGlobals "_law_refused" = some (some (.ref f__law_refused)))
    (l__law_refused : K.lookup f__law_refused = some ⟨oc__law_refused, od__law_refused, .func (PySem.W.fnOf "_law_refused" "_law_refused" (defArgs s__law_refused) (defBody s__law_refused) (defScope s__law_refused) .none kV__law_refused dc__law_refused pm__law_refused an__law_refused cd__law_refused ct__law_refused), sl__law_refused⟩)
    (c__law_refused : PySem.W.codeIn K cd__law_refused "_law_refused" = true)
    (k__law_refused : PySem.W.keepIn K (.ref f__law_refused) = true)
    (a_law : PySem.W.nsIn K mainGlobals "law" = some (some (.ref f_law)))
    (l_law : K.lookup f_law = some ⟨oc_law, od_law, .func (PySem.W.fnOf "law" "law" (defArgs s_law) (defBody s_law) (defScope s_law) .none kV_law dc_law pm_law an_law cd_law ct_law), sl_law⟩)
    (c_law : PySem.W.codeIn K cd_law "law" = true)
    (k_law : PySem.W.keepIn K (.ref f_law) = true)
    (a_GREATEST_GROUP : PySem.W.nsIn K mainGlobals "GREATEST_GROUP" = some (some (.int 12 t_GREATEST_GROUP)))
    (a_MOST_GROUP_PAGES : PySem.W.nsIn K mainGlobals "MOST_GROUP_PAGES" = some (some (.int 16 t_MOST_GROUP_PAGES)))
    (a_MOST_PAGES : PySem.W.nsIn K mainGlobals "MOST_PAGES" = some (some (.int 255 t_MOST_PAGES)))
    (a_GREATEST_ARCHIVE : PySem.W.nsIn K mainGlobals "GREATEST_ARCHIVE" = some (some (.int 255 t_GREATEST_ARCHIVE)))
    (z_list : PySem.W.nsIn K mainGlobals "list" = some none)
    (z_range : PySem.W.nsIn K mainGlobals "range" = some none)
    (z_min : PySem.W.nsIn K mainGlobals "min" = some none)
    (z_len : PySem.W.nsIn K mainGlobals "len" = some none)
    (z_int : PySem.W.nsIn K mainGlobals "int" = some none)
    (z_isinstance : PySem.W.nsIn K mainGlobals "isinstance" = some none)
    (z_bool : PySem.W.nsIn K mainGlobals "bool" = some none)
    (z_sorted : PySem.W.nsIn K mainGlobals "sorted" = some none)
    (a_ArchiveError : PySem.W.nsIn K mainGlobals "ArchiveError" = some (some (.ref C_ArchiveError)))
    (x_ArchiveError : PySem.W.excIn K C_ArchiveError [.type "ValueError", .type "Exception", .type "BaseException", .type "object"] "ValueError.__new__" = true)
    (k_ArchiveError : PySem.W.keepIn K (.ref C_ArchiveError) = true)
    (b_ArchiveError : PySem.W.subIn K (.ref C_ArchiveError) (.type "BaseException") = some true)
    (t_ArchiveError : PySem.W.typeIn K (.ref C_ArchiveError) = some (.type "type"))
    (g_ArchiveError : PySem.W.findIn K (.ref C_ArchiveError) "__getattribute__" = some (some (.builtin "BaseException.__getattribute__")))
    (h_ArchiveError : PySem.W.findIn K (.ref C_ArchiveError) "__getattr__" = some none)
    (d_ArchiveError : PySem.W.hasDictIn K C_ArchiveError = true)
    (o_ArchiveError : PySem.W.findIn K (.ref C_ArchiveError) "__class__" = some (some (.builtin "object.__class__")))
    (n_ArchiveError : PySem.W.specialIn K (.builtin "object.__class__") "__get__" = some (some (.builtin "getset_descriptor.__get__")))
    (m_ArchiveError : PySem.W.takesIn K (.builtin "object.__class__") = some true)
    (r_ArchiveError : PySem.W.mroIn K C_ArchiveError (.type "object") = some true)
    (i_ArchiveError : PySem.W.isClsIn K C_ArchiveError = true)
    (a_InvalidLabel : PySem.W.nsIn K mainGlobals "InvalidLabel" = some (some (.ref C_InvalidLabel)))
    (x_InvalidLabel : PySem.W.excIn K C_InvalidLabel [.type "ValueError", .type "Exception", .type "BaseException", .type "object"] "ValueError.__new__" = true)
    (k_InvalidLabel : PySem.W.keepIn K (.ref C_InvalidLabel) = true)
    (b_InvalidLabel : PySem.W.subIn K (.ref C_InvalidLabel) (.type "BaseException") = some true)
    (t_InvalidLabel : PySem.W.typeIn K (.ref C_InvalidLabel) = some (.type "type"))
    (g_InvalidLabel : PySem.W.findIn K (.ref C_InvalidLabel) "__getattribute__" = some (some (.builtin "BaseException.__getattribute__")))
    (h_InvalidLabel : PySem.W.findIn K (.ref C_InvalidLabel) "__getattr__" = some none)
    (d_InvalidLabel : PySem.W.hasDictIn K C_InvalidLabel = true)
    (o_InvalidLabel : PySem.W.findIn K (.ref C_InvalidLabel) "__class__" = some (some (.builtin "object.__class__")))
    (n_InvalidLabel : PySem.W.specialIn K (.builtin "object.__class__") "__get__" = some (some (.builtin "getset_descriptor.__get__")))
    (m_InvalidLabel : PySem.W.takesIn K (.builtin "object.__class__") = some true)
    (r_InvalidLabel : PySem.W.mroIn K C_InvalidLabel (.type "object") = some true)
    (i_InvalidLabel : PySem.W.isClsIn K C_InvalidLabel = true)
    (hs_InvalidLabel_ArchiveError : PySem.W.subIn K (.ref C_InvalidLabel) (.ref C_ArchiveError) = some true)
    (hq_InvalidLabel_InvalidLabel : PySem.W.subIn K (.ref C_InvalidLabel) (.ref C_InvalidLabel) = some true)
    : ∃ fd : FuncData, (∀ (s : Shared) (v : Value), BindsTo s fd ⟨[v], []⟩ [("script", v)]) ∧ ∀ base : Heap, K.In base → base.Ns mainGlobals mg → FnOk P w K mg base CX0 6 fa fd ["script"] (spLaw K) :=
  law_mk (T := ⟨dn_mk X G a_is_group l_is_group c_is_group k_is_group (fun _ _ _ _ _ _ us hl => match us, hl with | [_, _], _ => rfl),
    dn_mk X G a_group_count l_group_count c_group_count k_group_count (fun _ _ _ _ _ _ us hl => match us, hl with | [_, _], _ => rfl),
    dn_mk X G a_all_pages l_all_pages c_all_pages k_all_pages (fun _ _ _ _ _ _ us hl => match us, hl with | [_, _, _], _ => rfl),
    dn_mk X G a_check_label l_check_label c_check_label k_check_label (fun _ _ _ _ _ _ us hl => match us, hl with | [_], _ => rfl),
    dn_mk X G a_group_pages l_group_pages c_group_pages k_group_pages (fun _ _ _ _ _ _ us hl => match us, hl with | [_, _], _ => rfl),
    dn_mk X G a__law_cell l__law_cell c__law_cell k__law_cell (fun _ _ _ _ _ _ us hl => match us, hl with | [_, _], _ => rfl),
    dn_mk X G a__law_is_int l__law_is_int c__law_is_int k__law_is_int (fun _ _ _ _ _ _ us hl => match us, hl with | [_], _ => rfl),
    dn_mk X G a__law_is_list l__law_is_list c__law_is_list k__law_is_list (fun _ _ _ _ _ _ us hl => match us, hl with | [_, _, _], _ => rfl),
    dn_mk X G a__law_label l__law_label c__law_label k__law_label (fun _ _ _ _ _ _ us hl => match us, hl with | [_], _ => rfl),
    dn_mk X G a__law_refused l__law_refused c__law_refused k__law_refused (fun _ _ _ _ _ _ us hl => match us, hl with | [_, _], _ => rfl),
    dn_mk X G a_law l_law c_law k_law (fun _ _ _ _ _ _ us hl => match us, hl with | [_], _ => rfl),
    cv_int X G a_GREATEST_GROUP,
    cv_int X G a_MOST_GROUP_PAGES,
    cv_int X G a_MOST_PAGES,
    cv_int X G a_GREATEST_ARCHIVE,
    PySem.W.mg_none_of X G z_list,
    PySem.W.mg_none_of X G z_range,
    PySem.W.mg_none_of X G z_min,
    PySem.W.mg_none_of X G z_len,
    PySem.W.mg_none_of X G z_int,
    PySem.W.mg_none_of X G z_isinstance,
    PySem.W.mg_none_of X G z_bool,
    PySem.W.mg_none_of X G z_sorted,
    xcl_mk X G a_ArchiveError x_ArchiveError k_ArchiveError b_ArchiveError t_ArchiveError g_ArchiveError h_ArchiveError d_ArchiveError o_ArchiveError n_ArchiveError m_ArchiveError r_ArchiveError i_ArchiveError,
    xcl_mk X G a_InvalidLabel x_InvalidLabel k_InvalidLabel b_InvalidLabel t_InvalidLabel g_InvalidLabel h_InvalidLabel d_InvalidLabel o_InvalidLabel n_InvalidLabel m_InvalidLabel r_InvalidLabel i_InvalidLabel,
    hs_InvalidLabel_ArchiveError,
    kit_own i_InvalidLabel t_InvalidLabel hq_InvalidLabel_InvalidLabel (fun _ => rfl)⟩) hfa
theorem walk {l : PySem.W.OpenLaw} {q : Program} {loose : List Str} {XP : (Str → Option Value) → Heap → Prop} {YP : World → Heap → Prop} {d : DefRec} {K : Params → PySem.W.Frag} (hn : l.most = some 63) (hdf : d.params.defaults = [])
    (hY : ∀ (w : World) (h : Heap), YP w h → (K w.params).In h)
    (F : ∀ (w : World) (mg : Str → Option Value) (fa : Addr) (h : Heap), (K w.params).In h → h.Ns mainGlobals mg → mg d.name = some (.ref fa) →
      ∃ fd : FuncData, (∀ (s : Shared) (u : Value), BindsTo s fd ⟨[u], []⟩ [("script", u)]) ∧ ∀ base : Heap, (K w.params).In base → base.Ns mainGlobals mg → FnOk l.prog w (K w.params) mg base CX0 6 fa fd ["script"] (spLaw (K w.params))) :
    PySem.W.WalkO q loose XP YP l.row.toRowW d [] (fun f vs => PySem.call f vs) :=
  L2.walk_of (n := 63) (k := 6) (x := "script") (CX := fun _ => CX0) (sp := fun w => spLaw (K w.params)) hn (by decide) hdf ⟨rfl, by decide, by decide⟩ hY F (fun _ _ a ns hl _ hS => ⟨a, ns, rfl, hS, hl, fun _ => rfl⟩) fun _ _ _ _ _ z => z
end My
open PySem PySem.W PyProof.Rows in
set_option maxRecDepth 100000 in
set_option maxHeartbeats 0 in
theorem PySem.Challenge.cw_scanpages_k34_groups_of_pages_holds : PySem.Challenge.rw_scanpages_k34_groups_of_pages.Holds := by
  w_on; o_law; k_head; (case hw => w_witness2)
  k_fill
  refine My.walk (l := PySem.Challenge.rw_scanpages_k34_groups_of_pages) rfl rfl (fun w h Y => PySem.W.kIn_of Y) ?F
  case F =>
    intro w mg fa h KX G hmg
    refine' My.law_end KX G hmg ?a_is_group ?l_is_group ?c_is_group ?k_is_group ?a_group_count ?l_group_count ?c_group_count ?k_group_count ?a_all_pages ?l_all_pages ?c_all_pages ?k_all_pages ?a_check_label ?l_check_label ?c_check_label ?k_check_label ?a_group_pages ?l_group_pages ?c_group_pages ?k_group_pages ?a__law_cell ?l__law_cell ?c__law_cell ?k__law_cell ?a__law_is_int ?l__law_is_int ?c__law_is_int ?k__law_is_int ?a__law_is_list ?l__law_is_list ?c__law_is_list ?k__law_is_list ?a__law_label ?l__law_label ?c__law_label ?k__law_label ?a__law_refused ?l__law_refused ?c__law_refused ?k__law_refused ?a_law ?l_law ?c_law ?k_law ?a_GREATEST_GROUP ?a_MOST_GROUP_PAGES ?a_MOST_PAGES ?a_GREATEST_ARCHIVE ?z_list ?z_range ?z_min ?z_len ?z_int ?z_isinstance ?z_bool ?z_sorted ?a_ArchiveError ?x_ArchiveError ?k_ArchiveError ?b_ArchiveError ?t_ArchiveError ?g_ArchiveError ?h_ArchiveError ?d_ArchiveError ?o_ArchiveError ?n_ArchiveError ?m_ArchiveError ?r_ArchiveError ?i_ArchiveError ?a_InvalidLabel ?x_InvalidLabel ?k_InvalidLabel ?b_InvalidLabel ?t_InvalidLabel ?g_InvalidLabel ?h_InvalidLabel ?d_InvalidLabel ?o_InvalidLabel ?n_InvalidLabel ?m_InvalidLabel ?r_InvalidLabel ?i_InvalidLabel ?hs_InvalidLabel_ArchiveError ?hq_InvalidLabel_InvalidLabel
    (case a_is_group => k_is)
    (case l_is_group => k_is)
    (case c_is_group => k_is)
    (case k_is_group => k_is)
    (case a_group_count => k_is)
    (case l_group_count => k_is)
    (case c_group_count => k_is)
    (case k_group_count => k_is)
    (case a_all_pages => k_is)
    (case l_all_pages => k_is)
    (case c_all_pages => k_is)
    (case k_all_pages => k_is)
    (case a_check_label => k_is)
    (case l_check_label => k_is)
    (case c_check_label => k_is)
    (case k_check_label => k_is)
    (case a_group_pages => k_is)
    (case l_group_pages => k_is)
    (case c_group_pages => k_is)
    (case k_group_pages => k_is)
    (case a__law_cell => k_is)
    (case l__law_cell => k_is)
    (case c__law_cell => k_is)
    (case k__law_cell => k_is)
    (case a__law_is_int => k_is)
    (case l__law_is_int => k_is)
    (case c__law_is_int => k_is)
    (case k__law_is_int => k_is)
    (case a__law_is_list => k_is)
    (case l__law_is_list => k_is)
    (case c__law_is_list => k_is)
    (case k__law_is_list => k_is)
    (case a__law_label => k_is)
    (case l__law_label => k_is)
    (case c__law_label => k_is)
    (case k__law_label => k_is)
    (case a__law_refused => k_is)
    (case l__law_refused => k_is)
    (case c__law_refused => k_is)
    (case k__law_refused => k_is)
    (case a_law => k_is)
    (case l_law => k_is)
    (case c_law => k_is)
    (case k_law => k_is)
    (case a_GREATEST_GROUP => k_is)
    (case a_MOST_GROUP_PAGES => k_is)
    (case a_MOST_PAGES => k_is)
    (case a_GREATEST_ARCHIVE => k_is)
    (case z_list => k_is)
    (case z_range => k_is)
    (case z_min => k_is)
    (case z_len => k_is)
    (case z_int => k_is)
    (case z_isinstance => k_is)
    (case z_bool => k_is)
    (case z_sorted => k_is)
    (case a_ArchiveError => k_is)
    (case x_ArchiveError => k_exc)
    (case k_ArchiveError => k_is)
    (case b_ArchiveError => k_is)
    (case t_ArchiveError => k_is)
    (case g_ArchiveError => k_is)
    (case h_ArchiveError => k_is)
    (case d_ArchiveError => k_is)
    (case o_ArchiveError => k_is)
    (case n_ArchiveError => k_is)
    (case m_ArchiveError => k_is)
    (case r_ArchiveError => k_is)
    (case i_ArchiveError => k_is)
    (case a_InvalidLabel => k_is)
    (case x_InvalidLabel => k_exc)
    (case k_InvalidLabel => k_is)
    (case b_InvalidLabel => k_is)
    (case t_InvalidLabel => k_is)
    (case g_InvalidLabel => k_is)
    (case h_InvalidLabel => k_is)
    (case d_InvalidLabel => k_is)
    (case o_InvalidLabel => k_is)
    (case n_InvalidLabel => k_is)
    (case m_InvalidLabel => k_is)
    (case r_InvalidLabel => k_is)
    (case i_InvalidLabel => k_is)
    (case hs_InvalidLabel_ArchiveError => first | k_is | rfl)
    (case hq_InvalidLabel_InvalidLabel => first | k_is | rfl)
#print axioms PySem.Challenge.cw_scanpages_k34_groups_of_pages_holds
