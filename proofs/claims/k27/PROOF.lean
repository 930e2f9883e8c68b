import PyProof.Rows.All
import Wide.All
import OpenK.AllK
import Wide.FinOn
import PyProof.EqAt
import PyProof.EqKinds
import PyProof.TupleCall
import HandS.ForMost
import HandS.ForExc
import HandS.RaiseMore
import HandS.FStr
import HandS.IsInst
import HandS.ExcIs
import HandS.Wide
import HandS.Flow
import HandS.Conv
import HandS.Evl
import HandS.TupAny
import HandS.Style
import HandS.ExcCtx
import HandS.HotCalls
import HandS.Strs
import KE.GoesEnum
import HandS.ListItems
import HandS.Zip
import KE.KDictZip
import PySem.Challenge.RW_scanpages_k27_interpolation
set_option Elab.async false
set_option linter.all false
set_option maxRecDepth 100000
set_option maxHeartbeats 4000000
/-! Cm: what all our proofs share -/
namespace Cm
open PySem PySem.Spec PyProof.Rows L2

/-! ### defs of the module, and what they promise -/
/-- the def x stands at some address behind the top -/
def Dn (K : PySem.W.Frag) (mg : Str → Option Value) (x : Str) (st : Stmt) (ps : List Str) : Prop :=
  ∃ (f : Addr) (fd : FuncData), Fun K x x st f fd ∧ mg x = some (.ref f) ∧ Binds K fd ps []
/-- the def x keeps the promise sp -/
def Ok (P : Program) (w : World) (K : PySem.W.Frag) (mg : Str → Option Value) (base : Heap) (CX : CXT) (k : Nat) (x : Str) (ps : List Str) (sp : Sp) : Prop :=
  ∃ (f : Addr) (fd : FuncData), FnOk P w K mg base CX k f fd ps sp ∧ mg x = some (.ref f) ∧ PySem.W.keepIn K (.ref f) = true ∧ Binds K fd ps []
theorem ok_of {P : Program} {w : World} {K : PySem.W.Frag} {mg : Str → Option Value} {base : Heap} {CX : CXT} {k : Nat} {x : Str} {st : Stmt} {ps : List Str} {sp : Sp} (d : Dn K mg x st ps)
    (h : ∀ f fd, Fun K x x st f fd → FnOk P w K mg base CX k f fd ps sp) : Ok P w K mg base CX k x ps sp := by
  obtain ⟨f, fd, F, g, b⟩ := d
  exact ⟨f, fd, h f fd F, g, F.kp, b⟩
section
variable {X : Cx} {CX : CXT} {k : Nat} {ps : List Str} {sp : Sp} {E : XK} {x : Str} {p pos : Pos} {e : Expr} {es : List Expr} {t : TA}
theorem pe_callO (G : Ok X.prog X.w X.K X.mg X.base CX k x ps sp) (hr : Room k X.A) (hx : Passes CX X E) (ha : PA X (e :: es) t) (hg : Gl X x := by rfl)
    (hdb : (x == ("__debug__" : Str)) = false := by decide) (he : starEach (e :: es) X.env = (false, eval e X.env) :: starEach es X.env := by rfl) (hpl : (backTo pos (starEach es X.env)).any (·.1) = false := by rfl) :
    PE X (.Call (.Name x p) (e :: es) [] pos) (tCall sp [] E t) := by
  obtain ⟨f, fd, F, g, kp, b⟩ := G
  exact pe_call F hr hg g kp b .nil hx ha hdb he hpl
theorem pe_callO0 (G : Ok X.prog X.w X.K X.mg X.base CX k x ps sp) (hr : Room k X.A) (hx : Passes CX X E) (hg : Gl X x := by rfl) (hdb : (x == ("__debug__" : Str)) = false := by decide) :
    PE X (.Call (.Name x p) [] [] pos) (tCall sp [] E tNil) := by
  obtain ⟨f, fd, F, g, kp, b⟩ := G
  exact pe_call0 F hr hg g kp b .nil hx hdb
theorem pe_callT {Es : L2.St → XK} (G : Ok X.prog X.w X.K X.mg X.base CX k x ps sp) (hr : Room k X.A) (hx : ∀ σ, PassesAt CX X σ (Es σ)) (ha : PA X (e :: es) t) (hg : Gl X x := by rfl)
    (hdb : (x == ("__debug__" : Str)) = false := by decide) (he : starEach (e :: es) X.env = (false, eval e X.env) :: starEach es X.env := by rfl) (hpl : (backTo pos (starEach es X.env)).any (·.1) = false := by rfl) :
    PE X (.Call (.Name x p) (e :: es) [] pos) (tCallS sp Es t) := by
  obtain ⟨f, fd, F, g, kp, b⟩ := G
  exact pe_callS F hr hg g kp b hx ha hdb he hpl
end
/-! ### errors: raised where nothing is handled -/
/-- what leaves a def: L2N's way -/
abbrev CXN (P : Program) (w : World) : CXT := L2N.CX P w
theorem passN {X : Cx} : Passes (CXN X.prog X.w) X E0 := fun _ _ _ _ _ _ _ h => by
  obtain ⟨_, _, _, _, _, _, _, _, _, _, _, _, z⟩ := h
  exact z.elim
theorem takesN {X : Cx} : L2N.Takes X (fun _ _ _ _ => False) := fun _ _ x => by
  obtain ⟨_, _, _, _, _, _, _, _, _, _, _, _, _, _, _, _, z⟩ := x
  exact z.elim
theorem passX {X : Cx} {E E' : XK} (tk : L2N.Takes X (fun cls d _ H => E cls d H)) (h : ∀ cls d H, E' cls d H → E cls d H) : Passes (CXN X.prog X.w) X E' := fun pins σ H s e s' I c => tk e s' (L2N.XE.of_call I (fun cls d H' q => h cls d H' q) c)
theorem okN {P : Program} {w : World} {K : PySem.W.Frag} {mg : Str → Option Value} {base : Heap} {x qual : Str} {st : Stmt} {f : Addr} {fd : FuncData} {N ps : List Str} {k : Nat} {sp : Sp} (F : Fun K x qual st f fd) (S : FnScope N ps (defScope st)) (len : ∀ vs H Q E, sp vs H Q E → vs.length = ps.length)
    (hbody : ∀ (cdv : Value) (A : Around) (outer : List Env) (s : Shared) (H : Hp) (vs : List V) (Q : VK) (E : XK), Room k (A.deeper (envOfC qual (defScope st) s.heap.objs.size f cdv)) → sp vs H Q E →
      ∃ t, PSs (cxOf (CXN P w) P w K mg base N qual (defScope st) f cdv A outer s H E) (defBody st) t ∧ t { nx := fun _ H' => Q .non H', rt := Q } (L2.start N vs) H) : FnOk P w K mg base (CXN P w) (k + 1) f fd ps sp := by
  obtain ⟨oc, od, kV, doc, pm, an, cdv, ct, osl, rfl, lk, hcd⟩ := F.ex
  exact fn_of lk hcd S len fun A outer s H vs Q E hr hsp => hbody cdv A outer s H vs Q E hr hsp
section
variable {X : Cx}
/-- X(e) -/
theorem pmk_own1 {C : Addr} {bmB : List Value} {B newId initId : String} {x : Str} {e : Expr} {ta : TE} {p pos : Pos} (F : ExcBaseFacts B newId initId bmB) (q : PySem.W.excIn X.K C bmB newId = true) (gC : X.mg x = some (.ref C)) (kC : PySem.W.keepIn X.K (.ref C) = true) (r : Raises X (.ref C)) (hg : Gl X x)
    (he : PE X e ta) (hs : starEach [e] X.env = (false, eval e X.env) :: starEach [] X.env := by rfl) (hdb : (x == ("__debug__" : Str)) = false := by decide) :
    L2N.PMk X (.Call (.Name x p) [e] [] pos) (fun σ H Q => ta σ H fun _ H1 => Q (.ref C) none H1) := by
  intro pins s σ H Q I h
  refine wpAny_Call_Name_kw (ld_glob I hg gC ?_ hdb)
  refine PySem.W.callWith_K (h₀ := X.base) I.ok.mod.kin kC ?_ hs (by rfl)
  rw [hs]
  show wpAny _ _ (spliced ((false, eval e X.env) :: backTo pos (starEach [] X.env))) _ _ s
  refine Calls.spliced_cons (thn (he.run pins s σ H _ I h) fun u s1 ⟨v, H1, I1, r1, q1⟩ => ?_)
  refine Calls.spliced_nil ⟨I1.kIn, ?_⟩
  show wpAny _ _ (call (.ref C) [u]) _ _ _
  obtain ⟨bm, N, nm, qn, bs, hdct, sn, sub, ab, col, dd, k0, k1, k2, k3, k5, mN, hC, hN, hni, T⟩ := exc_obj I1.kIn q
  refine wpAny_call_exc_subT F T hC hN hni (fun h' e hm => ?_) (by show 1 ≤ sizeLine; rw [sizeLine_eq]; omega)
  exact L2N.mk_of I1 hm r q1 (I1.hok.gone hm.new)
end
/-! ### defs called within an except suite -/
def OkH (P : Program) (w : World) (K : PySem.W.Frag) (mg : Str → Option Value) (base : Heap) (CX : CXT) (k : Nat) (x : Str) (ps : List Str) (sp : Sp) : Prop :=
  ∃ (f : Addr) (fd : FuncData), L2H.FnH P w K mg base CX k f fd ps sp ∧ mg x = some (.ref f) ∧ PySem.W.keepIn K (.ref f) = true ∧ Binds K fd ps []
theorem okH_of {P : Program} {w : World} {K : PySem.W.Frag} {mg : Str → Option Value} {base : Heap} {k : Nat} {x : Str} {st : Stmt} {N ps : List Str} {sp : Sp} (d : Dn K mg x st ps) (S : FnScope N ps (defScope st)) (len : ∀ vs H Q E, sp vs H Q E → vs.length = ps.length)
    (hbody : ∀ (f : Addr) (cdv : Value) (A : Around) (outer : List Env) (s : Shared) (H : Hp) (vs : List V) (Q : VK) (E : XK) (p : Addr × Obj), L2H.Hot1 A p → L2H.RoomH k (A.deeper (envOfC x (defScope st) s.heap.objs.size f cdv)) → sp vs H Q E →
      ∃ t, PSs (L2H.cxH CX0 P w K mg base N x (defScope st) f cdv A outer s H E p) (defBody st) t ∧ t { nx := fun _ H' => Q .non H', rt := Q } (L2.start N vs) H) : OkH P w K mg base CX0 (k + 1) x ps sp := by
  obtain ⟨f, fd, F, g, b⟩ := d
  refine ⟨f, fd, ?_, g, F.kp, b⟩
  obtain ⟨oc, od, kV, doc, pm, an, cdv, ct, osl, rfl, lk, hcd⟩ := F.ex
  exact L2H.fn_ofH lk hcd S len fun A outer s H vs Q E p hot hr hsp => hbody f cdv A outer s H vs Q E p hot hr hsp
section
variable {X : Cx} {k : Nat} {ps : List Str} {sp : Sp} {x : Str} {p pos : Pos} {e : Expr} {es : List Expr} {t : TA}
theorem pe_callHO (G : OkH X.prog X.w X.K X.mg X.base CX0 k x ps sp) (hr : L2H.RoomH k X.A) (hc : L2H.HotC X) (ha : PA X (e :: es) t) (hg : Gl X x := by rfl)
    (hdb : (x == ("__debug__" : Str)) = false := by decide) (he : starEach (e :: es) X.env = (false, eval e X.env) :: starEach es X.env := by rfl) (hpl : (backTo pos (starEach es X.env)).any (·.1) = false := by rfl) :
    PE X (.Call (.Name x p) (e :: es) [] pos) (tCallS sp (fun _ => E0) t) := by
  obtain ⟨f, fd, F, g, kp, b⟩ := G
  exact L2H.pe_callH F hr hc hg g kp b (fun _ _ _ _ _ _ _ h => h.elim) ha hdb he hpl
theorem roomS {k j : Nat} {A : Around} {h : Option Value} (hr : Room k A) (hj : j ≤ k) : L2H.RoomH j (A.mark h) := L2H.RoomH.mono (k := k) ⟨hr.dp, hr.un⟩ hj
theorem hotS {a : Addr} {oe : Obj} {cls : Value} {d : Option Addr} {pn : List (Addr × Obj)} (hz : L2N.Zn cls d oe) (hf : ∃ vs, oe.data = .fields vs) : L2H.HotC (X.suite a ((a, oe) :: pn)) := by
  obtain ⟨vs, e⟩ := hf
  exact ⟨(a, oe), ⟨rfl, vs, e, hz.2.2 vs e⟩, List.mem_cons_self⟩
end
/-! ### names of the module -/
/-- the name x of the module holds v -/
def CV (mg : Str → Option Value) (x : Str) (v : V) : Prop := ∃ u, mg x = some u ∧ RelV v u
theorem pe_globC {X : Cx} {x : Str} {v : V} {pos : Pos} (hg : Gl X x) (h : CV X.mg x v) (hd : (x == ("__debug__" : Str)) = false := by decide) : PE X (.Name x pos) (tC v) := by
  obtain ⟨u, hm, r⟩ := h
  exact pe_glob hg hm r hd
theorem pe_globR {X : Cx} {x : Str} {a : Addr} {pos : Pos} (hg : Gl X x) (h : X.mg x = some (.ref a)) (hd : (x == ("__debug__" : Str)) = false := by decide) : PE X (.Name x pos) (tC (.ref a)) := pe_glob hg h rfl hd
/-! ### tests -/
theorem itd {p A B : Prop} [Decidable p] (h1 : p → A) (h2 : ¬ p → B) : if decide p = true then A else B := by
  by_cases h : p
  · rw [if_pos (decide_eq_true h)]
    exact h1 h
  · rw [if_neg (by simp [h])]
    exact h2 h
theorem itb {b : Bool} {A B : Prop} (h1 : b = true → A) (h2 : b = false → B) : if b = true then A else B := by
  cases b with
  | true => exact iteT (h1 rfl)
  | false => exact iteF (h2 rfl)
/-! ### error classes -/
/-- an error class that may have an own __init__ -/
structure XB (K : PySem.W.Frag) (mg : Str → Option Value) (x : Str) (C : Addr) : Prop where
  g : mg x = some (.ref C)
  k : PySem.W.keepIn K (.ref C) = true
  b : PySem.W.subIn K (.ref C) (.type "BaseException") = some true
  t : PySem.W.typeIn K (.ref C) = some (.type "type")
  d : PySem.W.hasDictIn K C = true
  i : PySem.W.isClsIn K C = true
/-- an error class without an own __init__ -/
structure XCl (K : PySem.W.Frag) (mg : Str → Option Value) (x : Str) (C : Addr) : Prop extends XB K mg x C where
  x : PySem.W.excIn K C [.type "ValueError", .type "Exception", .type "BaseException", .type "object"] "ValueError.__new__" = true
  e : ExcC K C
section
variable {K : PySem.W.Frag} {h : Heap} {mg : Str → Option Value} {x : Str} {C : Addr}
theorem xb_mk (X : K.In h) (G : h.Ns mainGlobals mg) (a : PySem.W.nsIn K mainGlobals x = some (some (.ref C))) (k : PySem.W.keepIn K (.ref C) = true) (b : PySem.W.subIn K (.ref C) (.type "BaseException") = some true)
    (t : PySem.W.typeIn K (.ref C) = some (.type "type")) (d : PySem.W.hasDictIn K C = true) (i : PySem.W.isClsIn K C = true) : XB K mg x C := ⟨PySem.W.mg_of X G a, k, b, t, d, i⟩
theorem xcl_mk (X : K.In h) (G : h.Ns mainGlobals mg) (a : PySem.W.nsIn K mainGlobals x = some (some (.ref C)))
    (q : PySem.W.excIn K C [.type "ValueError", .type "Exception", .type "BaseException", .type "object"] "ValueError.__new__" = true) (k : PySem.W.keepIn K (.ref C) = true)
    (b : PySem.W.subIn K (.ref C) (.type "BaseException") = some true) (t : PySem.W.typeIn K (.ref C) = some (.type "type"))
    (hg : PySem.W.findIn K (.ref C) "__getattribute__" = some (some (.builtin "BaseException.__getattribute__"))) (hk : PySem.W.findIn K (.ref C) "__getattr__" = some none) (hd : PySem.W.hasDictIn K C = true)
    (ha : PySem.W.findIn K (.ref C) "__class__" = some (some (.builtin "object.__class__"))) (hn : PySem.W.specialIn K (.builtin "object.__class__") "__get__" = some (some (.builtin "getset_descriptor.__get__")))
    (ht : PySem.W.takesIn K (.builtin "object.__class__") = some true) (hm : PySem.W.mroIn K C (.type "object") = some true) (i : PySem.W.isClsIn K C = true) : XCl K mg x C :=
  ⟨⟨PySem.W.mg_of X G a, k, b, t, hd, i⟩, q, ⟨hg, hk, b, hd, ha, hn, ht, hm⟩⟩
/-- isinstance of an own class -/
theorem kit_own {D : Addr} {r : Bool} (i : PySem.W.isClsIn K C = true) (t : PySem.W.typeIn K (.ref C) = some (.type "type")) (s : PySem.W.subIn K (.ref D) (.ref C) = some r) (hne : (Value.ref D == Value.ref C) = true → r = true) :
    PySem.W.kitOne K (.ref D) (.ref C) = some r := by
  unfold PySem.W.kitOne
  cases e : (Value.ref D == Value.ref C) with
  | true => rw [if_pos rfl, hne e]
  | false =>
    rw [if_neg Bool.false_ne_true]
    have h2 : ((PySem.W.clsIn K C).isSome && PySem.W.typeIn K (.ref C) == some (.type "type")) = true := by
      have h2' : (PySem.W.clsIn K C).isSome = true := i
      rw [h2', t] <;> rfl
    show (if ((PySem.W.clsIn K C).isSome && PySem.W.typeIn K (.ref C) == some (.type "type")) = true then PySem.W.subIn K (.ref D) (.ref C) else none) = some r
    rw [if_pos h2, s]
theorem kit_ve {D : Addr} (s : PySem.W.subIn K (.ref D) (.type "ValueError") = some true) : PySem.W.kitOne K (.ref D) (.type "ValueError") = some true := by
  have e : (Value.ref D == Value.type "ValueError") = false := rfl
  unfold PySem.W.kitOne
  rw [e, if_neg Bool.false_ne_true]
  show (if PySem.W.kitMeta "ValueError" = true then PySem.W.subIn K (.ref D) (.type "ValueError") else none) = some true
  rw [if_pos (by decide +kernel), s]
/-- except C takes an error of the class at D -/
theorem exm_own {D : Addr} {r : Bool} {y : Str} (c : XB K mg y C) (s : PySem.W.subIn K (.ref D) (.ref C) = some r) : PySem.W.exmOne K (.ref D) (.ref C) = some r := PySem.W.exm_ref c.b c.d c.t s
/-! ### the facts of the top -/
theorem dn_mk {st : Stmt} {ps : List Str} {f : Addr} {oc : Value} {od an : Option Addr} {osl : Array (Option Value)} {kV doc pm cdv ct : Value} (X : K.In h) (G : h.Ns mainGlobals mg) (a : PySem.W.nsIn K mainGlobals x = some (some (.ref f)))
    (l : K.lookup f = some ⟨oc, od, .func (PySem.W.fnOf x x (defArgs st) (defBody st) (defScope st) .none kV doc pm an cdv ct), osl⟩) (c : PySem.W.codeIn K cdv x = true) (k : PySem.W.keepIn K (.ref f) = true)
    (hb : ∀ (kV doc pm : Value) (an : Option Addr) (cdv ct : Value) (us : List Value), us.length = ps.length → bindArgs (PySem.W.fnOf x x (defArgs st) (defBody st) (defScope st) .none kV doc pm an cdv ct) ⟨us, []⟩ = pure (ps.zip us)) : Dn K mg x st ps :=
  ⟨f, _, fun_mk l c k, PySem.W.mg_of X G a, (fun_mk l c k).binds hb⟩
theorem cv_int {i : Int} {t : Tok} (X : K.In h) (G : h.Ns mainGlobals mg) (a : PySem.W.nsIn K mainGlobals x = some (some (.int i t))) : CV mg x (.int i) := ⟨_, PySem.W.mg_of X G a, _, rfl⟩
theorem cv_str {i : Str} {t : Tok} (X : K.In h) (G : h.Ns mainGlobals mg) (a : PySem.W.nsIn K mainGlobals x = some (some (.str i t))) : CV mg x (.str i) := ⟨_, PySem.W.mg_of X G a, _, rfl⟩
theorem cv_bl {i : Bool} (X : K.In h) (G : h.Ns mainGlobals mg) (a : PySem.W.nsIn K mainGlobals x = some (some (.bool i))) : CV mg x (.bl i) := ⟨_, PySem.W.mg_of X G a, rfl⟩
/-- the name x of the module holds a tuple of the written part -/
def CT (K : PySem.W.Frag) (mg : Str → Option Value) (x : Str) (xs : List V) : Prop := ∃ p, mg x = some (.ref p) ∧ ∀ H, SqT K H p xs
theorem ct_mk {p : Addr} {od : Option Addr} {its : Array Value} {n : Nat} {sl : Array (Option Value)} {xs : List V} (X : K.In h) (G : h.Ns mainGlobals mg) (a : PySem.W.nsIn K mainGlobals x = some (some (.ref p)))
    (l : K.lookup p = some ⟨.type "tuple", od, .seq its n, sl⟩) (hs : its.size ≤ sizeLine) (hv : Vals xs its.toList) : CT K mg x xs :=
  ⟨p, PySem.W.mg_of X G a, fun _ => .inr ⟨_, its, n, l, rfl, rfl, hs, hv⟩⟩
end
theorem pe_globT {X : Cx} {x : Str} {xs : List V} {pos : Pos} (hg : Gl X x) (h : CT X.K X.mg x xs) (hd : (x == ("__debug__" : Str)) = false := by decide) :
    PE X (.Name x pos) (fun _ H Q => ∀ p, (∀ H', SqT X.K H' p xs) → Q (.ref p) H) := by
  obtain ⟨p, hm, hs⟩ := h
  exact ⟨fun pins s σ H Q I h => (pe_glob hg hm (v := .ref p) rfl hd).run pins s σ H Q I (h p hs)⟩
/-! ### a suite that is read for known errors alone -/
theorem pss_guard {X : Cx} {st : List Stmt} {p : Prop} {t : TS} (h : p → PSs X st t) : PSs X st (fun D σ H => p ∧ t D σ H) :=
  ⟨fun pins s σ H D I q => (h q.1).run pins s σ H D I q.2⟩
theorem to_true {Q : VK} {b : Bool} {H : Hp} (h : b = true) (q : Q (.bl true) H) : Q (.bl b) H := h ▸ q
/-- a new object at p stays the only one that changes -/
theorem same_new {H H' : Hp} {p : Addr} {o : HO} (e : Same H H') (hp : H p = none) : Same H (upd H' p o) := Evl.Ex.mut e hp
theorem same_upd {H : Hp} {p : Addr} {o : HO} (hp : H p = none) : Same H (upd H p o) := Evl.Ex.new hp
theorem tyx_list {K : PySem.W.Frag} {H : Hp} {a : Addr} {xs : List V} (h : SqL K H a xs) : TyX K H (.ref a) (.type "list") := by
  rcases h with (h | ⟨o, h⟩) | ⟨o, its, n, h, hc, _⟩
  · exact .base (.lst h)
  · exact .base (.frz h)
  · exact .kList h hc
theorem tyx_tuple {K : PySem.W.Frag} {H : Hp} {a : Addr} {xs : List V} (h : SqT K H a xs) : TyX K H (.ref a) (.type "tuple") := by
  rcases h with (h | ⟨o, h⟩) | ⟨o, its, n, h, hc, _⟩
  · exact .base (.tup h)
  · exact .fTuple h
  · exact .kTuple h hc
theorem small {n : Nat} (h : n ≤ 100000) : n < sizeLine := Nat.lt_of_le_of_lt h (by decide)
theorem smallE {n : Nat} (h : n ≤ 100000) : n ≤ sizeLine := Nat.le_trans h (by decide)
/-- for .. in enumerate(list) -/
theorem for_enum {K : PySem.W.Frag} {a : Addr} {xs : List V} {g : TG} {tb : TS} {D : Ends} {σ : L2.St} {H : Hp} (Pv : Nat → L2.St → Hp → Prop) (h0 : Pv 0 σ H) (hl : ∀ i σ H, i ≤ xs.length → Pv i σ H → SqL K H a xs)
    (hs : ∀ i x T σ H, xs[i]? = some x → Pv i σ H → H T = none → g (.ref T) σ (upd H T (.tup [.int (i : Nat), x])) fun σ2 H2 => tb { D with nx := Pv (i + 1), ct := Pv (i + 1), bk := D.nx } σ2 H2) (hd : ∀ σ H, Pv xs.length σ H → D.nx σ H) :
    ∃ W : Nat → Nat → L2.St → Hp → Prop, (∃ m, W 0 m σ H) ∧ ∀ i m σ H, W i m σ H →
      ((Ite K a).stop i H ∧ D.nx σ H) ∨ ((Ite K a).go i H ∧ ∃ N : L2.St → Hp → Prop, (∀ σ' H', N σ' H' → ∃ m', m' < m ∧ W (i + 1) m' σ' H') ∧ ∀ x H', (Ite K a).yld i H x H' → g x σ H' fun σ2 H2 => tb { D with nx := N, ct := N, bk := D.nx } σ2 H2) := by
  refine ⟨fun i m σ H => m = xs.length - i ∧ i ≤ xs.length ∧ Pv i σ H, ⟨xs.length, by simp, Nat.zero_le _, h0⟩, ?_⟩
  rintro i m σ H ⟨rfl, hi, p⟩
  have q := hl i σ H hi p
  by_cases hlt : i < xs.length
  · refine .inr ⟨⟨xs, xs[i], q, by simp [hlt]⟩, Pv (i + 1), fun σ' H' p' => ⟨xs.length - (i + 1), by omega, rfl, hlt, p'⟩, fun x H' y => ?_⟩
    obtain ⟨T, z, rfl, hT, rfl, y⟩ := y
    exact hs i z T σ H (y xs q) p hT
  · have e : i = xs.length := by omega
    subst e
    exact .inl ⟨⟨xs, q, Nat.le_refl _⟩, hd σ H p⟩
/-- an item of a list by a number that is told -/
theorem at_nat {α : Type} {xs : List α} {i : Int} {j : Nat} {v : α} (e : i = (j : Int)) (h : xs[j]? = some v) : atI xs i = some v := e ▸ atI_nat h
theorem ix_nat {n j : Nat} {i : Int} (e : i = (j : Int)) (h : j < n) : ixN n i = some j := e ▸ Evl.ixN_nat h
/-! ### rules whose reading names the written part by itself (for the bodies and suites of a try) -/
def rLenK (K : PySem.W.Frag) : List V → Hp → VK → Prop := fun xs H Q => ∃ p ys, xs = [.ref p] ∧ (SqL K H p ys ∨ SqT K H p ys) ∧ Q (.int ys.length) H
theorem call_lenK {X : Cx} {K : PySem.W.Frag} (h : X.K = K := by rfl) : CallR X (.builtin "len") (rLenK K) := by
  subst h
  exact call_len_seq
theorem op_eqDK {X : Cx} {K : PySem.W.Frag} (hu : X.A.units + 64 < cLine) (h : X.K = K := by rfl) : OpR X (compareOp .Eq) (rEqD K) := by
  subst h
  exact op_eqD hu
theorem op_neDK {X : Cx} {K : PySem.W.Frag} (hu : X.A.units + 64 < cLine) (h : X.K = K := by rfl) : OpR X (compareOp .NotEq) (rNeD K) := by
  subst h
  exact op_neD hu
theorem call_isiK' {X : Cx} {K : PySem.W.Frag} (h : X.K = K := by rfl) : CallR X (.builtin "isinstance") (rIsi K) := by
  subst h
  exact call_isi
def rListK (K : PySem.W.Frag) : List V → Hp → VK → Prop := fun xs H Q => ∃ p ys, xs = [.ref p] ∧ (SqL K H p ys ∨ SqT K H p ys) ∧ ∀ l, H l = none → Q (.ref l) (upd H l (.lst ys))
theorem call_list_ofK {X : Cx} {K : PySem.W.Frag} (h : X.K = K := by rfl) : CallR X (.type "list") (rListK K) := by
  subst h
  exact call_list_of
theorem sl_listK {X : Cx} {K : PySem.W.Frag} (h : X.K = K := by rfl) : SlR X (rSlL K) := by
  subst h
  exact sl_list
/-! ### slices -/
theorem sIx_nat {n k : Nat} (d : Nat) (h : k ≤ n) : HT.sIx n d (some (k : Int)) = k := by
  simp only [HT.sIx]
  split <;> omega
theorem cut_to {xs : List V} {k : Nat} (h : k ≤ xs.length) : cutV xs none (some (k : Int)) = xs.take k := by
  unfold cutV
  rw [sIx_nat _ h]
  simp [HT.sIx]
theorem cut_from {xs : List V} {k : Nat} (h : k ≤ xs.length) : cutV xs (some (k : Int)) none = xs.drop k := by
  unfold cutV
  rw [sIx_nat _ h]
  simp only [HT.sIx]
  rw [List.take_of_length_le (by rw [List.length_drop]; omega)]
theorem cut_mid {xs : List V} {j k : Nat} (h1 : j ≤ k) (h : k ≤ xs.length) : cutV xs (some (j : Int)) (some (k : Int)) = (xs.drop j).take (k - j) := by
  unfold cutV
  rw [sIx_nat _ h, sIx_nat _ (Nat.le_trans h1 h)]
/-! ### data -/
mutual
theorem dp_mono {K : PySem.W.Frag} {H H' : Hp} (e : Same H H') : ∀ {d : PyData} {v : V}, Dp K H v d → Dp K H' v d
  | _, _, .non => .non
  | _, _, .bl b => .bl b
  | _, _, .int i => .int i
  | _, _, .str x => .str x
  | _, _, .lst h r => .lst (e.seq h) (dpAll_mono e r)
  | _, _, .tup h r => .tup (Evl.ex_t e h) (dpAll_mono e r)
theorem dpAll_mono {K : PySem.W.Frag} {H H' : Hp} (e : Same H H') : ∀ {ds : List PyData} {vs : List V}, DpAll K H vs ds → DpAll K H' vs ds
  | _, _, .nil => .nil
  | _, _, .cons h r => .cons (dp_mono e h) (dpAll_mono e r)
end
theorem dp_ints {K : PySem.W.Frag} {H : Hp} : ∀ (ns : List Int), DpAll K H (ns.map V.int) (ns.map PyData.int)
  | [] => .nil
  | n :: ns => .cons (.int n) (dp_ints ns)
theorem canLayAll_ints : ∀ (ns : List Int), PyData.canLayAll0 (ns.map PyData.int) = true
  | [] => rfl
  | n :: ns => by simp [PyData.canLayAll0, PyData.canLay0, canLayAll_ints ns]
theorem depthAll_ints : ∀ (ns : List Int), PyData.depthAll (ns.map PyData.int) = 0
  | [] => rfl
  | n :: ns => by simp [PyData.depthAll, PyData.depth, depthAll_ints ns]
theorem shaped_ints (ns : List Int) : SeqAt.shaped (.list (ns.map PyData.int)) = true := by
  simp [SeqAt.shaped, PyData.canLay0, PyData.depth, canLayAll_ints, depthAll_ints]
theorem eqvAll_ints : ∀ (ns ms : List Int), PyData.eqvAll (ns.map PyData.int) (ms.map PyData.int) = decide (ns = ms)
  | [], [] => by simp [PyData.eqvAll]
  | [], m :: ms => by simp [PyData.eqvAll]
  | n :: ns, [] => by simp [PyData.eqvAll]
  | n :: ns, m :: ms => by
    by_cases h : n = m <;> simp [PyData.eqvAll, PyData.eqv, eqvAll_ints ns ms, h]
theorem eqv_ints (ns ms : List Int) : PyData.eqv (.list (ns.map PyData.int)) (.list (ms.map PyData.int)) = decide (ns = ms) := by
  rw [PyData.eqv]
  exact eqvAll_ints ns ms
theorem shaped_pair (as bs : List Int) : SeqAt.shaped (.tuple [.list (as.map PyData.int), .list (bs.map PyData.int)]) = true := by
  simp [SeqAt.shaped, PyData.canLay0, PyData.canLayAll0, PyData.depth, PyData.depthAll, canLayAll_ints, depthAll_ints]
theorem eqv_refl' {d : PyData} (h : SeqAt.shaped d = true) : PyData.eqv d d = true := SeqAt.eqv_refl _ (SeqAt.canLay_of_shaped h)
theorem dp_list {K : PySem.W.Frag} {H : Hp} {a : Addr} {ns : List Int} (h : SqL K H a (ns.map V.int)) : Dp K H (.ref a) (.list (ns.map PyData.int)) := .lst h (dp_ints ns)
theorem get_ints {ns : List Int} {i : Nat} {y : V} (h : (ns.map V.int)[i]? = some y) : ∃ (hi : i < ns.length), y = V.int ns[i] := by
  rw [List.getElem?_map] at h
  by_cases hi : i < ns.length
  · rw [List.getElem?_eq_getElem hi] at h
    exact ⟨hi, (Option.some.inj h).symm⟩
  · rw [List.getElem?_eq_none (Nat.le_of_not_lt hi)] at h
    cases h
theorem take_snoc {α : Type} {l : List α} {i : Nat} (hi : i < l.length) : l.take (i + 1) = l.take i ++ [l[i]] := by
  rw [List.take_add_one, List.getElem?_eq_getElem hi]
  rfl
/-! ### the script's cells -/
def cell (ns : List Int) (k : Nat) : Int := ns.getD k 0
theorem cell_in {ns : List Int} {k : Nat} (hk : k < ns.length) : cell ns k = ns[k] := by simp [cell, List.getD_eq_getElem?_getD, List.getElem?_eq_getElem hk]
theorem cell_out {ns : List Int} {k : Nat} (hk : ¬ k < ns.length) : cell ns k = 0 := by simp [cell, List.getD_eq_getElem?_getD, List.getElem?_eq_none (Nat.le_of_not_lt hk)]
end Cm

/-! ### a constant of the module that is a tuple of tuples; tuple.index -/
namespace CT2
open PySem PySem.Spec PyProof.Rows L2 Cm
def TyT (K : PySem.W.Frag) (r : Addr) : Prop := ∃ o, K.lookup r = some o ∧ o.cls = .type "tuple" ∧ o.dict = none
theorem tyT {K : PySem.W.Frag} {r : Addr} {H : Hp} (h : TyT K r) : tyV K "tuple" (.ref r) H := .inr (.inl ⟨rfl, h⟩)
def RowAt (K : PySem.W.Frag) (r : Addr) (row : List V) : Prop := (∀ H, SqT K H r row) ∧ TyT K r
def CTT (K : PySem.W.Frag) (mg : Str → Option Value) (x : Str) (rows : List (List V)) : Prop := ∃ (p : Addr) (rs : List Addr), mg x = some (.ref p) ∧ (∀ H, SqT K H p (rs.map V.ref)) ∧ Paired (RowAt K) rs rows
theorem ctt_get {α β : Type} {R : α → β → Prop} : ∀ {rs : List α} {rows : List β} {i : Nat} {row : β}, Paired R rs rows → rows[i]? = some row → ∃ r, rs[i]? = some r ∧ R r row
  | _, _, i, _, .nil, h => by simp at h
  | _, _, 0, _, .cons h r, e => by
    simp at e
    subst e
    exact ⟨_, rfl, h⟩
  | _, _, i + 1, _, .cons h r, e => by
    obtain ⟨s, h1, h2⟩ := ctt_get r (by simpa using e)
    exact ⟨s, by simpa using h1, h2⟩
theorem vals_refs : ∀ rs : List Addr, Vals (rs.map V.ref) (rs.map Value.ref)
  | [] => .nil
  | r :: rs => .cons rfl (vals_refs rs)
theorem row_mk {K : PySem.W.Frag} {p : Addr} {od : Option Addr} {its : Array Value} {n : Nat} {sl : Array (Option Value)} {xs : List V} (l : K.lookup p = some ⟨.type "tuple", od, .seq its n, sl⟩) (hv : Vals xs its.toList) (hs : xs.length ≤ sizeLine) : ∀ H, SqT K H p xs := fun H => by
  have e : its.size ≤ sizeLine := by
    rw [← Array.length_toList, ← hv.length]
    exact hs
  exact .inr ⟨_, its, n, l, rfl, rfl, e, hv⟩
theorem rowAt_mk {K : PySem.W.Frag} {p : Addr} {its : Array Value} {n : Nat} {sl : Array (Option Value)} {xs : List V} (l : K.lookup p = some ⟨.type "tuple", none, .seq its n, sl⟩) (hv : Vals xs its.toList) (hs : xs.length ≤ sizeLine) : RowAt K p xs := ⟨row_mk l hv hs, _, l, rfl, rfl⟩
theorem ctt_mk {K : PySem.W.Frag} {h : Heap} {mg : Str → Option Value} {x : Str} {p : Addr} {od : Option Addr} {its : Array Value} {n : Nat} {sl : Array (Option Value)} {rs : List Addr} {rows : List (List V)} (X : K.In h) (G : h.Ns mainGlobals mg) (a : PySem.W.nsIn K mainGlobals x = some (some (.ref p)))
    (l : K.lookup p = some ⟨.type "tuple", od, .seq its n, sl⟩) (e : its.toList = rs.map Value.ref) (hs : rs.length ≤ sizeLine) (hr : Paired (RowAt K) rs rows) : CTT K mg x rows :=
  ⟨p, rs, PySem.W.mg_of X G a, row_mk l (by rw [e]; exact vals_refs rs) (by rw [List.length_map]; exact hs), hr⟩
theorem pe_globTT {X : Cx} {x : Str} {rows : List (List V)} {pos : Pos} (hg : Gl X x) (h : CTT X.K X.mg x rows) (hd : (x == ("__debug__" : Str)) = false := by decide) :
    PE X (.Name x pos) (fun _ H Q => ∀ (p : Addr) (rs : List Addr), (∀ H', SqT X.K H' p (rs.map V.ref)) → (∀ (i : Nat) (row : List V), rows[i]? = some row → ∃ r : Addr, (rs.map V.ref)[i]? = some (V.ref r) ∧ (∀ H', SqT X.K H' r row) ∧ TyT X.K r) → Q (.ref p) H) := by
  obtain ⟨p, rs, hm, hs, hr⟩ := h
  refine ⟨fun pins s σ H Q I h => (pe_glob hg hm (v := .ref p) rfl hd).run pins s σ H Q I (h p rs hs fun i row e => ?_)⟩
  obtain ⟨r, h1, h2⟩ := ctt_get hr e
  exact ⟨r, by rw [List.getElem?_map, h1]; rfl, h2⟩
def rIndexT (K : PySem.W.Frag) : V → List V → Hp → VK → Prop := fun x xs H Q => ∃ (a : Addr) (ys : List V) (y : V) (j : Nat) (z : V), x = V.ref a ∧ xs = [y] ∧ SqT K H a ys ∧ flatV y = true ∧ ys.all flatV = true ∧ ys[j]? = some z ∧ eqV z y = true ∧
  (∀ (m : Nat) (z' : V), m < j → ys[m]? = some z' → eqV z' y = false) ∧ Q (.int (j : Nat)) H
theorem mt_indexT {X : Cx} : MtR X "tuple.index" (rIndexT X.K) := by
  intro pins s σ H x xs v us Q I rx rxs h
  obtain ⟨a, ys, y, j, z, rfl, rfl, hs, fy, fys, hz, hzj, hno, q⟩ := h
  cases rx
  cases rxs with
  | cons ry rt =>
    rename_i uy ut
    cases rt
    obtain ⟨its, rv, pl, hlen⟩ := I.tuple hs
    obtain ⟨⟨cls, dd, data, sl⟩, ho, hc, n, hd⟩ := pl
    simp only at hc hd
    subst hc hd
    obtain ⟨u, hu, ru⟩ := rv.get hz
    obtain ⟨hjl, hje⟩ := List.getElem?_eq_some_iff.mp hu
    have hvl := rv.length
    have hj : j < its.toArray.size := by simpa using hjl
    refine call_meets PySem.F.slot_tuple_index ⟨_, ho, rfl⟩ PySem.F.entry_tuple_index (PySem.F.args_tuple_index_2 _ _)
      (TI.tuple_indexAt a its.toArray n dd sl uy (eqU y) j hj ?_ ?_) ⟨ho, fun u' hu' => mem_eqAt ry fy rv fys u' (by simpa using hu'), ?_⟩
    · have e1 : its.toArray[j] = u := by simpa using hje
      rw [e1, eqU_of ru (flat_at fys hz)]
      exact hzj
    · intro m hm hmj
      have hml : m < its.length := by simpa using hm
      have hmy : m < ys.length := by omega
      have hy' : ys[m]? = some ys[m] := List.getElem?_eq_getElem hmy
      obtain ⟨u2, hu2, ru2⟩ := rv.get hy'
      obtain ⟨_, hme⟩ := List.getElem?_eq_some_iff.mp hu2
      have e1 : its.toArray[m] = u2 := by simpa using hme
      rw [e1, eqU_of ru2 (flat_at fys hy')]
      exact hno m _ hmj hy'
    · exact ⟨.int (j : Nat), H, I.tok _, ⟨_, rfl⟩, q⟩
end CT2

/-! ### for i, x in enumerate(xs, k) -/
namespace ES
open PySem PySem.Spec PyProof.Rows L2 Cm
/-- what such a loop goes over: pairs of a count from k0 on and the items of the list at a -/
def Ites (K : PySem.W.Frag) (a : Addr) (k0 : Int) : It where
  go i H := ∃ (xs : List V) (x : V), SqL K H a xs ∧ xs[i]? = some x
  yld i H v H' := ∃ T x, v = .ref T ∧ H T = none ∧ H' = upd H T (.tup [.int (k0 + (i : Nat)), x]) ∧ ∀ xs, SqL K H a xs → xs[i]? = some x
  stop i H := ∃ xs : List V, SqL K H a xs ∧ xs.length = i
def EsAt (a e it : Addr) (k0 : Int) (i : Nat) (h : Heap) : Prop := ((∃ old, IsEnum h e it (k0 + ((i : Nat) : Int)) old) ∧ h.IsListIter it a i) ∧ e ≠ it ∧ e ≠ a ∧ a ≠ it
theorem turn_enumS {P : Program} {w : World} {K : PySem.W.Frag} {elts : List Expr} {kk : Nat} {tpos : Pos} (a e it : Addr) (k0 : Int) : Turn P w K (.Tuple elts kk tpos) (Ites K a k0) [e, it] e (EsAt a e it k0) := by
  refine ⟨List.mem_cons_self, ?obj, ?keep, ?item, ?done, ?self⟩
  case obj =>
    rintro i h ⟨⟨⟨old, he⟩, oi, q1, q2, q3⟩, _⟩ b hb
    rcases List.mem_cons.mp hb with z | z
    · exact ⟨_, z ▸ he, fun v q => by cases q⟩
    · refine ⟨oi, (List.mem_singleton.mp z) ▸ q1, fun v q => ?_⟩
      rw [q3] at q
      cases q
  case keep =>
    rintro i h h' ⟨⟨⟨old, he⟩, hi⟩, hne⟩ k
    exact ⟨⟨⟨old, k e List.mem_cons_self _ he⟩, hi.at fun o q => k it (List.mem_cons_of_mem _ List.mem_cons_self) o q⟩, hne⟩
  case self =>
    rintro A i s Q E ⟨⟨⟨old, he⟩, _⟩, _⟩ h
    exact wpAny_pyIter_enum he h
  case item =>
    rintro X rfl rfl rfl hc i pins s σ H E I hf ⟨⟨hE, hit⟩, hne, hea, hai⟩ ⟨xs, x, hq, hx⟩
    obtain ⟨its, rv, p, _⟩ := I.list hq
    obtain ⟨u, hu, ru⟩ := rv.get hx
    have hd : X.A.in1.handled = none := I.ok.hd hc
    have walk := WalksT.enumFrom (prog := X.prog) (w := X.w) (A := X.A) k0 (Draws.list hd it a hai its.toArray) e hne (by simp [hne, hea]) (by simp)
    have hlt : i < its.toArray.size := by simpa using (List.getElem?_eq_some_iff.mp hu).1
    refine walk.item i s _ E hlt ⟨hE, hit, p.isList⟩ fun T vals h1 tk hP hT hIs hM hk1 => ?_
    obtain ⟨t, x1, hx1, rfl⟩ := hP
    have e1 : x1 = u := by
      have z : its.toArray[i]? = some u := by simpa using hu
      exact Option.some.inj (hx1.symm.trans z)
    subst e1
    refine ⟨_, rfl, walk.go elts kk tpos i T { s with heap := h1, toks := tk } _ E hM fun h2 hS hk2 => ?_⟩
    obtain ⟨o, ho, hcls, nn, hdt⟩ := hIs
    have hT2 := hk2 T o (walk.apart i T h1 hM) ho
    have both : ∀ b o, b ∉ [e, it] → s.heap.get? b = some o → h2.get? b = some o := fun b o hb q => hk2 b o hb (hk1 b o hb q)
    have nw : ObjOk X.prog X.w (upd H T (.tup [.int (k0 + (i : Nat)), x])) h2 T (.tup [.int (k0 + (i : Nat)), x]) := ⟨by show 2 ≤ sizeLine; decide, _, .cons ⟨_, rfl⟩ (.cons ru .nil), o, hT2, hcls, nn, hdt⟩
    refine ⟨.ref T, _, I.turnedNew (t' := tk) both hf hT nw, rfl, ⟨T, x, rfl, I.hok.fresh hT, rfl, fun ys hy => I.list_inj hy hq ▸ hx⟩, ⟨⟨hS.1, hS.2.1⟩, hne, hea, hai⟩, fun b hb => ?_⟩
    have hbl : b < s.heap.objs.size := by
      obtain ⟨old, he⟩ := hE
      obtain ⟨_, q, _⟩ := hit
      rcases List.mem_cons.mp hb with z | z
      · exact z ▸ Heap.lt_size he
      · exact (List.mem_singleton.mp z) ▸ Heap.lt_size q
    rw [upd_ne (Nat.ne_of_lt (Nat.lt_of_lt_of_le hbl hT))]
    exact (hf b hb).1
  case done =>
    rintro X rfl rfl rfl hc i pins s σ H E I hf ⟨⟨⟨old, he⟩, hit⟩, hne, hea, hai⟩ ⟨xs, hq, hx⟩
    obtain ⟨its, rv, p, _⟩ := I.list hq
    obtain ⟨n0, n1, _, n3, n4, n5⟩ := hf it (List.mem_cons_of_mem _ List.mem_cons_self)
    have hd : X.A.in1.handled = none := I.ok.hd hc
    have hs : its.toArray.size = i := by rw [List.size_toArray, ← rv.length, hx]
    refine wpAny_pyNext_enum_endD (Draws.list hd it a hai its.toArray) he ⟨by rw [hs]; exact hit, p.isList⟩ fun h1 eb => ⟨rfl, I.turned (t' := s.toks) (fun b o hb q => eb b o hb q) n0 n1 n3 n4 n5⟩
def iEnumS (K : PySem.W.Frag) (ta : TA) : TI := fun σ H R => ta σ H fun vs H1 => ∃ a xs k0, vs = [.ref a, .int k0] ∧ SqL K H1 a xs ∧ -(2 ^ 63) ≤ k0 ∧ k0 < 2 ^ 63 ∧ R (Ites K a k0) H1
theorem pi_enumS {X : Cx} {e e2 : Expr} {ta : TA} {p pos tpos : Pos} {elts : List Expr} {kk : Nat} (hg : Gl X "enumerate") (hm : X.mg "enumerate" = none) (ha : PA X [e, e2] ta) (hs : starEach [e, e2] X.env = (false, eval e X.env) :: starEach [e2] X.env := by rfl) (hpl : (backTo pos (starEach [e2] X.env)).any (·.1) = false := by rfl) :
    PI X (.Tuple elts kk tpos) (.Call (.Name "enumerate" p) [e, e2] [] pos) (iEnumS X.K ta) := by
  refine ⟨fun pins s σ H R I h => ?_⟩
  refine Call_ (ld_blt I hg hm boot_enumerate (PyProof.Rows.callWith_type1 (thn (ha.run pos pins s σ H _ I h) fun us s1 ⟨vs, H1, I1, r1, q1⟩ => ?_) hs hpl))
  obtain ⟨a, xs, k0, ex, hq, hk0, hk1, q⟩ := q1
  subst ex
  cases r1 with
  | cons r rr =>
    cases rr with
    | cons r2 rr2 =>
      cases rr2
      cases r
      obtain ⟨t2, rfl⟩ := r2
      obtain ⟨its, rv, p', hz⟩ := I1.list hq
      have hal : a < s1.heap.objs.size := by obtain ⟨_, q0, _⟩ := p'.isList; exact Heap.lt_size q0
      refine enum_begins (begins_list a its.toArray) p'.isList hk0 hk1 fun h' he hit hsz hk => wpAny_pyIter_enum he ?_
      have I2 : Inv X pins σ H1 { s1 with heap := h' } := I1.kept (t' := s1.toks) hk
      refine ⟨s1.heap.objs.size + 1, [s1.heap.objs.size + 1, s1.heap.objs.size], _, _, H1, rfl, I2, turn_enumS a (s1.heap.objs.size + 1) s1.heap.objs.size k0, ⟨⟨⟨.none, ?_⟩, _, hit, rfl, rfl⟩, Nat.succ_ne_self _, Nat.ne_of_gt (Nat.lt_succ_of_lt hal), Nat.ne_of_lt hal⟩, fun b hb => ?_, q⟩
      · rw [show k0 + ((0 : Nat) : Int) = k0 by omega]
        exact he
      have e' : b = s1.heap.objs.size + 1 ∨ b = s1.heap.objs.size := by simpa using hb
      have hle : s1.heap.objs.size ≤ b := by
        rcases e' with z | z
        · rw [z]; exact Nat.le_add_right _ _
        · rw [z]; exact Nat.le_refl _
      exact I1.fpOk hle (I1.hok.fresh hle)
theorem for_enumS {K : PySem.W.Frag} {a : Addr} {k0 : Int} {xs : List V} {g : TG} {tb : TS} {D : Ends} {σ : L2.St} {H : Hp} (Pv : Nat → L2.St → Hp → Prop) (h0 : Pv 0 σ H) (hl : ∀ i σ H, i ≤ xs.length → Pv i σ H → SqL K H a xs)
    (hs : ∀ i x T σ H, xs[i]? = some x → Pv i σ H → H T = none → g (.ref T) σ (upd H T (.tup [.int (k0 + (i : Nat)), x])) fun σ2 H2 => tb { D with nx := Pv (i + 1), ct := Pv (i + 1), bk := D.nx } σ2 H2) (hd : ∀ σ H, Pv xs.length σ H → D.nx σ H) :
    ∃ W : Nat → Nat → L2.St → Hp → Prop, (∃ m, W 0 m σ H) ∧ ∀ i m σ H, W i m σ H →
      ((Ites K a k0).stop i H ∧ D.nx σ H) ∨ ((Ites K a k0).go i H ∧ ∃ N : L2.St → Hp → Prop, (∀ σ' H', N σ' H' → ∃ m', m' < m ∧ W (i + 1) m' σ' H') ∧ ∀ x H', (Ites K a k0).yld i H x H' → g x σ H' fun σ2 H2 => tb { D with nx := N, ct := N, bk := D.nx } σ2 H2) := by
  refine ⟨fun i m σ H => m = xs.length - i ∧ i ≤ xs.length ∧ Pv i σ H, ⟨xs.length, by simp, Nat.zero_le _, h0⟩, ?_⟩
  rintro i m σ H ⟨rfl, hi, p⟩
  have q := hl i σ H hi p
  by_cases hlt : i < xs.length
  · refine .inr ⟨⟨xs, xs[i], q, by simp [hlt]⟩, Pv (i + 1), fun σ' H' p' => ⟨xs.length - (i + 1), by omega, rfl, hlt, p'⟩, fun x H' y => ?_⟩
    obtain ⟨T, z, rfl, hT, rfl, y⟩ := y
    exact hs i z T σ H (y xs q) p hT
  · have e : i = xs.length := by omega
    subst e
    exact .inl ⟨⟨xs, q, rfl⟩, hd σ H p⟩
end ES

/-! ### xs[i] ^= e -/
namespace AU
open PySem PySem.Spec PyProof.Rows L2 Cm
theorem ip_xor {X : Cx} : PIp X .BitXor (rI0 fun i j => .int (Builtin.bitXor i j)) := fun pins s σ H x y v u Q I r1 r2 h => iop_xor pins s σ H x y v u Q I r1 r2 h
def rGetN (K : PySem.W.Frag) : V → V → Hp → VK → Prop := fun x y H Q => ∃ (p : Addr) (xs : List V) (j : Nat) (v : V), x = .ref p ∧ y = .int (j : Int) ∧ SqL K H p xs ∧ xs[j]? = some v ∧ Q v H
theorem get_nat {X : Cx} : PGet X (rGetN X.K) := by
  rintro pins s σ H o i ov iv Q I ro ri ⟨p, xs, j, v, rfl, rfl, hq, hj, q⟩
  cases ro
  obtain ⟨t, rfl⟩ := ri
  obtain ⟨its, rv, pl, hz⟩ := I.list hq
  obtain ⟨u, hu, ru⟩ := rv.get hj
  have hlt : j < its.length := (List.getElem?_eq_some_iff.mp hu).1
  have hn := line63
  have hl := rv.length
  refine getItem_listL pl.isList (by omega) (by omega) (by rw [Int.toNat_natCast]; exact hu) ⟨v, H, I, ru, q⟩
end AU

namespace My
open PySem PySem.Spec PyProof.Rows L2 Cm 
def top (i : Nat) : Stmt := PySem.Challenge.pw_scanpages_k27_interpolation.main.body.getD i (.Pass ⟨0, 0, 0, 0⟩)
abbrev s_is_symbol : Stmt := (top 6)
abbrev N_is_symbol : List Str := ["integer"]
theorem sc_is_symbol : FnScope N_is_symbol ["integer"] (defScope s_is_symbol) := ⟨rfl, rfl, rfl, by decide +kernel, rfl, by decide +kernel, by decide +kernel⟩
abbrev s_multiply : Stmt := (top 7)
abbrev N_multiply : List Str := ["a", "b"]
theorem sc_multiply : FnScope N_multiply ["a", "b"] (defScope s_multiply) := ⟨rfl, rfl, rfl, by decide +kernel, rfl, by decide +kernel, by decide +kernel⟩
abbrev s_inverse : Stmt := (top 8)
abbrev N_inverse : List Str := ["a"]
theorem sc_inverse : FnScope N_inverse ["a"] (defScope s_inverse) := ⟨rfl, rfl, rfl, by decide +kernel, rfl, by decide +kernel, by decide +kernel⟩
abbrev s_scaled : Stmt := (top 9)
abbrev N_scaled : List Str := ["row", "factor", "products", "symbol"]
theorem sc_scaled : FnScope N_scaled ["row", "factor"] (defScope s_scaled) := ⟨rfl, rfl, rfl, by decide +kernel, rfl, by decide +kernel, by decide +kernel⟩
abbrev s__check_symbol : Stmt := (top 10)
abbrev N__check_symbol : List Str := ["a"]
theorem sc__check_symbol : FnScope N__check_symbol ["a"] (defScope s__check_symbol) := ⟨rfl, rfl, rfl, by decide +kernel, rfl, by decide +kernel, by decide +kernel⟩
abbrev s_reduced : Stmt := (top 12)
abbrev N_reduced : List Str := ["poly", "length"]
theorem sc_reduced : FnScope N_reduced ["poly"] (defScope s_reduced) := ⟨rfl, rfl, rfl, by decide +kernel, rfl, by decide +kernel, by decide +kernel⟩
abbrev s_add_polynomials : Stmt := (top 13)
abbrev N_add_polynomials : List Str := ["first", "second", "longer", "shorter", "total", "at", "coefficient"]
theorem sc_add_polynomials : FnScope N_add_polynomials ["first", "second"] (defScope s_add_polynomials) := ⟨rfl, rfl, rfl, by decide +kernel, rfl, by decide +kernel, by decide +kernel⟩
abbrev s_multiply_polynomials : Stmt := (top 14)
abbrev N_multiply_polynomials : List Str := ["first", "second", "product", "shift", "factor", "at", "coefficient"]
theorem sc_multiply_polynomials : FnScope N_multiply_polynomials ["first", "second"] (defScope s_multiply_polynomials) := ⟨rfl, rfl, rfl, by decide +kernel, rfl, by decide +kernel, by decide +kernel⟩
abbrev s_evaluate : Stmt := (top 15)
abbrev N_evaluate : List Str := ["poly", "point", "products", "value", "coefficient"]
theorem sc_evaluate : FnScope N_evaluate ["poly", "point"] (defScope s_evaluate) := ⟨rfl, rfl, rfl, by decide +kernel, rfl, by decide +kernel, by decide +kernel⟩
abbrev s_interpolate : Stmt := (top 16)
abbrev N_interpolate : List Str := ["points", "poly", "zeros", "point", "value", "growth", "missing"]
theorem sc_interpolate : FnScope N_interpolate ["points"] (defScope s_interpolate) := ⟨rfl, rfl, rfl, by decide +kernel, rfl, by decide +kernel, by decide +kernel⟩
abbrev s__law_cell : Stmt := (top 18)
abbrev N__law_cell : List Str := ["script", "k"]
theorem sc__law_cell : FnScope N__law_cell ["script", "k"] (defScope s__law_cell) := ⟨rfl, rfl, rfl, by decide +kernel, rfl, by decide +kernel, by decide +kernel⟩
abbrev s__law_mix : Stmt := (top 19)
abbrev N__law_mix : List Str := ["cell", "k", "number"]
theorem sc__law_mix : FnScope N__law_mix ["cell", "k"] (defScope s__law_mix) := ⟨rfl, rfl, rfl, by decide +kernel, rfl, by decide +kernel, by decide +kernel⟩
abbrev s__law_row : Stmt := (top 20)
abbrev N__law_row : List Str := ["cell", "count", "bound", "found", "rest", "k"]
theorem sc__law_row : FnScope N__law_row ["cell", "count", "bound"] (defScope s__law_row) := ⟨rfl, rfl, rfl, by decide +kernel, rfl, by decide +kernel, by decide +kernel⟩
abbrev s__law_is_int : Stmt := (top 21)
abbrev N__law_is_int : List Str := ["value"]
theorem sc__law_is_int : FnScope N__law_is_int ["value"] (defScope s__law_is_int) := ⟨rfl, rfl, rfl, by decide +kernel, rfl, by decide +kernel, by decide +kernel⟩
abbrev s__law_is_list : Stmt := (top 22)
abbrev N__law_is_list : List Str := ["value", "least", "greatest", "item"]
theorem sc__law_is_list : FnScope N__law_is_list ["value", "least", "greatest"] (defScope s__law_is_list) := ⟨rfl, rfl, rfl, by decide +kernel, rfl, by decide +kernel, by decide +kernel⟩
abbrev s__law_times : Stmt := (top 23)
abbrev N__law_times : List Str := ["a", "b", "logs"]
theorem sc__law_times : FnScope N__law_times ["a", "b"] (defScope s__law_times) := ⟨rfl, rfl, rfl, by decide +kernel, rfl, by decide +kernel, by decide +kernel⟩
abbrev s__law_value_at : Stmt := (top 24)
abbrev N__law_value_at : List Str := ["poly", "point", "value", "symbol"]
theorem sc__law_value_at : FnScope N__law_value_at ["poly", "point"] (defScope s__law_value_at) := ⟨rfl, rfl, rfl, by decide +kernel, rfl, by decide +kernel, by decide +kernel⟩
abbrev s__law_reduced : Stmt := (top 25)
abbrev N__law_reduced : List Str := ["poly", "size", "k"]
theorem sc__law_reduced : FnScope N__law_reduced ["poly"] (defScope s__law_reduced) := ⟨rfl, rfl, rfl, by decide +kernel, rfl, by decide +kernel, by decide +kernel⟩
abbrev s_law : Stmt := (top 26)
abbrev N_law : List Str := ["script", "count", "points", "k", "j", "poly", "values", "known", "point", "pairs", "twice", "at", "copy", "actual", "e", "value"]
theorem sc_law : FnScope N_law ["script"] (defScope s_law) := ⟨rfl, rfl, rfl, by decide +kernel, rfl, by decide +kernel, by decide +kernel⟩
structure Txt (K : PySem.W.Frag) (mg : Str → Option Value) (C_ArchiveError C_InvalidSymbol : Addr) : Prop where
  d_is_symbol : Dn K mg "is_symbol" s_is_symbol ["integer"]
  d_multiply : Dn K mg "multiply" s_multiply ["a", "b"]
  d_inverse : Dn K mg "inverse" s_inverse ["a"]
  d_scaled : Dn K mg "scaled" s_scaled ["row", "factor"]
  d__check_symbol : Dn K mg "_check_symbol" s__check_symbol ["a"]
  d_reduced : Dn K mg "reduced" s_reduced ["poly"]
  d_add_polynomials : Dn K mg "add_polynomials" s_add_polynomials ["first", "second"]
  d_multiply_polynomials : Dn K mg "multiply_polynomials" s_multiply_polynomials ["first", "second"]
  d_evaluate : Dn K mg "evaluate" s_evaluate ["poly", "point"]
  d_interpolate : Dn K mg "interpolate" s_interpolate ["points"]
  d__law_cell : Dn K mg "_law_cell" s__law_cell ["script", "k"]
  d__law_mix : Dn K mg "_law_mix" s__law_mix ["cell", "k"]
  d__law_row : Dn K mg "_law_row" s__law_row ["cell", "count", "bound"]
  d__law_is_int : Dn K mg "_law_is_int" s__law_is_int ["value"]
  d__law_is_list : Dn K mg "_law_is_list" s__law_is_list ["value", "least", "greatest"]
  d__law_times : Dn K mg "_law_times" s__law_times ["a", "b"]
  d__law_value_at : Dn K mg "_law_value_at" s__law_value_at ["poly", "point"]
  d__law_reduced : Dn K mg "_law_reduced" s__law_reduced ["poly"]
  d_law : Dn K mg "law" s_law ["script"]
  c_SYMBOLS : CV mg "SYMBOLS" (.int 16)
  c_PRODUCTS : CT2.CTT K mg "PRODUCTS" [[V.int 0, V.int 0, V.int 0, V.int 0, V.int 0, V.int 0, V.int 0, V.int 0, V.int 0, V.int 0, V.int 0, V.int 0, V.int 0, V.int 0, V.int 0, V.int 0], [V.int 0, V.int 1, V.int 2, V.int 3, V.int 4, V.int 5, V.int 6, V.int 7, V.int 8, V.int 9, V.int 10, V.int 11, V.int 12, V.int 13, V.int 14, V.int 15], [V.int 0, V.int 2, V.int 4, V.int 6, V.int 8, V.int 10, V.int 12, V.int 14, V.int 3, V.int 1, V.int 7, V.int 5, V.int 11, V.int 9, V.int 15, V.int 13], [V.int 0, V.int 3, V.int 6, V.int 5, V.int 12, V.int 15, V.int 10, V.int 9, V.int 11, V.int 8, V.int 13, V.int 14, V.int 7, V.int 4, V.int 1, V.int 2], [V.int 0, V.int 4, V.int 8, V.int 12, V.int 3, V.int 7, V.int 11, V.int 15, V.int 6, V.int 2, V.int 14, V.int 10, V.int 5, V.int 1, V.int 13, V.int 9], [V.int 0, V.int 5, V.int 10, V.int 15, V.int 7, V.int 2, V.int 13, V.int 8, V.int 14, V.int 11, V.int 4, V.int 1, V.int 9, V.int 12, V.int 3, V.int 6], [V.int 0, V.int 6, V.int 12, V.int 10, V.int 11, V.int 13, V.int 7, V.int 1, V.int 5, V.int 3, V.int 9, V.int 15, V.int 14, V.int 8, V.int 2, V.int 4], [V.int 0, V.int 7, V.int 14, V.int 9, V.int 15, V.int 8, V.int 1, V.int 6, V.int 13, V.int 10, V.int 3, V.int 4, V.int 2, V.int 5, V.int 12, V.int 11], [V.int 0, V.int 8, V.int 3, V.int 11, V.int 6, V.int 14, V.int 5, V.int 13, V.int 12, V.int 4, V.int 15, V.int 7, V.int 10, V.int 2, V.int 9, V.int 1], [V.int 0, V.int 9, V.int 1, V.int 8, V.int 2, V.int 11, V.int 3, V.int 10, V.int 4, V.int 13, V.int 5, V.int 12, V.int 6, V.int 15, V.int 7, V.int 14], [V.int 0, V.int 10, V.int 7, V.int 13, V.int 14, V.int 4, V.int 9, V.int 3, V.int 15, V.int 5, V.int 8, V.int 2, V.int 1, V.int 11, V.int 6, V.int 12], [V.int 0, V.int 11, V.int 5, V.int 14, V.int 10, V.int 1, V.int 15, V.int 4, V.int 7, V.int 12, V.int 2, V.int 9, V.int 13, V.int 6, V.int 8, V.int 3], [V.int 0, V.int 12, V.int 11, V.int 7, V.int 5, V.int 9, V.int 14, V.int 2, V.int 10, V.int 6, V.int 1, V.int 13, V.int 15, V.int 3, V.int 4, V.int 8], [V.int 0, V.int 13, V.int 9, V.int 4, V.int 1, V.int 12, V.int 8, V.int 5, V.int 2, V.int 15, V.int 11, V.int 6, V.int 3, V.int 14, V.int 10, V.int 7], [V.int 0, V.int 14, V.int 15, V.int 1, V.int 13, V.int 3, V.int 2, V.int 12, V.int 9, V.int 7, V.int 6, V.int 8, V.int 4, V.int 10, V.int 11, V.int 5], [V.int 0, V.int 15, V.int 13, V.int 2, V.int 9, V.int 6, V.int 4, V.int 11, V.int 1, V.int 14, V.int 12, V.int 3, V.int 8, V.int 7, V.int 5, V.int 10]]
  n_len : mg "len" = none
  n_list : mg "list" = none
  n_enumerate : mg "enumerate" = none
  n_int : mg "int" = none
  n_abs : mg "abs" = none
  n_range : mg "range" = none
  n_isinstance : mg "isinstance" = none
  n_bool : mg "bool" = none
  n_zip : mg "zip" = none
  x_ArchiveError : XCl K mg "ArchiveError" C_ArchiveError
  x_InvalidSymbol : XCl K mg "InvalidSymbol" C_InvalidSymbol
  s_InvalidSymbol_ArchiveError : PySem.W.subIn K (.ref C_InvalidSymbol) (.ref C_ArchiveError) = some true
  q_InvalidSymbol_InvalidSymbol : PySem.W.kitOne K (.ref C_InvalidSymbol) (.ref C_InvalidSymbol) = some true
section
variable {P : Program} {w : World} {K : PySem.W.Frag} {mg : Str → Option Value} {base : Heap} {C_ArchiveError C_InvalidSymbol : Addr}
/-! ### list(zip(e, e2)) of two lists of one length -/
namespace LZ
open PySem PySem.Spec PyProof.Rows L2
theorem no_len : typeLookup (.type "zip") "__len__" = pure none := by rw [typeLookup_type, builtinLookup_eq_fast]; kernel_rfl
theorem no_hint : typeLookup (.type "zip") "__length_hint__" = pure none := by rw [typeLookup_type, builtinLookup_eq_fast]; kernel_rfl
/-- the zip at z behind i of its items, while the list at S is filled -/
structure ZSt (z TI TO i1 i2 l1 l2 S : Addr) (us ws : Array Value) (i : Nat) (h : Heap) : Prop where
  ti : IsPair h TI (.ref i1) (.ref i2)
  it1 : h.IsListIter i1 l1 i
  it2 : h.IsListIter i2 l2 i
  at1 : h.IsList l1 us
  at2 : h.IsList l2 ws
  zip : (IsZip h z TI TO .none ∧ ∃ a b, IsPair h TO a b) ∨ ∃ T f oT, IsZipHeld h z TI TO T f ∧ h.get? T = some oT ∧ T ≠ z ∧ T ≠ i1 ∧ T ≠ i2 ∧ T ≠ S
structure Low (z TI TO i1 i2 l1 l2 S : Addr) : Prop where
  z : z < S
  ti : TI < S
  to : TO < S
  i1 : i1 < S
  i2 : i2 < S
  l1 : l1 < S
  l2 : l2 < S
/-- the tuples at as are the first pairs -/
structure Tups (us ws : Array Value) (lo : Addr) (h : Heap) (as : List Addr) : Prop where
  rise : as.Pairwise (· < ·)
  above : ∀ a ∈ as, lo < a ∧ a < h.objs.size
  pairs : ∀ (j : Nat) (a : Addr), as[j]? = some a → ∃ x y, us[j]? = some x ∧ ws[j]? = some y ∧ IsPair h a x y
section
variable {prog : Program} {w : World} {A : Around} {E : Value → Shared → Prop} {s : Shared} {R : Result → Shared → Prop} {z TI TO i1 i2 l1 l2 S : Addr} {us ws : Array Value} {i n : Nat}
theorem ZSt.up {h h' : Heap} (st : ZSt z TI TO i1 i2 l1 l2 S us ws i h) (L : Low z TI TO i1 i2 l1 l2 S) (k : ∀ b o, b ≠ S → h.get? b = some o → h'.get? b = some o) : ZSt z TI TO i1 i2 l1 l2 S us ws i h' := by
  refine ⟨k _ _ (Nat.ne_of_lt L.ti) st.ti, st.it1.at fun o e => k _ o (Nat.ne_of_lt L.i1) e, st.it2.at fun o e => k _ o (Nat.ne_of_lt L.i2) e, st.at1.at fun o e => k _ o (Nat.ne_of_lt L.l1) e, st.at2.at fun o e => k _ o (Nat.ne_of_lt L.l2) e, ?_⟩
  rcases st.zip with ⟨hz, a, b, hTO⟩ | ⟨T, f, oT, hz, hT, r1, r2, r3, r4⟩
  · exact .inl ⟨k _ _ (Nat.ne_of_lt L.z) hz, a, b, k _ _ (Nat.ne_of_lt L.to) hTO⟩
  · exact .inr ⟨T, f, oT, k _ _ (Nat.ne_of_lt L.z) hz, k _ _ r4 hT, r1, r2, r3, r4⟩
theorem z_item (D : ZipApart z TI TO i1 i2 l1 l2) (st : ZSt z TI TO i1 i2 l1 l2 S us ws i s.heap) (hS : S < s.heap.objs.size) {x y : Value} (ex : us[i]? = some x) (ey : ws[i]? = some y) {Q : Option Value → Shared → Prop}
    (hQ : ∀ h', ZSt z TI TO i1 i2 l1 l2 S us ws (i + 1) h' → IsPair h' s.heap.objs.size x y → h'.objs.size = s.heap.objs.size + 1 → (∀ c o, c ≠ z → c ≠ TO → c ≠ i1 → c ≠ i2 → s.heap.get? c = some o → h'.get? c = some o) → Q (some (.ref s.heap.objs.size)) { s with heap := h' }) :
    wpAny (model prog w) A (pyNext (.ref z)) Q E s := by
  have nw : ∀ {c o}, s.heap.get? c = some o → s.heap.objs.size ≠ c := fun e => Nat.ne_of_gt (Heap.lt_size e)
  have n1 : s.heap.objs.size ≠ i1 := let ⟨_, e, _⟩ := st.it1; nw e
  have n2 : s.heap.objs.size ≠ i2 := let ⟨_, e, _⟩ := st.it2; nw e
  rcases st.zip with ⟨hz, a, b, hTO⟩ | ⟨T, f, oT, hz, hT, r1, r2, r3, r4⟩
  · refine wpAny_pyNext_zip_item D hz st.ti hTO st.it1 st.it2 st.at1 st.at2 ex ey fun h' a1 a2 a3 a4 a5 a6 hk => hQ h' ⟨hk _ _ D.TIz D.TITO D.TIi1 D.TIi2 st.ti, a3, a4, ?_, ?_, .inr ⟨s.heap.objs.size, false, _, a1, a5, nw hz, n1, n2, Nat.ne_of_gt hS⟩⟩ a5 a6 hk
    · exact st.at1.at fun o e => hk _ o D.l1z D.l1TO D.l1i1 D.l1i2 e
    · exact st.at2.at fun o e => hk _ o D.l2z D.l2TO D.l2i1 D.l2i2 e
  · refine wpAny_pyNext_zip_item_held D hz hT st.ti st.it1 st.it2 st.at1 st.at2 ex ey fun h' a1 a3 a4 a5 a6 hk => hQ h' ⟨hk _ _ D.TIz D.TIi1 D.TIi2 st.ti, a3, a4, ?_, ?_, .inr ⟨T, true, oT, a1, hk _ _ r1 r2 r3 hT, r1, r2, r3, r4⟩⟩ a5 a6 fun c o c1 _ c3 c4 e => hk c o c1 c3 c4 e
    · exact st.at1.at fun o e => hk _ o D.l1z D.l1i1 D.l1i2 e
    · exact st.at2.at fun o e => hk _ o D.l2z D.l2i1 D.l2i2 e
theorem z_done (hh : A.handled = none) (D : ZipApart z TI TO i1 i2 l1 l2) (st : ZSt z TI TO i1 i2 l1 l2 S us ws n s.heap) (hu : us.size = n) {Q : Option Value → Shared → Prop}
    (hQ : ∀ h', (∀ c o, c ≠ z → c ≠ TO → c ≠ i1 → c ≠ i2 → s.heap.get? c = some o → h'.get? c = some o) → Q none { s with heap := h' }) : wpAny (model prog w) A (pyNext (.ref z)) Q E s := by
  have e : us[n]? = none := Array.getElem?_eq_none (by omega)
  rcases st.zip with ⟨hz, a, b, hTO⟩ | ⟨T, f, oT, hz, hT, r1, r2, r3, r4⟩
  · exact wpAny_pyNext_zip_end hh D hz st.ti hTO st.it1 st.it2 st.at1 st.at2 (.inl e) fun h' hk => hQ h' hk
  · exact wpAny_pyNext_zip_end_held hh D hz hT st.ti st.it1 st.it2 st.at1 st.at2 (.inl e) fun h' hk => hQ h' fun c o c1 _ c3 c4 e => hk c o c1 c3 c4 e
theorem z_loop (hh : A.handled = none) (D : ZipApart z TI TO i1 i2 l1 l2) (L : Low z TI TO i1 i2 l1 l2 S) (hn : n ≤ sizeLine) (hu : us.size = n) (hw : ws.size = n) (res : Value) {h₁ : Heap}
    (hR : ∀ h' acc c as, (∀ b o, b ≠ S → b ≠ z → b ≠ TO → b ≠ i1 → b ≠ i2 → h₁.get? b = some o → h'.get? b = some o) → h'.get? S = some { cls := .type "list", dict := none, data := .seq acc c, slots := #[] } → as.length = n → Tups us ws S h' as →
      acc.toList = as.map Value.ref → R (.ok (.ret res)) { s with heap := h' }) :
    ∀ (k i : Nat) (h : Heap) (c : Nat) (acc : Array Value) (as : List Addr), n - i = k → i ≤ n → ZSt z TI TO i1 i2 l1 l2 S us ws i h → (∀ b o, b ≠ S → b ≠ z → b ≠ TO → b ≠ i1 → b ≠ i2 → h₁.get? b = some o → h.get? b = some o) →
      h.get? S = some { cls := .type "list", dict := none, data := .seq acc c, slots := #[] } → acc.toList = as.map Value.ref → as.length = i → Tups us ws S h as →
      codeAny (model prog w) A (.builtin "list.extend.loop" ⟨[.ref S, .ref z, res], []⟩) R { s with heap := h } := by
  intro k
  induction k with
  | zero =>
    intro i h c acc as hk hi st hkeep hS hacc hal hG
    have hin : i = n := by omega
    subst hin
    refine codeAny_builtin PySem.F.entry_extend_loop ?_
    rw [Around.under_plainId PySem.F.plain_extend_loop _]
    show wpAny _ A.in1 (pyNext (.ref z) >>= _) _ _ _
    refine wpAny_bind (z_done (s := { s with heap := h }) (A := A.in1) hh D st hu fun h' he => ?_)
    have old : ∀ a, S ≤ a → ∀ o, h.get? a = some o → h'.get? a = some o := fun a ha o e => he a o (Nat.ne_of_gt (Nat.lt_of_lt_of_le L.z ha)) (Nat.ne_of_gt (Nat.lt_of_lt_of_le L.to ha)) (Nat.ne_of_gt (Nat.lt_of_lt_of_le L.i1 ha)) (Nat.ne_of_gt (Nat.lt_of_lt_of_le L.i2 ha)) e
    refine wpAny_pure (hR h' acc c as (fun b o h1 h2 h3 h4 h5 e => he b o h2 h3 h4 h5 (hkeep b o h1 h2 h3 h4 h5 e)) (old S (Nat.le_refl _) _ hS) hal ⟨hG.rise, fun a ha => ?_, fun j a hj => ?_⟩ hacc)
    · obtain ⟨j, hj⟩ := List.mem_iff_getElem?.mp ha
      obtain ⟨x, y, _, _, e3⟩ := hG.pairs j a hj
      exact ⟨(hG.above a ha).1, Heap.lt_size (old a (Nat.le_of_lt (hG.above a ha).1) _ e3)⟩
    · obtain ⟨x, y, e1, e2, e3⟩ := hG.pairs j a hj
      exact ⟨x, y, e1, e2, old a (Nat.le_of_lt (hG.above a (List.mem_of_getElem? hj)).1) _ e3⟩
  | succ k ih =>
    intro i h c acc as hk hi st hkeep hS hacc hal hG
    have hlt : i < n := by omega
    obtain ⟨x, ex⟩ : ∃ x, us[i]? = some x := ⟨us[i], Array.getElem?_eq_getElem (by omega)⟩
    obtain ⟨y, ey⟩ : ∃ y, ws[i]? = some y := ⟨ws[i], Array.getElem?_eq_getElem (by omega)⟩
    have hsz : acc.size = i := by rw [← Array.length_toList, hacc, List.length_map, hal]
    have hSl : S < h.objs.size := Heap.lt_size hS
    refine codeAny_builtin PySem.F.entry_extend_loop ?_
    rw [Around.under_plainId PySem.F.plain_extend_loop _]
    show wpAny _ A.in1 (pyNext (.ref z) >>= _) _ _ _
    refine wpAny_bind (z_item (s := { s with heap := h }) D st hSl ex ey fun h' st' ht hz he => ?_)
    dsimp only at ht hz he ⊢
    have old : ∀ a, S ≤ a → ∀ o, h.get? a = some o → h'.get? a = some o := fun a ha o e => he a o (Nat.ne_of_gt (Nat.lt_of_lt_of_le L.z ha)) (Nat.ne_of_gt (Nat.lt_of_lt_of_le L.to ha)) (Nat.ne_of_gt (Nat.lt_of_lt_of_le L.i1 ha)) (Nat.ne_of_gt (Nat.lt_of_lt_of_le L.i2 ha)) e
    have hS' := old S (Nat.le_refl _) _ hS
    have up : ∀ b o, b ≠ S → h'.get? b = some o → (h'.update S (Obj.mapSeq (·.push (Value.ref h.objs.size)))).get? b = some o := fun b o hb e => (Heap.get?_update_other _ _ (Ne.symm hb)).trans e
    have ht2 := up _ _ (Nat.ne_of_gt hSl) ht
    show wpAny _ A.in1 (updateSeq S (·.push (Value.ref h.objs.size)) >>= _) _ _ _
    refine wpAny_bind ?_
    refine wpAny_updateSeq hS' rfl (wpAny_pure ⟨plainId_quiet PySem.F.plain_extend_loop _, ih (i + 1) _ _ (acc.push (Value.ref h.objs.size)) (as ++ [h.objs.size]) (by omega) hlt (st'.up L up)
      (fun b o h1 h2 h3 h4 h5 e => up b o h1 (he b o h2 h3 h4 h5 (hkeep b o h1 h2 h3 h4 h5 e))) (Heap.get?_update_self _ hS' rfl) (by rw [Array.toList_push, hacc, List.map_append]; rfl) (by rw [List.length_append, hal]; rfl) ⟨?_, ?_, ?_⟩⟩) (by rw [hsz]; omega) (by show (acc.push (Value.ref h.objs.size)).size ≤ sizeLine + 1; rw [Array.size_push, hsz]; omega)
    · refine List.pairwise_append.mpr ⟨hG.rise, List.pairwise_singleton _ _, fun a ha b hb => ?_⟩
      rw [List.mem_singleton.mp hb]
      exact (hG.above a ha).2
    · intro a ha
      rcases List.mem_append.mp ha with ha | ha
      · obtain ⟨j, hj⟩ := List.mem_iff_getElem?.mp ha
        obtain ⟨x', y', _, _, e3⟩ := hG.pairs j a hj
        have hb := (hG.above a ha).1
        exact ⟨hb, Heap.lt_size (up a _ (Nat.ne_of_gt hb) (old a (Nat.le_of_lt hb) _ e3))⟩
      · rw [List.mem_singleton.mp ha]
        exact ⟨hSl, Heap.lt_size ht2⟩
    · intro j b hj
      rcases Nat.lt_trichotomy j as.length with h1 | h1 | h1
      · rw [List.getElem?_append_left h1] at hj
        obtain ⟨x', y', e1, e2, e3⟩ := hG.pairs j b hj
        have hb := (hG.above b (List.mem_of_getElem? hj)).1
        exact ⟨x', y', e1, e2, up b _ (Nat.ne_of_gt hb) (old b (Nat.le_of_lt hb) _ e3)⟩
      · subst h1
        have hb : h.objs.size = b := by simpa using hj
        subst hb
        exact ⟨x, y, by rw [hal]; exact ex, by rw [hal]; exact ey, ht2⟩
      · have hnone : (as ++ [h.objs.size])[j]? = none := List.getElem?_eq_none (by rw [List.length_append, List.length_singleton]; omega)
        rw [hnone] at hj
        cases hj
theorem z_extend (hh : A.handled = none) (D : ZipApart z TI TO i1 i2 l1 l2) (L : Low z TI TO i1 i2 l1 l2 S) (hn : n ≤ sizeLine) (hu : us.size = n) (hw : ws.size = n) (res : Value) (hst : ZSt z TI TO i1 i2 l1 l2 S us ws 0 s.heap) (hz : IsZip s.heap z TI TO .none)
    (c₀ : Nat) (hS : s.heap.get? S = some { cls := .type "list", data := .seq #[] c₀ })
    (hR : ∀ h' acc c as, (∀ b o, b ≠ S → b ≠ z → b ≠ TO → b ≠ i1 → b ≠ i2 → s.heap.get? b = some o → h'.get? b = some o) → h'.get? S = some { cls := .type "list", dict := none, data := .seq acc c, slots := #[] } → as.length = n → Tups us ws S h' as →
      acc.toList = as.map Value.ref → R (.ok (.ret res)) { s with heap := h' }) :
    wpAny (model prog w) A.in1 (Builtin.List.listExtendWith (.ref S) (.ref z) res)
      (fun fin s' => match fin with | .done f => R (.ok f) s' | .again c' => c'.quiet = true ∧ codeAny (model prog w) A c' R s') (fun e s' => R (.error e) s') s := by
  have hT : s.TypeIs (.ref z) "zip" := ⟨_, hz, rfl⟩
  unfold Builtin.List.listExtendWith
  refine wpAny_bind (wpAny_typeOf hT ?_)
  have h1 : Builtin.List.listSameRef (.ref S) (.ref z) = false := by simp [Builtin.List.listSameRef, Nat.ne_of_gt L.z]
  have h2 : (Value.type "zip" == Value.type "list") = false := by decide
  have h3 : (Value.type "zip" == Value.type "tuple") = false := by decide
  simp only [h1, h2, h3, Bool.or_false, Bool.false_eq_true, if_false]
  refine wpAny_bind (wpAny_pyIter_zip hz ?_)
  refine wpAny_bind (wpAny_holding ?_)
  unfold Builtin.List.listLengthHint
  refine wpAny_bind (wpAny_specialOf hT no_len ?_)
  show wpAny _ A.in1 (specialOf (Value.ref z) (Str.ofString "__length_hint__") >>= _) _ _ _
  refine wpAny_bind (wpAny_specialOf hT no_hint ?_)
  refine wpAny_pure ?_
  show wpAny _ A.in1 (rule "list.extend.makes-room" >>= fun _ => Builtin.List.listTouch (.ref S) >>= fun _ =>
    again (.builtin "list.extend.loop" ⟨[.ref S, .ref z, res], []⟩)) _ _ _
  refine wpAny_bind (wpAny_rule ?_)
  refine wpAny_bind ?_
  show wpAny _ A.in1 (updateSeq S (·.push .none) >>= fun _ => updateSeq S (·.pop)) _ _ _
  refine wpAny_bind (wpAny_updateSeq hS rfl ?_)
  have hS₂ := Heap.get?_update_self (Obj.mapSeq (·.push Value.none)) hS rfl
  refine wpAny_updateSeq (hz := by seq_fits) hS₂ rfl ?_
  have hS₃ := Heap.get?_update_self (Obj.mapSeq (·.pop)) hS₂ rfl
  have oth : ∀ b o, b ≠ S → s.heap.get? b = some o → ((s.heap.update S (Obj.mapSeq (·.push Value.none))).update S (Obj.mapSeq (·.pop))).get? b = some o :=
    fun b o hb e => (Heap.get?_update_other _ _ (Ne.symm hb)).trans ((Heap.get?_update_other _ _ (Ne.symm hb)).trans e)
  exact wpAny_pure ⟨plainId_quiet PySem.F.plain_extend_loop _, z_loop hh D L hn hu hw res hR n 0 _ _ _ [] rfl (Nat.zero_le _) (hst.up L oth) (fun b o hb _ _ _ _ e => oth b o hb e) hS₃ rfl rfl ⟨List.Pairwise.nil, (fun _ ha => nomatch ha), fun j a hj => by simp at hj⟩⟩
theorem z_call (hh : A.handled = none) (D : ZipApart z TI TO i1 i2 l1 l2) (L : Low z TI TO i1 i2 l1 l2 s.heap.objs.size) (hn : n ≤ sizeLine) (hu : us.size = n) (hw : ws.size = n) (hst : ZSt z TI TO i1 i2 l1 l2 s.heap.objs.size us ws 0 s.heap) (hz : IsZip s.heap z TI TO .none) {Q : Value → Shared → Prop}
    (hQ : ∀ h' acc c as, (∀ b o, b ≠ z → b ≠ TO → b ≠ i1 → b ≠ i2 → s.heap.get? b = some o → h'.get? b = some o) → h'.get? s.heap.objs.size = some { cls := .type "list", dict := none, data := .seq acc c, slots := #[] } → as.length = n → Tups us ws s.heap.objs.size h' as →
      acc.toList = as.map Value.ref → Q (.ref s.heap.objs.size) { s with heap := h' }) :
    wpAny (model prog w) A (call (.type "list") [.ref z]) Q E s := by
  refine callType_codes (Q₁ := fun obj s₁ => obj = .ref s.heap.objs.size ∧ s₁ = { s with heap := s.heap.push { cls := .type "list", data := .seq #[] } }) PySem.F.called_list (PySem.F.typeCall_list_1 _) PySem.F.entry_list_init
    (code_list_new _ ⟨rfl, rfl⟩) fun obj s₁ h₁ => ?_
  obtain ⟨rfl, rfl⟩ := h₁
  have hS : (s.heap.push { cls := .type "list", data := .seq #[] }).get? s.heap.objs.size = some { cls := .type "list", data := .seq #[] } := Heap.get?_push_size _ rfl
  have pu : ∀ b o, s.heap.get? b = some o → (s.heap.push { cls := .type "list", data := .seq #[] }).get? b = some o := fun b o e => Heap.get?_push_of_some _ e
  refine ⟨⟨_, hS, rfl⟩, PySem.F.args_list_init_2 _ _, ?_⟩
  show wpAny _ _ (do let old ← Builtin.List.listItems (.ref s.heap.objs.size); Builtin.List.listUpdate (.ref s.heap.objs.size) (fun _ => #[]); letGo old.toList.reverse; Builtin.List.listExtendWith (.ref s.heap.objs.size) (.ref z) .none) _ _ _
  refine wpAny_bind ?_
  unfold Builtin.List.listItems
  refine wpAny_bind (wpAny_seqItems hS rfl (wpAny_pure ?_))
  show wpAny _ _ (updateSeq s.heap.objs.size (fun _ => #[]) >>= fun _ => letGo (#[] : Array Value).toList.reverse >>= fun _ => Builtin.List.listExtendWith (.ref s.heap.objs.size) (.ref z) .none) _ _ _
  refine wpAny_bind (wpAny_updateSeq hS rfl ?_)
  have hS₂ := Heap.get?_update_self (Obj.mapSeq (fun _ => (#[] : Array Value))) hS rfl
  have oth : ∀ b o, b ≠ s.heap.objs.size → s.heap.get? b = some o → ((s.heap.push { cls := .type "list", data := .seq #[] }).update s.heap.objs.size (Obj.mapSeq (fun _ => (#[] : Array Value)))).get? b = some o :=
    fun b o hb e => (Heap.get?_update_other _ _ (Ne.symm hb)).trans (pu b o e)
  refine wpAny_bind (wpAny_letGo ?_)
  refine z_extend (A := A.in1) hh D L hn hu hw .none (hst.up L oth) (oth _ _ (Nat.ne_of_lt L.z) hz) _ hS₂ fun h' acc c as hk hS' hl hG hacc => ?_
  exact ⟨rfl, hQ h' acc c as (fun b o h2 h3 h4 h5 e => hk b o (Nat.ne_of_lt (Heap.lt_size e)) h2 h3 h4 h5 (oth b o (Nat.ne_of_lt (Heap.lt_size e)) e)) hS' hl hG hacc⟩
end
/-- the tuples tracked at their addresses -/
def putP : Hp → List Addr → List (V × V) → Hp
  | H, a :: as, p :: kvs => putP (upd H a (.tup [p.1, p.2])) as kvs
  | H, _, _ => H
theorem putP_off {b : Addr} : ∀ (as : List Addr) (kvs : List (V × V)) (H : Hp), b ∉ as → putP H as kvs b = H b
  | [], _, _, _ => rfl
  | _ :: _, [], _, _ => rfl
  | a :: as, p :: kvs, H, h => by
    show putP (upd H a (.tup [p.1, p.2])) as kvs b = H b
    rw [putP_off as kvs _ (fun q => h (List.mem_cons_of_mem _ q)), upd_ne (fun q => h (by rw [q]; exact List.mem_cons_self))]
theorem putP_at : ∀ (as : List Addr) (kvs : List (V × V)) (H : Hp), as.length = kvs.length → as.Nodup → Paired (fun (t : Addr) (p : V × V) => putP H as kvs t = some (.tup [p.1, p.2])) as kvs
  | [], [], _, _, _ => .nil
  | [], _ :: _, _, h, _ => by cases h
  | _ :: _, [], _, h, _ => by cases h
  | a :: as, p :: kvs, H, h, hn => by
    have hn' := List.nodup_cons.mp hn
    refine .cons ?_ (putP_at as kvs (upd H a (.tup [p.1, p.2])) (Nat.succ.inj h) hn'.2)
    show putP (upd H a (.tup [p.1, p.2])) as kvs a = some (.tup [p.1, p.2])
    rw [putP_off as kvs _ hn'.1, upd_same]
theorem pairs_laid {X : Cx} {pins : List (Addr × Obj)} {σ : L2.St} {H : Hp} {s : Shared} {h' : Heap} {S : Addr} {xs ys : List V} {us ws : List Value} {acc : Array Value} {c : Nat} {as : List Addr} (I : Inv X pins σ H s) (hz : xs.length ≤ sizeLine) (hxy : xs.length = ys.length) (rx : Vals xs us) (ry : Vals ys ws)
    (hk : ∀ b o, s.heap.get? b = some o → h'.get? b = some o) (hlo : s.heap.objs.size ≤ S) (hS : h'.get? S = some { cls := .type "list", dict := none, data := .seq acc c, slots := #[] }) (hl : as.length = xs.length) (hG : Tups us.toArray ws.toArray S h' as) (hacc : acc.toList = as.map Value.ref) :
    ∃ H' : Hp, (∀ b o, H b = some o → H' b = some o) ∧ H S = none ∧ (∀ t ∈ as, H t = none) ∧ S ∉ as ∧ H' S = some (.lst (as.map V.ref)) ∧ Paired (fun (t : Addr) (q : V × V) => H' t = some (.tup [q.1, q.2])) as (xs.zip ys) ∧ Inv X pins σ H' { s with heap := h' } := by
  have lz : (xs.zip ys).length = xs.length := by rw [List.length_zip]; omega
  have hSn : S ∉ as := fun q => Nat.lt_irrefl _ (hG.above _ q).1
  have nd : as.Nodup := List.Pairwise.imp (fun {a b} (h : a < b) => Nat.ne_of_lt h) hG.rise
  have new : ∀ t ∈ as, H t = none := fun t ht => I.hok.fresh (Nat.le_trans hlo (Nat.le_of_lt (hG.above t ht).1))
  have newS : H S = none := I.hok.fresh hlo
  have atP := putP_at as (xs.zip ys) (upd H S (.lst (as.map V.ref))) (by omega) nd
  have off : ∀ b, b ∉ as → b ≠ S → putP (upd H S (.lst (as.map V.ref))) as (xs.zip ys) b = H b := fun b h1 h2 => by rw [putP_off as _ _ h1, upd_ne h2]
  have low : ∀ b o, s.heap.get? b = some o → b ∉ as ∧ b ≠ S := fun b o e => by
    have hb := Heap.lt_size e
    exact ⟨fun q => absurd hb (Nat.not_lt.mpr (Nat.le_trans hlo (Nat.le_of_lt (hG.above b q).1))), Nat.ne_of_lt (Nat.lt_of_lt_of_le hb hlo)⟩
  have kp : ∀ b u, H b = some u → putP (upd H S (.lst (as.map V.ref))) as (xs.zip ys) b = some u := fun b u e => by
    rw [off b (fun q => by rw [new b q] at e; cases e) (fun q => by rw [q, newS] at e; cases e)]
    exact e
  have eS : putP (upd H S (.lst (as.map V.ref))) as (xs.zip ys) S = some (.lst (as.map V.ref)) := by rw [putP_off as _ _ hSn, upd_same]
  refine ⟨putP (upd H S (.lst (as.map V.ref))) as (xs.zip ys), kp, newS, new, hSn, eS, atP, ?_⟩
  refine I.call' (ch := []) rfl ⟨fun b o q _ _ _ => hk b o q, fun b o q _ _ _ => ⟨o.slots, hk b o q⟩, fun b o q n _ => ?_, fun b o q _ => ⟨o, hk b o q⟩, fun b xs q => kp b _ q, fun b o u q => kp b _ q, fun b ps q => ⟨#[], by rw [kp b _ q]; simp⟩⟩ (fun b u q => ?_) I.bare fun b z => by simp at z
  · obtain ⟨z1, z2⟩ := low b o q
    rw [off b z1 z2]
    exact n
  · by_cases hb : b ∈ as
    · obtain ⟨j, pk, e1, e2, e3⟩ := LiI.paired_ix atP hb
      rw [e3] at q
      cases q
      obtain ⟨x, y, f1, f2, f3⟩ := hG.pairs j b e1
      obtain ⟨g1, g2⟩ := List.getElem?_zip_eq_some.mp e2
      obtain ⟨x', k1, k2⟩ := LiI.paired_get rx g1
      obtain ⟨y', k3, k4⟩ := LiI.paired_get ry g2
      have ex : x' = x := by
        have f1' : us[j]? = some x := by simpa using f1
        rw [k1] at f1'
        exact Option.some.inj f1'
      have ey : y' = y := by
        have f2' : ws[j]? = some y := by simpa using f2
        rw [k3] at f2'
        exact Option.some.inj f2'
      subst ex ey
      exact ⟨by show 2 ≤ sizeLine; decide, [x', y'], .cons k2 (.cons k4 .nil), ⟨_, f3, rfl, _, rfl⟩⟩
    · by_cases hb2 : b = S
      · rw [hb2] at q ⊢
        rw [eS] at q
        cases q
        refine ⟨by rw [List.length_map]; omega, acc.toList, c, by rw [hacc]; exact LiI.vals_refs as, ?_⟩
        rw [Array.toArray_toList]
        exact hS
      · rw [off b hb hb2] at q
        exact (I.hok b u q).stay (fun d v _ y => hk d v y) (fun d y => kp d _ y) fun d xs y => kp d _ y
def tListZip (K : PySem.W.Frag) (ta : TA) : TE := fun σ H Q => ta σ H fun vs H1 => ∃ (a b : Addr) (xs ys : List V), vs = [.ref a, .ref b] ∧ SqL K H1 a xs ∧ SqL K H1 b ys ∧ xs.length = ys.length ∧
  ∀ (H' : Hp) (p : Addr) (ts : List Addr), (∀ b o, H1 b = some o → H' b = some o) → H1 p = none → (∀ t ∈ ts, H1 t = none) → p ∉ ts → H' p = some (.lst (ts.map V.ref)) → Paired (fun (t : Addr) (q : V × V) => H' t = some (.tup [q.1, q.2])) ts (xs.zip ys) → Q (.ref p) H'
theorem pe_listZip {X : Cx} {e e2 : Expr} {ta : TA} {p p2 cpos pos : Pos} (hc : X.calm = true) (hg : Gl X "list") (hm : X.mg "list" = none) (hv : bootBuiltins "list" = some (.type "list")) (hgz : Gl X "zip") (hmz : X.mg "zip" = none) (ha : PA X [e, e2] ta)
    (hs : starEach [e, e2] X.env = (false, eval e X.env) :: starEach [e2] X.env := by rfl) (hpl : (backTo cpos (starEach [e2] X.env)).any (·.1) = false := by rfl)
    (hs1 : starEach [.Call (.Name "zip" p2) [e, e2] [] cpos] X.env = (false, eval (.Call (.Name "zip" p2) [e, e2] [] cpos) X.env) :: starEach [] X.env := by rfl) :
    PE X (.Call (.Name "list" p) [.Call (.Name "zip" p2) [e, e2] [] cpos] [] pos) (tListZip X.K ta) := by
  refine ⟨fun pins s σ H Q I hq => ?_⟩
  refine wpAny_Call_Name_kw (ld_blt I hg hm hv ?_)
  refine PyProof.Rows.callWith_type1 ?_ hs1 rfl
  rw [hs1]
  show wpAny _ _ (spliced ((false, eval (.Call (.Name "zip" p2) [e, e2] [] cpos) X.env) :: backTo pos (starEach [] X.env))) _ _ s
  refine Calls.spliced_cons ?_
  refine Call_ (ld_blt I hgz hmz PyProof.Rows.boot_zip (PyProof.Rows.callWith_type1 (thn (ha.run cpos pins s σ H _ I hq) fun us s1 ⟨vs, H1, I1, r1, q1⟩ => ?_) hs hpl))
  obtain ⟨a, b, xs, ys, ex, hqx, hqy, hxy, q⟩ := q1
  subst ex
  cases r1 with
  | cons r rr =>
    cases rr with
    | cons r' rr =>
      cases rr
      cases r
      cases r'
      obtain ⟨its, rv, p1, hz1⟩ := I1.list hqx
      obtain ⟨its2, rv2, p2', _⟩ := I1.list hqy
      have la : a < s1.heap.objs.size := p1.lt
      have lb : b < s1.heap.objs.size := p2'.lt
      have n1 := rv.length
      have n2 := rv2.length
      refine call_zip_2 p1.isList p2'.isList fun h' hz hTI hTO h1 h2 hsz hk => ?_
      refine Calls.spliced_nil ?_
      have l1' : h'.IsList a its.toArray := p1.isList.at fun o e => hk _ o e
      have l2' : h'.IsList b its2.toArray := p2'.isList.at fun o e => hk _ o e
      refine z_call (s := { s1 with heap := h' }) (n := xs.length) (I1.ok.hd hc) (PySem.W.ktu_apart s1.heap.objs.size a b la lb) ?_ (by omega) (by simp only [List.size_toArray]; omega) (by simp only [List.size_toArray]; omega)
        ⟨hTI, h1, h2, l1', l2', .inl ⟨hz, _, _, hTO⟩⟩ hz fun h2' acc c as hk2 hS hl hG hacc => ?_
      · have up5 : ∀ d, d < s1.heap.objs.size + 5 → d < h'.objs.size := fun d hd => by rw [hsz]; exact hd
        exact ⟨up5 _ (Nat.lt_succ_self _), up5 _ (Nat.add_lt_add_left (by decide) _), up5 _ (Nat.add_lt_add_left (by decide) _), up5 _ (Nat.lt_add_of_pos_right (by decide)), up5 _ (Nat.add_lt_add_left (by decide) _), up5 _ (Nat.lt_of_lt_of_le la (Nat.le_add_right _ _)), up5 _ (Nat.lt_of_lt_of_le lb (Nat.le_add_right _ _))⟩
      · have hk3 : ∀ d o, s1.heap.get? d = some o → h2'.get? d = some o := fun d o e => by
          have hd := Heap.lt_size e
          have hne : ∀ m, d ≠ s1.heap.objs.size + m := fun m => Nat.ne_of_lt (Nat.lt_of_lt_of_le hd (Nat.le_add_right _ m))
          exact hk2 d o (hne 4) (hne 3) (hne 0) (hne 1) (hk d o e)
        obtain ⟨H', k1, k2, k3, k4, k5, k6, J⟩ := pairs_laid I1 (by omega) hxy rv rv2 hk3 (show s1.heap.objs.size ≤ h'.objs.size by omega) hS hl hG hacc
        exact ⟨.ref _, H', J, rfl, q H' _ as k1 k2 k3 k4 k5 k6⟩
end LZ

/-- the cell's promise -/
def spCell (K : PySem.W.Frag) : Sp := fun vs H Q _ => ∃ (l : Addr) (ns : List Int) (k : Nat), vs = [.ref l, .int (k : Int)] ∧ SqL K H l (ns.map V.int) ∧ Q (.int (cell ns k)) H
theorem ok__law_cell (T : Txt K mg C_ArchiveError C_InvalidSymbol) : Ok P w K mg base CX0 1 "_law_cell" ["script", "k"] (spCell K) := by
  refine ok_of T.d__law_cell fun f fd F => F.ok sc__law_cell (fun vs H Q E h => ?_) (fun cdv A outer s H vs Q E hr h => ?_)
  · obtain ⟨l, ns, k, rfl, _⟩ := h
    rfl
  · obtain ⟨l, ns, k, rfl, hs, q⟩ := h
    refine ⟨_,       (pss_cons (ps_if (pt_cmpR op_lt (pv 1) (pe_callB call_len_seq (by rfl) T.n_len PySem.boot_len (pa_cons (pv 0) pa_nil)) (nomark _))
        (pss_one (ps_ret (pe_callTy call_int1 (by rfl) T.n_int (by decide +kernel) (pa_cons (pe_ix ix_list (pv 0) (pv 1) (fun _ _ => rfl)) pa_nil)))) pss_nil)
      (pss_one (ps_ret pe_int))), ?_⟩
    refine ⟨_, rfl, _, rfl, l, _, rfl, .inl hs, _, _, rfl, rfl, _, rfl, itd (fun h => ?_) (fun h => ?_)⟩
    · have hk : k < ns.length := by
        rw [List.length_map] at h
        omega
      refine ⟨_, rfl, _, rfl, l, _, _, .int ns[k], rfl, rfl, hs, atI_nat (by rw [List.getElem?_map, List.getElem?_eq_getElem hk]; rfl), .inl ⟨_, rfl, ?_⟩⟩
      rw [Cm.cell_in hk] at q
      exact q
    · have hk : ¬ k < ns.length := by
        rw [List.length_map] at h
        omega
      rw [Cm.cell_out hk] at q
      exact q

def mixI (c k : Int) : Int := ((c * 48271 + k * 69621 + 12345) % 2147483647 * 16807 + k * 40692 + 777) % 2147483629 / 997
def spMix : Sp := fun vs H Q _ => ∃ c k : Int, vs = [.int c, .int k] ∧ Q (.int (mixI c k)) H
theorem ok__law_mix (T : Txt K mg C_ArchiveError C_InvalidSymbol) : Ok P w K mg base CX0 1 "_law_mix" ["cell", "k"] spMix := by
  refine ok_of T.d__law_mix fun f fd F => F.ok sc__law_mix (fun vs H Q E h => ?_) (fun cdv A outer s H vs Q E hr h => ?_)
  · obtain ⟨c, k, rfl, _⟩ := h
    rfl
  · obtain ⟨c, k, rfl, q⟩ := h
    have nd := sc__law_mix.nd
    refine ⟨_,       (pss_cons (ps_set (i := 2) nd rfl (Or.inl rfl) (pe_op op_mod (pe_callTy call_int1 (by rfl) T.n_int (by decide +kernel) (pa_cons (pe_op op_add (pe_op op_add (pe_op op_mul (pv 0) pe_int) (pe_op op_mul (pv 1) pe_int)) pe_int) pa_nil)) pe_int))
      (pss_cons (ps_set (i := 2) nd rfl (Or.inl rfl) (pe_op op_mod (pe_callTy call_int1 (by rfl) T.n_int (by decide +kernel) (pa_cons (pe_op op_add (pe_op op_add (pe_op op_mul (pv 2) pe_int) (pe_op op_mul (pv 1) pe_int)) pe_int) pa_nil)) pe_int))
      (pss_one (ps_ret (pe_op op_fdiv (pv 2) pe_int))))), ?_⟩
    refine ⟨_, rfl, _, _, rfl, rfl, .inr (by decide), _, rfl, _, _, rfl, rfl, .inr (by decide), _, _, rfl, rfl, _, _, rfl, rfl, .inl ⟨_, rfl, _, _, rfl, rfl, (by show (0 : Int) < 2147483647; decide), ?_⟩⟩
    refine ⟨_, rfl, _, _, rfl, rfl, .inr (by decide), _, rfl, _, _, rfl, rfl, .inr (by decide), _, _, rfl, rfl, _, _, rfl, rfl, .inl ⟨_, rfl, _, _, rfl, rfl, (by show (0 : Int) < 2147483629; decide), ?_⟩⟩
    exact ⟨_, rfl, _, _, rfl, rfl, ⟨by decide, by decide⟩, q⟩

def divs : Nat → Int → Int → Int
  | 0, x, _ => x
  | k + 1, x, b => divs k x b / b
def rowAt (c : Int) (b : Int) (k : Nat) : Int := if 1000000000000000000 ≤ (if c < 0 then -c else c) then divs k (if c < 0 then -c else c) b % b else mixI c k % b
/-- the digits of a cell, or its mixture -/
def rowL (c : Int) (n : Nat) (b : Int) : List Int := (List.range n).map (rowAt c b)
theorem rowL_len (c : Int) (n : Nat) (b : Int) : (rowL c n b).length = n := by simp [rowL]
theorem rowL_in {c : Int} {n : Nat} {b x : Int} (hb : 0 < b) (h : x ∈ rowL c n b) : 0 ≤ x ∧ x < b := by
  obtain ⟨k, _, rfl⟩ := List.mem_map.mp h
  have z : ∀ y : Int, 0 ≤ y % b ∧ y % b < b := fun y => ⟨Int.emod_nonneg _ (by omega), Int.emod_lt_of_pos _ hb⟩
  by_cases hc : 1000000000000000000 ≤ (if c < 0 then -c else c)
  · rw [rowAt, if_pos hc]
    exact z _
  · rw [rowAt, if_neg hc]
    exact z _
theorem rowL_succ (c : Int) (n : Nat) (b : Int) : rowL c (n + 1) b = rowL c n b ++ [rowAt c b n] := by simp [rowL, List.range_succ]
def spRow : Sp := fun vs H Q _ => ∃ (c : Int) (n : Nat) (b : Int), vs = [.int c, .int (n : Int), .int b] ∧ n ≤ 60000 ∧ 0 < b ∧ b < 1073741824 ∧ ∀ p H', H p = none → Same H H' → H' p = some (.lst ((rowL c n b).map V.int)) → Q (.ref p) H'
theorem ok__law_row (T : Txt K mg C_ArchiveError C_InvalidSymbol) : Ok P w K mg base CX0 2 "_law_row" ["cell", "count", "bound"] spRow := by
  have G__law_mix := ok__law_mix (P := P) (w := w) (base := base) T
  refine ok_of T.d__law_row fun f fd F => F.ok sc__law_row (fun vs H Q E h => ?_) (fun cdv A outer s H vs Q E hr h => ?_)
  · obtain ⟨c, n, b, rfl, _⟩ := h
    rfl
  · obtain ⟨c, n, b, rfl, hn, hb0, hb1, kQ⟩ := h
    have nd := sc__law_row.nd
    refine ⟨_,       (pss_cons (ps_set (i := 3) nd rfl (Or.inl rfl) (pe_lst pa_nil))
      (pss_cons (ps_set (i := 4) nd rfl (Or.inl rfl) (pe_callB call_abs (by rfl) T.n_abs (by decide +kernel) (pa_cons (pv 0) pa_nil)))
      (pss_cons (ps_for PassesOwn.never rfl (pi_range1 rfl T.n_range (pa_cons (pv 1) pa_nil)) (pg_name (i := 5) nd rfl (Or.inl rfl))
        (pss_one (ps_if (pt_cmpR op_ge (pe_callB call_abs (by rfl) T.n_abs (by decide +kernel) (pa_cons (pv 0) pa_nil)) pe_int (nomark _))
          (pss_cons (ps_expr (pe_bm PySem.F.plainAttrs_list PySem.F.slot_list_append PySem.F.type_list_append mt_append (pv 3) (pa_cons (pe_op op_mod (pe_callTy call_int1 (by rfl) T.n_int (by decide +kernel) (pa_cons (pv 4) pa_nil)) (pv 2)) pa_nil)))
          (pss_one (ps_set (i := 4) nd rfl (Or.inl rfl) (pe_op op_fdiv (pv 4) (pv 2)))))
          (pss_one (ps_expr (pe_bm PySem.F.plainAttrs_list PySem.F.slot_list_append PySem.F.type_list_append mt_append (pv 3) (pa_cons (pe_op op_mod (pe_callTy call_int1 (by rfl) T.n_int (by decide +kernel) (pa_cons (pe_callO G__law_mix (hr.mono (by decide)) pass0 (pa_cons (pv 0) (pa_cons (pv 5) pa_nil))) pa_nil)) (pv 2)) pa_nil)))))))
      (pss_one (ps_ret (pv 3)))))), ?_⟩
    refine ⟨by decide, fun p hp => ⟨_, rfl, _, rfl, ?_⟩⟩
    refine ⟨_, rfl, (n : Int), rfl, by omega, by omega, for_range (lo := 0) (n := (n : Int).toNat) (fun i σ H' => ∃ (r : Int) (v : Option V), (1000000000000000000 ≤ (if c < 0 then -c else c) → r = divs i (if c < 0 then -c else c) b) ∧ σ = [some (.int c), some (.int (n : Int)), some (.int b), some (.ref p), some (.int r), v] ∧ Same H H' ∧ H' p = some (.lst ((rowL c i b).map V.int))) ⟨_, none, fun _ => rfl, rfl, same_upd hp, upd_same⟩ ?_ ?_⟩
    · rintro i σ H' hi ⟨r, v, hr', rfl, e, hL⟩
      have ei : (0 : Int) + (i : Int) = (i : Int) := by omega
      have hsz : ((rowL c i b).map V.int).length < sizeLine := small (by rw [List.length_map, rowL_len]; omega)
      refine ⟨_, rfl, _, rfl, _, _, rfl, rfl, _, rfl, itd (fun h => ?_) (fun h => ?_)⟩
      · refine ⟨_, rfl, .inl ⟨rfl, _, SqL.of hL⟩, _, rfl, .inl ⟨_, rfl, _, rfl, _, _, rfl, rfl, hb0, p, _, _, rfl, rfl, hL, hsz, ?_⟩⟩
        refine ⟨_, rfl, _, rfl, _, _, rfl, rfl, ⟨hb0, hb1⟩, ?_⟩
        refine ⟨r / b, _, fun z => ?_, rfl, same_new e hp, ?_⟩
        · rw [hr' z]
          rfl
        · rw [upd_same, rowL_succ, rowAt, if_pos h, ← hr' h]
          simp
      · refine ⟨_, rfl, .inl ⟨rfl, _, SqL.of hL⟩, _, rfl, _, rfl, c, 0 + (i : Int), rfl, .inl ⟨_, rfl, _, rfl, _, _, rfl, rfl, hb0, p, _, _, rfl, rfl, hL, hsz, ?_⟩⟩
        refine ⟨r, _, fun z => absurd z h, rfl, same_new e hp, ?_⟩
        rw [upd_same, rowL_succ, rowAt, if_neg h, ei]
        simp
    · rintro σ H' ⟨r, v, _, rfl, e, hL⟩
      refine ⟨_, rfl, kQ p _ hp e ?_⟩
      rw [Int.toNat_natCast] at hL
      exact hL

def spIsInt : Sp := fun vs H Q _ => ∃ i : Int, vs = [.int i] ∧ Q (.bl true) H
theorem ok__law_is_int (T : Txt K mg C_ArchiveError C_InvalidSymbol) : Ok P w K mg base CX0 1 "_law_is_int" ["value"] spIsInt := by
  refine ok_of T.d__law_is_int fun f fd F => F.ok sc__law_is_int (fun vs H Q E h => ?_) (fun cdv A outer s H vs Q E hr h => ?_)
  · obtain ⟨i, rfl, _⟩ := h
    rfl
  · obtain ⟨i, rfl, q⟩ := h
    refine ⟨_,       (pss_one (ps_ret (pe_and (pe_callB call_isi (by rfl) T.n_isinstance (by decide +kernel) (pa_cons (pv 0) (pa_cons (pe_bltn (v := .ty "int") (by rfl) T.n_int (by decide +kernel) rfl) pa_nil))) (pe_one (pe_not (pe_callB call_isi (by rfl) T.n_isinstance (by decide +kernel) (pa_cons (pv 0) (pa_cons (pe_bltn (v := .ty "bool") (by rfl) T.n_bool (by decide +kernel) rfl) pa_nil)))))))), ?_⟩
    refine ⟨_, rfl, _, _, _, _, true, rfl, .ty _, .base (.int i), kit_ty (by decide +kernel), true, rfl, iteT ?_⟩
    exact ⟨_, rfl, _, _, _, _, false, rfl, .ty _, .base (.int i), kit_ty (by decide +kernel), false, rfl, q⟩

def allIn (lo hi : Int) (ns : List Int) : Bool := ns.all fun n => decide (lo ≤ n) && decide (n ≤ hi)
def spIsList (K : PySem.W.Frag) : Sp := fun vs H Q _ => ∃ (a : Addr) (ns : List Int) (lo hi : Int), vs = [.ref a, .int lo, .int hi] ∧ SqL K H a (ns.map V.int) ∧ Q (.bl (allIn lo hi ns)) H
theorem ok__law_is_list (T : Txt K mg C_ArchiveError C_InvalidSymbol) : Ok P w K mg base CX0 2 "_law_is_list" ["value", "least", "greatest"] (spIsList K) := by
  have G__law_is_int := ok__law_is_int (P := P) (w := w) (base := base) T
  refine ok_of T.d__law_is_list fun f fd F => F.ok sc__law_is_list (fun vs H Q E h => ?_) (fun cdv A outer s H vs Q E hr h => ?_)
  · obtain ⟨a, ns, lo, hi, rfl, _⟩ := h
    rfl
  · obtain ⟨a, ns, lo, hi, rfl, hs, q⟩ := h
    have nd := sc__law_is_list.nd
    refine ⟨_,       (pss_cons (ps_if (pt_not (pt_val (pe_callB call_isi (by rfl) T.n_isinstance (by decide +kernel) (pa_cons (pv 0) (pa_cons (pe_bltn (v := .ty "list") (by rfl) T.n_list (by decide +kernel) rfl) pa_nil)))))
        (pss_one (ps_ret pe_bl)) pss_nil)
      (pss_cons (ps_for PassesOwn.never rfl (pi_list (pv 0)) (pg_name (i := 3) nd rfl (Or.inl rfl))
        (pss_one (ps_if (PW.pt (pw_or (pt_not (pt_val (pe_callO G__law_is_int (hr.mono (by decide)) pass0 (pa_cons (pv 3) pa_nil)))) (pw_or (pt_cmpR op_lt (pv 3) (pv 1) (nomark _)) (pw_or1 (pt_cmpR op_gt (pv 3) (pv 2) (nomark _))))))
          (pss_one (ps_ret pe_bl)) pss_nil)))
      (pss_one (ps_ret pe_bl)))), ?_⟩
    refine ⟨_, rfl, _, _, _, _, true, rfl, .ty _, tyx_list hs, kit_ty (by decide +kernel), true, rfl, iteF ?_⟩
    refine ⟨_, rfl, a, rfl, ⟨_, hs⟩, for_list (K := K) (a := a) (xs := ns.map V.int) (fun i σ H' => H' = H ∧ allIn lo hi (ns.take i) = true ∧ ∃ v, σ = [some (.ref a), some (.int lo), some (.int hi), v]) ⟨rfl, rfl, none, rfl⟩ (fun i σ H' _ ⟨e, _⟩ => e ▸ hs) ?_ ?_⟩
    · rintro i y σ H' hi' ⟨rfl, ht, v, rfl⟩
      obtain ⟨hin, rfl⟩ := get_ints hi'
      have bad : ¬ (lo ≤ ns[i] ∧ ns[i] ≤ hi) → allIn lo hi ns = false := fun hb => by
        rw [allIn, List.all_eq_false]
        exact ⟨ns[i], List.getElem_mem hin, by simpa using fun h1 => Int.not_le.mp fun h2 => hb ⟨h1, h2⟩⟩
      refine ⟨_, rfl, _, rfl, true, rfl, iteF ?_⟩
      refine ⟨_, rfl, _, rfl, _, _, rfl, rfl, _, rfl, itd (fun h1 => ?_) (fun h1 => ?_)⟩
      · refine iteT ?_
        rw [bad (by omega)] at q
        exact q
      · refine ⟨_, rfl, _, rfl, _, _, rfl, rfl, _, rfl, itd (fun h2 => ?_) (fun h2 => ?_)⟩
        · rw [bad (by omega)] at q
          exact q
        · refine ⟨rfl, ?_, _, rfl⟩
          have e1 : (decide (lo ≤ ns[i]) && decide (ns[i] ≤ hi)) = true := by
            rw [decide_eq_true (show lo ≤ ns[i] by omega), decide_eq_true (show ns[i] ≤ hi by omega)]
            rfl
          unfold allIn at ht ⊢
          rw [take_snoc hin, List.all_append, ht, List.all_cons, e1]
          rfl
    · rintro σ H' ⟨rfl, ht, v, rfl⟩
      rw [List.length_map, List.take_length] at ht
      rw [ht] at q
      exact q

/-! symbols -/
def powL : List Int := [1, 2, 4, 8, 3, 6, 12, 11, 5, 10, 7, 14, 15, 13, 9]
def expL : List Int := [0, 0, 1, 4, 2, 8, 5, 10, 3, 14, 9, 7, 6, 13, 11, 12]
def powV : List V := [V.int 1, V.int 2, V.int 4, V.int 8, V.int 3, V.int 6, V.int 12, V.int 11, V.int 5, V.int 10, V.int 7, V.int 14, V.int 15, V.int 13, V.int 9]
def expV : List V := [V.non, V.int 0, V.int 1, V.int 4, V.int 2, V.int 8, V.int 5, V.int 10, V.int 3, V.int 14, V.int 9, V.int 7, V.int 6, V.int 13, V.int 11, V.int 12]
def sym (a : Int) : Prop := 0 ≤ a ∧ a < 16
def addI (a b : Int) : Int := Builtin.bitXor a b
def mulI (a b : Int) : Int := if a = 0 ∨ b = 0 then 0 else powL.getD ((expL.getD a.toNat 0 + expL.getD b.toNat 0) % 15).toNat 0
def invI (a : Int) : Int := powL.getD ((15 - expL.getD a.toNat 0) % 15).toNat 0
theorem sym_all {p : Int → Prop} (h : ∀ i : Fin 16, p ((i.val : Nat) : Int)) {a : Int} (ha : sym a) : p a := by
  have e : ((a.toNat : Nat) : Int) = a := Int.toNat_of_nonneg ha.1
  have hlt : a.toNat < 16 := by have := ha.2; omega
  have z := h ⟨a.toNat, hlt⟩
  rw [e] at z
  exact z
theorem add_sym {a b : Int} (ha : sym a) (hb : sym b) : sym (addI a b) :=
  sym_all (p := fun a => sym (addI a b)) (fun i => sym_all (p := fun b => sym (addI i.val b)) (fun j => by revert i j; unfold sym addI; decide +kernel) hb) ha
theorem mul_sym {a b : Int} (ha : sym a) (hb : sym b) : sym (mulI a b) :=
  sym_all (p := fun a => sym (mulI a b)) (fun i => sym_all (p := fun b => sym (mulI i.val b)) (fun j => by revert i j; unfold sym mulI; decide +kernel) hb) ha
theorem exp_at {a : Int} (ha : sym a) (h0 : a ≠ 0) : atI expV a = some (.int (expL.getD a.toNat 0)) :=
  sym_all (p := fun a => a ≠ 0 → atI expV a = some (.int (expL.getD a.toNat 0))) (by decide +kernel) ha h0
theorem exp_in {a : Int} (ha : sym a) : 0 ≤ expL.getD a.toNat 0 ∧ expL.getD a.toNat 0 < 15 :=
  sym_all (p := fun a => 0 ≤ expL.getD a.toNat 0 ∧ expL.getD a.toNat 0 < 15) (by decide +kernel) ha
theorem pow_at {k : Int} (h0 : 0 ≤ k) (h1 : k < 15) : atI powV k = some (.int (powL.getD k.toNat 0)) :=
  sym_all (p := fun k => k < 15 → atI powV k = some (.int (powL.getD k.toNat 0))) (by decide +kernel) (a := k) ⟨h0, by omega⟩ h1
theorem mul_comm' {a b : Int} (ha : sym a) (hb : sym b) : mulI b a = mulI a b :=
  sym_all (p := fun a => mulI b a = mulI a b) (fun i => sym_all (p := fun b => mulI b i.val = mulI i.val b) (fun j => by revert i j; unfold mulI; decide +kernel) hb) ha
theorem mul_assoc' {a b c : Int} (ha : sym a) (hb : sym b) (hc : sym c) : mulI a (mulI b c) = mulI (mulI a b) c :=
  sym_all (p := fun a => mulI a (mulI b c) = mulI (mulI a b) c) (fun i => sym_all (p := fun b => mulI i.val (mulI b c) = mulI (mulI i.val b) c) (fun j => sym_all (p := fun c => mulI i.val (mulI j.val c) = mulI (mulI i.val j.val) c) (fun k => by revert i j k; unfold mulI; decide +kernel) hc) hb) ha
theorem mul_add' {a b c : Int} (ha : sym a) (hb : sym b) (hc : sym c) : mulI a (addI b c) = addI (mulI a b) (mulI a c) :=
  sym_all (p := fun a => mulI a (addI b c) = addI (mulI a b) (mulI a c)) (fun i => sym_all (p := fun b => mulI i.val (addI b c) = addI (mulI i.val b) (mulI i.val c)) (fun j => sym_all (p := fun c => mulI i.val (addI j.val c) = addI (mulI i.val j.val) (mulI i.val c)) (fun k => by revert i j k; unfold mulI addI; decide +kernel) hc) hb) ha

/-! the field and its polynomials, plainly -/
abbrev G := Fin 16
def ga (a b : G) : G := ⟨(a.val ^^^ b.val) % 16, Nat.mod_lt _ (by decide)⟩
def gm (a b : G) : G := ⟨(mulI (a.val : Int) (b.val : Int)).toNat % 16, Nat.mod_lt _ (by decide)⟩
def gv (a : G) : G := ⟨(invI (a.val : Int)).toNat % 16, Nat.mod_lt _ (by decide)⟩
def gi (a : G) : Int := ((a.val : Nat) : Int)
def vg (a : G) : V := .int (gi a)
theorem gi_sym (a : G) : sym (gi a) := ⟨Int.natCast_nonneg _, by have := a.isLt; unfold gi; omega⟩
theorem gi_inj {a b : G} (h : gi a = gi b) : a = b := Fin.ext (by unfold gi at h; omega)
theorem of_sym {x : Int} (h : sym x) : ∃ g : G, x = gi g := ⟨⟨x.toNat, by have := h.1; have := h.2; omega⟩, by have := h.1; show x = ((x.toNat : Nat) : Int); omega⟩
theorem of_syms : ∀ {l : List Int}, (∀ x ∈ l, sym x) → ∃ gl : List G, l = gl.map gi
  | [], _ => ⟨[], rfl⟩
  | x :: l, h => by
    obtain ⟨g, e⟩ := of_sym (h x List.mem_cons_self)
    obtain ⟨gl, e2⟩ := of_syms fun y hy => h y (List.mem_cons_of_mem _ hy)
    exact ⟨g :: gl, by rw [e, e2]; rfl⟩
theorem gi_add (a b : G) : addI (gi a) (gi b) = gi (ga a b) := by revert a b; unfold addI gi ga; decide +kernel
theorem gi_mul (a b : G) : mulI (gi a) (gi b) = gi (gm a b) := by revert a b; unfold mulI gi gm; decide +kernel
theorem gi_inv (a : G) : a ≠ 0 → invI (gi a) = gi (gv a) := by revert a; unfold invI gi gv; decide +kernel
theorem gi_zero {a : G} : gi a = 0 ↔ a = 0 := by revert a; unfold gi; decide +kernel
theorem ga_comm (a b : G) : ga a b = ga b a := by revert a b; decide +kernel
theorem ga_assoc (a b c : G) : ga (ga a b) c = ga a (ga b c) := by revert a b c; decide +kernel
instance : Std.Commutative ga := ⟨ga_comm⟩
instance : Std.Associative ga := ⟨ga_assoc⟩
theorem ga_zero (a : G) : ga a 0 = a := by revert a; decide +kernel
theorem zero_ga (a : G) : ga 0 a = a := by revert a; decide +kernel
theorem ga_self (a : G) : ga a a = 0 := by revert a; decide +kernel
theorem gm_zero (a : G) : gm a 0 = 0 := by revert a; decide +kernel
theorem zero_gm (a : G) : gm 0 a = 0 := by revert a; decide +kernel
theorem gm_one (a : G) : gm a 1 = a := by revert a; decide +kernel
theorem gm_comm (a b : G) : gm a b = gm b a := by revert a b; unfold gm mulI; decide +kernel
theorem gm_assoc (a b c : G) : gm (gm a b) c = gm a (gm b c) := by revert a b c; unfold gm mulI; decide +kernel
theorem gm_add (a b c : G) : gm a (ga b c) = ga (gm a b) (gm a c) := by revert a b c; unfold gm mulI; decide +kernel
theorem add_gm (a b c : G) : gm (ga a b) c = ga (gm a c) (gm b c) := by rw [gm_comm, gm_add, gm_comm c a, gm_comm c b]
theorem gm_inv (a : G) : a ≠ 0 → gm a (gv a) = 1 := by revert a; decide +kernel
theorem gm_eq_zero (a b : G) : gm a b = 0 → a = 0 ∨ b = 0 := by revert a b; decide +kernel
theorem ga_eq {a b c : G} (h : ga a b = c) : a = ga c b := by rw [← h, ga_assoc, ga_self, ga_zero]
theorem ga_eq_zero {a b : G} (h : ga a b = 0) : a = b := by rw [ga_eq h, zero_ga]
/-! sums -/
def gs : Nat → (Nat → G) → G
  | 0, _ => 0
  | n + 1, f => ga (gs n f) (f n)
theorem gs_congr {f g : Nat → G} : ∀ {n : Nat}, (∀ k, k < n → f k = g k) → gs n f = gs n g
  | 0, _ => rfl
  | n + 1, h => by rw [gs, gs, gs_congr fun k hk => h k (by omega), h n (by omega)]
theorem gs_zero {f : Nat → G} : ∀ {n : Nat}, (∀ k, k < n → f k = 0) → gs n f = 0
  | 0, _ => rfl
  | n + 1, h => by rw [gs, gs_zero fun k hk => h k (by omega), h n (by omega)]; rfl
theorem gs_add (f g : Nat → G) : ∀ n : Nat, gs n (fun k => ga (f k) (g k)) = ga (gs n f) (gs n g)
  | 0 => (ga_zero 0).symm
  | n + 1 => by rw [gs, gs, gs, gs_add f g n]; ac_rfl
theorem gs_mul (c : G) (f : Nat → G) : ∀ n : Nat, gs n (fun k => gm c (f k)) = gm c (gs n f)
  | 0 => (gm_zero c).symm
  | n + 1 => by rw [gs, gs, gs_mul c f n, gm_add]
theorem gs_more {f : Nat → G} {m : Nat} (h : ∀ k, m ≤ k → f k = 0) : ∀ {n : Nat}, m ≤ n → gs n f = gs m f
  | 0, hm => by
    have e : m = 0 := by omega
    rw [e]
  | n + 1, hm => by
    by_cases e : m = n + 1
    · rw [e]
    · rw [gs, gs_more h (show m ≤ n by omega), h n (by omega), ga_zero]
theorem gs_first (f : Nat → G) : ∀ n : Nat, gs (n + 1) f = ga (f 0) (gs n fun k => f (k + 1))
  | 0 => by rw [gs, gs, gs, zero_ga, ga_zero]
  | n + 1 => by rw [gs, gs_first f n, gs]; ac_rfl
theorem gs_only {f : Nat → G} {j : Nat} : ∀ {n : Nat}, j < n → (∀ k, k < n → k ≠ j → f k = 0) → gs n f = f j
  | 0, h, _ => absurd h (by omega)
  | n + 1, h, hz => by
    by_cases e : j = n
    · rw [gs, gs_zero fun k hk => hz k (by omega) (by omega), zero_ga, e]
    · rw [gs, gs_only (show j < n by omega) fun k hk => hz k (by omega), hz n (by omega) (by omega), ga_zero]
/-! lists as functions -/
def co (p : List G) (n : Nat) : G := p.getD n 0
theorem co_out {p : List G} {n : Nat} (h : p.length ≤ n) : co p n = 0 := by simp [co, List.getD_eq_getElem?_getD, List.getElem?_eq_none h]
theorem co_in {p : List G} {n : Nat} (h : n < p.length) : co p n = p[n] := by simp [co, List.getD_eq_getElem?_getD, List.getElem?_eq_getElem h]
def tab (n : Nat) (f : Nat → G) : List G := (List.range n).map f
theorem tab_len (n : Nat) (f : Nat → G) : (tab n f).length = n := by simp [tab]
theorem tab_co (n : Nat) (f : Nat → G) (k : Nat) : co (tab n f) k = if k < n then f k else 0 := by
  by_cases h : k < n
  · rw [if_pos h, co_in (by rw [tab_len]; exact h)]
    simp [tab]
  · rw [if_neg h, co_out (by rw [tab_len]; omega)]
theorem list_ext {p q : List G} (hl : p.length = q.length) (h : ∀ k, k < p.length → co p k = co q k) : p = q := by
  refine List.ext_getElem hl fun k h1 h2 => ?_
  have z := h k h1
  rw [co_in h1, co_in h2] at z
  exact z
theorem tab_self (p : List G) : tab p.length (co p) = p := by
  refine list_ext (tab_len _ _) fun k hk => ?_
  rw [tab_len] at hk
  rw [tab_co, if_pos hk]
theorem tab_congr {n : Nat} {f g : Nat → G} (h : ∀ k, k < n → f k = g k) : tab n f = tab n g := by
  refine list_ext (by rw [tab_len, tab_len]) fun k hk => ?_
  rw [tab_len] at hk
  rw [tab_co, tab_co, if_pos hk, if_pos hk, h k hk]
theorem tab_set (n : Nat) (f : Nat → G) (k : Nat) (v : G) : (tab n f).set k v = tab n fun j => if j = k then v else f j := by
  refine list_ext (by rw [List.length_set, tab_len, tab_len]) fun j hj => ?_
  rw [List.length_set, tab_len] at hj
  rw [tab_co, if_pos hj, co_in (by rw [List.length_set, tab_len]; exact hj), List.getElem_set]
  by_cases e : k = j
  · rw [if_pos e, if_pos e.symm]
  · rw [if_neg e, if_neg (fun z => e z.symm)]
    simp [tab]
theorem set_co (p : List G) (k : Nat) (v : G) (hk : k < p.length) (j : Nat) : co (p.set k v) j = if j = k then v else co p j := by
  by_cases hj : j < p.length
  · rw [co_in (by rw [List.length_set]; exact hj), List.getElem_set]
    by_cases e : k = j
    · rw [if_pos e, if_pos e.symm]
    · rw [if_neg e, if_neg (fun z => e z.symm), co_in hj]
  · rw [co_out (by rw [List.length_set]; omega), if_neg (by omega), co_out (by omega)]
/-! reduced lists -/
def redLen (p : List G) : Nat → Nat
  | 0 => 0
  | n + 1 => if co p n = 0 then redLen p n else n + 1
def red (p : List G) : List G := p.take (redLen p p.length)
theorem redLen_le (p : List G) : ∀ n, redLen p n ≤ n
  | 0 => Nat.le_refl _
  | n + 1 => by
    rw [redLen]
    split
    · have := redLen_le p n
      omega
    · omega
theorem redLen_zero (p : List G) : ∀ n k, redLen p n ≤ k → k < n → co p k = 0
  | 0, k, _, h => absurd h (by omega)
  | n + 1, k, h1, h2 => by
    rw [redLen] at h1
    split at h1
    · rename_i hz
      by_cases e : k = n
      · rw [e, hz]
      · exact redLen_zero p n k h1 (by omega)
    · omega
theorem redLen_last (p : List G) : ∀ n, redLen p n ≠ 0 → co p (redLen p n - 1) ≠ 0
  | 0, h => absurd rfl h
  | n + 1, h => by
    rw [redLen] at h ⊢
    split
    · rename_i hz
      rw [if_pos hz] at h
      exact redLen_last p n h
    · rename_i hz
      exact hz
theorem red_len (p : List G) : (red p).length = redLen p p.length := by
  have := redLen_le p p.length
  rw [red, List.length_take]
  omega
theorem red_co (p : List G) (n : Nat) : co (red p) n = co p n := by
  by_cases h : n < redLen p p.length
  · have h2 := redLen_le p p.length
    rw [co_in (by rw [red_len]; exact h), co_in (by omega)]
    simp [red]
  · rw [co_out (by rw [red_len]; omega)]
    by_cases h3 : n < p.length
    · exact (redLen_zero p _ n (by omega) h3).symm
    · exact (co_out (by omega)).symm
/-- the length is told by the coefficients -/
theorem redLen_co {p q : List G} (h : ∀ n, co p n = co q n) (k : Nat) : redLen p k = redLen q k := by
  induction k with
  | zero => rfl
  | succ n ih => rw [redLen, redLen, h n, ih]
theorem redLen_far (p : List G) {n : Nat} (h : p.length ≤ n) : redLen p n = redLen p p.length := by
  induction n with
  | zero =>
    have e : p.length = 0 := by omega
    rw [e]
  | succ n ih =>
    by_cases e : p.length = n + 1
    · rw [e]
    · rw [redLen, if_pos (co_out (by omega)), ih (by omega)]
theorem red_ext {p q : List G} (h : ∀ n, co p n = co q n) : red p = red q := by
  have hl : (red p).length = (red q).length := by
    rw [red_len, red_len, ← redLen_far p (Nat.le_max_left p.length q.length), ← redLen_far q (Nat.le_max_right p.length q.length), redLen_co h]
  exact list_ext hl fun k _ => by rw [red_co, red_co, h]
theorem red_red (p : List G) : red (red p) = red p := red_ext (red_co p)
theorem red_short {p : List G} {n : Nat} (h : ∀ k, n ≤ k → co p k = 0) : (red p).length ≤ n := by
  rw [red_len]
  by_cases e : redLen p p.length = 0
  · omega
  · have z := redLen_last p _ e
    by_cases hn : redLen p p.length ≤ n
    · exact hn
    · exact absurd (h (redLen p p.length - 1) (by omega)) z
/-! products -/
def cv (p d : Nat → G) (n : Nat) : G := gs (n + 1) fun k => gm (p k) (d (n - k))
/-- the product behind i items of the first -/
def pc (p d : Nat → G) (i n : Nat) : G := gs i fun k => if k ≤ n then gm (p k) (d (n - k)) else 0
theorem pc_all {p d : Nat → G} {m : Nat} (h : ∀ k, m ≤ k → p k = 0) (n : Nat) : pc p d m n = cv p d n := by
  unfold pc cv
  have e : gs (n + 1) (fun k => gm (p k) (d (n - k))) = gs (n + 1) fun k => if k ≤ n then gm (p k) (d (n - k)) else 0 := gs_congr fun k hk => by rw [if_pos (by omega)]
  have h1 : ∀ k, m ≤ k → (if k ≤ n then gm (p k) (d (n - k)) else 0) = 0 := fun k hk => by
    rw [h k hk, zero_gm]
    split <;> rfl
  have h2 : ∀ k, n + 1 ≤ k → (if k ≤ n then gm (p k) (d (n - k)) else 0) = 0 := fun k hk => by rw [if_neg (by omega)]
  rw [e, ← gs_more h1 (Nat.le_max_left m (n + 1)), ← gs_more h2 (Nat.le_max_right m (n + 1))]
/-- .. and j items of the second in the turn i -/
def pcj (p d : Nat → G) (i j n : Nat) : G := ga (pc p d i n) (if i ≤ n ∧ n < i + j then gm (p i) (d (n - i)) else 0)
theorem pcj_zero (p d : Nat → G) (i n : Nat) : pcj p d i 0 n = pc p d i n := by rw [pcj, if_neg (by omega), ga_zero]
theorem pcj_last {p d : Nat → G} {i m : Nat} (h : ∀ k, m ≤ k → d k = 0) (n : Nat) : pcj p d i m n = pc p d (i + 1) n := by
  rw [pcj, pc, pc, gs]
  congr 1
  by_cases h1 : i ≤ n
  · rw [if_pos h1]
    by_cases h2 : n < i + m
    · rw [if_pos ⟨h1, h2⟩]
    · rw [if_neg (by omega), h _ (by omega), gm_zero]
  · rw [if_neg h1, if_neg (by omega)]
theorem pcj_succ (p d : Nat → G) (i j n : Nat) : pcj p d i (j + 1) n = if n = i + j then ga (pcj p d i j n) (gm (p i) (d j)) else pcj p d i j n := by
  rw [pcj, pcj]
  by_cases e : n = i + j
  · rw [if_pos e, if_pos ⟨by omega, by omega⟩, if_neg (by omega), ga_zero, show n - i = j by omega]
  · rw [if_neg e]
    congr 1
    by_cases h : i ≤ n ∧ n < i + j
    · rw [if_pos h, if_pos ⟨h.1, by omega⟩]
    · rw [if_neg h, if_neg (by omega)]
theorem cv_add (p q d : Nat → G) (n : Nat) : cv (fun k => ga (p k) (q k)) d n = ga (cv p d n) (cv q d n) := by
  unfold cv
  rw [← gs_add]
  exact gs_congr fun k _ => add_gm _ _ _
theorem cv_congr {p p' d d' : Nat → G} (h1 : ∀ k, p k = p' k) (h2 : ∀ k, d k = d' k) (n : Nat) : cv p d n = cv p' d' n := by
  unfold cv
  exact gs_congr fun k _ => by rw [h1, h2]
theorem cv_only (f : G) (s : Nat) (d : Nat → G) (n : Nat) : cv (fun k => if k = s then f else 0) d n = if s ≤ n then gm f (d (n - s)) else 0 := by
  unfold cv
  by_cases h : s ≤ n
  · have e := gs_only (f := fun k => gm (if k = s then f else 0) (d (n - k))) (j := s) (n := n + 1) (by omega) fun k _ hk => by
      show gm (if k = s then f else 0) (d (n - k)) = 0
      rw [if_neg hk, zero_gm]
    rw [if_pos h, e]
    show gm (if s = s then f else 0) (d (n - s)) = _
    rw [if_pos rfl]
  · rw [if_neg h]
    refine gs_zero fun k hk => ?_
    show gm (if k = s then f else 0) (d (n - k)) = 0
    rw [if_neg (by omega), zero_gm]
/-! values -/
def hor (x : G) : List G → G
  | [] => 0
  | a :: p => ga (gm (hor x p) x) a
theorem hor_zero (x : G) : ∀ {p : List G}, (∀ n, co p n = 0) → hor x p = 0
  | [], _ => rfl
  | a :: p, h => by
    have ha : a = 0 := h 0
    rw [hor, hor_zero x (p := p) fun n => h (n + 1), ha, zero_gm]
    rfl
theorem hor_ext (x : G) : ∀ {p q : List G}, (∀ n, co p n = co q n) → hor x p = hor x q
  | [], q, h => (hor_zero x fun n => (h n).symm).symm
  | a :: p, [], h => hor_zero x h
  | a :: p, b :: q, h => by
    have e : a = b := h 0
    rw [hor, hor, hor_ext x (p := p) (q := q) fun n => h (n + 1), e]
def addL (p q : List G) : List G := tab (max p.length q.length) fun k => ga (co p k) (co q k)
theorem addL_co (p q : List G) (n : Nat) : co (addL p q) n = ga (co p n) (co q n) := by
  rw [addL, tab_co]
  split
  · rfl
  · rw [co_out (p := p) (by omega), co_out (p := q) (by omega)]
    rfl
theorem hor_add (x : G) : ∀ {p q r : List G}, (∀ n, co r n = ga (co p n) (co q n)) → hor x r = ga (hor x p) (hor x q)
  | [], q, r, h => by
    rw [hor, zero_ga]
    exact hor_ext x fun n => by rw [h n, co_out (p := []) (Nat.zero_le _), zero_ga]
  | a :: p, [], r, h => by
    rw [hor_ext x (p := r) (q := a :: p) fun n => by rw [h n, co_out (p := []) (Nat.zero_le _), ga_zero]]
    exact (ga_zero _).symm
  | a :: p, b :: q, [], h => by
    have h0 : ga a b = 0 := (h 0).symm
    have hr : ∀ n, co [] n = ga (co p n) (co q n) := fun n => by
      have z := h (n + 1)
      rw [co_out (p := []) (Nat.zero_le _)] at z ⊢
      exact z
    have ih := hor_add x hr
    rw [hor, hor, hor]
    rw [hor] at ih
    have e2 : ga (ga (gm (hor x p) x) a) (ga (gm (hor x q) x) b) = ga (ga (gm (hor x p) x) (gm (hor x q) x)) (ga a b) := by ac_rfl
    rw [e2, h0, ← add_gm, ← ih, zero_gm]
    rfl
  | a :: p, b :: q, c :: r, h => by
    have h0 : c = ga a b := h 0
    rw [hor, hor, hor, hor_add x (p := p) (q := q) (r := r) fun n => h (n + 1), h0, add_gm]
    ac_rfl
theorem hor_scale (x c : G) : ∀ p : List G, hor x (p.map (gm c)) = gm c (hor x p)
  | [] => (gm_zero c).symm
  | a :: p => by rw [List.map_cons, hor, hor, hor_scale x c p, gm_add, gm_assoc]
theorem scale_co (c : G) (p : List G) (n : Nat) : co (p.map (gm c)) n = gm c (co p n) := by
  by_cases h : n < p.length
  · rw [co_in (by rw [List.length_map]; exact h), co_in h, List.getElem_map]
  · rw [co_out (by rw [List.length_map]; omega), co_out (by omega), gm_zero]
theorem hor_mul (x : G) (d : List G) : ∀ {p r : List G}, (∀ n, co r n = cv (co p) (co d) n) → hor x r = gm (hor x p) (hor x d)
  | [], r, h => by
    rw [hor, zero_gm]
    exact hor_zero x fun n => by
      rw [h n]
      exact gs_zero fun k _ => by rw [co_out (p := []) (Nat.zero_le _), zero_gm]
  | a :: p, r, h => by
    have ih := hor_mul x d (p := p) (r := tab (p.length + d.length) (cv (co p) (co d))) fun n => by
      rw [tab_co]
      split
      · rfl
      · refine (gs_zero fun k hk => ?_).symm
        by_cases h1 : k < p.length
        · rw [co_out (p := d) (by omega), gm_zero]
        · rw [co_out (p := p) (by omega), zero_gm]
    have e := hor_add x (p := 0 :: tab (p.length + d.length) (cv (co p) (co d))) (q := d.map (gm a)) (r := r) fun n => by
      rw [h n, scale_co]
      cases n with
      | zero => rw [cv, gs, gs, zero_ga]; exact (zero_ga _).symm
      | succ n =>
        rw [cv, gs_first]
        show ga (gm a (co d (n + 1))) (gs (n + 1) fun k => gm (co p k) (co d (n + 1 - (k + 1)))) = ga (co (tab (p.length + d.length) (cv (co p) (co d))) n) (gm a (co d (n + 1)))
        have e2 : (gs (n + 1) fun k => gm (co p k) (co d (n + 1 - (k + 1)))) = cv (co p) (co d) n := gs_congr fun k _ => by rw [Nat.add_sub_add_right]
        rw [e2, tab_co]
        by_cases hn : n < p.length + d.length
        · rw [if_pos hn, ga_comm]
        · rw [if_neg hn, zero_ga]
          have e3 : cv (co p) (co d) n = 0 := gs_zero fun k hk => by
            by_cases h1 : k < p.length
            · rw [co_out (p := d) (by omega), gm_zero]
            · rw [co_out (p := p) (by omega), zero_gm]
          rw [e3, ga_zero]
    rw [e, hor, hor, ga_zero, ih, hor_scale, add_gm, gm_assoc, gm_comm (hor x d) x, ← gm_assoc]
theorem hor_snoc (x a : G) : ∀ p : List G, hor x (p ++ [a]) = ga (hor x p) (hor x (List.replicate p.length 0 ++ [a]))
  | [] => by rw [hor, zero_ga]; rfl
  | b :: p => by
    rw [List.cons_append, hor, hor_snoc x a p, List.length_cons, List.replicate_succ, List.cons_append, hor, hor, ga_zero, add_gm]
    ac_rfl

def spIsSym : Sp := fun vs H Q _ => ∃ n : Int, vs = [.int n] ∧ Q (.bl (decide (0 ≤ n ∧ n < 16))) H
theorem ok_is_symbol (T : Txt K mg C_ArchiveError C_InvalidSymbol) : Ok P w K mg base CX0 1 "is_symbol" ["integer"] spIsSym := by
  refine ok_of T.d_is_symbol fun f fd F => F.ok sc_is_symbol (fun vs H Q E h => ?_) (fun cdv A outer s H vs Q E hr h => ?_)
  · obtain ⟨n, rfl, _⟩ := h
    rfl
  · obtain ⟨n, rfl, q⟩ := h
    have nd := sc_is_symbol.nd
    refine ⟨_,       (pss_one (ps_ret (pe_chain op_le op_lt pe_int (pv 0) (pe_globC rfl T.c_SYMBOLS)))), ?_⟩
    refine ⟨_, rfl, _, _, rfl, rfl, _, rfl, itd (fun h0 => ?_) (fun h0 => ?_)⟩
    · refine ⟨_, _, rfl, rfl, ?_⟩
      have e : decide (0 ≤ n ∧ n < 16) = decide (n < 16) := by simp [h0]
      rw [e] at q
      exact q
    · have e : decide (0 ≤ n ∧ n < 16) = false := by simp [h0]
      rw [e] at q
      exact q
def spCheck (C : Addr) : Sp := fun vs H Q E => ∃ n : Int, vs = [.int n] ∧ (¬ sym n → E (.ref C) none H) ∧ (sym n → Q .non H)
theorem ok__check_symbol (T : Txt K mg C_ArchiveError C_InvalidSymbol) : Ok P w K mg base (CXN P w) 2 "_check_symbol" ["a"] (spCheck C_InvalidSymbol) := by
  have G_is_symbol := ok_is_symbol (P := P) (w := w) (base := base) T
  refine ok_of T.d__check_symbol fun f fd F => okN F sc__check_symbol (fun vs H Q E h => ?_) (fun cdv A outer s H vs Q E hr h => ?_)
  · obtain ⟨n, rfl, _⟩ := h
    rfl
  · obtain ⟨n, rfl, kE, kQ⟩ := h
    have nd := sc__check_symbol.nd
    refine ⟨_,       (pss_one (ps_if (pt_not (pt_val (pe_callO G_is_symbol (hr.mono (by decide)) pass0 (pa_cons (pv 0) pa_nil))))
        (pss_one (L2N.ps_raise rfl (L2N.takes_of rfl rfl rfl rfl) (L2N.pmk_own PySem.F.excBase_ValueError T.x_InvalidSymbol.x T.x_InvalidSymbol.g T.x_InvalidSymbol.k (raises_own T.x_InvalidSymbol.b T.x_InvalidSymbol.t) rfl))) pss_nil)), ?_⟩
    refine ⟨_, rfl, n, rfl, _, rfl, itb (fun h => ?_) (fun h => ?_)⟩
    · exact kE fun z => by
        have := z.1
        have := z.2
        simp at h
        omega
    · simp at h
      exact kQ ⟨h.1, h.2⟩

def sp2 (C : Addr) (op : Int → Int → Int) : Sp := fun vs H Q E => ∃ a b : Int, vs = [.int a, .int b] ∧ (¬ (sym a ∧ sym b) → E (.ref C) none H) ∧ (sym a → sym b → Q (.int (op a b)) H)
abbrev rowV : List (List V) := [[V.int 0, V.int 0, V.int 0, V.int 0, V.int 0, V.int 0, V.int 0, V.int 0, V.int 0, V.int 0, V.int 0, V.int 0, V.int 0, V.int 0, V.int 0, V.int 0], [V.int 0, V.int 1, V.int 2, V.int 3, V.int 4, V.int 5, V.int 6, V.int 7, V.int 8, V.int 9, V.int 10, V.int 11, V.int 12, V.int 13, V.int 14, V.int 15], [V.int 0, V.int 2, V.int 4, V.int 6, V.int 8, V.int 10, V.int 12, V.int 14, V.int 3, V.int 1, V.int 7, V.int 5, V.int 11, V.int 9, V.int 15, V.int 13], [V.int 0, V.int 3, V.int 6, V.int 5, V.int 12, V.int 15, V.int 10, V.int 9, V.int 11, V.int 8, V.int 13, V.int 14, V.int 7, V.int 4, V.int 1, V.int 2], [V.int 0, V.int 4, V.int 8, V.int 12, V.int 3, V.int 7, V.int 11, V.int 15, V.int 6, V.int 2, V.int 14, V.int 10, V.int 5, V.int 1, V.int 13, V.int 9], [V.int 0, V.int 5, V.int 10, V.int 15, V.int 7, V.int 2, V.int 13, V.int 8, V.int 14, V.int 11, V.int 4, V.int 1, V.int 9, V.int 12, V.int 3, V.int 6], [V.int 0, V.int 6, V.int 12, V.int 10, V.int 11, V.int 13, V.int 7, V.int 1, V.int 5, V.int 3, V.int 9, V.int 15, V.int 14, V.int 8, V.int 2, V.int 4], [V.int 0, V.int 7, V.int 14, V.int 9, V.int 15, V.int 8, V.int 1, V.int 6, V.int 13, V.int 10, V.int 3, V.int 4, V.int 2, V.int 5, V.int 12, V.int 11], [V.int 0, V.int 8, V.int 3, V.int 11, V.int 6, V.int 14, V.int 5, V.int 13, V.int 12, V.int 4, V.int 15, V.int 7, V.int 10, V.int 2, V.int 9, V.int 1], [V.int 0, V.int 9, V.int 1, V.int 8, V.int 2, V.int 11, V.int 3, V.int 10, V.int 4, V.int 13, V.int 5, V.int 12, V.int 6, V.int 15, V.int 7, V.int 14], [V.int 0, V.int 10, V.int 7, V.int 13, V.int 14, V.int 4, V.int 9, V.int 3, V.int 15, V.int 5, V.int 8, V.int 2, V.int 1, V.int 11, V.int 6, V.int 12], [V.int 0, V.int 11, V.int 5, V.int 14, V.int 10, V.int 1, V.int 15, V.int 4, V.int 7, V.int 12, V.int 2, V.int 9, V.int 13, V.int 6, V.int 8, V.int 3], [V.int 0, V.int 12, V.int 11, V.int 7, V.int 5, V.int 9, V.int 14, V.int 2, V.int 10, V.int 6, V.int 1, V.int 13, V.int 15, V.int 3, V.int 4, V.int 8], [V.int 0, V.int 13, V.int 9, V.int 4, V.int 1, V.int 12, V.int 8, V.int 5, V.int 2, V.int 15, V.int 11, V.int 6, V.int 3, V.int 14, V.int 10, V.int 7], [V.int 0, V.int 14, V.int 15, V.int 1, V.int 13, V.int 3, V.int 2, V.int 12, V.int 9, V.int 7, V.int 6, V.int 8, V.int 4, V.int 10, V.int 11, V.int 5], [V.int 0, V.int 15, V.int 13, V.int 2, V.int 9, V.int 6, V.int 4, V.int 11, V.int 1, V.int 14, V.int 12, V.int 3, V.int 8, V.int 7, V.int 5, V.int 10]]
def rowOf (a : Int) : List V := (List.range 16).map fun b => V.int (mulI a (b : Nat))
theorem rowV_at {a : Int} (ha : sym a) : rowV[a.toNat]? = some (rowOf a) := sym_all (p := fun a => rowV[a.toNat]? = some (rowOf a)) (by decide +kernel) ha
theorem rowOf_at {a b : Int} (ha : sym a) (hb : sym b) : atI (rowOf a) b = some (.int (mulI a b)) :=
  sym_all (p := fun b => atI (rowOf a) b = some (.int (mulI a b))) (fun j => by
    refine atI_nat ?_
    rw [rowOf, List.getElem?_map, List.getElem?_range j.isLt]
    rfl) hb
theorem row_at {a b : Int} (ha : sym a) (hb : sym b) : ∃ row, rowV[a.toNat]? = some row ∧ atI row b = some (.int (mulI a b)) := ⟨_, rowV_at ha, rowOf_at ha hb⟩
theorem ok_multiply (T : Txt K mg C_ArchiveError C_InvalidSymbol) : Ok P w K mg base (CXN P w) 3 "multiply" ["a", "b"] (sp2 C_InvalidSymbol mulI) := by
  have G__check_symbol := ok__check_symbol (P := P) (w := w) (base := base) T
  refine ok_of T.d_multiply fun f fd F => okN F sc_multiply (fun vs H Q E h => ?_) (fun cdv A outer s H vs Q E hr h => ?_)
  · obtain ⟨a, b, rfl, _⟩ := h
    rfl
  · obtain ⟨a, b, rfl, kE, kQ⟩ := h
    have nd := sc_multiply.nd
    refine ⟨_,       (pss_cons (ps_expr (pe_callO G__check_symbol (hr.mono (by decide)) (passX (L2N.takes_of rfl rfl rfl rfl) (fun _ _ _ z => z)) (pa_cons (pv 0) pa_nil)))
      (pss_cons (ps_expr (pe_callO G__check_symbol (hr.mono (by decide)) (passX (L2N.takes_of rfl rfl rfl rfl) (fun _ _ _ z => z)) (pa_cons (pv 1) pa_nil)))
      (pss_one (ps_ret (pe_ix ix_tup (pe_ix ix_tup (CT2.pe_globTT rfl T.c_PRODUCTS) (pv 0) (fun _ _ => rfl)) (pv 1) (fun _ _ => rfl)))))), ?_⟩
    refine ⟨_, rfl, a, rfl, fun hn => kE fun z => hn z.1, fun ha => ?_⟩
    refine ⟨_, rfl, b, rfl, fun hn => kE fun z => hn z.2, fun hb => ?_⟩
    intro p rs hp hr
    obtain ⟨row, h1, h2⟩ := row_at ha hb
    obtain ⟨r, h3, h4, _⟩ := hr a.toNat row h1
    refine ⟨_, rfl, p, _, a, .ref r, rfl, rfl, hp _, at_nat (j := a.toNat) (by have := ha.1; omega) h3, _, rfl, r, _, b, _, rfl, rfl, h4 _, h2, kQ ha hb⟩
theorem inv_nat {a : Int} (ha : sym a) : ((invI a).toNat : Int) = invI a := sym_all (p := fun a => ((invI a).toNat : Int) = invI a) (by decide +kernel) ha
theorem inv_at {a : Int} (ha : sym a) (h0 : a ≠ 0) : (rowOf a)[(invI a).toNat]? = some (V.int 1) ∧ ∀ (m : Nat) (z : V), m < (invI a).toNat → (rowOf a)[m]? = some z → eqV z (V.int 1) = false := by
  refine sym_all (p := fun a => a ≠ 0 → (rowOf a)[(invI a).toNat]? = some (V.int 1) ∧ ∀ (m : Nat) (z : V), m < (invI a).toNat → (rowOf a)[m]? = some z → eqV z (V.int 1) = false) (fun i => ?_) ha h0
  intro hi
  have h1 : ∀ i : Fin 16, ((i.val : Nat) : Int) ≠ 0 → (rowOf (i.val : Nat))[(invI (i.val : Nat)).toNat]? = some (V.int 1) := by decide +kernel
  have h2 : ∀ i : Fin 16, ((i.val : Nat) : Int) ≠ 0 → ∀ m : Fin 16, m.val < (invI (i.val : Nat)).toNat → mulI (i.val : Nat) (m.val : Nat) ≠ 1 := by decide +kernel
  refine ⟨h1 i hi, fun m z hm hz => ?_⟩
  have hm16 : m < 16 := by
    have := (List.getElem?_eq_some_iff.mp hz).1
    simp [rowOf] at this
    exact this
  have h3 := h2 i hi ⟨m, hm16⟩ hm
  rw [rowOf, List.getElem?_map, List.getElem?_range hm16] at hz
  cases hz
  show (mulI (i.val : Nat) (m : Nat) == 1) = false
  exact beq_eq_false_iff_ne.mpr h3
def spInv (C : Addr) : Sp := fun vs H Q E => ∃ a : Int, vs = [.int a] ∧ (¬ (sym a ∧ a ≠ 0) → E (.ref C) none H) ∧ (sym a → a ≠ 0 → Q (.int (invI a)) H)
theorem ok_inverse (T : Txt K mg C_ArchiveError C_InvalidSymbol) : Ok P w K mg base (CXN P w) 3 "inverse" ["a"] (spInv C_InvalidSymbol) := by
  have G__check_symbol := ok__check_symbol (P := P) (w := w) (base := base) T
  refine ok_of T.d_inverse fun f fd F => okN F sc_inverse (fun vs H Q E h => ?_) (fun cdv A outer s H vs Q E hr h => ?_)
  · obtain ⟨a, rfl, _⟩ := h
    rfl
  · obtain ⟨a, rfl, kE, kQ⟩ := h
    have nd := sc_inverse.nd
    refine ⟨_,       (pss_cons (ps_expr (pe_callO G__check_symbol (hr.mono (by decide)) (passX (L2N.takes_of rfl rfl rfl rfl) (fun _ _ _ z => z)) (pa_cons (pv 0) pa_nil)))
      (pss_cons (ps_if (pt_cmpR op_eq (pv 0) pe_int (nomark _))
        (pss_one (L2N.ps_raise rfl (L2N.takes_of rfl rfl rfl rfl) (L2N.pmk_own PySem.F.excBase_ValueError T.x_InvalidSymbol.x T.x_InvalidSymbol.g T.x_InvalidSymbol.k (raises_own T.x_InvalidSymbol.b T.x_InvalidSymbol.t) rfl))) pss_nil)
      (pss_one (ps_ret (pe_bm PySem.F.plainAttrs_tuple PySem.F.slot_tuple_index PySem.F.type_tuple_index CT2.mt_indexT (pe_ix ix_tup (CT2.pe_globTT rfl T.c_PRODUCTS) (pv 0) (fun _ _ => rfl)) (pa_cons pe_int pa_nil)))))), ?_⟩
    refine ⟨_, rfl, a, rfl, fun hn => kE fun z => hn z.1, fun ha => ?_⟩
    have e0 : ∀ z : Int, decide (V.int z = V.int 0) = decide (z = 0) := fun z => by simp
    refine ⟨_, rfl, rfl, _, rfl, ?_⟩
    rw [e0]
    refine itd (fun h0 => kE fun z => z.2 h0) (fun h0 => ?_)
    intro p rs hp hr
    obtain ⟨r, h3, h4, h5⟩ := hr a.toNat (rowOf a) (rowV_at ha)
    refine ⟨_, rfl, p, _, a, .ref r, rfl, rfl, hp _, at_nat (j := a.toNat) (by have := ha.1; omega) h3, CT2.tyT h5, r, rowOf a, V.int 1, (invI a).toNat, V.int 1, rfl, rfl, h4 _, rfl, ?_, ?_, rfl, ?_, ?_⟩
    · rw [rowOf, List.all_map]
      exact List.all_eq_true.mpr fun _ _ => rfl
    · exact (inv_at ha h0).1
    · exact (inv_at ha h0).2
    · have e : ((invI a).toNat : Int) = invI a := (inv_nat ha)
      rw [e]
      exact kQ ha h0

theorem vg_dec (a : G) : decide (vg a = V.int 0) = decide (a = 0) := by
  have e : (vg a = V.int 0) = (a = 0) := by
    unfold vg
    rw [V.int.injEq]
    exact propext gi_zero
  simp only [e]
theorem vg_get {gl : List G} {i : Nat} (hi : i < gl.length) : (gl.map vg)[i]? = some (vg (co gl i)) := by
  rw [List.getElem?_map, List.getElem?_eq_getElem hi, co_in hi]
  rfl
theorem get_vg {gl : List G} {i : Nat} {y : V} (h : (gl.map vg)[i]? = some y) : i < gl.length ∧ y = vg (co gl i) := by
  have hi : i < gl.length := by
    have z := (List.getElem?_eq_some_iff.mp h).1
    rw [List.length_map] at z
    exact z
  rw [vg_get hi] at h
  exact ⟨hi, (Option.some.inj h).symm⟩
/-- a new list of symbols -/
def RetG (gl : List G) (H : Hp) (Q : VK) : Prop := ∀ p H', H p = none → Same H H' → H' p = some (.lst (gl.map vg)) → Q (.ref p) H'
/-- a value, the heap may have grown -/
def RetV (v : V) (H : Hp) (Q : VK) : Prop := ∀ H', Same H H' → Q v H'
theorem flat_zero (n : Nat) : (List.replicate n [V.int 0]).flatten = (tab n fun _ => 0).map vg := by
  induction n with
  | zero => rfl
  | succ n ih =>
    have e : tab (n + 1) (fun _ => 0) = tab n (fun _ => (0 : G)) ++ [0] := by simp [tab, List.range_succ]
    rw [List.replicate_succ', List.flatten_append, ih, e, List.map_append]
    rfl

theorem hor_step (x : G) (p : List G) {k : Nat} (hk : k < p.length) : hor x (p.drop k) = ga (gm (hor x (p.drop (k + 1))) x) (co p k) := by
  rw [List.drop_eq_getElem_cons hk, hor, co_in hk]

theorem map_co (c : G) (p : List G) (n : Nat) : co (p.map (gm c)) n = gm c (co p n) := by
  by_cases h : n < p.length
  · rw [co_in (by rw [List.length_map]; exact h), co_in h, List.getElem_map]
  · rw [co_out (by rw [List.length_map]; omega), co_out (by omega), gm_zero]
theorem rowG_at (c x : G) : atI (rowOf (gi c)) (gi x) = some (vg (gm c x)) := by
  rw [rowOf_at (gi_sym c) (gi_sym x), gi_mul]
  rfl

def spReduced (K : PySem.W.Frag) : Sp := fun vs H Q _ => ∃ (a : Addr) (gl : List G), vs = [.ref a] ∧ SqL K H a (gl.map vg) ∧ gl.length ≤ 60000 ∧ RetG (red gl) H Q
theorem ok_reduced (T : Txt K mg C_ArchiveError C_InvalidSymbol) : Ok P w K mg base CX0 1 "reduced" ["poly"] (spReduced K) := by
  refine ok_of T.d_reduced fun f fd F => F.ok sc_reduced (fun vs H Q E h => ?_) (fun cdv A outer s H vs Q E hr h => ?_)
  · obtain ⟨a, gl, rfl, _⟩ := h
    rfl
  · obtain ⟨a, gl, rfl, hS, hz, kQ⟩ := h
    have nd := sc_reduced.nd
    refine ⟨_,       (pss_cons (ps_set (i := 1) nd rfl (Or.inl rfl) (pe_callB call_len_seq (by rfl) T.n_len PySem.boot_len (pa_cons (pv 0) pa_nil)))
      (pss_cons (ps_while PassesOwn.never (PW.pt (pw_and (pt_cmpR op_gt (pv 1) pe_int (nomark _)) (pw_and1 (pt_cmpR op_eq (pe_ix ix_list (pv 0) (pe_op op_sub (pv 1) pe_int) (fun _ _ => rfl)) pe_int (nomark _)))))
        (pss_one (ps_aug (i := 1) nd rfl (Or.inl rfl) pe_int ip_sub)))
      (pss_one (ps_ret (pe_slice sl_list (pv 0) po_none (po_some (pv 1))))))), ?_⟩
    refine ⟨_, rfl, a, _, rfl, .inl hS, ?_⟩
    refine ⟨fun m σ H' => ∃ n : Nat, m = n ∧ n ≤ gl.length ∧ redLen gl n = redLen gl gl.length ∧ H = H' ∧ σ = [some (.ref a), some (.int (n : Int))], ⟨gl.length, gl.length, rfl, Nat.le_refl _, rfl, rfl, by rw [List.length_map]; rfl⟩, ?_⟩
    rintro m σ H' ⟨n, rfl, hn, hred, rfl, rfl⟩
    have fin : redLen gl m = m → Q (.ref (0 : Nat)) H → True := fun _ _ => trivial
    refine ⟨_, rfl, _, _, rfl, rfl, _, rfl, itd (fun h => ?_) (fun h => iteF ?_)⟩
    · obtain ⟨j, rfl⟩ : ∃ j, m = j + 1 := ⟨m - 1, by omega⟩
      refine ⟨_, rfl, _, rfl, _, _, rfl, rfl, a, _, _, vg (co gl j), rfl, rfl, hS, at_nat (j := j) (by omega) (vg_get (by omega)), rfl, _, rfl, ?_⟩
      rw [vg_dec]
      refine itd (fun h0 => ?_) (fun h0 => ?_)
      · refine ⟨_, fun σ' H' h => ⟨j, Nat.lt_succ_self j, h⟩, _, rfl, _, _, rfl, rfl, j, rfl, by omega, ?_, rfl, ?_⟩
        · rw [← hred, redLen, if_pos h0]
        · show [_, some (V.int (((j + 1 : Nat) : Int) - 1))] = _
          rw [show ((j + 1 : Nat) : Int) - 1 = (j : Int) by omega]
      · refine ⟨_, rfl, _, rfl, _, rfl, a, _, rfl, hS, fun p hp => kQ p _ hp (same_upd hp) ?_⟩
        rw [upd_same, cut_to (by rw [List.length_map]; exact hn), ← List.map_take, red, ← hred, redLen, if_neg h0]
    · have e : m = 0 := by omega
      subst e
      refine ⟨_, rfl, _, rfl, _, rfl, a, _, rfl, hS, fun p hp => kQ p _ hp (same_upd hp) ?_⟩
      rw [upd_same, cut_to (by rw [List.length_map]; exact hn), ← List.map_take, red, ← hred]
      rfl
def sp2L (K : PySem.W.Frag) (op : List G → List G → List G) : Sp := fun vs H Q _ => ∃ (a b : Addr) (p d : List G), vs = [.ref a, .ref b] ∧ SqL K H a (p.map vg) ∧ SqL K H b (d.map vg) ∧ p.length ≤ 10000 ∧ d.length ≤ 10000 ∧ RetG (op p d) H Q
/-- a sum with the longer first -/
def sumT (l s : List G) (j : Nat) : List G := tab l.length fun k => if k < j then ga (co l k) (co s k) else co l k
theorem sumT_end {l s : List G} : ∀ n, s.length ≤ l.length → co (sumT l s s.length) n = ga (co l n) (co s n) := fun n h => by
  rw [sumT, tab_co]
  by_cases h1 : n < l.length
  · rw [if_pos h1]
    by_cases h2 : n < s.length
    · rw [if_pos h2]
    · rw [if_neg h2, co_out (p := s) (by omega), ga_zero]
  · rw [if_neg h1, co_out (p := l) (by omega), co_out (p := s) (by omega)]
    rfl
theorem ok_add_polynomials (T : Txt K mg C_ArchiveError C_InvalidSymbol) : Ok P w K mg base CX0 2 "add_polynomials" ["first", "second"] (sp2L K fun p d => red (addL p d)) := by
  have G_reduced := ok_reduced (P := P) (w := w) (base := base) T
  refine ok_of T.d_add_polynomials fun f fd F => F.ok sc_add_polynomials (fun vs H Q E h => ?_) (fun cdv A outer s H vs Q E hr h => ?_)
  · obtain ⟨a, b, p, d, rfl, _⟩ := h
    rfl
  · obtain ⟨a, b, p, d, rfl, hA, hB, hp, hd, kQ⟩ := h
    have nd := sc_add_polynomials.nd
    refine ⟨_,       (Evl.pss_cut (ps_asg (pe_ifExp (pt_cmpR op_ge (pe_callB call_len_seq (by rfl) T.n_len PySem.boot_len (pa_cons (pv 0) pa_nil)) (pe_callB call_len_seq (by rfl) T.n_len PySem.boot_len (pa_cons (pv 1) pa_nil)) (nomark _)) (pe_tup (pa_cons (pv 0) (pa_cons (pv 1) pa_nil))) (pe_tup (pa_cons (pv 1) (pa_cons (pv 0) pa_nil)))) (pg_tup rfl (pgs_cons (pg_name (i := 2) nd rfl (Or.inl rfl)) (pgs_cons (pg_name (i := 3) nd rfl (Or.inl rfl)) pgs_nil))))
      (pss_cons (ps_set (i := 4) nd rfl (Or.inl rfl) (pe_callTy call_list_of (by rfl) T.n_list (by decide +kernel) (pa_cons (pv 2) pa_nil)))
      (pss_cons (ps_for PassesOwn.never rfl (pi_enum (by rfl) T.n_enumerate (pa_cons (pv 3) pa_nil)) (pg_tup rfl (pgs_cons (pg_name (i := 5) nd rfl (Or.inl rfl)) (pgs_cons (pg_name (i := 6) nd rfl (Or.inl rfl)) pgs_nil)))
        (pss_one (ps_augS (pv 4) (pv 5) AU.get_nat (pv 6) AU.ip_xor set_list)))
      (pss_one (ps_ret (pe_callO G_reduced (hr.mono (by decide)) pass0 (pa_cons (pv 4) pa_nil))))))), ?_⟩
    refine ⟨fun σ' H' => Same H H' ∧ ∃ (u v : Addr) (l s : List G), s.length ≤ l.length ∧ l.length ≤ 10000 ∧ (∀ n, co (sumT l s s.length) n = co (addL p d) n) ∧ SqL K H' u (l.map vg) ∧ SqL K H' v (s.map vg) ∧ σ' = [some (.ref a), some (.ref b), some (.ref u), some (.ref v), none, none, none], ?_, ?_⟩
    · refine ⟨_, rfl, a, _, rfl, .inl hA, _, rfl, b, _, rfl, .inl hB, _, _, rfl, rfl, _, rfl, itd (fun h => ?_) (fun h => ?_)⟩
      · have hord : d.length ≤ p.length := by simp at h; omega
        refine ⟨_, rfl, _, rfl, (by show 2 ≤ sizeLine; decide), fun t ht => ⟨t, _, rfl, SqT.of upd_same, rfl, _, _, rfl, _, _, rfl, rfl, same_upd ht, a, b, p, d, hord, hp, fun n => by rw [sumT_end n hord, addL_co], (same_upd ht).seq hA, (same_upd ht).seq hB, rfl⟩⟩
      · have hord : p.length ≤ d.length := by simp at h; omega
        refine ⟨_, rfl, _, rfl, (by show 2 ≤ sizeLine; decide), fun t ht => ⟨t, _, rfl, SqT.of upd_same, rfl, _, _, rfl, _, _, rfl, rfl, same_upd ht, b, a, d, p, hord, hd, fun n => by rw [sumT_end n hord, addL_co, ga_comm], (same_upd ht).seq hB, (same_upd ht).seq hA, rfl⟩⟩
    rintro σ1 H1 ⟨e1, u, v, l, s, hord, hl, hco, hU, hV, rfl⟩
    refine ⟨_, rfl, u, _, rfl, .inl hU, fun t ht => ?_⟩
    refine ⟨_, rfl, v, _, rfl, (same_upd ht).seq hV, for_enum (K := K) (a := v) (xs := s.map vg) (fun j σ H' => Same H1 H' ∧ H' t = some (.lst ((sumT l s j).map vg)) ∧ ∃ x y, σ = [some (.ref a), some (.ref b), some (.ref u), some (.ref v), some (.ref t), x, y]) ⟨same_upd ht, ?_, none, none, rfl⟩ (fun j σ H' _ ⟨e, _⟩ => e.seq hV) ?_ ?_⟩
    · rw [upd_same]
      have e : sumT l s 0 = l := by
        rw [sumT, tab_congr (g := co l) fun k _ => by rw [if_neg (by omega)], tab_self]
      rw [e]
    · rintro j z T1 σ H' hj ⟨e, hL, x, y, rfl⟩ hT
      obtain ⟨hjs, rfl⟩ := get_vg hj
      have nT : t ≠ T1 := ne_of_none hL hT
      have hL2 : upd H' T1 (.tup [.int (j : Nat), vg (co s j)]) t = some (.lst ((sumT l s j).map vg)) := by rw [upd_ne nT, hL]
      have hlen : (sumT l s j).length = l.length := tab_len _ _
      have hget : co (sumT l s j) j = co l j := by rw [sumT, tab_co, if_pos (by omega), if_neg (by omega)]
      refine ⟨T1, _, rfl, SqT.of upd_same, rfl, _, _, rfl, _, _, rfl, rfl, ?_⟩
      refine ⟨_, rfl, _, rfl, t, _, j, vg (co l j), rfl, rfl, SqL.of hL2, by rw [vg_get (by omega), hget], _, rfl, gi (co l j), gi (co s j), rfl, rfl, t, _, _, j, rfl, rfl, hL2, ix_nat rfl (by rw [List.length_map]; omega), ?_⟩
      refine ⟨same_new (e.trans (same_upd hT)) ht, ?_, _, _, rfl⟩
      rw [upd_same]
      show some (HO.lst (((sumT l s j).map vg).set j (V.int (addI (gi (co l j)) (gi (co s j)))))) = _
      rw [gi_add]
      show some (HO.lst (((sumT l s j).map vg).set j (vg (ga (co l j) (co s j))))) = _
      rw [← List.map_set, sumT, tab_set]
      congr 2
      refine congrArg (List.map vg) (tab_congr fun k _ => ?_)
      by_cases ek : k = j
      · rw [if_pos ek, if_pos (by omega), ek]
      · rw [if_neg ek]
        by_cases hk : k < j
        · rw [if_pos hk, if_pos (by omega)]
        · rw [if_neg hk, if_neg (by omega)]
    · rintro σ H' ⟨e, hL, x, y, rfl⟩
      rw [List.length_map] at hL
      refine ⟨_, rfl, t, _, rfl, SqL.of hL, by rw [sumT, tab_len]; omega, fun r H2 hr e2 hR => ?_⟩
      rw [red_ext hco] at hR
      exact kQ r H2 (e1.free (e.free hr)) (e1.trans (e.trans e2)) hR

def spScaled (K : PySem.W.Frag) : Sp := fun vs H Q _ => ∃ (a : Addr) (p : List G) (c : G), vs = [.ref a, vg c] ∧ SqL K H a (p.map vg) ∧ p.length ≤ 60000 ∧ RetG (p.map (gm c)) H Q
theorem ok_scaled (T : Txt K mg C_ArchiveError C_InvalidSymbol) : Ok P w K mg base CX0 1 "scaled" ["row", "factor"] (spScaled K) := by
  refine ok_of T.d_scaled fun f fd F => F.ok sc_scaled (fun vs H Q E h => ?_) (fun cdv A outer s H vs Q E hr h => ?_)
  · obtain ⟨a, p, c, rfl, _⟩ := h
    rfl
  · obtain ⟨a, p, c, rfl, hA, hl, kQ⟩ := h
    have nd := sc_scaled.nd
    refine ⟨_,       (pss_cons (ps_set (i := 2) nd rfl (Or.inr rfl) (pe_ix ix_tup (CT2.pe_globTT rfl T.c_PRODUCTS) (pv 1) (fun _ _ => rfl)))
      (pss_one (ps_ret (pe_lc (own := [("symbol", 3)]) (g := gName 3) (tt := tYes) rfl nd (pi_list (pv 0)) (blkOk_by (N := N_scaled) (sc := defScope s_scaled) (by decide +kernel)) (fun _ _ _ _ _ => (pg_name (i := 3) nd rfl (Or.inl rfl))) (fun _ _ _ _ _ => pts_nil) (fun _ _ _ _ _ => (pe_ix (r := rIxT K) ix_tup (pv 2) (pv 3) (fun _ _ => rfl))))))), ?_⟩
    intro p0 rs hp hr0
    obtain ⟨r, h3, h4, _⟩ := hr0 (gi c).toNat (rowOf (gi c)) (rowV_at (gi_sym c))
    refine ⟨_, rfl, p0, _, gi c, .ref r, rfl, rfl, hp _, at_nat (j := (gi c).toNat) (by have := (gi_sym c).1; omega) h3, ?_⟩
    refine ⟨_, rfl, a, rfl, ⟨_, hA⟩, fun D hD => lc_list (K := K) (a := a) (xs := p.map vg) (fun i H' => Same H H' ∧ H' D = some (.lst (((p.take i).map (gm c)).map vg))) ⟨same_upd hD, upd_same⟩ (fun i H' _ ⟨e, _⟩ => e.seq hA) ?_ ?_⟩
    · rintro i x H' hx ⟨e, hDl⟩
      obtain ⟨hi, rfl⟩ := get_vg hx
      refine ⟨rfl, ?_⟩
      dsimp only [tYes]
      try rw [if_pos rfl]
      refine ⟨_, rfl, _, rfl, r, _, gi (co p i), _, rfl, rfl, h4 _, rowG_at c (co p i), _, hDl, small (by rw [List.length_map, List.length_map, List.length_take]; omega), same_new e hD, ?_⟩
      rw [upd_same, take_snoc hi, List.map_append, List.map_append, co_in hi]
      rfl
    · rintro H' ⟨e, hDl⟩
      rw [List.length_map, List.take_length] at hDl
      exact kQ D H' hD e hDl

theorem ok_multiply_polynomials (T : Txt K mg C_ArchiveError C_InvalidSymbol) : Ok P w K mg base CX0 2 "multiply_polynomials" ["first", "second"] (sp2L K fun p d => red (tab (p.length + d.length) (cv (co p) (co d)))) := by
  have G_scaled := ok_scaled (P := P) (w := w) (base := base) T
  have G_reduced := ok_reduced (P := P) (w := w) (base := base) T
  refine ok_of T.d_multiply_polynomials fun f fd F => F.ok sc_multiply_polynomials (fun vs H Q E h => ?_) (fun cdv A outer s H vs Q E hr h => ?_)
  · obtain ⟨a, b, p, d, rfl, _⟩ := h
    rfl
  · obtain ⟨a, b, p, d, rfl, hA, hB, hp, hd, kQ⟩ := h
    have nd := sc_multiply_polynomials.nd
    refine ⟨_,       (pss_cons (ps_set (i := 2) nd rfl (Or.inl rfl) (pe_op op_rep (pe_lst (pa_cons pe_int pa_nil)) (pe_op op_add (pe_callB call_len_seq (by rfl) T.n_len PySem.boot_len (pa_cons (pv 0) pa_nil)) (pe_callB call_len_seq (by rfl) T.n_len PySem.boot_len (pa_cons (pv 1) pa_nil)))))
      (pss_cons (ps_for PassesOwn.never rfl (pi_enum (by rfl) T.n_enumerate (pa_cons (pv 0) pa_nil)) (pg_tup rfl (pgs_cons (pg_name (i := 3) nd rfl (Or.inl rfl)) (pgs_cons (pg_name (i := 4) nd rfl (Or.inl rfl)) pgs_nil)))
        (pss_one (ps_for PassesOwn.never rfl (ES.pi_enumS (by rfl) T.n_enumerate (pa_cons (pe_callO G_scaled (hr.mono (by decide)) pass0 (pa_cons (pv 1) (pa_cons (pv 4) pa_nil))) (pa_cons (pv 3) pa_nil))) (pg_tup rfl (pgs_cons (pg_name (i := 5) nd rfl (Or.inl rfl)) (pgs_cons (pg_name (i := 6) nd rfl (Or.inl rfl)) pgs_nil)))
          (pss_one (ps_augS (pv 2) (pv 5) AU.get_nat (pv 6) AU.ip_xor set_list)))))
      (pss_one (ps_ret (pe_callO G_reduced (hr.mono (by decide)) pass0 (pa_cons (pv 2) pa_nil)))))), ?_⟩
    refine ⟨(by show 1 ≤ sizeLine; decide), fun l0 hl0 => ⟨_, rfl, a, _, rfl, .inl ((same_upd hl0).seq hA), _, rfl, b, _, rfl, .inl ((same_upd hl0).seq hB), _, _, rfl, rfl, l0, _, _, rfl, rfl, upd_same, by simp; omega, by simp; omega, ?_, fun t ht => ?_⟩⟩
    · have e : ((((p.map vg).length : Nat) : Int) + (((d.map vg).length : Nat) : Int)).toNat = p.length + d.length := by simp; omega
      rw [e]
      exact smallE (by simp; omega)
    have e : ((((p.map vg).length : Nat) : Int) + (((d.map vg).length : Nat) : Int)).toNat = p.length + d.length := by simp; omega
    rw [e, flat_zero]
    have eS : Same H (upd (upd H l0 (.lst [V.int 0])) t (.lst ((tab (p.length + d.length) fun _ => 0).map vg))) := (same_upd hl0).trans (same_upd ht)
    have ht0 : H t = none := (same_upd hl0).free ht
    refine ⟨_, rfl, a, _, rfl, eS.seq hA, for_enum (K := K) (a := a) (xs := p.map vg) (fun i σ H' => Same H H' ∧ H' t = some (.lst ((tab (p.length + d.length) (pc (co p) (co d) i)).map vg)) ∧ ∃ x y z v, σ = [some (.ref a), some (.ref b), some (.ref t), x, y, z, v]) ⟨eS, upd_same, none, none, none, none, rfl⟩ (fun i σ H' _ ⟨e, _⟩ => e.seq hA) ?_ ?_⟩
    · rintro i z0 T1 σ H1 hi ⟨e1, hL1, x, y, z, v, rfl⟩ hT1
      obtain ⟨hip, rfl⟩ := get_vg hi
      have nT1 : t ≠ T1 := ne_of_none hL1 hT1
      refine ⟨T1, _, rfl, SqT.of upd_same, rfl, _, _, rfl, _, _, rfl, rfl, ?_⟩
      have e2 := e1.trans (same_upd (o := .tup [.int (i : Nat), vg (co p i)]) hT1)
      refine ⟨_, rfl, _, rfl, b, d, co p i, rfl, e2.seq hB, by omega, fun sc HS hsc eS2 hSC => ?_⟩
      have e2' := e2.trans eS2
      have htT : upd H1 T1 (.tup [.int (i : Nat), vg (co p i)]) t = some (.lst ((tab (p.length + d.length) (pc (co p) (co d) i)).map vg)) := by rw [upd_ne nT1, hL1]
      have hst : sc ≠ t := fun z => by
        rw [z, htT] at hsc
        cases hsc
      refine ⟨_, rfl, sc, _, (i : Int), rfl, SqL.of hSC, by omega, by omega, ES.for_enumS (K := K) (a := sc) (k0 := (i : Int)) (xs := (d.map (gm (co p i))).map vg) (fun j σ H' => Same H H' ∧ H' t = some (.lst ((tab (p.length + d.length) (pcj (co p) (co d) i j)).map vg)) ∧ H' sc = some (.lst ((d.map (gm (co p i))).map vg)) ∧ ∃ x y, σ = [some (.ref a), some (.ref b), some (.ref t), some (.int (i : Nat)), some (vg (co p i)), x, y]) ⟨e2', ?_, hSC, _, _, rfl⟩ (fun j σ H' _ ⟨_, _, e, _⟩ => SqL.of e) ?_ ?_⟩
      · rw [eS2 _ _ htT]
        congr 2
        exact congrArg (List.map vg) (tab_congr fun k _ => (pcj_zero _ _ _ _).symm)
      · rintro j z1 T2 σ H2 hj ⟨e3, hL2, hS2, x, y, rfl⟩ hT2
        obtain ⟨hjd0, rfl⟩ := get_vg hj
        have hjd : j < d.length := by
          rw [List.length_map] at hjd0
          exact hjd0
        rw [map_co]
        have nT2 : t ≠ T2 := ne_of_none hL2 hT2
        have hL3 : upd H2 T2 (.tup [.int ((i : Int) + (j : Nat)), vg (gm (co p i) (co d j))]) t = some (.lst ((tab (p.length + d.length) (pcj (co p) (co d) i j)).map vg)) := by rw [upd_ne nT2, hL2]
        refine ⟨T2, _, rfl, SqT.of upd_same, rfl, _, _, rfl, _, _, rfl, rfl, ?_⟩
        have hlen : (tab (p.length + d.length) (pcj (co p) (co d) i j)).length = p.length + d.length := tab_len _ _
        have hget : co (tab (p.length + d.length) (pcj (co p) (co d) i j)) (i + j) = pcj (co p) (co d) i j (i + j) := by rw [tab_co, if_pos (by omega)]
        refine ⟨_, rfl, _, rfl, t, _, i + j, vg (pcj (co p) (co d) i j (i + j)), rfl, (by show V.int ((i : Int) + (j : Nat)) = V.int ((i + j : Nat) : Int); rw [Int.natCast_add]), SqL.of hL3, by rw [vg_get (by omega), hget], _, rfl, gi (pcj (co p) (co d) i j (i + j)), gi (gm (co p i) (co d j)), rfl, rfl, t, _, _, i + j, rfl, rfl, hL3, ix_nat (by omega) (by rw [List.length_map]; omega), ?_⟩
        have nsc : sc ≠ T2 := ne_of_none hS2 hT2
        refine ⟨same_new (e3.trans (same_upd hT2)) ht0, ?_, by rw [upd_ne hst, upd_ne nsc]; exact hS2, _, _, rfl⟩
        rw [upd_same]
        show some (HO.lst (((tab (p.length + d.length) (pcj (co p) (co d) i j)).map vg).set (i + j) (V.int (addI (gi _) (gi _))))) = _
        rw [gi_add]
        show some (HO.lst (((tab (p.length + d.length) (pcj (co p) (co d) i j)).map vg).set (i + j) (vg (ga (pcj (co p) (co d) i j (i + j)) (gm (co p i) (co d j)))))) = _
        rw [← List.map_set, tab_set]
        congr 2
        refine congrArg (List.map vg) (tab_congr fun k _ => ?_)
        rw [pcj_succ]
        by_cases ek : k = i + j
        · rw [if_pos ek, if_pos ek, ek]
        · rw [if_neg ek, if_neg ek]
      · rintro σ H2 ⟨e3, hL2, hS2, x, y, rfl⟩
        refine ⟨e3, ?_, _, _, _, _, rfl⟩
        rw [hL2, List.length_map, List.length_map]
        congr 2
        exact congrArg (List.map vg) (tab_congr fun k _ => pcj_last (fun k hk => co_out hk) k)
    · rintro σ H1 ⟨e1, hL1, x, y, z, v, rfl⟩
      rw [List.length_map] at hL1
      refine ⟨_, rfl, t, _, rfl, SqL.of hL1, by rw [tab_len]; omega, fun r H2 hr e2 hR => ?_⟩
      rw [tab_congr fun k _ => pc_all (fun k hk => co_out hk) k] at hR
      exact kQ r H2 (e1.free hr) (e1.trans e2) hR
def spEval (K : PySem.W.Frag) : Sp := fun vs H Q _ => ∃ (a : Addr) (p : List G) (x : G), vs = [.ref a, vg x] ∧ SqL K H a (p.map vg) ∧ RetV (vg (hor x p)) H Q
theorem rev_get {gl : List G} {i : Nat} {y : V} (h : (gl.map vg).reverse[i]? = some y) : i < gl.length ∧ y = vg (co gl (gl.length - 1 - i)) := by
  have hi : i < gl.length := by
    have z := (List.getElem?_eq_some_iff.mp h).1
    rw [List.length_reverse, List.length_map] at z
    exact z
  rw [List.getElem?_reverse (by rw [List.length_map]; exact hi), List.length_map, vg_get (by omega)] at h
  exact ⟨hi, (Option.some.inj h).symm⟩
theorem ok_evaluate (T : Txt K mg C_ArchiveError C_InvalidSymbol) : Ok P w K mg base CX0 1 "evaluate" ["poly", "point"] (spEval K) := by
  refine ok_of T.d_evaluate fun f fd F => F.ok sc_evaluate (fun vs H Q E h => ?_) (fun cdv A outer s H vs Q E hr h => ?_)
  · obtain ⟨a, p, x, rfl, _⟩ := h
    rfl
  · obtain ⟨a, p, x, rfl, hA, kQ⟩ := h
    have nd := sc_evaluate.nd
    refine ⟨_,       (pss_cons (ps_set (i := 2) nd rfl (Or.inl rfl) (pe_ix ix_tup (CT2.pe_globTT rfl T.c_PRODUCTS) (pv 1) (fun _ _ => rfl)))
      (pss_cons (ps_set (i := 3) nd rfl (Or.inl rfl) pe_int)
      (pss_cons (ps_for PassesOwn.never rfl (pi_list (pe_revL (pv 0))) (pg_name (i := 4) nd rfl (Or.inl rfl))
        (pss_one (ps_set (i := 3) nd rfl (Or.inl rfl) (pe_op op_xor (pe_ix ix_tup (pv 2) (pv 3) (fun _ _ => rfl)) (pv 4)))))
      (pss_one (ps_ret (pv 3)))))), ?_⟩
    intro p0 rs hp hr0
    obtain ⟨r, h3, h4, _⟩ := hr0 (gi x).toNat (rowOf (gi x)) (rowV_at (gi_sym x))
    refine ⟨_, rfl, p0, _, gi x, .ref r, rfl, rfl, hp _, at_nat (j := (gi x).toNat) (by have := (gi_sym x).1; omega) h3, ?_⟩
    refine ⟨_, rfl, a, _, rfl, hA, fun t ht => ⟨t, rfl, ⟨_, SqL.of upd_same⟩, for_list (K := K) (a := t) (xs := (p.map vg).reverse) (fun i σ H' => H' = upd H t (.lst (p.map vg).reverse) ∧ ∃ y, σ = [some (.ref a), some (vg x), some (.ref r), some (vg (hor x (p.drop (p.length - i)))), y]) ⟨rfl, none, ?_⟩ (fun i σ H' _ ⟨e, _⟩ => by rw [e]; exact SqL.of upd_same) ?_ ?_⟩⟩
    · rw [Nat.sub_zero, List.drop_length]
      rfl
    · rintro i y σ H' hi ⟨rfl, v, rfl⟩
      obtain ⟨hip, rfl⟩ := rev_get hi
      refine ⟨_, rfl, _, rfl, r, _, gi (hor x (p.drop (p.length - i))), _, rfl, rfl, h4 _, rowG_at x _, _, rfl, gi (gm x (hor x (p.drop (p.length - i)))), gi (co p (p.length - 1 - i)), rfl, rfl, ?_⟩
      refine ⟨rfl, some (vg (co p (p.length - 1 - i))), ?_⟩
      have e1 : p.length - (i + 1) + 1 = p.length - i := by omega
      have e2 : p.length - 1 - i = p.length - (i + 1) := by omega
      rw [hor_step x p (k := p.length - (i + 1)) (by omega), e1, e2, gm_comm (hor x (p.drop (p.length - i))) x]
      show [_, _, _, some (V.int (addI (gi _) (gi _))), _] = _
      rw [gi_add]
      rfl
    · rintro σ H' ⟨rfl, v, rfl⟩
      refine ⟨_, rfl, ?_⟩
      rw [List.length_reverse, List.length_map, Nat.sub_self, List.drop_zero]
      exact kQ _ (same_upd ht)

theorem eqv_nil {gl : List G} : PyData.eqv (.list ((gl.map gi).map PyData.int)) (.list []) = decide (gl = []) := by
  have e := eqv_ints (gl.map gi) []
  rw [List.map_nil] at e
  rw [e]
  cases gl <;> simp
theorem dp_gl {K : PySem.W.Frag} {H : Hp} {a : Addr} {gl : List G} (h : SqL K H a (gl.map vg)) : Dp K H (.ref a) (.list ((gl.map gi).map PyData.int)) := dp_list (by
  rw [List.map_map]
  exact h)
theorem sq_gi {K : PySem.W.Frag} {H : Hp} {a : Addr} {gl : List G} (h : SqL K H a (gl.map vg)) : SqL K H a ((gl.map gi).map V.int) := by
  rw [List.map_map]
  exact h
theorem allIn_gi (gl : List G) : allIn 0 15 (gl.map gi) = true := by
  unfold allIn
  rw [List.all_eq_true]
  intro x hx
  obtain ⟨g, _, rfl⟩ := List.mem_map.mp hx
  have h := gi_sym g
  rw [decide_eq_true h.1, decide_eq_true (show gi g ≤ 15 by have := h.2; omega)]
  rfl
theorem eqv_self (ns : List Int) : PyData.eqv (.list (ns.map PyData.int)) (.list (ns.map PyData.int)) = true := by
  rw [eqv_ints]
  simp
theorem ne_no {d e : PyData} {A B : Prop} (h : PyData.eqv d e = true) (hb : B) : ∃ k, V.bl (!PyData.eqv d e) = V.bl k ∧ if k = true then A else B := ⟨_, rfl, by rw [h]; exact iteF hb⟩
theorem nm_no {x y : V} {A B : Prop} (h : x = y) (hb : B) : ∃ k, V.bl (!decide (x = y)) = V.bl k ∧ if k = true then A else B := ⟨_, rfl, by rw [h]; simpa using hb⟩
theorem paired_map {α β γ : Type} {f : β → γ} {R : α → γ → Prop} : ∀ {xs : List α} {ys : List β}, Paired R xs (ys.map f) → Paired (fun x y => R x (f y)) xs ys
  | [], [], _ => .nil
  | [], _ :: _, h => nomatch h
  | _ :: _, [], h => nomatch h
  | _ :: _, _ :: _, .cons h r => .cons h (paired_map r)

def logV : List V := [V.int 0, V.int 0, V.int 1, V.int 4, V.int 2, V.int 8, V.int 5, V.int 10, V.int 3, V.int 14, V.int 9, V.int 7, V.int 6, V.int 13, V.int 11, V.int 12]
theorem log_at {a : Int} (ha : sym a) : atI logV a = some (.int (expL.getD a.toNat 0)) :=
  sym_all (p := fun a => atI logV a = some (.int (expL.getD a.toNat 0))) (by decide +kernel) ha
def spTimesG : Sp := fun vs H Q _ => ∃ a b : G, vs = [vg a, vg b] ∧ RetV (vg (gm a b)) H Q
theorem ok__law_times (T : Txt K mg C_ArchiveError C_InvalidSymbol) : Ok P w K mg base CX0 1 "_law_times" ["a", "b"] spTimesG := by
  refine ok_of T.d__law_times fun f fd F => F.ok sc__law_times (fun vs H Q E h => ?_) (fun cdv A outer s H vs Q E hr h => ?_)
  · obtain ⟨a, b, rfl, _⟩ := h
    rfl
  · obtain ⟨a, b, rfl, kQ⟩ := h
    have nd := sc__law_times.nd
    refine ⟨_,       (pss_cons (ps_if (PW.pt (pw_or (pt_cmpR op_eq (pv 0) pe_int (nomark _)) (pw_or1 (pt_cmpR op_eq (pv 1) pe_int (nomark _)))))
        (pss_one (ps_ret pe_int)) pss_nil)
      (pss_cons (ps_set (i := 2) nd rfl (Or.inl rfl) (pe_tup (pa_cons pe_int (pa_cons pe_int (pa_cons pe_int (pa_cons pe_int (pa_cons pe_int (pa_cons pe_int (pa_cons pe_int (pa_cons pe_int (pa_cons pe_int (pa_cons pe_int (pa_cons pe_int (pa_cons pe_int (pa_cons pe_int (pa_cons pe_int (pa_cons pe_int (pa_cons pe_int pa_nil))))))))))))))))))
      (pss_one (ps_ret (pe_ix ix_tup (pe_tup (pa_cons pe_int (pa_cons pe_int (pa_cons pe_int (pa_cons pe_int (pa_cons pe_int (pa_cons pe_int (pa_cons pe_int (pa_cons pe_int (pa_cons pe_int (pa_cons pe_int (pa_cons pe_int (pa_cons pe_int (pa_cons pe_int (pa_cons pe_int (pa_cons pe_int pa_nil)))))))))))))))) (pe_op op_mod (pe_op op_add (pe_ix ix_tup (pv 2) (pv 0) (fun _ _ => rfl)) (pe_ix ix_tup (pv 2) (pv 1) (fun _ _ => rfl))) pe_int) (fun _ _ => rfl)))))), ?_⟩
    refine ⟨_, rfl, rfl, _, rfl, ?_⟩
    show if decide (vg a = V.int 0) = true then _ else _
    rw [vg_dec]
    refine itd (fun h0 => ?_) (fun h0 => ?_)
    · rw [h0, zero_gm] at kQ
      exact iteT (kQ H (Same.refl H))
    refine ⟨_, rfl, rfl, _, rfl, ?_⟩
    show if decide (vg b = V.int 0) = true then _ else _
    rw [vg_dec]
    refine itd (fun h1 => ?_) (fun h1 => ?_)
    · rw [h1, gm_zero] at kQ
      exact kQ H (Same.refl H)
    refine ⟨by decide, fun t ht => ⟨by decide, fun u hu => ?_⟩⟩
    have et := same_upd (o := .tup powV) hu
    refine ⟨_, rfl, _, rfl, t, _, _, _, rfl, rfl, SqT.of (et _ _ upd_same), log_at (gi_sym a), _, rfl, _, rfl, t, _, _, _, rfl, rfl, SqT.of (et _ _ upd_same), log_at (gi_sym b), _, _, rfl, rfl, _, _, rfl, rfl, (by show (0 : Int) < 15; decide), ?_⟩
    have i1 := exp_in (gi_sym a)
    have i2 := exp_in (gi_sym b)
    refine ⟨u, _, _, _, rfl, rfl, SqT.of upd_same, pow_at (k := (expL.getD (gi a).toNat 0 + expL.getD (gi b).toNat 0) % 15) (by omega) (by omega), ?_⟩
    have e : vg (gm a b) = V.int (powL.getD ((expL.getD (gi a).toNat 0 + expL.getD (gi b).toNat 0) % 15).toNat 0) := by
      unfold vg
      rw [← gi_mul, mulI, if_neg (by rw [gi_zero, gi_zero]; simp [h0, h1])]
    rw [e] at kQ
    exact kQ _ ((same_upd ht).trans et)

theorem ok__law_value_at (T : Txt K mg C_ArchiveError C_InvalidSymbol) : Ok P w K mg base CX0 2 "_law_value_at" ["poly", "point"] (spEval K) := by
  have G__law_times := ok__law_times (P := P) (w := w) (base := base) T
  refine ok_of T.d__law_value_at fun f fd F => F.ok sc__law_value_at (fun vs H Q E h => ?_) (fun cdv A outer s H vs Q E hr h => ?_)
  · obtain ⟨a, p, x, rfl, _⟩ := h
    rfl
  · obtain ⟨a, p, x, rfl, hA, kQ⟩ := h
    have nd := sc__law_value_at.nd
    refine ⟨_,       (pss_cons (ps_set (i := 2) nd rfl (Or.inl rfl) pe_int)
      (pss_cons (ps_for PassesOwn.never rfl (pi_list (pe_revL (pv 0))) (pg_name (i := 3) nd rfl (Or.inl rfl))
        (pss_one (ps_set (i := 2) nd rfl (Or.inl rfl) (pe_op op_xor (pe_callO G__law_times (hr.mono (by decide)) pass0 (pa_cons (pv 2) (pa_cons (pv 1) pa_nil))) (pv 3)))))
      (pss_one (ps_ret (pv 2))))), ?_⟩
    refine ⟨_, rfl, a, _, rfl, hA, fun t ht => ⟨t, rfl, ⟨_, SqL.of upd_same⟩, for_list (K := K) (a := t) (xs := (p.map vg).reverse) (fun i σ H' => Same (upd H t (.lst (p.map vg).reverse)) H' ∧ ∃ y, σ = [some (.ref a), some (vg x), some (vg (hor x (p.drop (p.length - i)))), y]) ⟨Same.refl _, none, ?_⟩ (fun i σ H' _ ⟨e, _⟩ => e.seq (SqL.of upd_same)) ?_ ?_⟩⟩
    · rw [Nat.sub_zero, List.drop_length]
      rfl
    · rintro i y σ H' hi ⟨e, v, rfl⟩
      obtain ⟨hip, rfl⟩ := rev_get hi
      refine ⟨_, rfl, _, rfl, hor x (p.drop (p.length - i)), x, rfl, fun H2 e2 => ?_⟩
      refine ⟨_, rfl, gi (gm (hor x (p.drop (p.length - i))) x), gi (co p (p.length - 1 - i)), rfl, rfl, e.trans e2, some (vg (co p (p.length - 1 - i))), ?_⟩
      have e1 : p.length - (i + 1) + 1 = p.length - i := by omega
      have e2 : p.length - 1 - i = p.length - (i + 1) := by omega
      have e3 : Builtin.bitXor (gi (gm (hor x (p.drop (p.length - i))) x)) (gi (co p (p.length - 1 - i))) = gi (hor x (p.drop (p.length - (i + 1)))) := by
        rw [hor_step x p (k := p.length - (i + 1)) (by omega), e1, e2, ← gi_add]
        rfl
      show [_, _, some (V.int (Builtin.bitXor (gi (gm (hor x (p.drop (p.length - i))) x)) (gi (co p (p.length - 1 - i))))), _] = _
      rw [e3]
      rfl
    · rintro σ H' ⟨e, v, rfl⟩
      refine ⟨_, rfl, ?_⟩
      rw [List.length_reverse, List.length_map, Nat.sub_self, List.drop_zero]
      exact kQ _ ((same_upd ht).trans e)
theorem ok__law_reduced (T : Txt K mg C_ArchiveError C_InvalidSymbol) : Ok P w K mg base CX0 1 "_law_reduced" ["poly"] (spReduced K) := by
  refine ok_of T.d__law_reduced fun f fd F => F.ok sc__law_reduced (fun vs H Q E h => ?_) (fun cdv A outer s H vs Q E hr h => ?_)
  · obtain ⟨a, gl, rfl, _⟩ := h
    rfl
  · obtain ⟨a, gl, rfl, hS, hz, kQ⟩ := h
    have nd := sc__law_reduced.nd
    refine ⟨_,       (pss_cons (ps_set (i := 1) nd rfl (Or.inl rfl) (pe_callB call_len_seq (by rfl) T.n_len PySem.boot_len (pa_cons (pv 0) pa_nil)))
      (pss_cons (ps_for PassesOwn.never rfl (pi_range1 rfl T.n_range (pa_cons (pe_callB call_len_seq (by rfl) T.n_len PySem.boot_len (pa_cons (pv 0) pa_nil)) pa_nil)) (pg_name (i := 2) nd rfl (Or.inl rfl))
        (pss_one (ps_if (PW.pt (pw_and (pt_cmpR op_gt (pv 1) pe_int (nomark _)) (pw_and1 (pt_cmpR op_eq (pe_ix ix_list (pv 0) (pe_op op_sub (pv 1) pe_int) (fun _ _ => rfl)) pe_int (nomark _)))))
          (pss_one (ps_set (i := 1) nd rfl (Or.inl rfl) (pe_op op_sub (pv 1) pe_int))) pss_nil)))
      (pss_one (ps_ret (pe_slice sl_list (pv 0) po_none (po_some (pv 1))))))), ?_⟩
    refine ⟨_, rfl, a, _, rfl, .inl hS, _, rfl, a, _, rfl, .inl hS, (gl.length : Int), by rw [List.length_map], by omega, by omega, ?_⟩
    rw [Int.toNat_natCast]
    refine for_range (lo := 0) (n := gl.length) (fun i σ H' => H = H' ∧ ∃ (n : Nat) (v : Option V), n ≤ gl.length ∧ redLen gl n = redLen gl gl.length ∧ (n ≤ gl.length - i ∨ redLen gl n = n) ∧ σ = [some (.ref a), some (.int (n : Int)), v]) ⟨rfl, gl.length, none, Nat.le_refl _, rfl, .inl (Nat.le_refl _), by rw [List.length_map]; rfl⟩ ?_ ?_
    · rintro i σ H' hi ⟨rfl, n, v, hn, hred, hor, rfl⟩
      refine ⟨_, rfl, _, _, rfl, rfl, _, rfl, itd (fun h => ?_) (fun h => iteF ⟨rfl, n, _, hn, hred, .inr (by rw [show n = 0 by omega]; rfl), rfl⟩)⟩
      obtain ⟨j, rfl⟩ : ∃ j, n = j + 1 := ⟨n - 1, by omega⟩
      refine ⟨_, rfl, _, rfl, _, _, rfl, rfl, a, _, _, vg (co gl j), rfl, rfl, hS, at_nat (j := j) (by omega) (vg_get (by omega)), rfl, _, rfl, ?_⟩
      rw [vg_dec]
      refine itd (fun h0 => ?_) (fun h0 => ?_)
      · have e1 : redLen gl (j + 1) = redLen gl j := by rw [redLen, if_pos h0]
        refine ⟨_, rfl, _, _, rfl, rfl, rfl, j, some (.int (0 + (i : Int))), by omega, by rw [← hred, e1], ?_, ?_⟩
        · rcases hor with z | z
          · exact .inl (by omega)
          · have := redLen_le gl j
            omega
        · show [_, some (V.int (((j + 1 : Nat) : Int) - 1)), _] = _
          rw [show ((j + 1 : Nat) : Int) - 1 = (j : Int) by omega]
      · exact ⟨rfl, j + 1, _, hn, hred, .inr (by rw [redLen, if_neg h0]), rfl⟩
    · rintro σ H' ⟨rfl, n, v, hn, hred, hor, rfl⟩
      have e : redLen gl n = n := by
        rcases hor with z | z
        · have e : n = 0 := by omega
          rw [e]
          rfl
        · exact z
      refine ⟨_, rfl, _, rfl, _, rfl, a, _, rfl, hS, fun p hp => kQ p _ hp (same_upd hp) ?_⟩
      rw [upd_same, cut_to (by rw [List.length_map]; exact hn), ← List.map_take, red, ← hred, e]

theorem prod_co (p d : List G) (n : Nat) : co (red (tab (p.length + d.length) (cv (co p) (co d)))) n = cv (co p) (co d) n := by
  rw [red_co, tab_co]
  split
  · rfl
  · refine (gs_zero fun k hk => ?_).symm
    by_cases h1 : k < p.length
    · rw [co_out (p := d) (by omega), gm_zero]
    · rw [co_out (p := p) (by omega), zero_gm]

/-! ### interpolation, plainly -/
/-- d divided by what is 0 at a -/
def quot (a : G) : List G → List G
  | [] => []
  | _ :: p => hor a p :: quot a p
theorem quot_co (a : G) : ∀ (d : List G) (k : Nat), co (quot a d) k = hor a (d.drop (k + 1))
  | [], k => by simp [quot, co, hor]
  | c :: p, 0 => by simp [quot, co]
  | c :: p, k + 1 => by
    have h := quot_co a p k
    rw [List.drop_succ_cons, ← h]
    simp [quot, co]
theorem hor_quot (x a : G) : ∀ d : List G, ga (hor x d) (hor a d) = gm (ga x a) (hor x (quot a d))
  | [] => by
    show ga 0 0 = gm (ga x a) 0
    rw [gm_zero, ga_zero]
  | c :: p => by
    have h := hor_quot x a p
    show ga (ga (gm (hor x p) x) c) (ga (gm (hor a p) a) c) = gm (ga x a) (ga (gm (hor x (quot a p)) x) (hor a p))
    rw [gm_add, ← gm_assoc, ← h, add_gm, add_gm, gm_comm x (hor a p), gm_comm a (hor a p)]
    have e1 : ga (ga (gm (hor x p) x) c) (ga (gm (hor a p) a) c) = ga (ga c c) (ga (gm (hor x p) x) (gm (hor a p) a)) := by ac_rfl
    have e2 : ga (ga (gm (hor x p) x) (gm (hor a p) x)) (ga (gm (hor a p) x) (gm (hor a p) a)) = ga (ga (gm (hor a p) x) (gm (hor a p) x)) (ga (gm (hor x p) x) (gm (hor a p) a)) := by ac_rfl
    rw [e1, e2, ga_self, ga_self]
/-- one with as many zeros as coefficients is 0 -/
theorem many_zeros : ∀ (n : Nat) (xs : List G) (d : List G), xs.Nodup → xs.length = n → (∀ k, n ≤ k → co d k = 0) → (∀ x ∈ xs, hor x d = 0) → ∀ k, co d k = 0
  | 0, _, d, _, _, h, _, k => h k (Nat.zero_le _)
  | n + 1, [], _, _, hl, _, _, _ => by cases hl
  | n + 1, a :: xs, d, nd, hl, h, hz, k => by
    have nd' := List.nodup_cons.mp nd
    have ha : hor a d = 0 := hz a List.mem_cons_self
    have hq : ∀ k, co (quot a d) k = 0 := many_zeros n xs (quot a d) nd'.2 (Nat.succ.inj hl)
      (fun k hk => by
        rw [quot_co]
        refine hor_zero a fun j => ?_
        have z := h (k + 1 + j) (by omega)
        simpa [co, List.getD_eq_getElem?_getD, List.getElem?_drop] using z)
      (fun x hx => by
        have z := hor_quot x a d
        rw [hz x (List.mem_cons_of_mem _ hx), ha, ga_zero] at z
        rcases gm_eq_zero _ _ z.symm with y | y
        · exact absurd (ga_eq_zero y ▸ hx) nd'.1
        · exact y)
    have hd : ∀ k, hor a (d.drop k) = 0 := fun k => by
      cases k with
      | zero => exact ha
      | succ k => rw [← quot_co, hq]
    by_cases hk : k < d.length
    · have z := hor_step a d hk
      rw [hd k, hd (k + 1), zero_gm, zero_ga] at z
      exact z.symm
    · exact co_out (Nat.le_of_not_lt hk)
theorem same_poly {xs : List G} {p r : List G} (nd : xs.Nodup) (hp : p.length ≤ xs.length) (hr : r.length ≤ xs.length) (h : ∀ x ∈ xs, hor x p = hor x r) : red p = red r := red_ext fun n => by
  have z := many_zeros xs.length xs (addL p r) nd rfl (fun k hk => by rw [addL_co, co_out (Nat.le_trans hp hk), co_out (Nat.le_trans hr hk), ga_zero]) (fun x hx => by rw [hor_add x (p := p) (q := r) (addL_co p r), h x hx, ga_self]) n
  rw [addL_co] at z
  exact ga_eq_zero z
theorem hor_one (x c : G) : hor x [c] = c := by
  show ga (gm 0 x) c = c
  rw [zero_gm, zero_ga]
theorem hor_two (x a : G) : hor x [a, 1] = ga x a := by
  show ga (gm (hor x [1]) x) a = _
  rw [hor_one, gm_comm, gm_one]
/-- the state behind the pairs pts -/
structure Ipol (pts : List (G × G)) (poly zeros : List G) : Prop where
  rd : red poly = poly
  pl : poly.length ≤ pts.length
  zl : zeros.length ≤ pts.length + 1
  at_ : ∀ q ∈ pts, hor q.1 poly = q.2
  zer : ∀ x, hor x zeros = 0 ↔ x ∈ pts.map (·.1)
  nd : (pts.map (·.1)).Nodup
theorem Ipol.nil : Ipol [] [] [1] := ⟨rfl, Nat.le_refl _, Nat.le_refl _, (fun _ h => nomatch h), (fun x => by
  rw [hor_one]
  exact ⟨fun h => absurd h (by decide), fun h => nomatch h⟩), List.nodup_nil⟩
theorem Ipol.snoc {pts : List (G × G)} {poly zeros : List G} {x y : G} (I : Ipol pts poly zeros) (hg : hor x zeros ≠ 0) :
    Ipol (pts ++ [(x, y)]) (red (addL poly (red (tab ([gm (ga y (hor x poly)) (gv (hor x zeros))].length + zeros.length) (cv (co [gm (ga y (hor x poly)) (gv (hor x zeros))]) (co zeros))))))
      (red (tab (zeros.length + [x, 1].length) (cv (co zeros) (co [x, 1])))) := by
  generalize hc : gm (ga y (hor x poly)) (gv (hor x zeros)) = c
  have ev : ∀ x', hor x' (red (addL poly (red (tab ([c].length + zeros.length) (cv (co [c]) (co zeros)))))) = ga (hor x' poly) (gm c (hor x' zeros)) := fun x' => by
    rw [hor_add x' (p := poly) (q := red (tab ([c].length + zeros.length) (cv (co [c]) (co zeros)))) fun n => by rw [red_co, addL_co], hor_mul x' zeros (p := [c]) (prod_co [c] zeros), hor_one]
  have ez : ∀ x', hor x' (red (tab (zeros.length + [x, 1].length) (cv (co zeros) (co [x, 1])))) = gm (hor x' zeros) (ga x' x) := fun x' => by
    rw [hor_mul x' [x, 1] (prod_co zeros [x, 1]), hor_two]
  have hx : x ∉ pts.map (·.1) := fun h => hg ((I.zer x).mpr h)
  refine ⟨red_red _, ?_, ?_, fun q hq => ?_, fun x' => ?_, ?_⟩
  · rw [List.length_append]
    refine red_short fun k hk => ?_
    have h1 := I.pl
    have h2 := I.zl
    have hk' : pts.length + 1 ≤ k := hk
    rw [addL_co, co_out (by omega), zero_ga, prod_co]
    have e : cv (co [c]) (co zeros) k = cv (fun j => if j = 0 then c else 0) (co zeros) k := cv_congr (fun j => by
      cases j with
      | zero => rfl
      | succ j => simp [co]) (fun _ => rfl) k
    rw [e, cv_only, if_pos (Nat.zero_le _), Nat.sub_zero, co_out (by omega), gm_zero]
  · rw [List.length_append]
    refine red_short fun k hk => ?_
    have h2 := I.zl
    have hk' : pts.length + 1 + 1 ≤ k := hk
    rw [tab_co]
    split
    · refine gs_zero fun j hj => ?_
      by_cases hz : j < zeros.length
      · rw [co_out (p := [x, 1]) (by show 2 ≤ k - j; omega), gm_zero]
      · rw [co_out (Nat.le_of_not_lt hz), zero_gm]
    · rfl
  · rw [ev]
    rcases List.mem_append.mp hq with hq | hq
    · rw [(I.zer q.1).mpr (List.mem_map_of_mem hq), gm_zero, ga_zero, I.at_ q hq]
    · rw [List.mem_singleton.mp hq]
      show ga (hor x poly) (gm c (hor x zeros)) = y
      rw [← hc, gm_assoc, gm_comm (gv _), gm_inv _ hg, gm_one, ga_comm y, ← ga_assoc, ga_self, zero_ga]
  · rw [ez, List.map_append, List.mem_append]
    constructor
    · intro h
      rcases gm_eq_zero _ _ h with h | h
      · exact .inl ((I.zer x').mp h)
      · exact .inr (by rw [ga_eq_zero h]; exact List.mem_singleton.mpr rfl)
    · rintro (h | h)
      · rw [(I.zer x').mpr h, zero_gm]
      · have e : x' = x := List.mem_singleton.mp h
        rw [e, ga_self, gm_zero]
  · rw [List.map_append, List.nodup_append]
    refine ⟨I.nd, by simp, fun a ha b hb e => ?_⟩
    have hb' : b = x := List.mem_singleton.mp hb
    rw [e, hb'] at ha
    exact hx ha
theorem paired_imp {α β : Type} {R S : α → β → Prop} (h : ∀ x y, R x y → S x y) : ∀ {xs : List α} {ys : List β}, Paired R xs ys → Paired S xs ys
  | _, _, .nil => .nil
  | _, _, .cons a r => .cons (h _ _ a) (paired_imp h r)
theorem paired_snoc {α β : Type} {R : α → β → Prop} {x : α} {y : β} : ∀ {xs : List α} {ys : List β}, Paired R xs ys → R x y → Paired R (xs ++ [x]) (ys ++ [y])
  | _, _, .nil, h => .cons h .nil
  | _, _, .cons a r, h => .cons a (paired_snoc r h)
theorem zip_self {α β : Type} (f : α → β) : ∀ {l : List α} {x : α}, x ∈ l → (x, f x) ∈ l.zip (l.map f)
  | a :: l, x, h => by
    rcases List.mem_cons.mp h with e | h
    · rw [e]
      exact List.mem_cons_self
    · exact List.mem_cons_of_mem _ (zip_self f h)
def ptD (q : G × G) : PyData := .tuple [.int (gi q.1), .int (gi q.2)]
theorem dp_pts {K : PySem.W.Frag} {H : Hp} {p : Addr} {ts : List Addr} {pts : List (G × G)} (hp : SqL K H p (ts.map V.ref)) (h : Paired (fun (t : Addr) (q : G × G) => H t = some (.tup [vg q.1, vg q.2])) ts pts) : Dp K H (.ref p) (.list (pts.map ptD)) := by
  refine .lst hp ?_
  clear hp
  induction h with
  | nil => exact .nil
  | cons a _ ih => exact .cons (.tup (SqT.of a) (.cons (.int _) (.cons (.int _) .nil))) ih
theorem canLayAll_pts : ∀ pts : List (G × G), PyData.canLayAll0 (pts.map ptD) = true
  | [] => rfl
  | q :: pts => by simp [PyData.canLayAll0, PyData.canLay0, ptD, canLayAll_pts pts]
theorem depthAll_pts : ∀ pts : List (G × G), PyData.depthAll (pts.map ptD) ≤ 1
  | [] => Nat.zero_le _
  | q :: pts => by
    have h := depthAll_pts pts
    simp [PyData.depthAll, PyData.depth, ptD]
    omega
theorem shaped_pts (pts : List (G × G)) : SeqAt.shaped (.list (pts.map ptD)) = true := by
  have h := depthAll_pts pts
  simp [SeqAt.shaped, PyData.canLay0, PyData.depth, canLayAll_pts]
  omega

def spInter (K : PySem.W.Frag) (C : Addr) : Sp := fun vs H Q E => ∃ (p : Addr) (ts : List Addr) (pts : List (G × G)), vs = [.ref p] ∧ SqL K H p (ts.map V.ref) ∧ Paired (fun (t : Addr) (q : G × G) => SqT K H t [vg q.1, vg q.2]) ts pts ∧ pts.length ≤ 100 ∧
  (¬ (pts.map (·.1)).Nodup → ∀ H', Same H H' → E (.ref C) none H') ∧
  ((pts.map (·.1)).Nodup → ∀ r : List G, red r = r → r.length ≤ pts.length → (∀ q ∈ pts, hor q.1 r = q.2) → ∀ a H', Same H H' → H' a = some (.lst (r.map vg)) → Q (.ref a) H')
theorem get_refs {ts : List Addr} {i : Nat} {y : V} (h : (ts.map V.ref)[i]? = some y) : ∃ t, ts[i]? = some t ∧ y = V.ref t := by
  rw [List.getElem?_map] at h
  cases e : ts[i]? with
  | none =>
    rw [e] at h
    cases h
  | some t =>
    rw [e] at h
    exact ⟨t, rfl, (Option.some.inj h).symm⟩
theorem ok_interpolate (T : Txt K mg C_ArchiveError C_InvalidSymbol) : Ok P w K mg base (CXN P w) 4 "interpolate" ["points"] (spInter K C_InvalidSymbol) := by
  have G_scaled := ok_scaled (P := P) (w := w) (base := base) T
  have G_multiply := ok_multiply (P := P) (w := w) (base := base) T
  have G_inverse := ok_inverse (P := P) (w := w) (base := base) T
  have G_evaluate := ok_evaluate (P := P) (w := w) (base := base) T
  have G_add_polynomials := ok_add_polynomials (P := P) (w := w) (base := base) T
  have G_multiply_polynomials := ok_multiply_polynomials (P := P) (w := w) (base := base) T
  refine ok_of T.d_interpolate fun f fd F => okN F sc_interpolate (fun vs H Q E h => ?_) (fun cdv A outer s H vs Q E hr h => ?_)
  · obtain ⟨p, ts, pts, rfl, _⟩ := h
    rfl
  · obtain ⟨p, ts, pts, rfl, hA, hT, hp, kE, kQ⟩ := h
    have nd := sc_interpolate.nd
    have po := passes_of (X := cxOf (CXN P w) P w K mg base N_interpolate "interpolate" (defScope s_interpolate) f cdv A outer s H E) rfl
    have hln : ts.length = pts.length := hT.length
    refine ⟨_,       (pss_cons (ps_set (i := 1) nd rfl (Or.inl rfl) (pe_lst pa_nil))
      (pss_cons (ps_set (i := 2) nd rfl (Or.inl rfl) (pe_lst (pa_cons pe_int pa_nil)))
      (pss_cons (ps_for po rfl (pi_list (pv 0)) (pg_tup rfl (pgs_cons (pg_name (i := 3) nd rfl (Or.inl rfl)) (pgs_cons (pg_name (i := 4) nd rfl (Or.inl rfl)) pgs_nil)))
        (pss_cons (ps_set (i := 5) nd rfl (Or.inl rfl) (pe_callO G_evaluate (hr.mono (by decide)) pass0 (pa_cons (pv 2) (pa_cons (pv 3) pa_nil))))
        (pss_cons (ps_if (pt_cmpR op_eq (pv 5) pe_int (nomark _))
          (pss_one (L2N.ps_raise rfl (L2N.takes_of rfl rfl rfl rfl) (L2N.pmk_own PySem.F.excBase_ValueError T.x_InvalidSymbol.x T.x_InvalidSymbol.g T.x_InvalidSymbol.k (raises_own T.x_InvalidSymbol.b T.x_InvalidSymbol.t) rfl))) pss_nil)
        (pss_cons (ps_set (i := 6) nd rfl (Or.inl rfl) (pe_op op_xor (pv 4) (pe_callO G_evaluate (hr.mono (by decide)) pass0 (pa_cons (pv 1) (pa_cons (pv 3) pa_nil)))))
        (pss_cons (ps_set (i := 1) nd rfl (Or.inl rfl) (pe_callO G_add_polynomials (hr.mono (by decide)) pass0 (pa_cons (pv 1) (pa_cons (pe_callO G_scaled (hr.mono (by decide)) pass0 (pa_cons (pv 2) (pa_cons (pe_callO G_multiply (hr.mono (by decide)) (passX (L2N.takes_of rfl rfl rfl rfl) (fun _ _ _ z => z)) (pa_cons (pv 6) (pa_cons (pe_callO G_inverse (hr.mono (by decide)) (passX (L2N.takes_of rfl rfl rfl rfl) (fun _ _ _ z => z)) (pa_cons (pv 5) pa_nil)) pa_nil))) pa_nil))) pa_nil))))
        (pss_one (ps_set (i := 2) nd rfl (Or.inl rfl) (pe_callO G_multiply_polynomials (hr.mono (by decide)) pass0 (pa_cons (pv 2) (pa_cons (pe_lst (pa_cons (pv 3) (pa_cons pe_int pa_nil))) pa_nil))))))))))
      (pss_one (ps_ret (pv 1)))))), ?_⟩
    refine ⟨(by decide), fun l1 h1 => ⟨(by show 1 ≤ sizeLine; decide), fun l2 h2 => ⟨_, rfl, p, rfl, ⟨_, ((same_upd h1).trans (same_upd h2)).seq hA⟩, for_list (K := K) (a := p) (xs := ts.map V.ref) (fun i σ H' => ∃ (poly zeros : List G) (aP aZ : Addr), Ipol (pts.take i) poly zeros ∧ Same H H' ∧ H' aP = some (.lst (poly.map vg)) ∧ H' aZ = some (.lst (zeros.map vg)) ∧ ∃ x y u v, σ = [some (.ref p), some (.ref aP), some (.ref aZ), x, y, u, v]) ?_ (fun i σ H' _ ⟨_, _, _, _, _, e, _⟩ => e.seq hA) ?_ ?_⟩⟩⟩
    · exact ⟨[], [1], l1, l2, Ipol.nil, (same_upd h1).trans (same_upd h2), same_upd h2 _ _ upd_same, upd_same, none, none, none, none, rfl⟩
    · rintro i y σ H' hi ⟨poly, zeros, aP, aZ, I, e, hP, hZ, v1, v2, v3, v4, rfl⟩
      obtain ⟨t, ht, rfl⟩ := get_refs hi
      obtain ⟨⟨x, y⟩, hq, hTq⟩ := LiI.paired_get hT ht
      have hip : i < pts.length := (List.getElem?_eq_some_iff.mp hq).1
      have eq : pts[i] = (x, y) := (List.getElem?_eq_some_iff.mp hq).2
      have htk : pts.take (i + 1) = pts.take i ++ [(x, y)] := by rw [take_snoc hip, eq]
      have hpl := I.pl
      have hzl := I.zl
      rw [List.length_take] at hpl hzl
      refine ⟨t, _, rfl, Evl.ex_t e hTq, rfl, _, _, rfl, _, _, rfl, rfl, ?_⟩
      refine ⟨_, rfl, _, rfl, aZ, zeros, x, rfl, SqL.of hZ, fun H2 e2 => ?_⟩
      refine ⟨_, rfl, rfl, _, rfl, ?_⟩
      rw [vg_dec]
      refine itd (fun h0 => ?_) (fun h0 => ?_)
      · refine kE (fun hn => ?_) _ (e.trans e2)
        have hx := (I.zer x).mp h0
        have hs : pts = pts.take i ++ (x, y) :: pts.drop (i + 1) := by
          have z := List.take_append_drop i pts
          rw [List.drop_eq_getElem_cons hip, eq] at z
          exact z.symm
        rw [hs, List.map_append, List.nodup_append] at hn
        exact hn.2.2 x hx x (by simp) rfl
      · have eP := e2 _ _ hP
        have eZ := e2 _ _ hZ
        refine ⟨_, rfl, _, rfl, _, rfl, aP, poly, x, rfl, SqL.of eP, fun H3 e3 => ⟨gi y, gi (hor x poly), rfl, rfl, ?_⟩⟩
        have eadd : Builtin.bitXor (gi y) (gi (hor x poly)) = gi (ga y (hor x poly)) := gi_add y (hor x poly)
        dsimp only
        rw [eadd]
        refine ⟨_, rfl, _, rfl, _, rfl, _, rfl, gi (hor x zeros), rfl, fun hn => absurd ⟨gi_sym _, fun z => h0 (gi_zero.mp z)⟩ hn, fun _ _ => ?_⟩
        rw [gi_inv _ h0]
        refine ⟨gi (ga y (hor x poly)), gi (gv (hor x zeros)), rfl, fun hn => absurd ⟨gi_sym _, gi_sym _⟩ hn, fun _ _ => ?_⟩
        rw [gi_mul]
        refine ⟨aZ, zeros, gm (ga y (hor x poly)) (gv (hor x zeros)), rfl, SqL.of (e3 _ _ eZ), by omega, fun p1 H5 hp1 e5 hP1 => ?_⟩
        have e45 := e3.trans e5
        refine ⟨aP, p1, poly, _, rfl, SqL.of (e45 _ _ eP), SqL.of hP1, by omega, by rw [List.length_map]; omega, fun p2 H6 hp2 e6 hP2 => ?_⟩
        have ered : red (addL poly (zeros.map (gm (gm (ga y (hor x poly)) (gv (hor x zeros)))))) = red (addL poly (red (tab ([gm (ga y (hor x poly)) (gv (hor x zeros))].length + zeros.length) (cv (co [gm (ga y (hor x poly)) (gv (hor x zeros))]) (co zeros))))) := red_ext fun n => by
          rw [addL_co, addL_co, map_co, prod_co]
          have e1 : ∀ k, co [gm (ga y (hor x poly)) (gv (hor x zeros))] k = if k = 0 then gm (ga y (hor x poly)) (gv (hor x zeros)) else 0 := fun k => by
            by_cases hk : k = 0
            · rw [if_pos hk, hk]
              rfl
            · rw [if_neg hk, co_out (by show 1 ≤ k; omega)]
          rw [cv_congr e1 (fun _ => rfl), cv_only, if_pos (Nat.zero_le _), Nat.sub_zero]
        have hP2' : H6 p2 = some (.lst ((red (addL poly (zeros.map (gm (gm (ga y (hor x poly)) (gv (hor x zeros))))))).map vg)) := hP2
        rw [ered] at hP2'
        have e46 := e45.trans e6
        refine ⟨_, rfl, _, rfl, (by show 2 ≤ sizeLine; decide), fun l3 hl3 => ?_⟩
        have e47 := e46.trans (same_upd (o := .lst ([x, 1].map vg)) hl3)
        refine ⟨aZ, l3, zeros, [x, 1], rfl, SqL.of (e47 _ _ eZ), SqL.of upd_same, by omega, by show 2 ≤ 10000; decide, fun p3 H7 hp3 e7 hP3 => ?_⟩
        refine ⟨_, _, p2, p3, htk ▸ I.snoc h0, e.trans (e2.trans (e47.trans e7)), e7 _ _ (same_upd hl3 _ _ hP2'), hP3, _, _, _, _, rfl⟩
    · rintro σ H' ⟨poly, zeros, aP, aZ, I, e, hP, hZ, v1, v2, v3, v4, rfl⟩
      rw [List.length_map, hln, List.take_length] at I
      exact ⟨_, rfl, kQ I.nd poly I.rd I.pl I.at_ aP H' e hP⟩

theorem nd_sub {α : Type} [DecidableEq α] : ∀ {l m : List α}, l.Nodup → (∀ x ∈ l, x ∈ m) → l.length ≤ m.length
  | [], _, _, _ => Nat.zero_le _
  | a :: l, m, nd, h => by
    have nd' := List.nodup_cons.mp nd
    have ha : a ∈ m := h a List.mem_cons_self
    have z := nd_sub (l := l) (m := m.erase a) nd'.2 fun x hx => (List.mem_erase_of_ne fun e => nd'.1 (by rw [← e]; exact hx)).mpr (h x (List.mem_cons_of_mem _ hx))
    rw [List.length_erase_of_mem ha] at z
    have := List.length_pos_of_mem ha
    rw [List.length_cons]
    omega
theorem all_G {gl : List G} (h : ∀ g : G, g ∈ gl) : 16 ≤ gl.length := nd_sub (l := ([0, 1, 2, 3, 4, 5, 6, 7, 8, 9, 10, 11, 12, 13, 14, 15] : List G)) (by decide) fun x _ => h x
def gOf (z : Int) : G := ⟨(z % 16).toNat, by omega⟩
theorem vg_gOf (z : Int) : vg (gOf z) = V.int (z % 16) := by
  show V.int (((z % 16).toNat : Nat) : Int) = _
  rw [Int.toNat_of_nonneg (by omega)]
theorem gOf_all (z : Int) (g : G) : g ∈ (List.range 16).map fun j : Nat => gOf (z + j) := by
  refine List.mem_map.mpr ⟨(((g.val : Int) - z) % 16).toNat, List.mem_range.mpr (by omega), Fin.ext ?_⟩
  show ((z + ((((g.val : Int) - z) % 16).toNat : Nat)) % 16).toNat = g.val
  have := g.isLt
  omega
theorem inV_vg (x : G) (gl : List G) : inV (vg x) (gl.map vg) = decide (x ∈ gl) := by
  rw [Bool.eq_iff_iff, decide_eq_true_iff]
  unfold inV
  rw [List.any_map, List.any_eq_true]
  constructor
  · rintro ⟨y, hy, e⟩
    have e' : gi y = gi x := by
      have z : (gi y == gi x) = true := e
      simpa using z
    exact gi_inj e' ▸ hy
  · intro h
    exact ⟨x, h, by show (gi x == gi x) = true; simp⟩
theorem flat_vg (gl : List G) : (gl.map vg).all flatV = true := by
  rw [List.all_map, List.all_eq_true]
  intro x _
  rfl
theorem row_vg (c : Int) (n : Nat) : ∃ gl : List G, gl.length = n ∧ (rowL c n 16).map V.int = gl.map vg := by
  obtain ⟨gl, e⟩ := of_syms (l := rowL c n 16) fun x hx => rowL_in (by decide) hx
  refine ⟨gl, ?_, ?_⟩
  · have z := congrArg List.length e
    rw [rowL_len, List.length_map] at z
    exact z.symm
  · rw [e, List.map_map]
    rfl

-- @@LAW
def spLaw (K : PySem.W.Frag) : Sp := fun vs H Q _ => ∃ (a : Addr) (ns : List Int), vs = [.ref a] ∧ SqL K H a (ns.map V.int) ∧ ns.length ≤ 63 ∧ ∀ H', Q (.bl true) H'
theorem ok_law0 (T : Txt K mg C_ArchiveError C_InvalidSymbol) (f : Addr) (fd : FuncData) (F : Fun K "law" "law" s_law f fd) : FnOk P w K mg base CX0 5 f fd ["script"] (spLaw K) := by
  have G__law_cell := ok__law_cell (P := P) (w := w) (base := base) T
  have G__law_row := ok__law_row (P := P) (w := w) (base := base) T
  have G__law_is_list := ok__law_is_list (P := P) (w := w) (base := base) T
  have G_interpolate := ok_interpolate (P := P) (w := w) (base := base) T
  have G__law_value_at := ok__law_value_at (P := P) (w := w) (base := base) T
  have G__law_reduced := ok__law_reduced (P := P) (w := w) (base := base) T
  refine F.ok sc_law (fun vs H Q E h => ?_) (fun cdv A outer s H vs Q E hr h => ?_)
  · obtain ⟨a, ns, rfl, _⟩ := h
    rfl
  · obtain ⟨a, ns, rfl, hS, hlen, kQ⟩ := h
    have nd := sc_law.nd
    have hu64 : (A.deeper (envOfC "law" (defScope s_law) s.heap.objs.size f cdv)).units + 64 < cLine := by
      have := hr.un
      omega
    refine ⟨_,       (Evl.pss_cut (ps_set (i := 1) nd rfl (Or.inl rfl) (pe_op op_mod (pe_callO G__law_cell (hr.mono (by decide)) pass0 (pa_cons (pv 0) (pa_cons pe_int pa_nil))) pe_int))
      (pss_cons (ps_set (i := 2) nd rfl (Or.inl rfl) (pe_lst pa_nil))
      (Evl.pss_cut (ps_for PassesOwn.never rfl (pi_list (pe_op op_cat (pe_callO G__law_row (hr.mono (by decide)) pass0 (pa_cons (pe_callO G__law_cell (hr.mono (by decide)) pass0 (pa_cons (pv 0) (pa_cons pe_int pa_nil))) (pa_cons pe_int (pa_cons pe_int pa_nil)))) (pe_lc (own := [("j", 4)]) (g := gName 4) (tt := tYes) rfl nd (pi_range1 rfl T.n_range (pa_cons pe_int pa_nil)) (blkOk_by (N := N_law) (sc := defScope s_law) (by decide +kernel)) (fun _ _ _ _ _ => (pg_name (i := 4) nd rfl (Or.inl rfl))) (fun _ _ _ _ _ => pts_nil) (fun _ _ _ _ _ => (pe_op op_mod (pe_callTy call_int1 (by rfl) T.n_int (by decide +kernel) (pa_cons (pe_op op_add (pe_callO G__law_cell (hr.mono (by decide)) pass0 (pa_cons (pv 0) (pa_cons pe_int pa_nil))) (pv 4)) pa_nil)) pe_int))))) (pg_name (i := 3) nd rfl (Or.inl rfl))
        (pss_one (ps_if (PW.pt (pw_and (pt_cmpR op_notIn_seq (pv 3) (pv 2) (by with_unfolding_all rfl)) (pw_and1 (pt_cmpR op_lt (pe_callB call_len_seq (by rfl) T.n_len PySem.boot_len (pa_cons (pv 2) pa_nil)) (pv 1) (nomark _)))))
          (pss_one (ps_expr (pe_bm PySem.F.plainAttrs_list PySem.F.slot_list_append PySem.F.type_list_append mt_append (pv 2) (pa_cons (pv 3) pa_nil)))) pss_nil)))
      (pss_cons (ps_set (i := 5) nd rfl (Or.inr rfl) (pe_callO G__law_row (hr.mono (by decide)) pass0 (pa_cons (pe_callO G__law_cell (hr.mono (by decide)) pass0 (pa_cons (pv 0) (pa_cons pe_int pa_nil))) (pa_cons (pe_op op_mod (pe_callO G__law_cell (hr.mono (by decide)) pass0 (pa_cons (pv 0) (pa_cons pe_int pa_nil))) (pe_op op_add (pv 1) pe_int)) (pa_cons pe_int pa_nil)))))
      (Evl.pss_cut (ps_set (i := 6) nd rfl (Or.inl rfl) (pe_callO G__law_row (hr.mono (by decide)) pass0 (pa_cons (pe_callO G__law_cell (hr.mono (by decide)) pass0 (pa_cons (pv 0) (pa_cons pe_int pa_nil))) (pa_cons (pv 1) (pa_cons pe_int pa_nil)))))
      (Evl.pss_cut (ps_set (i := 7) nd rfl (Or.inl rfl) (pe_cmpR op_eq (pe_op op_mod (pe_op op_fdiv (pe_callO G__law_cell (hr.mono (by decide)) pass0 (pa_cons (pv 0) (pa_cons pe_int pa_nil))) pe_int) pe_int) pe_int (nomark _)))
      (Evl.pss_cut (ps_if (pt_val (pv 7))
        (pss_one (ps_setLc (i := 6) (own := [("point", 8)]) (g := gName 8) (tt := tYes) rfl nd rfl rfl (sw_true rfl rfl rfl (by decide +kernel)) (pi_list (pv 2)) (blkOk_by (N := N_law) (sc := defScope s_law) (by decide +kernel)) (fun _ _ _ _ _ => (pg_name (i := 8) nd rfl (Or.inl rfl))) (fun _ _ _ _ _ => pts_nil) (fun _ _ _ _ _ => (pe_callO G__law_value_at (hr.mono (by decide)) pass0 (pa_cons (pv 5) (pa_cons (pv 8) pa_nil)))))) pss_nil)
      (Evl.pss_cut (ps_set (i := 9) nd rfl (Or.inl rfl) (LZ.pe_listZip rfl (by rfl) T.n_list (by decide +kernel) (by rfl) T.n_zip (pa_cons (pv 2) (pa_cons (pv 6) pa_nil))))
      (Evl.pss_cut (ps_set (i := 10) nd rfl (Or.inl rfl) (pe_and (pe_cmpR op_eq (pe_op op_mod (pe_callO G__law_cell (hr.mono (by decide)) pass0 (pa_cons (pv 0) (pa_cons pe_int pa_nil))) pe_int) pe_int (nomark _)) (pe_one (pe_cmpR op_gt (pv 1) pe_int (nomark _)))))
      (Evl.pss_cut (ps_if (pt_val (pv 10))
        (pss_cons (ps_set (i := 11) nd rfl (Or.inl rfl) (pe_op op_mod (pe_op op_fdiv (pe_callO G__law_cell (hr.mono (by decide)) pass0 (pa_cons (pv 0) (pa_cons pe_int pa_nil))) pe_int) (pv 1)))
        (pss_one (ps_set (i := 9) nd rfl (Or.inl rfl) (pe_op op_cat (pv 9) (pe_lst (pa_cons (pe_tup (pa_cons (pe_ix ix_list (pv 2) (pv 11) (fun _ _ => rfl)) (pa_cons (pe_op op_mod (pe_op op_fdiv (pe_callO G__law_cell (hr.mono (by decide)) pass0 (pa_cons (pv 0) (pa_cons pe_int pa_nil))) pe_int) pe_int) pa_nil))) pa_nil)))))) pss_nil)
      (Evl.pss_cut (ps_set (i := 12) nd rfl (Or.inl rfl) (pe_callTy call_list_of (by rfl) T.n_list (by decide +kernel) (pa_cons (pv 9) pa_nil)))
      (pss_cons (L2N.ps_try_as (i := 14) (Wout := fun _ _ _ _ => False) rfl rfl nd rfl rfl ⟨rfl, by decide, Or.inl T.x_ArchiveError.g⟩ takesN
        (fun W pn xe tk po => 
          (pss_one (ps_set (i := 13) nd rfl (Or.inl rfl) (pe_callT G_interpolate (hr.mono (by decide)) (fun σ => L2N.passAt tk σ) (pa_cons (pv 12) pa_nil)))))
        (fun a oe cls d pn hz hf => pss_guard (p := cls = .ref C_InvalidSymbol ∧ d = none) (fun ee => by obtain ⟨e1, e2⟩ := ee; subst e1 e2; exact 
          (pss_one (ps_ret (pe_and (pe_callB (call_isE T.x_InvalidSymbol.e hz.zc hf) (by rfl) T.n_isinstance (by decide +kernel) (pa_cons (pv 14) (pa_cons (pe_globR rfl T.x_InvalidSymbol.g) pa_nil))) (pe_one (pv 10))))))))
      (pss_cons (ps_if (PW.pt (pw_or (pt_val (pv 10)) (pw_or (pt_not (pt_val (pe_callO G__law_is_list (hr.mono (by decide)) pass0 (pa_cons (pv 13) (pa_cons pe_int (pa_cons pe_int pa_nil)))))) (pw_or (pt_cmpR op_gt (pe_callB call_len_seq (by rfl) T.n_len PySem.boot_len (pa_cons (pv 13) pa_nil)) (pv 1) (nomark _)) (pw_or (pt_cmpR (op_neD hu64) (pe_callO G__law_reduced (hr.mono (by decide)) pass0 (pa_cons (pv 13) pa_nil)) (pv 13) (nomark _)) (pw_or1 (pt_cmpR (op_neD hu64) (pv 12) (pv 9) (nomark _))))))))
        (pss_one (ps_ret pe_bl)) pss_nil)
      (pss_cons (ps_for PassesOwn.never rfl (pi_list (pv 9)) (pg_tup rfl (pgs_cons (pg_name (i := 8) nd rfl (Or.inl rfl)) (pgs_cons (pg_name (i := 15) nd rfl (Or.inl rfl)) pgs_nil)))
        (pss_one (ps_if (pt_cmpR op_ne (pe_callO G__law_value_at (hr.mono (by decide)) pass0 (pa_cons (pv 13) (pa_cons (pv 8) pa_nil))) (pv 15) (nomark _))
          (pss_one (ps_ret pe_bl)) pss_nil)))
      (pss_one (ps_ret (pe_or (pe_not (pv 7)) (pe_one (pe_cmpR (op_eqD hu64) (pv 13) (pe_callO G__law_reduced (hr.mono (by decide)) pass0 (pa_cons (pv 5) pa_nil)) (nomark _)))))))))))))))))))), ?_⟩
    -- count
    refine ⟨fun σ' H' => H = H' ∧ ∃ cn : Nat, cn ≤ 16 ∧ σ' = [some (.ref a), some (.int (cn : Int)), none, none, none, none, none, none, none, none, none, none, none, none, none, none], ?_, ?_⟩
    · obtain ⟨cn, hcn, hc17⟩ : ∃ cn : Nat, cell ns 0 % 17 = (cn : Int) ∧ cn ≤ 16 := ⟨(cell ns 0 % 17).toNat, by omega, by omega⟩
      refine ⟨_, rfl, a, ns, 0, rfl, hS, _, _, rfl, rfl, (by show (0 : Int) < 17; decide), rfl, cn, hc17, ?_⟩
      rw [← hcn]
      rfl
    rintro σ1 H1 ⟨rfl, cn, hcn, rfl⟩
    -- points
    refine ⟨by decide, fun p1 hp1 => ?_⟩
    refine ⟨fun σ' H' => Same H H' ∧ ∃ (gp : List G) (v3 : Option V), gp.Nodup ∧ gp.length = cn ∧ H' p1 = some (.lst (gp.map vg)) ∧ σ' = [some (.ref a), some (.int (cn : Int)), some (.ref p1), v3, none, none, none, none, none, none, none, none, none, none, none, none], ?_, ?_⟩
    · obtain ⟨gl1, hgl1, eL⟩ := row_vg (cell ns 1) 16
      have e0 := same_upd (o := .lst []) hp1
      refine ⟨_, rfl, a, ns, 1, rfl, e0.seq hS, cell ns 1, 16, 16, rfl, by decide, by decide, by decide, fun r1 H1 hr1 e1 hR1 => ?_⟩
      rw [eL] at hR1
      have e01 := e0.trans e1
      refine ⟨(16 : Int), rfl, by decide, by decide, fun D hD => lc_range (lo := 0) (n := 16) (fun i H' => Same H1 H' ∧ H' D = some (.lst (((List.range i).map fun j : Nat => gOf (cell ns 0 + j)).map vg))) ⟨same_upd hD, upd_same⟩ ?_ ?_⟩
      · rintro i H' hi ⟨e2, hDl⟩
        refine ⟨rfl, ?_⟩
        dsimp only [tYes]
        try rw [if_pos rfl]
        refine ⟨_, rfl, a, ns, 0, rfl, (e01.trans e2).seq hS, _, rfl, _, _, rfl, rfl, .inl ⟨_, rfl, _, _, rfl, rfl, (by show (0 : Int) < 16; decide), _, hDl, small (by simp; omega), same_new e2 hD, ?_⟩⟩
        rw [upd_same, List.range_succ, List.map_append, List.map_append]
        show some (HO.lst (_ ++ [V.int ((cell ns 0 + (0 + (i : Int))) % 16)])) = some (HO.lst (_ ++ [vg (gOf (cell ns 0 + i))]))
        rw [vg_gOf, Int.zero_add]
      · rintro H2 ⟨e2, hDl⟩
        refine ⟨r1, D, _, _, rfl, rfl, e2 _ _ hR1, hDl, smallE (by simp; omega), fun q hq => ?_⟩
        have e02 := e01.trans e2
        have hall : ∀ g : G, g ∈ gl1 ++ (List.range 16).map fun j : Nat => gOf (cell ns 0 + j) := fun g => List.mem_append_right _ (gOf_all _ g)
        rw [← List.map_append]
        have hLn : (gl1 ++ (List.range 16).map fun j : Nat => gOf (cell ns 0 + j)).length = 32 := by simp; omega
        generalize (gl1 ++ (List.range 16).map fun j : Nat => gOf (cell ns 0 + j)) = L at hall hLn ⊢
        have hp2 : H2 p1 = some (.lst []) := e2 _ _ (e1 _ _ upd_same)
        have hpq : p1 ≠ q := ne_of_none hp2 hq
        have e03 := e02.trans (same_upd (o := .lst (L.map vg)) hq)
        refine ⟨q, rfl, ⟨_, SqL.of upd_same⟩, for_list (K := K) (a := q) (xs := L.map vg) (fun i σ H' => Same H H' ∧ H' q = some (.lst (L.map vg)) ∧ ∃ (gp : List G) (v3 : Option V), gp.Nodup ∧ gp.length ≤ cn ∧ (gp.length = cn ∨ ∀ g ∈ L.take i, g ∈ gp) ∧ H' p1 = some (.lst (gp.map vg)) ∧ σ = [some (.ref a), some (.int (cn : Int)), some (.ref p1), v3, none, none, none, none, none, none, none, none, none, none, none, none]) ?_ (fun i σ H' _ ⟨_, h, _⟩ => SqL.of h) ?_ ?_⟩
        · exact ⟨(same_upd hp1).trans (e1.trans (e2.trans (same_upd hq))), upd_same, [], none, List.nodup_nil, Nat.zero_le _, .inr (fun g h => nomatch h), same_upd hq _ _ hp2, rfl⟩
        · rintro i y σ H' hi ⟨e, hQ, gp, v3, gnd, gln, gor, hP, rfl⟩
          obtain ⟨hiL, rfl⟩ := get_vg hi
          have hnew : ∀ g ∈ L.take (i + 1), g = co L i ∨ g ∈ L.take i := fun g hg => by
            rw [take_snoc hiL] at hg
            rcases List.mem_append.mp hg with h | h
            · exact .inr h
            · rw [co_in hiL]
              exact .inl (List.mem_singleton.mp h)
          refine ⟨_, rfl, _, rfl, p1, _, rfl, .inl (SqL.of hP), rfl, flat_vg gp, _, rfl, ?_⟩
          show if (!inV (vg (co L i)) (gp.map vg)) = true then _ else _
          rw [inV_vg]
          by_cases hm : co L i ∈ gp
          · rw [decide_eq_true hm]
            refine iteF ?_
            refine iteF ?_
            refine ⟨e, hQ, gp, _, gnd, gln, ?_, hP, rfl⟩
            rcases gor with h | h
            · exact .inl h
            · exact .inr fun g hg => (hnew g hg).elim (fun z => z ▸ hm) (h g)
          · rw [decide_eq_false hm]
            refine iteT ?_
            refine ⟨_, rfl, p1, _, rfl, .inl (SqL.of hP), _, rfl, _, _, rfl, rfl, _, rfl, itd (fun h => ?_) (fun h => ?_)⟩
            · rw [List.length_map] at h
              refine ⟨_, rfl, .inl ⟨rfl, _, SqL.of hP⟩, _, rfl, p1, _, _, rfl, rfl, hP, small (by rw [List.length_map]; omega), ?_⟩
              refine ⟨same_new e hp1, by rw [upd_ne (Ne.symm hpq)]; exact hQ, gp ++ [co L i], _, ?_, by rw [List.length_append]; show gp.length + 1 ≤ cn; omega, .inr fun g hg => ?_, by rw [upd_same, List.map_append]; rfl, rfl⟩
              · rw [List.nodup_append]
                refine ⟨gnd, by simp, fun x hx y hy e => ?_⟩
                have hy' : y = co L i := List.mem_singleton.mp hy
                rw [e, hy'] at hx
                exact hm hx
              · rcases gor with h' | h'
                · omega
                · rcases hnew g hg with z | z
                  · exact List.mem_append_right _ (by rw [z]; exact List.mem_singleton.mpr rfl)
                  · exact List.mem_append_left _ (h' g z)
            · rw [List.length_map] at h
              exact ⟨e, hQ, gp, _, gnd, gln, .inl (by omega), hP, rfl⟩
        · rintro σ H' ⟨e, hQ, gp, v3, gnd, gln, gor, hP, rfl⟩
          refine ⟨e, gp, v3, gnd, ?_, hP, rfl⟩
          rcases gor with h | h
          · exact h
          · rw [List.length_map, List.take_length] at h
            have z := all_G fun g => h g (hall g)
            omega
    rintro σ2 H2 ⟨e2, gp, v3, gnd, gln, hP, rfl⟩
    have hS2 := e2.seq hS
    -- poly, values
    obtain ⟨n2, hn2, hn2c⟩ : ∃ n2 : Nat, cell ns 3 % ((cn : Int) + 1) = (n2 : Int) ∧ n2 ≤ cn := by
      have z1 := Int.emod_nonneg (cell ns 3) (show ((cn : Int) + 1) ≠ 0 by omega)
      have z2 := Int.emod_lt_of_pos (cell ns 3) (show (0 : Int) < (cn : Int) + 1 by omega)
      exact ⟨(cell ns 3 % ((cn : Int) + 1)).toNat, by omega, by omega⟩
    obtain ⟨gq, hgq, eQ⟩ := row_vg (cell ns 2) n2
    obtain ⟨gv1, hgv1, eV⟩ := row_vg (cell ns 2) cn
    refine ⟨_, rfl, a, ns, 2, rfl, hS2, _, rfl, a, ns, 3, rfl, hS2, _, rfl, _, _, rfl, rfl, _, _, rfl, rfl, (by show (0 : Int) < cn + 1; omega), cell ns 2, n2, 16, by show [V.int (cell ns 2), V.int (cell ns 3 % ((cn : Int) + 1)), V.int 16] = _; rw [hn2], by omega, by decide, by decide, fun p5 H3 hp5 e3 hQ3 => ?_⟩
    rw [eQ] at hQ3
    refine ⟨fun σ' H' => Same H2 H' ∧ ∃ p6 : Addr, H' p5 = some (.lst (gq.map vg)) ∧ H' p6 = some (.lst (gv1.map vg)) ∧ σ' = [some (.ref a), some (.int (cn : Int)), some (.ref p1), v3, none, some (.ref p5), some (.ref p6), none, none, none, none, none, none, none, none, none], ?_, ?_⟩
    · refine ⟨_, rfl, a, ns, 2, rfl, e3.seq hS2, _, rfl, cell ns 2, cn, 16, rfl, by omega, by decide, by decide, fun p6 H4 hp6 e4 hV4 => ?_⟩
      rw [eV] at hV4
      exact ⟨e3.trans e4, p6, e4 _ _ hQ3, hV4, rfl⟩
    rintro σ4 H4 ⟨e4, p6, hQ4, hV4, rfl⟩
    have hS4 := e4.seq hS2
    have hP4 := e4 _ _ hP
    -- known
    refine ⟨fun σ' H' => H4 = H' ∧ ∃ kb : Bool, σ' = [some (.ref a), some (.int (cn : Int)), some (.ref p1), v3, none, some (.ref p5), some (.ref p6), some (.bl kb), none, none, none, none, none, none, none, none], ?_, ?_⟩
    · exact ⟨_, rfl, a, ns, 3, rfl, hS4, _, _, rfl, rfl, ⟨by decide, by decide⟩, _, _, rfl, rfl, (by show (0 : Int) < 2; decide), rfl, rfl, _, rfl⟩
    rintro σ5 H5 ⟨rfl, kb, rfl⟩
    -- if known: values = [..]
    refine ⟨fun σ' H' => Same H4 H' ∧ ∃ (p6 : Addr) (gv : List G), gv.length = cn ∧ (kb = true → gv = gp.map fun x => hor x gq) ∧ H' p6 = some (.lst (gv.map vg)) ∧ σ' = [some (.ref a), some (.int (cn : Int)), some (.ref p1), v3, none, some (.ref p5), some (.ref p6), some (.bl kb), none, none, none, none, none, none, none, none], ?_, ?_⟩
    · cases kb with
      | false => exact ⟨_, rfl, false, rfl, Same.refl _, p6, gv1, hgv1, (fun z => nomatch z), hV4, rfl⟩
      | true =>
        refine ⟨_, rfl, true, rfl, _, rfl, p1, rfl, ⟨_, SqL.of hP4⟩, fun D hD => lc_list (K := K) (a := p1) (xs := gp.map vg) (fun i H' => Same H4 H' ∧ H' D = some (.lst (((gp.take i).map fun x => hor x gq).map vg))) ⟨same_upd hD, upd_same⟩ (fun i H' _ ⟨e, _⟩ => e.seq (SqL.of hP4)) ?_ ?_⟩
        · rintro i x H' hx ⟨e, hDl⟩
          obtain ⟨hig, rfl⟩ := get_vg hx
          refine ⟨rfl, ?_⟩
          dsimp only [tYes]
          try rw [if_pos rfl]
          refine ⟨_, rfl, _, rfl, p5, gq, co gp i, rfl, e.seq (SqL.of hQ4), fun H2 e2 => ⟨_, e2 _ _ hDl, small (by simp; omega), same_new (e.trans e2) hD, ?_⟩⟩
          rw [upd_same, take_snoc hig, List.map_append, List.map_append, co_in hig]
          rfl
        · rintro H' ⟨e, hDl⟩
          rw [List.length_map, List.take_length] at hDl
          exact ⟨e, D, _, by rw [List.length_map]; exact gln, fun _ => rfl, hDl, rfl⟩
    clear hV4 hgv1 eV
    rintro σ6 H6 ⟨e6, p6, gv, hgv, hkb, hV6, rfl⟩
    have hS6 := e6.seq hS4
    have hP6 := e6 _ _ hP4
    have hQ6 := e6 _ _ hQ4
    have hpz : (gp.zip gv).map (·.1) = gp := by rw [List.map_fst_zip (by omega)]
    have hzl : (gp.zip gv).length = cn := by rw [List.length_zip]; omega
    have hzv : (gp.map vg).zip (gv.map vg) = (gp.zip gv).map fun q => (vg q.1, vg q.2) := by rw [List.zip_map]; rfl
    -- pairs
    refine ⟨fun σ' H' => Same H6 H' ∧ ∃ (p9 : Addr) (ts : List Addr), Paired (fun (t : Addr) (q : G × G) => H' t = some (.tup [vg q.1, vg q.2])) ts (gp.zip gv) ∧ H' p9 = some (.lst (ts.map V.ref)) ∧ σ' = [some (.ref a), some (.int (cn : Int)), some (.ref p1), v3, none, some (.ref p5), some (.ref p6), some (.bl kb), none, some (.ref p9), none, none, none, none, none, none], ?_, ?_⟩
    · refine ⟨_, rfl, _, rfl, p1, p6, gp.map vg, gv.map vg, rfl, SqL.of hP6, SqL.of hV6, by rw [List.length_map, List.length_map]; omega, fun H' p9 ts e _ _ _ h9 hT => ⟨e, p9, ts, ?_, h9, rfl⟩⟩
      rw [hzv] at hT
      exact paired_map (f := fun q : G × G => (vg q.1, vg q.2)) (R := fun (t : Addr) (q : V × V) => H' t = some (.tup [q.1, q.2])) hT
    rintro σ7 H7 ⟨e7, p9, ts, hT, h9, rfl⟩
    have hS7 := e7.seq hS6
    -- twice
    refine ⟨fun σ' H' => H7 = H' ∧ ∃ tb : Bool, (tb = true → 0 < cn) ∧ σ' = [some (.ref a), some (.int (cn : Int)), some (.ref p1), v3, none, some (.ref p5), some (.ref p6), some (.bl kb), none, some (.ref p9), some (.bl tb), none, none, none, none, none], ?_, ?_⟩
    · refine ⟨_, rfl, a, ns, 4, rfl, hS7, _, _, rfl, rfl, (by show (0 : Int) < 5; decide), rfl, _, rfl, itd (fun h => ?_) (fun h => ?_)⟩
      · exact ⟨_, rfl, _, _, rfl, rfl, rfl, _, fun z => by simpa using z, rfl⟩
      · exact ⟨rfl, _, fun z => by simp [h] at z, rfl⟩
    rintro σ8 H8 ⟨rfl, tb, htb, rfl⟩
    have hP7 := e7 _ _ hP6
    have hQ7 := e7 _ _ hQ6
    -- if twice: ..
    refine ⟨fun σ' H' => Same H7 H' ∧ ∃ (p9 : Addr) (ts : List Addr) (pts : List (G × G)) (v11 : Option V), Paired (fun (t : Addr) (q : G × G) => H' t = some (.tup [vg q.1, vg q.2])) ts pts ∧ H' p9 = some (.lst (ts.map V.ref)) ∧ pts.length ≤ 17 ∧ (tb = true → ¬ (pts.map (·.1)).Nodup) ∧ (tb = false → pts = gp.zip gv) ∧ σ' = [some (.ref a), some (.int (cn : Int)), some (.ref p1), v3, none, some (.ref p5), some (.ref p6), some (.bl kb), none, some (.ref p9), some (.bl tb), v11, none, none, none, none], ?_, ?_⟩
    · cases tb with
      | false => exact ⟨_, rfl, false, rfl, Same.refl _, p9, ts, gp.zip gv, none, hT, h9, by omega, (fun z => nomatch z), fun _ => rfl, rfl⟩
      | true =>
        have hc0 := htb rfl
        obtain ⟨n11, hn11, hlt⟩ : ∃ n11 : Nat, cell ns 4 / 5 % (cn : Int) = (n11 : Int) ∧ n11 < cn := by
          have z1 := Int.emod_nonneg (cell ns 4 / 5) (show (cn : Int) ≠ 0 by omega)
          have z2 := Int.emod_lt_of_pos (cell ns 4 / 5) (show (0 : Int) < (cn : Int) by omega)
          exact ⟨(cell ns 4 / 5 % (cn : Int)).toNat, by omega, by omega⟩
        refine ⟨_, rfl, true, rfl, _, rfl, a, ns, 4, rfl, hS7, _, _, rfl, rfl, ⟨by decide, by decide⟩, _, rfl, _, _, rfl, rfl, (by show (0 : Int) < cn; omega), ?_⟩
        refine ⟨_, rfl, _, rfl, _, rfl, p1, _, _, vg (co gp n11), rfl, rfl, SqL.of hP7, at_nat (j := n11) hn11 (vg_get (by omega)), _, rfl, a, ns, 4, rfl, hS7, _, _, rfl, rfl, ⟨by decide, by decide⟩, _, _, rfl, rfl, (by show (0 : Int) < 16; decide), (by show 2 ≤ sizeLine; decide), fun t ht => ⟨(by show 1 ≤ sizeLine; decide), fun l hl => ?_⟩⟩
        have f1 := same_upd (o := .tup [vg (co gp n11), V.int (cell ns 4 / 100 % 16)]) ht
        have f2 := same_upd (o := .lst [V.ref t]) hl
        refine ⟨p9, l, _, _, rfl, rfl, f2 _ _ (f1 _ _ h9), upd_same, smallE (by simp; have := hT.length; omega), fun q hq => ?_⟩
        have f3 := (f1.trans f2).trans (same_upd (o := .lst (ts.map V.ref ++ [V.ref t])) hq)
        refine ⟨f3, q, ts ++ [t], gp.zip gv ++ [(co gp n11, gOf (cell ns 4 / 100))], _, paired_snoc (paired_imp (fun x y h => f3 _ _ h) hT) ?_, by rw [upd_same, List.map_append]; rfl, by rw [List.length_append]; show (gp.zip gv).length + 1 ≤ 17; omega, fun _ hn => ?_, (fun z => nomatch z), rfl⟩
        · rw [vg_gOf]
          exact same_upd hq _ _ (f2 _ _ upd_same)
        · rw [List.map_append, hpz, List.nodup_append] at hn
          refine hn.2.2 (co gp n11) ?_ (co gp n11) (by simp) rfl
          rw [co_in (by omega)]
          exact List.getElem_mem _
    clear hT h9
    rintro σ9 H9 ⟨e9, p9, ts, pts, v11, hT, h9, hpl, htt, htf, rfl⟩
    have hS9 := e9.seq hS7
    have hQ9 := e9 _ _ hQ7
    have hnd : tb = false → (pts.map (·.1)).Nodup := fun h => by
      rw [htf h, hpz]
      exact gnd
    -- copy
    refine ⟨fun σ' H' => Same H9 H' ∧ ∃ p12 : Addr, H' p12 = some (.lst (ts.map V.ref)) ∧ σ' = [some (.ref a), some (.int (cn : Int)), some (.ref p1), v3, none, some (.ref p5), some (.ref p6), some (.bl kb), none, some (.ref p9), some (.bl tb), v11, some (.ref p12), none, none, none], ?_, ?_⟩
    · exact ⟨_, rfl, p9, _, rfl, .inl (SqL.of h9), fun p12 h12 => ⟨same_upd h12, p12, upd_same, rfl⟩⟩
    rintro σa Ha ⟨ea, p12, h12, rfl⟩
    have hTa := paired_imp (S := fun (t : Addr) (q : G × G) => Ha t = some (.tup [vg q.1, vg q.2])) (fun x y h => ea _ _ h) hT
    have h9a := ea _ _ h9
    have hQa := ea _ _ hQ9
    refine ⟨_, rfl, p12, ts, pts, rfl, SqL.of h12, paired_imp (fun x y h => SqT.of h) hTa, by omega, fun hno H' e => ?_, fun hyes r hr hrl hrv ar Hb eb hR => ?_⟩
    · refine ⟨true, exm_own T.x_ArchiveError.toXB T.s_InvalidSymbol_ArchiveError, fun _ ea hea => ⟨⟨rfl, rfl⟩, ?_⟩, fun q => nomatch q⟩
      refine ⟨_, rfl, _, _, true, rfl, fun _ h => h, T.q_InvalidSymbol_InvalidSymbol, true, rfl, iteT ?_⟩
      cases tb with
      | false => exact absurd (hnd rfl) hno
      | true => exact ⟨_, rfl, kQ _⟩
    · cases tb with
      | true => exact absurd hyes (htt rfl)
      | false =>
        have hpts := htf rfl
        have hpc : pts.length = cn := by rw [hpts]; exact hzl
        have hTb := paired_imp (S := fun (t : Addr) (q : G × G) => Hb t = some (.tup [vg q.1, vg q.2])) (fun x y h => eb _ _ h) hTa
        have h9b := eb _ _ h9a
        have hcb := eb _ _ h12
        have hQb := eb _ _ hQa
        refine ⟨_, rfl, false, rfl, iteF ⟨_, rfl, ar, _, 0, 15, rfl, sq_gi (SqL.of hR), _, rfl, ?_⟩⟩
        rw [allIn_gi]
        refine iteF ⟨_, rfl, ar, _, rfl, .inl (SqL.of hR), _, rfl, _, _, rfl, rfl, _, rfl, itd (fun h => absurd h (by rw [List.length_map]; omega)) (fun _ => ?_)⟩
        refine ⟨_, rfl, ar, r, rfl, SqL.of hR, by omega, fun y1 Hc hy1 ec hY1 => ⟨_, rfl, _, _, dp_gl (SqL.of hY1), dp_gl (SqL.of (ec _ _ hR)), shaped_ints _, shaped_ints _, ne_no (by rw [hr]; exact eqv_self _) ?_⟩⟩
        have hTc := paired_imp (S := fun (t : Addr) (q : G × G) => Hc t = some (.tup [vg q.1, vg q.2])) (fun x y h => ec _ _ h) hTb
        refine ⟨_, rfl, _, rfl, _, _, dp_pts (SqL.of (ec _ _ hcb)) hTc, dp_pts (SqL.of (ec _ _ h9b)) hTc, shaped_pts _, shaped_pts _, ne_no (eqv_refl' (shaped_pts _)) ?_⟩
        refine ⟨_, rfl, p9, rfl, ⟨_, SqL.of (ec _ _ h9b)⟩, for_list (K := K) (a := p9) (xs := ts.map V.ref) (fun i σ H' => Same Hc H' ∧ ∃ v8 v15, σ = [some (.ref a), some (.int (cn : Int)), some (.ref p1), v3, none, some (.ref p5), some (.ref p6), some (.bl kb), v8, some (.ref p9), some (.bl false), v11, some (.ref p12), some (.ref ar), none, v15]) ⟨Same.refl _, none, none, rfl⟩ (fun i σ H' _ ⟨e, _⟩ => e.seq (SqL.of (ec _ _ h9b))) ?_ ?_⟩
        · rintro i y σ H' hi ⟨e, v8, v15, rfl⟩
          obtain ⟨t, ht, rfl⟩ := get_refs hi
          obtain ⟨⟨x, y⟩, hq, hTq⟩ := LiI.paired_get hTc ht
          have hm : (x, y) ∈ pts := List.mem_of_getElem? hq
          refine ⟨t, _, rfl, SqT.of (e _ _ hTq), rfl, _, _, rfl, _, _, rfl, rfl, ?_⟩
          refine ⟨_, rfl, _, rfl, ar, r, x, rfl, SqL.of (e _ _ (ec _ _ hR)), fun H2 e2 => ⟨_, rfl, rfl, nm_no (congrArg vg (hrv _ hm)) ?_⟩⟩
          exact ⟨e.trans e2, _, _, rfl⟩
        · rintro σ H' ⟨e, v8, v15, rfl⟩
          cases kb with
          | false => exact ⟨_, rfl, false, rfl, true, rfl, iteT (kQ _)⟩
          | true =>
            refine ⟨_, rfl, true, rfl, false, rfl, iteF ?_⟩
            have hv := hkb rfl
            have hsame : r = red gq := by
              rw [← hr]
              refine same_poly gnd (by omega) (by omega) fun x hx => ?_
              have z : (x, hor x gq) ∈ pts := by
                rw [hpts, hv]
                exact zip_self _ hx
              exact hrv _ z
            refine ⟨_, rfl, _, rfl, p5, gq, rfl, SqL.of (e _ _ (ec _ _ hQb)), by omega, fun y2 Hd hy2 ed hY2 => ⟨_, _, dp_gl (SqL.of (ed _ _ (e _ _ (ec _ _ hR)))), dp_gl (SqL.of hY2), shaped_ints _, shaped_ints _, ?_⟩⟩
            have fin : PyData.eqv (.list ((r.map gi).map PyData.int)) (.list (((red gq).map gi).map PyData.int)) = true := by
              rw [hsame]
              exact eqv_self _
            exact to_true (Q := Q) fin (kQ _)

end
theorem law_mk {P : Program} {w : World} {K : PySem.W.Frag} {mg : Str → Option Value} {C_ArchiveError C_InvalidSymbol : Addr} {C_fa : Addr} (T : Txt K mg C_ArchiveError C_InvalidSymbol) (hfa : mg "law" = some (.ref C_fa)) : ∃ fd : FuncData, (∀ (s : Shared) (v : Value), BindsTo s fd ⟨[v], []⟩ [("script", v)]) ∧ ∀ base : Heap, K.In base → base.Ns mainGlobals mg → FnOk P w K mg base CX0 5 C_fa fd ["script"] (spLaw K) := by
  obtain ⟨f, fd, F, g, b⟩ := id T.d_law
  have e := hfa.symm.trans g
  cases e
  refine ⟨fd, fun s v => ?_, fun base _ _ => ?_⟩
  · obtain ⟨oc, od, kV, doc, pm, an, cdv, ct, osl, rfl, lk, hcd⟩ := F.ex
    exact .of_eq rfl
  · exact ok_law0 T _ fd F
theorem law_end {P : Program} {w : World} {K : PySem.W.Frag} {h : Heap} {mg : Str → Option Value} {fa : Addr} {C_ArchiveError C_InvalidSymbol : Addr} {f_is_symbol : Addr} {oc_is_symbol kV_is_symbol dc_is_symbol pm_is_symbol cd_is_symbol ct_is_symbol : Value} {od_is_symbol an_is_symbol : Option Addr} {sl_is_symbol : Array (Option Value)} {f_multiply : Addr} {oc_multiply kV_multiply dc_multiply pm_multiply cd_multiply ct_multiply : Value} {od_multiply an_multiply : Option Addr} {sl_multiply : Array (Option Value)} {f_inverse : Addr} {oc_inverse kV_inverse dc_inverse pm_inverse cd_inverse ct_inverse : Value} {od_inverse an_inverse : Option Addr} {sl_inverse : Array (Option Value)} {f_scaled : Addr} {oc_scaled kV_scaled dc_scaled pm_scaled cd_scaled ct_scaled : Value} {od_scaled an_scaled : Option Addr} {sl_scaled : Array (Option Value)} {f__check_symbol : Addr} {oc__check_symbol kV__check_symbol dc__check_symbol pm__check_symbol cd__check_symbol ct__check_symbol : Value} {od__check_symbol an__check_symbol : Option Addr} {sl__check_symbol : Array (Option Value)} {f_reduced : Addr} {oc_reduced kV_reduced dc_reduced pm_reduced cd_reduced ct_reduced : Value} {od_reduced an_reduced : Option Addr} {sl_reduced : Array (Option Value)} {f_add_polynomials : Addr} {oc_add_polynomials kV_add_polynomials dc_add_polynomials pm_add_polynomials cd_add_polynomials ct_add_polynomials : Value} {od_add_polynomials an_add_polynomials : Option Addr} {sl_add_polynomials : Array (Option Value)} {f_multiply_polynomials : Addr} {oc_multiply_polynomials kV_multiply_polynomials dc_multiply_polynomials pm_multiply_polynomials cd_multiply_polynomials ct_multiply_polynomials : Value} {od_multiply_polynomials an_multiply_polynomials : Option Addr} {sl_multiply_polynomials : Array (Option Value)} {f_evaluate : Addr} {oc_evaluate kV_evaluate dc_evaluate pm_evaluate cd_evaluate ct_evaluate : Value} {od_evaluate an_evaluate : Option Addr} {sl_evaluate : Array (Option Value)} {f_interpolate : Addr} {oc_interpolate kV_interpolate dc_interpolate pm_interpolate cd_interpolate ct_interpolate : Value} {od_interpolate an_interpolate : Option Addr} {sl_interpolate : Array (Option Value)} {f__law_cell : Addr} {oc__law_cell kV__law_cell dc__law_cell pm__law_cell cd__law_cell ct__law_cell : Value} {od__law_cell an__law_cell : Option Addr} {sl__law_cell : Array (Option Value)} {f__law_mix : Addr} {oc__law_mix kV__law_mix dc__law_mix pm__law_mix cd__law_mix ct__law_mix : Value} {od__law_mix an__law_mix : Option Addr} {sl__law_mix : Array (Option Value)} {f__law_row : Addr} {oc__law_row kV__law_row dc__law_row pm__law_row cd__law_row ct__law_row : Value} {od__law_row an__law_row : Option Addr} {sl__law_row : Array (Option Value)} {f__law_is_int : Addr} {oc__law_is_int kV__law_is_int dc__law_is_int pm__law_is_int cd__law_is_int ct__law_is_int : Value} {od__law_is_int an__law_is_int : Option Addr} {sl__law_is_int : Array (Option Value)} {f__law_is_list : Addr} {oc__law_is_list kV__law_is_list dc__law_is_list pm__law_is_list cd__law_is_list ct__law_is_list : Value} {od__law_is_list an__law_is_list : Option Addr} {sl__law_is_list : Array (Option Value)} {f__law_times : Addr} {oc__law_times kV__law_times dc__law_times pm__law_times cd__law_times ct__law_times : Value} {od__law_times an__law_times : Option Addr} {sl__law_times : Array (Option Value)} {f__law_value_at : Addr} {oc__law_value_at kV__law_value_at dc__law_value_at pm__law_value_at cd__law_value_at ct__law_value_at : Value} {od__law_value_at an__law_value_at : Option Addr} {sl__law_value_at : Array (Option Value)} {f__law_reduced : Addr} {oc__law_reduced kV__law_reduced dc__law_reduced pm__law_reduced cd__law_reduced ct__law_reduced : Value} {od__law_reduced an__law_reduced : Option Addr} {sl__law_reduced : Array (Option Value)} {f_law : Addr} {oc_law kV_law dc_law pm_law cd_law ct_law : Value} {od_law an_law : Option Addr} {sl_law : Array (Option Value)} {t_SYMBOLS : Tok} {p_PRODUCTS : Addr} {od_PRODUCTS : Option Addr} {sl_PRODUCTS : Array (Option Value)} {n_PRODUCTS : Nat} {its_PRODUCTS : Array Value} {r0_PRODUCTS : Addr} {rz0_PRODUCTS : Array (Option Value)} {rn0_PRODUCTS : Nat} {ri0_PRODUCTS : Array Value} {r1_PRODUCTS : Addr} {rz1_PRODUCTS : Array (Option Value)} {rn1_PRODUCTS : Nat} {ri1_PRODUCTS : Array Value} {r2_PRODUCTS : Addr} {rz2_PRODUCTS : Array (Option Value)} {rn2_PRODUCTS : Nat} {ri2_PRODUCTS : Array Value} {r3_PRODUCTS : Addr} {rz3_PRODUCTS : Array (Option Value)} {rn3_PRODUCTS : Nat} {ri3_PRODUCTS : Array Value} {r4_PRODUCTS : Addr} {rz4_PRODUCTS : Array (Option Value)} {rn4_PRODUCTS : Nat} {ri4_PRODUCTS : Array Value} {r5_PRODUCTS : Addr} {rz5_PRODUCTS : Array (Option Value)} {rn5_PRODUCTS : Nat} {ri5_PRODUCTS : Array Value} {r6_PRODUCTS : Addr} {rz6_PRODUCTS : Array (Option Value)} {rn6_PRODUCTS : Nat} {ri6_PRODUCTS : Array Value} {r7_PRODUCTS : Addr} {rz7_PRODUCTS : Array (Option Value)} {rn7_PRODUCTS : Nat} {ri7_PRODUCTS : Array Value} {r8_PRODUCTS : Addr} {rz8_PRODUCTS : Array (Option Value)} {rn8_PRODUCTS : Nat} {ri8_PRODUCTS : Array Value} {r9_PRODUCTS : Addr} {rz9_PRODUCTS : Array (Option Value)} {rn9_PRODUCTS : Nat} {ri9_PRODUCTS : Array Value} {r10_PRODUCTS : Addr} {rz10_PRODUCTS : Array (Option Value)} {rn10_PRODUCTS : Nat} {ri10_PRODUCTS : Array Value} {r11_PRODUCTS : Addr} {rz11_PRODUCTS : Array (Option Value)} {rn11_PRODUCTS : Nat} {ri11_PRODUCTS : Array Value} {r12_PRODUCTS : Addr} {rz12_PRODUCTS : Array (Option Value)} {rn12_PRODUCTS : Nat} {ri12_PRODUCTS : Array Value} {r13_PRODUCTS : Addr} {rz13_PRODUCTS : Array (Option Value)} {rn13_PRODUCTS : Nat} {ri13_PRODUCTS : Array Value} {r14_PRODUCTS : Addr} {rz14_PRODUCTS : Array (Option Value)} {rn14_PRODUCTS : Nat} {ri14_PRODUCTS : Array Value} {r15_PRODUCTS : Addr} {rz15_PRODUCTS : Array (Option Value)} {rn15_PRODUCTS : Nat} {ri15_PRODUCTS : Array Value} (X : K.In h) (G : h.Ns mainGlobals mg) (hfa : mg "law" = some (.ref fa))
    (a_is_symbol : PySem.W.nsIn K mainGlobals "is_symbol" = some (some (.ref f_is_symbol)))
    (l_is_symbol : K.lookup f_is_symbol = some ⟨oc_is_symbol, od_is_symbol, .func (PySem.W.fnOf "is_symbol" "is_symbol" (defArgs s_is_symbol) (defBody s_is_symbol) (defScope s_is_symbol) .none kV_is_symbol dc_is_symbol pm_is_symbol an_is_symbol cd_is_symbol ct_is_symbol), sl_is_symbol⟩)
    (c_is_symbol : PySem.W.codeIn K cd_is_symbol "is_symbol" = true)
    (k_is_symbol : PySem.W.keepIn K (.ref f_is_symbol) = true)
    (a_multiply : PySem.W.nsIn K mainGlobals "multiply" = some (some (.ref f_multiply)))
    (l_multiply : K.lookup f_multiply = some ⟨oc_multiply, od_multiply, .func (PySem.W.fnOf "multiply" "multiply" (defArgs s_multiply) (defBody s_multiply) (defScope s_multiply) .none kV_multiply dc_multiply pm_multiply an_multiply cd_multiply ct_multiply), sl_multiply⟩)
    (c_multiply : PySem.W.codeIn K cd_multiply "multiply" = true)
    (k_multiply : PySem.W.keepIn K (.ref f_multiply) = true)
    (a_inverse : PySem.W.nsIn K mainGlobals "inverse" = some (some (.ref f_inverse)))
    (l_inverse : K.lookup f_inverse = some ⟨oc_inverse, od_inverse, .func (PySem.W.fnOf "inverse" "inverse" (defArgs s_inverse) (defBody s_inverse) (defScope s_inverse) .none kV_inverse dc_inverse pm_inverse an_inverse cd_inverse ct_inverse), sl_inverse⟩)
    (c_inverse : PySem.W.codeIn K cd_inverse "inverse" = true)
    (k_inverse : PySem.W.keepIn K (.ref f_inverse) = true)
    (a_scaled : PySem.W.nsIn K mainGlobals "scaled" = some (some (.ref f_scaled)))
    (l_scaled : K.lookup f_scaled = some ⟨oc_scaled, od_scaled, .func (PySem.W.fnOf "scaled" "scaled" (defArgs s_scaled) (defBody s_scaled) (defScope s_scaled) .none kV_scaled dc_scaled pm_scaled an_scaled cd_scaled ct_scaled), sl_scaled⟩)
    (c_scaled : PySem.W.codeIn K cd_scaled "scaled" = true)
    (k_scaled : PySem.W.keepIn K (.ref f_scaled) = true)
    (a__check_symbol : PySem.W.nsIn K mainGlobals "_check_symbol" = some (some (.ref f__check_symbol)))
    (l__check_symbol : K.lookup f__check_symbol = some ⟨oc__check_symbol, od__check_symbol, .func (PySem.W.fnOf "_check_symbol" "_check_symbol" (defArgs s__check_symbol) (defBody s__check_symbol) (defScope s__check_symbol) .none kV__check_symbol dc__check_symbol pm__check_symbol an__check_symbol cd__check_symbol ct__check_symbol), sl__check_symbol⟩)
    (c__check_symbol : PySem.W.codeIn K cd__check_symbol "_check_symbol" = true)
    (k__check_symbol : PySem.W.keepIn K (.ref f__check_symbol) = true)
    (a_reduced : PySem.W.nsIn K mainGlobals "reduced" = some (some (.ref f_reduced)))
    (l_reduced : K.lookup f_reduced = some ⟨oc_reduced, od_reduced, .func (PySem.W.fnOf "reduced" "reduced" (defArgs s_reduced) (defBody s_reduced) (defScope s_reduced) .none kV_reduced dc_reduced pm_reduced an_reduced cd_reduced ct_reduced), sl_reduced⟩)
    (c_reduced : PySem.W.codeIn K cd_reduced "reduced" = true)
    (k_reduced : PySem.W.keepIn K (.ref f_reduced) = true)
    (a_add_polynomials : PySem.W.nsIn K mainGlobals "add_polynomials" = some (some (.ref f_add_polynomials)))
    (l_add_polynomials : K.lookup f_add_polynomials = some ⟨oc_add_polynomials, od_add_polynomials, .func (PySem.W.fnOf "add_polynomials" "add_polynomials" (defArgs s_add_polynomials) (defBody s_add_polynomials) (defScope s_add_polynomials) .none kV_add_polynomials dc_add_polynomials pm_add_polynomials an_add_polynomials cd_add_polynomials ct_add_polynomials), sl_add_polynomials⟩)
    (c_add_polynomials : PySem.W.codeIn K cd_add_polynomials "add_polynomials" = true)
    (k_add_polynomials : PySem.W.keepIn K (.ref f_add_polynomials) = true)
    (a_multiply_polynomials : PySem.W.nsIn K mainGlobals "multiply_polynomials" = some (some (.ref f_multiply_polynomials)))
    (l_multiply_polynomials : K.lookup f_multiply_polynomials = some ⟨oc_multiply_polynomials, od_multiply_polynomials, .func (PySem.W.fnOf "multiply_polynomials" "multiply_polynomials" (defArgs s_multiply_polynomials) (defBody s_multiply_polynomials) (defScope s_multiply_polynomials) .none kV_multiply_polynomials dc_multiply_polynomials pm_multiply_polynomials an_multiply_polynomials cd_multiply_polynomials ct_multiply_polynomials), sl_multiply_polynomials⟩)
    (c_multiply_polynomials : PySem.W.codeIn K cd_multiply_polynomials "multiply_polynomials" = true)
    (k_multiply_polynomials : PySem.W.keepIn K (.ref f_multiply_polynomials) = true)
    (a_evaluate : PySem.W.nsIn K mainGlobals "evaluate" = some (some (.ref f_evaluate)))
    (l_evaluate : K.lookup f_evaluate = some ⟨oc_evaluate, od_evaluate, .func (PySem.W.fnOf "evaluate" "evaluate" (defArgs s_evaluate) (defBody s_evaluate) (defScope s_evaluate) .none kV_evaluate dc_evaluate pm_evaluate an_evaluate cd_evaluate ct_evaluate), sl_evaluate⟩)
    (c_evaluate : PySem.W.codeIn K cd_evaluate "evaluate" = true)
    (k_evaluate : PySem.W.keepIn K (.ref f_evaluate) = true)
    (a_interpolate : PySem.W.nsIn K mainGlobals "interpolate" = some (some (.ref f_interpolate)))
    (l_interpolate : K.lookup f_interpolate = some ⟨oc_interpolate, od_interpolate, .func (PySem.W.fnOf "interpolate" "interpolate" (defArgs s_interpolate) (defBody s_interpolate) (defScope s_interpolate) .none kV_interpolate dc_interpolate pm_interpolate an_interpolate cd_interpolate ct_interpolate), sl_interpolate⟩)
    (c_interpolate : PySem.W.codeIn K cd_interpolate "interpolate" = true)
    (k_interpolate : PySem.W.keepIn K (.ref f_interpolate) = true)
    (a__law_cell : PySem.W.nsIn K mainGlobals "_law_cell" = some (some (.ref f__law_cell)))
    (l__law_cell : K.lookup f__law_cell = some ⟨oc__law_cell, od__law_cell, .func (PySem.W.fnOf "_law_cell" "_law_cell" (defArgs s__law_cell) (defBody s__law_cell) (defScope s__law_cell) .none kV__law_cell dc__law_cell pm__law_cell an__law_cell cd__law_cell ct__law_cell), sl__law_cell⟩)
    (c__law_cell : PySem.W.codeIn K cd__law_cell "_law_cell" = true)
    (k__law_cell : PySem.W.keepIn K (.ref f__law_cell) = true)
    (a__law_mix : PySem.W.nsIn K mainGlobals "_law_mix" = some (some (.ref f__law_mix)))
    (l__law_mix : K.lookup f__law_mix = some ⟨oc__law_mix, od__law_mix, .func (PySem.W.fnOf "_law_mix" "_law_mix" (defArgs s__law_mix) (defBody s__law_mix) (defScope s__law_mix) .none kV__law_mix dc__law_mix pm__law_mix an__law_mix cd__law_mix ct__law_mix), sl__law_mix⟩)
    (c__law_mix : PySem.W.codeIn K cd__law_mix "_law_mix" = true)
    (k__law_mix : PySem.W.keepIn K (.ref f__law_mix) = true)
    (a__law_row : PySem.W.nsIn K mainGlobals "_law_row" = some (some (.ref f__law_row)))
    (l__law_row : K.lookup f__law_row = some ⟨oc__law_row, od__law_row, .func (PySem.W.fnOf "_law_row" "_law_row" (defArgs s__law_row) (defBody s__law_row) (defScope s__law_row) .none kV__law_row dc__law_row pm__law_row an__law_row cd__law_row ct__law_row), sl__law_row⟩)
    (c__law_row : PySem.W.codeIn K cd__law_row "_law_row" = true)
    (k__law_row : PySem.W.keepIn K (.ref f__law_row) = true)
    (a__law_is_int : PySem.W.nsIn K mainGlobals "_law_is_int" = some (some (.ref f__law_is_int)))
    (l__law_is_int : K.lookup f__law_is_int = some ⟨oc__law_is_int, od__law_is_int, .func (PySem.W.fnOf "_law_is_int" "_law_is_int" (defArgs s__law_is_int) (defBody s__law_is_int) (defScope s__law_is_int) .none kV__law_is_int dc__law_is_int pm__law_is_int an__law_is_int cd__law_is_int ct__law_is_int), sl__law_is_int⟩)
    (c__law_is_int : PySem.W.codeIn K cd__law_is_int "_law_is_int" = true)
    (k__law_is_int : PySem.W.keepIn K (.ref f__law_is_int) = true)
    (a__law_is_list : PySem.W.nsIn K mainGlobals "_law_is_list" = some (some (.ref f__law_is_list)))
    (l__law_is_list : K.lookup f__law_is_list = some ⟨oc__law_is_list, od__law_is_list, .func (PySem.W.fnOf "_law_is_list" "_law_is_list" (defArgs s__law_is_list) (defBody s__law_is_list) (defScope s__law_is_list) .none kV__law_is_list dc__law_is_list pm__law_is_list an__law_is_list cd__law_is_list ct__law_is_list), sl__law_is_list⟩)
    (c__law_is_list : PySem.W.codeIn K cd__law_is_list "_law_is_list" = true)
    (k__law_is_list : PySem.W.keepIn K (.ref f__law_is_list) = true)
    (a__law_times : PySem.W.nsIn K mainGlobals "_law_times" = some (some (.ref f__law_times)))
    (l__law_times : K.lookup f__law_times = some ⟨oc__law_times, od__law_times, .func (PySem.W.fnOf "_law_times" "_law_times" (defArgs s__law_times) (defBody s__law_times) (defScope s__law_times) .none kV__law_times dc__law_times pm__law_times an__law_times cd__law_times ct__law_times), sl__law_times⟩)
    (c__law_times : PySem.W.codeIn K cd__law_times "_law_times" = true)
    (k__law_times : PySem.W.keepIn K (.ref f__law_times) = true)
    (a__law_value_at : PySem.W.nsIn K mainGlobals "_law_value_at" = some (some (.ref f__law_value_at)))
    (l__law_value_at : K.lookup f__law_value_at = some ⟨oc__law_value_at, od__law_value_at, .func (PySem.W.fnOf "_law_value_at" "_law_value_at" (defArgs s__law_value_at) (defBody s__law_value_at) (defScope s__law_value_at) .none kV__law_value_at dc__law_value_at pm__law_value_at an__law_value_at cd__law_value_at ct__law_value_at), sl__law_value_at⟩)
    (c__law_value_at : PySem.W.codeIn K cd__law_value_at "_law_value_at" = true)
    (k__law_value_at : PySem.W.keepIn K (.ref f__law_value_at) = true)
    (a__law_reduced : PySem.W.nsIn K mainGlobals "_law_reduced" = some (some (.ref f__law_reduced)))
    (l__law_reduced : K.lookup f__law_reduced = some ⟨oc__law_reduced, od__law_reduced, .func (PySem.W.fnOf "_law_reduced" "_law_reduced" (defArgs s__law_reduced) (defBody s__law_reduced) (defScope s__law_reduced) .none kV__law_reduced dc__law_reduced pm__law_reduced an__law_reduced cd__law_reduced ct__law_reduced), sl__law_reduced⟩)
    (c__law_reduced : PySem.W.codeIn K cd__law_reduced "_law_reduced" = true)
    (k__law_reduced : PySem.W.keepIn K (.ref f__law_reduced) = true)
    (a_law : PySem.W.nsIn K mainGlobals "law" = some (some (.ref f_law)))
    (l_law : K.lookup f_law = some ⟨oc_law, od_law, .func (PySem.W.fnOf "law" "law" (defArgs s_law) (defBody s_law) (defScope s_law) .none kV_law dc_law pm_law an_law cd_law ct_law), sl_law⟩)
    (c_law : PySem.W.codeIn K cd_law "law" = true)
    (k_law : PySem.W.keepIn K (.ref f_law) = true)
    (a_SYMBOLS : PySem.W.nsIn K mainGlobals "SYMBOLS" = some (some (.int 16 t_SYMBOLS)))
    (a_PRODUCTS : PySem.W.nsIn K mainGlobals "PRODUCTS" = some (some (.ref p_PRODUCTS)))
    (l_PRODUCTS : K.lookup p_PRODUCTS = some ⟨.type "tuple", od_PRODUCTS, .seq its_PRODUCTS n_PRODUCTS, sl_PRODUCTS⟩)
    (e_PRODUCTS : its_PRODUCTS.toList = [Value.ref r0_PRODUCTS, Value.ref r1_PRODUCTS, Value.ref r2_PRODUCTS, Value.ref r3_PRODUCTS, Value.ref r4_PRODUCTS, Value.ref r5_PRODUCTS, Value.ref r6_PRODUCTS, Value.ref r7_PRODUCTS, Value.ref r8_PRODUCTS, Value.ref r9_PRODUCTS, Value.ref r10_PRODUCTS, Value.ref r11_PRODUCTS, Value.ref r12_PRODUCTS, Value.ref r13_PRODUCTS, Value.ref r14_PRODUCTS, Value.ref r15_PRODUCTS])
    (rl0_PRODUCTS : K.lookup r0_PRODUCTS = some ⟨.type "tuple", none, .seq ri0_PRODUCTS rn0_PRODUCTS, rz0_PRODUCTS⟩)
    (rv0_PRODUCTS : Vals [V.int 0, V.int 0, V.int 0, V.int 0, V.int 0, V.int 0, V.int 0, V.int 0, V.int 0, V.int 0, V.int 0, V.int 0, V.int 0, V.int 0, V.int 0, V.int 0] ri0_PRODUCTS.toList)
    (rl1_PRODUCTS : K.lookup r1_PRODUCTS = some ⟨.type "tuple", none, .seq ri1_PRODUCTS rn1_PRODUCTS, rz1_PRODUCTS⟩)
    (rv1_PRODUCTS : Vals [V.int 0, V.int 1, V.int 2, V.int 3, V.int 4, V.int 5, V.int 6, V.int 7, V.int 8, V.int 9, V.int 10, V.int 11, V.int 12, V.int 13, V.int 14, V.int 15] ri1_PRODUCTS.toList)
    (rl2_PRODUCTS : K.lookup r2_PRODUCTS = some ⟨.type "tuple", none, .seq ri2_PRODUCTS rn2_PRODUCTS, rz2_PRODUCTS⟩)
    (rv2_PRODUCTS : Vals [V.int 0, V.int 2, V.int 4, V.int 6, V.int 8, V.int 10, V.int 12, V.int 14, V.int 3, V.int 1, V.int 7, V.int 5, V.int 11, V.int 9, V.int 15, V.int 13] ri2_PRODUCTS.toList)
    (rl3_PRODUCTS : K.lookup r3_PRODUCTS = some ⟨.type "tuple", none, .seq ri3_PRODUCTS rn3_PRODUCTS, rz3_PRODUCTS⟩)
    (rv3_PRODUCTS : Vals [V.int 0, V.int 3, V.int 6, V.int 5, V.int 12, V.int 15, V.int 10, V.int 9, V.int 11, V.int 8, V.int 13, V.int 14, V.int 7, V.int 4, V.int 1, V.int 2] ri3_PRODUCTS.toList)
    (rl4_PRODUCTS : K.lookup r4_PRODUCTS = some ⟨.type "tuple", none, .seq ri4_PRODUCTS rn4_PRODUCTS, rz4_PRODUCTS⟩)
    (rv4_PRODUCTS : Vals [V.int 0, V.int 4, V.int 8, V.int 12, V.int 3, V.int 7, V.int 11, V.int 15, V.int 6, V.int 2, V.int 14, V.int 10, V.int 5, V.int 1, V.int 13, V.int 9] ri4_PRODUCTS.toList)
    (rl5_PRODUCTS : K.lookup r5_PRODUCTS = some ⟨.type "tuple", none, .seq ri5_PRODUCTS rn5_PRODUCTS, rz5_PRODUCTS⟩)
    (rv5_PRODUCTS : Vals [V.int 0, V.int 5, V.int 10, V.int 15, V.int 7, V.int 2, V.int 13, V.int 8, V.int 14, V.int 11, V.int 4, V.int 1, V.int 9, V.int 12, V.int 3, V.int 6] ri5_PRODUCTS.toList)
    (rl6_PRODUCTS : K.lookup r6_PRODUCTS = some ⟨.type "tuple", none, .seq ri6_PRODUCTS rn6_PRODUCTS, rz6_PRODUCTS⟩)
    (rv6_PRODUCTS : Vals [V.int 0, V.int 6, V.int 12, V.int 10, V.int 11, V.int 13, V.int 7, V.int 1, V.int 5, V.int 3, V.int 9, V.int 15, V.int 14, V.int 8, V.int 2, V.int 4] ri6_PRODUCTS.toList)
    (rl7_PRODUCTS : K.lookup r7_PRODUCTS = some ⟨.type "tuple", none, .seq ri7_PRODUCTS rn7_PRODUCTS, rz7_PRODUCTS⟩)
    (rv7_PRODUCTS : Vals [V.int 0, V.int 7, V.int 14, V.int 9, V.int 15, V.int 8, V.int 1, V.int 6, V.int 13, V.int 10, V.int 3, V.int 4, V.int 2, V.int 5, V.int 12, V.int 11] ri7_PRODUCTS.toList)
    (rl8_PRODUCTS : K.lookup r8_PRODUCTS = some ⟨.type "tuple", none, .seq ri8_PRODUCTS rn8_PRODUCTS, rz8_PRODUCTS⟩)
    (rv8_PRODUCTS : Vals [V.int 0, V.int 8, V.int 3, V.int 11, V.int 6, V.int 14, V.int 5, V.int 13, V.int 12, V.int 4, V.int 15, V.int 7, V.int 10, V.int 2, V.int 9, V.int 1] ri8_PRODUCTS.toList)
    (rl9_PRODUCTS : K.lookup r9_PRODUCTS = some ⟨.type "tuple", none, .seq ri9_PRODUCTS rn9_PRODUCTS, rz9_PRODUCTS⟩)
    (rv9_PRODUCTS : Vals [V.int 0, V.int 9, V.int 1, V.int 8, V.int 2, V.int 11, V.int 3, V.int 10, V.int 4, V.int 13, V.int 5, V.int 12, V.int 6, V.int 15, V.int 7, V.int 14] ri9_PRODUCTS.toList)
    (rl10_PRODUCTS : K.lookup r10_PRODUCTS = some ⟨.type "tuple", none, .seq ri10_PRODUCTS rn10_PRODUCTS, rz10_PRODUCTS⟩)
    (rv10_PRODUCTS : Vals [V.int 0, V.int 10, V.int 7, V.int 13, V.int 14, V.int 4, V.int 9, V.int 3, V.int 15, V.int 5, V.int 8, V.int 2, V.int 1, V.int 11, V.int 6, V.int 12] ri10_PRODUCTS.toList)
    (rl11_PRODUCTS : K.lookup r11_PRODUCTS = some ⟨.type "tuple", none, .seq ri11_PRODUCTS rn11_PRODUCTS, rz11_PRODUCTS⟩)
    (rv11_PRODUCTS : Vals [V.int 0, V.int 11, V.int 5, V.int 14, V.int 10, V.int 1, V.int 15, V.int 4, V.int 7, V.int 12, V.int 2, V.int 9, V.int 13, V.int 6, V.int 8, V.int 3] ri11_PRODUCTS.toList)
    (rl12_PRODUCTS : K.lookup r12_PRODUCTS = some ⟨.type "tuple", none, .seq ri12_PRODUCTS rn12_PRODUCTS, rz12_PRODUCTS⟩)
    (rv12_PRODUCTS : Vals [V.int 0, V.int 12, V.int 11, V.int 7, V.int 5, V.int 9, V.int 14, V.int 2, V.int 10, V.int 6, V.int 1, V.int 13, V.int 15, V.int 3, V.int 4, V.int 8] ri12_PRODUCTS.toList)
    (rl13_PRODUCTS : K.lookup r13_PRODUCTS = some ⟨.type "tuple", none, .seq ri13_PRODUCTS rn13_PRODUCTS, rz13_PRODUCTS⟩)
    (rv13_PRODUCTS : Vals [V.int 0, V.int 13, V.int 9, V.int 4, V.int 1, V.int 12, V.int 8, V.int 5, V.int 2, V.int 15, V.int 11, V.int 6, V.int 3, V.int 14, V.int 10, V.int 7] ri13_PRODUCTS.toList)
    (rl14_PRODUCTS : K.lookup r14_PRODUCTS = some ⟨.type "tuple", none, .seq ri14_PRODUCTS rn14_PRODUCTS, rz14_PRODUCTS⟩)
    (rv14_PRODUCTS : Vals [V.int 0, V.int 14, V.int 15, V.int 1, V.int 13, V.int 3, V.int 2, V.int 12, V.int 9, V.int 7, V.int 6, V.int 8, V.int 4, V.int 10, V.int 11, V.int 5] ri14_PRODUCTS.toList)
    (rl15_PRODUCTS : K.lookup r15_PRODUCTS = some ⟨.type "tuple", none, .seq ri15_PRODUCTS rn15_PRODUCTS, rz15_PRODUCTS⟩)
    (rv15_PRODUCTS : Vals [V.int 0, V.int 15, V.int 13, V.int 2, V.int 9, V.int 6, V.int 4, V.int 11, V.int 1, V.int 14, V.int 12, V.int 3, V.int 8, V.int 7, V.int 5, V.int 10] ri15_PRODUCTS.toList)
    (z_len : PySem.W.nsIn K mainGlobals "len" = some none)
    (z_list : PySem.W.nsIn K mainGlobals "list" = some none)
    (z_enumerate : PySem.W.nsIn K mainGlobals "enumerate" = some none)
    (z_int : PySem.W.nsIn K mainGlobals "int" = some none)
    (z_abs : PySem.W.nsIn K mainGlobals "abs" = some none)
    (z_range : PySem.W.nsIn K mainGlobals "range" = some none)
    (z_isinstance : PySem.W.nsIn K mainGlobals "isinstance" = some none)
    (z_bool : PySem.W.nsIn K mainGlobals "bool" = some none)
    (z_zip : PySem.W.nsIn K mainGlobals "zip" = some none)
    (a_ArchiveError : PySem.W.nsIn K mainGlobals "ArchiveError" = some (some (.ref C_ArchiveError)))
    (x_ArchiveError : PySem.W.excIn K C_ArchiveError [.type "ValueError", .type "Exception", .type "BaseException", .type "object"] "ValueError.__new__" = true)
    (k_ArchiveError : PySem.W.keepIn K (.ref C_ArchiveError) = true)
    (b_ArchiveError : PySem.W.subIn K (.ref C_ArchiveError) (.type "BaseException") = some true)
    (t_ArchiveError : PySem.W.typeIn K (.ref C_ArchiveError) = some (.type "type"))
    (g_ArchiveError : PySem.W.findIn K (.ref C_ArchiveError) "__getattribute__" = some (some (.builtin "BaseException.__getattribute__")))
    (h_ArchiveError : PySem.W.findIn K (.ref C_ArchiveError) "__getattr__" = some none)
    (d_ArchiveError : PySem.W.hasDictIn K C_ArchiveError = true)
    (o_ArchiveError : PySem.W.findIn K (.ref C_ArchiveError) "__class__" = some (some (.builtin "object.__class__")))
    (n_ArchiveError : PySem.W.specialIn K (.builtin "object.__class__") "__get__" = some (some (.builtin "getset_descriptor.__get__")))
    (m_ArchiveError : PySem.W.takesIn K (.builtin "object.__class__") = some true)
    (r_ArchiveError : PySem.W.mroIn K C_ArchiveError (.type "object") = some true)
    (i_ArchiveError : PySem.W.isClsIn K C_ArchiveError = true)
    (a_InvalidSymbol : PySem.W.nsIn K mainGlobals "InvalidSymbol" = some (some (.ref C_InvalidSymbol)))
    (x_InvalidSymbol : PySem.W.excIn K C_InvalidSymbol [.type "ValueError", .type "Exception", .type "BaseException", .type "object"] "ValueError.__new__" = true)
    (k_InvalidSymbol : PySem.W.keepIn K (.ref C_InvalidSymbol) = true)
    (b_InvalidSymbol : PySem.W.subIn K (.ref C_InvalidSymbol) (.type "BaseException") = some true)
    (t_InvalidSymbol : PySem.W.typeIn K (.ref C_InvalidSymbol) = some (.type "type"))
    (g_InvalidSymbol : PySem.W.findIn K (.ref C_InvalidSymbol) "__getattribute__" = some (some (.builtin "BaseException.__getattribute__")))
    (h_InvalidSymbol : PySem.W.findIn K (.ref C_InvalidSymbol) "__getattr__" = some none)
    (d_InvalidSymbol : PySem.W.hasDictIn K C_InvalidSymbol = true)
    (o_InvalidSymbol : PySem.W.findIn K (.ref C_InvalidSymbol) "__class__" = some (some (.builtin "object.__class__")))
    (n_InvalidSymbol : PySem.W.specialIn K (.builtin "object.__class__") "__get__" = some (some (.builtin "getset_descriptor.__get__")))
    (m_InvalidSymbol : PySem.W.takesIn K (.builtin "object.__class__") = some true)
    (r_InvalidSymbol : PySem.W.mroIn K C_InvalidSymbol (.type "object") = some true)
    (i_InvalidSymbol : PySem.W.isClsIn K C_InvalidSymbol = true)
    (hs_InvalidSymbol_ArchiveError : PySem.W.subIn K (.ref C_InvalidSymbol) (.ref C_ArchiveError) = some true)
    (hq_InvalidSymbol_InvalidSymbol : PySem.W.subIn K (.ref C_InvalidSymbol) (.ref C_InvalidSymbol) = some true)
    : ∃ fd : FuncData, (∀ (s : Shared) (v : Value), BindsTo s fd ⟨[v], []⟩ [("script", v)]) ∧ ∀ base : Heap, K.In base → base.Ns mainGlobals mg → FnOk P w K mg base CX0 5 fa fd ["script"] (spLaw K) :=
  law_mk (T := ⟨dn_mk X G a_is_symbol l_is_symbol c_is_symbol k_is_symbol (fun _ _ _ _ _ _ us hl => match us, hl with | [_], _ => rfl),
    dn_mk X G a_multiply l_multiply c_multiply k_multiply (fun _ _ _ _ _ _ us hl => match us, hl with | [_, _], _ => rfl),
    dn_mk X G a_inverse l_inverse c_inverse k_inverse (fun _ _ _ _ _ _ us hl => match us, hl with | [_], _ => rfl),
    dn_mk X G a_scaled l_scaled c_scaled k_scaled (fun _ _ _ _ _ _ us hl => match us, hl with | [_, _], _ => rfl),
    dn_mk X G a__check_symbol l__check_symbol c__check_symbol k__check_symbol (fun _ _ _ _ _ _ us hl => match us, hl with | [_], _ => rfl),
    dn_mk X G a_reduced l_reduced c_reduced k_reduced (fun _ _ _ _ _ _ us hl => match us, hl with | [_], _ => rfl),
    dn_mk X G a_add_polynomials l_add_polynomials c_add_polynomials k_add_polynomials (fun _ _ _ _ _ _ us hl => match us, hl with | [_, _], _ => rfl),
    dn_mk X G a_multiply_polynomials l_multiply_polynomials c_multiply_polynomials k_multiply_polynomials (fun _ _ _ _ _ _ us hl => match us, hl with | [_, _], _ => rfl),
    dn_mk X G a_evaluate l_evaluate c_evaluate k_evaluate (fun _ _ _ _ _ _ us hl => match us, hl with | [_, _], _ => rfl),
    dn_mk X G a_interpolate l_interpolate c_interpolate k_interpolate (fun _ _ _ _ _ _ us hl => match us, hl with | [_], _ => rfl),
    dn_mk X G a__law_cell l__law_cell c__law_cell k__law_cell (fun _ _ _ _ _ _ us hl => match us, hl with | [_, _], _ => rfl),
    dn_mk X G a__law_mix l__law_mix c__law_mix k__law_mix (fun _ _ _ _ _ _ us hl => match us, hl with | [_, _], _ => rfl),
    dn_mk X G a__law_row l__law_row c__law_row k__law_row (fun _ _ _ _ _ _ us hl => match us, hl with | [_, _, _], _ => rfl),
    dn_mk X G a__law_is_int l__law_is_int c__law_is_int k__law_is_int (fun _ _ _ _ _ _ us hl => match us, hl with | [_], _ => rfl),
    dn_mk X G a__law_is_list l__law_is_list c__law_is_list k__law_is_list (fun _ _ _ _ _ _ us hl => match us, hl with | [_, _, _], _ => rfl),
    dn_mk X G a__law_times l__law_times c__law_times k__law_times (fun _ _ _ _ _ _ us hl => match us, hl with | [_, _], _ => rfl),
    dn_mk X G a__law_value_at l__law_value_at c__law_value_at k__law_value_at (fun _ _ _ _ _ _ us hl => match us, hl with | [_, _], _ => rfl),
    dn_mk X G a__law_reduced l__law_reduced c__law_reduced k__law_reduced (fun _ _ _ _ _ _ us hl => match us, hl with | [_], _ => rfl),
    dn_mk X G a_law l_law c_law k_law (fun _ _ _ _ _ _ us hl => match us, hl with | [_], _ => rfl),
    cv_int X G a_SYMBOLS,
    CT2.ctt_mk (rs := [r0_PRODUCTS, r1_PRODUCTS, r2_PRODUCTS, r3_PRODUCTS, r4_PRODUCTS, r5_PRODUCTS, r6_PRODUCTS, r7_PRODUCTS, r8_PRODUCTS, r9_PRODUCTS, r10_PRODUCTS, r11_PRODUCTS, r12_PRODUCTS, r13_PRODUCTS, r14_PRODUCTS, r15_PRODUCTS]) X G a_PRODUCTS l_PRODUCTS e_PRODUCTS (by show 16 ≤ sizeLine; decide) (.cons (CT2.rowAt_mk rl0_PRODUCTS rv0_PRODUCTS (by decide)) (.cons (CT2.rowAt_mk rl1_PRODUCTS rv1_PRODUCTS (by decide)) (.cons (CT2.rowAt_mk rl2_PRODUCTS rv2_PRODUCTS (by decide)) (.cons (CT2.rowAt_mk rl3_PRODUCTS rv3_PRODUCTS (by decide)) (.cons (CT2.rowAt_mk rl4_PRODUCTS rv4_PRODUCTS (by decide)) (.cons (CT2.rowAt_mk rl5_PRODUCTS rv5_PRODUCTS (by decide)) (.cons (CT2.rowAt_mk rl6_PRODUCTS rv6_PRODUCTS (by decide)) (.cons (CT2.rowAt_mk rl7_PRODUCTS rv7_PRODUCTS (by decide)) (.cons (CT2.rowAt_mk rl8_PRODUCTS rv8_PRODUCTS (by decide)) (.cons (CT2.rowAt_mk rl9_PRODUCTS rv9_PRODUCTS (by decide)) (.cons (CT2.rowAt_mk rl10_PRODUCTS rv10_PRODUCTS (by decide)) (.cons (CT2.rowAt_mk rl11_PRODUCTS rv11_PRODUCTS (by decide)) (.cons (CT2.rowAt_mk rl12_PRODUCTS rv12_PRODUCTS (by decide)) (.cons (CT2.rowAt_mk rl13_PRODUCTS rv13_PRODUCTS (by decide)) (.cons (CT2.rowAt_mk rl14_PRODUCTS rv14_PRODUCTS (by decide)) (.cons (CT2.rowAt_mk rl15_PRODUCTS rv15_PRODUCTS (by decide)) .nil)))))))))))))))),
    PySem.W.mg_none_of X G z_len,
    PySem.W.mg_none_of X G z_list,
    PySem.W.mg_none_of X G z_enumerate,
    PySem.W.mg_none_of X G z_int,
    PySem.W.mg_none_of X G z_abs,
    PySem.W.mg_none_of X G z_range,
    PySem.W.mg_none_of X G z_isinstance,
    PySem.W.mg_none_of X G z_bool,
    PySem.W.mg_none_of X G z_zip,
    xcl_mk X G a_ArchiveError x_ArchiveError k_ArchiveError b_ArchiveError t_ArchiveError g_ArchiveError h_ArchiveError d_ArchiveError o_ArchiveError n_ArchiveError m_ArchiveError r_ArchiveError i_ArchiveError,
    xcl_mk X G a_InvalidSymbol x_InvalidSymbol k_InvalidSymbol b_InvalidSymbol t_InvalidSymbol g_InvalidSymbol h_InvalidSymbol d_InvalidSymbol o_InvalidSymbol n_InvalidSymbol m_InvalidSymbol r_InvalidSymbol i_InvalidSymbol,
    hs_InvalidSymbol_ArchiveError,
    kit_own i_InvalidSymbol t_InvalidSymbol hq_InvalidSymbol_InvalidSymbol (fun _ => rfl)⟩) hfa
theorem walk {l : PySem.W.OpenLaw} {q : Program} {loose : List Str} {XP : (Str → Option Value) → Heap → Prop} {YP : World → Heap → Prop} {d : DefRec} {K : Params → PySem.W.Frag} (hn : l.most = some 63) (hdf : d.params.defaults = [])
    (hY : ∀ (w : World) (h : Heap), YP w h → (K w.params).In h)
    (F : ∀ (w : World) (mg : Str → Option Value) (fa : Addr) (h : Heap), (K w.params).In h → h.Ns mainGlobals mg → mg d.name = some (.ref fa) →
      ∃ fd : FuncData, (∀ (s : Shared) (u : Value), BindsTo s fd ⟨[u], []⟩ [("script", u)]) ∧ ∀ base : Heap, (K w.params).In base → base.Ns mainGlobals mg → FnOk l.prog w (K w.params) mg base CX0 5 fa fd ["script"] (spLaw (K w.params))) :
    PySem.W.WalkO q loose XP YP l.row.toRowW d [] (fun f vs => PySem.call f vs) :=
  L2.walk_of (n := 63) (k := 5) (x := "script") (CX := fun _ => CX0) (sp := fun w => spLaw (K w.params)) hn (by decide) hdf ⟨rfl, by decide, by decide⟩ hY F (fun _ _ a ns hl _ hS => ⟨a, ns, rfl, hS, hl, fun _ => rfl⟩) fun _ _ _ _ _ z => z
end My
open PySem PySem.W PyProof.Rows in
set_option maxRecDepth 100000 in
set_option maxHeartbeats 0 in
theorem PySem.Challenge.cw_scanpages_k27_interpolation_holds : PySem.Challenge.rw_scanpages_k27_interpolation.Holds := by
  w_on; o_law; k_head; (case hw => w_witness2)
  k_fill
  refine My.walk (l := PySem.Challenge.rw_scanpages_k27_interpolation) rfl rfl (fun w h Y => PySem.W.kIn_of Y) ?F
  case F =>
    intro w mg fa h KX G hmg
    refine' My.law_end KX G hmg ?a_is_symbol ?l_is_symbol ?c_is_symbol ?k_is_symbol ?a_multiply ?l_multiply ?c_multiply ?k_multiply ?a_inverse ?l_inverse ?c_inverse ?k_inverse ?a_scaled ?l_scaled ?c_scaled ?k_scaled ?a__check_symbol ?l__check_symbol ?c__check_symbol ?k__check_symbol ?a_reduced ?l_reduced ?c_reduced ?k_reduced ?a_add_polynomials ?l_add_polynomials ?c_add_polynomials ?k_add_polynomials ?a_multiply_polynomials ?l_multiply_polynomials ?c_multiply_polynomials ?k_multiply_polynomials ?a_evaluate ?l_evaluate ?c_evaluate ?k_evaluate ?a_interpolate ?l_interpolate ?c_interpolate ?k_interpolate ?a__law_cell ?l__law_cell ?c__law_cell ?k__law_cell ?a__law_mix ?l__law_mix ?c__law_mix ?k__law_mix ?a__law_row ?l__law_row ?c__law_row ?k__law_row ?a__law_is_int ?l__law_is_int ?c__law_is_int ?k__law_is_int ?a__law_is_list ?l__law_is_list ?c__law_is_list ?k__law_is_list ?a__law_times ?l__law_times ?c__law_times ?k__law_times ?a__law_value_at ?l__law_value_at ?c__law_value_at ?k__law_value_at ?a__law_reduced ?l__law_reduced ?c__law_reduced ?k__law_reduced ?a_law ?l_law ?c_law ?k_law ?a_SYMBOLS ?a_PRODUCTS ?l_PRODUCTS ?e_PRODUCTS ?rl0_PRODUCTS ?rv0_PRODUCTS ?rl1_PRODUCTS ?rv1_PRODUCTS ?rl2_PRODUCTS ?rv2_PRODUCTS ?rl3_PRODUCTS ?rv3_PRODUCTS ?rl4_PRODUCTS ?rv4_PRODUCTS ?rl5_PRODUCTS ?rv5_PRODUCTS ?rl6_PRODUCTS ?rv6_PRODUCTS ?rl7_PRODUCTS ?rv7_PRODUCTS ?rl8_PRODUCTS ?rv8_PRODUCTS ?rl9_PRODUCTS ?rv9_PRODUCTS ?rl10_PRODUCTS ?rv10_PRODUCTS ?rl11_PRODUCTS ?rv11_PRODUCTS ?rl12_PRODUCTS ?rv12_PRODUCTS ?rl13_PRODUCTS ?rv13_PRODUCTS ?rl14_PRODUCTS ?rv14_PRODUCTS ?rl15_PRODUCTS ?rv15_PRODUCTS ?z_len ?z_list ?z_enumerate ?z_int ?z_abs ?z_range ?z_isinstance ?z_bool ?z_zip ?a_ArchiveError ?x_ArchiveError ?k_ArchiveError ?b_ArchiveError ?t_ArchiveError ?g_ArchiveError ?h_ArchiveError ?d_ArchiveError ?o_ArchiveError ?n_ArchiveError ?m_ArchiveError ?r_ArchiveError ?i_ArchiveError ?a_InvalidSymbol ?x_InvalidSymbol ?k_InvalidSymbol ?b_InvalidSymbol ?t_InvalidSymbol ?g_InvalidSymbol ?h_InvalidSymbol ?d_InvalidSymbol ?o_InvalidSymbol ?n_InvalidSymbol ?m_InvalidSymbol ?r_InvalidSymbol ?i_InvalidSymbol ?hs_InvalidSymbol_ArchiveError ?hq_InvalidSymbol_InvalidSymbol
    (case a_is_symbol => k_is)
    (case l_is_symbol => k_is)
    (case c_is_symbol => k_is)
    (case k_is_symbol => k_is)
    (case a_multiply => k_is)
    (case l_multiply => k_is)
    (case c_multiply => k_is)
    (case k_multiply => k_is)
    (case a_inverse => k_is)
    (case l_inverse => k_is)
    (case c_inverse => k_is)
    (case k_inverse => k_is)
    (case a_scaled => k_is)
    (case l_scaled => k_is)
    (case c_scaled => k_is)
    (case k_scaled => k_is)
    (case a__check_symbol => k_is)
    (case l__check_symbol => k_is)
    (case c__check_symbol => k_is)
    (case k__check_symbol => k_is)
    (case a_reduced => k_is)
    (case l_reduced => k_is)
    (case c_reduced => k_is)
    (case k_reduced => k_is)
    (case a_add_polynomials => k_is)
    (case l_add_polynomials => k_is)
    (case c_add_polynomials => k_is)
    (case k_add_polynomials => k_is)
    (case a_multiply_polynomials => k_is)
    (case l_multiply_polynomials => k_is)
    (case c_multiply_polynomials => k_is)
    (case k_multiply_polynomials => k_is)
    (case a_evaluate => k_is)
    (case l_evaluate => k_is)
    (case c_evaluate => k_is)
    (case k_evaluate => k_is)
    (case a_interpolate => k_is)
    (case l_interpolate => k_is)
    (case c_interpolate => k_is)
    (case k_interpolate => k_is)
    (case a__law_cell => k_is)
    (case l__law_cell => k_is)
    (case c__law_cell => k_is)
    (case k__law_cell => k_is)
    (case a__law_mix => k_is)
    (case l__law_mix => k_is)
    (case c__law_mix => k_is)
    (case k__law_mix => k_is)
    (case a__law_row => k_is)
    (case l__law_row => k_is)
    (case c__law_row => k_is)
    (case k__law_row => k_is)
    (case a__law_is_int => k_is)
    (case l__law_is_int => k_is)
    (case c__law_is_int => k_is)
    (case k__law_is_int => k_is)
    (case a__law_is_list => k_is)
    (case l__law_is_list => k_is)
    (case c__law_is_list => k_is)
    (case k__law_is_list => k_is)
    (case a__law_times => k_is)
    (case l__law_times => k_is)
    (case c__law_times => k_is)
    (case k__law_times => k_is)
    (case a__law_value_at => k_is)
    (case l__law_value_at => k_is)
    (case c__law_value_at => k_is)
    (case k__law_value_at => k_is)
    (case a__law_reduced => k_is)
    (case l__law_reduced => k_is)
    (case c__law_reduced => k_is)
    (case k__law_reduced => k_is)
    (case a_law => k_is)
    (case l_law => k_is)
    (case c_law => k_is)
    (case k_law => k_is)
    (case a_SYMBOLS => k_is)
    (case a_PRODUCTS => k_is)
    (case l_PRODUCTS => k_is)
    (case e_PRODUCTS => rfl)
    (case rl0_PRODUCTS => k_is)
    (case rv0_PRODUCTS => exact .cons ⟨_, rfl⟩ (.cons ⟨_, rfl⟩ (.cons ⟨_, rfl⟩ (.cons ⟨_, rfl⟩ (.cons ⟨_, rfl⟩ (.cons ⟨_, rfl⟩ (.cons ⟨_, rfl⟩ (.cons ⟨_, rfl⟩ (.cons ⟨_, rfl⟩ (.cons ⟨_, rfl⟩ (.cons ⟨_, rfl⟩ (.cons ⟨_, rfl⟩ (.cons ⟨_, rfl⟩ (.cons ⟨_, rfl⟩ (.cons ⟨_, rfl⟩ (.cons ⟨_, rfl⟩ (.nil)))))))))))))))))
    (case rl1_PRODUCTS => k_is)
    (case rv1_PRODUCTS => exact .cons ⟨_, rfl⟩ (.cons ⟨_, rfl⟩ (.cons ⟨_, rfl⟩ (.cons ⟨_, rfl⟩ (.cons ⟨_, rfl⟩ (.cons ⟨_, rfl⟩ (.cons ⟨_, rfl⟩ (.cons ⟨_, rfl⟩ (.cons ⟨_, rfl⟩ (.cons ⟨_, rfl⟩ (.cons ⟨_, rfl⟩ (.cons ⟨_, rfl⟩ (.cons ⟨_, rfl⟩ (.cons ⟨_, rfl⟩ (.cons ⟨_, rfl⟩ (.cons ⟨_, rfl⟩ (.nil)))))))))))))))))
    (case rl2_PRODUCTS => k_is)
    (case rv2_PRODUCTS => exact .cons ⟨_, rfl⟩ (.cons ⟨_, rfl⟩ (.cons ⟨_, rfl⟩ (.cons ⟨_, rfl⟩ (.cons ⟨_, rfl⟩ (.cons ⟨_, rfl⟩ (.cons ⟨_, rfl⟩ (.cons ⟨_, rfl⟩ (.cons ⟨_, rfl⟩ (.cons ⟨_, rfl⟩ (.cons ⟨_, rfl⟩ (.cons ⟨_, rfl⟩ (.cons ⟨_, rfl⟩ (.cons ⟨_, rfl⟩ (.cons ⟨_, rfl⟩ (.cons ⟨_, rfl⟩ (.nil)))))))))))))))))
    (case rl3_PRODUCTS => k_is)
    (case rv3_PRODUCTS => exact .cons ⟨_, rfl⟩ (.cons ⟨_, rfl⟩ (.cons ⟨_, rfl⟩ (.cons ⟨_, rfl⟩ (.cons ⟨_, rfl⟩ (.cons ⟨_, rfl⟩ (.cons ⟨_, rfl⟩ (.cons ⟨_, rfl⟩ (.cons ⟨_, rfl⟩ (.cons ⟨_, rfl⟩ (.cons ⟨_, rfl⟩ (.cons ⟨_, rfl⟩ (.cons ⟨_, rfl⟩ (.cons ⟨_, rfl⟩ (.cons ⟨_, rfl⟩ (.cons ⟨_, rfl⟩ (.nil)))))))))))))))))
    (case rl4_PRODUCTS => k_is)
    (case rv4_PRODUCTS => exact .cons ⟨_, rfl⟩ (.cons ⟨_, rfl⟩ (.cons ⟨_, rfl⟩ (.cons ⟨_, rfl⟩ (.cons ⟨_, rfl⟩ (.cons ⟨_, rfl⟩ (.cons ⟨_, rfl⟩ (.cons ⟨_, rfl⟩ (.cons ⟨_, rfl⟩ (.cons ⟨_, rfl⟩ (.cons ⟨_, rfl⟩ (.cons ⟨_, rfl⟩ (.cons ⟨_, rfl⟩ (.cons ⟨_, rfl⟩ (.cons ⟨_, rfl⟩ (.cons ⟨_, rfl⟩ (.nil)))))))))))))))))
    (case rl5_PRODUCTS => k_is)
    (case rv5_PRODUCTS => exact .cons ⟨_, rfl⟩ (.cons ⟨_, rfl⟩ (.cons ⟨_, rfl⟩ (.cons ⟨_, rfl⟩ (.cons ⟨_, rfl⟩ (.cons ⟨_, rfl⟩ (.cons ⟨_, rfl⟩ (.cons ⟨_, rfl⟩ (.cons ⟨_, rfl⟩ (.cons ⟨_, rfl⟩ (.cons ⟨_, rfl⟩ (.cons ⟨_, rfl⟩ (.cons ⟨_, rfl⟩ (.cons ⟨_, rfl⟩ (.cons ⟨_, rfl⟩ (.cons ⟨_, rfl⟩ (.nil)))))))))))))))))
    (case rl6_PRODUCTS => k_is)
    (case rv6_PRODUCTS => exact .cons ⟨_, rfl⟩ (.cons ⟨_, rfl⟩ (.cons ⟨_, rfl⟩ (.cons ⟨_, rfl⟩ (.cons ⟨_, rfl⟩ (.cons ⟨_, rfl⟩ (.cons ⟨_, rfl⟩ (.cons ⟨_, rfl⟩ (.cons ⟨_, rfl⟩ (.cons ⟨_, rfl⟩ (.cons ⟨_, rfl⟩ (.cons ⟨_, rfl⟩ (.cons ⟨_, rfl⟩ (.cons ⟨_, rfl⟩ (.cons ⟨_, rfl⟩ (.cons ⟨_, rfl⟩ (.nil)))))))))))))))))
    (case rl7_PRODUCTS => k_is)
    (case rv7_PRODUCTS => exact .cons ⟨_, rfl⟩ (.cons ⟨_, rfl⟩ (.cons ⟨_, rfl⟩ (.cons ⟨_, rfl⟩ (.cons ⟨_, rfl⟩ (.cons ⟨_, rfl⟩ (.cons ⟨_, rfl⟩ (.cons ⟨_, rfl⟩ (.cons ⟨_, rfl⟩ (.cons ⟨_, rfl⟩ (.cons ⟨_, rfl⟩ (.cons ⟨_, rfl⟩ (.cons ⟨_, rfl⟩ (.cons ⟨_, rfl⟩ (.cons ⟨_, rfl⟩ (.cons ⟨_, rfl⟩ (.nil)))))))))))))))))
    (case rl8_PRODUCTS => k_is)
    (case rv8_PRODUCTS => exact .cons ⟨_, rfl⟩ (.cons ⟨_, rfl⟩ (.cons ⟨_, rfl⟩ (.cons ⟨_, rfl⟩ (.cons ⟨_, rfl⟩ (.cons ⟨_, rfl⟩ (.cons ⟨_, rfl⟩ (.cons ⟨_, rfl⟩ (.cons ⟨_, rfl⟩ (.cons ⟨_, rfl⟩ (.cons ⟨_, rfl⟩ (.cons ⟨_, rfl⟩ (.cons ⟨_, rfl⟩ (.cons ⟨_, rfl⟩ (.cons ⟨_, rfl⟩ (.cons ⟨_, rfl⟩ (.nil)))))))))))))))))
    (case rl9_PRODUCTS => k_is)
    (case rv9_PRODUCTS => exact .cons ⟨_, rfl⟩ (.cons ⟨_, rfl⟩ (.cons ⟨_, rfl⟩ (.cons ⟨_, rfl⟩ (.cons ⟨_, rfl⟩ (.cons ⟨_, rfl⟩ (.cons ⟨_, rfl⟩ (.cons ⟨_, rfl⟩ (.cons ⟨_, rfl⟩ (.cons ⟨_, rfl⟩ (.cons ⟨_, rfl⟩ (.cons ⟨_, rfl⟩ (.cons ⟨_, rfl⟩ (.cons ⟨_, rfl⟩ (.cons ⟨_, rfl⟩ (.cons ⟨_, rfl⟩ (.nil)))))))))))))))))
    (case rl10_PRODUCTS => k_is)
    (case rv10_PRODUCTS => exact .cons ⟨_, rfl⟩ (.cons ⟨_, rfl⟩ (.cons ⟨_, rfl⟩ (.cons ⟨_, rfl⟩ (.cons ⟨_, rfl⟩ (.cons ⟨_, rfl⟩ (.cons ⟨_, rfl⟩ (.cons ⟨_, rfl⟩ (.cons ⟨_, rfl⟩ (.cons ⟨_, rfl⟩ (.cons ⟨_, rfl⟩ (.cons ⟨_, rfl⟩ (.cons ⟨_, rfl⟩ (.cons ⟨_, rfl⟩ (.cons ⟨_, rfl⟩ (.cons ⟨_, rfl⟩ (.nil)))))))))))))))))
    (case rl11_PRODUCTS => k_is)
    (case rv11_PRODUCTS => exact .cons ⟨_, rfl⟩ (.cons ⟨_, rfl⟩ (.cons ⟨_, rfl⟩ (.cons ⟨_, rfl⟩ (.cons ⟨_, rfl⟩ (.cons ⟨_, rfl⟩ (.cons ⟨_, rfl⟩ (.cons ⟨_, rfl⟩ (.cons ⟨_, rfl⟩ (.cons ⟨_, rfl⟩ (.cons ⟨_, rfl⟩ (.cons ⟨_, rfl⟩ (.cons ⟨_, rfl⟩ (.cons ⟨_, rfl⟩ (.cons ⟨_, rfl⟩ (.cons ⟨_, rfl⟩ (.nil)))))))))))))))))
    (case rl12_PRODUCTS => k_is)
    (case rv12_PRODUCTS => exact .cons ⟨_, rfl⟩ (.cons ⟨_, rfl⟩ (.cons ⟨_, rfl⟩ (.cons ⟨_, rfl⟩ (.cons ⟨_, rfl⟩ (.cons ⟨_, rfl⟩ (.cons ⟨_, rfl⟩ (.cons ⟨_, rfl⟩ (.cons ⟨_, rfl⟩ (.cons ⟨_, rfl⟩ (.cons ⟨_, rfl⟩ (.cons ⟨_, rfl⟩ (.cons ⟨_, rfl⟩ (.cons ⟨_, rfl⟩ (.cons ⟨_, rfl⟩ (.cons ⟨_, rfl⟩ (.nil)))))))))))))))))
    (case rl13_PRODUCTS => k_is)
    (case rv13_PRODUCTS => exact .cons ⟨_, rfl⟩ (.cons ⟨_, rfl⟩ (.cons ⟨_, rfl⟩ (.cons ⟨_, rfl⟩ (.cons ⟨_, rfl⟩ (.cons ⟨_, rfl⟩ (.cons ⟨_, rfl⟩ (.cons ⟨_, rfl⟩ (.cons ⟨_, rfl⟩ (.cons ⟨_, rfl⟩ (.cons ⟨_, rfl⟩ (.cons ⟨_, rfl⟩ (.cons ⟨_, rfl⟩ (.cons ⟨_, rfl⟩ (.cons ⟨_, rfl⟩ (.cons ⟨_, rfl⟩ (.nil)))))))))))))))))
    (case rl14_PRODUCTS => k_is)
    (case rv14_PRODUCTS => exact .cons ⟨_, rfl⟩ (.cons ⟨_, rfl⟩ (.cons ⟨_, rfl⟩ (.cons ⟨_, rfl⟩ (.cons ⟨_, rfl⟩ (.cons ⟨_, rfl⟩ (.cons ⟨_, rfl⟩ (.cons ⟨_, rfl⟩ (.cons ⟨_, rfl⟩ (.cons ⟨_, rfl⟩ (.cons ⟨_, rfl⟩ (.cons ⟨_, rfl⟩ (.cons ⟨_, rfl⟩ (.cons ⟨_, rfl⟩ (.cons ⟨_, rfl⟩ (.cons ⟨_, rfl⟩ (.nil)))))))))))))))))
    (case rl15_PRODUCTS => k_is)
    (case rv15_PRODUCTS => exact .cons ⟨_, rfl⟩ (.cons ⟨_, rfl⟩ (.cons ⟨_, rfl⟩ (.cons ⟨_, rfl⟩ (.cons ⟨_, rfl⟩ (.cons ⟨_, rfl⟩ (.cons ⟨_, rfl⟩ (.cons ⟨_, rfl⟩ (.cons ⟨_, rfl⟩ (.cons ⟨_, rfl⟩ (.cons ⟨_, rfl⟩ (.cons ⟨_, rfl⟩ (.cons ⟨_, rfl⟩ (.cons ⟨_, rfl⟩ (.cons ⟨_, rfl⟩ (.cons ⟨_, rfl⟩ (.nil)))))))))))))))))
    (case z_len => k_is)
    (case z_list => k_is)
    (case z_enumerate => k_is)
    (case z_int => k_is)
    (case z_abs => k_is)
    (case z_range => k_is)
    (case z_isinstance => k_is)
    (case z_bool => k_is)
    (case z_zip => k_is)
    (case a_ArchiveError => k_is)
    (case x_ArchiveError => k_exc)
    (case k_ArchiveError => k_is)
    (case b_ArchiveError => k_is)
    (case t_ArchiveError => k_is)
    (case g_ArchiveError => k_is)
    (case h_ArchiveError => k_is)
    (case d_ArchiveError => k_is)
    (case o_ArchiveError => k_is)
    (case n_ArchiveError => k_is)
    (case m_ArchiveError => k_is)
    (case r_ArchiveError => k_is)
    (case i_ArchiveError => k_is)
    (case a_InvalidSymbol => k_is)
    (case x_InvalidSymbol => k_exc)
    (case k_InvalidSymbol => k_is)
    (case b_InvalidSymbol => k_is)
    (case t_InvalidSymbol => k_is)
    (case g_InvalidSymbol => k_is)
    (case h_InvalidSymbol => k_is)
    (case d_InvalidSymbol => k_is)
    (case o_InvalidSymbol => k_is)
    (case n_InvalidSymbol => k_is)
    (case m_InvalidSymbol => k_is)
    (case r_InvalidSymbol => k_is)
    (case i_InvalidSymbol => k_is)
    (case hs_InvalidSymbol_ArchiveError => first | k_is | rfl)
    (case hq_InvalidSymbol_InvalidSymbol => first | k_is | rfl)
#print axioms PySem.Challenge.cw_scanpages_k27_interpolation_holds
