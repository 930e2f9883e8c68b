import PyProof.Rows.All
import Wide.All
import OpenK.AllK
import Wide.FinOn
import PyProof.EqAt
import PyProof.EqKinds
import PyProof.TupleCall
import HandS.ForMost
import HandS.ForExc
import HandS.RaiseMore
import HandS.FStr
import HandS.IsInst
import HandS.ExcIs
import HandS.Wide
import HandS.Flow
import HandS.Conv
import HandS.Evl
import HandS.TupAny
import HandS.Style
import HandS.ExcCtx
import HandS.HotCalls
import PyProof.ZipIter
import HandS.Zip
import HandS.Property
import HandS.AnyAll
import HandS.GenOver
import HandS.JoinGen
import HandS.Lambda
import HandS.EndOwn
import HandS.EndTab
import HandS.Walk
import HandS.Star
import HandS.TupLen
import HandS.TupMul
import HandS.Rev
import HandS.SortInts
import HandS.ExcInit
import HandS.Nested
import HandS.ExcField
import KE.KExcSuper
import KE.KSuper
import KE.RegKSuper
import KE.GoesEnum
import HandS.Strs
import HandS.WordsDict
import KE.GoesComp
import KE.KUnpackStar
import HandS.StrMore
import HandS.Text
import PySem.Challenge.RW_scanpages_k41_whole_frame
set_option Elab.async false
set_option linter.all false
set_option maxRecDepth 100000
set_option maxHeartbeats 4000000
/-! Cm: what all our proofs share -/
namespace Cm
open PySem PySem.Spec PyProof.Rows L2

/-! ### defs of the module, and what they promise -/
/-- the def x stands at some address behind the top -/
def Dn (K : PySem.W.Frag) (mg : Str → Option Value) (x : Str) (st : Stmt) (ps : List Str) : Prop :=
  ∃ (f : Addr) (fd : FuncData), Fun K x x st f fd ∧ mg x = some (.ref f) ∧ Binds K fd ps []
/-- the def x keeps the promise sp -/
def Ok (P : Program) (w : World) (K : PySem.W.Frag) (mg : Str → Option Value) (base : Heap) (CX : CXT) (k : Nat) (x : Str) (ps : List Str) (sp : Sp) : Prop :=
  ∃ (f : Addr) (fd : FuncData), FnOk P w K mg base CX k f fd ps sp ∧ mg x = some (.ref f) ∧ PySem.W.keepIn K (.ref f) = true ∧ Binds K fd ps []
theorem ok_of {P : Program} {w : World} {K : PySem.W.Frag} {mg : Str → Option Value} {base : Heap} {CX : CXT} {k : Nat} {x : Str} {st : Stmt} {ps : List Str} {sp : Sp} (d : Dn K mg x st ps)
    (h : ∀ f fd, Fun K x x st f fd → FnOk P w K mg base CX k f fd ps sp) : Ok P w K mg base CX k x ps sp := by
  obtain ⟨f, fd, F, g, b⟩ := d
  exact ⟨f, fd, h f fd F, g, F.kp, b⟩
section
variable {X : Cx} {CX : CXT} {k : Nat} {ps : List Str} {sp : Sp} {E : XK} {x : Str} {p pos : Pos} {e : Expr} {es : List Expr} {t : TA}
theorem pe_callO (G : Ok X.prog X.w X.K X.mg X.base CX k x ps sp) (hr : Room k X.A) (hx : Passes CX X E) (ha : PA X (e :: es) t) (hg : Gl X x := by rfl)
    (hdb : (x == ("__debug__" : Str)) = false := by decide) (he : starEach (e :: es) X.env = (false, eval e X.env) :: starEach es X.env := by rfl) (hpl : (backTo pos (starEach es X.env)).any (·.1) = false := by rfl) :
    PE X (.Call (.Name x p) (e :: es) [] pos) (tCall sp [] E t) := by
  obtain ⟨f, fd, F, g, kp, b⟩ := G
  exact pe_call F hr hg g kp b .nil hx ha hdb he hpl
theorem pe_callO0 (G : Ok X.prog X.w X.K X.mg X.base CX k x ps sp) (hr : Room k X.A) (hx : Passes CX X E) (hg : Gl X x := by rfl) (hdb : (x == ("__debug__" : Str)) = false := by decide) :
    PE X (.Call (.Name x p) [] [] pos) (tCall sp [] E tNil) := by
  obtain ⟨f, fd, F, g, kp, b⟩ := G
  exact pe_call0 F hr hg g kp b .nil hx hdb
theorem pe_callT {Es : L2.St → XK} (G : Ok X.prog X.w X.K X.mg X.base CX k x ps sp) (hr : Room k X.A) (hx : ∀ σ, PassesAt CX X σ (Es σ)) (ha : PA X (e :: es) t) (hg : Gl X x := by rfl)
    (hdb : (x == ("__debug__" : Str)) = false := by decide) (he : starEach (e :: es) X.env = (false, eval e X.env) :: starEach es X.env := by rfl) (hpl : (backTo pos (starEach es X.env)).any (·.1) = false := by rfl) :
    PE X (.Call (.Name x p) (e :: es) [] pos) (tCallS sp Es t) := by
  obtain ⟨f, fd, F, g, kp, b⟩ := G
  exact pe_callS F hr hg g kp b hx ha hdb he hpl
end
/-! ### errors: raised where nothing is handled -/
/-- what leaves a def: L2N's way -/
abbrev CXN (P : Program) (w : World) : CXT := L2N.CX P w
theorem passN {X : Cx} : Passes (CXN X.prog X.w) X E0 := fun _ _ _ _ _ _ _ h => by
  obtain ⟨_, _, _, _, _, _, _, _, _, _, _, _, z⟩ := h
  exact z.elim
theorem takesN {X : Cx} : L2N.Takes X (fun _ _ _ _ => False) := fun _ _ x => by
  obtain ⟨_, _, _, _, _, _, _, _, _, _, _, _, _, _, _, _, z⟩ := x
  exact z.elim
theorem passX {X : Cx} {E E' : XK} (tk : L2N.Takes X (fun cls d _ H => E cls d H)) (h : ∀ cls d H, E' cls d H → E cls d H) : Passes (CXN X.prog X.w) X E' := fun pins σ H s e s' I c => tk e s' (L2N.XE.of_call I (fun cls d H' q => h cls d H' q) c)
theorem okN {P : Program} {w : World} {K : PySem.W.Frag} {mg : Str → Option Value} {base : Heap} {x qual : Str} {st : Stmt} {f : Addr} {fd : FuncData} {N ps : List Str} {k : Nat} {sp : Sp} (F : Fun K x qual st f fd) (S : FnScope N ps (defScope st)) (len : ∀ vs H Q E, sp vs H Q E → vs.length = ps.length)
    (hbody : ∀ (cdv : Value) (A : Around) (outer : List Env) (s : Shared) (H : Hp) (vs : List V) (Q : VK) (E : XK), Room k (A.deeper (envOfC qual (defScope st) s.heap.objs.size f cdv)) → sp vs H Q E →
      ∃ t, PSs (cxOf (CXN P w) P w K mg base N qual (defScope st) f cdv A outer s H E) (defBody st) t ∧ t { nx := fun _ H' => Q .non H', rt := Q } (L2.start N vs) H) : FnOk P w K mg base (CXN P w) (k + 1) f fd ps sp := by
  obtain ⟨oc, od, kV, doc, pm, an, cdv, ct, osl, rfl, lk, hcd⟩ := F.ex
  exact fn_of lk hcd S len fun A outer s H vs Q E hr hsp => hbody cdv A outer s H vs Q E hr hsp
section
variable {X : Cx}
/-- X(e) -/
theorem pmk_own1 {C : Addr} {bmB : List Value} {B newId initId : String} {x : Str} {e : Expr} {ta : TE} {p pos : Pos} (F : ExcBaseFacts B newId initId bmB) (q : PySem.W.excIn X.K C bmB newId = true) (gC : X.mg x = some (.ref C)) (kC : PySem.W.keepIn X.K (.ref C) = true) (r : Raises X (.ref C)) (hg : Gl X x)
    (he : PE X e ta) (hs : starEach [e] X.env = (false, eval e X.env) :: starEach [] X.env := by rfl) (hdb : (x == ("__debug__" : Str)) = false := by decide) :
    L2N.PMk X (.Call (.Name x p) [e] [] pos) (fun σ H Q => ta σ H fun _ H1 => Q (.ref C) none H1) := by
  intro pins s σ H Q I h
  refine wpAny_Call_Name_kw (ld_glob I hg gC ?_ hdb)
  refine PySem.W.callWith_K (h₀ := X.base) I.ok.mod.kin kC ?_ hs (by rfl)
  rw [hs]
  show wpAny _ _ (spliced ((false, eval e X.env) :: backTo pos (starEach [] X.env))) _ _ s
  refine Calls.spliced_cons (thn (he.run pins s σ H _ I h) fun u s1 ⟨v, H1, I1, r1, q1⟩ => ?_)
  refine Calls.spliced_nil ⟨I1.kIn, ?_⟩
  show wpAny _ _ (call (.ref C) [u]) _ _ _
  obtain ⟨bm, N, nm, qn, bs, hdct, sn, sub, ab, col, dd, k0, k1, k2, k3, k5, mN, hC, hN, hni, T⟩ := exc_obj I1.kIn q
  refine wpAny_call_exc_subT F T hC hN hni (fun h' e hm => ?_) (by show 1 ≤ sizeLine; rw [sizeLine_eq]; omega)
  exact L2N.mk_of I1 hm r q1 (I1.hok.gone hm.new)
end
/-! ### defs called within an except suite -/
def OkH (P : Program) (w : World) (K : PySem.W.Frag) (mg : Str → Option Value) (base : Heap) (CX : CXT) (k : Nat) (x : Str) (ps : List Str) (sp : Sp) : Prop :=
  ∃ (f : Addr) (fd : FuncData), L2H.FnH P w K mg base CX k f fd ps sp ∧ mg x = some (.ref f) ∧ PySem.W.keepIn K (.ref f) = true ∧ Binds K fd ps []
theorem okH_of {P : Program} {w : World} {K : PySem.W.Frag} {mg : Str → Option Value} {base : Heap} {k : Nat} {x : Str} {st : Stmt} {N ps : List Str} {sp : Sp} (d : Dn K mg x st ps) (S : FnScope N ps (defScope st)) (len : ∀ vs H Q E, sp vs H Q E → vs.length = ps.length)
    (hbody : ∀ (f : Addr) (cdv : Value) (A : Around) (outer : List Env) (s : Shared) (H : Hp) (vs : List V) (Q : VK) (E : XK) (p : Addr × Obj), L2H.Hot1 A p → L2H.RoomH k (A.deeper (envOfC x (defScope st) s.heap.objs.size f cdv)) → sp vs H Q E →
      ∃ t, PSs (L2H.cxH CX0 P w K mg base N x (defScope st) f cdv A outer s H E p) (defBody st) t ∧ t { nx := fun _ H' => Q .non H', rt := Q } (L2.start N vs) H) : OkH P w K mg base CX0 (k + 1) x ps sp := by
  obtain ⟨f, fd, F, g, b⟩ := d
  refine ⟨f, fd, ?_, g, F.kp, b⟩
  obtain ⟨oc, od, kV, doc, pm, an, cdv, ct, osl, rfl, lk, hcd⟩ := F.ex
  exact L2H.fn_ofH lk hcd S len fun A outer s H vs Q E p hot hr hsp => hbody f cdv A outer s H vs Q E p hot hr hsp
section
variable {X : Cx} {k : Nat} {ps : List Str} {sp : Sp} {x : Str} {p pos : Pos} {e : Expr} {es : List Expr} {t : TA}
theorem pe_callHO (G : OkH X.prog X.w X.K X.mg X.base CX0 k x ps sp) (hr : L2H.RoomH k X.A) (hc : L2H.HotC X) (ha : PA X (e :: es) t) (hg : Gl X x := by rfl)
    (hdb : (x == ("__debug__" : Str)) = false := by decide) (he : starEach (e :: es) X.env = (false, eval e X.env) :: starEach es X.env := by rfl) (hpl : (backTo pos (starEach es X.env)).any (·.1) = false := by rfl) :
    PE X (.Call (.Name x p) (e :: es) [] pos) (tCallS sp (fun _ => E0) t) := by
  obtain ⟨f, fd, F, g, kp, b⟩ := G
  exact L2H.pe_callH F hr hc hg g kp b (fun _ _ _ _ _ _ _ h => h.elim) ha hdb he hpl
theorem roomS {k j : Nat} {A : Around} {h : Option Value} (hr : Room k A) (hj : j ≤ k) : L2H.RoomH j (A.mark h) := L2H.RoomH.mono (k := k) ⟨hr.dp, hr.un⟩ hj
theorem hotS {a : Addr} {oe : Obj} {cls : Value} {d : Option Addr} {pn : List (Addr × Obj)} (hz : L2N.Zn cls d oe) (hf : ∃ vs, oe.data = .fields vs) : L2H.HotC (X.suite a ((a, oe) :: pn)) := by
  obtain ⟨vs, e⟩ := hf
  exact ⟨(a, oe), ⟨rfl, vs, e, hz.2.2 vs e⟩, List.mem_cons_self⟩
end
/-! ### names of the module -/
/-- the name x of the module holds v -/
def CV (mg : Str → Option Value) (x : Str) (v : V) : Prop := ∃ u, mg x = some u ∧ RelV v u
theorem pe_globC {X : Cx} {x : Str} {v : V} {pos : Pos} (hg : Gl X x) (h : CV X.mg x v) (hd : (x == ("__debug__" : Str)) = false := by decide) : PE X (.Name x pos) (tC v) := by
  obtain ⟨u, hm, r⟩ := h
  exact pe_glob hg hm r hd
theorem pe_globR {X : Cx} {x : Str} {a : Addr} {pos : Pos} (hg : Gl X x) (h : X.mg x = some (.ref a)) (hd : (x == ("__debug__" : Str)) = false := by decide) : PE X (.Name x pos) (tC (.ref a)) := pe_glob hg h rfl hd
/-! ### tests -/
theorem itd {p A B : Prop} [Decidable p] (h1 : p → A) (h2 : ¬ p → B) : if decide p = true then A else B := by
  by_cases h : p
  · rw [if_pos (decide_eq_true h)]
    exact h1 h
  · rw [if_neg (by simp [h])]
    exact h2 h
theorem itb {b : Bool} {A B : Prop} (h1 : b = true → A) (h2 : b = false → B) : if b = true then A else B := by
  cases b with
  | true => exact iteT (h1 rfl)
  | false => exact iteF (h2 rfl)
/-! ### error classes -/
/-- an error class that may have an own __init__ -/
structure XB (K : PySem.W.Frag) (mg : Str → Option Value) (x : Str) (C : Addr) : Prop where
  g : mg x = some (.ref C)
  k : PySem.W.keepIn K (.ref C) = true
  b : PySem.W.subIn K (.ref C) (.type "BaseException") = some true
  t : PySem.W.typeIn K (.ref C) = some (.type "type")
  d : PySem.W.hasDictIn K C = true
  i : PySem.W.isClsIn K C = true
/-- an error class without an own __init__ -/
structure XCl (K : PySem.W.Frag) (mg : Str → Option Value) (x : Str) (C : Addr) : Prop extends XB K mg x C where
  x : PySem.W.excIn K C [.type "ValueError", .type "Exception", .type "BaseException", .type "object"] "ValueError.__new__" = true
  e : ExcC K C
section
variable {K : PySem.W.Frag} {h : Heap} {mg : Str → Option Value} {x : Str} {C : Addr}
theorem xb_mk (X : K.In h) (G : h.Ns mainGlobals mg) (a : PySem.W.nsIn K mainGlobals x = some (some (.ref C))) (k : PySem.W.keepIn K (.ref C) = true) (b : PySem.W.subIn K (.ref C) (.type "BaseException") = some true)
    (t : PySem.W.typeIn K (.ref C) = some (.type "type")) (d : PySem.W.hasDictIn K C = true) (i : PySem.W.isClsIn K C = true) : XB K mg x C := ⟨PySem.W.mg_of X G a, k, b, t, d, i⟩
theorem xcl_mk (X : K.In h) (G : h.Ns mainGlobals mg) (a : PySem.W.nsIn K mainGlobals x = some (some (.ref C)))
    (q : PySem.W.excIn K C [.type "ValueError", .type "Exception", .type "BaseException", .type "object"] "ValueError.__new__" = true) (k : PySem.W.keepIn K (.ref C) = true)
    (b : PySem.W.subIn K (.ref C) (.type "BaseException") = some true) (t : PySem.W.typeIn K (.ref C) = some (.type "type"))
    (hg : PySem.W.findIn K (.ref C) "__getattribute__" = some (some (.builtin "BaseException.__getattribute__"))) (hk : PySem.W.findIn K (.ref C) "__getattr__" = some none) (hd : PySem.W.hasDictIn K C = true)
    (ha : PySem.W.findIn K (.ref C) "__class__" = some (some (.builtin "object.__class__"))) (hn : PySem.W.specialIn K (.builtin "object.__class__") "__get__" = some (some (.builtin "getset_descriptor.__get__")))
    (ht : PySem.W.takesIn K (.builtin "object.__class__") = some true) (hm : PySem.W.mroIn K C (.type "object") = some true) (i : PySem.W.isClsIn K C = true) : XCl K mg x C :=
  ⟨⟨PySem.W.mg_of X G a, k, b, t, hd, i⟩, q, ⟨hg, hk, b, hd, ha, hn, ht, hm⟩⟩
/-- isinstance of an own class -/
theorem kit_own {D : Addr} {r : Bool} (i : PySem.W.isClsIn K C = true) (t : PySem.W.typeIn K (.ref C) = some (.type "type")) (s : PySem.W.subIn K (.ref D) (.ref C) = some r) (hne : (Value.ref D == Value.ref C) = true → r = true) :
    PySem.W.kitOne K (.ref D) (.ref C) = some r := by
  unfold PySem.W.kitOne
  cases e : (Value.ref D == Value.ref C) with
  | true => rw [if_pos rfl, hne e]
  | false =>
    rw [if_neg Bool.false_ne_true]
    have h2 : ((PySem.W.clsIn K C).isSome && PySem.W.typeIn K (.ref C) == some (.type "type")) = true := by
      have h2' : (PySem.W.clsIn K C).isSome = true := i
      rw [h2', t] <;> rfl
    show (if ((PySem.W.clsIn K C).isSome && PySem.W.typeIn K (.ref C) == some (.type "type")) = true then PySem.W.subIn K (.ref D) (.ref C) else none) = some r
    rw [if_pos h2, s]
theorem kit_ve {D : Addr} (s : PySem.W.subIn K (.ref D) (.type "ValueError") = some true) : PySem.W.kitOne K (.ref D) (.type "ValueError") = some true := by
  have e : (Value.ref D == Value.type "ValueError") = false := rfl
  unfold PySem.W.kitOne
  rw [e, if_neg Bool.false_ne_true]
  show (if PySem.W.kitMeta "ValueError" = true then PySem.W.subIn K (.ref D) (.type "ValueError") else none) = some true
  rw [if_pos (by decide +kernel), s]
/-- except C takes an error of the class at D -/
theorem exm_own {D : Addr} {r : Bool} {y : Str} (c : XB K mg y C) (s : PySem.W.subIn K (.ref D) (.ref C) = some r) : PySem.W.exmOne K (.ref D) (.ref C) = some r := PySem.W.exm_ref c.b c.d c.t s
/-! ### the facts of the top -/
theorem dn_mk {st : Stmt} {ps : List Str} {f : Addr} {oc : Value} {od an : Option Addr} {osl : Array (Option Value)} {kV doc pm cdv ct : Value} (X : K.In h) (G : h.Ns mainGlobals mg) (a : PySem.W.nsIn K mainGlobals x = some (some (.ref f)))
    (l : K.lookup f = some ⟨oc, od, .func (PySem.W.fnOf x x (defArgs st) (defBody st) (defScope st) .none kV doc pm an cdv ct), osl⟩) (c : PySem.W.codeIn K cdv x = true) (k : PySem.W.keepIn K (.ref f) = true)
    (hb : ∀ (kV doc pm : Value) (an : Option Addr) (cdv ct : Value) (us : List Value), us.length = ps.length → bindArgs (PySem.W.fnOf x x (defArgs st) (defBody st) (defScope st) .none kV doc pm an cdv ct) ⟨us, []⟩ = pure (ps.zip us)) : Dn K mg x st ps :=
  ⟨f, _, fun_mk l c k, PySem.W.mg_of X G a, (fun_mk l c k).binds hb⟩
theorem cv_int {i : Int} {t : Tok} (X : K.In h) (G : h.Ns mainGlobals mg) (a : PySem.W.nsIn K mainGlobals x = some (some (.int i t))) : CV mg x (.int i) := ⟨_, PySem.W.mg_of X G a, _, rfl⟩
theorem cv_str {i : Str} {t : Tok} (X : K.In h) (G : h.Ns mainGlobals mg) (a : PySem.W.nsIn K mainGlobals x = some (some (.str i t))) : CV mg x (.str i) := ⟨_, PySem.W.mg_of X G a, _, rfl⟩
theorem cv_bl {i : Bool} (X : K.In h) (G : h.Ns mainGlobals mg) (a : PySem.W.nsIn K mainGlobals x = some (some (.bool i))) : CV mg x (.bl i) := ⟨_, PySem.W.mg_of X G a, rfl⟩
/-- the name x of the module holds a tuple of the written part -/
def CT (K : PySem.W.Frag) (mg : Str → Option Value) (x : Str) (xs : List V) : Prop := ∃ p, mg x = some (.ref p) ∧ ∀ H, SqT K H p xs
theorem ct_mk {p : Addr} {od : Option Addr} {its : Array Value} {n : Nat} {sl : Array (Option Value)} {xs : List V} (X : K.In h) (G : h.Ns mainGlobals mg) (a : PySem.W.nsIn K mainGlobals x = some (some (.ref p)))
    (l : K.lookup p = some ⟨.type "tuple", od, .seq its n, sl⟩) (hs : its.size ≤ sizeLine) (hv : Vals xs its.toList) : CT K mg x xs :=
  ⟨p, PySem.W.mg_of X G a, fun _ => .inr ⟨_, its, n, l, rfl, rfl, hs, hv⟩⟩
end
theorem pe_globT {X : Cx} {x : Str} {xs : List V} {pos : Pos} (hg : Gl X x) (h : CT X.K X.mg x xs) (hd : (x == ("__debug__" : Str)) = false := by decide) :
    PE X (.Name x pos) (fun _ H Q => ∀ p, (∀ H', SqT X.K H' p xs) → Q (.ref p) H) := by
  obtain ⟨p, hm, hs⟩ := h
  exact ⟨fun pins s σ H Q I h => (pe_glob hg hm (v := .ref p) rfl hd).run pins s σ H Q I (h p hs)⟩
/-! ### a suite that is read for known errors alone -/
theorem pss_guard {X : Cx} {st : List Stmt} {p : Prop} {t : TS} (h : p → PSs X st t) : PSs X st (fun D σ H => p ∧ t D σ H) :=
  ⟨fun pins s σ H D I q => (h q.1).run pins s σ H D I q.2⟩
theorem to_true {Q : VK} {b : Bool} {H : Hp} (h : b = true) (q : Q (.bl true) H) : Q (.bl b) H := h ▸ q
/-- a new object at p stays the only one that changes -/
theorem same_new {H H' : Hp} {p : Addr} {o : HO} (e : Same H H') (hp : H p = none) : Same H (upd H' p o) := Evl.Ex.mut e hp
theorem same_upd {H : Hp} {p : Addr} {o : HO} (hp : H p = none) : Same H (upd H p o) := Evl.Ex.new hp
theorem tyx_list {K : PySem.W.Frag} {H : Hp} {a : Addr} {xs : List V} (h : SqL K H a xs) : TyX K H (.ref a) (.type "list") := by
  rcases h with (h | ⟨o, h⟩) | ⟨o, its, n, h, hc, _⟩
  · exact .base (.lst h)
  · exact .base (.frz h)
  · exact .kList h hc
theorem tyx_tuple {K : PySem.W.Frag} {H : Hp} {a : Addr} {xs : List V} (h : SqT K H a xs) : TyX K H (.ref a) (.type "tuple") := by
  rcases h with (h | ⟨o, h⟩) | ⟨o, its, n, h, hc, _⟩
  · exact .base (.tup h)
  · exact .fTuple h
  · exact .kTuple h hc
theorem small {n : Nat} (h : n ≤ 100000) : n < sizeLine := Nat.lt_of_le_of_lt h (by decide)
theorem smallE {n : Nat} (h : n ≤ 100000) : n ≤ sizeLine := Nat.le_trans h (by decide)
/-- for .. in enumerate(list) -/
theorem for_enum {K : PySem.W.Frag} {a : Addr} {xs : List V} {g : TG} {tb : TS} {D : Ends} {σ : L2.St} {H : Hp} (Pv : Nat → L2.St → Hp → Prop) (h0 : Pv 0 σ H) (hl : ∀ i σ H, i ≤ xs.length → Pv i σ H → SqL K H a xs)
    (hs : ∀ i x T σ H, xs[i]? = some x → Pv i σ H → H T = none → g (.ref T) σ (upd H T (.tup [.int (i : Nat), x])) fun σ2 H2 => tb { D with nx := Pv (i + 1), ct := Pv (i + 1), bk := D.nx } σ2 H2) (hd : ∀ σ H, Pv xs.length σ H → D.nx σ H) :
    ∃ W : Nat → Nat → L2.St → Hp → Prop, (∃ m, W 0 m σ H) ∧ ∀ i m σ H, W i m σ H →
      ((Ite K a).stop i H ∧ D.nx σ H) ∨ ((Ite K a).go i H ∧ ∃ N : L2.St → Hp → Prop, (∀ σ' H', N σ' H' → ∃ m', m' < m ∧ W (i + 1) m' σ' H') ∧ ∀ x H', (Ite K a).yld i H x H' → g x σ H' fun σ2 H2 => tb { D with nx := N, ct := N, bk := D.nx } σ2 H2) := by
  refine ⟨fun i m σ H => m = xs.length - i ∧ i ≤ xs.length ∧ Pv i σ H, ⟨xs.length, by simp, Nat.zero_le _, h0⟩, ?_⟩
  rintro i m σ H ⟨rfl, hi, p⟩
  have q := hl i σ H hi p
  by_cases hlt : i < xs.length
  · refine .inr ⟨⟨xs, xs[i], q, by simp [hlt]⟩, Pv (i + 1), fun σ' H' p' => ⟨xs.length - (i + 1), by omega, rfl, hlt, p'⟩, fun x H' y => ?_⟩
    obtain ⟨T, z, rfl, hT, rfl, y⟩ := y
    exact hs i z T σ H (y xs q) p hT
  · have e : i = xs.length := by omega
    subst e
    exact .inl ⟨⟨xs, q, Nat.le_refl _⟩, hd σ H p⟩
/-- an item of a list by a number that is told -/
theorem at_nat {α : Type} {xs : List α} {i : Int} {j : Nat} {v : α} (e : i = (j : Int)) (h : xs[j]? = some v) : atI xs i = some v := e ▸ atI_nat h
theorem ix_nat {n j : Nat} {i : Int} (e : i = (j : Int)) (h : j < n) : ixN n i = some j := e ▸ Evl.ixN_nat h
/-! ### rules whose reading names the written part by itself (for the bodies and suites of a try) -/
def rLenK (K : PySem.W.Frag) : List V → Hp → VK → Prop := fun xs H Q => ∃ p ys, xs = [.ref p] ∧ (SqL K H p ys ∨ SqT K H p ys) ∧ Q (.int ys.length) H
theorem call_lenK {X : Cx} {K : PySem.W.Frag} (h : X.K = K := by rfl) : CallR X (.builtin "len") (rLenK K) := by
  subst h
  exact call_len_seq
theorem op_eqDK {X : Cx} {K : PySem.W.Frag} (hu : X.A.units + 64 < cLine) (h : X.K = K := by rfl) : OpR X (compareOp .Eq) (rEqD K) := by
  subst h
  exact op_eqD hu
theorem op_neDK {X : Cx} {K : PySem.W.Frag} (hu : X.A.units + 64 < cLine) (h : X.K = K := by rfl) : OpR X (compareOp .NotEq) (rNeD K) := by
  subst h
  exact op_neD hu
theorem call_isiK' {X : Cx} {K : PySem.W.Frag} (h : X.K = K := by rfl) : CallR X (.builtin "isinstance") (rIsi K) := by
  subst h
  exact call_isi
def rListK (K : PySem.W.Frag) : List V → Hp → VK → Prop := fun xs H Q => ∃ p ys, xs = [.ref p] ∧ (SqL K H p ys ∨ SqT K H p ys) ∧ ∀ l, H l = none → Q (.ref l) (upd H l (.lst ys))
theorem call_list_ofK {X : Cx} {K : PySem.W.Frag} (h : X.K = K := by rfl) : CallR X (.type "list") (rListK K) := by
  subst h
  exact call_list_of
theorem sl_listK {X : Cx} {K : PySem.W.Frag} (h : X.K = K := by rfl) : SlR X (rSlL K) := by
  subst h
  exact sl_list
/-! ### slices -/
theorem sIx_nat {n k : Nat} (d : Nat) (h : k ≤ n) : HT.sIx n d (some (k : Int)) = k := by
  simp only [HT.sIx]
  split <;> omega
theorem cut_to {xs : List V} {k : Nat} (h : k ≤ xs.length) : cutV xs none (some (k : Int)) = xs.take k := by
  unfold cutV
  rw [sIx_nat _ h]
  simp [HT.sIx]
theorem cut_from {xs : List V} {k : Nat} (h : k ≤ xs.length) : cutV xs (some (k : Int)) none = xs.drop k := by
  unfold cutV
  rw [sIx_nat _ h]
  simp only [HT.sIx]
  rw [List.take_of_length_le (by rw [List.length_drop]; omega)]
theorem cut_mid {xs : List V} {j k : Nat} (h1 : j ≤ k) (h : k ≤ xs.length) : cutV xs (some (j : Int)) (some (k : Int)) = (xs.drop j).take (k - j) := by
  unfold cutV
  rw [sIx_nat _ h, sIx_nat _ (Nat.le_trans h1 h)]
/-! ### data -/
mutual
theorem dp_mono {K : PySem.W.Frag} {H H' : Hp} (e : Same H H') : ∀ {d : PyData} {v : V}, Dp K H v d → Dp K H' v d
  | _, _, .non => .non
  | _, _, .bl b => .bl b
  | _, _, .int i => .int i
  | _, _, .str x => .str x
  | _, _, .lst h r => .lst (e.seq h) (dpAll_mono e r)
  | _, _, .tup h r => .tup (Evl.ex_t e h) (dpAll_mono e r)
theorem dpAll_mono {K : PySem.W.Frag} {H H' : Hp} (e : Same H H') : ∀ {ds : List PyData} {vs : List V}, DpAll K H vs ds → DpAll K H' vs ds
  | _, _, .nil => .nil
  | _, _, .cons h r => .cons (dp_mono e h) (dpAll_mono e r)
end
theorem dp_ints {K : PySem.W.Frag} {H : Hp} : ∀ (ns : List Int), DpAll K H (ns.map V.int) (ns.map PyData.int)
  | [] => .nil
  | n :: ns => .cons (.int n) (dp_ints ns)
theorem canLayAll_ints : ∀ (ns : List Int), PyData.canLayAll0 (ns.map PyData.int) = true
  | [] => rfl
  | n :: ns => by simp [PyData.canLayAll0, PyData.canLay0, canLayAll_ints ns]
theorem depthAll_ints : ∀ (ns : List Int), PyData.depthAll (ns.map PyData.int) = 0
  | [] => rfl
  | n :: ns => by simp [PyData.depthAll, PyData.depth, depthAll_ints ns]
theorem shaped_ints (ns : List Int) : SeqAt.shaped (.list (ns.map PyData.int)) = true := by
  simp [SeqAt.shaped, PyData.canLay0, PyData.depth, canLayAll_ints, depthAll_ints]
theorem eqvAll_ints : ∀ (ns ms : List Int), PyData.eqvAll (ns.map PyData.int) (ms.map PyData.int) = decide (ns = ms)
  | [], [] => by simp [PyData.eqvAll]
  | [], m :: ms => by simp [PyData.eqvAll]
  | n :: ns, [] => by simp [PyData.eqvAll]
  | n :: ns, m :: ms => by
    by_cases h : n = m <;> simp [PyData.eqvAll, PyData.eqv, eqvAll_ints ns ms, h]
theorem eqv_ints (ns ms : List Int) : PyData.eqv (.list (ns.map PyData.int)) (.list (ms.map PyData.int)) = decide (ns = ms) := by
  rw [PyData.eqv]
  exact eqvAll_ints ns ms
theorem shaped_pair (as bs : List Int) : SeqAt.shaped (.tuple [.list (as.map PyData.int), .list (bs.map PyData.int)]) = true := by
  simp [SeqAt.shaped, PyData.canLay0, PyData.canLayAll0, PyData.depth, PyData.depthAll, canLayAll_ints, depthAll_ints]
theorem eqv_refl' {d : PyData} (h : SeqAt.shaped d = true) : PyData.eqv d d = true := SeqAt.eqv_refl _ (SeqAt.canLay_of_shaped h)
theorem dp_list {K : PySem.W.Frag} {H : Hp} {a : Addr} {ns : List Int} (h : SqL K H a (ns.map V.int)) : Dp K H (.ref a) (.list (ns.map PyData.int)) := .lst h (dp_ints ns)
theorem get_ints {ns : List Int} {i : Nat} {y : V} (h : (ns.map V.int)[i]? = some y) : ∃ (hi : i < ns.length), y = V.int ns[i] := by
  rw [List.getElem?_map] at h
  by_cases hi : i < ns.length
  · rw [List.getElem?_eq_getElem hi] at h
    exact ⟨hi, (Option.some.inj h).symm⟩
  · rw [List.getElem?_eq_none (Nat.le_of_not_lt hi)] at h
    cases h
theorem take_snoc {α : Type} {l : List α} {i : Nat} (hi : i < l.length) : l.take (i + 1) = l.take i ++ [l[i]] := by
  rw [List.take_add_one, List.getElem?_eq_getElem hi]
  rfl
/-! ### the script's cells -/
def cell (ns : List Int) (k : Nat) : Int := ns.getD k 0
theorem cell_in {ns : List Int} {k : Nat} (hk : k < ns.length) : cell ns k = ns[k] := by simp [cell, List.getD_eq_getElem?_getD, List.getElem?_eq_getElem hk]
theorem cell_out {ns : List Int} {k : Nat} (hk : ¬ k < ns.length) : cell ns k = 0 := by simp [cell, List.getD_eq_getElem?_getD, List.getElem?_eq_none (Nat.le_of_not_lt hk)]
end Cm

/-! ### a generator expression that is used up at once: its body is read in a frame of its own, over the maker's abstract heap -/
namespace GX
open PySem PySem.Spec PyProof.Rows L2 Cm
open Sem (wp)
/-- the names of the generator's frame: the maker's slots, then more -/
abbrev gEnv (X : Cx) (scope : Scope) (C : Addr) (code : Value) : Env := genEnv scope (cloFrom X.env.cells scope.names []) C code builtinsNs X.env
/-- where the generator's body stands: entered at s4 -/
def gCx (X : Cx) (scope : Scope) (code : Value) (fp : List Addr) (s4 : Shared) (H4 : Hp) (B : Around) (ext : List Str) : Cx where
  prog := X.prog
  w := X.w
  K := X.K
  mg := X.mg
  base := X.base
  A := B
  N := X.N ++ ext
  s_0 := s4
  H_0 := H4
  env := gEnv X scope s4.heap.objs.size code
  outer := X.stack
  stack := gEnv X scope s4.heap.objs.size code :: X.stack
  ex := fp
  fn := fun _ => false
  calm := true
  pn := []
  xe := fun _ _ => False
/-- the slots that the body begins with -/
def gS (σ : L2.St) (own : List (Str × Nat)) (ext : List Str) : L2.St := wipe (σ ++ ext.map fun _ => none) (own.map (·.2))
/-- what the text of the expression has -/
structure GOk (N : List Str) (sc scope : Scope) (own : List (Str × Nat)) (ext : List Str) : Prop where
  nd : (N ++ ext).Nodup
  blk : BlkOk (N ++ ext) sc scope own
  co : scope.isCoroutine = false
  cell : ∀ y ∈ scope.names, y.2 ≠ .cell
  dot : scope.names.lookup (".0" : Str) = some NameKind.local
theorem wipe_keeps {σ : L2.St} : ∀ {vs : List Nat} {i : Nat} {v : V}, (wipe σ vs)[i]? = some (some v) → σ[i]? = some (some v) ∧ i ∉ vs
  | [], _, _, h => ⟨h, by simp⟩
  | j :: vs, i, v, h => by
    rw [wipe] at h
    by_cases e : j = i
    · subst e
      rw [List.getElem?_set_self'] at h
      cases q : (wipe σ vs)[j]? with
      | none => rw [q] at h; cases h
      | some u => rw [q] at h; cases h
    · rw [List.getElem?_set_ne e] at h
      obtain ⟨a, b⟩ := wipe_keeps h
      exact ⟨a, by simp only [List.mem_cons, not_or]; exact ⟨fun z => e z.symm, b⟩⟩
section
variable {X : Cx} {pins : List (Addr × Obj)} {σ : L2.St} {H4 H : Hp} {s4 s : Shared} {scope : Scope} {own : List (Str × Nat)} {ext : List Str} {code : Value} {fp : List Addr} {B : Around}
theorem cells_of (ok : ∀ y ∈ scope.names, y.2 = .free → ∃ c, X.env.cells.lookup y.1 = some c) {y : Str} {c : Addr} (e : (cloFrom X.env.cells scope.names []).lookup y = some c) : X.env.cells.lookup y = some c := by
  rcases cloFrom_mem (PySem.mem_of_lookup e) with q | ⟨q, r⟩
  · cases q
  · obtain ⟨c1, hc⟩ := ok _ q rfl
    have hc' : X.env.cells.lookup y = some c1 := hc
    rw [hc'] at r
    rw [hc', r]
    rfl
theorem cells_to {y : Str} (hl : scope.names.lookup y = some .free) : ∃ c, (cloFrom X.env.cells scope.names []).lookup y = some c :=
  mem_lookup (cloFrom_has (cells := X.env.cells) (acc := []) (PySem.mem_of_lookup hl))
theorem free_cells (I : Inv X pins σ H4 s4) (G : GOk X.N X.env.scope scope own ext) : ∀ y ∈ scope.names, y.2 = .free → ∃ c, X.env.cells.lookup y.1 = some c := fun y hy e => by
  rcases G.blk.free y hy e with k | k
  · exact I.ok.has _ (.inl k)
  · exact I.ok.has _ (.inr k)
/-- the body's frame over the maker's heap, at any later state -/
theorem gx_inv (I : Inv X pins σ H4 s4) (G : GOk X.N X.env.scope scope own ext) (hf : ∀ b ∈ fp, FpOk X pins H4 b) (hB : B.frames = some (gEnv X scope s4.heap.objs.size code :: X.stack)) (hh : B.handled = none)
    (os : s.os = s4.os) (bare : AllBare s.gens) (un : Un (frs X.stack) fp H4 H s4.heap s.heap) (hok : HOk X.prog X.w H s.heap) (hns : ∃ m, s.heap.Ns s4.heap.objs.size m) (hC : H s4.heap.objs.size = none) (lt : ∀ b ∈ fp, b < s4.heap.objs.size)
    {ps : List (Addr × Obj)} (hps : ∀ p ∈ ps, s.heap.get? p.1 = some p.2 ∧ H p.1 = none ∧ p.1 ≠ s4.heap.objs.size ∧ p.1 ∉ frs X.stack ∧ ∀ v, p.2.data ≠ .cell v) :
    Inv (gCx X scope code fp s4 H4 B ext) ps (gS σ own ext) H s := by
  have fc := free_cells I G
  have cm : ∀ {y c}, (cloFrom X.env.cells scope.names []).lookup y = some c → X.env.cells.lookup y = some c := fun {y c} e => cells_of fc e
  have e0 := I.env0
  have nfp : ∀ {y c}, X.env.cells.lookup y = some c → c ∉ fp := fun {y c} e z => (hf c z).2.2.2.2.1 y c e rfl
  have cellK : ∀ {y c v}, X.env.cells.lookup y = some c → s4.heap.IsCell c v → s.heap.IsCell c v := fun {y c v} e ⟨o, ho, hd⟩ => by
    obtain ⟨sl, q⟩ := un.any ho (I.freeC y c e) (nfp e)
    exact ⟨_, q, hd⟩
  have hfp : ∀ b ∈ fp, b ∉ frs X.stack := fun b hb z => by
    rcases List.mem_cons.mp (I.stkSub _ z) with e | e
    · exact (hf b hb).2.1 e
    · exact (hf b hb).2.2.1 e
  have hbase : ∀ b o, X.base.get? b = some o → b ∉ fp := fun b o e z => by
    rcases (hf b z).2.2.2.1 with q | q
    · exact I.ok.noex b o e q
    · exact absurd (Nat.lt_of_lt_of_le (Heap.lt_size e) (Nat.le_trans I.ok.bsz q)) (Nat.lt_irrefl _)
  obtain ⟨m, hm⟩ := hns
  refine ⟨⟨e0.mod, G.blk.kind, I.ok.glob, rfl, Nat.le_refl _, fun y z c e1 e2 => I.ok.inj y z c (cm e1) (cm e2), fun y hy => ?_, fun _ _ z _ => ?_, fun _ => hh, hB, .inr ⟨rfl, rfl⟩, fun b hb => ⟨Nat.ne_of_lt (lt b hb), fun y c e => fun z => nfp (cm e) (z ▸ hb)⟩, e0.bs, e0.bsz, hbase, hfp, e0.funs, e0.frf⟩,
    os, bare, un, ⟨m, hm, fun i y v e1 e2 e3 => ?_⟩, fun y c e => ?_, hC, fun y c e => ?_, fun q hq => ?_, hok, ?_⟩
  · have hy' : scope.names.lookup y = some .cell ∨ scope.names.lookup y = some .free := hy
    rcases hy' with hy' | hy'
    · exact absurd rfl (G.cell _ (PySem.mem_of_lookup hy'))
    · exact cells_to hy'
  · exact absurd (show false = true from z) (by decide)
  · have e1' : (X.N ++ ext)[i]? = some y := e1
    obtain ⟨q1, q2⟩ := wipe_keeps e2
    have e3' : Vis scope y := e3
    have own_no : scope.names.lookup y = some .local ∨ scope.names.lookup y = some .cell → False := fun k => by
      have hy : (y, NameKind.local) ∈ scope.names ∨ (y, NameKind.cell) ∈ scope.names := k.elim (fun k => .inl (PySem.mem_of_lookup k)) fun k => .inr (PySem.mem_of_lookup k)
      have own_or : y ∈ own.map (·.1) ∨ y ∉ X.N ++ ext := hy.elim (fun k => G.blk.own _ k (.inl rfl)) fun k => G.blk.own _ k (.inr rfl)
      rcases own_or with z | z
      · obtain ⟨p, hp, ep⟩ := List.mem_map.mp z
        have ei := G.blk.ix p hp
        rw [ep] at ei
        have : p.2 = i := nodup_ix G.nd ei e1'
        exact q2 (List.mem_map.mpr ⟨p, hp, this⟩)
      · exact z (List.mem_of_getElem? e1')
    have hfree : scope.names.lookup y = some .free := by
      rcases e3' with k | k | k
      · exact (own_no (.inl k)).elim
      · exact (own_no (.inr k)).elim
      · exact k
    have hi : i < σ.length := by
      by_cases hi : i < σ.length
      · exact hi
      · rw [List.getElem?_append_right (Nat.le_of_not_lt hi), List.getElem?_map] at q1
        cases q : ext[i - σ.length]? with
        | none => rw [q] at q1; cases q1
        | some u => rw [q] at q1; cases q1
    rw [List.getElem?_append_left hi] at q1
    rw [List.getElem?_append_left (by rw [← I.len]; exact hi)] at e1'
    have sck := G.blk.free _ (PySem.mem_of_lookup hfree) rfl
    obtain ⟨m2, _, hl⟩ := I.loc
    obtain ⟨u, ru, lk⟩ := hl i y v e1' q1 (sck.elim (fun k => .inr (.inl k)) fun k => .inr (.inr k))
    obtain ⟨c2, h2⟩ := cells_to (X := X) hfree
    refine ⟨u, ru, .inr ⟨.inr hfree, c2, h2, ?_⟩⟩
    rcases lk with ⟨k', _⟩ | ⟨_, c3, e', z⟩
    · have k' : X.env.scope.names.lookup y = some .local := k'
      rcases sck with k2 | k2 <;> rw [show X.env.scope.names.lookup y = _ from k2] at k' <;> cases k'
    · rw [cm h2] at e'
      cases e'
      exact cellK (cm h2) z
  · obtain ⟨v, z⟩ := I.cell y c (cm e)
    exact ⟨v, cellK (cm e) z⟩
  · obtain ⟨v, o, ho, hd⟩ := I.cell y c (cm e)
    exact un.free c o ho (I.freeC y c (cm e)) (nfp (cm e))
  · exact hps q (by simpa [gCx] using hq)
  · show (wipe _ _).length = _
    rw [wipe_length, List.length_append, List.length_map]
    show _ = (X.N ++ ext).length
    rw [List.length_append, I.len]
end
/-- what holds while the generator is awake or asleep; sx: what its consumer writes meanwhile -/
structure CO (X : Cx) (fp sx : List Addr) (s4 : Shared) (H4 H : Hp) (s : Shared) : Prop where
  os : s.os = s4.os
  bare : AllBare s.gens
  un : Un (frs X.stack) fp H4 H s4.heap s.heap
  hok : HOk X.prog X.w H s.heap
  ns : ∃ m, s.heap.Ns s4.heap.objs.size m
  free : H s4.heap.objs.size = none
  fr : ∀ b ∈ fp, H b = none
  sx : ∀ b ∈ sx, (∃ o, s.heap.get? b = some o ∧ ∀ v, o.data ≠ .cell v) ∧ H b = none ∧ b ≠ s4.heap.objs.size ∧ b ∉ frs X.stack ∧ b ∉ fp ∧ s4.heap.get? b = none
/-- what the consumer does while the generator sleeps -/
structure Kp (sx : List Addr) (s s' : Shared) : Prop where
  os : s'.os = s.os
  bare : AllBare s'.gens
  keep : ∀ b o, b ∉ sx → s.heap.get? b = some o → s'.heap.get? b = some o
  own : ∀ b ∈ sx, ∃ o, s'.heap.get? b = some o ∧ ∀ v, o.data ≠ .cell v
theorem CO.kp {X : Cx} {fp sx : List Addr} {s4 s s' : Shared} {H4 H : Hp} (h : CO X fp sx s4 H4 H s) (k : Kp sx s s') : CO X fp sx s4 H4 H s' := by
  have n4 : ∀ b o, s4.heap.get? b = some o → b ∉ sx := fun b o e z => by
    rw [(h.sx b z).2.2.2.2.2] at e
    cases e
  have nH : ∀ b u, H b = some u → b ∉ sx := fun b u e z => by
    rw [(h.sx b z).2.1] at e
    cases e
  refine ⟨k.os.trans h.os, k.bare, ⟨fun b o e n h1 h2 => k.keep b o (n4 b o e) (h.un.keep b o e n h1 h2), fun b o e n h1 h2 => ?_, h.un.free, fun b o e h2 => ?_, h.un.tups, h.un.frzs, h.un.tbls⟩, fun a o e => ?_, ?_, h.free, h.fr, fun b hb => ⟨k.own b hb, (h.sx b hb).2⟩⟩
  · obtain ⟨sl, q⟩ := h.un.slot b o e n h1 h2
    exact ⟨sl, k.keep b _ (n4 b o e) q⟩
  · obtain ⟨o', q⟩ := h.un.there b o e h2
    exact ⟨o', k.keep b _ (n4 b o e) q⟩
  · refine (h.hok a o e).stay (fun b u hb q => k.keep b u ?_ q) (fun _ z => z) fun _ _ z => z
    rcases hb with z | z
    · exact z ▸ nH a o e
    · exact nH b _ z
  · obtain ⟨m, o, es, ep, ho, r⟩ := h.ns
    exact ⟨m, o, es, ep, k.keep _ _ (fun z => (h.sx _ z).2.2.1 rfl) ho, r⟩
/-- all that does not change of a generator -/
structure GSt (X : Cx) (pins : List (Addr × Obj)) (σ : L2.St) (scope : Scope) (own : List (Str × Nat)) (ext : List Str) (tg : Expr) (code : Value) (H4 : Hp) (s4 : Shared) (J : It) (fp : List Addr) (it : Addr) (tn : Nat → Heap → Prop) : Prop where
  inv : Inv X pins σ H4 s4
  ok : GOk X.N X.env.scope scope own ext
  turn : Turn X.prog X.w X.K tg J fp it tn
  fpo : ∀ b ∈ fp, FpOk X pins H4 b
  lt : ∀ b ∈ fp, b < s4.heap.objs.size
section
variable {X : Cx} {pins : List (Addr × Obj)} {σ : L2.St} {H4 : Hp} {s4 : Shared} {scope : Scope} {own : List (Str × Nat)} {ext : List Str} {tg elt iter : Expr} {code : Value} {fp sx : List Addr} {J : It} {it : Addr} {tn : Nat → Heap → Prop} {pos : Pos}
/-- the loop's code -/
abbrev gLoop (X : Cx) (tg elt iter : Expr) (scope : Scope) (pos : Pos) (it : Addr) (s4 : Shared) (code : Value) : Code :=
  .compLoop (.GeneratorExp elt [⟨tg, iter, [], 0⟩] scope pos) 0 (.ref it) .none (gEnv X scope s4.heap.objs.size code)
abbrev gFirst (X : Cx) (tg elt iter : Expr) (scope : Scope) (pos : Pos) (it : Addr) (s4 : Shared) (code : Value) : Code :=
  .compStart (.GeneratorExp elt [⟨tg, iter, [], 0⟩] scope pos) 0 (.ref it) .none (gEnv X scope s4.heap.objs.size code)
def gY (X : Cx) (fp sx : List Addr) (s4 : Shared) (H4 : Hp) (tn : Nat → Heap → Prop) (W : Nat → Nat → Hp → Prop) (Yd : Nat → Nat → V → Hp → Prop) : Protocol := fun n s0 v s kap =>
  ∃ (y : V) (i m : Nat) (H : Hp), RelV y v ∧ Yd i m y H ∧ CO X fp sx s4 H4 H s ∧ tn (i + 1) s.heap ∧ (∀ b ∈ sx, s.heap.get? b = s0.heap.get? b) ∧ m ≤ n ∧ ∀ m' s', m' < m → W (i + 1) m' H → Kp sx s s' → kap (.send .none) s'
def gE (X : Cx) (fp sx : List Addr) (s4 : Shared) (H4 : Hp) (Dn : Hp → Prop) : Nat → Shared → Shared → Prop := fun _ s0 s => ∃ H, Dn H ∧ CO X fp sx s4 H4 H s ∧ ∀ b ∈ sx, s.heap.get? b = s0.heap.get? b
theorem CO.inv {H : Hp} {s : Shared} {B : Around} (S : GSt X pins σ scope own ext tg code H4 s4 J fp it tn) (h : CO X fp sx s4 H4 H s) (hB : B.frames = some (gEnv X scope s4.heap.objs.size code :: X.stack)) (hh : B.handled = none) :
    Inv (gCx X scope code fp s4 H4 B ext) (pinsAt sx s.heap) (gS σ own ext) H s := by
  refine gx_inv S.inv S.ok S.fpo hB hh h.os h.bare h.un h.hok h.ns h.free S.lt fun p hp => ?_
  obtain ⟨hb, e⟩ := of_pinsAt hp
  obtain ⟨⟨o, e', d⟩, h2, h3, h4, _⟩ := h.sx p.1 hb
  rw [e] at e'
  cases e'
  exact ⟨e, h2, h3, h4, d⟩
theorem CO.of_inv {H H' : Hp} {s s' : Shared} {B : Around} {σ' : L2.St} (h : CO X fp sx s4 H4 H s) (I : Inv (gCx X scope code fp s4 H4 B ext) (pinsAt sx s.heap) σ' H' s') (hf : ∀ b ∈ fp, H' b = none) : CO X fp sx s4 H4 H' s' ∧ ∀ b ∈ sx, s'.heap.get? b = s.heap.get? b := by
  have pin : ∀ b ∈ sx, ∀ o, s.heap.get? b = some o → s'.heap.get? b = some o ∧ H' b = none := fun b hb o e => by
    have z := I.pin (b, o) (List.mem_append_right _ (mem_pinsAt hb e))
    exact ⟨z.1, z.2.1⟩
  refine ⟨⟨I.os, I.bare, I.base, I.hok, ?_, I.free, hf, fun b hb => ?_⟩, fun b hb => ?_⟩
  · obtain ⟨m, hm, _⟩ := I.loc
    exact ⟨m, hm⟩
  · obtain ⟨⟨o, e, d⟩, h2, h3⟩ := h.sx b hb
    obtain ⟨p1, p2⟩ := pin b hb o e
    exact ⟨⟨o, p1, d⟩, p2, h3⟩
  · obtain ⟨⟨o, e, d⟩, _⟩ := h.sx b hb
    rw [e, (pin b hb o e).1]
theorem seg_loop {Ag : Around} (S : GSt X pins σ scope own ext tg code H4 s4 J fp it tn) (hfr : Ag.frames = some X.stack) (hh : Ag.handled = none) {g : TG} {te : TE}
    (hg : PG (gCx X scope code fp s4 H4 (Ag.over (gLoop X tg elt iter scope pos it s4 code) []) ext) tg g) (he : PE (gCx X scope code fp s4 H4 (Ag.over (gLoop X tg elt iter scope pos it s4 code) []) ext) elt te)
    (W : Nat → Nat → Hp → Prop) (Dn : Hp → Prop) (Yd : Nat → Nat → V → Hp → Prop)
    (turn : ∀ i m H, W i m H → (J.stop i H ∧ Dn H) ∨ (J.go i H ∧ ∃ Yn : V → Hp → Prop, (∀ v H3, Yn v H3 → Yd i m v H3) ∧ ∀ x H', J.yld i H x H' → g x (gS σ own ext) H' fun σ2 H2 => te σ2 H2 Yn)) :
    ∀ n i m H s, m < n → W i m H → CO X fp sx s4 H4 H s → tn i s.heap →
      Seg (model X.prog X.w) Ag (fun n s0 r s1 => r = .ok .next ∧ gE X fp sx s4 H4 Dn n s0 s1) (gY X fp sx s4 H4 tn W Yd) n s (gLoop X tg elt iter scope pos it s4 code) ((model X.prog X.w).den (gLoop X tg elt iter scope pos it s4 code)) [] s := by
  have hB : (Ag.over (gLoop X tg elt iter scope pos it s4 code) []).frames = some (gEnv X scope s4.heap.objs.size code :: X.stack) := by
    show pushEnvs [gEnv X scope s4.heap.objs.size code] (pushEnvs [] Ag.frames) = _
    rw [hfr]
    rfl
  have hBh : (Ag.over (gLoop X tg elt iter scope pos it s4 code) []).handled = none := hh
  intro n
  induction n with
  | zero => exact fun i m H s hm => absurd hm (Nat.not_lt_zero _)
  | succ n ih =>
    intro i m H s hm w0 h0 t0
    have I0 := CO.inv S h0 hB hBh
    have ff : ∀ {H' : Hp}, (∀ b ∈ fp, H' b = none) → ∀ b ∈ fp, FpOk (gCx X scope code fp s4 H4 (Ag.over (gLoop X tg elt iter scope pos it s4 code) []) ext) (pinsAt sx s.heap) H' b := fun hn b hb => by
      refine ⟨hn b hb, Nat.ne_of_lt (S.lt b hb), I0.ok.exfs b hb, .inl hb, (I0.ok.exf b hb).2, fun p hp z => ?_⟩
      have q := (of_pinsAt (show p ∈ pinsAt sx s.heap by simpa [gCx] using hp)).1
      exact (h0.sx p.1 q).2.2.2.2.1 (z ▸ hb)
    show Seg _ Ag _ _ _ s _ ((compTurn (.GeneratorExp elt [⟨tg, iter, [], 0⟩] scope pos) 0 (.ref it) .none (gEnv X scope s4.heap.objs.size code)).onRaise (leaving (gEnv X scope s4.heap.objs.size code))) [] s
    rw [compTurn_gen, Sem.onRaise_eq_wrap]
    refine seg_bind_wrap (wpAny_standAt ?_)
    rcases turn i m H w0 with ⟨stop, dn⟩ | ⟨go, Yn, hYn, step⟩
    · refine seg_bind_wrap (wpAny_mono (S.turn.done (gCx X scope code fp s4 H4 (Ag.over (gLoop X tg elt iter scope pos it s4 code) []) ext) rfl rfl rfl rfl i _ s _ H (fun _ _ => False) I0 (ff h0.fr) t0 stop) (fun r s1 hr => ?_) fun _ _ z => False.elim z)
      obtain ⟨rfl, I1⟩ := hr
      obtain ⟨c1, x1⟩ := h0.of_inv I1 h0.fr
      exact seg_end (.ok .next) ⟨rfl, H, dn, c1, x1⟩
    · refine seg_bind_wrap (wpAny_mono (S.turn.item (gCx X scope code fp s4 H4 (Ag.over (gLoop X tg elt iter scope pos it s4 code) []) ext) rfl rfl rfl rfl i _ s _ H (fun _ _ => False) I0 (ff h0.fr) t0 go) (fun r s1 hr => ?_) fun _ _ z => False.elim z)
      obtain ⟨u, rfl, h1⟩ := hr
      refine seg_bind_wrap (wpAny_mono h1 (fun _ s2 h2 => ?_) fun _ _ z => False.elim z)
      obtain ⟨x, H2, I2, rx, y2, t2, f2⟩ := h2
      have I2p := I2.pinned (ff f2) (S.turn.obj _ _ t2)
      refine seg_bind_wrap (wpAny_mono (hg.run _ s2 _ H2 x u _ I2p rx (step x H2 y2)) (fun _ s3 h3 => ?_) fun _ _ z => False.elim z)
      obtain ⟨σ3, H3, I3, q3⟩ := h3
      simp only [List.forIn_nil]
      refine seg_bind_wrap (wpAny_pure ?_)
      simp only [if_true]
      have hy : ∀ v, yieldOut (gEnv X scope s4.heap.objs.size code) v = yieldValue v := fun v => by
        have q : (gEnv X scope s4.heap.objs.size code).scope.isCoroutine = false := S.ok.co
        simp only [yieldOut, q, Bool.false_eq_true, if_false]
      simp only [hy]
      rw [Sem.bind_eq_wrap', Sem.bind_eq_wrap', Sem.wrap_wrap, Sem.wrap_wrap]
      refine seg_wrap (wpAny_mono (he.run _ s3 σ3 H3 _ I3 q3) (fun v s5 h5 => ?_) fun _ _ z => False.elim z)
      obtain ⟨y, H5, I5, ry, q5⟩ := h5
      have pf : ∀ b ∈ fp, ∀ o, s2.heap.get? b = some o → s5.heap.get? b = some o ∧ H5 b = none := fun b hb o e => by
        have z := I5.pin (b, o) (List.mem_append_right _ (List.mem_append_right _ (mem_pinsAt hb e)))
        exact ⟨z.1, z.2.1⟩
      have f5 : ∀ b ∈ fp, H5 b = none := fun b hb => by
        obtain ⟨o, e, _⟩ := S.turn.obj _ _ t2 b hb
        exact (pf b hb o e).2
      have t5 : tn (i + 1) s5.heap := S.turn.keep _ _ _ t2 fun b hb o e => (pf b hb o e).1
      obtain ⟨c5, x5⟩ := h0.of_inv I5.unpinned f5
      refine seg_at (seg_yield rfl rfl rfl ⟨y, i, m, H5, ry, hYn _ _ q5, c5, t5, x5, Nat.lt_succ_iff.mp hm, fun m' s' hm' w' kp => ?_⟩)
      refine seg_again rfl (ih (i + 1) m' H5 s' (Nat.lt_of_lt_of_le hm' (Nat.lt_succ_iff.mp hm)) w' (c5.kp kp) (S.turn.keep _ _ _ t5 fun b hb o e => kp.keep b o (fun z => (c5.sx b z).2.2.2.2.1 hb) e))
theorem seg_first {Ag : Around} (S : GSt X pins σ scope own ext tg code H4 s4 J fp it tn) (hh : Ag.handled = none) {R : GenEnd} {Y : Protocol} {n : Nat} {s0 s : Shared} (t0 : tn 0 s.heap)
    (loop : Seg (model X.prog X.w) Ag R Y n s0 (gLoop X tg elt iter scope pos it s4 code) ((model X.prog X.w).den (gLoop X tg elt iter scope pos it s4 code)) [] s) :
    Seg (model X.prog X.w) Ag R Y n s0 (gFirst X tg elt iter scope pos it s4 code) ((model X.prog X.w).den (gFirst X tg elt iter scope pos it s4 code)) [] s := by
  show Seg _ Ag _ _ _ s0 _ ((compStart (.GeneratorExp elt [⟨tg, iter, [], 0⟩] scope pos) 0 (.ref it) .none (gEnv X scope s4.heap.objs.size code)).onRaise (leaving (gEnv X scope s4.heap.objs.size code))) [] s
  unfold compStart
  rw [Sem.onRaise_eq_wrap]
  show Seg _ Ag _ _ _ s0 _ ((ask >>= _).wrap _ _ _ _) [] s
  refine seg_bind_wrap (wpAny_askSetting ?_)
  split
  · exact seg_again rfl loop
  · first
      | exact seg_bind_wrap (wpAny_rule (seg_bind_wrap (wpAny_standAt (seg_bind_wrap (S.turn.self _ 0 s _ _ t0 (seg_again rfl loop))))))
      | (refine seg_bind_wrap (wpAny_rule ?_); show Seg _ Ag _ _ _ s0 _ ((standAt iter.pos >>= _).wrap _ _ _ _) [] s; exact seg_bind_wrap (wpAny_standAt (seg_bind_wrap (S.turn.self _ 0 s _ _ t0 (seg_again rfl loop)))))
theorem lim_of {H : Hp} {s : Shared} (S : GSt X pins σ scope own ext tg code H4 s4 J fp it tn) (h : CO X fp sx s4 H4 H s) : s.heap.NoLimit := by
  refine S.inv.ok.mod.nolimit.keeps fun b o e => ?_
  obtain ⟨e1, e2⟩ := S.inv.bs b o e
  refine h.un.keep b o e1 e2 (fun z => ?_) fun z => ?_
  · have q := (S.inv.env0.funs.mem z).1
    rw [e] at q
    cases q
  · rcases (S.fpo b z).2.2.2.1 with q | q
    · exact S.inv.ok.noex b o e q
    · exact absurd (Nat.lt_of_lt_of_le (Heap.lt_size e) (Nat.le_trans S.inv.ok.bsz q)) (Nat.lt_irrefl _)
/-- the generator at ga, its state kept at gi, asleep; n: how often it may be woken -/
structure GA (X : Cx) (fp sx : List Addr) (s4 : Shared) (H4 : Hp) (tn : Nat → Heap → Prop) (W : Nat → Nat → Hp → Prop) (Dn : Hp → Prop) (Yd : Nat → Nat → V → Hp → Prop) (Ag : Around) (ga : Addr) (gi n : Nat) (s : Shared) : Prop where
  gen : s.heap.IsGen ga gi
  mem : ga ∈ sx
  co : ∃ H, CO X fp sx s4 H4 H s
  goes : ∃ gs, s.gens[gi]? = some gs ∧ ∀ s', Kp sx s s' → gs.Goes (model X.prog X.w) Ag (fun n s0 r s1 => r = .ok .next ∧ gE X fp sx s4 H4 Dn n s0 s1) (gY X fp sx s4 H4 tn W Yd) n (.send .none) s'
theorem AllBare.set {s : Shared} {g : Nat} {x : GenState} (h : AllBare s.gens) (hx : x.bare = true) : AllBare (s.setGen g x).gens := fun y hy => by
  obtain ⟨j, hj, e⟩ := Array.mem_iff_getElem.mp hy
  by_cases q : g = j
  · subst q
    simp [Shared.setGen] at e
    exact e ▸ hx
  · have hj' : j < s.gens.size := by simpa [Shared.setGen] using hj
    have e2 : y = s.gens[j] := by
      rw [← e]
      simp only [Shared.setGen]
      exact Array.getElem_setIfInBounds_ne hj' q
    rw [e2]
    exact h _ (Array.getElem_mem hj')
theorem CO.any {H : Hp} {s s' : Shared} (h : CO X fp sx s4 H4 H s) (os : s'.os = s.os) (bare : AllBare s'.gens) (k : ∀ b o, s.heap.get? b = some o → s'.heap.get? b = some o) : CO X fp sx s4 H4 H s' :=
  h.kp ⟨os, bare, fun b o _ e => k b o e, fun b hb => let ⟨⟨o, e, d⟩, _⟩ := h.sx b hb; ⟨o, k b o e, d⟩⟩
theorem gen_next {Ap : Around} {W : Nat → Nat → Hp → Prop} {Dn : Hp → Prop} {Yd : Nat → Nat → V → Hp → Prop} {ga : Addr} {gi n : Nat} {s : Shared} {E : Value → Shared → Prop} (S : GSt X pins σ scope own ext tg code H4 s4 J fp it tn) (hh : Ap.handled = none) (hd : Ap.depth < recursionLimit)
    (h : GA X fp sx s4 H4 tn W Dn Yd Ap.in1 ga gi (n + 1) s) :
    wpAny (model X.prog X.w) Ap (pyNext (.ref ga)) (fun r s1 => (r = none ∧ ∃ H, Dn H ∧ CO X fp sx s4 H4 H s1 ∧ ∀ b ∈ sx, s1.heap.get? b = s.heap.get? b) ∨
      ∃ v y i m H, r = some v ∧ RelV y v ∧ Yd i m y H ∧ CO X fp sx s4 H4 H s1 ∧ (∀ b ∈ sx, s1.heap.get? b = s.heap.get? b) ∧ m ≤ n ∧ ∀ m', m' < m → W (i + 1) m' H → GA X fp sx s4 H4 tn W Dn Yd Ap.in1 ga gi n s1) E s := by
  obtain ⟨hg, hm, ⟨H0, c0⟩, gs, hgs, hgo⟩ := h
  have hlt : gi + 1 ≤ s.gens.size := by
    by_cases q : gi < s.gens.size
    · exact q
    · rw [Array.getElem?_eq_none (Nat.le_of_not_lt q)] at hgs
      cases hgs
  refine GenW.wpAny_gsz hlt (wpAny_pyNext_genexpQ (P := gE X fp sx s4 H4 Dn) hh (lim_of S c0) hd hg hgs (hgo _ ⟨rfl, AllBare.set c0.bare rfl, fun _ _ _ e => e, fun b hb => (c0.sx b hb).1⟩) (fun v s1 gs' hb hy hsz => ?_) (fun s1 he h' hk _ => ?_))
  · obtain ⟨y, i, m, H, ry, yd, c1, t1, x1, hmn, hka⟩ := hy
    have c2 : CO X fp sx s4 H4 H (s1.setGen gi gs') := c1.any rfl (AllBare.set c1.bare hb) fun _ _ e => e
    refine .inr ⟨v, y, i, m, H, rfl, ry, yd, c2, x1, hmn, fun m' hm' w' => ⟨?_, hm, ⟨H, c2⟩, gs', ?_, fun s' kp => ?_⟩⟩
    · obtain ⟨o, nm, qn, ho, r⟩ := hg
      exact ⟨o, nm, qn, (x1 ga hm).trans ho, r⟩
    · have hsz2 : gi < s1.gens.size := by
        have q : (s1.setGen gi gs').gens.size = s1.gens.size := GenW.setGen_size _ _ _
        rw [q] at hsz
        exact hsz
      simp [Shared.setGen, hsz2]
    · exact hka m' s' hm' w' ⟨kp.os, kp.bare, kp.keep, kp.own⟩
  · obtain ⟨H, dn, c1, x1⟩ := he
    have c2 : CO X fp sx s4 H4 H { s1.setGen gi .finished with heap := h' } := c1.any rfl (AllBare.set c1.bare rfl) hk
    refine .inl ⟨rfl, H, dn, c2, fun b hb => ?_⟩
    obtain ⟨⟨o, e, _⟩, _⟩ := c1.sx b hb
    exact (hk b o e).trans (e.symm.trans (x1 b hb))
theorem any_walk {W : Nat → Nat → Hp → Prop} {QT QF : Hp → Prop} {ga : Addr} {gi : Nat} {R : Result → Shared → Prop} (S : GSt X pins σ scope own ext tg code H4 s4 J fp it tn) (hh : X.A.handled = none) (hd : X.A.depth < recursionLimit)
    (hR : ∀ (b : Bool) (H : Hp) (s' : Shared), (if b = true then QT H else QF H) → CO X fp sx s4 H4 H s' → R (.ok (.ret (.bool b))) s') :
    ∀ n s, GA X fp sx s4 H4 tn W QF (fun i m y H => ∃ b, y = V.bl b ∧ if b = true then QT H else ∃ m', m' < m ∧ W (i + 1) m' H) X.A.in1.in1 ga gi (n + 1) s → codeAny (model X.prog X.w) X.A (.builtin "any.loop" ⟨[.ref ga], []⟩) R s := by
  intro n
  induction n with
  | zero =>
    intro s h
    refine codeAny_builtin F.entry_any_loop ?_
    rw [Around.under_plainId F.plain_any_loop _]
    show wpAny _ X.A.in1 (pyNext (.ref ga) >>= _) _ _ s
    refine wpAny_bind (wpAny_mono (gen_next (E := fun _ _ => False) S hh hd h) (fun r s1 hr => ?_) fun _ _ z => False.elim z)
    rcases hr with ⟨rfl, H, dn, c1, _⟩ | ⟨v, y, i, m, H, rfl, ry, ⟨b, rfl, yd⟩, c1, _, hm, _⟩
    · exact wpAny_bind (wpAny_rule (wpAny_pure (hR false H s1 (iteF dn) c1)))
    · obtain rfl : v = Value.bool b := ry
      refine wpAny_bind (wpAny_holding (wpAny_truthy_bool (wpAny_bind (wpAny_letGo ?_))))
      cases b with
      | true => exact wpAny_bind (wpAny_rule (wpAny_pure (hR true H s1 yd c1)))
      | false =>
        obtain ⟨m', hm', _⟩ : ∃ m', m' < m ∧ W (i + 1) m' H := yd
        omega
  | succ n ih =>
    intro s h
    refine codeAny_builtin F.entry_any_loop ?_
    rw [Around.under_plainId F.plain_any_loop _]
    show wpAny _ X.A.in1 (pyNext (.ref ga) >>= _) _ _ s
    refine wpAny_bind (wpAny_mono (gen_next (E := fun _ _ => False) S hh hd h) (fun r s1 hr => ?_) fun _ _ z => False.elim z)
    rcases hr with ⟨rfl, H, dn, c1, _⟩ | ⟨v, y, i, m, H, rfl, ry, ⟨b, rfl, yd⟩, c1, _, hm, more⟩
    · exact wpAny_bind (wpAny_rule (wpAny_pure (hR false H s1 (iteF dn) c1)))
    · obtain rfl : v = Value.bool b := ry
      refine wpAny_bind (wpAny_holding (wpAny_truthy_bool (wpAny_bind (wpAny_letGo ?_))))
      cases b with
      | true => exact wpAny_bind (wpAny_rule (wpAny_pure (hR true H s1 yd c1)))
      | false =>
        obtain ⟨m', hm', w'⟩ : ∃ m', m' < m ∧ W (i + 1) m' H := yd
        exact wpAny_pure ⟨plainId_quiet F.plain_any_loop _, ih s1 (more m' hm' w')⟩
theorem all_walk {W : Nat → Nat → Hp → Prop} {QT QF : Hp → Prop} {ga : Addr} {gi : Nat} {R : Result → Shared → Prop} (S : GSt X pins σ scope own ext tg code H4 s4 J fp it tn) (hh : X.A.handled = none) (hd : X.A.depth < recursionLimit)
    (hR : ∀ (b : Bool) (H : Hp) (s' : Shared), (if b = true then QT H else QF H) → CO X fp sx s4 H4 H s' → R (.ok (.ret (.bool b))) s') :
    ∀ n s, GA X fp sx s4 H4 tn W QT (fun i m y H => ∃ b, y = V.bl b ∧ if b = false then QF H else ∃ m', m' < m ∧ W (i + 1) m' H) X.A.in1.in1 ga gi (n + 1) s → codeAny (model X.prog X.w) X.A (.builtin "all.loop" ⟨[.ref ga], []⟩) R s := by
  intro n
  induction n with
  | zero =>
    intro s h
    refine codeAny_builtin F.entry_all_loop ?_
    rw [Around.under_plainId F.plain_all_loop _]
    show wpAny _ X.A.in1 (pyNext (.ref ga) >>= _) _ _ s
    refine wpAny_bind (wpAny_mono (gen_next (E := fun _ _ => False) S hh hd h) (fun r s1 hr => ?_) fun _ _ z => False.elim z)
    rcases hr with ⟨rfl, H, dn, c1, _⟩ | ⟨v, y, i, m, H, rfl, ry, ⟨b, rfl, yd⟩, c1, _, hm, _⟩
    · exact wpAny_bind (wpAny_rule (wpAny_pure (hR true H s1 (iteT dn) c1)))
    · obtain rfl : v = Value.bool b := ry
      refine wpAny_bind (wpAny_holding (wpAny_truthy_bool (wpAny_bind (wpAny_letGo ?_))))
      cases b with
      | false => exact wpAny_bind (wpAny_rule (wpAny_pure (hR false H s1 yd c1)))
      | true =>
        obtain ⟨m', hm', _⟩ : ∃ m', m' < m ∧ W (i + 1) m' H := yd
        omega
  | succ n ih =>
    intro s h
    refine codeAny_builtin F.entry_all_loop ?_
    rw [Around.under_plainId F.plain_all_loop _]
    show wpAny _ X.A.in1 (pyNext (.ref ga) >>= _) _ _ s
    refine wpAny_bind (wpAny_mono (gen_next (E := fun _ _ => False) S hh hd h) (fun r s1 hr => ?_) fun _ _ z => False.elim z)
    rcases hr with ⟨rfl, H, dn, c1, _⟩ | ⟨v, y, i, m, H, rfl, ry, ⟨b, rfl, yd⟩, c1, _, hm, more⟩
    · exact wpAny_bind (wpAny_rule (wpAny_pure (hR true H s1 (iteT dn) c1)))
    · obtain rfl : v = Value.bool b := ry
      refine wpAny_bind (wpAny_holding (wpAny_truthy_bool (wpAny_bind (wpAny_letGo ?_))))
      cases b with
      | false => exact wpAny_bind (wpAny_rule (wpAny_pure (hR false H s1 yd c1)))
      | true =>
        obtain ⟨m', hm', w'⟩ : ∃ m', m' < m ∧ W (i + 1) m' H := yd
        exact wpAny_pure ⟨plainId_quiet F.plain_all_loop _, ih s1 (more m' hm' w')⟩
end
/-! ### made -/
section
variable {X : Cx} {pins : List (Addr × Obj)} {σ : L2.St} {H : Hp} {s : Shared} {scope : Scope} {own : List (Str × Nat)} {ext : List Str} {tg elt iter : Expr} {pos : Pos} {c P : Addr} {wi : TI} {k : Nat}
theorem gen_eval {R : It → Hp → Prop} {Q' : Value → Shared → Prop} (hr : Room k X.A) (TB : GxR.TabB X.base X.mg c P) (hcode : X.env.code = .ref c) (G : GOk X.N X.env.scope scope own ext) (hi : PI X tg iter wi) (hs : ∀ v, genFold iter X.env v = pure v)
    (I : Inv X pins σ H s) (h : wi σ H fun J H1 => GxR.TabG H1 P ∧ R J H1)
    (hQ : ∀ (J : It) (fp : List Addr) (it : Addr) (tn : Nat → Heap → Prop) (H1 H4 : Hp) (s4 s5 : Shared) (code : Value) (ga : Addr) (gi : Nat), R J H1 → GxR.Tabbed P H1 H4 → GSt X pins σ scope own ext tg code H4 s4 J fp it tn → tn 0 s5.heap → CO X fp [ga] s4 H4 H4 s5 →
      s5.heap.IsGen ga gi → s5.gens[gi]? = some (.fresh (gFirst X tg elt iter scope pos it s4 code)) → Q' (.ref ga) s5) :
    wpAny (model X.prog X.w) X.A (eval (.GeneratorExp elt [⟨tg, iter, [], 0⟩] scope pos) X.env) Q' X.xe s := by
  refine wpAny_GeneratorExp_make G.co (closure_ok (free_cells I G)) G.cell G.dot G.blk.kind hr.depth (thn (hi.run pins s σ H _ I h) fun xv s1 h1 => thn h1 fun itv s2 h2 => ?_) hs
  obtain ⟨it, fp, tn, J, H1, rfl, I2, T, t2, f2, ⟨ps, hP, ht⟩, q⟩ := h2
  have hPs : s2.heap.get? P = some { cls := .none, data := .fields ps } := I2.hok P _ hP
  have cd : PySem.W.CodeHd s2.heap c P := TB.code.keeps fun b u e => I2.bk b u e
  have nP : ∀ b ∈ fp, b ≠ P := fun b hb z => by
    have z2 := (f2 b hb).1
    rw [z, hP] at z2
    cases z2
  refine ⟨I2.nolimit, ?_⟩
  have cont : ∀ (code : Value) (h3 : Heap) (tk : Nat) (more : Array Value), Heap.ExtBut P s2.heap h3 → h3.get? P = some { cls := .none, data := .fields (ps ++ more) } → TriplesOk (ps ++ more).toList →
      wpAny (model X.prog X.w) X.A (builtinsFor X.env.globals X.env.builtins) (fun bi s₄ => ∀ h', h'.Ns s₄.heap.objs.size (fun y => if y = ".0" then some (.ref it) else none) → Heap.SameBut s₄.heap.objs.size (s₄.heap.push { cls := .type "frame", data := .dict #[] }) h' →
          Q' (.ref h'.objs.size) { s₄ with
            gens := s₄.gens.push (.fresh (.compStart (.GeneratorExp elt [⟨tg, iter, [], 0⟩] scope pos) 0 (.ref it) .none (genEnv scope (cloFrom X.env.cells scope.names []) s₄.heap.objs.size code bi X.env))),
            toks := s₄.toks + 1 + 1 + 1,
            heap := h'.push { cls := .type "generator", data := .fields #[.int s₄.gens.size 0, .str "<genexpr>" (s₄.toks + 1), .str (X.env.qual ++ "<genexpr>") (s₄.toks + 1 + 1)] } }) X.xe { s2 with heap := h3, toks := tk } := by
    intro code h3 tk more hx h3P ht3
    have I4 := GxR.inv_tab (more := more) (h' := h3) (g' := s2.gens) (d' := s2.drawn) (t' := tk) I2 hP (fun b u hb e => hx b u hb e) h3P I2.bare
    obtain ⟨bm, ob, e1, e2, e3, e4, e5, e6, e7, e8⟩ := TB.bm
    refine wpAny_builtinsFor (m := X.mg) (by rw [I4.ok.glob]; exact I4.mod.glob.keeps I4.bk) e1 e2 (I4.bk _ _ e5) e6 e7 e8 ?_
    intro h' hn' hs'
    have keep1 : ∀ b o, h3.get? b = some o → h'.get? b = some o := fun b o e => hs'.extBut b o (Nat.ne_of_lt (Heap.lt_size e)) (Heap.get?_push_of_some _ e)
    have sz' : h'.objs.size = h3.objs.size + 1 := by rw [hs'.1, Heap.size_push]
    have keep5 : ∀ b o, h3.get? b = some o → (h'.push { cls := .type "generator", data := .fields #[.int s2.gens.size 0, .str "<genexpr>" (tk + 1), .str (X.env.qual ++ "<genexpr>") (tk + 1 + 1)] }).get? b = some o := fun b o e => Heap.get?_push_of_some _ (keep1 b o e)
    have f4 : ∀ b ∈ fp, FpOk X pins (upd H1 P (.tbl (ps ++ more))) b := fun b hb => ⟨by rw [upd_ne (nP b hb)]; exact (f2 b hb).1, (f2 b hb).2⟩
    have t4 : tn 0 h3 := T.keep _ _ _ t2 fun b hb o e => hx b o (nP b hb) e
    have lt : ∀ b ∈ fp, b < h3.objs.size := fun b hb => by
      obtain ⟨o, e, _⟩ := T.obj _ _ t4 b hb
      exact Heap.lt_size e
    have S : GSt X pins σ scope own ext tg code (upd H1 P (.tbl (ps ++ more))) { s2 with heap := h3, toks := tk } J fp it tn := ⟨I4, G, T, f4, lt⟩
    have nga : ∀ b, h3.objs.size ≤ b → upd H1 P (.tbl (ps ++ more)) b = none := fun b hb => I4.hok.fresh hb
    refine hQ J fp it tn H1 _ { s2 with heap := h3, toks := tk } _ code h'.objs.size s2.gens.size q ⟨⟨_, upd_same, ht3⟩, fun b hb => upd_ne hb⟩ S (T.keep _ _ _ t4 fun b hb o e => keep5 b o e) ⟨rfl, AllBare.push I2.bare rfl, Un.kept keep5, I4.hok.kept keep5, ⟨_, hn'.push _⟩, nga _ (Nat.le_refl _), fun b hb => (f4 b hb).1, fun b hb => ?_⟩ ?_ ?_
    · obtain rfl : b = h'.objs.size := by simpa using hb
      refine ⟨⟨_, Heap.get?_push_size _ rfl, fun v z => by cases z⟩, nga _ (by omega), ?_, fun z => ?_, fun z => ?_, ?_⟩
      · show h'.objs.size ≠ h3.objs.size
        omega
      · rcases List.mem_cons.mp (I4.stkSub _ z) with e | e
        · have z2 := I4.lt
          rw [← e] at z2
          have z3 : h'.objs.size < h3.objs.size := z2
          omega
        · exact I4.nofs (show h3.objs.size ≤ h'.objs.size by omega) e
      · have q5 : (h'.objs.size : Nat) < h3.objs.size := lt _ z
        omega
      · show h3.get? h'.objs.size = none
        cases e : h3.get? h'.objs.size with
        | none => rfl
        | some o =>
          have q5 : (h'.objs.size : Nat) < h3.objs.size := Heap.lt_size e
          omega
    · exact ⟨_, _, _, Heap.get?_push_size _ rfl, rfl, rfl, rfl⟩
    · exact Array.getElem?_push_size ..
  cases hf : codeAmong pos ps.toList with
  | none =>
    refine wpAny_genexprCodeX hcode (cd.code hPs ht) (cd.tab hPs) hf fun c' h' tk hx hge hlt hco' _ htab' _ => ?_
    obtain ⟨o1, vs, f1, tf, fl, tg', inF, tx, tt, op, _, _, _, _, _, _, _, _, _, htr, _⟩ := hco'
    exact cont _ h' tk _ hx htab'.2 htr
  | some cv =>
    refine wpAny_genexprCode_hit hcode (cd.code hPs ht) hf ?_
    exact cont cv s2.heap s2.toks #[] (Heap.ExtBut.refl _ _) (by simpa using hPs) (by simpa using ht)
/-- any(..), all(..) of the expression; behind it the def's table may have grown -/
def tGen (P : Addr) (wi : TI) (g : TG) (te : TE) (own : List (Str × Nat)) (ext : List Str) (stopAt : Bool) : TE := fun σ H Q => wi σ H fun J H1 => GxR.TabG H1 P ∧ ∀ H2, GxR.Tabbed P H1 H2 → ∃ W : Nat → Nat → Hp → Prop, (∃ m, W 0 m H2) ∧
  ∀ i m H, W i m H → (J.stop i H ∧ Q (.bl (!stopAt)) H) ∨ (J.go i H ∧ ∃ N : Hp → Prop, (∀ H', N H' → ∃ m', m' < m ∧ W (i + 1) m' H') ∧ ∀ x H', J.yld i H x H' → g x (gS σ own ext) H' fun σ2 H2 => te σ2 H2 fun v H3 => ∃ b, v = V.bl b ∧ if b = stopAt then Q (.bl stopAt) H3 else N H3)
theorem turn_of {J : It} {g : TG} {te : TE} {σg : L2.St} {W : Nat → Nat → Hp → Prop} {Q : VK} {st : Bool} (turn : ∀ i m H, W i m H → (J.stop i H ∧ Q (.bl (!st)) H) ∨ (J.go i H ∧ ∃ N : Hp → Prop, (∀ H', N H' → ∃ m', m' < m ∧ W (i + 1) m' H') ∧
      ∀ x H', J.yld i H x H' → g x σg H' fun σ2 H2 => te σ2 H2 fun v H3 => ∃ b, v = V.bl b ∧ if b = st then Q (.bl st) H3 else N H3)) (i m : Nat) (H : Hp) (w : W i m H) :
    (J.stop i H ∧ Q (.bl (!st)) H) ∨ (J.go i H ∧ ∃ Yn : V → Hp → Prop, (∀ v H3, Yn v H3 → ∃ b, v = V.bl b ∧ if b = st then Q (.bl st) H3 else ∃ m', m' < m ∧ W (i + 1) m' H3) ∧ ∀ x H', J.yld i H x H' → g x σg H' fun σ2 H2 => te σ2 H2 Yn) := by
  rcases turn i m H w with z | ⟨go, N, hN, step⟩
  · exact .inl z
  · refine .inr ⟨go, _, fun v H3 ⟨b, e, q⟩ => ⟨b, e, ?_⟩, step⟩
    by_cases hb : b = st
    · rw [if_pos hb] at q ⊢
      exact q
    · rw [if_neg hb] at q ⊢
      exact hN _ q
theorem room_over {Ag : Around} {c : Code} (hr : Room (k + 1) Ag) (h1 : c.weight = 1) (h2 : c.cUnits = 3) : Room k (Ag.over c []) := by
  refine ⟨hr.hd, ?_, ?_⟩
  · have := hr.dp
    show Ag.depth + frameCount [] + c.weight + 3 * k + 5 < _
    rw [h1]
    show Ag.depth + 0 + 1 + 3 * k + 5 < _
    omega
  · have := hr.un
    show Ag.units + unitsOf [] + c.cUnits + 16 * k + 200 < _
    rw [h2]
    show Ag.units + 0 + 3 + 16 * k + 200 < _
    omega
theorem room_in1 {Ag : Around} (hr : Room (k + 1) Ag) : Room k Ag.in1.in1 := by
  refine ⟨hr.hd, ?_, ?_⟩
  · have := hr.dp
    show Ag.depth + 3 * k + 5 < _
    omega
  · have := hr.un
    show Ag.units + 1 + 1 + 16 * k + 200 < _
    omega
theorem EP_of {H4 H' : Hp} {s4 s' : Shared} {J : It} {fp sx : List Addr} {it : Addr} {tn : Nat → Heap → Prop} {code : Value} {Q : VK} {v : V} {u : Value} (S : GSt X pins σ scope own ext tg code H4 s4 J fp it tn) (h : CO X fp sx s4 H4 H' s') (r : RelV v u) (q : Q v H') : EP X pins σ Q u s' :=
  ⟨v, H', S.inv.call' h.os h.un h.hok h.bare fun b hb => ⟨(S.fpo b hb).2.2.2.1, (S.fpo b hb).2.1, (S.fpo b hb).2.2.2.2.1, (S.fpo b hb).2.2.2.2.2⟩, r, q⟩
section
variable {g : TG} {te : TE} {p cpos : Pos}
theorem pe_anyG (hr : Room (k + 2) X.A) (hg : Gl X "any") (hm : X.mg "any" = none) (TB : GxR.TabB X.base X.mg c P) (hcode : X.env.code = .ref c) (G : GOk X.N X.env.scope scope own ext) (hi : PI X tg iter wi)
    (ht : ∀ (code : Value) (fp : List Addr) (s4 : Shared) (H4 : Hp) (B : Around), PG (gCx X scope code fp s4 H4 B ext) tg g) (he : ∀ (code : Value) (fp : List Addr) (s4 : Shared) (H4 : Hp) (B : Around), Room k B → PE (gCx X scope code fp s4 H4 B ext) elt te)
    (hs : ∀ v, genFold iter X.env v = pure v := by intro _; rfl) (hst : starEach [.GeneratorExp elt [⟨tg, iter, [], 0⟩] scope pos] X.env = (false, eval (.GeneratorExp elt [⟨tg, iter, [], 0⟩] scope pos) X.env) :: starEach [] X.env := by rfl) :
    PE X (.Call (.Name "any" p) [.GeneratorExp elt [⟨tg, iter, [], 0⟩] scope pos] [] cpos) (tGen P wi g te own ext true) := by
  constructor
  intro pins s σ H Q I h
  refine wpAny_Call_Name_kw (ld_blt I hg hm boot_any (PyProof.Rows.callWith_builtin1 ?_ hst (by rfl)))
  rw [hst]
  show wpAny _ _ (spliced ((false, eval (.GeneratorExp elt [⟨tg, iter, [], 0⟩] scope pos) X.env) :: backTo cpos (starEach [] X.env))) _ _ s
  refine Calls.spliced_cons (gen_eval hr TB hcode G hi hs I h fun J fp it tn H1 H4 s4 s5 code ga gi q htab S t5 c5 hgen hgs => Calls.spliced_nil ?_)
  obtain ⟨W, ⟨m, w0⟩, turn⟩ := q H4 htab
  have rm : Room k (X.A.in1.in1.over (gLoop X tg elt iter scope pos it s4 code) []) := room_over (room_in1 hr) rfl rfl
  refine call_function_tree F.kind_any F.plain_any F.entry_any (F.args_any1 _) ?_
  unfold Builtin.«any»
  refine wpAny_bind (m := oneArg "any" _) (wpAny_pure (wpAny_bind (wpAny_pyIter_gen hgen ?_)))
  refine wpAny_pure ⟨plainId_quiet F.plain_any_loop _, any_walk (W := W) (QT := Q (.bl true)) (QF := Q (.bl false)) S hr.hd hr.depth (fun b H' s' hb hc => EP_of (v := .bl b) S hc rfl (by cases b <;> exact hb)) m s5 ⟨hgen, List.mem_cons_self, ⟨H4, c5⟩, _, hgs, fun s' kp => ⟨rfl, ?_⟩⟩⟩
  have t6 : tn 0 s'.heap := S.turn.keep _ _ _ t5 fun b hb o e => kp.keep b o (fun z => (c5.sx b z).2.2.2.2.1 hb) e
  exact seg_first (Ag := X.A.in1.in1) S hr.hd t6 (seg_loop (Ag := X.A.in1.in1) S S.inv.ok.frames hr.hd (ht ..) (he _ _ _ _ _ rm) W _ _ (turn_of (st := true) turn) (m + 1) 0 m H4 s' (Nat.lt_succ_self m) w0 (c5.kp kp) t6)
theorem pe_allG (hr : Room (k + 2) X.A) (hg : Gl X "all") (hm : X.mg "all" = none) (hb : bootBuiltins "all" = some (.builtin "all")) (TB : GxR.TabB X.base X.mg c P) (hcode : X.env.code = .ref c) (G : GOk X.N X.env.scope scope own ext) (hi : PI X tg iter wi)
    (ht : ∀ (code : Value) (fp : List Addr) (s4 : Shared) (H4 : Hp) (B : Around), PG (gCx X scope code fp s4 H4 B ext) tg g) (he : ∀ (code : Value) (fp : List Addr) (s4 : Shared) (H4 : Hp) (B : Around), Room k B → PE (gCx X scope code fp s4 H4 B ext) elt te)
    (hs : ∀ v, genFold iter X.env v = pure v := by intro _; rfl) (hst : starEach [.GeneratorExp elt [⟨tg, iter, [], 0⟩] scope pos] X.env = (false, eval (.GeneratorExp elt [⟨tg, iter, [], 0⟩] scope pos) X.env) :: starEach [] X.env := by rfl) :
    PE X (.Call (.Name "all" p) [.GeneratorExp elt [⟨tg, iter, [], 0⟩] scope pos] [] cpos) (tGen P wi g te own ext false) := by
  constructor
  intro pins s σ H Q I h
  refine wpAny_Call_Name_kw (ld_blt I hg hm hb (PyProof.Rows.callWith_builtin1 ?_ hst (by rfl)))
  rw [hst]
  show wpAny _ _ (spliced ((false, eval (.GeneratorExp elt [⟨tg, iter, [], 0⟩] scope pos) X.env) :: backTo cpos (starEach [] X.env))) _ _ s
  refine Calls.spliced_cons (gen_eval hr TB hcode G hi hs I h fun J fp it tn H1 H4 s4 s5 code ga gi q htab S t5 c5 hgen hgs => Calls.spliced_nil ?_)
  obtain ⟨W, ⟨m, w0⟩, turn⟩ := q H4 htab
  have rm : Room k (X.A.in1.in1.over (gLoop X tg elt iter scope pos it s4 code) []) := room_over (room_in1 hr) rfl rfl
  refine call_function_tree F.kind_all F.plain_all F.entry_all (F.args_all1 _) ?_
  unfold Builtin.«all»
  refine wpAny_bind (m := oneArg "all" _) (wpAny_pure (wpAny_bind (wpAny_pyIter_gen hgen ?_)))
  refine wpAny_pure ⟨plainId_quiet F.plain_all_loop _, all_walk (W := W) (QT := Q (.bl true)) (QF := Q (.bl false)) S hr.hd hr.depth (fun b H' s' hb hc => EP_of (v := .bl b) S hc rfl (by cases b <;> exact hb)) m s5 ⟨hgen, List.mem_cons_self, ⟨H4, c5⟩, _, hgs, fun s' kp => ⟨rfl, ?_⟩⟩⟩
  have t6 : tn 0 s'.heap := S.turn.keep _ _ _ t5 fun b hb o e => kp.keep b o (fun z => (c5.sx b z).2.2.2.2.1 hb) e
  exact seg_first (Ag := X.A.in1.in1) S hr.hd t6 (seg_loop (Ag := X.A.in1.in1) S S.inv.ok.frames hr.hd (ht ..) (he _ _ _ _ _ rm) W _ _ (turn_of (st := false) turn) (m + 1) 0 m H4 s' (Nat.lt_succ_self m) w0 (c5.kp kp) t6)
end
end
end GX

/-! ### defs that hold a generator expression: their code objects' tables, and the end of a law that calls them -/
namespace GX
open PySem PySem.Spec PyProof.Rows L2 Cm
/-- the def x stands at some address, its code object at c -/
structure FunC (K : PySem.W.Frag) (x : Str) (st : Stmt) (f : Addr) (fd : FuncData) (c : Addr) : Prop where
  ex : ∃ (oc : Value) (od : Option Addr) (kV doc pm : Value) (an : Option Addr) (ct : Value) (osl : Array (Option Value)),
    fd = PySem.W.fnOf x x (defArgs st) (defBody st) (defScope st) .none kV doc pm an (.ref c) ct ∧ K.lookup f = some ⟨oc, od, .func fd, osl⟩ ∧ PySem.W.codeIn K (.ref c) x = true
  kp : PySem.W.keepIn K (.ref f) = true
def DnC (K : PySem.W.Frag) (mg : Str → Option Value) (x : Str) (st : Stmt) (ps : List Str) (c : Addr) : Prop := ∃ (f : Addr) (fd : FuncData), FunC K x st f fd c ∧ mg x = some (.ref f) ∧ Binds K fd ps []
theorem dnc_mk {K : PySem.W.Frag} {h : Heap} {mg : Str → Option Value} {x : Str} {ps : List Str} {st : Stmt} {f c : Addr} {oc : Value} {od an : Option Addr} {osl : Array (Option Value)} {kV doc pm ct : Value} (X : K.In h) (G : h.Ns mainGlobals mg) (a : PySem.W.nsIn K mainGlobals x = some (some (.ref f)))
    (l : K.lookup f = some ⟨oc, od, .func (PySem.W.fnOf x x (defArgs st) (defBody st) (defScope st) .none kV doc pm an (.ref c) ct), osl⟩) (e : PySem.W.codeIn K (.ref c) x = true) (k : PySem.W.keepIn K (.ref f) = true)
    (hb : ∀ (kV doc pm : Value) (an : Option Addr) (cdv ct : Value) (us : List Value), us.length = ps.length → bindArgs (PySem.W.fnOf x x (defArgs st) (defBody st) (defScope st) .none kV doc pm an cdv ct) ⟨us, []⟩ = pure (ps.zip us)) : DnC K mg x st ps c :=
  ⟨f, _, ⟨⟨_, _, _, _, _, _, _, _, rfl, l, e⟩, k⟩, PySem.W.mg_of X G a, (fun_mk l e k).binds hb⟩
theorem okc_of {P : Program} {w : World} {K : PySem.W.Frag} {mg : Str → Option Value} {base : Heap} {CX : CXT} {k : Nat} {x : Str} {st : Stmt} {N ps : List Str} {sp : Sp} {c : Addr} (d : DnC K mg x st ps c) (S : FnScope N ps (defScope st)) (len : ∀ vs H Q E, sp vs H Q E → vs.length = ps.length)
    (hbody : ∀ (f : Addr) (A : Around) (outer : List Env) (s : Shared) (H : Hp) (vs : List V) (Q : VK) (E : XK), Room k (A.deeper (envOfC x (defScope st) s.heap.objs.size f (.ref c))) → sp vs H Q E →
      ∃ t, PSs (cxOf CX P w K mg base N x (defScope st) f (.ref c) A outer s H E) (defBody st) t ∧ t { nx := fun _ H' => Q .non H', rt := Q } (L2.start N vs) H) : Ok P w K mg base CX (k + 1) x ps sp := by
  obtain ⟨f, fd, ⟨⟨oc, od, kV, doc, pm, an, ct, osl, rfl, lk, hcd⟩, kp⟩, g, b⟩ := d
  exact ⟨f, _, fn_of lk hcd S len fun A outer s H vs Q E hr hsp => hbody f A outer s H vs Q E hr hsp, g, kp, b⟩
theorem tb_of {base : Heap} {mg : Str → Option Value} {c P : Addr} (h : LamX.TabB base mg c P) : GxR.TabB base mg c P := ⟨h.code, h.bm, h.gP⟩
/-- law's promise where tables may grow -/
def spLawT (K : PySem.W.Frag) (Ps : List Addr) : Sp := fun vs H Q _ => ∃ (a : Addr) (ns : List Int), vs = [.ref a] ∧ SqL K H a (ns.map V.int) ∧ ns.length ≤ 63 ∧ (∀ P ∈ Ps, GxR.TabG H P) ∧ ∀ H', Q (.bl true) H'
theorem no_tab {K : PySem.W.Frag} {h : Heap} {P : Addr} (X : K.In h) (n : PySem.W.noTabs K = true) (e : h.get? P = some (PySem.W.tabObj #[])) : K.lookup P = none := by
  cases q : K.lookup P with
  | none => rfl
  | some o =>
    have z := X P o q
    rw [e] at z
    cases z
    have z2 := List.all_eq_true.mp n (P, _) (PySem.W.mem_of_lookupK q)
    exact absurd (show false = true from z2) (by decide)
theorem tabIn_mk {K : PySem.W.Frag} {x : Str} {f c P : Addr} {oc cc : Value} {od ce : Option Addr} {fd : FuncData} {sl cg : Array (Option Value)} {vs : Array Value} (h1 : PySem.W.nsIn K mainGlobals x = some (some (.ref f)))
    (h2 : K.lookup f = some ⟨oc, od, .func fd, sl⟩) (h3 : fd.code = .ref c) (h4 : K.lookup c = some ⟨cc, ce, .fields vs, cg⟩) (h5 : vs[11]? = some (.ref P)) : PySem.W.tabIn K x = some (c, P) := by
  unfold PySem.W.tabIn
  simp only [h1, h2, h3, h4, h5]
theorem walk_gx {l : PySem.W.OpenLaw} {k : Nat} {q : Program} {loose : List Str} {XP : (Str → Option Value) → Heap → Prop} {YP : World → Heap → Prop} {d : DefRec} {K : Params → PySem.W.Frag} {names : List Str} (hn : l.most = some 63) (hdf : d.params.defaults = []) (hr : Room k callerA)
    (hY : ∀ (w : World) (h : Heap), YP w h → (K w.params).In h) (hnt : ∀ w : World, PySem.W.noTabs (K w.params) = true) (hrec : ∀ x ∈ names, ((PyProof.Rows.recsOf q).find? fun e => e.name == x).isSome = true)
    (F : ∀ (w : World) (mg : Str → Option Value) (fa : Addr) (h : Heap), (K w.params).In h → h.Ns mainGlobals mg → mg d.name = some (.ref fa) → ∃ (fd : FuncData) (cs : List (Str × Addr × Addr)), (∀ t ∈ cs, t.1 ∈ names ∧ PySem.W.tabIn (K w.params) t.1 = some t.2) ∧
      (∀ (s : Shared) (u : Value), BindsTo s fd ⟨[u], []⟩ [("script", u)]) ∧ ∀ base : Heap, (K w.params).In base → base.Ns mainGlobals mg → (∀ t ∈ cs, LamX.TabB base mg t.2.1 t.2.2) → FnOk l.prog w (K w.params) mg base CX0 k fa fd ["script"] (spLawT (K w.params) (cs.map (·.2.2)))) :
    PySem.W.WalkO q loose XP YP l.row.toRowW d [] (fun f vs => PySem.call f vs) := by
  refine Att.attach_callB hn hdf fun w s0 s1 mg mb fa o pm cd doc a vs ns G Y ho hd hcd hmg hobj hints hlen hbits hg => ?_
  have KX := hY w _ Y
  obtain ⟨fd, cs, hcs, hb, hF⟩ := F w mg fa _ KX G.T.g hmg
  have tab : ∀ t ∈ cs, PySem.W.CodeHd s1.heap t.2.1 t.2.2 ∧ s1.heap.get? t.2.2 = some (PySem.W.tabObj #[]) := fun t ht => by
    obtain ⟨h1, h2⟩ := hcs t ht
    obtain ⟨dr, hdr⟩ := Option.isSome_iff_exists.mp (hrec _ h1)
    exact PySem.W.tab_of G.T KX hdr h2
  have of2 : ∀ p ∈ cs.map (·.2), ∃ t ∈ cs, t.2 = p := fun p hp => List.mem_map.mp hp
  refine LamX.law_callTs (cs := cs.map (·.2)) (sp := spLawT (K w.params) (cs.map (·.2.2))) KX G.T.g G.T.b G.T.builtins G.T.nolimit hg (fun p hp => ?_) (fun p hp => ?_) (fun p hp => ?_) G.T.bmain hobj hints (Nat.le_trans hlen (by decide)) hr (fun base k1 k2 k3 => hF base k1 k2 fun t ht => k3 t.2 (List.mem_map.mpr ⟨t, ht, rfl⟩)) hb (fun H hH hS => ?_) (fun _ _ _ z => z)
  · obtain ⟨t, ht, rfl⟩ := of2 p hp
    exact (tab t ht).2
  · obtain ⟨t, ht, rfl⟩ := of2 p hp
    exact no_tab KX (hnt w) (tab t ht).2
  · obtain ⟨t, ht, rfl⟩ := of2 p hp
    exact (tab t ht).1
  · refine ⟨a, ns, rfl, hS, hlen, fun P hP => ?_, fun _ => rfl⟩
    obtain ⟨t, ht, rfl⟩ := List.mem_map.mp hP
    exact ⟨#[], hH t.2 (List.mem_map.mpr ⟨t, ht, rfl⟩), True.intro⟩
/-! ### heaps in which tables may have grown -/
/-- all but tables stays; tables stay tables -/
structure Sm (H H' : Hp) : Prop where
  keep : ∀ b o, H b = some o → (∀ ps, o ≠ .tbl ps) → H' b = some o
  tab : ∀ P, GxR.TabG H P → GxR.TabG H' P
theorem Sm.refl (H : Hp) : Sm H H := ⟨fun _ _ e _ => e, fun _ t => t⟩
theorem Sm.trans {H H1 H2 : Hp} (a : Sm H H1) (b : Sm H1 H2) : Sm H H2 := ⟨fun c o e n => b.keep c o (a.keep c o e n) n, fun P t => b.tab P (a.tab P t)⟩
theorem Sm.of {H H' : Hp} (e : Same H H') : Sm H H' := ⟨fun b o q _ => e b o q, fun P ⟨ps, q, t⟩ => ⟨ps, e _ _ q, t⟩⟩
theorem Sm.tabbed {H H' : Hp} {P : Addr} (h : GxR.TabG H P) (e : GxR.Tabbed P H H') : Sm H H' := by
  obtain ⟨ps, hP, _⟩ := h
  refine ⟨fun b o q n => ?_, fun P' t => ?_⟩
  · rw [e.2 b fun z => n ps (Option.some.inj (q.symm.trans (z ▸ hP)))]
    exact q
  · by_cases z : P' = P
    · rw [z]
      exact e.1
    · obtain ⟨ps', q, t'⟩ := t
      exact ⟨ps', by rw [e.2 _ z]; exact q, t'⟩
theorem Sm.l {H H' : Hp} (e : Sm H H') {a : Addr} {xs : List V} (h : H a = some (.lst xs)) : H' a = some (.lst xs) := e.keep _ _ h fun _ z => by cases z
theorem Sm.t {H H' : Hp} (e : Sm H H') {a : Addr} {xs : List V} (h : H a = some (.tup xs)) : H' a = some (.tup xs) := e.keep _ _ h fun _ z => by cases z
theorem Sm.seq {K : PySem.W.Frag} {H H' : Hp} (e : Sm H H') {a : Addr} {xs : List V} (h : SqL K H a xs) : SqL K H' a xs := by
  rcases h with (h | ⟨o, h⟩) | h
  · exact .inl (.inl (e.l h))
  · exact .inl (.inr ⟨o, e.keep _ _ h fun _ z => by cases z⟩)
  · exact .inr h
theorem Sm.tup {K : PySem.W.Frag} {H H' : Hp} (e : Sm H H') {a : Addr} {xs : List V} (h : SqT K H a xs) : SqT K H' a xs := by
  rcases h with (h | ⟨o, h⟩) | h
  · exact .inl (.inl (e.t h))
  · exact .inl (.inr ⟨o, e.keep _ _ h fun _ z => by cases z⟩)
  · exact .inr h
mutual
theorem Sm.dp {K : PySem.W.Frag} {H H' : Hp} (e : Sm H H') : ∀ {d : PyData} {v : V}, Dp K H v d → Dp K H' v d
  | _, _, .non => .non
  | _, _, .bl b => .bl b
  | _, _, .int i => .int i
  | _, _, .str x => .str x
  | _, _, .lst h r => .lst (e.seq h) (e.dpAll r)
  | _, _, .tup h r => .tup (e.tup h) (e.dpAll r)
theorem Sm.dpAll {K : PySem.W.Frag} {H H' : Hp} (e : Sm H H') : ∀ {ds : List PyData} {vs : List V}, DpAll K H vs ds → DpAll K H' vs ds
  | _, _, .nil => .nil
  | _, _, .cons h r => .cons (e.dp h) (e.dpAll r)
end
/-! ### the forms one uses -/
section
variable {K : PySem.W.Frag} {a : Addr} {xs : List V} {g : TG} {te : TE} {σg : L2.St} {H1 : Hp} {P : Addr} {Q : VK} {st : Bool}
/-- over a list -/
theorem gen_list (Pv : Nat → Hp → Prop) (h0 : ∀ H2, GxR.Tabbed P H1 H2 → Pv 0 H2) (hl : ∀ i H, i ≤ xs.length → Pv i H → SqL K H a xs)
    (hs : ∀ i x H, xs[i]? = some x → Pv i H → g x σg H fun σ2 H2 => te σ2 H2 fun v H3 => ∃ b, v = V.bl b ∧ if b = st then Q (.bl st) H3 else Pv (i + 1) H3) (hd : ∀ H, Pv xs.length H → Q (.bl (!st)) H) :
    ∀ H2, GxR.Tabbed P H1 H2 → ∃ W : Nat → Nat → Hp → Prop, (∃ m, W 0 m H2) ∧ ∀ i m H, W i m H → ((Itl K a).stop i H ∧ Q (.bl (!st)) H) ∨ ((Itl K a).go i H ∧ ∃ N : Hp → Prop, (∀ H', N H' → ∃ m', m' < m ∧ W (i + 1) m' H') ∧
      ∀ x H', (Itl K a).yld i H x H' → g x σg H' fun σ2 H2 => te σ2 H2 fun v H3 => ∃ b, v = V.bl b ∧ if b = st then Q (.bl st) H3 else N H3) := by
  intro H2 tb
  refine ⟨fun i m H => m = xs.length - i ∧ i ≤ xs.length ∧ Pv i H, ⟨xs.length, by simp, Nat.zero_le _, h0 H2 tb⟩, ?_⟩
  rintro i m H ⟨rfl, hi, p⟩
  have q := hl i H hi p
  by_cases hlt : i < xs.length
  · refine .inr ⟨⟨xs, xs[i], q, List.getElem?_eq_getElem hlt⟩, Pv (i + 1), fun H' p' => ⟨xs.length - (i + 1), by omega, rfl, hlt, p'⟩, fun x H' y => ?_⟩
    obtain ⟨rfl, y⟩ := y
    exact hs i x H' (y xs q) p
  · obtain rfl : i = xs.length := by omega
    exact .inl ⟨⟨xs, q, Nat.le_refl _⟩, hd H p⟩
/-- over a tuple -/
theorem gen_listQ {QF QT : Hp → Prop} (Pv : Nat → Hp → Prop) (h0 : ∀ H2, GxR.Tabbed P H1 H2 → Pv 0 H2) (hl : ∀ i H, i ≤ xs.length → Pv i H → SqL K H a xs)
    (hs : ∀ i x H, xs[i]? = some x → Pv i H → g x σg H fun σ2 H2 => te σ2 H2 fun v H3 => ∃ b, v = V.bl b ∧ if b = st then QF H3 else Pv (i + 1) H3) (hd : ∀ H, Pv xs.length H → QT H) :
    ∀ H2, GxR.Tabbed P H1 H2 → ∃ W : Nat → Nat → Hp → Prop, (∃ m, W 0 m H2) ∧ ∀ i m H, W i m H → ((Itl K a).stop i H ∧ QT H) ∨ ((Itl K a).go i H ∧ ∃ N : Hp → Prop, (∀ H', N H' → ∃ m', m' < m ∧ W (i + 1) m' H') ∧
      ∀ x H', (Itl K a).yld i H x H' → g x σg H' fun σ2 H2 => te σ2 H2 fun v H3 => ∃ b, v = V.bl b ∧ if b = st then QF H3 else N H3) := by
  intro H2 tb
  refine ⟨fun i m H => m = xs.length - i ∧ i ≤ xs.length ∧ Pv i H, ⟨xs.length, by simp, Nat.zero_le _, h0 H2 tb⟩, ?_⟩
  rintro i m H ⟨rfl, hi, p⟩
  have q := hl i H hi p
  by_cases hlt : i < xs.length
  · refine .inr ⟨⟨xs, xs[i], q, List.getElem?_eq_getElem hlt⟩, Pv (i + 1), fun H' p' => ⟨xs.length - (i + 1), by omega, rfl, hlt, p'⟩, fun x H' y => ?_⟩
    obtain ⟨rfl, y⟩ := y
    exact hs i x H' (y xs q) p
  · obtain rfl : i = xs.length := by omega
    exact .inl ⟨⟨xs, q, Nat.le_refl _⟩, hd H p⟩
/-- over a tuple -/
theorem gen_tup (Pv : Nat → Hp → Prop) (h0 : ∀ H2, GxR.Tabbed P H1 H2 → Pv 0 H2) (hl : ∀ i H, i ≤ xs.length → Pv i H → SqT K H a xs)
    (hs : ∀ i x H, xs[i]? = some x → Pv i H → g x σg H fun σ2 H2 => te σ2 H2 fun v H3 => ∃ b, v = V.bl b ∧ if b = st then Q (.bl st) H3 else Pv (i + 1) H3) (hd : ∀ H, Pv xs.length H → Q (.bl (!st)) H) :
    ∀ H2, GxR.Tabbed P H1 H2 → ∃ W : Nat → Nat → Hp → Prop, (∃ m, W 0 m H2) ∧ ∀ i m H, W i m H → ((Itt K a).stop i H ∧ Q (.bl (!st)) H) ∨ ((Itt K a).go i H ∧ ∃ N : Hp → Prop, (∀ H', N H' → ∃ m', m' < m ∧ W (i + 1) m' H') ∧
      ∀ x H', (Itt K a).yld i H x H' → g x σg H' fun σ2 H2 => te σ2 H2 fun v H3 => ∃ b, v = V.bl b ∧ if b = st then Q (.bl st) H3 else N H3) := by
  intro H2 tb
  refine ⟨fun i m H => m = xs.length - i ∧ i ≤ xs.length ∧ Pv i H, ⟨xs.length, by simp, Nat.zero_le _, h0 H2 tb⟩, ?_⟩
  rintro i m H ⟨rfl, hi, p⟩
  have q := hl i H hi p
  by_cases hlt : i < xs.length
  · refine .inr ⟨⟨xs, xs[i], q, List.getElem?_eq_getElem hlt⟩, Pv (i + 1), fun H' p' => ⟨xs.length - (i + 1), by omega, rfl, hlt, p'⟩, fun x H' y => ?_⟩
    obtain ⟨rfl, y⟩ := y
    exact hs i x H' (y xs q) p
  · obtain rfl : i = xs.length := by omega
    exact .inl ⟨⟨xs, q, Nat.le_refl _⟩, hd H p⟩
end
end GX

/-! ### sum of a generator expression -/
namespace GX
open PySem PySem.Spec PyProof.Rows L2 Cm
open Sem (wp)
theorem hu_rm {k : Nat} {A : Around} (hr : Room k A) : A.units + 64 < cLine := by
  have := hr.un
  omega
/-- the total stands in the list at SA -/
def TotAt (SA : Addr) (a : Int) (s : Shared) : Prop := ∃ (t : Tok) (c : Nat), s.heap.get? SA = some { cls := .type "list", dict := none, data := .seq #[.int a t] c, slots := #[] }
theorem TotAt.one {SA : Addr} {a b : Int} {s : Shared} (h : TotAt SA a s) (h2 : TotAt SA b s) : a = b := by
  obtain ⟨t, c, e⟩ := h
  obtain ⟨t2, c2, e2⟩ := h2
  rw [e] at e2
  injection e2 with e2
  injection e2 with _ _ e2 _
  injection e2 with e2 _
  have e3 := congrArg (fun (x : Array Value) => x[0]?) e2
  simp at e3
  exact e3.1
theorem TotAt.at {SA : Addr} {a : Int} {s s' : Shared} (h : TotAt SA a s) (e : s'.heap.get? SA = s.heap.get? SA) : TotAt SA a s' := by
  obtain ⟨t, c, q⟩ := h
  exact ⟨t, c, e.trans q⟩
section
variable {X : Cx} {pins : List (Addr × Obj)} {σ : L2.St} {H4 : Hp} {s4 : Shared} {scope : Scope} {own : List (Str × Nat)} {ext : List Str} {tg elt iter : Expr} {code : Value} {fp sx : List Addr} {J : It} {it : Addr} {tn : Nat → Heap → Prop} {pos : Pos}
def gYS (X : Cx) (fp sx : List Addr) (s4 : Shared) (H4 : Hp) (tn : Nat → Heap → Prop) (SA : Addr) (W : Nat → Nat → Int → Hp → Prop) (Yd : Nat → Nat → Int → V → Hp → Prop) : Protocol := fun n s0 v s kap =>
  ∃ (y : V) (i m : Nat) (a : Int) (H : Hp), TotAt SA a s0 ∧ RelV y v ∧ Yd i m a y H ∧ CO X fp sx s4 H4 H s ∧ tn (i + 1) s.heap ∧ (∀ b ∈ sx, s.heap.get? b = s0.heap.get? b) ∧ m ≤ n ∧ ∀ m' a' s', m' < m → W (i + 1) m' a' H → TotAt SA a' s' → Kp sx s s' → kap (.send .none) s'
def gES (X : Cx) (fp sx : List Addr) (s4 : Shared) (H4 : Hp) (SA : Addr) (Dn : Int → Hp → Prop) : Nat → Shared → Shared → Prop := fun _ s0 s => ∃ a H, TotAt SA a s0 ∧ Dn a H ∧ CO X fp sx s4 H4 H s ∧ ∀ b ∈ sx, s.heap.get? b = s0.heap.get? b
theorem seg_loopS {Ag : Around} {SA : Addr} (S : GSt X pins σ scope own ext tg code H4 s4 J fp it tn) (hfr : Ag.frames = some X.stack) (hh : Ag.handled = none) {g : TG} {te : TE}
    (hg : PG (gCx X scope code fp s4 H4 (Ag.over (gLoop X tg elt iter scope pos it s4 code) []) ext) tg g) (he : PE (gCx X scope code fp s4 H4 (Ag.over (gLoop X tg elt iter scope pos it s4 code) []) ext) elt te)
    (W : Nat → Nat → Int → Hp → Prop) (Dn : Int → Hp → Prop) (Yd : Nat → Nat → Int → V → Hp → Prop)
    (turn : ∀ i m a H, W i m a H → (J.stop i H ∧ Dn a H) ∨ (J.go i H ∧ ∃ Yn : V → Hp → Prop, (∀ v H3, Yn v H3 → Yd i m a v H3) ∧ ∀ x H', J.yld i H x H' → g x (gS σ own ext) H' fun σ2 H2 => te σ2 H2 Yn)) :
    ∀ n i m a H s, m < n → W i m a H → TotAt SA a s → CO X fp sx s4 H4 H s → tn i s.heap →
      Seg (model X.prog X.w) Ag (fun n s0 r s1 => r = .ok .next ∧ gES X fp sx s4 H4 SA Dn n s0 s1) (gYS X fp sx s4 H4 tn SA W Yd) n s (gLoop X tg elt iter scope pos it s4 code) ((model X.prog X.w).den (gLoop X tg elt iter scope pos it s4 code)) [] s := by
  have hB : (Ag.over (gLoop X tg elt iter scope pos it s4 code) []).frames = some (gEnv X scope s4.heap.objs.size code :: X.stack) := by
    show pushEnvs [gEnv X scope s4.heap.objs.size code] (pushEnvs [] Ag.frames) = _
    rw [hfr]
    rfl
  have hBh : (Ag.over (gLoop X tg elt iter scope pos it s4 code) []).handled = none := hh
  intro n
  induction n with
  | zero => exact fun i m a H s hm => absurd hm (Nat.not_lt_zero _)
  | succ n ih =>
    intro i m a H s hm w0 a0 h0 t0
    have I0 := CO.inv S h0 hB hBh
    have ff : ∀ {H' : Hp}, (∀ b ∈ fp, H' b = none) → ∀ b ∈ fp, FpOk (gCx X scope code fp s4 H4 (Ag.over (gLoop X tg elt iter scope pos it s4 code) []) ext) (pinsAt sx s.heap) H' b := fun hn b hb => by
      refine ⟨hn b hb, Nat.ne_of_lt (S.lt b hb), I0.ok.exfs b hb, .inl hb, (I0.ok.exf b hb).2, fun p hp z => ?_⟩
      have q := (of_pinsAt (show p ∈ pinsAt sx s.heap by simpa [gCx] using hp)).1
      exact (h0.sx p.1 q).2.2.2.2.1 (z ▸ hb)
    show Seg _ Ag _ _ _ s _ ((compTurn (.GeneratorExp elt [⟨tg, iter, [], 0⟩] scope pos) 0 (.ref it) .none (gEnv X scope s4.heap.objs.size code)).onRaise (leaving (gEnv X scope s4.heap.objs.size code))) [] s
    rw [compTurn_gen, Sem.onRaise_eq_wrap]
    refine seg_bind_wrap (wpAny_standAt ?_)
    rcases turn i m a H w0 with ⟨stop, dn⟩ | ⟨go, Yn, hYn, step⟩
    · refine seg_bind_wrap (wpAny_mono (S.turn.done (gCx X scope code fp s4 H4 (Ag.over (gLoop X tg elt iter scope pos it s4 code) []) ext) rfl rfl rfl rfl i _ s _ H (fun _ _ => False) I0 (ff h0.fr) t0 stop) (fun r s1 hr => ?_) fun _ _ z => False.elim z)
      obtain ⟨rfl, I1⟩ := hr
      obtain ⟨c1, x1⟩ := h0.of_inv I1 h0.fr
      exact seg_end (.ok .next) ⟨rfl, a, H, a0, dn, c1, x1⟩
    · refine seg_bind_wrap (wpAny_mono (S.turn.item (gCx X scope code fp s4 H4 (Ag.over (gLoop X tg elt iter scope pos it s4 code) []) ext) rfl rfl rfl rfl i _ s _ H (fun _ _ => False) I0 (ff h0.fr) t0 go) (fun r s1 hr => ?_) fun _ _ z => False.elim z)
      obtain ⟨u, rfl, h1⟩ := hr
      refine seg_bind_wrap (wpAny_mono h1 (fun _ s2 h2 => ?_) fun _ _ z => False.elim z)
      obtain ⟨x, H2, I2, rx, y2, t2, f2⟩ := h2
      have I2p := I2.pinned (ff f2) (S.turn.obj _ _ t2)
      refine seg_bind_wrap (wpAny_mono (hg.run _ s2 _ H2 x u _ I2p rx (step x H2 y2)) (fun _ s3 h3 => ?_) fun _ _ z => False.elim z)
      obtain ⟨σ3, H3, I3, q3⟩ := h3
      simp only [List.forIn_nil]
      refine seg_bind_wrap (wpAny_pure ?_)
      simp only [if_true]
      have hy : ∀ v, yieldOut (gEnv X scope s4.heap.objs.size code) v = yieldValue v := fun v => by
        have q : (gEnv X scope s4.heap.objs.size code).scope.isCoroutine = false := S.ok.co
        simp only [yieldOut, q, Bool.false_eq_true, if_false]
      simp only [hy]
      rw [Sem.bind_eq_wrap', Sem.bind_eq_wrap', Sem.wrap_wrap, Sem.wrap_wrap]
      refine seg_wrap (wpAny_mono (he.run _ s3 σ3 H3 _ I3 q3) (fun v s5 h5 => ?_) fun _ _ z => False.elim z)
      obtain ⟨y, H5, I5, ry, q5⟩ := h5
      have pf : ∀ b ∈ fp, ∀ o, s2.heap.get? b = some o → s5.heap.get? b = some o ∧ H5 b = none := fun b hb o e => by
        have z := I5.pin (b, o) (List.mem_append_right _ (List.mem_append_right _ (mem_pinsAt hb e)))
        exact ⟨z.1, z.2.1⟩
      have f5 : ∀ b ∈ fp, H5 b = none := fun b hb => by
        obtain ⟨o, e, _⟩ := S.turn.obj _ _ t2 b hb
        exact (pf b hb o e).2
      have t5 : tn (i + 1) s5.heap := S.turn.keep _ _ _ t2 fun b hb o e => (pf b hb o e).1
      obtain ⟨c5, x5⟩ := h0.of_inv I5.unpinned f5
      refine seg_at (seg_yield rfl rfl rfl ⟨y, i, m, a, H5, a0, ry, hYn _ _ q5, c5, t5, x5, Nat.lt_succ_iff.mp hm, fun m' a' s' hm' w' at' kp => ?_⟩)
      refine seg_again rfl (ih (i + 1) m' a' H5 s' (Nat.lt_of_lt_of_le hm' (Nat.lt_succ_iff.mp hm)) w' at' (c5.kp kp) (S.turn.keep _ _ _ t5 fun b hb o e => kp.keep b o (fun z => (c5.sx b z).2.2.2.2.1 hb) e))
/-- the generator at ga, asleep, the total a at SA -/
structure GAS (X : Cx) (fp sx : List Addr) (s4 : Shared) (H4 : Hp) (tn : Nat → Heap → Prop) (SA : Addr) (W : Nat → Nat → Int → Hp → Prop) (Dn : Int → Hp → Prop) (Yd : Nat → Nat → Int → V → Hp → Prop) (Ag : Around) (a : Int) (ga : Addr) (gi n : Nat) (s : Shared) : Prop where
  gen : s.heap.IsGen ga gi
  mem : ga ∈ sx
  mem2 : SA ∈ sx
  ne : ga ≠ SA
  co : ∃ H, CO X fp sx s4 H4 H s
  goes : ∃ gs, s.gens[gi]? = some gs ∧ ∀ s', TotAt SA a s' → Kp sx s s' → gs.Goes (model X.prog X.w) Ag (fun n s0 r s1 => r = .ok .next ∧ gES X fp sx s4 H4 SA Dn n s0 s1) (gYS X fp sx s4 H4 tn SA W Yd) n (.send .none) s'
theorem Kp.trans {s s' s'' : Shared} (a : Kp sx s s') (b : Kp sx s' s'') : Kp sx s s'' := ⟨b.os.trans a.os, b.bare, fun c o n e => b.keep c o n (a.keep c o n e), b.own⟩
theorem gen_nextS {tq : Nat → Heap → Prop} {Ap : Around} {SA : Addr} {a : Int} {W : Nat → Nat → Int → Hp → Prop} {Dn : Int → Hp → Prop} {Yd : Nat → Nat → Int → V → Hp → Prop} {ga : Addr} {gi n : Nat} {s : Shared} {E : Value → Shared → Prop} (S : GSt X pins σ scope own ext tg code H4 s4 J fp it tn) (hh : Ap.handled = none) (hd : Ap.depth < recursionLimit)
    (ha : TotAt SA a s) (h : GAS X fp sx s4 H4 tq SA W Dn Yd Ap.in1 a ga gi (n + 1) s) :
    wpAny (model X.prog X.w) Ap (pyNext (.ref ga)) (fun r s1 => (r = none ∧ ∃ H, Dn a H ∧ CO X fp sx s4 H4 H s1 ∧ TotAt SA a s1) ∨
      ∃ v y i m H, r = some v ∧ RelV y v ∧ Yd i m a y H ∧ CO X fp sx s4 H4 H s1 ∧ TotAt SA a s1 ∧ m ≤ n ∧ ∀ m' a' s', m' < m → W (i + 1) m' a' H → Kp sx s1 s' → s'.gens = s1.gens → s'.heap.get? ga = s1.heap.get? ga → GAS X fp sx s4 H4 tq SA W Dn Yd Ap.in1 a' ga gi n s') E s := by
  obtain ⟨hg, hm, hm2, hne, ⟨H0, c0⟩, gs, hgs, hgo⟩ := h
  have hlt : gi + 1 ≤ s.gens.size := by
    by_cases q : gi < s.gens.size
    · exact q
    · rw [Array.getElem?_eq_none (Nat.le_of_not_lt q)] at hgs
      cases hgs
  refine GenW.wpAny_gsz hlt (wpAny_pyNext_genexpQ (P := gES X fp sx s4 H4 SA Dn) hh (lim_of S c0) hd hg hgs (hgo _ ha ⟨rfl, AllBare.set c0.bare rfl, fun _ _ _ e => e, fun b hb => (c0.sx b hb).1⟩) (fun v s1 gs' hb hy hsz => ?_) (fun s1 he h' hk _ => ?_))
  · obtain ⟨y, i, m, a1, H, at1, ry, yd, c1, t1, x1, hmn, hka⟩ := hy
    obtain rfl : a1 = a := at1.one ha
    have c2 : CO X fp sx s4 H4 H (s1.setGen gi gs') := c1.any rfl (AllBare.set c1.bare hb) fun _ _ e => e
    have at2 : TotAt SA a1 (s1.setGen gi gs') := ha.at (x1 SA hm2)
    refine .inr ⟨v, y, i, m, H, rfl, ry, yd, c2, at2, hmn, fun m' a' s' hm' w' kp hgens hga => ⟨?_, hm, hm2, hne, ⟨H, c2.kp kp⟩, gs', ?_, fun s'' ta kp2 => ?_⟩⟩
    · obtain ⟨o, nm, qn, ho, r⟩ := hg
      exact ⟨o, nm, qn, hga.trans ((x1 ga hm).trans ho), r⟩
    · have hsz2 : gi < s1.gens.size := by
        have q : (s1.setGen gi gs').gens.size = s1.gens.size := GenW.setGen_size _ _ _
        rw [q] at hsz
        exact hsz
      rw [hgens]
      simp [Shared.setGen, hsz2]
    · have kk := kp.trans kp2
      exact hka m' a' s'' hm' w' ta ⟨kk.os, kk.bare, kk.keep, kk.own⟩
  · obtain ⟨a1, H, at1, dn, c1, x1⟩ := he
    obtain rfl : a1 = a := at1.one ha
    have c2 : CO X fp sx s4 H4 H { s1.setGen gi .finished with heap := h' } := c1.any rfl (AllBare.set c1.bare rfl) hk
    refine .inl ⟨rfl, H, dn, c2, ?_⟩
    obtain ⟨t, c, e⟩ := ha
    exact ⟨t, c, hk _ _ ((x1 SA hm2).trans e)⟩
theorem kp_upd {SA : Addr} {s : Shared} {o : Obj} {f : Obj → Obj} {t : Tok} {H : Hp} (c : CO X fp sx s4 H4 H s) (hm : SA ∈ sx) (hS : s.heap.get? SA = some o) (hf : s.heap.update SA f = s.heap.update SA f) (hd : ∃ o', (s.heap.update SA f).get? SA = some o' ∧ ∀ v, o'.data ≠ .cell v) :
    Kp sx s { s with heap := s.heap.update SA f, toks := t } := by
  refine ⟨rfl, c.bare, fun b o' n e => (Heap.get?_update_other _ _ (fun h : SA = b => n (h ▸ hm))).trans e, fun b hb => ?_⟩
  by_cases q : SA = b
  · subst q
    exact hd
  · obtain ⟨⟨o', e, d⟩, _⟩ := c.sx b hb
    exact ⟨o', (Heap.get?_update_other _ _ q).trans e, d⟩
theorem sum_walk {tq : Nat → Heap → Prop} {W : Nat → Nat → Int → Hp → Prop} {QD : Int → Hp → Prop} {SA ga : Addr} {gi : Nat} {R : Result → Shared → Prop} (S : GSt X pins σ scope own ext tg code H4 s4 J fp it tn) (hh : X.A.handled = none) (hd : X.A.depth < recursionLimit)
    (hR : ∀ (a : Int) (t : Tok) (H : Hp) (s' : Shared), QD a H → CO X fp sx s4 H4 H s' → R (.ok (.ret (.int a t))) s') :
    ∀ (n : Nat) (s : Shared) (a : Int) (st : Int), (st = 0 ∨ st = 2) → TotAt SA a s → GAS X fp sx s4 H4 tq SA W QD (fun i m a y H => ∃ b, y = V.int b ∧ ∃ m', m' < m ∧ W (i + 1) m' (a + b) H) X.A.in1.in1 a ga gi (n + 1) s →
      codeAny (model X.prog X.w) X.A (.builtin "sum.loop" ⟨[.ref ga, .ref SA, rawInt st, rawInt 0], []⟩) R s := by
  intro n
  induction n with
  | zero =>
    intro s a st hst hat h
    obtain ⟨tA, c0, hS⟩ := id hat
    refine codeAny_builtin F.entry_sum_loop ?_
    rw [Around.under_plainId F.plain_sum_loop _]
    show wpAny _ X.A.in1 (seqItems? (.ref SA) >>= _) _ _ s
    refine wpAny_bind (wpAny_seqItems hS rfl ?_)
    show wpAny _ X.A.in1 (tryCatch (pyNext (.ref ga)) _ >>= _) _ _ s
    refine wpAny_bind (wpAny_tryCatch (wpAny_mono (gen_nextS (E := fun _ _ => False) S hh hd hat h) (fun r s1 hr => ?_) fun _ _ z => False.elim z))
    rcases hr with ⟨rfl, H, dn, c1, _⟩ | ⟨v, y, i, m, H, rfl, ry, ⟨b, rfl, m', hm', w'⟩, c1, at1, hm, more⟩
    · exact wpAny_pure (hR a tA H s1 dn c1)
    · omega
  | succ n ih =>
    intro s a st hst hat h
    have gmem := h.mem2
    have gne := h.ne
    obtain ⟨tA, c0, hS⟩ := id hat
    refine codeAny_builtin F.entry_sum_loop ?_
    rw [Around.under_plainId F.plain_sum_loop _]
    show wpAny _ X.A.in1 (seqItems? (.ref SA) >>= _) _ _ s
    refine wpAny_bind (wpAny_seqItems hS rfl ?_)
    show wpAny _ X.A.in1 (tryCatch (pyNext (.ref ga)) _ >>= _) _ _ s
    refine wpAny_bind (wpAny_tryCatch (wpAny_mono (gen_nextS (E := fun _ _ => False) S hh hd hat h) (fun r s' hr => ?_) fun _ _ z => False.elim z))
    rcases hr with ⟨rfl, H, dn, c1, _⟩ | ⟨v, y, i, m, H, rfl, ry, ⟨b, rfl, m', hm', w'⟩, c1, at1, hm, more⟩
    · exact wpAny_pure (hR a tA H s' dn c1)
    obtain ⟨t, rfl⟩ : ∃ t, v = Value.int b t := ry
    obtain ⟨tB, c1', hS'⟩ := id at1
    have go : ∀ (s'' : Shared) (st' : Int), (st' = 0 ∨ st' = 2) → TotAt SA (a + b) s'' → Kp sx s' s'' → s''.gens = s'.gens → s''.heap.get? ga = s'.heap.get? ga → codeAny (model X.prog X.w) X.A (.builtin "sum.loop" ⟨[.ref ga, .ref SA, rawInt st', rawInt 0], []⟩) R s'' :=
      fun s'' st' h1 h2 h3 h4 h5 => ih s'' (a + b) st' h1 h2 (more m' (a + b) s'' hm' w' h3 h4 h5)
    rcases hst with rfl | rfl
    · show wpAny _ X.A.in1 (if (_ : Bool) = true then (mkInt (a + b) >>= _) else _) _ _ _
      split
      · refine wpAny_bind (wpAny_mkInt ?_)
        show wpAny _ X.A.in1 (updateSeq SA (fun _ => #[.int (a + b) s'.toks]) >>= _) _ _ _
        refine wpAny_bind ?_
        refine wpAny_updateSeq hS' rfl (wpAny_pure ⟨plainId_quiet F.plain_sum_loop _, go _ 0 (.inl rfl) ⟨_, _, Heap.get?_update_self _ hS' rfl⟩ (kp_upd c1 gmem hS' rfl ⟨_, Heap.get?_update_self _ hS' rfl, fun v z => by cases z⟩) rfl (Heap.get?_update_other _ _ gne.symm)⟩)
      · refine wpAny_bind (wpAny_rule ?_)
        refine wpAny_bind (wpAny_attempt (wpAny_holding (wpAny_add_int ?_)))
        show wpAny _ X.A.in1 (updateSeq SA (fun _ => #[.int (a + b) s'.toks]) >>= _) _ _ _
        refine wpAny_bind (wpAny_updateSeq hS' rfl ?_)
        have hS₂ := Heap.get?_update_self (Obj.mapSeq fun _ => #[Value.int (a + b) s'.toks]) hS' rfl
        refine wpAny_bind (wpAny_letGo ?_)
        have k1 : Kp sx s' { s' with heap := s'.heap.update SA (Obj.mapSeq fun _ => #[Value.int (a + b) s'.toks]), toks := s'.toks + 1 } := kp_upd c1 gmem hS' rfl ⟨_, hS₂, fun v z => by cases z⟩
        refine wpAny_bind (wpAny_updateSeq hS₂ rfl (wpAny_pure ⟨plainId_quiet F.plain_sum_loop _, go _ 2 (.inr rfl) ⟨_, _, Heap.get?_update_self _ hS₂ rfl⟩ (k1.trans (kp_upd (c1.kp k1) gmem hS₂ rfl ⟨_, Heap.get?_update_self _ hS₂ rfl, fun v z => by cases z⟩)) rfl ((Heap.get?_update_other _ _ gne.symm).trans (Heap.get?_update_other _ _ gne.symm))⟩))
    · show wpAny _ X.A.in1 ((holding [Value.int b t] (binaryOp .Add (.int a tA) (.int b t))).attempt >>= _) _ _ _
      refine wpAny_bind (wpAny_attempt (wpAny_holding (wpAny_add_int ?_)))
      show wpAny _ X.A.in1 (updateSeq SA (fun _ => #[.int (a + b) s'.toks]) >>= _) _ _ _
      refine wpAny_bind (wpAny_updateSeq hS' rfl ?_)
      have hS₂ := Heap.get?_update_self (Obj.mapSeq fun _ => #[Value.int (a + b) s'.toks]) hS' rfl
      refine wpAny_bind (wpAny_letGo ?_)
      have k1 : Kp sx s' { s' with heap := s'.heap.update SA (Obj.mapSeq fun _ => #[Value.int (a + b) s'.toks]), toks := s'.toks + 1 } := kp_upd c1 gmem hS' rfl ⟨_, hS₂, fun v z => by cases z⟩
      refine wpAny_bind (wpAny_updateSeq hS₂ rfl (wpAny_pure ⟨plainId_quiet F.plain_sum_loop _, go _ 2 (.inr rfl) ⟨_, _, Heap.get?_update_self _ hS₂ rfl⟩ (k1.trans (kp_upd (c1.kp k1) gmem hS₂ rfl ⟨_, Heap.get?_update_self _ hS₂ rfl, fun v z => by cases z⟩)) rfl ((Heap.get?_update_other _ _ gne.symm).trans (Heap.get?_update_other _ _ gne.symm))⟩))
/-- one more object of the consumer's own -/
theorem CO.more {H : Hp} {s s' : Shared} {o : Obj} (S : GSt X pins σ scope own ext tg code H4 s4 J fp it tn) (h : CO X fp sx s4 H4 H s) (os : s'.os = s.os) (bare : AllBare s'.gens) (hk : ∀ b u, s.heap.get? b = some u → s'.heap.get? b = some u) (hS : s'.heap.get? s.heap.objs.size = some o) (hd : ∀ v, o.data ≠ .cell v) : CO X fp (s.heap.objs.size :: sx) s4 H4 H s' := by
  have c := h.any os bare hk
  obtain ⟨m, ob, es, ep, ho, r⟩ := h.ns
  have l4 : s4.heap.objs.size < s.heap.objs.size := Heap.lt_size ho
  have new : ∀ b, s.heap.objs.size ≤ b → H b = none := fun b hb => h.hok.fresh hb
  refine ⟨c.os, c.bare, c.un, c.hok, c.ns, c.free, c.fr, fun b hb => ?_⟩
  rcases List.mem_cons.mp hb with e | e
  · rw [e]
    refine ⟨⟨o, hS, hd⟩, new _ (Nat.le_refl _), Nat.ne_of_gt l4, fun z => ?_, fun z => ?_, ?_⟩
    · rcases List.mem_cons.mp (S.inv.stkSub _ z) with e | e
      · have z2 := S.inv.lt
        rw [← e] at z2
        exact absurd (Nat.lt_trans l4 z2) (Nat.lt_irrefl _)
      · exact S.inv.nofs (Nat.le_of_lt l4) e
    · exact absurd (Nat.lt_trans l4 (S.lt _ z)) (Nat.lt_irrefl _)
    · cases q : s4.heap.get? s.heap.objs.size with
      | none => rfl
      | some u => exact absurd (Nat.lt_trans l4 (Heap.lt_size q)) (Nat.lt_irrefl _)
  · exact c.sx b e
end
section
variable {X : Cx} {pins : List (Addr × Obj)} {σ : L2.St} {H : Hp} {s : Shared} {scope : Scope} {own : List (Str × Nat)} {ext : List Str} {tg elt iter : Expr} {pos p cpos : Pos} {c P : Addr} {wi : TI} {k : Nat} {g : TG} {te : TE}
/-- sum(..) of the expression over ints -/
def tSumG (P : Addr) (wi : TI) (g : TG) (te : TE) (own : List (Str × Nat)) (ext : List Str) : TE := fun σ H Q => wi σ H fun J H1 => GxR.TabG H1 P ∧ ∀ H2, GxR.Tabbed P H1 H2 → ∃ W : Nat → Nat → Int → Hp → Prop, (∃ m, W 0 m 0 H2) ∧
  ∀ i m a H, W i m a H → (J.stop i H ∧ Q (.int a) H) ∨ (J.go i H ∧ ∃ N : Int → Hp → Prop, (∀ a' H', N a' H' → ∃ m', m' < m ∧ W (i + 1) m' a' H') ∧ ∀ x H', J.yld i H x H' → g x (gS σ own ext) H' fun σ2 H2 => te σ2 H2 fun v H3 => ∃ b, v = V.int b ∧ N (a + b) H3)
theorem pe_sumG (hr : Room (k + 2) X.A) (hg : Gl X "sum") (hm : X.mg "sum" = none) (TB : GxR.TabB X.base X.mg c P) (hcode : X.env.code = .ref c) (G : GOk X.N X.env.scope scope own ext) (hi : PI X tg iter wi)
    (ht : ∀ (code : Value) (fp : List Addr) (s4 : Shared) (H4 : Hp) (B : Around), PG (gCx X scope code fp s4 H4 B ext) tg g) (he : ∀ (code : Value) (fp : List Addr) (s4 : Shared) (H4 : Hp) (B : Around), Room k B → PE (gCx X scope code fp s4 H4 B ext) elt te)
    (hb : bootBuiltins "sum" = some (.builtin "sum") := by decide +kernel)
    (hs : ∀ v, genFold iter X.env v = pure v := by intro _; rfl) (hst : starEach [.GeneratorExp elt [⟨tg, iter, [], 0⟩] scope pos] X.env = (false, eval (.GeneratorExp elt [⟨tg, iter, [], 0⟩] scope pos) X.env) :: starEach [] X.env := by rfl) :
    PE X (.Call (.Name "sum" p) [.GeneratorExp elt [⟨tg, iter, [], 0⟩] scope pos] [] cpos) (tSumG P wi g te own ext) := by
  constructor
  intro pins s σ H Q I h
  refine wpAny_Call_Name_kw (ld_blt I hg hm hb (PyProof.Rows.callWith_builtin1 ?_ hst (by rfl)))
  rw [hst]
  show wpAny _ _ (spliced ((false, eval (.GeneratorExp elt [⟨tg, iter, [], 0⟩] scope pos) X.env) :: backTo cpos (starEach [] X.env))) _ _ s
  refine Calls.spliced_cons (gen_eval hr TB hcode G hi hs I h fun J fp it tn H1 H4 s4 s5 code ga gi q htab S t5 c5 hgen hgs => Calls.spliced_nil ?_)
  obtain ⟨W, ⟨m, w0⟩, turn⟩ := q H4 htab
  have rm : Room k (X.A.in1.in1.over (gLoop X tg elt iter scope pos it s4 code) []) := room_over (room_in1 hr) rfl rfl
  refine call_function_tree F.kind_sum F.plain_sum F.entry_sum (F.args_sum1 _) ?_
  unfold Builtin.«sum»
  simp only [List.length_cons, List.length_nil]
  rw [if_neg (by decide)]
  refine wpAny_bind (wpAny_of_eq (show Builtin.Builtins.bindParams "sum" ["start"] 0 { } = pure [none] from rfl) ?_)
  refine wpAny_bind (wpAny_pyIter_gen hgen ?_)
  refine wpAny_bind (wpAny_mkInt ?_)
  refine wpAny_bind (wpAny_pure ?_)
  simp only [List.forIn_cons, List.forIn_nil]
  refine wpAny_bind (wpAny_bind (wpAny_bind (wpAny_isInstance (T := "int") (b := false) (typeIs_int _ _ _) PySem.sub_int_str ?_)))
  simp only [Bool.false_eq_true, if_false]
  refine wpAny_pure (wpAny_bind (wpAny_bind (wpAny_isInstance (T := "int") (b := false) (typeIs_int _ _ _) PySem.sub_int_bytes ?_)))
  simp only [Bool.false_eq_true, if_false]
  refine wpAny_pure (wpAny_bind (wpAny_bind (wpAny_isInstance (T := "int") (b := false) (typeIs_int _ _ _) PySem.sub_int_bytearray ?_)))
  simp only [Bool.false_eq_true, if_false]
  refine wpAny_pure (wpAny_pure ?_)
  refine wpAny_bind (wpAny_newObj_type ?_)
  have gaS : ga < s5.heap.objs.size := by
    obtain ⟨o, nm, qn, ho, _⟩ := hgen
    exact Heap.lt_size ho
  refine wpAny_pure ⟨plainId_quiet F.plain_sum_loop _, ?_⟩
  have hk : ∀ (b : Addr) (u : Obj), s5.heap.get? b = some u → (s5.heap.push { cls := .type "list", data := .seq #[.int 0 s5.toks] }).get? b = some u := fun b u e => Heap.get?_push_of_some _ e
  have hS : (s5.heap.push { cls := .type "list", data := .seq #[.int 0 s5.toks] }).get? s5.heap.objs.size = some { cls := .type "list", data := .seq #[.int 0 s5.toks] } := Heap.get?_push_size _ rfl
  have c6 := CO.more (s' := { s5 with heap := s5.heap.push { cls := .type "list", data := .seq #[.int 0 s5.toks] }, toks := s5.toks + 1 }) S c5 rfl c5.bare hk hS (fun v z => by cases z)
  have t6 : tn 0 (s5.heap.push { cls := .type "list", data := .seq #[.int 0 s5.toks] }) := S.turn.keep _ _ _ t5 fun b hb o e => hk b o e
  have hat : TotAt s5.heap.objs.size 0 { s5 with heap := s5.heap.push { cls := .type "list", data := .seq #[.int 0 s5.toks] }, toks := s5.toks + 1 } := ⟨_, _, hS⟩
  refine sum_walk (tq := tn) (W := W) (QD := fun a H' => Q (.int a) H') S hr.hd hr.depth (fun a t H' s' hb hc => EP_of (v := .int a) S hc ⟨t, rfl⟩ hb) m _ 0 0 (.inl rfl) hat ⟨?_, List.mem_cons_of_mem _ List.mem_cons_self, List.mem_cons_self, Nat.ne_of_lt gaS, ⟨H4, c6⟩, _, hgs, fun s' ta kp => ⟨rfl, ?_⟩⟩
  · obtain ⟨o, nm, qn, ho, r⟩ := hgen
    exact ⟨o, nm, qn, hk _ _ ho, r⟩
  have t7 : tn 0 s'.heap := S.turn.keep _ _ _ t6 fun b hb o e => kp.keep b o (fun z => (c6.sx b z).2.2.2.2.1 hb) e
  refine seg_first (Ag := X.A.in1.in1) S hr.hd t7 (seg_loopS (Ag := X.A.in1.in1) S S.inv.ok.frames hr.hd (ht ..) (he _ _ _ _ _ rm) W _ _ (fun i m a H w => ?_) (m + 1) 0 m 0 H4 s' (Nat.lt_succ_self m) w0 ta (c6.kp kp) t7)
  rcases turn i m a H w with z | ⟨go, N, hN, step⟩
  · exact .inl z
  · exact .inr ⟨go, _, fun v H3 ⟨b, e, q⟩ => ⟨b, e, hN _ _ q⟩, step⟩
end
/-! ### readings over any walk -/
section
variable {J : It} {n : Nat} {G : Hp → Prop} {Y : Nat → Hp → V → Hp → Prop} {g : TG} {te : TE} {σg : L2.St} {H1 : Hp} {P : Addr} {Q : VK} {st : Bool}
/-- any, all over any walk -/
theorem gen_it (w : Walk J n G Y) (Pv : Nat → Hp → Prop) (h0 : ∀ H2, GxR.Tabbed P H1 H2 → Pv 0 H2) (hG : ∀ i H, i ≤ n → Pv i H → G H)
    (hs : ∀ i x H H', i < n → Pv i H → Y i H x H' → g x σg H' fun σ2 H2 => te σ2 H2 fun v H3 => ∃ b, v = V.bl b ∧ if b = st then Q (.bl st) H3 else Pv (i + 1) H3) (hd : ∀ H, Pv n H → Q (.bl (!st)) H) :
    ∀ H2, GxR.Tabbed P H1 H2 → ∃ W : Nat → Nat → Hp → Prop, (∃ m, W 0 m H2) ∧ ∀ i m H, W i m H → (J.stop i H ∧ Q (.bl (!st)) H) ∨ (J.go i H ∧ ∃ N : Hp → Prop, (∀ H', N H' → ∃ m', m' < m ∧ W (i + 1) m' H') ∧
      ∀ x H', J.yld i H x H' → g x σg H' fun σ2 H2 => te σ2 H2 fun v H3 => ∃ b, v = V.bl b ∧ if b = st then Q (.bl st) H3 else N H3) := by
  intro H2 tb
  refine ⟨fun i m H => m = n - i ∧ i ≤ n ∧ Pv i H, ⟨n, by simp, Nat.zero_le _, h0 H2 tb⟩, ?_⟩
  rintro i m H ⟨rfl, hi, p⟩
  have q := hG i H hi p
  by_cases hlt : i < n
  · exact .inr ⟨w.goes i H hlt q, Pv (i + 1), fun H' p' => ⟨n - (i + 1), by omega, rfl, hlt, p'⟩, fun x H' y => hs i x H H' hlt p (w.yields i H x H' hlt q y)⟩
  · obtain rfl : i = n := by omega
    exact .inl ⟨w.stops H q, hd H p⟩
/-- sum over any walk: Pv also tells the total -/
theorem sum_it (w : Walk J n G Y) (Pv : Nat → Int → Hp → Prop) (h0 : ∀ H2, GxR.Tabbed P H1 H2 → Pv 0 0 H2) (hG : ∀ i a H, i ≤ n → Pv i a H → G H)
    (hs : ∀ i a x H H', i < n → Pv i a H → Y i H x H' → g x σg H' fun σ2 H2 => te σ2 H2 fun v H3 => ∃ b, v = V.int b ∧ Pv (i + 1) (a + b) H3) (hd : ∀ a H, Pv n a H → Q (.int a) H) :
    ∀ H2, GxR.Tabbed P H1 H2 → ∃ W : Nat → Nat → Int → Hp → Prop, (∃ m, W 0 m 0 H2) ∧ ∀ i m a H, W i m a H → (J.stop i H ∧ Q (.int a) H) ∨ (J.go i H ∧ ∃ N : Int → Hp → Prop, (∀ a' H', N a' H' → ∃ m', m' < m ∧ W (i + 1) m' a' H') ∧
      ∀ x H', J.yld i H x H' → g x σg H' fun σ2 H2 => te σ2 H2 fun v H3 => ∃ b, v = V.int b ∧ N (a + b) H3) := by
  intro H2 tb
  refine ⟨fun i m a H => m = n - i ∧ i ≤ n ∧ Pv i a H, ⟨n, by simp, Nat.zero_le _, h0 H2 tb⟩, ?_⟩
  rintro i m a H ⟨rfl, hi, p⟩
  have q := hG i a H hi p
  by_cases hlt : i < n
  · exact .inr ⟨w.goes i H hlt q, Pv (i + 1), fun a' H' p' => ⟨n - (i + 1), by omega, rfl, hlt, p'⟩, fun x H' y => hs i a x H H' hlt p (w.yields i H x H' hlt q y)⟩
  · obtain rfl : i = n := by omega
    exact .inl ⟨w.stops H q, hd a H p⟩
end
end GX

/-! ### sum of a generator expression with one if -/
namespace GX
open PySem PySem.Spec PyProof.Rows L2 Cm
open Sem (wp)
abbrev fLoop (X : Cx) (tg elt iter cd : Expr) (scope : Scope) (pos : Pos) (it : Addr) (s4 : Shared) (code : Value) : Code :=
  .compLoop (.GeneratorExp elt [⟨tg, iter, [cd], 0⟩] scope pos) 0 (.ref it) .none (gEnv X scope s4.heap.objs.size code)
abbrev fFirst (X : Cx) (tg elt iter cd : Expr) (scope : Scope) (pos : Pos) (it : Addr) (s4 : Shared) (code : Value) : Code :=
  .compStart (.GeneratorExp elt [⟨tg, iter, [cd], 0⟩] scope pos) 0 (.ref it) .none (gEnv X scope s4.heap.objs.size code)
section
variable {X : Cx} {pins : List (Addr × Obj)} {σ : L2.St} {H4 : Hp} {s4 : Shared} {scope : Scope} {own : List (Str × Nat)} {ext : List Str} {tg elt iter cd : Expr} {code : Value} {fp sx : List Addr} {J : It} {it : Addr} {tn : Nat → Heap → Prop} {pos : Pos}
theorem seg_firstF {Ag : Around} (S : GSt X pins σ scope own ext tg code H4 s4 J fp it tn) (hh : Ag.handled = none) {R : GenEnd} {Y : Protocol} {n : Nat} {s0 s : Shared} (t0 : tn 0 s.heap)
    (loop : Seg (model X.prog X.w) Ag R Y n s0 (fLoop X tg elt iter cd scope pos it s4 code) ((model X.prog X.w).den (fLoop X tg elt iter cd scope pos it s4 code)) [] s) :
    Seg (model X.prog X.w) Ag R Y n s0 (fFirst X tg elt iter cd scope pos it s4 code) ((model X.prog X.w).den (fFirst X tg elt iter cd scope pos it s4 code)) [] s := by
  show Seg _ Ag _ _ _ s0 _ ((compStart (.GeneratorExp elt [⟨tg, iter, [cd], 0⟩] scope pos) 0 (.ref it) .none (gEnv X scope s4.heap.objs.size code)).onRaise (leaving (gEnv X scope s4.heap.objs.size code))) [] s
  unfold compStart
  rw [Sem.onRaise_eq_wrap]
  show Seg _ Ag _ _ _ s0 _ ((ask >>= _).wrap _ _ _ _) [] s
  refine seg_bind_wrap (wpAny_askSetting ?_)
  split
  · exact seg_again rfl loop
  · first
      | exact seg_bind_wrap (wpAny_rule (seg_bind_wrap (wpAny_standAt (seg_bind_wrap (S.turn.self _ 0 s _ _ t0 (seg_again rfl loop))))))
      | (refine seg_bind_wrap (wpAny_rule ?_); show Seg _ Ag _ _ _ s0 _ ((standAt iter.pos >>= _).wrap _ _ _ _) [] s; exact seg_bind_wrap (wpAny_standAt (seg_bind_wrap (S.turn.self _ 0 s _ _ t0 (seg_again rfl loop)))))
theorem seg_loopF {Ag : Around} {SA : Addr} (S : GSt X pins σ scope own ext tg code H4 s4 J fp it tn) (hfr : Ag.frames = some X.stack) (hh : Ag.handled = none) {g : TG} {te : TE} {tt : TT}
    (hg : PG (gCx X scope code fp s4 H4 (Ag.over (fLoop X tg elt iter cd scope pos it s4 code) []) ext) tg g) (he : PE (gCx X scope code fp s4 H4 (Ag.over (fLoop X tg elt iter cd scope pos it s4 code) []) ext) elt te)
    (hc : PT (gCx X scope code fp s4 H4 (Ag.over (fLoop X tg elt iter cd scope pos it s4 code) []) ext) cd tt)
    (W : Nat → Nat → Int → Hp → Prop) (Dn : Int → Hp → Prop) (Yd : Nat → Nat → Int → V → Hp → Prop)
    (turn : ∀ i m a H, W i m a H → (J.stop i H ∧ Dn a H) ∨ (J.go i H ∧ ∃ (Yn : V → Hp → Prop) (Nn : Hp → Prop), (∀ v H3, Yn v H3 → Yd i m a v H3) ∧ (∀ H3, Nn H3 → ∃ m', m' < m ∧ W (i + 1) m' a H3) ∧
      ∀ x H', J.yld i H x H' → g x (gS σ own ext) H' fun σ2 H2 => tt σ2 H2 fun b H3 => if b = true then te σ2 H3 Yn else Nn H3)) :
    ∀ m n i a H s0 s, m < n → W i m a H → TotAt SA a s0 → (∀ b ∈ sx, s.heap.get? b = s0.heap.get? b) → CO X fp sx s4 H4 H s → tn i s.heap →
      Seg (model X.prog X.w) Ag (fun n s0 r s1 => r = .ok .next ∧ gES X fp sx s4 H4 SA Dn n s0 s1) (gYS X fp sx s4 H4 tn SA W Yd) n s0 (fLoop X tg elt iter cd scope pos it s4 code) ((model X.prog X.w).den (fLoop X tg elt iter cd scope pos it s4 code)) [] s := by
  have hB : (Ag.over (fLoop X tg elt iter cd scope pos it s4 code) []).frames = some (gEnv X scope s4.heap.objs.size code :: X.stack) := by
    show pushEnvs [gEnv X scope s4.heap.objs.size code] (pushEnvs [] Ag.frames) = _
    rw [hfr]
    rfl
  have hBh : (Ag.over (fLoop X tg elt iter cd scope pos it s4 code) []).handled = none := hh
  intro m
  induction m using Nat.strongRecOn with
  | ind m ih =>
    intro n i a H s0 s hm w0 a0 es h0 t0
    have I0 := CO.inv S h0 hB hBh
    have ff : ∀ {H' : Hp}, (∀ b ∈ fp, H' b = none) → ∀ b ∈ fp, FpOk (gCx X scope code fp s4 H4 (Ag.over (fLoop X tg elt iter cd scope pos it s4 code) []) ext) (pinsAt sx s.heap) H' b := fun hn b hb => by
      refine ⟨hn b hb, Nat.ne_of_lt (S.lt b hb), I0.ok.exfs b hb, .inl hb, (I0.ok.exf b hb).2, fun p hp z => ?_⟩
      have q := (of_pinsAt (show p ∈ pinsAt sx s.heap by simpa [gCx] using hp)).1
      exact (h0.sx p.1 q).2.2.2.2.1 (z ▸ hb)
    show Seg _ Ag _ _ _ s0 _ ((compTurn (.GeneratorExp elt [⟨tg, iter, [cd], 0⟩] scope pos) 0 (.ref it) .none (gEnv X scope s4.heap.objs.size code)).onRaise (leaving (gEnv X scope s4.heap.objs.size code))) [] s
    rw [compTurn_gen, Sem.onRaise_eq_wrap]
    refine seg_bind_wrap (wpAny_standAt ?_)
    rcases turn i m a H w0 with ⟨stop, dn⟩ | ⟨go, Yn, Nn, hYn, hNn, step⟩
    · refine seg_bind_wrap (wpAny_mono (S.turn.done (gCx X scope code fp s4 H4 (Ag.over (fLoop X tg elt iter cd scope pos it s4 code) []) ext) rfl rfl rfl rfl i _ s _ H (fun _ _ => False) I0 (ff h0.fr) t0 stop) (fun r s1 hr => ?_) fun _ _ z => False.elim z)
      obtain ⟨rfl, I1⟩ := hr
      obtain ⟨c1, x1⟩ := h0.of_inv I1 h0.fr
      exact seg_end (.ok .next) ⟨rfl, a, H, a0, dn, c1, fun b hb => (x1 b hb).trans (es b hb)⟩
    · refine seg_bind_wrap (wpAny_mono (S.turn.item (gCx X scope code fp s4 H4 (Ag.over (fLoop X tg elt iter cd scope pos it s4 code) []) ext) rfl rfl rfl rfl i _ s _ H (fun _ _ => False) I0 (ff h0.fr) t0 go) (fun r s1 hr => ?_) fun _ _ z => False.elim z)
      obtain ⟨u, rfl, h1⟩ := hr
      refine seg_bind_wrap (wpAny_mono h1 (fun _ s2 h2 => ?_) fun _ _ z => False.elim z)
      obtain ⟨x, H2, I2, rx, y2, t2, f2⟩ := h2
      have I2p := I2.pinned (ff f2) (S.turn.obj _ _ t2)
      refine seg_bind_wrap (wpAny_mono (hg.run _ s2 _ H2 x u _ I2p rx (step x H2 y2)) (fun _ s3 h3 => ?_) fun _ _ z => False.elim z)
      obtain ⟨σ3, H3, I3, q3⟩ := h3
      simp only [List.forIn_cons, List.forIn_nil, if_true]
      refine seg_bind_wrap (wpAny_bind (wpAny_bind (wpAny_mono (hc.run _ s3 σ3 H3 _ I3 q3) (fun ok s4' h4 => ?_) fun _ _ z => False.elim z)))
      obtain ⟨H4', I4, q4⟩ := h4
      refine wpAny_pure (wpAny_pure ?_)
      have pf : ∀ {H5 : Hp} {s5 : Shared} {σ5 : L2.St}, Inv (gCx X scope code fp s4 H4 (Ag.over (fLoop X tg elt iter cd scope pos it s4 code) []) ext) (pinsAt sx s.heap ++ pinsAt fp s2.heap) σ5 H5 s5 → (∀ b ∈ fp, H5 b = none) ∧ tn (i + 1) s5.heap := fun {H5 s5 σ5} I5 => by
        have pf : ∀ b ∈ fp, ∀ o, s2.heap.get? b = some o → s5.heap.get? b = some o ∧ H5 b = none := fun b hb o e => by
          have z := I5.pin (b, o) (List.mem_append_right _ (List.mem_append_right _ (mem_pinsAt hb e)))
          exact ⟨z.1, z.2.1⟩
        exact ⟨fun b hb => by
          obtain ⟨o, e, _⟩ := S.turn.obj _ _ t2 b hb
          exact (pf b hb o e).2, S.turn.keep _ _ _ t2 fun b hb o e => (pf b hb o e).1⟩
      cases ok with
      | false =>
        simp only [Bool.false_eq_true, if_false]
        obtain ⟨m', hm', w'⟩ := hNn _ q4
        obtain ⟨f5, t5⟩ := pf I4
        obtain ⟨c5, x5⟩ := h0.of_inv I4.unpinned f5
        exact seg_again rfl (ih m' hm' n (i + 1) a H4' s0 s4' (by omega) w' a0 (fun b hb => (x5 b hb).trans (es b hb)) c5 t5)
      | true =>
        simp only [if_true]
        obtain ⟨n, rfl⟩ : ∃ k, n = k + 1 := ⟨n - 1, by omega⟩
        have hy : ∀ v, yieldOut (gEnv X scope s4.heap.objs.size code) v = yieldValue v := fun v => by
          have q : (gEnv X scope s4.heap.objs.size code).scope.isCoroutine = false := S.ok.co
          simp only [yieldOut, q, Bool.false_eq_true, if_false]
        simp only [hy]
        rw [Sem.bind_eq_wrap', Sem.bind_eq_wrap', Sem.wrap_wrap, Sem.wrap_wrap]
        refine seg_wrap (wpAny_mono (he.run _ s4' σ3 H4' _ I4 q4) (fun v s5 h5 => ?_) fun _ _ z => False.elim z)
        obtain ⟨y, H5, I5, ry, q5⟩ := h5
        obtain ⟨f5, t5⟩ := pf I5
        obtain ⟨c5, x5⟩ := h0.of_inv I5.unpinned f5
        refine seg_at (seg_yield rfl rfl rfl ⟨y, i, m, a, H5, a0, ry, hYn _ _ q5, c5, t5, fun b hb => (x5 b hb).trans (es b hb), Nat.lt_succ_iff.mp hm, fun m' a' s' hm' w' at' kp => ?_⟩)
        refine seg_again rfl (ih m' hm' n (i + 1) a' H5 s' s' (Nat.lt_of_lt_of_le hm' (Nat.lt_succ_iff.mp hm)) w' at' (fun _ _ => rfl) (c5.kp kp) (S.turn.keep _ _ _ t5 fun b hb o e => kp.keep b o (fun z => (c5.sx b z).2.2.2.2.1 hb) e))
end
section
variable {X : Cx} {pins : List (Addr × Obj)} {σ : L2.St} {H : Hp} {s : Shared} {scope : Scope} {own : List (Str × Nat)} {ext : List Str} {tg elt iter cd : Expr} {pos p cpos : Pos} {c P : Addr} {wi : TI} {k : Nat} {g : TG} {te : TE} {tt : TT}
theorem gen_evalF {R : It → Hp → Prop} {Q' : Value → Shared → Prop} (hr : Room k X.A) (TB : GxR.TabB X.base X.mg c P) (hcode : X.env.code = .ref c) (G : GOk X.N X.env.scope scope own ext) (hi : PI X tg iter wi) (hs : ∀ v, genFold iter X.env v = pure v)
    (I : Inv X pins σ H s) (h : wi σ H fun J H1 => GxR.TabG H1 P ∧ R J H1)
    (hQ : ∀ (J : It) (fp : List Addr) (it : Addr) (tn : Nat → Heap → Prop) (H1 H4 : Hp) (s4 s5 : Shared) (code : Value) (ga : Addr) (gi : Nat), R J H1 → GxR.Tabbed P H1 H4 → GSt X pins σ scope own ext tg code H4 s4 J fp it tn → tn 0 s5.heap → CO X fp [ga] s4 H4 H4 s5 →
      s5.heap.IsGen ga gi → s5.gens[gi]? = some (.fresh (fFirst X tg elt iter cd scope pos it s4 code)) → Q' (.ref ga) s5) :
    wpAny (model X.prog X.w) X.A (eval (.GeneratorExp elt [⟨tg, iter, [cd], 0⟩] scope pos) X.env) Q' X.xe s := by
  refine wpAny_GeneratorExp_make G.co (closure_ok (free_cells I G)) G.cell G.dot G.blk.kind hr.depth (thn (hi.run pins s σ H _ I h) fun xv s1 h1 => thn h1 fun itv s2 h2 => ?_) hs
  obtain ⟨it, fp, tn, J, H1, rfl, I2, T, t2, f2, ⟨ps, hP, ht⟩, q⟩ := h2
  have hPs : s2.heap.get? P = some { cls := .none, data := .fields ps } := I2.hok P _ hP
  have cdh : PySem.W.CodeHd s2.heap c P := TB.code.keeps fun b u e => I2.bk b u e
  have nP : ∀ b ∈ fp, b ≠ P := fun b hb z => by
    have z2 := (f2 b hb).1
    rw [z, hP] at z2
    cases z2
  refine ⟨I2.nolimit, ?_⟩
  have cont : ∀ (code : Value) (h3 : Heap) (tk : Nat) (more : Array Value), Heap.ExtBut P s2.heap h3 → h3.get? P = some { cls := .none, data := .fields (ps ++ more) } → TriplesOk (ps ++ more).toList →
      wpAny (model X.prog X.w) X.A (builtinsFor X.env.globals X.env.builtins) (fun bi s₄ => ∀ h', h'.Ns s₄.heap.objs.size (fun y => if y = ".0" then some (.ref it) else none) → Heap.SameBut s₄.heap.objs.size (s₄.heap.push { cls := .type "frame", data := .dict #[] }) h' →
          Q' (.ref h'.objs.size) { s₄ with
            gens := s₄.gens.push (.fresh (.compStart (.GeneratorExp elt [⟨tg, iter, [cd], 0⟩] scope pos) 0 (.ref it) .none (genEnv scope (cloFrom X.env.cells scope.names []) s₄.heap.objs.size code bi X.env))),
            toks := s₄.toks + 1 + 1 + 1,
            heap := h'.push { cls := .type "generator", data := .fields #[.int s₄.gens.size 0, .str "<genexpr>" (s₄.toks + 1), .str (X.env.qual ++ "<genexpr>") (s₄.toks + 1 + 1)] } }) X.xe { s2 with heap := h3, toks := tk } := by
    intro code h3 tk more hx h3P ht3
    have I4 := GxR.inv_tab (more := more) (h' := h3) (g' := s2.gens) (d' := s2.drawn) (t' := tk) I2 hP (fun b u hb e => hx b u hb e) h3P I2.bare
    obtain ⟨bm, ob, e1, e2, e3, e4, e5, e6, e7, e8⟩ := TB.bm
    refine wpAny_builtinsFor (m := X.mg) (by rw [I4.ok.glob]; exact I4.mod.glob.keeps I4.bk) e1 e2 (I4.bk _ _ e5) e6 e7 e8 ?_
    intro h' hn' hs'
    have keep1 : ∀ b o, h3.get? b = some o → h'.get? b = some o := fun b o e => hs'.extBut b o (Nat.ne_of_lt (Heap.lt_size e)) (Heap.get?_push_of_some _ e)
    have sz' : h'.objs.size = h3.objs.size + 1 := by rw [hs'.1, Heap.size_push]
    have keep5 : ∀ b o, h3.get? b = some o → (h'.push { cls := .type "generator", data := .fields #[.int s2.gens.size 0, .str "<genexpr>" (tk + 1), .str (X.env.qual ++ "<genexpr>") (tk + 1 + 1)] }).get? b = some o := fun b o e => Heap.get?_push_of_some _ (keep1 b o e)
    have f4 : ∀ b ∈ fp, FpOk X pins (upd H1 P (.tbl (ps ++ more))) b := fun b hb => ⟨by rw [upd_ne (nP b hb)]; exact (f2 b hb).1, (f2 b hb).2⟩
    have t4 : tn 0 h3 := T.keep _ _ _ t2 fun b hb o e => hx b o (nP b hb) e
    have lt : ∀ b ∈ fp, b < h3.objs.size := fun b hb => by
      obtain ⟨o, e, _⟩ := T.obj _ _ t4 b hb
      exact Heap.lt_size e
    have S : GSt X pins σ scope own ext tg code (upd H1 P (.tbl (ps ++ more))) { s2 with heap := h3, toks := tk } J fp it tn := ⟨I4, G, T, f4, lt⟩
    have nga : ∀ b, h3.objs.size ≤ b → upd H1 P (.tbl (ps ++ more)) b = none := fun b hb => I4.hok.fresh hb
    refine hQ J fp it tn H1 _ { s2 with heap := h3, toks := tk } _ code h'.objs.size s2.gens.size q ⟨⟨_, upd_same, ht3⟩, fun b hb => upd_ne hb⟩ S (T.keep _ _ _ t4 fun b hb o e => keep5 b o e) ⟨rfl, AllBare.push I2.bare rfl, Un.kept keep5, I4.hok.kept keep5, ⟨_, hn'.push _⟩, nga _ (Nat.le_refl _), fun b hb => (f4 b hb).1, fun b hb => ?_⟩ ?_ ?_
    · obtain rfl : b = h'.objs.size := by simpa using hb
      refine ⟨⟨_, Heap.get?_push_size _ rfl, fun v z => by cases z⟩, nga _ (by omega), ?_, fun z => ?_, fun z => ?_, ?_⟩
      · show h'.objs.size ≠ h3.objs.size
        omega
      · rcases List.mem_cons.mp (I4.stkSub _ z) with e | e
        · have z2 := I4.lt
          rw [← e] at z2
          have z3 : h'.objs.size < h3.objs.size := z2
          omega
        · exact I4.nofs (show h3.objs.size ≤ h'.objs.size by omega) e
      · have q5 : (h'.objs.size : Nat) < h3.objs.size := lt _ z
        omega
      · show h3.get? h'.objs.size = none
        cases e : h3.get? h'.objs.size with
        | none => rfl
        | some o =>
          have q5 : (h'.objs.size : Nat) < h3.objs.size := Heap.lt_size e
          omega
    · exact ⟨_, _, _, Heap.get?_push_size _ rfl, rfl, rfl, rfl⟩
    · exact Array.getElem?_push_size ..
  cases hf : codeAmong pos ps.toList with
  | none =>
    refine wpAny_genexprCodeX hcode (cdh.code hPs ht) (cdh.tab hPs) hf fun c' h' tk hx hge hlt hco' _ htab' _ => ?_
    obtain ⟨o1, vs, f1, tf, fl, tg', inF, tx, tt, op, _, _, _, _, _, _, _, _, _, htr, _⟩ := hco'
    exact cont _ h' tk _ hx htab'.2 htr
  | some cv =>
    refine wpAny_genexprCode_hit hcode (cdh.code hPs ht) hf ?_
    exact cont cv s2.heap s2.toks #[] (Heap.ExtBut.refl _ _) (by simpa using hPs) (by simpa using ht)
/-- sum(.. if ..) of the expression over ints -/
def tSumF (P : Addr) (wi : TI) (g : TG) (te : TE) (tt : TT) (own : List (Str × Nat)) (ext : List Str) : TE := fun σ H Q => wi σ H fun J H1 => GxR.TabG H1 P ∧ ∀ H2, GxR.Tabbed P H1 H2 → ∃ W : Nat → Nat → Int → Hp → Prop, (∃ m, W 0 m 0 H2) ∧
  ∀ i m a H, W i m a H → (J.stop i H ∧ Q (.int a) H) ∨ (J.go i H ∧ ∃ N : Int → Hp → Prop, (∀ a' H', N a' H' → ∃ m', m' < m ∧ W (i + 1) m' a' H') ∧ ∀ x H', J.yld i H x H' → g x (gS σ own ext) H' fun σ2 H2 => tt σ2 H2 fun b H3 => if b = true then te σ2 H3 fun v H5 => ∃ b, v = V.int b ∧ N (a + b) H5 else N a H3)
theorem pe_sumF (hr : Room (k + 2) X.A) (hg : Gl X "sum") (hm : X.mg "sum" = none) (TB : GxR.TabB X.base X.mg c P) (hcode : X.env.code = .ref c) (G : GOk X.N X.env.scope scope own ext) (hi : PI X tg iter wi)
    (ht : ∀ (code : Value) (fp : List Addr) (s4 : Shared) (H4 : Hp) (B : Around), PG (gCx X scope code fp s4 H4 B ext) tg g) (he : ∀ (code : Value) (fp : List Addr) (s4 : Shared) (H4 : Hp) (B : Around), Room k B → PE (gCx X scope code fp s4 H4 B ext) elt te) (hc : ∀ (code : Value) (fp : List Addr) (s4 : Shared) (H4 : Hp) (B : Around), Room k B → PT (gCx X scope code fp s4 H4 B ext) cd tt)
    (hb : bootBuiltins "sum" = some (.builtin "sum") := by decide +kernel)
    (hs : ∀ v, genFold iter X.env v = pure v := by intro _; rfl) (hst : starEach [.GeneratorExp elt [⟨tg, iter, [cd], 0⟩] scope pos] X.env = (false, eval (.GeneratorExp elt [⟨tg, iter, [cd], 0⟩] scope pos) X.env) :: starEach [] X.env := by rfl) :
    PE X (.Call (.Name "sum" p) [.GeneratorExp elt [⟨tg, iter, [cd], 0⟩] scope pos] [] cpos) (tSumF P wi g te tt own ext) := by
  constructor
  intro pins s σ H Q I h
  refine wpAny_Call_Name_kw (ld_blt I hg hm hb (PyProof.Rows.callWith_builtin1 ?_ hst (by rfl)))
  rw [hst]
  show wpAny _ _ (spliced ((false, eval (.GeneratorExp elt [⟨tg, iter, [cd], 0⟩] scope pos) X.env) :: backTo cpos (starEach [] X.env))) _ _ s
  refine Calls.spliced_cons (gen_evalF hr TB hcode G hi hs I h fun J fp it tn H1 H4 s4 s5 code ga gi q htab S t5 c5 hgen hgs => Calls.spliced_nil ?_)
  obtain ⟨W, ⟨m, w0⟩, turn⟩ := q H4 htab
  have rm : Room k (X.A.in1.in1.over (fLoop X tg elt iter cd scope pos it s4 code) []) := room_over (room_in1 hr) rfl rfl
  refine call_function_tree F.kind_sum F.plain_sum F.entry_sum (F.args_sum1 _) ?_
  unfold Builtin.«sum»
  simp only [List.length_cons, List.length_nil]
  rw [if_neg (by decide)]
  refine wpAny_bind (wpAny_of_eq (show Builtin.Builtins.bindParams "sum" ["start"] 0 { } = pure [none] from rfl) ?_)
  refine wpAny_bind (wpAny_pyIter_gen hgen ?_)
  refine wpAny_bind (wpAny_mkInt ?_)
  refine wpAny_bind (wpAny_pure ?_)
  simp only [List.forIn_cons, List.forIn_nil]
  refine wpAny_bind (wpAny_bind (wpAny_bind (wpAny_isInstance (T := "int") (b := false) (typeIs_int _ _ _) PySem.sub_int_str ?_)))
  simp only [Bool.false_eq_true, if_false]
  refine wpAny_pure (wpAny_bind (wpAny_bind (wpAny_isInstance (T := "int") (b := false) (typeIs_int _ _ _) PySem.sub_int_bytes ?_)))
  simp only [Bool.false_eq_true, if_false]
  refine wpAny_pure (wpAny_bind (wpAny_bind (wpAny_isInstance (T := "int") (b := false) (typeIs_int _ _ _) PySem.sub_int_bytearray ?_)))
  simp only [Bool.false_eq_true, if_false]
  refine wpAny_pure (wpAny_pure ?_)
  refine wpAny_bind (wpAny_newObj_type ?_)
  have gaS : ga < s5.heap.objs.size := by
    obtain ⟨o, nm, qn, ho, _⟩ := hgen
    exact Heap.lt_size ho
  refine wpAny_pure ⟨plainId_quiet F.plain_sum_loop _, ?_⟩
  have hk : ∀ (b : Addr) (u : Obj), s5.heap.get? b = some u → (s5.heap.push { cls := .type "list", data := .seq #[.int 0 s5.toks] }).get? b = some u := fun b u e => Heap.get?_push_of_some _ e
  have hS : (s5.heap.push { cls := .type "list", data := .seq #[.int 0 s5.toks] }).get? s5.heap.objs.size = some { cls := .type "list", data := .seq #[.int 0 s5.toks] } := Heap.get?_push_size _ rfl
  have c6 := CO.more (s' := { s5 with heap := s5.heap.push { cls := .type "list", data := .seq #[.int 0 s5.toks] }, toks := s5.toks + 1 }) S c5 rfl c5.bare hk hS (fun v z => by cases z)
  have t6 : tn 0 (s5.heap.push { cls := .type "list", data := .seq #[.int 0 s5.toks] }) := S.turn.keep _ _ _ t5 fun b hb o e => hk b o e
  have hat : TotAt s5.heap.objs.size 0 { s5 with heap := s5.heap.push { cls := .type "list", data := .seq #[.int 0 s5.toks] }, toks := s5.toks + 1 } := ⟨_, _, hS⟩
  refine sum_walk (tq := tn) (W := W) (QD := fun a H' => Q (.int a) H') S hr.hd hr.depth (fun a t H' s' hb hc => EP_of (v := .int a) S hc ⟨t, rfl⟩ hb) m _ 0 0 (.inl rfl) hat ⟨?_, List.mem_cons_of_mem _ List.mem_cons_self, List.mem_cons_self, Nat.ne_of_lt gaS, ⟨H4, c6⟩, _, hgs, fun s' ta kp => ⟨rfl, ?_⟩⟩
  · obtain ⟨o, nm, qn, ho, r⟩ := hgen
    exact ⟨o, nm, qn, hk _ _ ho, r⟩
  have t7 : tn 0 s'.heap := S.turn.keep _ _ _ t6 fun b hb o e => kp.keep b o (fun z => (c6.sx b z).2.2.2.2.1 hb) e
  refine seg_firstF (Ag := X.A.in1.in1) S hr.hd t7 (seg_loopF (Ag := X.A.in1.in1) S S.inv.ok.frames hr.hd (ht ..) (he _ _ _ _ _ rm) (hc _ _ _ _ _ rm) W _ _ (fun i m a H w => ?_) m (m + 1) 0 0 H4 s' s' (Nat.lt_succ_self m) w0 ta (fun _ _ => rfl) (c6.kp kp) t7)
  rcases turn i m a H w with z | ⟨go, N, hN, step⟩
  · exact .inl z
  · exact .inr ⟨go, _, fun H3 => N a H3, fun v H3 ⟨b, e, q⟩ => ⟨b, e, hN _ _ q⟩, fun H3 q => hN _ _ q, step⟩
end
section
variable {J : It} {n : Nat} {G : Hp → Prop} {Y : Nat → Hp → V → Hp → Prop} {g : TG} {te : TE} {tt : TT} {σg : L2.St} {H1 : Hp} {P : Addr} {Q : VK}
/-- the same with an if, over any walk -/
theorem sum_itF (w : Walk J n G Y) (Pv : Nat → Int → Hp → Prop) (h0 : ∀ H2, GxR.Tabbed P H1 H2 → Pv 0 0 H2) (hG : ∀ i a H, i ≤ n → Pv i a H → G H)
    (hs : ∀ i a x H H', i < n → Pv i a H → Y i H x H' → g x σg H' fun σ2 H2 => tt σ2 H2 fun b H3 => if b = true then te σ2 H3 fun v H5 => ∃ b, v = V.int b ∧ Pv (i + 1) (a + b) H5 else Pv (i + 1) a H3) (hd : ∀ a H, Pv n a H → Q (.int a) H) :
    ∀ H2, GxR.Tabbed P H1 H2 → ∃ W : Nat → Nat → Int → Hp → Prop, (∃ m, W 0 m 0 H2) ∧ ∀ i m a H, W i m a H → (J.stop i H ∧ Q (.int a) H) ∨ (J.go i H ∧ ∃ N : Int → Hp → Prop, (∀ a' H', N a' H' → ∃ m', m' < m ∧ W (i + 1) m' a' H') ∧
      ∀ x H', J.yld i H x H' → g x σg H' fun σ2 H2 => tt σ2 H2 fun b H3 => if b = true then te σ2 H3 fun v H5 => ∃ b, v = V.int b ∧ N (a + b) H5 else N a H3) := by
  intro H2 tb
  refine ⟨fun i m a H => m = n - i ∧ i ≤ n ∧ Pv i a H, ⟨n, by simp, Nat.zero_le _, h0 H2 tb⟩, ?_⟩
  rintro i m a H ⟨rfl, hi, p⟩
  have q := hG i a H hi p
  by_cases hlt : i < n
  · exact .inr ⟨w.goes i H hlt q, Pv (i + 1), fun a' H' p' => ⟨n - (i + 1), by omega, rfl, hlt, p'⟩, fun x H' y => hs i a x H H' hlt p (w.yields i H x H' hlt q y)⟩
  · obtain rfl : i = n := by omega
    exact .inl ⟨w.stops H q, hd a H p⟩
end
end GX

/-! ### sum of a generator expression of two fors -/
namespace GX
open PySem PySem.Spec PyProof.Rows L2 Cm
open Sem (wp)
abbrev e2 (tg elt iter tg1 iter1 cd : Expr) (scope : Scope) (pos : Pos) : Expr := .GeneratorExp elt [⟨tg, iter, [], 0⟩, ⟨tg1, iter1, [cd], 0⟩] scope pos
theorem compTurn_in (elt tg iter tg1 iter1 cd : Expr) (scope : Scope) (pos : Pos) (it acc : Value) (env : Env) :
    compTurn (e2 tg elt iter tg1 iter1 cd scope pos) 1 it acc env = (do
      standAt iter1.pos
      match ← pyNext it with
      | none => pure (.done .next)
      | some v =>
        letOwnedTupleGo tg1 it v
        assign tg1 env v
        let mut ok := true
        for c in [cd] do
          if ok then ok ← isTrue c env (eval c env)
        if ok then
          (do let v ← eval elt env; standAt elt.pos; let _ ← yieldOut env v)
        again (.compLoop (e2 tg elt iter tg1 iter1 cd scope pos) 1 it acc env)) := by rfl
theorem compTurn_out (elt tg iter tg1 iter1 cd : Expr) (scope : Scope) (pos : Pos) (it acc : Value) (env : Env) :
    compTurn (e2 tg elt iter tg1 iter1 cd scope pos) 0 it acc env = (do
      standAt iter.pos
      match ← pyNext it with
      | none => pure (.done .next)
      | some v =>
        letOwnedTupleGo tg it v
        assign tg env v
        let x ← eval iter1 env
        standAt iter1.pos
        let x ← foldedSetIterable iter1 env x
        let _ ← runOwn (.compStart (e2 tg elt iter tg1 iter1 cd scope pos) 1 (← holding [x] (pyIter x)) acc env) env
        again (.compLoop (e2 tg elt iter tg1 iter1 cd scope pos) 0 it acc env)) := by rfl
theorem eval_gen2 (tg elt iter tg1 iter1 cd : Expr) (scope : Scope) (pos : Pos) (env : Env) (hco : scope.isCoroutine = false) :
    eval (e2 tg elt iter tg1 iter1 cd scope pos) env = (do
      let xv ← eval iter env
      standAt iter.pos
      let yv ← genFold iter env xv
      let itv ← holding [yv] (pyIter yv)
      enterFrame
      let clo ← closureFor scope env
      let cdv ← genexprCode env pos (env.qual ++ "<genexpr>") scope
      let bv ← builtinsFor env.globals env.builtins
      let fenv ← newFunctionEnv scope env.globals clo [(".0", itv)] (env.qual ++ "<genexpr>.") none cdv none bv
      newGenerator (.compStart (e2 tg elt iter tg1 iter1 cd scope pos) 0 itv .none fenv) "<genexpr>" (env.qual ++ "<genexpr>")) := by
  show eval (.GeneratorExp elt [⟨tg, iter, [], 0⟩, ⟨tg1, iter1, [cd], 0⟩] scope pos) env = _
  rw [arm_eval_GeneratorExp]
  simp only [hco, Bool.false_eq_true, if_false]
  cases iter <;> rfl
theorem make2 {M : Model} {A : Around} {E : Value → Shared → Prop} {s : Shared} {env : Env} {tg elt iter tg1 iter1 cd : Expr} {scope : Scope} {cl : List (Str × Addr)} {pos : Pos} {Q : Value → Shared → Prop} (hco : scope.isCoroutine = false) (hclos : closureFor scope env = pure cl) (hcell : ∀ y ∈ scope.names, y.2 ≠ .cell) (h0 : scope.names.lookup (".0" : Str) = some NameKind.local) (hkind : scope.kind = .function) (hroom : A.depth < recursionLimit)
    (h : wpAny M A (eval iter env) (fun xv t1 => wpAny M A (pyIter xv) (fun itv t2 => t2.heap.NoLimit ∧ wpAny M A (genexprCode env pos (env.qual ++ "<genexpr>") scope) (fun cdv t3 => wpAny M A (builtinsFor env.globals env.builtins) (fun bv t4 => ∀ h', h'.Ns t4.heap.objs.size (fun y => if y = ".0" then some itv else none) → Heap.SameBut t4.heap.objs.size (t4.heap.push { cls := .type "frame", data := .dict #[] }) h' →
          Q (.ref h'.objs.size) { t4 with gens := t4.gens.push (.fresh (.compStart (e2 tg elt iter tg1 iter1 cd scope pos) 0 itv .none (genEnv scope cl t4.heap.objs.size cdv bv env))), toks := t4.toks + 1 + 1 + 1, heap := h'.push { cls := .type "generator", data := .fields #[.int t4.gens.size 0, .str "<genexpr>" (t4.toks + 1), .str (env.qual ++ "<genexpr>") (t4.toks + 1 + 1)] } }) E t3) E t2) E t1) E s)
    (hs : ∀ x, genFold iter env x = pure x) : wpAny M A (eval (e2 tg elt iter tg1 iter1 cd scope pos) env) Q E s := by
  rw [eval_gen2 _ _ _ _ _ _ _ _ _ hco, hclos]
  refine wpAny_bind (wpAny_mono h (fun xv t1 k1 => wpAny_bind (wpAny_standAt (wpAny_bind (wpAny_of_eq (hs xv) (wpAny_bind (wpAny_holding (wpAny_mono k1 (fun itv t2 k2 => ?_) fun _ _ e => e))))))) fun _ _ e => e)
  refine wpAny_bind (wpAny_enterFrame k2.1 hroom (wpAny_bind (wpAny_pure (wpAny_bind (wpAny_mono k2.2 (fun cdv t3 k3 => wpAny_bind (wpAny_mono k3 (fun bv t4 k4 => ?_) fun _ _ e => e)) fun _ _ e => e)))))
  have hbn : ∀ y ∈ ([((".0" : Str), itv)] : List (Str × Value)), scope.names.lookup y.1 = some NameKind.local := fun y hy => by
    rw [List.mem_singleton.mp hy]
    exact h0
  refine wpAny_bind (wpAny_newFunctionEnv hcell hbn (fun h' hn' hs' => ?_) hkind)
  have e : (fun y : Str => ([((".0" : Str), itv)] : List (Str × Value)).reverse.lookup y) = fun y : Str => if y = (".0" : Str) then some itv else none := funext fun y => by
    by_cases hy : y = ".0"
    · simp [hy]
    · have hb : (y == (".0" : Str)) = false := by simpa using hy
      simp [List.lookup, hb, hy]
  rw [e] at hn'
  simp only [newGenerator, newFields]
  exact wpAny_bind (wpAny_newGen (wpAny_bind (wpAny_mkText (wpAny_bind (wpAny_mkText (wpAny_newObj_type (k4 h' hn' hs') (by size_fits)))))))
def codeA (a : Int) : Nat := if 0 ≤ a then 2 * a.toNat + 1 else 2 * (-a).toNat
theorem codeA_pos (a : Int) : 0 < codeA a := by
  unfold codeA
  split <;> omega
theorem codeA_inj {a b : Int} (h : codeA a = codeA b) : a = b := by
  unfold codeA at h
  split at h <;> split at h <;> omega
abbrev inLoop (X : Cx) (tg elt iter tg1 iter1 cd : Expr) (scope : Scope) (pos : Pos) (it1 : Addr) (s4 : Shared) (code : Value) : Code :=
  .compLoop (e2 tg elt iter tg1 iter1 cd scope pos) 1 (.ref it1) .none (gEnv X scope s4.heap.objs.size code)
abbrev inFirst (X : Cx) (tg elt iter tg1 iter1 cd : Expr) (scope : Scope) (pos : Pos) (it1 : Addr) (s4 : Shared) (code : Value) : Code :=
  .compStart (e2 tg elt iter tg1 iter1 cd scope pos) 1 (.ref it1) .none (gEnv X scope s4.heap.objs.size code)
abbrev outLoop (X : Cx) (tg elt iter tg1 iter1 cd : Expr) (scope : Scope) (pos : Pos) (it : Addr) (s4 : Shared) (code : Value) : Code :=
  .compLoop (e2 tg elt iter tg1 iter1 cd scope pos) 0 (.ref it) .none (gEnv X scope s4.heap.objs.size code)
abbrev outFirst (X : Cx) (tg elt iter tg1 iter1 cd : Expr) (scope : Scope) (pos : Pos) (it : Addr) (s4 : Shared) (code : Value) : Code :=
  .compStart (e2 tg elt iter tg1 iter1 cd scope pos) 0 (.ref it) .none (gEnv X scope s4.heap.objs.size code)
/-- the generator's names -/
def LocG (X : Cx) (scope : Scope) (code : Value) (s4 : Shared) (ext : List Str) (σ : L2.St) (s : Shared) : Prop :=
  ∃ m, s.heap.Ns s4.heap.objs.size m ∧ ∀ (i : Nat) (x : Str) (v : V), (X.N ++ ext)[i]? = some x → σ[i]? = some (some v) → Vis scope x → ∃ u, RelV v u ∧ Look (gEnv X scope s4.heap.objs.size code) s.heap m x u
section
variable {X : Cx} {pins : List (Addr × Obj)} {σ : L2.St} {H4 : Hp} {s4 : Shared} {scope : Scope} {own : List (Str × Nat)} {ext : List Str} {tg elt iter tg1 iter1 cd : Expr} {code : Value} {fp sx fp1 : List Addr} {J J1 : It} {it it1 : Addr} {tn tn1 : Nat → Heap → Prop} {pos : Pos}
theorem LocG.kp {σ2 : L2.St} {H : Hp} {s s' : Shared} (h : LocG X scope code s4 ext σ2 s) (c : CO X fp sx s4 H4 H s) (kp : Kp sx s s') : LocG X scope code s4 ext σ2 s' := by
  obtain ⟨m, hn, hl⟩ := h
  have nL : s4.heap.objs.size ∉ sx := fun z => (c.sx _ z).2.2.1 rfl
  refine ⟨m, hn.at fun o e => kp.keep _ _ nL e, fun i x v e1 q2 e3 => ?_⟩
  obtain ⟨u, ru, lk⟩ := hl i x v e1 q2 e3
  refine ⟨u, ru, lk.imp id fun ⟨z1, cc, z2, ⟨o, z3, z4⟩⟩ => ⟨z1, cc, z2, o, kp.keep _ _ (fun z => ?_) z3, z4⟩⟩
  obtain ⟨o2, z5, z6⟩ := (c.sx _ z).1
  rw [z3] at z5
  cases z5
  exact z6 _ z4
theorem LocG.of {σ2 σ3 : L2.St} {H : Hp} {s : Shared} {B : Around} {ps : List (Addr × Obj)} (I : Inv (gCx X scope code fp s4 H4 B ext) ps σ3 H s) (w : ∀ (i : Nat) v, σ2[i]? = some (some v) → σ3[i]? = some (some v)) : LocG X scope code s4 ext σ2 s := by
  obtain ⟨m, hn, hl⟩ := I.loc
  exact ⟨m, hn, fun i x v e1 q2 e3 => hl i x v e1 (w i v q2) e3⟩
theorem inv_slots {σ1 σ2 : L2.St} {H : Hp} {s : Shared} {B : Around} {ps : List (Addr × Obj)} (I : Inv (gCx X scope code fp s4 H4 B ext) ps σ1 H s) (h : LocG X scope code s4 ext σ2 s) (hl : σ2.length = (X.N ++ ext).length) : Inv (gCx X scope code fp s4 H4 B ext) ps σ2 H s :=
  ⟨I.ok, I.os, I.bare, I.base, h, I.cell, I.free, I.freeC, I.pin, I.hok, hl⟩
/-- what yields: the total behind it -/
abbrev Wc : Nat → Nat → Int → Hp → Prop := fun i _ a _ => i = codeA a
abbrev Yc : Nat → Nat → Int → V → Hp → Prop := fun i m a y H => ∃ b, y = V.int b ∧ ∃ m', m' < m ∧ Wc (i + 1) m' (a + b) H
abbrev gY2 (X : Cx) (fp sx : List Addr) (s4 : Shared) (H4 : Hp) (SA : Addr) : Protocol := gYS X fp sx s4 H4 (fun _ _ => True) SA Wc Yc
abbrev gR2 (X : Cx) (fp sx : List Addr) (s4 : Shared) (H4 : Hp) (SA : Addr) (Dn : Int → Hp → Prop) : GenEnd := fun n s0 r s1 => r = .ok .next ∧ gES X fp sx s4 H4 SA Dn n s0 s1
theorem seg_in {Ag : Around} {SA : Addr} {fs : List Frame} {Dn : Int → Hp → Prop} (S : GSt X pins σ scope own ext tg code H4 s4 J fp it tn) (hB : (Ag.over (inLoop X tg elt iter tg1 iter1 cd scope pos it1 s4 code) fs).frames = some (gEnv X scope s4.heap.objs.size code :: X.stack)) (hBh : (Ag.over (inLoop X tg elt iter tg1 iter1 cd scope pos it1 s4 code) fs).handled = none)
    (hsp : splitAtGen fs = none) (hgu : fs.any Frame.guarded = false) {g1 : TG} {te : TE} {tt : TT}
    (hg : PG (gCx X scope code fp s4 H4 (Ag.over (inLoop X tg elt iter tg1 iter1 cd scope pos it1 s4 code) fs) ext) tg1 g1) (he : PE (gCx X scope code fp s4 H4 (Ag.over (inLoop X tg elt iter tg1 iter1 cd scope pos it1 s4 code) fs) ext) elt te)
    (hc : PT (gCx X scope code fp s4 H4 (Ag.over (inLoop X tg elt iter tg1 iter1 cd scope pos it1 s4 code) fs) ext) cd tt)
    (T1 : Turn X.prog X.w X.K tg1 J1 fp1 it1 tn1) {σb : L2.St} {vs1 : List Nat} (hσ : σb.length = (X.N ++ ext).length) {h0 : Heap}
    (f1 : ∀ b ∈ fp1, b ≠ s4.heap.objs.size ∧ b ∉ frs X.stack ∧ (b ∈ fp ∨ s4.heap.objs.size ≤ b) ∧ (∀ x c, (gEnv X scope s4.heap.objs.size code).cells.lookup x = some c → c ≠ b) ∧ b ∉ sx ∧ b ∉ fp) (pf : ∀ b ∈ fp, ∃ o, h0.get? b = some o ∧ ∀ v, o.data ≠ .cell v)
    (W1 : Nat → Nat → Int → Hp → Prop) (En : Nat → Int → Hp → Prop)
    (turn1 : ∀ j k a H, W1 j k a H → (J1.stop j H ∧ En k a H) ∨ (J1.go j H ∧ ∃ N : Int → Hp → Prop, (∀ a' H', N a' H' → ∃ k', k' < k ∧ W1 (j + 1) k' a' H') ∧
      ∀ x H', J1.yld j H x H' → g1 x σb H' fun σ3 H5 => wipe σ3 vs1 = σb ∧ tt σ3 H5 fun b H6 => if b = true then te σ3 H6 (fun v H7 => ∃ c, v = V.int c ∧ N (a + c) H7) else N a H6))
    (km : Nat) (fin : ∀ k n a H s0 s, k ≤ km → k < n → En k a H → TotAt SA a s0 → (∀ b ∈ sx, s.heap.get? b = s0.heap.get? b) → CO X fp sx s4 H4 H s → (∀ b ∈ fp, ∀ o, h0.get? b = some o → s.heap.get? b = some o) →
      Seg (model X.prog X.w) Ag (gR2 X fp sx s4 H4 SA Dn) (gY2 X fp sx s4 H4 SA) n s0 (inLoop X tg elt iter tg1 iter1 cd scope pos it1 s4 code) (leafOf (.ok .next)) fs s) :
    ∀ k n j a H s0 s, k ≤ km → k < n → W1 j k a H → TotAt SA a s0 → (∀ b ∈ sx, s.heap.get? b = s0.heap.get? b) → CO X fp sx s4 H4 H s → LocG X scope code s4 ext σb s → (∀ b ∈ fp, ∀ o, h0.get? b = some o → s.heap.get? b = some o) → tn1 j s.heap → (∀ b ∈ fp1, H b = none) →
      Seg (model X.prog X.w) Ag (gR2 X fp sx s4 H4 SA Dn) (gY2 X fp sx s4 H4 SA) n s0 (inLoop X tg elt iter tg1 iter1 cd scope pos it1 s4 code) ((model X.prog X.w).den (inLoop X tg elt iter tg1 iter1 cd scope pos it1 s4 code)) fs s := by
  intro k
  induction k using Nat.strongRecOn with
  | ind k ih =>
    intro n j a H s0 s hkm hk w0 a0 es c0 l0 p0 t0 n0
    have I0 := inv_slots (CO.inv S c0 hB hBh) l0 hσ
    have hpf : ∀ p ∈ pinsAt fp h0, p.1 ∈ fp ∧ h0.get? p.1 = some p.2 := fun p hp => of_pinsAt hp
    have I1 : Inv (gCx X scope code fp s4 H4 (Ag.over (inLoop X tg elt iter tg1 iter1 cd scope pos it1 s4 code) fs) ext) (pinsAt sx s.heap ++ pinsAt fp h0) σb H s := I0.pins_of fun p hp => (List.mem_append.mp hp).elim (fun z => I0.pin p (List.mem_append_right _ z)) fun z => by
      obtain ⟨hb, e⟩ := hpf p z
      obtain ⟨o, e2, d⟩ := pf p.1 hb
      rw [e] at e2
      cases e2
      exact ⟨p0 _ hb _ e, c0.fr _ hb, Nat.ne_of_lt (S.lt _ hb), I0.ok.exfs _ hb, d⟩
    have ff : ∀ {H' : Hp}, (∀ b ∈ fp1, H' b = none) → ∀ b ∈ fp1, FpOk (gCx X scope code fp s4 H4 (Ag.over (inLoop X tg elt iter tg1 iter1 cd scope pos it1 s4 code) fs) ext) (pinsAt sx s.heap ++ pinsAt fp h0) H' b := fun hn b hb => by
      obtain ⟨y1, y2, y3, y4, y5, y6⟩ := f1 b hb
      refine ⟨hn b hb, y1, y2, y3, y4, fun p hp z => ?_⟩
      have hp : p ∈ pinsAt sx s.heap ++ pinsAt fp h0 := by simpa [gCx] using hp
      rcases List.mem_append.mp hp with q | q
      · exact y5 (z ▸ (of_pinsAt q).1)
      · exact y6 (z ▸ (of_pinsAt q).1)
    show Seg _ Ag _ _ _ s0 _ ((compTurn (e2 tg elt iter tg1 iter1 cd scope pos) 1 (.ref it1) .none (gEnv X scope s4.heap.objs.size code)).onRaise (fun x => do noteFrame x (gEnv X scope s4.heap.objs.size code); theTreesLotGoes x)) fs s
    rw [compTurn_in, Sem.onRaise_eq_wrap]
    refine seg_bind_wrap (wpAny_standAt ?_)
    -- what holds behind anything that ran here
    have back : ∀ {H5 : Hp} {s5 : Shared} {σ5 : L2.St} {ps : List (Addr × Obj)}, Inv (gCx X scope code fp s4 H4 (Ag.over (inLoop X tg elt iter tg1 iter1 cd scope pos it1 s4 code) fs) ext) ((pinsAt sx s.heap ++ pinsAt fp h0) ++ ps) σ5 H5 s5 → (∀ b ∈ fp, H5 b = none) ∧ (∀ b ∈ fp, ∀ o, h0.get? b = some o → s5.heap.get? b = some o) ∧ CO X fp sx s4 H4 H5 s5 ∧ ∀ b ∈ sx, s5.heap.get? b = s0.heap.get? b := fun {H5 s5 σ5 ps} I5 => by
      have q1 : ∀ b ∈ fp, ∀ o, h0.get? b = some o → s5.heap.get? b = some o ∧ H5 b = none := fun b hb o e => by
        have z := I5.pin (b, o) (List.mem_append_right _ (List.mem_append_left _ (List.mem_append_right _ (mem_pinsAt hb e))))
        exact ⟨z.1, z.2.1⟩
      have q2 : ∀ b ∈ fp, H5 b = none := fun b hb => by
        obtain ⟨o, e, _⟩ := pf b hb
        exact (q1 b hb o e).2
      have I6 : Inv (gCx X scope code fp s4 H4 (Ag.over (inLoop X tg elt iter tg1 iter1 cd scope pos it1 s4 code) fs) ext) (pinsAt sx s.heap) σ5 H5 s5 := I5.pins_of fun p hp => I5.pin p (List.mem_append_right _ (List.mem_append_left _ (List.mem_append_left _ hp)))
      obtain ⟨c5, x5⟩ := c0.of_inv I6 q2
      exact ⟨q2, fun b hb o e => (q1 b hb o e).1, c5, fun b hb => (x5 b hb).trans (es b hb)⟩
    rcases turn1 j k a H w0 with ⟨stop, en⟩ | ⟨go, N, hN, step⟩
    · refine seg_bind_wrap (wpAny_mono (T1.done (gCx X scope code fp s4 H4 (Ag.over (inLoop X tg elt iter tg1 iter1 cd scope pos it1 s4 code) fs) ext) rfl rfl rfl rfl j _ s _ H (fun _ _ => False) I1 (ff n0) t0 stop) (fun r s1 hr => ?_) fun _ _ z => False.elim z)
      obtain ⟨rfl, I2⟩ := hr
      obtain ⟨_, b2, b3, b4⟩ := back (ps := []) (by simpa using I2)
      exact fin k n a H s0 s1 hkm hk en a0 b4 b3 b2
    · refine seg_bind_wrap (wpAny_mono (T1.item (gCx X scope code fp s4 H4 (Ag.over (inLoop X tg elt iter tg1 iter1 cd scope pos it1 s4 code) fs) ext) rfl rfl rfl rfl j _ s _ H (fun _ _ => False) I1 (ff n0) t0 go) (fun r s1 hr => ?_) fun _ _ z => False.elim z)
      obtain ⟨u, rfl, h1⟩ := hr
      refine seg_bind_wrap (wpAny_mono h1 (fun _ s2 h2 => ?_) fun _ _ z => False.elim z)
      obtain ⟨x, H2, I2, rx, y2, t2, f2⟩ := h2
      have I2p := I2.pinned (ff f2) (T1.obj _ _ t2)
      refine seg_bind_wrap (wpAny_mono (hg.run _ s2 _ H2 x u _ I2p rx (step x H2 y2)) (fun _ s3 h3 => ?_) fun _ _ z => False.elim z)
      obtain ⟨σ3, H3, I3, hw3, q3⟩ := h3
      simp only [List.forIn_cons, List.forIn_nil, if_true]
      refine seg_bind_wrap (wpAny_bind (wpAny_bind (wpAny_mono (hc.run _ s3 σ3 H3 _ I3 q3) (fun ok s4' h4 => ?_) fun _ _ z => False.elim z)))
      obtain ⟨H4', I4, q4⟩ := h4
      refine wpAny_pure (wpAny_pure ?_)
      have tail : ∀ {H5 : Hp} {s5 : Shared}, Inv (gCx X scope code fp s4 H4 (Ag.over (inLoop X tg elt iter tg1 iter1 cd scope pos it1 s4 code) fs) ext) ((pinsAt sx s.heap ++ pinsAt fp h0) ++ pinsAt fp1 s2.heap) σ3 H5 s5 → (∀ b ∈ fp1, H5 b = none) ∧ tn1 (j + 1) s5.heap ∧ LocG X scope code s4 ext σb s5 := fun {H5 s5} I5 => by
        have q1 : ∀ b ∈ fp1, ∀ o, s2.heap.get? b = some o → s5.heap.get? b = some o ∧ H5 b = none := fun b hb o e => by
          have z := I5.pin (b, o) (List.mem_append_right _ (List.mem_append_right _ (mem_pinsAt hb e)))
          exact ⟨z.1, z.2.1⟩
        refine ⟨fun b hb => ?_, T1.keep _ _ _ t2 fun b hb o e => (q1 b hb o e).1, LocG.of I5 fun i v e => ?_⟩
        · obtain ⟨o, e, _⟩ := T1.obj _ _ t2 b hb
          exact (q1 b hb o e).2
        · rw [← hw3] at e
          exact (wipe_some e).1
      cases ok with
      | false =>
        simp only [Bool.false_eq_true, if_false] at q4 ⊢
        obtain ⟨k', hk', w'⟩ := hN _ _ q4
        obtain ⟨_, b2, b3, b4⟩ := back I4
        obtain ⟨d1, d2, d3⟩ := tail I4
        exact seg_again rfl (ih k' hk' n (j + 1) a H4' s0 s4' (by omega) (by omega) w' a0 b4 b3 d3 b2 d2 d1)
      | true =>
        simp only [if_true] at q4 ⊢
        obtain ⟨n, rfl⟩ : ∃ y, n = y + 1 := ⟨n - 1, by omega⟩
        have hy : ∀ v, yieldOut (gEnv X scope s4.heap.objs.size code) v = yieldValue v := fun v => by
          have q : (gEnv X scope s4.heap.objs.size code).scope.isCoroutine = false := S.ok.co
          simp only [yieldOut, q, Bool.false_eq_true, if_false]
        simp only [hy]
        rw [Sem.bind_eq_wrap', Sem.bind_eq_wrap', Sem.wrap_wrap, Sem.wrap_wrap]
        refine seg_wrap (wpAny_mono (he.run _ s4' σ3 H4' _ I4 q4) (fun v s5 h5 => ?_) fun _ _ z => False.elim z)
        obtain ⟨y, H5, I5, ry, c, rfl, nx⟩ := h5
        obtain ⟨_, b2, b3, b4⟩ := back I5
        obtain ⟨d1, d2, d3⟩ := tail I5
        obtain ⟨k', hk', w'⟩ := hN _ _ nx
        have hc0 := codeA_pos (a + c)
        refine seg_at (seg_yield hsp rfl hgu ⟨.int c, codeA (a + c) - 1, k, a, H5, a0, ry, ⟨c, rfl, 0, by omega, by show _ - 1 + 1 = _; omega⟩, b3, trivial, b4, by omega, fun m' a' s' hm' e' at' kp => ?_⟩)
        have ea : a' = a + c := (codeA_inj (show codeA (a + c) = codeA a' by have e' : codeA (a + c) - 1 + 1 = codeA a' := e'; omega)).symm
        subst ea
        refine seg_again rfl (ih k' hk' n (j + 1) (a + c) H5 s' s' (by omega) (by omega) w' at' (fun _ _ => rfl) (b3.kp kp) (d3.kp b3 kp) (fun b hb o e => kp.keep b o (fun z => (b3.sx b z).2.2.2.2.1 hb) (b2 b hb o e)) (T1.keep _ _ _ d2 fun b hb o e => kp.keep b o (fun z => (f1 b hb).2.2.2.2.1 z) e) d1)
theorem seg_inFirst {Ag : Around} {fs : List Frame} (T1 : Turn X.prog X.w X.K tg1 J1 fp1 it1 tn1) {R : GenEnd} {Y : Protocol} {n : Nat} {s0 s : Shared} (t0 : tn1 0 s.heap)
    (loop : Seg (model X.prog X.w) Ag R Y n s0 (inLoop X tg elt iter tg1 iter1 cd scope pos it1 s4 code) ((model X.prog X.w).den (inLoop X tg elt iter tg1 iter1 cd scope pos it1 s4 code)) fs s) :
    Seg (model X.prog X.w) Ag R Y n s0 (inFirst X tg elt iter tg1 iter1 cd scope pos it1 s4 code) ((model X.prog X.w).den (inFirst X tg elt iter tg1 iter1 cd scope pos it1 s4 code)) fs s := by
  show Seg _ Ag _ _ _ s0 _ ((compStart (e2 tg elt iter tg1 iter1 cd scope pos) 1 (.ref it1) .none (gEnv X scope s4.heap.objs.size code)).onRaise (fun x => do noteFrame x (gEnv X scope s4.heap.objs.size code); standAt theWindowsPlace)) fs s
  unfold compStart
  rw [Sem.onRaise_eq_wrap]
  show Seg _ Ag _ _ _ s0 _ ((ask >>= _).wrap _ _ _ _) fs s
  refine seg_bind_wrap (wpAny_askSetting ?_)
  split
  · exact seg_again rfl loop
  · first
      | exact seg_bind_wrap (wpAny_rule (seg_bind_wrap (wpAny_standAt (seg_bind_wrap (T1.self _ 0 s _ _ t0 (seg_again rfl loop))))))
      | (refine seg_bind_wrap (wpAny_rule ?_); show Seg _ Ag _ _ _ s0 _ ((standAt iter1.pos >>= _).wrap _ _ _ _) fs s; exact seg_bind_wrap (wpAny_standAt (seg_bind_wrap (T1.self _ 0 s _ _ t0 (seg_again rfl loop)))))
theorem seg_outFirst {Ag : Around} (S : GSt X pins σ scope own ext tg code H4 s4 J fp it tn) {R : GenEnd} {Y : Protocol} {n : Nat} {s0 s : Shared} (t0 : tn 0 s.heap)
    (loop : Seg (model X.prog X.w) Ag R Y n s0 (outLoop X tg elt iter tg1 iter1 cd scope pos it s4 code) ((model X.prog X.w).den (outLoop X tg elt iter tg1 iter1 cd scope pos it s4 code)) [] s) :
    Seg (model X.prog X.w) Ag R Y n s0 (outFirst X tg elt iter tg1 iter1 cd scope pos it s4 code) ((model X.prog X.w).den (outFirst X tg elt iter tg1 iter1 cd scope pos it s4 code)) [] s := by
  show Seg _ Ag _ _ _ s0 _ ((compStart (e2 tg elt iter tg1 iter1 cd scope pos) 0 (.ref it) .none (gEnv X scope s4.heap.objs.size code)).onRaise (leaving (gEnv X scope s4.heap.objs.size code))) [] s
  unfold compStart
  rw [Sem.onRaise_eq_wrap]
  show Seg _ Ag _ _ _ s0 _ ((ask >>= _).wrap _ _ _ _) [] s
  refine seg_bind_wrap (wpAny_askSetting ?_)
  split
  · exact seg_again rfl loop
  · first
      | exact seg_bind_wrap (wpAny_rule (seg_bind_wrap (wpAny_standAt (seg_bind_wrap (S.turn.self _ 0 s _ _ t0 (seg_again rfl loop))))))
      | (refine seg_bind_wrap (wpAny_rule ?_); show Seg _ Ag _ _ _ s0 _ ((standAt iter.pos >>= _).wrap _ _ _ _) [] s; exact seg_bind_wrap (wpAny_standAt (seg_bind_wrap (S.turn.self _ 0 s _ _ t0 (seg_again rfl loop)))))
theorem seg_out {Ag : Around} {SA : Addr} {Dn : Int → Hp → Prop} {k0 : Nat} (S : GSt X pins σ scope own ext tg code H4 s4 J fp it tn) (hfr : Ag.frames = some X.stack) (hh : Ag.handled = none) (hrm : ∀ fs, fs = ([] : List Frame) ∨ (∃ k l p, fs = [.ret k none false l (outLoop X tg elt iter tg1 iter1 cd scope pos it s4 code) p []]) → ∀ c : Code, c.weight ≤ 1 → c.cUnits ≤ 3 → Room k0 (Ag.over c fs)) {g g1 : TG} {wi1 : TI} {te : TE} {tt : TT} {vs1 : List Nat}
    (hg : ∀ B, Room k0 B → PG (gCx X scope code fp s4 H4 B ext) tg g) (hi1 : ∀ B, Room k0 B → PI (gCx X scope code fp s4 H4 B ext) tg1 iter1 wi1) (hg1 : ∀ B, Room k0 B → PG (gCx X scope code fp s4 H4 B ext) tg1 g1) (he : ∀ B, Room k0 B → PE (gCx X scope code fp s4 H4 B ext) elt te) (hc : ∀ B, Room k0 B → PT (gCx X scope code fp s4 H4 B ext) cd tt)
    (hs1 : ∀ env x, foldedSetIterable iter1 env x = pure x)
    (W : Nat → Nat → Int → Hp → Prop)
    (turn : ∀ i m a H, W i m a H → (J.stop i H ∧ Dn a H) ∨ (J.go i H ∧ ∀ x H', J.yld i H x H' → g x (gS σ own ext) H' fun σ2 H2 => wi1 σ2 H2 fun J1 H5 => ∃ W1 : Nat → Nat → Int → Hp → Prop, (∃ k, k < m ∧ W1 0 k a H5) ∧
      ∀ j k a H, W1 j k a H → (J1.stop j H ∧ ∃ m', m' ≤ k ∧ W (i + 1) m' a H) ∨ (J1.go j H ∧ ∃ N : Int → Hp → Prop, (∀ a' H', N a' H' → ∃ k', k' < k ∧ W1 (j + 1) k' a' H') ∧
        ∀ x H', J1.yld j H x H' → g1 x (wipe σ2 vs1) H' fun σ3 H5 => wipe σ3 vs1 = wipe σ2 vs1 ∧ tt σ3 H5 fun b H6 => if b = true then te σ3 H6 (fun v H7 => ∃ c, v = V.int c ∧ N (a + c) H7) else N a H6))) :
    ∀ m n i a H s0 s, m < n → W i m a H → TotAt SA a s0 → (∀ b ∈ sx, s.heap.get? b = s0.heap.get? b) → CO X fp sx s4 H4 H s → tn i s.heap →
      Seg (model X.prog X.w) Ag (gR2 X fp sx s4 H4 SA Dn) (gY2 X fp sx s4 H4 SA) n s0 (outLoop X tg elt iter tg1 iter1 cd scope pos it s4 code) ((model X.prog X.w).den (outLoop X tg elt iter tg1 iter1 cd scope pos it s4 code)) [] s := by
  have hB : (Ag.over (outLoop X tg elt iter tg1 iter1 cd scope pos it s4 code) []).frames = some (gEnv X scope s4.heap.objs.size code :: X.stack) := by
    show pushEnvs [gEnv X scope s4.heap.objs.size code] (pushEnvs [] Ag.frames) = _
    rw [hfr]
    rfl
  have hBh : (Ag.over (outLoop X tg elt iter tg1 iter1 cd scope pos it s4 code) []).handled = none := hh
  have r0 := hrm [] (.inl rfl) (outLoop X tg elt iter tg1 iter1 cd scope pos it s4 code) (Nat.le_refl 1) (Nat.le_refl 3)
  intro m
  induction m using Nat.strongRecOn with
  | ind m ih =>
    intro n i a H s0 s hm w0 a0 es c0 t0
    have I0 := CO.inv S c0 hB hBh
    have ff : ∀ {H' : Hp}, (∀ b ∈ fp, H' b = none) → ∀ b ∈ fp, FpOk (gCx X scope code fp s4 H4 (Ag.over (outLoop X tg elt iter tg1 iter1 cd scope pos it s4 code) []) ext) (pinsAt sx s.heap) H' b := fun hn b hb => by
      refine ⟨hn b hb, Nat.ne_of_lt (S.lt b hb), I0.ok.exfs b hb, .inl hb, (I0.ok.exf b hb).2, fun p hp z => ?_⟩
      have q := (of_pinsAt (show p ∈ pinsAt sx s.heap by simpa [gCx] using hp)).1
      exact (c0.sx p.1 q).2.2.2.2.1 (z ▸ hb)
    show Seg _ Ag _ _ _ s0 _ ((compTurn (e2 tg elt iter tg1 iter1 cd scope pos) 0 (.ref it) .none (gEnv X scope s4.heap.objs.size code)).onRaise (leaving (gEnv X scope s4.heap.objs.size code))) [] s
    rw [compTurn_out, Sem.onRaise_eq_wrap]
    refine seg_bind_wrap (wpAny_standAt ?_)
    rcases turn i m a H w0 with ⟨stop, dn⟩ | ⟨go, step⟩
    · refine seg_bind_wrap (wpAny_mono (S.turn.done (gCx X scope code fp s4 H4 (Ag.over (outLoop X tg elt iter tg1 iter1 cd scope pos it s4 code) []) ext) rfl rfl rfl rfl i _ s _ H (fun _ _ => False) I0 (ff c0.fr) t0 stop) (fun r s1 hr => ?_) fun _ _ z => False.elim z)
      obtain ⟨rfl, I1⟩ := hr
      obtain ⟨c1, x1⟩ := c0.of_inv I1 c0.fr
      exact seg_end (.ok .next) ⟨rfl, a, H, a0, dn, c1, fun b hb => (x1 b hb).trans (es b hb)⟩
    · refine seg_bind_wrap (wpAny_mono (S.turn.item (gCx X scope code fp s4 H4 (Ag.over (outLoop X tg elt iter tg1 iter1 cd scope pos it s4 code) []) ext) rfl rfl rfl rfl i _ s _ H (fun _ _ => False) I0 (ff c0.fr) t0 go) (fun r s1 hr => ?_) fun _ _ z => False.elim z)
      obtain ⟨u, rfl, h1⟩ := hr
      refine seg_bind_wrap (wpAny_mono h1 (fun _ s2 h2 => ?_) fun _ _ z => False.elim z)
      obtain ⟨x, H2, I2, rx, y2, t2, f2⟩ := h2
      have I2p := I2.pinned (ff f2) (S.turn.obj _ _ t2)
      refine seg_bind_wrap (wpAny_mono ((hg _ r0).run _ s2 _ H2 x u _ I2p rx (step x H2 y2)) (fun _ s3 h3 => ?_) fun _ _ z => False.elim z)
      obtain ⟨σ3, H3, I3, q3⟩ := h3
      refine seg_bind_wrap (wpAny_mono ((hi1 _ r0).run _ s3 σ3 H3 _ I3 q3) (fun xv s5 h5 => ?_) fun _ _ z => False.elim z)
      refine seg_bind_wrap (wpAny_standAt ?_)
      refine seg_bind_wrap (wpAny_of_eq (hs1 _ xv) ?_)
      refine seg_bind_wrap (wpAny_holding (wpAny_mono h5 (fun itv s6 h6 => ?_) fun _ _ z => False.elim z))
      obtain ⟨it1, fp1, tn1, J1, H6, rfl, I6, T1, t6, f6, W1, ⟨k, hk, w1⟩, turn1⟩ := h6
      unfold runOwn
      rw [Sem.onRaise_eq_wrap, Sem.bind_eq_wrap', Sem.wrap_wrap, Sem.wrap_wrap]
      refine seg_call fun p => ?_
      have I6' := I6.unpinned
      have pf : ∀ b ∈ fp, ∃ o, s2.heap.get? b = some o ∧ ∀ v, o.data ≠ .cell v := S.turn.obj _ _ t2
      have q1 : ∀ b ∈ fp, ∀ o, s2.heap.get? b = some o → s6.heap.get? b = some o ∧ H6 b = none := fun b hb o e => by
        have z := I6.pin (b, o) (List.mem_append_right _ (List.mem_append_right _ (mem_pinsAt hb e)))
        exact ⟨z.1, z.2.1⟩
      have f6' : ∀ b ∈ fp, H6 b = none := fun b hb => by
        obtain ⟨o, e, _⟩ := pf b hb
        exact (q1 b hb o e).2
      obtain ⟨c6, x6⟩ := c0.of_inv I6' f6'
      suffices hs : ∀ (kk : Result → Sem PySem.Fin) (l : List Value), kk (.ok .next) = .pure (.again (outLoop X tg elt iter tg1 iter1 cd scope pos it s4 code)) →
          Seg (model X.prog X.w) Ag (gR2 X fp sx s4 H4 SA Dn) (gY2 X fp sx s4 H4 SA) n s0 (inFirst X tg elt iter tg1 iter1 cd scope pos it1 s4 code) ((model X.prog X.w).den (inFirst X tg elt iter tg1 iter1 cd scope pos it1 s4 code)) [.ret kk none false l (outLoop X tg elt iter tg1 iter1 cd scope pos it s4 code) p []] s6 from hs _ _ rfl
      intro kk l hkk
      have r1 := hrm _ (.inr ⟨kk, l, p, rfl⟩) (inLoop X tg elt iter tg1 iter1 cd scope pos it1 s4 code) (Nat.zero_le 1) (by first | exact Nat.le_refl 3 | exact Nat.zero_le 3 | exact (by decide : (1 : Nat) ≤ 3) | exact (by decide : (2 : Nat) ≤ 3))
      have T1 : Turn X.prog X.w X.K tg1 J1 fp1 it1 tn1 := T1
      refine seg_inFirst (X := X) T1 t6 (seg_in (vs1 := vs1) (σb := wipe σ3 vs1) (h0 := s2.heap) S ?_ ?_ rfl rfl (hg1 _ r1) (he _ r1) (hc _ r1) T1 ?_ ?_ pf W1 (fun k a H => ∃ m', m' ≤ k ∧ W (i + 1) m' a H) turn1 k ?_ k n 0 a H6 s0 s6 (Nat.le_refl k) (by omega) w1 a0 (fun b hb => (x6 b hb).trans (es b hb)) c6 ?_ (fun b hb o e => (q1 b hb o e).1) t6 (fun b hb => (f6 b hb).1))
      · show pushEnvs [] (pushEnvs [gEnv X scope s4.heap.objs.size code] Ag.frames) = _
        rw [hfr]
        rfl
      · show (marksOver [_] (Ag.handled, Ag.handled)).1 = none
        rw [hh]
        rfl
      · rw [wipe_length]
        exact I6.len
      · intro b hb
        obtain ⟨y0, y1, y2, y3, y4, y5⟩ := f6 b hb
        refine ⟨y1, y2, y3, y4, fun z => ?_, fun z => ?_⟩
        · obtain ⟨⟨o, e, _⟩, _⟩ := c0.sx b z
          exact y5 (b, o) (List.mem_append_right _ (List.mem_append_left _ (mem_pinsAt z e))) rfl
        · obtain ⟨o, e, _⟩ := pf b z
          exact y5 (b, o) (List.mem_append_right _ (List.mem_append_right _ (mem_pinsAt z e))) rfl
      · rintro k2 n2 a2 H7 s7 s8 hk2 hkn ⟨m', hm', w'⟩ a7 es7 c7 p7
        refine seg_leaf (.ok .next) ?_
        rw [hkk]
        exact seg_again rfl (ih m' (by omega) n2 (i + 1) a2 H7 s7 s8 (by omega) w' a7 es7 c7 (S.turn.keep _ _ _ t2 p7))
      · exact LocG.of I6 fun j v e => (wipe_some e).1
end
section
variable {X : Cx} {pins : List (Addr × Obj)} {σ : L2.St} {H : Hp} {s : Shared} {scope : Scope} {own : List (Str × Nat)} {ext : List Str} {tg elt iter tg1 iter1 cd : Expr} {pos p cpos : Pos} {c P : Addr} {wi wi1 : TI} {k : Nat} {g g1 : TG} {vs1 : List Nat} {te : TE} {tt : TT}
theorem room_over2 {Ag : Around} {it : Addr} {s4 : Shared} {code : Value} {fs : List Frame} {k : Nat} (hr : Room (k + 1) Ag) (h : fs = [] ∨ ∃ k l p, fs = [.ret k none false l (outLoop X tg elt iter tg1 iter1 cd scope pos it s4 code) p []]) {c : Code} (w1 : c.weight ≤ 1) (w2 : c.cUnits ≤ 3) : Room k (Ag.over c fs) := by
  have dp := hr.dp
  have un := hr.un
  rcases h with rfl | ⟨kk, l, p, rfl⟩
  · refine ⟨hr.hd, ?_, ?_⟩
    · show Ag.depth + frameCount [] + c.weight + 3 * k + 5 < _
      have e : frameCount [] = 0 := rfl
      rw [e]
      omega
    · show Ag.units + unitsOf [] + c.cUnits + 16 * k + 200 < _
      have e : unitsOf [] = 0 := rfl
      rw [e]
      omega
  · refine ⟨?_, ?_, ?_⟩
    · show (marksOver [_] (Ag.handled, Ag.handled)).1 = none
      rw [hr.hd]
      rfl
    · show Ag.depth + frameCount ([Frame.ret kk none false l (outLoop X tg elt iter tg1 iter1 cd scope pos it s4 code) p []].map Frame.where_) + c.weight + 3 * k + 5 < _
      have e : frameCount ([Frame.ret kk none false l (outLoop X tg elt iter tg1 iter1 cd scope pos it s4 code) p []].map Frame.where_) = 1 := rfl
      rw [e]
      omega
    · show Ag.units + unitsOf ([Frame.ret kk none false l (outLoop X tg elt iter tg1 iter1 cd scope pos it s4 code) p []].map Frame.where_) + c.cUnits + 16 * k + 200 < _
      have e : unitsOf ([Frame.ret kk none false l (outLoop X tg elt iter tg1 iter1 cd scope pos it s4 code) p []].map Frame.where_) = 3 := rfl
      rw [e]
      omega
theorem gen_eval2 {R : It → Hp → Prop} {Q' : Value → Shared → Prop} (hr : Room k X.A) (TB : GxR.TabB X.base X.mg c P) (hcode : X.env.code = .ref c) (G : GOk X.N X.env.scope scope own ext) (hi : PI X tg iter wi) (hs : ∀ v, genFold iter X.env v = pure v)
    (I : Inv X pins σ H s) (h : wi σ H fun J H1 => GxR.TabG H1 P ∧ R J H1)
    (hQ : ∀ (J : It) (fp : List Addr) (it : Addr) (tn : Nat → Heap → Prop) (H1 H4 : Hp) (s4 s5 : Shared) (code : Value) (ga : Addr) (gi : Nat), R J H1 → GxR.Tabbed P H1 H4 → GSt X pins σ scope own ext tg code H4 s4 J fp it tn → tn 0 s5.heap → CO X fp [ga] s4 H4 H4 s5 →
      s5.heap.IsGen ga gi → s5.gens[gi]? = some (.fresh (outFirst X tg elt iter tg1 iter1 cd scope pos it s4 code)) → Q' (.ref ga) s5) :
    wpAny (model X.prog X.w) X.A (eval (.GeneratorExp elt [⟨tg, iter, [], 0⟩, ⟨tg1, iter1, [cd], 0⟩] scope pos) X.env) Q' X.xe s := by
  refine make2 G.co (closure_ok (free_cells I G)) G.cell G.dot G.blk.kind hr.depth (thn (hi.run pins s σ H _ I h) fun xv s1 h1 => thn h1 fun itv s2 h2 => ?_) hs
  obtain ⟨it, fp, tn, J, H1, rfl, I2, T, t2, f2, ⟨ps, hP, ht⟩, q⟩ := h2
  have hPs : s2.heap.get? P = some { cls := .none, data := .fields ps } := I2.hok P _ hP
  have cdh : PySem.W.CodeHd s2.heap c P := TB.code.keeps fun b u e => I2.bk b u e
  have nP : ∀ b ∈ fp, b ≠ P := fun b hb z => by
    have z2 := (f2 b hb).1
    rw [z, hP] at z2
    cases z2
  refine ⟨I2.nolimit, ?_⟩
  have cont : ∀ (code : Value) (h3 : Heap) (tk : Nat) (more : Array Value), Heap.ExtBut P s2.heap h3 → h3.get? P = some { cls := .none, data := .fields (ps ++ more) } → TriplesOk (ps ++ more).toList →
      wpAny (model X.prog X.w) X.A (builtinsFor X.env.globals X.env.builtins) (fun bi s₄ => ∀ h', h'.Ns s₄.heap.objs.size (fun y => if y = ".0" then some (.ref it) else none) → Heap.SameBut s₄.heap.objs.size (s₄.heap.push { cls := .type "frame", data := .dict #[] }) h' →
          Q' (.ref h'.objs.size) { s₄ with
            gens := s₄.gens.push (.fresh (.compStart (.GeneratorExp elt [⟨tg, iter, [], 0⟩, ⟨tg1, iter1, [cd], 0⟩] scope pos) 0 (.ref it) .none (genEnv scope (cloFrom X.env.cells scope.names []) s₄.heap.objs.size code bi X.env))),
            toks := s₄.toks + 1 + 1 + 1,
            heap := h'.push { cls := .type "generator", data := .fields #[.int s₄.gens.size 0, .str "<genexpr>" (s₄.toks + 1), .str (X.env.qual ++ "<genexpr>") (s₄.toks + 1 + 1)] } }) X.xe { s2 with heap := h3, toks := tk } := by
    intro code h3 tk more hx h3P ht3
    have I4 := GxR.inv_tab (more := more) (h' := h3) (g' := s2.gens) (d' := s2.drawn) (t' := tk) I2 hP (fun b u hb e => hx b u hb e) h3P I2.bare
    obtain ⟨bm, ob, e1, e2, e3, e4, e5, e6, e7, e8⟩ := TB.bm
    refine wpAny_builtinsFor (m := X.mg) (by rw [I4.ok.glob]; exact I4.mod.glob.keeps I4.bk) e1 e2 (I4.bk _ _ e5) e6 e7 e8 ?_
    intro h' hn' hs'
    have keep1 : ∀ b o, h3.get? b = some o → h'.get? b = some o := fun b o e => hs'.extBut b o (Nat.ne_of_lt (Heap.lt_size e)) (Heap.get?_push_of_some _ e)
    have sz' : h'.objs.size = h3.objs.size + 1 := by rw [hs'.1, Heap.size_push]
    have keep5 : ∀ b o, h3.get? b = some o → (h'.push { cls := .type "generator", data := .fields #[.int s2.gens.size 0, .str "<genexpr>" (tk + 1), .str (X.env.qual ++ "<genexpr>") (tk + 1 + 1)] }).get? b = some o := fun b o e => Heap.get?_push_of_some _ (keep1 b o e)
    have f4 : ∀ b ∈ fp, FpOk X pins (upd H1 P (.tbl (ps ++ more))) b := fun b hb => ⟨by rw [upd_ne (nP b hb)]; exact (f2 b hb).1, (f2 b hb).2⟩
    have t4 : tn 0 h3 := T.keep _ _ _ t2 fun b hb o e => hx b o (nP b hb) e
    have lt : ∀ b ∈ fp, b < h3.objs.size := fun b hb => by
      obtain ⟨o, e, _⟩ := T.obj _ _ t4 b hb
      exact Heap.lt_size e
    have S : GSt X pins σ scope own ext tg code (upd H1 P (.tbl (ps ++ more))) { s2 with heap := h3, toks := tk } J fp it tn := ⟨I4, G, T, f4, lt⟩
    have nga : ∀ b, h3.objs.size ≤ b → upd H1 P (.tbl (ps ++ more)) b = none := fun b hb => I4.hok.fresh hb
    refine hQ J fp it tn H1 _ { s2 with heap := h3, toks := tk } _ code h'.objs.size s2.gens.size q ⟨⟨_, upd_same, ht3⟩, fun b hb => upd_ne hb⟩ S (T.keep _ _ _ t4 fun b hb o e => keep5 b o e) ⟨rfl, AllBare.push I2.bare rfl, Un.kept keep5, I4.hok.kept keep5, ⟨_, hn'.push _⟩, nga _ (Nat.le_refl _), fun b hb => (f4 b hb).1, fun b hb => ?_⟩ ?_ ?_
    · obtain rfl : b = h'.objs.size := by simpa using hb
      refine ⟨⟨_, Heap.get?_push_size _ rfl, fun v z => by cases z⟩, nga _ (by omega), ?_, fun z => ?_, fun z => ?_, ?_⟩
      · show h'.objs.size ≠ h3.objs.size
        omega
      · rcases List.mem_cons.mp (I4.stkSub _ z) with e | e
        · have z2 := I4.lt
          rw [← e] at z2
          have z3 : h'.objs.size < h3.objs.size := z2
          omega
        · exact I4.nofs (show h3.objs.size ≤ h'.objs.size by omega) e
      · have q5 : (h'.objs.size : Nat) < h3.objs.size := lt _ z
        omega
      · show h3.get? h'.objs.size = none
        cases e : h3.get? h'.objs.size with
        | none => rfl
        | some o =>
          have q5 : (h'.objs.size : Nat) < h3.objs.size := Heap.lt_size e
          omega
    · exact ⟨_, _, _, Heap.get?_push_size _ rfl, rfl, rfl, rfl⟩
    · exact Array.getElem?_push_size ..
  cases hf : codeAmong pos ps.toList with
  | none =>
    refine wpAny_genexprCodeX hcode (cdh.code hPs ht) (cdh.tab hPs) hf fun c' h' tk hx hge hlt hco' _ htab' _ => ?_
    obtain ⟨o1, vs, f1, tf, fl, tg', inF, tx, tt, op, _, _, _, _, _, _, _, _, _, htr, _⟩ := hco'
    exact cont _ h' tk _ hx htab'.2 htr
  | some cv =>
    refine wpAny_genexprCode_hit hcode (cdh.code hPs ht) hf ?_
    exact cont cv s2.heap s2.toks #[] (Heap.ExtBut.refl _ _) (by simpa using hPs) (by simpa using ht)
/-- sum over two fors -/
def tSum2 (P : Addr) (wi : TI) (g : TG) (wi1 : TI) (g1 : TG) (te : TE) (tt : TT) (own : List (Str × Nat)) (ext : List Str) (vs1 : List Nat) : TE := fun σ H Q => wi σ H fun J H1 => GxR.TabG H1 P ∧ ∀ H2, GxR.Tabbed P H1 H2 → ∃ W : Nat → Nat → Int → Hp → Prop, (∃ m, W 0 m 0 H2) ∧
  ∀ i m a H, W i m a H → (J.stop i H ∧ Q (.int a) H) ∨ (J.go i H ∧ ∀ x H', J.yld i H x H' → g x (gS σ own ext) H' fun σ2 H2 => wi1 σ2 H2 fun J1 H5 => ∃ W1 : Nat → Nat → Int → Hp → Prop, (∃ k, k < m ∧ W1 0 k a H5) ∧
      ∀ j k a H, W1 j k a H → (J1.stop j H ∧ ∃ m', m' ≤ k ∧ W (i + 1) m' a H) ∨ (J1.go j H ∧ ∃ N : Int → Hp → Prop, (∀ a' H', N a' H' → ∃ k', k' < k ∧ W1 (j + 1) k' a' H') ∧
        ∀ x H', J1.yld j H x H' → g1 x (wipe σ2 vs1) H' fun σ3 H5 => wipe σ3 vs1 = wipe σ2 vs1 ∧ tt σ3 H5 fun b H6 => if b = true then te σ3 H6 (fun v H7 => ∃ c, v = V.int c ∧ N (a + c) H7) else N a H6))
theorem pe_sum2 (hr : Room (k + 2) X.A) (hg : Gl X "sum") (hm : X.mg "sum" = none) (TB : GxR.TabB X.base X.mg c P) (hcode : X.env.code = .ref c) (G : GOk X.N X.env.scope scope own ext) (hi : PI X tg iter wi)
    (ht : ∀ (code : Value) (fp : List Addr) (s4 : Shared) (H4 : Hp) (B : Around), PG (gCx X scope code fp s4 H4 B ext) tg g) (hi1 : ∀ (code : Value) (fp : List Addr) (s4 : Shared) (H4 : Hp) (B : Around), Room k B → PI (gCx X scope code fp s4 H4 B ext) tg1 iter1 wi1) (ht1 : ∀ (code : Value) (fp : List Addr) (s4 : Shared) (H4 : Hp) (B : Around), PG (gCx X scope code fp s4 H4 B ext) tg1 g1) (he : ∀ (code : Value) (fp : List Addr) (s4 : Shared) (H4 : Hp) (B : Around), Room k B → PE (gCx X scope code fp s4 H4 B ext) elt te) (hc : ∀ (code : Value) (fp : List Addr) (s4 : Shared) (H4 : Hp) (B : Around), Room k B → PT (gCx X scope code fp s4 H4 B ext) cd tt)
    (hs1 : ∀ env x, foldedSetIterable iter1 env x = pure x := by intro _ _; rfl) (hb : bootBuiltins "sum" = some (.builtin "sum") := by decide +kernel)
    (hs : ∀ v, genFold iter X.env v = pure v := by intro _; rfl) (hst : starEach [.GeneratorExp elt [⟨tg, iter, [], 0⟩, ⟨tg1, iter1, [cd], 0⟩] scope pos] X.env = (false, eval (.GeneratorExp elt [⟨tg, iter, [], 0⟩, ⟨tg1, iter1, [cd], 0⟩] scope pos) X.env) :: starEach [] X.env := by rfl) :
    PE X (.Call (.Name "sum" p) [.GeneratorExp elt [⟨tg, iter, [], 0⟩, ⟨tg1, iter1, [cd], 0⟩] scope pos] [] cpos) (tSum2 P wi g wi1 g1 te tt own ext vs1) := by
  constructor
  intro pins s σ H Q I h
  refine wpAny_Call_Name_kw (ld_blt I hg hm hb (PyProof.Rows.callWith_builtin1 ?_ hst (by rfl)))
  rw [hst]
  show wpAny _ _ (spliced ((false, eval (.GeneratorExp elt [⟨tg, iter, [], 0⟩, ⟨tg1, iter1, [cd], 0⟩] scope pos) X.env) :: backTo cpos (starEach [] X.env))) _ _ s
  refine Calls.spliced_cons (gen_eval2 hr TB hcode G hi hs I h fun J fp it tn H1 H4 s4 s5 code ga gi q htab S t5 c5 hgen hgs => Calls.spliced_nil ?_)
  obtain ⟨W, ⟨m, w0⟩, turn⟩ := q H4 htab
  have rm : ∀ fs, fs = ([] : List Frame) ∨ (∃ k l p, fs = [.ret k none false l (outLoop X tg elt iter tg1 iter1 cd scope pos it s4 code) p []]) → ∀ c : Code, c.weight ≤ 1 → c.cUnits ≤ 3 → Room k (X.A.in1.in1.over c fs) := fun fs h c w1 w2 => room_over2 (room_in1 hr) h w1 w2
  refine call_function_tree F.kind_sum F.plain_sum F.entry_sum (F.args_sum1 _) ?_
  unfold Builtin.«sum»
  simp only [List.length_cons, List.length_nil]
  rw [if_neg (by decide)]
  refine wpAny_bind (wpAny_of_eq (show Builtin.Builtins.bindParams "sum" ["start"] 0 { } = pure [none] from rfl) ?_)
  refine wpAny_bind (wpAny_pyIter_gen hgen ?_)
  refine wpAny_bind (wpAny_mkInt ?_)
  refine wpAny_bind (wpAny_pure ?_)
  simp only [List.forIn_cons, List.forIn_nil]
  refine wpAny_bind (wpAny_bind (wpAny_bind (wpAny_isInstance (T := "int") (b := false) (typeIs_int _ _ _) PySem.sub_int_str ?_)))
  simp only [Bool.false_eq_true, if_false]
  refine wpAny_pure (wpAny_bind (wpAny_bind (wpAny_isInstance (T := "int") (b := false) (typeIs_int _ _ _) PySem.sub_int_bytes ?_)))
  simp only [Bool.false_eq_true, if_false]
  refine wpAny_pure (wpAny_bind (wpAny_bind (wpAny_isInstance (T := "int") (b := false) (typeIs_int _ _ _) PySem.sub_int_bytearray ?_)))
  simp only [Bool.false_eq_true, if_false]
  refine wpAny_pure (wpAny_pure ?_)
  refine wpAny_bind (wpAny_newObj_type ?_)
  have gaS : ga < s5.heap.objs.size := by
    obtain ⟨o, nm, qn, ho, _⟩ := hgen
    exact Heap.lt_size ho
  refine wpAny_pure ⟨plainId_quiet F.plain_sum_loop _, ?_⟩
  have hk : ∀ (b : Addr) (u : Obj), s5.heap.get? b = some u → (s5.heap.push { cls := .type "list", data := .seq #[.int 0 s5.toks] }).get? b = some u := fun b u e => Heap.get?_push_of_some _ e
  have hS : (s5.heap.push { cls := .type "list", data := .seq #[.int 0 s5.toks] }).get? s5.heap.objs.size = some { cls := .type "list", data := .seq #[.int 0 s5.toks] } := Heap.get?_push_size _ rfl
  have c6 := CO.more (s' := { s5 with heap := s5.heap.push { cls := .type "list", data := .seq #[.int 0 s5.toks] }, toks := s5.toks + 1 }) S c5 rfl c5.bare hk hS (fun v z => by cases z)
  have t6 : tn 0 (s5.heap.push { cls := .type "list", data := .seq #[.int 0 s5.toks] }) := S.turn.keep _ _ _ t5 fun b hb o e => hk b o e
  have hat : TotAt s5.heap.objs.size 0 { s5 with heap := s5.heap.push { cls := .type "list", data := .seq #[.int 0 s5.toks] }, toks := s5.toks + 1 } := ⟨_, _, hS⟩
  refine sum_walk (tq := fun _ _ => True) (W := Wc) (QD := fun a H' => Q (.int a) H') S hr.hd hr.depth (fun a t H' s' hb hc => EP_of (v := .int a) S hc ⟨t, rfl⟩ hb) m _ 0 0 (.inl rfl) hat ⟨?_, List.mem_cons_of_mem _ List.mem_cons_self, List.mem_cons_self, Nat.ne_of_lt gaS, ⟨H4, c6⟩, _, hgs, fun s' ta kp => ⟨rfl, ?_⟩⟩
  · obtain ⟨o, nm, qn, ho, r⟩ := hgen
    exact ⟨o, nm, qn, hk _ _ ho, r⟩
  have t7 : tn 0 s'.heap := S.turn.keep _ _ _ t6 fun b hb o e => kp.keep b o (fun z => (c6.sx b z).2.2.2.2.1 hb) e
  exact seg_outFirst (Ag := X.A.in1.in1) S t7 (seg_out (Ag := X.A.in1.in1) (vs1 := vs1) S S.inv.ok.frames hr.hd rm (fun _ _ => ht ..) (fun _ r => hi1 _ _ _ _ _ r) (fun _ _ => ht1 ..) (fun _ r => he _ _ _ _ _ r) (fun _ r => hc _ _ _ _ _ r) hs1 W turn m (m + 1) 0 0 H4 s' s' (Nat.lt_succ_self m) w0 ta (fun _ _ => rfl) (c6.kp kp) t7)
end
theorem pi_zipK {X : Cx} {K : PySem.W.Frag} {e e2 : Expr} {ta : TA} {p pos tpos : Pos} {elts : List Expr} {kk : Nat} (hg : Gl X "zip") (hm : X.mg "zip" = none) (ha : PA X [e, e2] ta) (hK : X.K = K := by rfl)
    (hs : starEach [e, e2] X.env = (false, eval e X.env) :: starEach [e2] X.env := by rfl) (hpl : (backTo pos (starEach [e2] X.env)).any (·.1) = false := by rfl) :
    PI X (.Tuple elts kk tpos) (.Call (.Name "zip" p) [e, e2] [] pos) (iZip K ta) := by
  subst hK
  exact pi_zip hg hm ha hs hpl
end GX

/-! ### own classes: made, their properties, their methods -/
namespace CL
open PySem PySem.Spec PyProof.Rows L2 Cm
/-- the class x at C has the __init__ st -/
def DnI (K : PySem.W.Frag) (mg : Str → Option Value) (x qual : Str) (C : Addr) (st : Stmt) (ps : List Str) : Prop := ∃ (g : Addr) (fd : FuncData), Mk K C g ∧ mg x = some (.ref C) ∧ Fun K "__init__" qual st g fd ∧ Binds K fd ps []
/-- the class at C has the property f -/
def DnP (K : PySem.W.Frag) (C : Addr) (f qual : Str) (st : Stmt) (ps : List Str) : Prop := ∃ (p g : Addr) (fd : FuncData), PropOf K C f p g ∧ Fun K f qual st g fd ∧ Binds K fd ps []
/-- the class at C has the method f -/
def DnM (K : PySem.W.Frag) (C : Addr) (f qual : Str) (st : Stmt) (ps : List Str) : Prop := ∃ (g : Addr) (fd : FuncData), Meth K C f g ∧ Fun K f qual st g fd ∧ Binds K fd ps []
section
variable {K : PySem.W.Frag} {h : Heap} {mg : Str → Option Value} {x qual f : Str} {C p g : Addr} {st : Stmt} {ps : List Str} {oc kV doc pm cdv ct : Value} {od an : Option Addr} {sl : Array (Option Value)}
theorem dni_mk (X : K.In h) (G : h.Ns mainGlobals mg) (a : PySem.W.nsIn K mainGlobals x = some (some (.ref C))) (m : PySem.W.makesIn K C = true) (i : PySem.W.findIn K (.ref C) "__init__" = some (some (.ref g))) (t : PySem.W.isFn K (.ref g) = true) (kc : PySem.W.keepIn K (.ref C) = true)
    (l : K.lookup g = some ⟨oc, od, .func (PySem.W.fnOf "__init__" qual (defArgs st) (defBody st) (defScope st) .none kV doc pm an cdv ct), sl⟩) (c : PySem.W.codeIn K cdv qual = true) (k : PySem.W.keepIn K (.ref g) = true)
    (hb : ∀ (kV doc pm : Value) (an : Option Addr) (cdv ct : Value) (us : List Value), us.length = ps.length → bindArgs (PySem.W.fnOf "__init__" qual (defArgs st) (defBody st) (defScope st) .none kV doc pm an cdv ct) ⟨us, []⟩ = pure (ps.zip us)) : DnI K mg x qual C st ps :=
  ⟨g, _, ⟨m, i, t, kc⟩, PySem.W.mg_of X G a, fun_mk l c k, (fun_mk l c k).binds hb⟩
theorem dnp_mk (a : PySem.W.findIn K (.ref C) f = some (some (.ref p))) (b : PySem.W.specialIn K (.ref p) "__get__" = some (some (.builtin "property.__get__"))) (t : PySem.W.takesIn K (.ref p) = some true) {rest : List Value} (r : PySem.W.recIn K p "property" = some (.ref g :: rest))
    (l : K.lookup g = some ⟨oc, od, .func (PySem.W.fnOf f qual (defArgs st) (defBody st) (defScope st) .none kV doc pm an cdv ct), sl⟩) (c : PySem.W.codeIn K cdv qual = true) (k : PySem.W.keepIn K (.ref g) = true)
    (hb : ∀ (kV doc pm : Value) (an : Option Addr) (cdv ct : Value) (us : List Value), us.length = ps.length → bindArgs (PySem.W.fnOf f qual (defArgs st) (defBody st) (defScope st) .none kV doc pm an cdv ct) ⟨us, []⟩ = pure (ps.zip us)) : DnP K C f qual st ps :=
  ⟨p, g, _, ⟨a, b, t, _, r⟩, fun_mk l c k, (fun_mk l c k).binds hb⟩
theorem dnm_mk (a : PySem.W.findIn K (.ref C) f = some (some (.ref g))) (t : PySem.W.isFn K (.ref g) = true)
    (l : K.lookup g = some ⟨oc, od, .func (PySem.W.fnOf f qual (defArgs st) (defBody st) (defScope st) .none kV doc pm an cdv ct), sl⟩) (c : PySem.W.codeIn K cdv qual = true) (k : PySem.W.keepIn K (.ref g) = true)
    (hb : ∀ (kV doc pm : Value) (an : Option Addr) (cdv ct : Value) (us : List Value), us.length = ps.length → bindArgs (PySem.W.fnOf f qual (defArgs st) (defBody st) (defScope st) .none kV doc pm an cdv ct) ⟨us, []⟩ = pure (ps.zip us)) : DnM K C f qual st ps :=
  ⟨g, _, ⟨a, t, k⟩, fun_mk l c k, (fun_mk l c k).binds hb⟩
end
section
variable (P : Program) (w : World) (K : PySem.W.Frag) (mg : Str → Option Value) (base : Heap) (CX : CXT) (k : Nat)
def OkI (x : Str) (C : Addr) (ps : List Str) (sp : Sp) : Prop := ∃ (g : Addr) (fd : FuncData), FnOk P w K mg base CX k g fd ps sp ∧ Mk K C g ∧ mg x = some (.ref C) ∧ Binds K fd ps []
def OkP (C : Addr) (f : Str) (ps : List Str) (sp : Sp) : Prop := ∃ (p g : Addr) (fd : FuncData), FnOk P w K mg base CX k g fd ps sp ∧ PropOf K C f p g ∧ Binds K fd ps []
def OkM (C : Addr) (f : Str) (ps : List Str) (sp : Sp) : Prop := ∃ (g : Addr) (fd : FuncData), FnOk P w K mg base CX k g fd ps sp ∧ Meth K C f g ∧ Binds K fd ps []
end
section
variable {P : Program} {w : World} {K : PySem.W.Frag} {mg : Str → Option Value} {base : Heap} {CX : CXT} {k : Nat} {x f qual : Str} {C : Addr} {st : Stmt} {ps : List Str} {sp : Sp}
theorem oki_of (d : DnI K mg x qual C st ps) (h : ∀ g fd, Fun K "__init__" qual st g fd → FnOk P w K mg base CX k g fd ps sp) : OkI P w K mg base CX k x C ps sp := by
  obtain ⟨g, fd, M, hm, F, b⟩ := d
  exact ⟨g, fd, h g fd F, M, hm, b⟩
theorem okp_of (d : DnP K C f qual st ps) (h : ∀ g fd, Fun K f qual st g fd → FnOk P w K mg base CX k g fd ps sp) : OkP P w K mg base CX k C f ps sp := by
  obtain ⟨p, g, fd, hp, F, b⟩ := d
  exact ⟨p, g, fd, h g fd F, hp, b⟩
theorem okm_of (d : DnM K C f qual st ps) (h : ∀ g fd, Fun K f qual st g fd → FnOk P w K mg base CX k g fd ps sp) : OkM P w K mg base CX k C f ps sp := by
  obtain ⟨g, fd, hp, F, b⟩ := d
  exact ⟨g, fd, h g fd F, hp, b⟩
end
section
variable {X : Cx} {CX : CXT} {k : Nat} {C : Addr} {ps : List Str} {sp : Sp} {E : XK} {Es : L2.St → XK} {x f : Str} {p pos apos : Pos} {e : Expr} {es : List Expr} {ta : TE} {t : TA}
/-- e.f, a property -/
theorem pe_propO (he : PE X e ta) (c : Cls X.K C) (G : OkP X.prog X.w X.K X.mg X.base CX k C f ps sp) (hr : Room (k + 1) X.A) (hx : Passes CX X.nox E) (hab : attributeBase e f X.env (eval e X.env) = eval e X.env := by rfl) :
    PE X (.Attribute e f pos) (tProp C sp [] E ta) := by
  obtain ⟨p, g, fd, F, hp, b⟩ := G
  exact pe_prop he c hp F hr b .nil hx hab
/-- C(e, ..) -/
theorem pe_makeO (G : OkI X.prog X.w X.K X.mg X.base CX k x C ps sp) (hr : Room (k + 1) X.A) (hx : Passes CX X E) (ha : PA X (e :: es) t) (hg : Gl X x := by rfl)
    (hdb : (x == ("__debug__" : Str)) = false := by decide) (he : starEach (e :: es) X.env = (false, eval e X.env) :: starEach es X.env := by rfl) (hpl : (backTo pos (starEach es X.env)).any (·.1) = false := by rfl) :
    PE X (.Call (.Name x p) (e :: es) [] pos) (tMake C sp [] E t) := by
  obtain ⟨g, fd, F, M, hm, b⟩ := G
  exact pe_make M F hr hg hm b .nil hx ha hdb he hpl
/-- C(e, ..) where what it raises is wished for at the slots -/
def tMakeT (C : Addr) (sp : Sp) (Es : L2.St → XK) (t : TA) : TE := fun σ H Q => t σ H fun vs Hm => ∀ o d, Hm o = none → Hm d = none → d ≠ o →
  sp (.ref o :: vs) (upd (upd Hm d (.own o)) o (.ins C d [])) (fun v He => v = .non ∧ Q (.ref o) He) (Es σ)
theorem make_at {pins : List (Addr × Obj)} {σ : L2.St} {Hm : Hp} {sm : Shared} {Q : VK} {us : List Value} {vs : List V} {g : Addr} {fd : FuncData} (M : Mk X.K C g) (F : FnOk X.prog X.w X.K X.mg X.base CX k g fd ps sp) (hr : Room (k + 1) X.A) (hb : Binds X.K fd ps [])
    (px : PassesAt CX X σ (Es σ)) (J : Inv X pins σ Hm sm) (r : Vals vs us)
    (want : ∀ o d, Hm o = none → Hm d = none → d ≠ o → sp (.ref o :: vs) (upd (upd Hm d (.own o)) o (.ins C d [])) (fun v He => v = .non ∧ Q (.ref o) He) (Es σ)) :
    wpAny (model X.prog X.w) X.A (call (.ref C) us) (EP X pins σ Q) X.xe sm := by
  have n0 := J.hok.fresh (Nat.le_refl sm.heap.objs.size)
  have n1 := J.hok.fresh (Nat.le_succ sm.heap.objs.size)
  have wh := want _ _ n1 n0 (Nat.ne_of_lt (Nat.lt_succ_self _))
  have Jm := Inv.made (C := C) J
  have rr : Vals (V.ref (sm.heap.objs.size + 1) :: vs) (Value.ref (sm.heap.objs.size + 1) :: us) := .cons rfl r
  have len : (Value.ref (sm.heap.objs.size + 1) :: us).length = ps.length := by rw [← rr.length]; exact F.len _ _ _ _ wh
  have bd := hb _ (Value.ref (sm.heap.objs.size + 1) :: us) Jm.kIn (by rw [List.append_nil]; exact len)
  rw [List.append_nil] at bd
  have go := F.run _ X.stack _ _ ⟨Value.ref (sm.heap.objs.size + 1) :: us, []⟩ _ _ _ (Es σ) (hr.make C us []) (Jm.env0.make C us []) bd rr wh
  refine wpAny_call (make_map (f := g) J.kIn M.makes M.init (beq_iff_eq.mp M.fn) (codeAny_mono go fun res se got => ?_))
  match res, got with
  | .error er, got => exact px pins _ _ er se Jm got
  | .ok (.ret u), got =>
    obtain ⟨v, He, Je, rv, ev, qe⟩ := Jm.after got
    cases ev
    exact ⟨rv, ⟨V.ref (sm.heap.objs.size + 1), He, Je, rfl, qe⟩⟩
  | .ok .next, got => exact got.elim
  | .ok .brk, got => exact got.elim
  | .ok .cont, got => exact got.elim
theorem pe_makeT (G : OkI X.prog X.w X.K X.mg X.base CX k x C ps sp) (hr : Room (k + 1) X.A) (px : ∀ σ, PassesAt CX X σ (Es σ)) (ha : PA X (e :: es) t) (hg : Gl X x := by rfl)
    (hdb : (x == ("__debug__" : Str)) = false := by decide) (he : starEach (e :: es) X.env = (false, eval e X.env) :: starEach es X.env := by rfl) (hpl : (backTo pos (starEach es X.env)).any (·.1) = false := by rfl) :
    PE X (.Call (.Name x p) (e :: es) [] pos) (tMakeT C sp Es t) := by
  obtain ⟨g, fd, F, M, hm, b⟩ := G
  constructor
  intro pins sm σ Hm Q J want
  refine wpAny_Call_Name_kw (ld_glob J hg hm ?_ hdb)
  refine PySem.W.callWith_K (h₀ := X.base) J.ok.mod.kin M.kp ?_ he hpl
  refine thn (ha.run pos pins sm σ Hm _ J want) fun us sn ⟨vs, Hn, Jn, r, wn⟩ => ?_
  exact ⟨Jn.kIn, make_at M F hr b (px σ) Jn r wn⟩
end
end CL

/-! ### three comparisons in a row -/
namespace CH3
open PySem PySem.Spec PyProof.Rows L2 Cm
open Sem (wp)
variable {X : Cx} {a b c d : Expr} {pos : Pos} {ta tb tc td : TE}
/-- the rest of a row, from its second comparison on: y stands to its left -/
def tRest (r2 r3 : R2) (tc td : TE) (y : V) : TE := fun σ H Q => tc σ H fun u H4 => r2 y u H4 fun z H5 => ∃ k, z = V.bl k ∧ (if k = true then td σ H5 fun v H6 => r3 u v H6 Q else Q (.bl false) H5)
def tThree (r1 r2 r3 : R2) (ta tb tc td : TE) : TE := fun σ H Q => ta σ H fun x H1 => tb σ H1 fun y H2 => r1 x y H2 fun z H3 => ∃ k, z = V.bl k ∧ (if k = true then tRest r2 r3 tc td y σ H3 Q else Q (.bl false) H3)
theorem pe_three {op1 op2 op3 : CmpOp} {r1 r2 r3 : R2} (h1 : OpR X (compareOp op1) r1) (h2 : OpR X (compareOp op2) r2) (h3 : OpR X (compareOp op3) r3) (ha : PE X a ta) (hb : PE X b tb) (hc : PE X c tc) (hd : PE X d td)
    (hm : lastMarks [op1, op2, op3] [b, c, d] = false := by with_unfolding_all rfl) : PE X (.Compare a [op1, op2, op3] [b, c, d] pos) (tThree r1 r2 r3 ta tb tc td) := by
  constructor
  intro pins s σ H Q I h
  refine Compare_chain ?_ hm
  refine thn (ha.run pins s σ H _ I h) ?_
  rintro v s1 ⟨x, H1, I1, e1, q1⟩
  refine chain_link ?_
  refine thn (hb.run pins s1 σ H1 _ I1 q1) ?_
  rintro u s2 ⟨y, H2, I2, e2, q2⟩
  refine thn (h1 pins s2 σ H2 x y v u _ I2 e1 e2 q2) ?_
  rintro _ s3 ⟨z, H3, I3, e3, k, rfl, q3⟩
  cases e3
  refine wpAny_truthy_bool ?_
  cases k
  · exact ite_ff ⟨.bl false, H3, I3, rfl, q3⟩
  refine ite_tt (chain_link ?_)
  refine thn (hc.run pins s3 σ H3 _ I3 q3) ?_
  rintro u4 s4 ⟨y4, H4, I4, e4, q4⟩
  refine thn (h2 pins s4 σ H4 y y4 u u4 _ I4 e2 e4 q4) ?_
  rintro _ s5 ⟨z5, H5, I5, e5, k, rfl, q5⟩
  cases e5
  refine wpAny_truthy_bool ?_
  cases k
  · exact ite_ff ⟨.bl false, H5, I5, rfl, q5⟩
  refine ite_tt (chain_last ?_)
  refine thn (hd.run pins s5 σ H5 _ I5 q5) ?_
  rintro u6 s6 ⟨y6, H6, I6, e6, q6⟩
  exact h3 pins s6 σ H6 y4 y6 u4 u6 Q I6 e4 e6 q6
theorem pt_three {op1 op2 op3 : CmpOp} {r1 r2 r3 : R2} (h1 : OpR X (compareOp op1) r1) (h2 : OpR X (compareOp op2) r2) (h3 : OpR X (compareOp op3) r3) (ha : PE X a ta) (hb : PE X b tb) (hc : PE X c tc) (hd : PE X d td)
    (hm : lastMarks [op1, op2, op3] [b, c, d] = false := by with_unfolding_all rfl) : PT X (.Compare a [op1, op2, op3] [b, c, d] pos) (tTest (tThree r1 r2 r3 ta tb tc td)) := by
  constructor
  intro pins s σ H Q I h
  refine isTrue_chain ?_ hm
  refine thn (ha.run pins s σ H _ I h) ?_
  rintro v s1 ⟨x, H1, I1, e1, q1⟩
  refine test_link ?_
  refine thn (hb.run pins s1 σ H1 _ I1 q1) ?_
  rintro u s2 ⟨y, H2, I2, e2, q2⟩
  refine thn (h1 pins s2 σ H2 x y v u _ I2 e1 e2 q2) ?_
  rintro _ s3 ⟨z, H3, I3, e3, k, rfl, q3⟩
  cases e3
  refine wpAny_truthy_bool ?_
  cases k
  · obtain ⟨k', e', q'⟩ := q3
    cases e'
    exact ite_ff ⟨H3, I3, q'⟩
  refine ite_tt (test_link ?_)
  refine thn (hc.run pins s3 σ H3 _ I3 q3) ?_
  rintro u4 s4 ⟨y4, H4, I4, e4, q4⟩
  refine thn (h2 pins s4 σ H4 y y4 u u4 _ I4 e2 e4 q4) ?_
  rintro _ s5 ⟨z5, H5, I5, e5, k, rfl, q5⟩
  cases e5
  refine wpAny_truthy_bool ?_
  cases k
  · obtain ⟨k', e', q'⟩ := q5
    cases e'
    exact ite_ff ⟨H5, I5, q'⟩
  refine ite_tt (test_last ?_)
  refine thn (hd.run pins s5 σ H5 _ I5 q5) ?_
  rintro u6 s6 ⟨y6, H6, I6, e6, q6⟩
  refine thn (h3 pins s6 σ H6 y4 y6 u4 u6 _ I6 e4 e6 q6) ?_
  rintro _ s7 ⟨z7, H7, I7, e7, k, rfl, q7⟩
  cases e7
  exact wpAny_truthy_bool ⟨H7, I7, q7⟩
/-- three tests of ints -/
theorem three {p q r : Prop} [Decidable p] [Decidable q] [Decidable r] {A B : Prop} (h1 : p ∧ q ∧ r → A) (h2 : ¬ (p ∧ q ∧ r) → B) : if (decide (p ∧ q ∧ r)) = true then A else B := by
  by_cases h : p ∧ q ∧ r
  · rw [if_pos (decide_eq_true h)]
    exact h1 h
  · rw [if_neg (by simpa using h)]
    exact h2 h
end CH3

/-! ### a tuple target, the written part named -/
namespace TK
open PySem PySem.Spec PyProof.Rows L2 Cm
theorem pg_tupK {X : Cx} {K : PySem.W.Frag} {es : List Expr} {k : Nat} {pos : Pos} {t : TGs} {n : Nat} (hK : X.K = K) (hc : X.calm = true) (h : PGs X es t)
    (hn : (assignEach es X.env).length = n := by rfl) (hst : (assignEach es X.env).findIdx? (·.1) = none := by rfl) : PG X (.Tuple es k pos) (gTup K n t) := by
  subst hK
  exact pg_tup hc h hn hst
theorem op_notInK {X : Cx} {K : PySem.W.Frag} (h : X.K = K := by rfl) : OpR X (compareOp .NotIn) (rIn K true) := by
  subst h
  exact op_notIn_seq
theorem op_inK {X : Cx} {K : PySem.W.Frag} (h : X.K = K := by rfl) : OpR X (compareOp .In) (rIn K false) := by
  subst h
  exact op_in_seq
def rListOf (K : PySem.W.Frag) : List V → Hp → VK → Prop := fun xs H Q => ∃ p ys, xs = [.ref p] ∧ (SqL K H p ys ∨ SqT K H p ys) ∧ ∀ l, H l = none → Q (.ref l) (upd H l (.lst ys))
theorem call_list_ofK {X : Cx} {K : PySem.W.Frag} (h : X.K = K := by rfl) (hc : X.calm = true := by rfl) : CallR X (.type "list") (rListOf K) := by
  subst h
  exact call_list_of
theorem pi_listK {X : Cx} {K : PySem.W.Frag} {tg e : Expr} {te : TE} (he : PE X e te) (h : X.K = K := by rfl) : PI X tg e (iList K te) := by
  subst h
  exact pi_list he
end TK

/-! ### a starred item, the written part named (wants HandS.Star) -/
namespace TK
open PySem PySem.Spec PyProof.Rows L2 Cm
theorem pa_starK {X : Cx} {K : PySem.W.Frag} {e : Expr} {es : List Expr} {te : TE} {t : TA} {p : Pos} (he : PE X e te) (hr : PA X es t) (h : X.K = K := by rfl) (hs : starEach (.Starred e p :: es) X.env = (true, eval e X.env) :: starEach es X.env := by rfl) : PA X (.Starred e p :: es) (StX.tStar K te t) := by
  subst h
  exact StX.pa_star he hr hs
end TK

/-! ### for i, x in enumerate(xs, k) -/
namespace ES
open PySem PySem.Spec PyProof.Rows L2 Cm
/-- what such a loop goes over: pairs of a count from k0 on and the items of the list at a -/
def Ites (K : PySem.W.Frag) (a : Addr) (k0 : Int) : It where
  go i H := ∃ (xs : List V) (x : V), SqL K H a xs ∧ xs[i]? = some x
  yld i H v H' := ∃ T x, v = .ref T ∧ H T = none ∧ H' = upd H T (.tup [.int (k0 + (i : Nat)), x]) ∧ ∀ xs, SqL K H a xs → xs[i]? = some x
  stop i H := ∃ xs : List V, SqL K H a xs ∧ xs.length = i
def EsAt (a e it : Addr) (k0 : Int) (i : Nat) (h : Heap) : Prop := ((∃ old, IsEnum h e it (k0 + ((i : Nat) : Int)) old) ∧ h.IsListIter it a i) ∧ e ≠ it ∧ e ≠ a ∧ a ≠ it
theorem turn_enumS {P : Program} {w : World} {K : PySem.W.Frag} {elts : List Expr} {kk : Nat} {tpos : Pos} (a e it : Addr) (k0 : Int) : Turn P w K (.Tuple elts kk tpos) (Ites K a k0) [e, it] e (EsAt a e it k0) := by
  refine ⟨List.mem_cons_self, ?obj, ?keep, ?item, ?done, ?self⟩
  case obj =>
    rintro i h ⟨⟨⟨old, he⟩, oi, q1, q2, q3⟩, _⟩ b hb
    rcases List.mem_cons.mp hb with z | z
    · exact ⟨_, z ▸ he, fun v q => by cases q⟩
    · refine ⟨oi, (List.mem_singleton.mp z) ▸ q1, fun v q => ?_⟩
      rw [q3] at q
      cases q
  case keep =>
    rintro i h h' ⟨⟨⟨old, he⟩, hi⟩, hne⟩ k
    exact ⟨⟨⟨old, k e List.mem_cons_self _ he⟩, hi.at fun o q => k it (List.mem_cons_of_mem _ List.mem_cons_self) o q⟩, hne⟩
  case self =>
    rintro A i s Q E ⟨⟨⟨old, he⟩, _⟩, _⟩ h
    exact wpAny_pyIter_enum he h
  case item =>
    rintro X rfl rfl rfl hc i pins s σ H E I hf ⟨⟨hE, hit⟩, hne, hea, hai⟩ ⟨xs, x, hq, hx⟩
    obtain ⟨its, rv, p, _⟩ := I.list hq
    obtain ⟨u, hu, ru⟩ := rv.get hx
    have hd : X.A.in1.handled = none := I.ok.hd hc
    have walk := WalksT.enumFrom (prog := X.prog) (w := X.w) (A := X.A) k0 (Draws.list hd it a hai its.toArray) e hne (by simp [hne, hea]) (by simp)
    have hlt : i < its.toArray.size := by simpa using (List.getElem?_eq_some_iff.mp hu).1
    refine walk.item i s _ E hlt ⟨hE, hit, p.isList⟩ fun T vals h1 tk hP hT hIs hM hk1 => ?_
    obtain ⟨t, x1, hx1, rfl⟩ := hP
    have e1 : x1 = u := by
      have z : its.toArray[i]? = some u := by simpa using hu
      exact Option.some.inj (hx1.symm.trans z)
    subst e1
    refine ⟨_, rfl, walk.go elts kk tpos i T { s with heap := h1, toks := tk } _ E hM fun h2 hS hk2 => ?_⟩
    obtain ⟨o, ho, hcls, nn, hdt⟩ := hIs
    have hT2 := hk2 T o (walk.apart i T h1 hM) ho
    have both : ∀ b o, b ∉ [e, it] → s.heap.get? b = some o → h2.get? b = some o := fun b o hb q => hk2 b o hb (hk1 b o hb q)
    have nw : ObjOk X.prog X.w (upd H T (.tup [.int (k0 + (i : Nat)), x])) h2 T (.tup [.int (k0 + (i : Nat)), x]) := ⟨by show 2 ≤ sizeLine; decide, _, .cons ⟨_, rfl⟩ (.cons ru .nil), o, hT2, hcls, nn, hdt⟩
    refine ⟨.ref T, _, I.turnedNew (t' := tk) both hf hT nw, rfl, ⟨T, x, rfl, I.hok.fresh hT, rfl, fun ys hy => I.list_inj hy hq ▸ hx⟩, ⟨⟨hS.1, hS.2.1⟩, hne, hea, hai⟩, fun b hb => ?_⟩
    have hbl : b < s.heap.objs.size := by
      obtain ⟨old, he⟩ := hE
      obtain ⟨_, q, _⟩ := hit
      rcases List.mem_cons.mp hb with z | z
      · exact z ▸ Heap.lt_size he
      · exact (List.mem_singleton.mp z) ▸ Heap.lt_size q
    rw [upd_ne (Nat.ne_of_lt (Nat.lt_of_lt_of_le hbl hT))]
    exact (hf b hb).1
  case done =>
    rintro X rfl rfl rfl hc i pins s σ H E I hf ⟨⟨⟨old, he⟩, hit⟩, hne, hea, hai⟩ ⟨xs, hq, hx⟩
    obtain ⟨its, rv, p, _⟩ := I.list hq
    obtain ⟨n0, n1, _, n3, n4, n5⟩ := hf it (List.mem_cons_of_mem _ List.mem_cons_self)
    have hd : X.A.in1.handled = none := I.ok.hd hc
    have hs : its.toArray.size = i := by rw [List.size_toArray, ← rv.length, hx]
    refine wpAny_pyNext_enum_endD (Draws.list hd it a hai its.toArray) he ⟨by rw [hs]; exact hit, p.isList⟩ fun h1 eb => ⟨rfl, I.turned (t' := s.toks) (fun b o hb q => eb b o hb q) n0 n1 n3 n4 n5⟩
def iEnumS (K : PySem.W.Frag) (ta : TA) : TI := fun σ H R => ta σ H fun vs H1 => ∃ a xs k0, vs = [.ref a, .int k0] ∧ SqL K H1 a xs ∧ -(2 ^ 63) ≤ k0 ∧ k0 < 2 ^ 63 ∧ R (Ites K a k0) H1
theorem pi_enumS {X : Cx} {e e2 : Expr} {ta : TA} {p pos tpos : Pos} {elts : List Expr} {kk : Nat} (hg : Gl X "enumerate") (hm : X.mg "enumerate" = none) (ha : PA X [e, e2] ta) (hs : starEach [e, e2] X.env = (false, eval e X.env) :: starEach [e2] X.env := by rfl) (hpl : (backTo pos (starEach [e2] X.env)).any (·.1) = false := by rfl) :
    PI X (.Tuple elts kk tpos) (.Call (.Name "enumerate" p) [e, e2] [] pos) (iEnumS X.K ta) := by
  refine ⟨fun pins s σ H R I h => ?_⟩
  refine Call_ (ld_blt I hg hm boot_enumerate (PyProof.Rows.callWith_type1 (thn (ha.run pos pins s σ H _ I h) fun us s1 ⟨vs, H1, I1, r1, q1⟩ => ?_) hs hpl))
  obtain ⟨a, xs, k0, ex, hq, hk0, hk1, q⟩ := q1
  subst ex
  cases r1 with
  | cons r rr =>
    cases rr with
    | cons r2 rr2 =>
      cases rr2
      cases r
      obtain ⟨t2, rfl⟩ := r2
      obtain ⟨its, rv, p', hz⟩ := I1.list hq
      have hal : a < s1.heap.objs.size := by obtain ⟨_, q0, _⟩ := p'.isList; exact Heap.lt_size q0
      refine enum_begins (begins_list a its.toArray) p'.isList hk0 hk1 fun h' he hit hsz hk => wpAny_pyIter_enum he ?_
      have I2 : Inv X pins σ H1 { s1 with heap := h' } := I1.kept (t' := s1.toks) hk
      refine ⟨s1.heap.objs.size + 1, [s1.heap.objs.size + 1, s1.heap.objs.size], _, _, H1, rfl, I2, turn_enumS a (s1.heap.objs.size + 1) s1.heap.objs.size k0, ⟨⟨⟨.none, ?_⟩, _, hit, rfl, rfl⟩, Nat.succ_ne_self _, Nat.ne_of_gt (Nat.lt_succ_of_lt hal), Nat.ne_of_lt hal⟩, fun b hb => ?_, q⟩
      · rw [show k0 + ((0 : Nat) : Int) = k0 by omega]
        exact he
      have e' : b = s1.heap.objs.size + 1 ∨ b = s1.heap.objs.size := by simpa using hb
      have hle : s1.heap.objs.size ≤ b := by
        rcases e' with z | z
        · rw [z]; exact Nat.le_add_right _ _
        · rw [z]; exact Nat.le_refl _
      exact I1.fpOk hle (I1.hok.fresh hle)
theorem for_enumS {K : PySem.W.Frag} {a : Addr} {k0 : Int} {xs : List V} {g : TG} {tb : TS} {D : Ends} {σ : L2.St} {H : Hp} (Pv : Nat → L2.St → Hp → Prop) (h0 : Pv 0 σ H) (hl : ∀ i σ H, i ≤ xs.length → Pv i σ H → SqL K H a xs)
    (hs : ∀ i x T σ H, xs[i]? = some x → Pv i σ H → H T = none → g (.ref T) σ (upd H T (.tup [.int (k0 + (i : Nat)), x])) fun σ2 H2 => tb { D with nx := Pv (i + 1), ct := Pv (i + 1), bk := D.nx } σ2 H2) (hd : ∀ σ H, Pv xs.length σ H → D.nx σ H) :
    ∃ W : Nat → Nat → L2.St → Hp → Prop, (∃ m, W 0 m σ H) ∧ ∀ i m σ H, W i m σ H →
      ((Ites K a k0).stop i H ∧ D.nx σ H) ∨ ((Ites K a k0).go i H ∧ ∃ N : L2.St → Hp → Prop, (∀ σ' H', N σ' H' → ∃ m', m' < m ∧ W (i + 1) m' σ' H') ∧ ∀ x H', (Ites K a k0).yld i H x H' → g x σ H' fun σ2 H2 => tb { D with nx := N, ct := N, bk := D.nx } σ2 H2) := by
  refine ⟨fun i m σ H => m = xs.length - i ∧ i ≤ xs.length ∧ Pv i σ H, ⟨xs.length, by simp, Nat.zero_le _, h0⟩, ?_⟩
  rintro i m σ H ⟨rfl, hi, p⟩
  have q := hl i σ H hi p
  by_cases hlt : i < xs.length
  · refine .inr ⟨⟨xs, xs[i], q, by simp [hlt]⟩, Pv (i + 1), fun σ' H' p' => ⟨xs.length - (i + 1), by omega, rfl, hlt, p'⟩, fun x H' y => ?_⟩
    obtain ⟨T, z, rfl, hT, rfl, y⟩ := y
    exact hs i z T σ H (y xs q) p hT
  · have e : i = xs.length := by omega
    subst e
    exact .inl ⟨⟨xs, q, rfl⟩, hd σ H p⟩
end ES

/-! ### xs.extend(a tuple) -/
namespace ET
open PySem PySem.Spec PyProof.Rows L2 Cm
set_option maxRecDepth 8000 in
theorem list_extend_tup (l : Addr) (items : Array Value) (n : Nat) (b : Addr) (items2 : Array Value) (n2 : Nat) (dd : Option Addr) (sl : Array (Option Value)) (hs0 : ¬(!items.isEmpty && Builtin.List.listTooLong (items.size + items2.size)) = true) (hs1 : items.size ≤ sizeLine) (hs2 : items.size + items2.size ≤ sizeLine + 1) :
    Meets (Builtin.«list.extend» ⟨[.ref l, .ref b], []⟩) (fun _ R s => s.heap.get? l = some { cls := .type "list", dict := none, data := .seq items n, slots := #[] } ∧ s.heap.get? b = some { cls := .type "tuple", dict := dd, data := .seq items2 n2, slots := sl } ∧ R (.ok (.ret Value.none)) { s with heap := s.heap.update l (Obj.mapSeq fun x => x ++ items2), toks := s.toks }) :=
  .of_wp fun prog w A R s h => by
    obtain ⟨hp, g, d, tk, os⟩ := s; obtain ⟨hl, hb, h⟩ := h; have f1 := AutoSeq1.idx_int; have f2 := AutoSeq1.sub_tuple_tuple; have f3 := AutoSeq1.sub_list_list; have f4 := AutoSeq1.sub_tuple_list; have f5 := AutoSeq1.sub_list_tuple;
    have hz' : (items ++ items2).size ≤ sizeLine + 1 := by rw [Array.size_append]; exact hs2
    wp_walk using (wpAny_updateSeq hl rfl (hz := hs1) (_hz' := hz')), AutoSeq1.wpAny_loadPart' hl, AutoSeq1.wpAny_loadPart' hb; exact ⟨_, rfl, h⟩
def rExtT (K : PySem.W.Frag) : V → List V → Hp → VK → Prop := fun x vs H Q => ∃ l b xs zs, x = .ref l ∧ vs = [.ref b] ∧ H l = some (.lst xs) ∧ SqT K H b zs ∧ xs.length + zs.length ≤ sizeLine ∧ Q .non (upd H l (.lst (xs ++ zs)))
theorem mt_extendT {X : Cx} : MtM X "list.extend" (rExtT X.K) := by
  intro pins s σ H x vs v us Q I rx rv h
  obtain ⟨l, b, xs, zs, rfl, rfl, hH, hB, hz, q⟩ := h
  cases rx
  obtain ⟨u, rfl, ru⟩ := rv.one
  cases ru
  obtain ⟨z, its, n, r, hl, e⟩ := I.lstM hH
  obtain ⟨its2, r2, ⟨o, e2, hc, n2, hd⟩, z2⟩ := I.tuple hB
  have hl2 := r2.length
  have hsz : its.toArray.size + its2.toArray.size ≤ sizeLine := by rw [List.size_toArray, List.size_toArray]; omega
  have hlong : ¬ (!its.toArray.isEmpty && Builtin.List.listTooLong (its.toArray.size + its2.toArray.size)) = true := by
    rw [notLongL hsz, Bool.and_false]
    exact Bool.false_ne_true
  have e3 : s.heap.get? b = some { cls := .type "tuple", dict := o.dict, data := .seq its2.toArray n2, slots := o.slots } := by
    obtain ⟨c, d, da, sl⟩ := o
    cases hc
    cases hd
    exact e2
  refine call_meets PySem.F.slot_list_extend ⟨_, e, rfl⟩ PySem.F.entry_list_extend (PySem.F.args_list_extend_2 _ _)
    (list_extend_tup l its.toArray n b its2.toArray n2 o.dict o.slots hlong (by rw [List.size_toArray]; omega) (by omega)) ⟨e, e3, ?_⟩
  refine ⟨.non, _, I.lset (its' := its ++ its2) hH e (by simp) (r.append r2) ?_, rfl, q⟩
  rw [List.length_append]
  omega
end ET

/-! ### an own exception class over ValueError: def __init__(self, p): super().__init__(f'..{p}..'); self.f = p -/
namespace OE
open PySem PySem.Spec PyProof.Rows L2
def iniB (p0 p1 pa pc pe ps pf pp pz pj : Pos) (js : List Expr) (prm fld : Str) : List Stmt :=
  [.Expr (.Call (.Attribute (.Call (.Name "super" p0) [] [] p1) "__init__" pa) [.JoinedStr js pj] [] pc) pe, .Assign [.Attribute (.Name "self" ps) fld pf] (.Name prm pp) pz]
/-- what the written part says of the class and its __init__ -/
structure Ini (P : Program) (K : PySem.W.Frag) (mg : Str → Option Value) (C fI cc cda : Addr) (qual prm fld : Str) (params : Arguments) (scope : Scope) (fd : FuncData) (bd : List Stmt) : Prop where
  fdE : ∃ kV doc pm an ct, fd = PySem.W.fnX "__init__" qual params bd scope [("__class__", cc)] .none kV doc pm an (.ref cda) ct
  lk : ∃ oc od sl, K.lookup fI = some ⟨oc, od, .func fd, sl⟩
  code : PySem.W.codeIn K (.ref cda) qual = true
  file : ∃ ccl cdd vs ccs file tf, K.lookup cda = some ⟨ccl, cdd, .fields vs, ccs⟩ ∧ vs[2]? = some (.str file tf) ∧ ((P.main.file : Str) == file) = true
  cell : ∃ cl cld csl, K.lookup cc = some ⟨cl, cld, .cell (some (.ref C)), csl⟩
  T : OexC K C
  cd : ∃ cd, PySem.W.clsIn K C = some cd
  self : PySem.W.mroIn K C (.ref C) = some true
  sup : mg "super" = none
  opq : PySem.W.nsIn K cStatics "thirdparty.any" = some none
  nxt : PySem.W.ks_superIn K C C "__init__" = some (some (.builtin "ValueError.__init__"))
  ve : PySem.W.subIn K (.ref C) (.type "ValueError") = some true
  top : (P.main.scope.names.lookup ("super" : Str)).isSome = false
  fld : PySem.W.findIn K (.ref C) fld = some none
  S : NdefX.NScope ["self", prm, "__class__"] ["self", prm] ["__class__"] scope
  hs : scope.names.lookup ("super" : Str) = some .globalImplicit
  dbg : (prm == ("__debug__" : Str)) = false
  cdt : (prm == ("__classdict__" : Str)) = false
  par : ∃ ar : Arg, (params.posonlyargs ++ params.args).head? = some ar ∧ ar.arg = "self"
section
open Builtin
variable {prog : Program} {w : World} {A : Around} {E : Value → Shared → Prop} {h : Heap} {g : Array GenState} {d : Drawn} {t : Nat} {os : OsState}
variable {nm q : Str} {C N : Addr} {bs bm : List Value} {hdct : Bool} {sn : List Str} {sub : List Value} {ab : Bool} {col : Option Bool} {dd : Option Addr} {k0 k1 k2 k3 k5 : Option Value}
theorem call_mw {u e t0 : Addr} {rest : List Value} {Q : Value → Shared → Prop}
    (hC : h.get? C = some (excClassObj nm q C N bs bm hdct sn sub ab col dd k0 k1 k2 k3 k5 "ValueError.__new__")) (he : h.get? e = some (PySem.HandSPX.excO C t0)) (hu : h.get? u = some (PySem.W.kxs_mw "ValueError.__init__" e)) (hrest : rest.length ≤ sizeLine)
    (hq : ∀ h' t1, (∀ b o, b ≠ e → h.get? b = some o → h'.get? b = some o) → h'.get? e = some (PySem.HandSPX.excO C t1) → Q .none ⟨h', g, d, t, os⟩) :
    wpAny (model prog w) A (call (.ref u) rest) Q E ⟨h, g, d, t, os⟩ := by
  refine wpAny_call (codeAny_of_tree ?_)
  show wpAny _ A.in1 (callAny (.ref u) ⟨rest, []⟩) _ _ _
  simp only [callAny]
  refine wpAny_bind (wpAny_load hu ?_)
  simp only [PySem.W.kxs_mw, show (Value.type "method-wrapper" == Value.type "method" || Value.type "method-wrapper" == Value.type "builtin_function_or_method" || Value.type "method-wrapper" == Value.type "method-wrapper") = true by decide, if_true]
  refine PySem.W.KFB.if_so (by decide) ?_
  refine wpAny_bind (PySem.W.check_bound_init PySem.F.excBase_ValueError.toExcCallFacts hC he rfl ?_)
  refine wpAny_bind (wpAny_pure (wpAny_pure ?_))
  refine ⟨plainId_quiet PySem.F.excBase_ValueError.init.plain _, codeAny_builtin PySem.F.excBase_ValueError.initEntry ?_⟩
  rw [Around.under_plainId PySem.F.excBase_ValueError.init.plain _]
  wp_walk
  refine hq _ h.objs.size (fun b o hb ho => ?_) ?_
  · rw [Heap.get?_update_other _ _ (Ne.symm hb)]
    exact Heap.get?_push_of_some _ ho
  · rw [Heap.get?_update_self _ (Heap.get?_push_of_some _ he) rfl]
    rfl
end
def spIni (C : Addr) (fld : Str) : Sp := fun vs H Q _ => ∃ (a : Addr) (i : Int), vs = [.ref a, .int i] ∧ i.natAbs.log2 < 1920 ∧ H a = some (exo a C none) ∧ ∀ d, H d = none → d ≠ a → Q .non (upd (upd H d (exd d [(fld, .int i)])) a (exo a C (some d)))
section
variable {P : Program} {w : World} {K : PySem.W.Frag} {mg : Str → Option Value} {base : Heap} {CX : CXT} {k : Nat} {C fI cc cda : Addr} {qual prm fld : Str} {params : Arguments} {scope : Scope} {js : List Expr} {pj : Pos} {fd : FuncData} {bd : List Stmt}
abbrev nf (qual : Str) (params : Arguments) (bd : List Stmt) (scope : Scope) (cc cda : Addr) : NdefX.NF := ⟨"__init__", qual, params, bd, scope, [("__class__", cc)], cda⟩
theorem look1 {x y : Str} {c c' : Addr} (h : List.lookup y [(x, c)] = some c') : y = x ∧ c' = c := by
  simp only [List.lookup] at h
  split at h
  · rename_i e
    exact ⟨by simpa using e, (Option.some.inj h).symm⟩
  · cases h
theorem ini_ok {p0 p1 pa pc pe ps pf pp pz : Pos} (D : Ini P K mg C fI cc cda qual prm fld params scope fd bd) (hbd : bd = iniB p0 p1 pa pc pe ps pf pp pz pj js prm fld)
    (hcall : ∀ env : Env, ∃ pl : Sem Bool, eval (.Call (.Attribute (.Call (.Name "super" p0) [] [] p1) "__init__" pa) [.JoinedStr js pj] [] pc) env = (do
      let ov ← attributeBase (.Call (.Name "super" p0) [] [] p1) "__init__" env (eval (.Call (.Name "super" p0) [] [] p1) env)
      standAt pa.atName
      let (f, first) ← holding [ov] (getMethod ov "__init__" pl)
      callWith pc f first (backTo pc (starEach [.JoinedStr js pj] env)) []))
    (hj : ∀ (A : Around) (outer : List Env) (s : Shared) (H : Hp) (E : XK), ∃ tj, PE (NdefX.ncx CX P w K mg base ["self", prm, "__class__"] (nf qual params bd scope cc cda) fI A outer s H E) (.JoinedStr js pj) tj ∧
      ∀ (a : Addr) (i : Int) (Q : VK) (H : Hp), i.natAbs.log2 < 1920 → (∀ z, Q (.str z) H) → tj [some (.ref a), some (.int i), some (.ref C)] H Q) :
    FnOk P w K mg base CX (k + 1) fI fd ["self", prm] (spIni C fld) := by
  obtain ⟨kV, doc, pm, an, ct, rfl⟩ := D.fdE
  subst hbd
  obtain ⟨oc, od, sl, lk⟩ := D.lk
  obtain ⟨cl, cld, csl, hcell⟩ := D.cell
  obtain ⟨ccl, cdd, vs0, ccs, file, tf, hcode, hvs, hfile⟩ := D.file
  obtain ⟨ar, har, hself⟩ := D.par
  obtain ⟨cd, hcd⟩ := D.cd
  obtain ⟨nm, q, N, bs, bm, sn, sub, ab, col, dd, k0, k1, k2, k3, k5, hC, hbm⟩ := D.T.cls
  have S := D.S
  refine ⟨fun vs H Q E h => ?_, fun A outer s H args us vs Q E hr e0 hb r hsp => ?_⟩
  · obtain ⟨a, i, rfl, _⟩ := h
    rfl
  obtain ⟨a, i, rfl, hi, ea, kq⟩ := hsp
  have lim : s.heap.NoLimit := e0.mod.nolimit.keeps fun b o e => (e0.bs b o e).1
  have kin : K.In s.heap := e0.mod.kin.keeps fun b o e => (e0.bs b o e).1
  obtain ⟨tj, pj', hjr⟩ := hj A outer s H E
  have CA : NdefX.CellsAt [("__class__", cc)] ["__class__"] [some (.ref C)] s.heap H := {
    len := rfl
    all := fun y c e => by
      obtain ⟨_, rfl⟩ := look1 e
      exact ⟨(e0.bs _ _ (e0.mod.kin _ _ hcell)).2, _, _, kin _ _ hcell, rfl⟩
    inj := fun x y c e1 e2 => (look1 e1).1.trans (look1 e2).1.symm
    has := fun j y e => by
      cases j with
      | zero =>
        cases e
        refine ⟨cc, rfl, fun v ev => ?_⟩
        cases ev
        exact ⟨.ref C, rfl, _, kin _ _ hcell, rfl⟩
      | succ j => cases e }
  cases r with
  | @cons _ u0 _ ur ra r1 =>
  cases r1 with
  | @cons _ u1 _ ur' ri r2 =>
  cases r2
  obtain rfl : u0 = Value.ref a := ra
  have rv : Vals [V.ref a, V.int i] [Value.ref a, u1] := .cons rfl (.cons ri .nil)
  refine ks_codeAny_call_defAt (binds := (["self", prm] : List Str).zip [Value.ref a, u1]) hr.depth (kin _ _ lk) rfl lim (PySem.W.codeRec_of kin D.code) rfl hb S.nocell (fun ⟨n, _⟩ hy => S.par n (List.of_mem_zip hy).1) (fun h₁ hns kp => ?_) S.co S.gen S.kind
  have I : Inv (NdefX.ncx CX P w K mg base ["self", prm, "__class__"] (nf qual params (iniB p0 p1 pa pc pe ps pf pp pz pj js prm fld) scope cc cda) fI A outer s H E) [] [some (.ref a), some (.int i), some (.ref C)] H { s with heap := h₁, toks := s.toks + ((["self", prm] : List Str).zip [Value.ref a, u1]).length } :=
    NdefX.inv_startN (F := nf qual params (iniB p0 p1 pa pc pe ps pf pp pz pj js prm fld) scope cc cda) S hr.hd e0 rfl rv CA hns kp
  have kin1 : K.In h₁ := kin.keeps kp
  have ndP : ((["self", prm] : List Str)).Nodup := S.nd.sublist (List.take_sublist 2 (["self", prm, "__class__"] : List Str))
  obtain ⟨t1, hxo⟩ := exo_at I.hok ea
  have hmro : PySem.W.Looks (model P w) h₁ (PySem.isSubtype (.ref C) (.ref C)) true := PySem.W.looks_mroIn kin1 D.self
  obtain ⟨hh, g, d, t, os⟩ := s
  dsimp only at hxo
  obtain ⟨pl, hc⟩ := hcall (callEnv (PySem.W.fnX "__init__" qual params (iniB p0 p1 pa pc pe ps pf pp pz pj js prm fld) scope [("__class__", cc)] .none kV doc pm an (.ref cda) ct) hh.objs.size fI)
  refine ks_wpAt_execs_cons (ks_wpAt_Expr_any (ks_wpAt_MethodCall (pl := pl) ?_ hc) (hi := by
    have e : (callEnv (PySem.W.fnX "__init__" qual params (iniB p0 p1 pa pc pe ps pf pp pz pj js prm fld) scope [("__class__", cc)] .none kV doc pm an (.ref cda) ct) hh.objs.size fI).scope.kind = .function := S.kind
    unfold interactive
    rw [e]
    rfl))
  refine ks_wpAt_super_base D.hs (S.frk _ (by simp)) (by rfl) rfl (kin1 _ _ lk) rfl har rfl (kin1 _ _ hcode) rfl hvs hfile D.top ?_
  obtain ⟨mb, hb1, hb2⟩ := I.mod.blt
  refine PySem.W.ks_loadName_global S.kind D.hs (Calls.loadGlobal_builtin (by rw [show (callEnv _ _ _).globals = mainGlobals from rfl]; exact I.mod.glob.keeps I.bk) D.sup (hb1.keeps I.bk) ((hb2 _ (by decide)).trans (show bootBuiltins "super" = some (.type "super") by rfl)) ⟨rfl, ?_⟩)
  refine wpAny_loadName_free S.kind (S.frk _ (by simp)) rfl ⟨_, kin1 _ _ hcell, rfl⟩ ?_
  rw [hself]
  refine wpAny_loadName_local S.kind (S.par _ (by simp)) hns (v := .ref a) (NdefX.zip_look (ps := (["self", prm] : List Str)) (us := [Value.ref a, u1]) (i := 0) ndP rfl rfl) ?_
  refine ks_wpAny_isType_cls (kin1 _ _ hC) rfl ⟨rfl, ?_⟩
  refine ks_wpAny_call_super (kin1 _ _ hC) rfl hxo rfl (fun c e => by cases e) hmro (fun h₂ hso k2 => ?_)
  have kin2 : K.In h₂ := kin1.keeps k2
  have hxo2 := k2 _ _ hxo
  have hC2 := kin2 _ _ hC
  have Ix : PySem.W.InstAt h₂ a ({ cls := .ref C, dict := none, data := .fields #[.ref t1, .none, .none, .none, .bool false, .none] } : Obj) C none := ⟨hxo2, rfl, rfl, trivial⟩
  have hnxt := D.nxt
  unfold PySem.W.ks_superIn at hnxt
  rw [hcd] at hnxt
  have I1 := I.kept (t' := t + ((["self", prm] : List Str).zip [Value.ref a, u1]).length) k2
  refine PySem.W.kxs_getMethod (K := K) PySem.W.kxs_ValueError hso (PySem.W.looks_opaque kin2 D.opq) (l₀ := cd.mro) (fun A Q E s k q => wpAny_bind ((PySem.W.looks_clsIn kin2 hcd) A _ E s k (wpAny_pure q))) rfl kin2 hnxt (Ix.type.andThen (PySem.W.looks_subIn kin2 D.ve)) (PySem.W.ks_ne kin2 Ix hcd) (by rfl) ?_
  dsimp only
  have hn : H h₂.objs.size = none := I1.hok.fresh (Nat.le_refl _)
  have fpo := I1.fpOk (b := h₂.objs.size) (H' := H) (Nat.le_refl _) hn
  have I2 := I1.kept (h' := h₂.push (PySem.W.kxs_mw "ValueError.__init__" a)) (t' := t + ((["self", prm] : List Str).zip [Value.ref a, u1]).length + 1) fun b o e => Heap.get?_push_of_some _ e
  have I3 := I2.pins_of (pins' := [(h₂.objs.size, PySem.W.kxs_mw "ValueError.__init__" a)]) (fun p hp => by
    rw [List.mem_singleton.mp hp]
    exact ⟨Heap.get?_push_size _ rfl, hn, fpo.2.1, fpo.2.2.1, fun v e => by cases e⟩)
  refine PySem.W.kxs_callWith (i := "ValueError.__init__") (x := a) rfl (Calls.evalArgs_plain ?_)
  refine Calls.spliced_cons (thn (pj'.run _ _ _ _ (fun v H1 => (∃ z, v = V.str z) ∧ H = H1) I3 (hjr a i _ H hi fun z => ⟨⟨z, rfl⟩, rfl⟩)) fun u s1 hh1 => ?_)
  obtain ⟨v, H1, I4, rv4, ⟨z, rfl⟩, rfl⟩ := hh1
  obtain ⟨h₄, g4, d4, t4, os4⟩ := s1
  have hmw := (I4.pin (h₂.objs.size, PySem.W.kxs_mw "ValueError.__init__" a) (by simp)).1
  obtain ⟨t5, hxo4⟩ := exo_at I4.hok ea
  refine Calls.spliced_nil ⟨hmw, ?_⟩
  refine call_mw (I4.kIn _ _ hC) hxo4 hmw (by show 1 ≤ sizeLine; decide) fun h₅ t6 k5' hx5 => ?_
  have J0 := I4.write (t' := t4) (x := a) (e := a) (o := exo a C none) (by rw [ea]; exact True.intro) (.inl rfl) k5' ⟨_, hx5⟩ (exo_ok hx5)
  have eu : upd H a (exo a C none) = H := by
    funext b
    by_cases hb : b = a
    · rw [hb, upd_same, ea]
    · rw [upd_ne hb]
  rw [eu] at J0
  refine wpAt_of_wpAny ?_
  have ht : PSs (NdefX.ncx CX P w K mg base ["self", prm, "__class__"] (nf qual params (iniB p0 p1 pa pc pe ps pf pp pz pj js prm fld) scope cc cda) fI A outer ⟨hh, g, d, t, os⟩ H E) [.Assign [.Attribute (.Name "self" ps) fld pf] (.Name prm pp) pz] _ :=
    pss_one (ps_ost (pe_var (i := 0) rfl (.inl (S.par _ (by simp)))) (pe_var (i := 1) rfl (.inl (S.par _ (by simp))) (hd := D.dbg) (hcd := D.cdt)))
  refine wpAny_mono (ht.run _ _ _ H { nx := fun _ H' => Q .non H', rt := Q } J0 ⟨_, rfl, _, rfl, a, C, rfl, D.T, D.fld, .inl ⟨ea, fun dx hn hne => kq dx hn hne⟩⟩) (fun fl s' hs => ?_) fun e s' hs => hs
  cases fl with
  | ret u =>
    obtain ⟨v, σ', H', J, rv, q⟩ := hs
    exact ⟨v, H', J.os, J.bare, J.base, J.hok, rv, q⟩
  | next =>
    obtain ⟨σ', H', J, q⟩ := hs
    exact ⟨V.non, H', J.os, J.bare, J.base, J.hok, rfl, q⟩
  | brk =>
    obtain ⟨_, _, _, q⟩ := hs
    exact False.elim q
  | cont =>
    obtain ⟨_, _, _, q⟩ := hs
    exact False.elim q
end
/-- making one: what is promised -/
def OIni (P : Program) (w : World) (K : PySem.W.Frag) (mg : Str → Option Value) (base : Heap) (x : Str) (C : Addr) (fld : Str) : Prop :=
  ∃ (fI : Addr) (fd : FuncData) (prm : Str), FnOk P w K mg base CX0 1 fI fd ["self", prm] (spIni C fld) ∧ PySem.W.findIn K (.ref C) "__init__" = some (some (.ref fI)) ∧ PySem.W.typeIn K (.ref fI) = some (.type "function") ∧ Binds K fd ["self", prm] [] ∧ OexC K C ∧ mg x = some (.ref C)
/-- X(e): the error and its one field -/
def tErr (C : Addr) (fld : Str) (ta : TA) : L2.St → Hp → XK → Prop := fun σ H Q => ta σ H fun vs H1 => ∃ i : Int, vs = [.int i] ∧ i.natAbs.log2 < 1920 ∧ ∀ d, H1 d = none → Q (.ref C) (some d) (upd H1 d (.xd [(fld, .int i)]))
section
variable {X : Cx} {x fld : Str} {C : Addr} {e : Expr} {ta : TA} {p pos : Pos}
theorem pmk_err (O : OIni X.prog X.w X.K X.mg X.base x C fld) (hr : Room 2 X.A) (hx : Passes CX0 X (fun _ _ _ => False)) (hg : Gl X x) (ha : PA X [e] ta)
    (hdb : (x == ("__debug__" : Str)) = false := by decide) (he : starEach [e] X.env = (false, eval e X.env) :: starEach [] X.env := by rfl) (hpl : (backTo pos (starEach [] X.env)).any (·.1) = false := by rfl) :
    L2N.PMk X (.Call (.Name x p) [e] [] pos) (tErr C fld ta) := by
  intro pins s σ H Q I h
  obtain ⟨fI, fd, prm, F1, iC, tI, hb, T, hm⟩ := O
  obtain ⟨nm, q, N, bs, bm, sn, sub, ab, col, dd, k0, k1, k2, k3, k5, hC, hbm⟩ := T.cls
  refine wpAny_Call_Name_kw (ld_glob I hg hm ?_ hdb)
  refine PySem.W.callWith_K (h₀ := X.base) I.ok.mod.kin T.kC (thn (ha.run pos pins s σ H _ I h) fun us s1 ⟨vs, H1, I1, r1, i, ev, hi, q1⟩ => ⟨I1.kIn, ?_⟩) he hpl
  subst ev
  show wpAny _ _ (call (.ref C) us) _ _ _
  obtain ⟨hp, g, dr, tk, os⟩ := s1
  have hul : us.length = 1 := by
    have z := Paired.length r1
    exact z.symm
  obtain ⟨u1, rfl⟩ : ∃ u1, us = [u1] := match us, hul with | [u1], _ => ⟨u1, rfl⟩
  have hsz : hp.objs.size ≤ hp.objs.size + 1 := Nat.le_succ _
  have hn : H1 (hp.objs.size + 1) = none := I1.hok.fresh hsz
  have kk : ∀ b o, hp.get? b = some o → ((hp.push (PySem.W.kdv_tup [u1])).push (PySem.HandSPX.excO C hp.objs.size)).get? b = some o := fun b o e => Heap.get?_push_of_some _ (Heap.get?_push_of_some _ e)
  have hget : ((hp.push (PySem.W.kdv_tup [u1])).push (PySem.HandSPX.excO C hp.objs.size)).get? (hp.objs.size + 1) = some (PySem.HandSPX.excO C hp.objs.size) := by heap_get
  have I2 : Inv X pins σ (upd H1 (hp.objs.size + 1) (exo (hp.objs.size + 1) C none)) ⟨(hp.push (PySem.W.kdv_tup [u1])).push (PySem.HandSPX.excO C hp.objs.size), g, dr, tk, os⟩ :=
    I1.laid (t' := tk) (a := hp.objs.size + 1) (o := exo (hp.objs.size + 1) C none) (h' := (hp.push (PySem.W.kdv_tup [u1])).push (PySem.HandSPX.excO C hp.objs.size)) kk hsz (exo_ok hget)
  have r2 : Vals [V.ref (hp.objs.size + 1), V.int i] [Value.ref (hp.objs.size + 1), u1] := .cons rfl r1
  have hq : spIni C fld [V.ref (hp.objs.size + 1), V.int i] (upd H1 (hp.objs.size + 1) (exo (hp.objs.size + 1) C none)) (fun v H2 => v = .non ∧ ∃ d, H1 d = none ∧ d ≠ hp.objs.size + 1 ∧ H2 = upd (upd (upd H1 (hp.objs.size + 1) (exo (hp.objs.size + 1) C none)) d (exd d [(fld, .int i)])) (hp.objs.size + 1) (exo (hp.objs.size + 1) C (some d))) (fun _ _ _ => False) :=
    ⟨_, i, rfl, hi, upd_same, fun d hd hne => ⟨rfl, d, by rw [upd_ne hne] at hd; exact hd, hne, rfl⟩⟩
  have hl : ([Value.ref (hp.objs.size + 1), u1] ++ []).length = ([("self" : Str), prm] : List Str).length := rfl
  have hus : [u1].length ≤ sizeLine := by show 1 ≤ sizeLine; decide
  refine wpAny_call (PySem.HandSPX.call_own PySem.F.excBase_ValueError (fun Y => PySem.HandSPX.refsVE_contains Y bm hbm) (I1.kIn _ _ hC) (PySem.W.looks_findIn I1.kIn iC) (fun self => PySem.W.bind_fn I1.kIn self tI) hus
    (codeAny_mono (F1.run _ X.stack _ _ ⟨[Value.ref (hp.objs.size + 1), u1], []⟩ [Value.ref (hp.objs.size + 1), u1] _ _ (fun _ _ _ => False) (hr.make C [u1] []) (I2.env0.make C [u1] []) (hb _ [Value.ref (hp.objs.size + 1), u1] I2.kIn hl) r2 hq) fun r s' hq' => ?_))
  cases r with
  | error er => exact hx pins σ _ _ er s' I2 hq'
  | ok fl =>
    cases fl with
    | ret u =>
      obtain ⟨v, H2, os2, bare2, un2, hok2, rv, ev, d, hd1, hne, eH⟩ := hq'
      subst ev
      obtain ⟨h2, g2, d2, t2, os'⟩ := s'
      refine ⟨rv, ?_⟩
      have ea : H2 (hp.objs.size + 1) = some (exo (hp.objs.size + 1) C (some d)) := by rw [eH, upd_same]
      have ed : H2 d = some (exd d [(fld, .int i)]) := by rw [eH, upd_ne hne, upd_same]
      obtain ⟨t0, G, J, kG, ge, hoe, na⟩ := mk_end0 (d2 := d2) (t2 := t2) I1 hsz kk un2 hok2 os2 bare2 ea ed hd1
      have eE : upd (del H2 (hp.objs.size + 1)) d (.xd [(fld, .int i)]) = upd H1 d (.xd [(fld, .int i)]) := by
        funext b
        by_cases hb1 : b = d
        · rw [hb1, upd_same, upd_same]
        · rw [upd_ne hb1, upd_ne hb1]
          by_cases hb2 : b = hp.objs.size + 1
          · rw [hb2, del_same, hn]
          · rw [del_ne hb2, eH, upd_ne hb2, upd_ne hb1, upd_ne hb2]
      rw [eE] at J na
      exact ⟨_, _, _, ⟨G, g2, d2, t2, os'⟩, _, .ref C, some d, rfl, J, kG, ge, hoe, ⟨rfl, rfl, fun vs e => by cases e; rfl⟩, rfl, rfl, na, rfl, bare2, raises_own T.exC T.tyC, q1 d hd1⟩
    | next => exact False.elim hq'
    | brk => exact False.elim hq'
    | cont => exact False.elim hq'
end
end OE
namespace PySem.W
open PySem PySem.Spec PySem.Calls PyProof.Rows
/-! isinstance of a caught error that has its dict -/
section
variable {prog : Program} {w : World} {A : Around} {E : Value → Shared → Prop} {s : Shared} {K : Frag} {x D : Addr} {ox : Obj} {od : Option Obj}
theorem findObj_dataD {name : Str} {a g : Value} (hc : (clsIn K D).isSome = true) (ha : findIn K (.ref D) name = some (some a)) (hg : specialIn K a "__get__" = some (some g)) (ht : takesIn K a = some true) : findObj K D od name = some (.bind g a) := by
  obtain ⟨cd, hc⟩ := Option.isSome_iff_exists.mp hc
  unfold findObj
  rw [hc, Option.bind_some, ha, Option.bind_some]
  simp [hg, ht]
theorem classE (C : L2.ExcC K D) (X : K.In s.heap) (I : InstAt s.heap x ox D od) {Q : Option Value → Shared → Prop} (h : Q (some (.ref D)) { s with toks := s.toks + 1 }) : wpAny (model prog w) A (getAttr? (.ref x) "__class__") Q E s := by
  have hf : findObj K D od "__class__" = some (.bind (.builtin "getset_descriptor.__get__") (.builtin "object.__class__")) := findObj_dataD (by obtain ⟨cd, hc, _⟩ := any_some C.hd; rw [hc]; rfl) C.ha C.hn C.ht
  obtain ⟨hp, g, d, t, os⟩ := s
  have L0 := I.type (M := model prog w)
  have sub : Looks (model prog w) hp (isInstance (.ref x) (.type "BaseException")) true := L0.andThen (looks_subIn X C.hs)
  have hx0 : (false && onTheHeap (Value.builtin "BaseException.__getattribute__")) = false := rfl
  have hx1 : (onTheHeap (Value.ref D) && Value.builtin "BaseException.__getattribute__" == Value.builtin "object.__getattribute__") = false := by
    rw [show (Value.builtin "BaseException.__getattribute__" == Value.builtin "object.__getattribute__") = false by decide +kernel]
    rfl
  unfold getAttr? getAttrBy? getAttrBy
  refine wpAny_bind (wpAny_mkText (wpAny_bind (wpAny_attempt (wpAny_holding (wpAny_bind (L0.at (wpAny_bind ((looks_findIn X C.hg).at ?_))))))))
  show wpAny _ _ (if (onTheHeap (Value.ref D) && Value.builtin "BaseException.__getattribute__" == Value.builtin "object.__getattribute__") = true then _ else _) _ _ _
  rw [hx1, if_neg Bool.false_ne_true]
  unfold getAttrByItsOwn hookBefore
  refine wpAny_bind ?_
  rw [if_pos (show onTheHeap (Value.ref D) = true from rfl)]
  refine (looks_findIn X C.hk).at ?_
  refine wpAny_bind (wpAny_attempt (wpAny_holding ?_))
  unfold callGetattribute
  rw [hx0, if_neg Bool.false_ne_true]
  unfold boundAndCalled
  rw [PySem.F.excAttr_ValueError.ga.bind (.ref x)]
  refine wpAny_bind (wpAny_pure ?_)
  show wpAny _ _ (call (.builtin "BaseException.__getattribute__") [.ref x, .str "__class__" t]) _ _ _
  refine wpAny_call (codeAny_call_builtin PySem.F.excAttr_ValueError.ga.plain PySem.F.entry_bexc_ga ?_)
  refine @check_slot (model prog w) _ _ ⟨hp, g, d, t + 1, os⟩ "BaseException.__getattribute__" "BaseException" "__getattribute__" (.ref x) [.str "__class__" t] [] _ (by decide +kernel) (by decide +kernel) sub (PySem.F.args_bexc_ga (.ref x) (.str "__class__" t)) ?_
  unfold Builtin.«object.__getattribute__»
  refine wpAny_bind (wpAny_of_eq (a := ((Value.ref x : Value), [Value.str "__class__" t])) (by first | rfl | (simp only [slotArgs]; rfl)) ?_)
  refine wpAny_bind (wpAny_pure (wpAny_bind (L0.at (wpAny_bind ((looks_find X I hf).at ?_)))))
  show wpAny _ _ (holding [Value.builtin "object.__class__"] (call (.builtin "getset_descriptor.__get__") [.builtin "object.__class__", .ref x, .ref D]) >>= ret) _ _ _
  refine wpAny_bind (wpAny_holding (wpAny_call (class_get (s := ⟨hp, g, d, t + 1, os⟩) (ox := ox) (od := od) X I C.hm ?_)))
  refine wpAny_pure ?_
  show wpAny _ _ (handedOut (.ref D)) _ _ _
  rw [handedOut_of (v := .ref D) rfl]
  first
    | exact wpAny_pure (wpAny_pure h)
    | exact wpAny_pure h
    | exact wpAny_pure (wpAny_bind (wpAny_pure (wpAny_pure h)))
theorem kitx_err (C : L2.ExcC K D) : KitX K (.ref x) (.ref D) (fun h => InstAt h x ox D od) where
  ty := fun _ _ _ I => I.type
  it := fun _ _ X _ => by
    obtain ⟨cdD, hcD, _⟩ := any_some C.hd
    unfold clsIn at hcD
    split at hcD
    · rename_i c' d' cd' sl' ho
      intro A' Q' E' s' k q
      unfold isType loadHead
      exact wpAny_bind (wpAny_loadPart (k _ _ (X _ _ ho)) (wpAny_pure q))
    · cases hcD
  ne := fun h tp dd its n sl X htp => by
    obtain ⟨cdD, hcD, _⟩ := any_some C.hd
    refine Bool.eq_false_iff.mpr fun q => ?_
    have e : D = tp := Value.ref.inj (beq_iff_eq.mp q)
    subst e
    unfold clsIn at hcD
    split at hcD
    · rename_i c' d' cd' sl' ho
      have z := (X _ _ ho).symm.trans htp
      cases z
    · cases hcD
  ca := fun X I k => classE C X I k
end
end PySem.W
namespace OE
open PySem PySem.Spec PyProof.Rows L2
/-- isinstance(e, c), e the error that the suite holds, d its dict -/
def rIsX (K : PySem.W.Frag) (D a : Addr) (cls : Value) (d : Option Addr) : List V → Hp → VK → Prop := fun xs H Q => ∃ (c : V) (cv : Value) (b : Bool) (dd : Addr) (fs : List (Str × V)), xs = [.ref a, c] ∧ cls = .ref D ∧ (∀ u, RelV c u → u = cv) ∧ PySem.W.kitOne K (.ref D) cv = some b ∧ d = some dd ∧ H dd = some (.xd fs) ∧ Q (.bl b) H
theorem call_isX {X : Cx} {a D : Addr} {oe : Obj} {cls : Value} {d : Option Addr} {pn : List (Addr × Obj)} (C : ExcC X.K D) (hz : Zc cls d oe) (hf : ∃ vs, oe.data = .fields vs) : CallR (X.suite a ((a, oe) :: pn)) (.builtin "isinstance") (rIsX X.K D a cls d) := by
  intro pins s σ H xs us Q I r h
  obtain ⟨c, cv, b, dd, fs, rfl, rfl, hcv, e, rfl, hd, q⟩ := h
  cases r with
  | cons rx rr =>
    cases rr with
    | cons rt rr =>
      cases rr
      cases rx
      have ec := hcv _ rt
      subst ec
      obtain ⟨hget, _⟩ := I.pin (a, oe) (List.mem_append.mpr (.inl List.mem_cons_self))
      obtain ⟨vs, hv⟩ := hf
      have hx : ObjOk X.prog X.w H s.heap dd (.xd fs) := I.hok dd _ hd
      obtain ⟨mA, hns, _⟩ := hx
      obtain ⟨od, ho, _⟩ := lookIn_ns hns
      have J : PySem.W.InstAt s.heap a oe D (some od) := ⟨hget, hz.1, by unfold PySem.W.notCls; rw [hv] <;> rfl, by rw [hz.2]; exact ho⟩
      exact PySem.W.kia_one (PySem.W.kitx_err C) I.kIn J e (fun z => nomatch z) fun tk => ⟨.bl b, H, I.kept (t' := tk) fun _ _ z => z, rfl, q⟩
/-- the same of an error that has no dict -/
def rIsN (K : PySem.W.Frag) (D a : Addr) (cls : Value) (d : Option Addr) : List V → Hp → VK → Prop := fun xs H Q => ∃ (c : V) (cv : Value) (b : Bool), xs = [.ref a, c] ∧ cls = .ref D ∧ d = none ∧ (∀ u, RelV c u → u = cv) ∧ PySem.W.kitOne K (.ref D) cv = some b ∧ Q (.bl b) H
theorem call_isB {X : Cx} {a D D2 : Addr} {oe : Obj} {cls : Value} {d : Option Addr} {pn : List (Addr × Obj)} (C : ExcC X.K D) (C2 : ExcC X.K D2) (hz : Zc cls d oe) (hf : ∃ vs, oe.data = .fields vs) :
    CallR (X.suite a ((a, oe) :: pn)) (.builtin "isinstance") (fun xs H Q => rIsX X.K D a cls d xs H Q ∨ rIsN X.K D2 a cls d xs H Q) := by
  intro pins s σ H xs us Q I r h
  rcases h with h | ⟨c, cv, b, rfl, rfl, rfl, hcv, e, q⟩
  · exact call_isX C hz hf pins s σ H xs us Q I r h
  · exact call_isE C2 hz hf pins s σ H _ us Q I r ⟨c, cv, b, rfl, hcv, e, q⟩
/-- what the written part says of the class x -/
def OErr (P : Program) (K : PySem.W.Frag) (mg : Str → Option Value) (x : Str) (C : Addr) (prm fld : Str) (params : Arguments) (scope : Scope) (bd : List Stmt) : Prop :=
  ∃ (fI cc cda : Addr) (qual : Str) (fd : FuncData), Ini P K mg C fI cc cda qual prm fld params scope fd bd ∧ PySem.W.findIn K (.ref C) "__init__" = some (some (.ref fI)) ∧ PySem.W.typeIn K (.ref fI) = some (.type "function") ∧ Binds K fd ["self", prm] [] ∧ mg x = some (.ref C) ∧ XfC K C ∧ ExcC K C
theorem OErr.f {P : Program} {K : PySem.W.Frag} {mg : Str → Option Value} {x : Str} {C : Addr} {prm fld : Str} {params : Arguments} {scope : Scope} {bd : List Stmt} (O : OErr P K mg x C prm fld params scope bd) : XfC K C := by
  obtain ⟨fI, cc, cda, qual, fd, _, _, _, _, _, h, _⟩ := O
  exact h
theorem OErr.e {P : Program} {K : PySem.W.Frag} {mg : Str → Option Value} {x : Str} {C : Addr} {prm fld : Str} {params : Arguments} {scope : Scope} {bd : List Stmt} (O : OErr P K mg x C prm fld params scope bd) : ExcC K C := by
  obtain ⟨fI, cc, cda, qual, fd, _, _, _, _, _, _, h⟩ := O
  exact h
theorem OErr.n {P : Program} {K : PySem.W.Frag} {mg : Str → Option Value} {x : Str} {C : Addr} {prm fld : Str} {params : Arguments} {scope : Scope} {bd : List Stmt} (O : OErr P K mg x C prm fld params scope bd) : PySem.W.findIn K (.ref C) fld = some none := by
  obtain ⟨fI, cc, cda, qual, fd, h, _⟩ := O
  exact h.fld
theorem oini_of {P : Program} {w : World} {K : PySem.W.Frag} {mg : Str → Option Value} {base : Heap} {x : Str} {C : Addr} {prm fld : Str} {params : Arguments} {scope : Scope} {bd : List Stmt} {js : List Expr} {pj p0 p1 pa pc pe ps pf pp pz : Pos} (O : OErr P K mg x C prm fld params scope bd) (hbd : bd = iniB p0 p1 pa pc pe ps pf pp pz pj js prm fld)
    (hcall : ∀ env : Env, ∃ pl : Sem Bool, eval (.Call (.Attribute (.Call (.Name "super" p0) [] [] p1) "__init__" pa) [.JoinedStr js pj] [] pc) env = (do
      let ov ← attributeBase (.Call (.Name "super" p0) [] [] p1) "__init__" env (eval (.Call (.Name "super" p0) [] [] p1) env)
      standAt pa.atName
      let (f, first) ← holding [ov] (getMethod ov "__init__" pl)
      callWith pc f first (backTo pc (starEach [.JoinedStr js pj] env)) []))
    (hj : ∀ (cc cda fI : Addr) (qual : Str) (A : Around) (outer : List Env) (s : Shared) (H : Hp) (E : XK), ∃ tj, PE (NdefX.ncx CX0 P w K mg base ["self", prm, "__class__"] (nf qual params bd scope cc cda) fI A outer s H E) (.JoinedStr js pj) tj ∧
      ∀ (a : Addr) (i : Int) (Q : VK) (H : Hp), i.natAbs.log2 < 1920 → (∀ z, Q (.str z) H) → tj [some (.ref a), some (.int i), some (.ref C)] H Q) : OIni P w K mg base x C fld := by
  obtain ⟨fI, cc, cda, qual, fd, D, h1, h2, h3, h4, _⟩ := O
  exact ⟨fI, fd, prm, ini_ok D hbd hcall (hj cc cda fI qual), h1, h2, h3, D.T, h4⟩
theorem oerr_mk {P : Program} {K : PySem.W.Frag} {h : Heap} {mg : Str → Option Value} {x qual prm fld file : Str} {C fI cc cda N : Addr} {params : Arguments} {scope : Scope} {bd : List Stmt} {nm q : Str} {bs bm : List Value} {sn : List Str} {sub : List Value} {ab : Bool} {col : Option Bool} {dd od an cdd cld : Option Addr} {k0 k1 k2 k3 k5 : Option Value} {kV doc pm ct oc ccl cl : Value} {sl ccs csl : Array (Option Value)} {vs : Array Value} {tf : Tok}
    (X : K.In h) (G : h.Ns mainGlobals mg) (S : NdefX.NScope ["self", prm, "__class__"] ["self", prm] ["__class__"] scope) (hs : scope.names.lookup ("super" : Str) = some .globalImplicit) (dbg : (prm == ("__debug__" : Str)) = false) (cdt : (prm == ("__classdict__" : Str)) = false)
    (par : ∃ ar : Arg, (params.posonlyargs ++ params.args).head? = some ar ∧ ar.arg = "self")
    (hb : ∀ (kV doc pm : Value) (an : Option Addr) (cdv ct : Value) (us : List Value), us.length = 2 → bindArgs (PySem.W.fnX "__init__" qual params bd scope [("__class__", cc)] .none kV doc pm an cdv ct) ⟨us, []⟩ = pure (([("self" : Str), prm] : List Str).zip us))
    (a : PySem.W.nsIn K mainGlobals x = some (some (.ref C))) (i : PySem.W.findIn K (.ref C) "__init__" = some (some (.ref fI))) (t : PySem.W.typeIn K (.ref fI) = some (.type "function"))
    (l : K.lookup fI = some ⟨oc, od, .func (PySem.W.fnX "__init__" qual params bd scope [("__class__", cc)] .none kV doc pm an (.ref cda) ct), sl⟩) (c : PySem.W.codeIn K (.ref cda) qual = true)
    (f : K.lookup cda = some ⟨ccl, cdd, .fields vs, ccs⟩) (fv : vs[2]? = some (.str file tf)) (ff : ((P.main.file : Str) == file) = true) (ce : K.lookup cc = some ⟨cl, cld, .cell (some (.ref C)), csl⟩)
    (xL : K.lookup C = some (excClassObj nm q C N bs bm true sn sub ab col dd k0 k1 k2 k3 k5 "ValueError.__new__")) (xb : PySem.HandSPX.refsVE bm = true) (sa : PySem.W.findIn K (.ref C) "__setattr__" = some (some (.builtin "object.__setattr__")))
    (b : PySem.W.subIn K (.ref C) (.type "BaseException") = some true) (tc : PySem.W.typeIn K (.ref C) = some (.type "type")) (k : PySem.W.keepIn K (.ref C) = true) (se : PySem.W.mroIn K C (.ref C) = some true) (su : PySem.W.nsIn K mainGlobals "super" = some none)
    (op : PySem.W.nsIn K cStatics "thirdparty.any" = some none) (nx : PySem.W.ks_superIn K C C "__init__" = some (some (.builtin "ValueError.__init__"))) (ve : PySem.W.subIn K (.ref C) (.type "ValueError") = some true) (tp : (P.main.scope.names.lookup ("super" : Str)).isSome = false)
    (fl : PySem.W.findIn K (.ref C) fld = some none) (ga : PySem.W.findIn K (.ref C) "__getattribute__" = some (some (.builtin "BaseException.__getattribute__"))) (gg : PySem.W.findIn K (.ref C) "__getattr__" = some none) (hd : PySem.W.hasDictIn K C = true)
    (ha : PySem.W.findIn K (.ref C) "__class__" = some (some (.builtin "object.__class__"))) (hn : PySem.W.specialIn K (.builtin "object.__class__") "__get__" = some (some (.builtin "getset_descriptor.__get__"))) (ht : PySem.W.takesIn K (.builtin "object.__class__") = some true) (hm : PySem.W.mroIn K C (.type "object") = some true) :
    OErr P K mg x C prm fld params scope bd :=
  ⟨fI, cc, cda, qual, _, ⟨⟨_, _, _, _, _, rfl⟩, ⟨_, _, _, l⟩, c, ⟨_, _, _, _, _, _, f, fv, ff⟩, ⟨_, _, _, ce⟩, ⟨⟨_, _, _, _, _, _, _, _, _, _, _, _, _, _, _, xL, xb⟩, sa, b, tc, k⟩,
      ⟨_, (by unfold PySem.W.clsIn; rw [xL] <;> rfl)⟩, se, PySem.W.mg_none_of X G su, op, nx, ve, tp, fl, S, hs, dbg, cdt, par⟩,
    i, t, Binds.all fun us hl => hb _ _ _ _ _ _ us hl, PySem.W.mg_of X G a, ⟨ga, gg, b, hd⟩, ⟨ga, gg, b, hd, ha, hn, ht, hm⟩⟩
end OE

/-! ### zip(*rows): as many lists as there are -/
namespace ZN
open PySem
open PySem.Sem (wp)
theorem typeCall_zip (vs : List Value) : checkTypeCall "zip" ⟨vs, []⟩ = pure () := by kernel_rfl
theorem newCall_zip (vs : List Value) : checkBuiltinCall "zip.__new__" ⟨.type "zip" :: vs, []⟩ = pure () := by
  cases vs with
  | nil => kernel_rfl
  | cons a r => kernel_rfl
theorem args_init (a : Value) (vs : List Value) : argsOk "object.__init__" ⟨a :: vs, []⟩ := by
  unfold argsOk; rw [signature?_of (id := "object.__init__") (n := ['_', '_', 't', 'i', 'n', 'i', '_', '_']) (o := ['t', 'c', 'e', 'j', 'b', 'o']) (by kernel_rfl) F.owner_object]; kernel_rfl
abbrev IsZipN (h : Heap) (z TI TO : Addr) (f0 : Value) (f1 : Bool) : Prop :=
  h.get? z = some { cls := .type "zip", dict := none, data := .fields #[f0, .bool f1, .bool false, .ref TI, .ref TO], slots := #[] }
abbrev IsTup (h : Heap) (T : Addr) (vs : Array Value) : Prop := h.get? T = some { cls := .type "tuple", data := .seq vs }
def itsL (b n : Nat) : List Value := (List.range n).map fun k => Value.ref (b + k)
theorem itsL_len (b n : Nat) : (itsL b n).length = n := by simp [itsL]
theorem itsL_get {b n k : Nat} (h : k < n) : (itsL b n)[k]? = some (Value.ref (b + k)) := by
  unfold itsL
  rw [List.getElem?_map, List.getElem?_range h]
  rfl
section
variable {prog : Program} {w : World} {A : Around} {E : Value → Shared → Prop} {s : Shared}
theorem wp_forIn {α β : Type} {M : Model} {f : α → β → Sem (ForInStep β)} {Q : β → Shared → Prop} (I : Nat → β → Shared → Prop) :
    ∀ (xs : List α) (k : Nat) (acc : β) (s : Shared), I k acc s → (∀ j a acc s, xs[j]? = some a → I (k + j) acc s → wpAny M A (f a acc) (fun r s' => ∃ acc', r = .yield acc' ∧ I (k + j + 1) acc' s') E s) →
      (∀ acc s, I (k + xs.length) acc s → Q acc s) → wpAny M A (forIn xs acc f) Q E s
  | [], k, acc, s, h0, _, hd => by
    rw [List.forIn_nil]
    exact wpAny_pure (hd acc s h0)
  | a :: r, k, acc, s, h0, st, hd => by
    rw [List.forIn_cons]
    refine wpAny_bind (wpAny_mono (st 0 a acc s rfl h0) (fun q s' hq => ?_) fun _ _ z => z)
    obtain ⟨acc', rfl, h1⟩ := hq
    refine wp_forIn I r (k + 1) acc' s' h1 (fun j a acc s hj hI => ?_) fun acc s hI => hd acc s ?_
    · have e : k + 1 + j = k + (j + 1) := by omega
      rw [e] at hI
      have := st (j + 1) a acc s (by simpa using hj) hI
      rw [e]
      exact this
    · rw [List.length_cons, show k + (r.length + 1) = k + 1 + r.length by omega]
      exact hI
theorem wp_alive {M : Model} {a : Addr} {Q : Option Obj → Shared → Prop} (h : Q (s.heap.get? a) s) : wpAny M A (loadIfAlive a) Q E s := fun _ _ _ => h
/-- what stands between two turns: b the first iterator -/
structure St (b : Nat) (ls : List Addr) (i : Nat) (h : Heap) : Prop where
  z : ∃ f0 f1, IsZipN h (b + ls.length + 2) (b + ls.length) (b + ls.length + 1) f0 f1 ∧ (f0 = .none ∨ ∃ a : Addr, f0 = rawInt a)
  ti : IsTup h (b + ls.length) (itsL b ls.length).toArray
  to : ∃ kept : Array Value, kept.size = ls.length ∧ IsTup h (b + ls.length + 1) kept
  it : ∀ (k : Nat) (l : Addr), ls[k]? = some l → h.IsListIter (b + k) l i
theorem SB {a : Nat} {h h' : Heap} {c : Nat} {o : Obj} (s : Heap.SameBut a h h') (n : c ≠ a) (e : h.get? c = some o) : h'.get? c = some o := (s.2 c n).trans e
theorem sizes_le {b : Nat} {ls : List Addr} {i : Nat} {h : Heap} (S : St b ls i h) : b + ls.length + 2 < h.objs.size := by
  obtain ⟨f0, f1, hz, _⟩ := S.z
  exact Heap.lt_size hz
/-- the owned road: each iterator gives its item, the tuple is filled -/
structure Mid (b : Nat) (ls : List Addr) (i : Nat) (xs : Nat → Value) (h0 : Heap) (f0 : Value) (f1 : Bool) (k : Nat) (h : Heap) : Prop where
  z : IsZipN h (b + ls.length + 2) (b + ls.length) (b + ls.length + 1) f0 f1
  sz : h.objs.size = h0.objs.size
  to : ∃ kept : Array Value, kept.size = ls.length ∧ (f0 = .ellipsis → ∀ j : Nat, j < k → kept[j]? = some (xs j)) ∧ IsTup h (b + ls.length + 1) kept
  it : ∀ (j : Nat) (l : Addr), ls[j]? = some l → h.IsListIter (b + j) l (if j < k then i + 1 else i)
  keep : ∀ (c : Nat) o, (c < b ∨ b + ls.length + 2 < c ∨ c = b + ls.length) → h0.get? c = some o → h.get? c = some o
theorem neN {a b : Nat} (h : a ≠ b) : @Ne Addr a b := h
theorem Mid.step {b : Nat} {ls : List Addr} {i : Nat} {xs : Nat → Value} {h0 h h' : Heap} {f0 : Value} {f1 : Bool} {k : Nat} {l : Addr} (S : Mid b ls i xs h0 f0 f1 k h) (hk : ls[k]? = some l) (hi : h'.IsListIter (b + k) l (i + 1)) (hs : Heap.SameBut (b + k) h h')
    (hq : f0 ≠ .ellipsis) : Mid b ls i xs h0 f0 f1 (k + 1) h' := by
  have kl := (List.getElem?_eq_some_iff.mp hk).1
  refine ⟨SB hs (by omega) S.z, hs.1.trans S.sz, ?_, fun j m hj => ?_, fun c o hc e => SB hs (by omega) (S.keep c o hc e)⟩
  · obtain ⟨kept, h1, _, h3⟩ := S.to
    exact ⟨kept, h1, fun z => absurd z hq, SB hs (by omega) h3⟩
  · by_cases e : j = k
    · subst e
      rw [hk] at hj
      cases hj
      rw [if_pos (show j < j + 1 by omega)]
      exact hi
    · have := S.it j m hj
      have e2 : (if j < k + 1 then i + 1 else i) = (if j < k then i + 1 else i) := by
        by_cases q : j < k
        · rw [if_pos q, if_pos (show j < k + 1 by omega)]
        · rw [if_neg q, if_neg (show ¬ j < k + 1 by omega)]
      rw [e2]
      exact this.extBut hs.extBut (show (b + j : Nat) ≠ b + k by omega)
theorem Mid.fill {b : Nat} {ls : List Addr} {i : Nat} {xs : Nat → Value} {h0 h h' h2 : Heap} {f1 : Bool} {k : Nat} {l : Addr} {kept : Array Value} (S : Mid b ls i xs h0 .ellipsis f1 k h) (hk : ls[k]? = some l) (hi : h'.IsListIter (b + k) l (i + 1)) (hs : Heap.SameBut (b + k) h h')
    (hks : kept.size = ls.length) (hkj : ∀ j : Nat, j < k → kept[j]? = some (xs j)) (hT : IsTup h2 (b + ls.length + 1) (kept.setIfInBounds k (xs k))) (hs2 : Heap.SameBut (b + ls.length + 1) h' h2) : Mid b ls i xs h0 .ellipsis f1 (k + 1) h2 := by
  have kl := (List.getElem?_eq_some_iff.mp hk).1
  refine ⟨SB hs2 (by omega) (SB hs (by omega) S.z), (hs2.1.trans hs.1).trans S.sz, ⟨_, by rw [Array.size_setIfInBounds]; exact hks, fun _ j hj => ?_, hT⟩, fun j m hj => ?_, fun c o hc e => SB hs2 (by omega) (SB hs (by omega) (S.keep c o hc e))⟩
  · by_cases e : j = k
    · subst e
      rw [Array.getElem?_setIfInBounds_self, if_pos (by omega)]
    · rw [Array.getElem?_setIfInBounds_ne (fun z => e z.symm)]
      exact hkj j (by omega)
  · have jl := (List.getElem?_eq_some_iff.mp hj).1
    refine Heap.IsListIter.extBut (h := h') ?_ hs2.extBut (neN (by omega))
    by_cases e : j = k
    · subst e
      rw [hk] at hj
      cases hj
      rw [if_pos (show j < j + 1 by omega)]
      exact hi
    · have := S.it j m hj
      have e2 : (if j < k + 1 then i + 1 else i) = (if j < k then i + 1 else i) := by
        by_cases q : j < k
        · rw [if_pos q, if_pos (show j < k + 1 by omega)]
        · rw [if_neg q, if_neg (show ¬ j < k + 1 by omega)]
      rw [e2]
      exact this.extBut hs.extBut (show (b + j : Nat) ≠ b + k by omega)
/-- what a turn asks of the lists: they stand below, and have an item at i -/
def Lists (b : Nat) (ls : List Addr) (i : Nat) (xs : Nat → Value) (h : Heap) : Prop := ∀ (k : Nat) (l : Addr), ls[k]? = some l → Nat.lt l b ∧ ∃ items, h.IsList l items ∧ items[i]? = some (xs k)
theorem free_wp {z TI TO : Addr} {f0 : Value} {f1 : Bool} (hz : IsZipN s.heap z TI TO f0 f1) (hf : f0 = .none ∨ ∃ a : Addr, f0 = rawInt a) : wpAny (model prog w) A (Builtin.SmallTypes.ownedTupleIsFree (.ref z)) (fun a s' => ∃ (h : Heap) (f1 : Bool), s' = { s with heap := h } ∧ IsZipN h z TI TO f0 f1 ∧ Heap.SameBut z s.heap h) E s := by
  unfold Builtin.SmallTypes.ownedTupleIsFree
  refine wpAny_bind (wpAny_field hz rfl (x := f0) rfl ?_)
  rcases hf with rfl | ⟨a, rfl⟩
  · exact wpAny_pure ⟨s.heap, f1, rfl, hz, Heap.SameBut.refl _ _⟩
  · show wpAny _ _ (loadIfAlive ((a : Int).toNat) >>= _) _ _ _
    refine wpAny_bind (wp_alive ?_)
    cases s.heap.get? (a : Int).toNat with
    | none => exact wpAny_pure ⟨s.heap, f1, rfl, hz, Heap.SameBut.refl _ _⟩
    | some o =>
      simp only [Option.isNone_some, Bool.false_eq_true, if_false]
      refine wpAny_bind (wpAny_field hz rfl (x := .bool f1) rfl ?_)
      cases f1 with
      | true =>
        rw [if_neg (show ¬ ((Value.bool true != Value.bool true) = true) from Bool.false_ne_true)]
        exact wpAny_pure ⟨s.heap, true, rfl, hz, Heap.SameBut.refl _ _⟩
      | false =>
        rw [if_pos (show (Value.bool false != Value.bool true) = true from rfl)]
        exact wpAny_bind (wpAny_setField_rec hz (by simp) fun h₁ hz₁ hs₁ => wpAny_pure ⟨h₁, true, rfl, hz₁, hs₁⟩)
theorem zip_item {b : Nat} {ls : List Addr} {i : Nat} {xs : Nat → Value} {Q : Value → Shared → Prop} (S : St b ls i s.heap) (hn : 1 ≤ ls.length) (hn2 : ls.length ≤ 100000) (hl : Lists b ls i xs s.heap)
    (hQ : ∀ h' (vs : Array Value), vs.size = ls.length → (∀ j : Nat, j < ls.length → vs[j]? = some (xs j)) → IsTup h' s.heap.objs.size vs → h'.objs.size = s.heap.objs.size + 1 → St b ls (i + 1) h' →
      (∀ (c : Nat) o, (c < b ∨ b + ls.length + 2 < c) → s.heap.get? c = some o → h'.get? c = some o) → Q (.ref s.heap.objs.size) { s with heap := h' }) :
    wpAny (model prog w) A (Builtin.«zip.__next__» ⟨[.ref (b + ls.length + 2)], []⟩) (fun fin s' => ∃ v, fin = .done (.ret v) ∧ Q v s') E s := by
  obtain ⟨f0, f1, hz, hf⟩ := S.z
  obtain ⟨kept, hks, hTO⟩ := S.to
  show wpAny _ _ (field (.ref (b + ls.length + 2)) 2 >>= _) _ _ _
  refine wpAny_bind (wpAny_field hz rfl (x := .bool false) rfl ?_)
  show wpAny _ _ (field (.ref (b + ls.length + 2)) 3 >>= _) _ _ _
  refine wpAny_bind (wpAny_field hz rfl (x := .ref (b + ls.length)) rfl ?_)
  refine wpAny_bind (wpAny_seqItems S.ti rfl ?_)
  have hne : (itsL b ls.length).toArray.isEmpty = false := by
    rw [List.isEmpty_toArray]
    cases e : itsL b ls.length with
    | nil =>
      have := itsL_len b ls.length
      rw [e] at this
      simp at this
      omega
    | cons _ _ => rfl
  dsimp only
  rw [hne, if_neg (by decide)]
  refine wpAny_bind (wpAny_mono (free_wp hz hf) (fun a s' h => ?_) fun _ _ z => z)
  obtain ⟨h1, f1', rfl, hz1, hs1⟩ := h
  cases a with
  | true =>
    rw [if_pos rfl]
    refine wpAny_bind (wpAny_rule ?_)
    refine wpAny_bind (wpAny_field hz1 rfl (x := .ref (b + ls.length + 1)) rfl ?_)
    refine wpAny_bind (wpAny_setField_rec hz1 (by simp) fun h2 hz2 hs2 => ?_)
    replace hz2 : IsZipN h2 (b + ls.length + 2) (b + ls.length) (b + ls.length + 1) .ellipsis f1' := hz2
    refine wpAny_bind (wp_forIn (fun (k : Nat) acc s' => acc = (none, ()) ∧ ∃ h, s' = { s with heap := h } ∧ Mid b ls i xs s.heap .ellipsis f1' k h) _ 0 _ _ ⟨rfl, h2, rfl, ?_⟩ ?_ ?_)
    · refine ⟨hz2, hs2.1.trans hs1.1, ⟨kept, hks, fun _ j hj => absurd hj (by omega), SB hs2 (by omega) (SB hs1 (by omega) hTO)⟩, fun j l hj => ?_, fun c o hc e => SB hs2 (by omega) (SB hs1 (by omega) e)⟩
      have jl := (List.getElem?_eq_some_iff.mp hj).1
      rw [if_neg (show ¬ j < 0 by omega)]
      exact ((S.it j l hj).extBut hs1.extBut (neN (by omega))).extBut hs2.extBut (neN (by omega))
    · rintro k ⟨v, kk⟩ acc s1 hv ⟨rfl, h3, rfl, M⟩
      rw [Nat.zero_add] at M ⊢
      have hk : k < ls.length ∧ v = .ref (b + k) ∧ kk = k := by
        rw [List.getElem?_zipIdx] at hv
        by_cases q : k < ls.length
        · rw [itsL_get q] at hv
          simp at hv
          exact ⟨q, hv.1.symm, hv.2.symm⟩
        · rw [List.getElem?_eq_none (by rw [itsL_len]; omega)] at hv
          cases hv
      obtain ⟨q, rfl, rfl⟩ := hk
      have hkl : ls[kk]? = some ls[kk] := List.getElem?_eq_getElem q
      obtain ⟨lt, items, hli, hx⟩ := hl kk _ hkl
      refine wpAny_bind (wpAny_onRaise ?_)
      show wpAny _ _ (Builtin.SmallTypes.nextOf (.ref (b + kk)) >>= _) _ _ _
      have hit := M.it kk _ hkl
      rw [if_neg (show ¬ kk < kk by omega)] at hit
      have hli3 : h3.IsList ls[kk] items := hli.at fun o e => M.keep _ o (.inl lt) e
      refine wpAny_bind (wpAny_nextOf_list_item hit hli3 hx fun h4 hit4 hs4 => wpAny_pure ?_)
      obtain ⟨kp, hkz, hkj, hkT⟩ := M.to
      have hT4 : IsTup h4 (b + ls.length + 1) kp := SB hs4 (by omega) hkT
      refine wpAny_bind (wpAny_seqItems hT4 rfl ?_)
      have zl : (100000 : Nat) + 1 ≤ sizeLine := by decide
      refine wpAny_bind (wpAny_updateSeq hT4 rfl ?_ (by omega) (by rw [Array.size_setIfInBounds]; omega))
      refine wpAny_bind (wpAny_letGo (wpAny_pure ⟨_, rfl, rfl, _, rfl, M.fill hkl hit4 hs4 hkz (hkj rfl) ?_ (Heap.SameBut.update ..)⟩))
      show (h4.update _ _).get? _ = _
      rw [Heap.get?_update_self _ hT4 rfl]
      simp [Obj.mapSeq]
    · rintro acc s1 ⟨rfl, h3, rfl, M⟩
      rw [Nat.zero_add, List.length_zipIdx, itsL_len] at M
      obtain ⟨kp, hkz, hkj, hkT⟩ := M.to
      refine wpAny_bind (wpAny_seqItems hkT rfl ?_)
      have zl : (100000 : Nat) + 1 ≤ sizeLine := by decide
      refine wpAny_bind (wpAny_newTuple ?_ (by rw [Array.length_toList]; omega))
      show wpAny _ _ (Builtin.SmallTypes.ownedTupleHandOut (.ref (b + ls.length + 2)) (.ref h3.objs.size) >>= _) _ _ _
      refine wpAny_bind ?_
      unfold Builtin.SmallTypes.ownedTupleHandOut
      have hz6 : IsZipN (h3.push { cls := .type "tuple", data := .seq kp.toList.toArray }) (b + ls.length + 2) (b + ls.length) (b + ls.length + 1) .ellipsis f1' := Heap.get?_push_of_some _ M.z
      refine wpAny_bind (wpAny_setField_rec hz6 (by simp) fun h7 hz7 hs7 => ?_)
      replace hz7 : IsZipN h7 (b + ls.length + 2) (b + ls.length) (b + ls.length + 1) (rawInt h3.objs.size) f1' := hz7
      refine wpAny_setField_rec hz7 (by simp) fun h8 hz8 hs8 => ?_
      replace hz8 : IsZipN h8 (b + ls.length + 2) (b + ls.length) (b + ls.length + 1) (rawInt h3.objs.size) false := hz8
      have hlt := sizes_le S
      have up : ∀ (c : Nat) o, c ≠ b + ls.length + 2 → h3.get? c = some o → h8.get? c = some o := fun c o c1 e => SB hs8 c1 (SB hs7 c1 (Heap.get?_push_of_some _ e))
      refine wpAny_pure ⟨_, rfl, ?_⟩
      have hsz := M.sz
      show Q (.ref h3.objs.size) _
      rw [hsz] at hz8 ⊢
      refine hQ h8 kp hkz (hkj rfl) ?_ ?_ ⟨⟨_, _, hz8, .inr ⟨_, rfl⟩⟩, up _ _ (by omega) (M.keep _ _ (by omega) S.ti), ⟨kp, hkz, up _ _ (by omega) hkT⟩, fun j l hj => ?_⟩ fun c o hc e => up c o (by omega) (M.keep c o (by omega) e)
      · refine SB hs8 (by omega) (SB hs7 (by omega) ?_)
        rw [← hsz]
        have := Heap.get?_push_size (h := h3) (o := { cls := .type "tuple", data := .seq kp.toList.toArray }) rfl
        rw [Array.toArray_toList] at this ⊢
        exact this
      · rw [hs8.1, hs7.1, Heap.size_push, hsz]
      · have jl := (List.getElem?_eq_some_iff.mp hj).1
        have := M.it j l hj
        rw [if_pos jl] at this
        exact this.at fun o e => up _ o (by omega) e
  | false =>
    rw [if_neg (by decide)]
    rw [← Array.forIn_toList]
    refine wpAny_bind (wp_forIn (fun (k : Nat) acc s' => acc.1 = none ∧ acc.2.size = k ∧ (∀ j : Nat, j < k → acc.2[j]? = some (xs j)) ∧ ∃ h, s' = { s with heap := h } ∧ Mid b ls i xs s.heap f0 f1' k h) _ 0 _ _ ⟨rfl, rfl, fun j hj => absurd hj (by omega), h1, rfl, ?_⟩ ?_ ?_)
    · refine ⟨hz1, hs1.1, ⟨kept, hks, fun _ j hj => absurd hj (by omega), SB hs1 (by omega) hTO⟩, fun j l hj => ?_, fun c o hc e => SB hs1 (by omega) e⟩
      have jl := (List.getElem?_eq_some_iff.mp hj).1
      rw [if_neg (show ¬ j < 0 by omega)]
      exact (S.it j l hj).extBut hs1.extBut (show (b + j : Nat) ≠ b + ls.length + 2 by omega)
    · rintro k v ⟨a1, a2⟩ s1 hv ⟨rfl, hz2, hx2, h3, rfl, M⟩
      rw [Nat.zero_add] at M hz2 hx2 ⊢
      dsimp only at hz2 hx2
      have hk : k < ls.length ∧ v = .ref (b + k) := by
        by_cases q : k < ls.length
        · rw [itsL_get q] at hv
          cases hv
          exact ⟨q, rfl⟩
        · rw [List.getElem?_eq_none (by rw [itsL_len]; omega)] at hv
          cases hv
      obtain ⟨q, rfl⟩ := hk
      have hkl : ls[k]? = some ls[k] := List.getElem?_eq_getElem q
      obtain ⟨lt, items, hli, hx⟩ := hl k _ hkl
      refine wpAny_bind (wpAny_holding ?_)
      show wpAny _ _ (Builtin.SmallTypes.nextOf (.ref (b + k)) >>= _) _ _ _
      have hit := M.it k _ hkl
      rw [if_neg (show ¬ k < k by omega)] at hit
      have hli3 : h3.IsList ls[k] items := hli.at fun o e => M.keep _ o (.inl lt) e
      refine wpAny_bind (wpAny_nextOf_list_item hit hli3 hx fun h4 hit4 hs4 => wpAny_pure ?_)
      refine wpAny_pure ⟨_, rfl, rfl, ?_, fun j hj => ?_, _, rfl, M.step hkl hit4 hs4 ?_⟩
      · show (a2.push _).size = _
        rw [Array.size_push]
        omega
      · show (a2.push (xs k))[j]? = _
        rw [Array.getElem?_push]
        by_cases e : j = k
        · rw [if_pos (show j = a2.size by omega), e]
        · rw [if_neg (show ¬ j = a2.size by omega)]
          exact hx2 j (by omega)
      · rcases hf with rfl | ⟨a, rfl⟩
        · exact fun z => by cases z
        · exact fun z => by cases z
    · rintro ⟨a1, a2⟩ s1 ⟨rfl, hz2, hx2, h3, rfl, M⟩
      rw [Nat.zero_add, itsL_len] at M hz2 hx2
      dsimp only at hz2 hx2
      have zl : (100000 : Nat) + 1 ≤ sizeLine := by decide
      show wpAny _ _ (newTuple a2.toList >>= _) _ _ _
      refine wpAny_bind (wpAny_newTuple ?_ (by rw [Array.length_toList]; omega))
      obtain ⟨kp, hkz, hkj, hkT⟩ := M.to
      refine wpAny_pure ⟨_, rfl, ?_⟩
      have hsz := M.sz
      have hlt := sizes_le S
      show Q (.ref h3.objs.size) _
      have up : ∀ (c : Nat) o, h3.get? c = some o → (h3.push { cls := .type "tuple", data := .seq a2.toList.toArray }).get? c = some o := fun c o e => Heap.get?_push_of_some _ e
      have hsp : (h3.push { cls := .type "tuple", data := .seq a2.toList.toArray }).objs.size = h3.objs.size + 1 := Heap.size_push ..
      have hgt := Heap.get?_push_size (h := h3) (o := { cls := .type "tuple", data := .seq a2.toList.toArray }) rfl
      rw [hsz] at hsp hgt ⊢
      rw [Array.toArray_toList] at hgt hsp up ⊢
      refine hQ _ a2 hz2 hx2 hgt hsp ⟨⟨f0, f1', up _ _ M.z, hf⟩, up _ _ (M.keep _ _ (by omega) S.ti), ⟨kp, hkz, up _ _ hkT⟩, fun j l hj => ?_⟩ fun c o hc e => up c o (M.keep c o (by omega) e)
      have jl := (List.getElem?_eq_some_iff.mp hj).1
      have := M.it j l hj
      rw [if_pos jl] at this
      exact this.at fun o e => up _ o e
theorem stop_wp {α : Type} {Q : α → Shared → Prop} (hh : A.handled = none) (h : ∀ h' e, (∀ c o, s.heap.get? c = some o → h'.get? c = some o) → s.heap.objs.size ≤ e → (∃ o, h'.get? e = some o ∧ o.cls = .type "StopIteration") → E (.ref e) { s with heap := h' }) : wpAny (model prog w) A (Builtin.SmallTypes.stopIteration) Q E s := by
  show wpAny _ _ (newExc (.type "StopIteration") [] >>= _) _ _ _
  refine wpAny_bind ?_
  simp only [newExc, newTuple]
  refine wpAny_bind (wpAny_newObj_type ?_ (by size_fits))
  refine wpAny_bind (m := firstArgMember _ _) (wpAny_of_eq (a := Value.none) (by first | rfl | (simp only [firstArgMember]; rfl)) ?_)
  refine wpAny_newObj_type ?_ (by size_fits)
  simp only [raiseNew]
  refine wpAny_bind (wpAny_handled ?_)
  first | rw [show A.in1.handled = none from hh] | rw [hh]
  refine wpAny_bind (wpAny_pure (wpAny_throw ?_))
  exact h _ _ (fun c o e => Heap.get?_push_of_some _ (Heap.get?_push_of_some _ e)) (by rw [Heap.size_push]; exact Nat.le_succ _) ⟨_, Heap.get?_push_size _ rfl, rfl⟩
theorem zip_end {b : Nat} {ls : List Addr} {i : Nat} {Q : Fin → Shared → Prop} (hh : A.handled = none) (S : St b ls i s.heap) (hl : ∀ l, ls[0]? = some l → Nat.lt l b ∧ ∃ items, s.heap.IsList l items ∧ items[i]? = none)
    (hE : ∀ h' e, (∀ (c : Nat) o, (c < b ∨ b + ls.length + 2 < c) → s.heap.get? c = some o → h'.get? c = some o) → (∃ o, h'.get? e = some o ∧ o.cls = .type "StopIteration") → E (.ref e) { s with heap := h' }) :
    wpAny (model prog w) A (Builtin.«zip.__next__» ⟨[.ref (b + ls.length + 2)], []⟩) Q E s := by
  obtain ⟨f0, f1, hz, hf⟩ := S.z
  obtain ⟨kept, hks, hTO⟩ := S.to
  show wpAny _ _ (field (.ref (b + ls.length + 2)) 2 >>= _) _ _ _
  refine wpAny_bind (wpAny_field hz rfl (x := .bool false) rfl ?_)
  show wpAny _ _ (field (.ref (b + ls.length + 2)) 3 >>= _) _ _ _
  refine wpAny_bind (wpAny_field hz rfl (x := .ref (b + ls.length)) rfl ?_)
  refine wpAny_bind (wpAny_seqItems S.ti rfl ?_)
  dsimp only
  cases e : ls with
  | nil =>
    subst e
    rw [if_pos (show (itsL b ([] : List Addr).length).toArray.isEmpty = true from rfl)]
    refine wpAny_bind (wpAny_rule ?_)
    exact wpAny_bind (stop_wp hh fun h' e k _ o => hE h' e (fun c o _ z => k c o z) o)
  | cons l r =>
    rw [← e]
    have hit : ∃ tl, itsL b ls.length = Value.ref b :: tl := ⟨(itsL b ls.length).tail, by
      cases e2 : itsL b ls.length with
      | nil =>
        have := itsL_len b ls.length
        rw [e2, e] at this
        simp at this
      | cons x y =>
        have := itsL_get (b := b) (n := ls.length) (k := 0) (by rw [e]; simp)
        rw [e2] at this
        cases this
        rfl⟩
    obtain ⟨tl, hit⟩ := hit
    have hne : (itsL b ls.length).toArray.isEmpty = false := by
      rw [hit]
      rfl
    have hl0 : ls[0]? = some l := by rw [e]; rfl
    have hpos : 0 < ls.length := by rw [e]; simp
    obtain ⟨lt, items, hli, hx⟩ := hl l hl0
    have lt : l < b := lt
    have lt2 : l ≠ b + ls.length + 2 := Nat.ne_of_lt (Nat.lt_of_lt_of_le lt (Nat.le_trans (Nat.le_add_right _ _) (Nat.le_add_right _ _)))
    have hi0 := S.it 0 l hl0
    rw [hne, if_neg (by decide)]
    refine wpAny_bind (wpAny_mono (free_wp hz hf) (fun a s' h => ?_) fun _ _ z => z)
    obtain ⟨h1, f1', rfl, hz1, hs1⟩ := h
    cases a with
    | true =>
      rw [if_pos rfl]
      refine wpAny_bind (wpAny_rule ?_)
      refine wpAny_bind (wpAny_field hz1 rfl (x := .ref (b + ls.length + 1)) rfl ?_)
      refine wpAny_bind (wpAny_setField_rec hz1 (by simp) fun h2 hz2 hs2 => ?_)
      rw [hit, List.zipIdx_cons, List.forIn_cons]
      refine wpAny_bind (wpAny_bind (wpAny_bind (wpAny_onRaise ?_)))
      show wpAny _ _ (Builtin.SmallTypes.nextOf (.ref b) >>= _) _ _ _
      refine wpAny_bind (wpAny_nextOf_list_end hh ((hi0.extBut hs1.extBut (show (b + 0 : Nat) ≠ b + ls.length + 2 by omega)).extBut hs2.extBut (show (b + 0 : Nat) ≠ b + ls.length + 2 by omega)) ((hli.extBut hs1.extBut lt2).extBut hs2.extBut lt2) hx fun h3 e hs3 he => ?_)
      obtain ⟨oe, hoe, hce⟩ := he
      have hz3 := hs3 _ _ (show (b + ls.length + 2 : Nat) ≠ b + 0 by omega) hz2
      have hez : e ≠ b + ls.length + 2 := fun x => by
        subst x
        rw [hz3] at hoe
        cases hoe
        simp at hce
      exact wpAny_setField_rec hz3 (by simp) fun h4 _ hs4 => hE h4 e (fun c o hc x => hs4.extBut _ _ (show c ≠ b + ls.length + 2 by omega) (hs3 _ _ (show c ≠ b + 0 by omega) (hs2.extBut _ _ (show c ≠ b + ls.length + 2 by omega) (hs1.extBut _ _ (show c ≠ b + ls.length + 2 by omega) x)))) ⟨oe, hs4.extBut _ _ hez hoe, hce⟩
    | false =>
      rw [if_neg (by decide)]
      rw [← Array.forIn_toList, hit, List.forIn_cons]
      refine wpAny_bind (wpAny_bind (wpAny_bind (wpAny_holding ?_)))
      show wpAny _ _ (Builtin.SmallTypes.nextOf (.ref b) >>= _) _ _ _
      refine wpAny_bind (wpAny_nextOf_list_end hh (hi0.extBut hs1.extBut (show (b + 0 : Nat) ≠ b + ls.length + 2 by omega)) (hli.extBut hs1.extBut lt2) hx fun h3 e hs3 he => ?_)
      exact hE h3 e (fun c o hc x => hs3 _ _ (show c ≠ b + 0 by omega) (hs1.extBut _ _ (show c ≠ b + ls.length + 2 by omega) x)) he
theorem next_item {b : Nat} {ls : List Addr} {i : Nat} {xs : Nat → Value} {Q : Option Value → Shared → Prop} (S : St b ls i s.heap) (hn : 1 ≤ ls.length) (hn2 : ls.length ≤ 100000) (hl : Lists b ls i xs s.heap)
    (hQ : ∀ h' (vs : Array Value), vs.size = ls.length → (∀ j : Nat, j < ls.length → vs[j]? = some (xs j)) → IsTup h' s.heap.objs.size vs → h'.objs.size = s.heap.objs.size + 1 → St b ls (i + 1) h' →
      (∀ (c : Nat) o, (c < b ∨ b + ls.length + 2 < c) → s.heap.get? c = some o → h'.get? c = some o) → Q (some (.ref s.heap.objs.size)) { s with heap := h' }) :
    wpAny (model prog w) A (pyNext (.ref (b + ls.length + 2))) Q E s := by
  obtain ⟨f0, f1, hz, hf⟩ := id S.z
  have hT : s.TypeIs (.ref (b + ls.length + 2)) "zip" := ⟨_, hz, rfl⟩
  unfold pyNext
  exact wpAny_bind (wpAny_attempt (wpAny_callSpecial?_slot (name := Str.ofString "__next__") hT F.slot_zip_next
    (wpAny_call_entry F.slot_zip_next hT F.entry_zip_next
      (zip_item S hn hn2 hl fun h' vs a1 a2 a3 a4 a5 a6 => wpAny_pure (hQ h' vs a1 a2 a3 a4 a5 a6)) (F.args_zip_next_1 _))))
theorem next_end {b : Nat} {ls : List Addr} {i : Nat} {Q : Option Value → Shared → Prop} (hh : A.handled = none) (S : St b ls i s.heap) (hl : ∀ l, ls[0]? = some l → Nat.lt l b ∧ ∃ items, s.heap.IsList l items ∧ items[i]? = none)
    (hQ : ∀ h', (∀ (c : Nat) o, (c < b ∨ b + ls.length + 2 < c) → s.heap.get? c = some o → h'.get? c = some o) → Q none { s with heap := h' }) : wpAny (model prog w) A (pyNext (.ref (b + ls.length + 2))) Q E s := by
  obtain ⟨f0, f1, hz, hf⟩ := id S.z
  have hT : s.TypeIs (.ref (b + ls.length + 2)) "zip" := ⟨_, hz, rfl⟩
  unfold pyNext
  refine wpAny_bind (wpAny_attempt (wpAny_callSpecial?_slot (name := Str.ofString "__next__") hT F.slot_zip_next
    (wpAny_call_entry F.slot_zip_next hT F.entry_zip_next (zip_end hh S hl fun h' e hk he => ?_) (F.args_zip_next_1 _))))
  obtain ⟨o, ho, hc⟩ := he
  refine wpAny_bind (wpAny_isInstance (T := "StopIteration") (b := true) ⟨o, ho, hc⟩ isSubtype_stop ?_)
  exact wpAny_pure (hQ _ hk)
theorem iter_zip {z TI TO : Addr} {f0 : Value} {f1 : Bool} {Q : Value → Shared → Prop} (hz : IsZipN s.heap z TI TO f0 f1) (h : Q (.ref z) s) : wpAny (model prog w) A (pyIter (.ref z)) Q E s := by
  have hT : s.TypeIs (.ref z) "zip" := ⟨_, hz, rfl⟩
  refine wpAny_pyIter_slot hT F.slot_zip_iter (wpAny_call_entry F.slot_zip_iter hT F.entry_zip_iter ?_ (F.args_zip_iter_1 _))
  show wpAny _ _ (ret (.ref z)) _ _ s
  exact wpAny_pure ⟨_, rfl, "zip", _, hT, F.slot_zip_next.lookup, h⟩
/-! the call -/
def iterH (h : Heap) : List Addr → Heap
  | [] => h
  | l :: r => iterH (h.push { cls := .type "list_iterator", data := .fields #[.ref l, .int 0 0] }) r
theorem iterH_size : ∀ (ls : List Addr) (h : Heap), (iterH h ls).objs.size = h.objs.size + ls.length
  | [], h => rfl
  | l :: r, h => by
    unfold iterH
    rw [iterH_size r, Heap.size_push, List.length_cons]
    omega
theorem iterH_keep : ∀ (ls : List Addr) (h : Heap) {c : Addr} {o : Obj}, h.get? c = some o → (iterH h ls).get? c = some o
  | [], _, _, _, e => e
  | l :: r, h, _, _, e => iterH_keep r _ (Heap.get?_push_of_some _ e)
theorem iterH_it : ∀ (ls : List Addr) (h : Heap) (k : Nat) (l : Addr), ls[k]? = some l → (iterH h ls).IsListIter (h.objs.size + k) l 0
  | [], _, _, _, e => by simp at e
  | m :: r, h, 0, l, e => by
    cases e
    exact ⟨_, iterH_keep r _ (Heap.get?_push_size _ rfl), rfl, rfl⟩
  | m :: r, h, k + 1, l, e => by
    have := iterH_it r (h.push { cls := .type "list_iterator", data := .fields #[.ref m, .int 0 0] }) k l (by simpa using e)
    rw [Heap.size_push, show h.objs.size + 1 + k = h.objs.size + (k + 1) by omega] at this
    exact this
abbrev nH2 (h : Heap) (ls : List Addr) : Heap := (iterH h ls).push { cls := .type "tuple", data := .seq (itsL h.objs.size ls.length).toArray }
abbrev nH3 (h : Heap) (ls : List Addr) : Heap := (nH2 h ls).push { cls := .type "tuple", data := .seq ((itsL h.objs.size ls.length).map fun _ => Value.none).toArray }
abbrev nH4 (h : Heap) (ls : List Addr) : Heap := (nH3 h ls).push { cls := .type "zip", data := .fields #[.none, .bool false, .bool false, .ref (iterH h ls).objs.size, .ref (nH2 h ls).objs.size] }
theorem meets_new (ls : List Addr) (hn : ls.length ≤ 100000) :
    Meets (Builtin.«zip.__new__» ⟨.type "zip" :: ls.map Value.ref, []⟩) (fun _ R s => (∀ l ∈ ls, ∃ items, s.heap.IsList l items) ∧
      R (.ok (.ret (.ref (nH3 s.heap ls).objs.size))) { s with heap := nH4 s.heap ls }) :=
  .of_wp fun prog w A R s h => by
    obtain ⟨hp, g, d, tk, os⟩ := s
    obtain ⟨hls, h⟩ := h
    have hsub := sub_zip
    wp_walk using hsub
    have hls2 : ∀ (m : Nat) (l : Addr), ls[m]? = some l → ∃ items, hp.IsList l items := fun m l hm => hls l (List.mem_of_getElem? hm)
    have keyL : ∀ (r : List Addr) (h0 : Heap) (acc : Array Value) (Q : Array Value → Shared → Prop) (E : Value → Shared → Prop), (∀ l ∈ r, ∃ items, h0.IsList l items) → Q (acc ++ (itsL h0.objs.size r.length).toArray) ⟨iterH h0 r, g, d, tk, os⟩ →
        wpAny (model prog w) A.in1 (forIn (r.map Value.ref) acc fun x its => do
          let v ← holding its.toList (pyIter x)
          pure (ForInStep.yield (its.push v))) Q E ⟨h0, g, d, tk, os⟩ := by
      intro r
      induction r with
      | nil =>
        intro h0 acc Q E _ hq
        rw [List.map_nil, List.forIn_nil]
        refine wpAny_pure ?_
        have e : acc ++ (itsL h0.objs.size ([] : List Addr).length).toArray = acc := by simp [itsL]
        rw [e] at hq
        exact hq
      | cons l r ih =>
        intro h0 acc Q E hr hq
        rw [List.map_cons, List.forIn_cons]
        obtain ⟨items, hi⟩ := hr l (List.mem_cons_self ..)
        refine wpAny_bind (wpAny_bind (wpAny_holding (wpAny_pyIter_list hi (wpAny_pure ?_))))
        refine ih (h0.push _) (acc.push _) Q E (fun m hm => ?_) ?_
        · obtain ⟨it2, hi2⟩ := hr m (List.mem_cons_of_mem _ hm)
          exact ⟨it2, hi2.push _⟩
        · have e : acc.push (Value.ref h0.objs.size) ++ (itsL (h0.objs.size + 1) r.length).toArray = acc ++ (itsL h0.objs.size (r.length + 1)).toArray := by
            have e2 : itsL h0.objs.size (r.length + 1) = Value.ref h0.objs.size :: itsL (h0.objs.size + 1) r.length := by
              unfold itsL
              rw [List.range_succ_eq_map, List.map_cons, List.map_map]
              congr 1
              refine List.map_congr_left fun k _ => ?_
              show Value.ref (h0.objs.size + (k + 1)) = Value.ref (h0.objs.size + 1 + k)
              rw [show h0.objs.size + (k + 1) = h0.objs.size + 1 + k by omega]
            rw [e2]
            simp
          rw [Heap.size_push, e]
          exact hq
    refine (show wpAny (model prog w) A.in1 (forIn (ls.map Value.ref) (#[] : Array Value) fun x its => do
          let v ← holding its.toList (pyIter x)
          pure (ForInStep.yield (its.push v))) _ _ _ from keyL ls hp #[] _ _ hls ?_)
    rw [show (#[] : Array Value) ++ (itsL hp.objs.size ls.length).toArray = (itsL hp.objs.size ls.length).toArray by simp]
    dsimp only
    refine wpAny_pure ?_
    have zl : (100000 : Nat) + 1 ≤ sizeLine := by decide
    refine wpAny_bind (wpAny_newTuple ?_ (by rw [itsL_len]; omega))
    refine wpAny_bind (wpAny_newTuple ?_ (by rw [List.length_map, itsL_len]; omega))
    unfold Builtin.SmallTypes.newRecord
    refine wpAny_bind (wpAny_newObj_type ?_ (by simp [sizeOk, Builtin.SmallTypes.ownedTupleFields]; try decide))
    exact wpAny_pure ⟨_, rfl, h⟩
theorem call_zip {ls : List Addr} {Q : Value → Shared → Prop} (hn : ls.length ≤ 100000) (hl : ∀ l ∈ ls, ∃ items, s.heap.IsList l items)
    (h : ∀ h', St s.heap.objs.size ls 0 h' → (∀ c o, s.heap.get? c = some o → h'.get? c = some o) → h'.objs.size = s.heap.objs.size + ls.length + 3 → Q (.ref (s.heap.objs.size + ls.length + 2)) { s with heap := h' }) :
    wpAny (model prog w) A (call (.type "zip") (ls.map Value.ref)) Q E s := by
  refine callType_new F.called_zip (by decide) (typeCall_zip _) (newCall_zip _) (fun obj => args_init obj _) F.entry_zip_new (meets_new ls hn) ⟨hl, ?_⟩
  have z1 : (iterH s.heap ls).objs.size = s.heap.objs.size + ls.length := iterH_size ..
  have z2 : (nH2 s.heap ls).objs.size = s.heap.objs.size + ls.length + 1 := by rw [Heap.size_push, z1]
  have z3 : (nH3 s.heap ls).objs.size = s.heap.objs.size + ls.length + 2 := by rw [Heap.size_push, z2]
  have z4 : (nH4 s.heap ls).objs.size = s.heap.objs.size + ls.length + 3 := by rw [Heap.size_push, z3]
  have g4 : (nH4 s.heap ls).get? (nH3 s.heap ls).objs.size = some _ := Heap.get?_push_size _ rfl
  have g3 : (nH4 s.heap ls).get? (nH2 s.heap ls).objs.size = some _ := Heap.get?_push_of_some _ (Heap.get?_push_size _ rfl)
  have g2 : (nH4 s.heap ls).get? (iterH s.heap ls).objs.size = some _ := Heap.get?_push_of_some _ (Heap.get?_push_of_some _ (Heap.get?_push_size _ rfl))
  have up : ∀ c o, (iterH s.heap ls).get? c = some o → (nH4 s.heap ls).get? c = some o := fun c o e => Heap.get?_push_of_some _ (Heap.get?_push_of_some _ (Heap.get?_push_of_some _ e))
  show _ ∧ _
  rw [z1, z2, z3] at g4
  rw [z2] at g3
  rw [z1] at g2
  rw [z3]
  exact ⟨⟨_, g4, rfl⟩, h _ ⟨⟨_, _, g4, .inl rfl⟩, g2, ⟨_, by rw [List.size_toArray, List.length_map, itsL_len], g3⟩, fun k l hk => (iterH_it ls s.heap k l hk).at fun o e => up _ o e⟩ (fun c o e => up c o (iterH_keep ls _ e)) z4⟩
end
end ZN

namespace ZX
open PySem PySem.Spec PyProof.Rows L2
/-! ### a loop over zip(*rows) -/
section
variable {M : Model} {A : Around} {E : Value → Shared → Prop} {s : Shared}
theorem callWith_typeS {pos p : Pos} {T : String} {e : Expr} {env : Env} {Q : Value → Shared → Prop} (h : wpAny M A (eval e env) (fun v s1 => PySem.W.StarOf M A E v (fun vs s2 => wpAny M A (call (.type T) vs) Q E s2) s1) E s)
    (he : starEach [.Starred e p] env = [(true, eval e env)] := by rfl) : wpAny M A (callWith pos (.type T) [] (backTo pos (starEach [.Starred e p] env)) []) Q E s := by
  rw [he]
  unfold callWith
  refine wpAny_bind (wpAny_holding (wpAny_mono (PySem.W.ks_lone (Q := fun a s1 => wpAny M A (call (.type T) a.pos a.kw) Q E s1) h) (fun a s₁ h₁ => wpAny_bind (wpAny_standAt ?_)) fun _ _ x => x))
  refine wpAny_bind (show wpAny _ _ (keeperOf (.type T)) _ _ _ from wpAny_pure ?_)
  have tail : ∀ {t : Sem Value}, wpAny M A t Q E s₁ → wpAny M A (t >>= fun r => holding [r] point >>= fun _ => pure r) Q E s₁ :=
    fun ht => wpAny_bind (wpAny_mono ht (fun r s₂ hr => wpAny_bind (wpAny_holding (wpAny_point (wpAny_pure hr)))) fun _ _ x => x)
  exact tail (wpAny_operating h₁)
end
/-- the lists at ls, walked side by side, the items in new tuples -/
def ItZ (K : PySem.W.Frag) (ls : List Addr) : It :=
  ⟨fun i H => 1 ≤ ls.length ∧ ∀ l ∈ ls, ∃ xs x, SqL K H l xs ∧ xs[i]? = some x,
    fun i H v H' => ∃ T ys, v = .ref T ∧ H T = none ∧ H' = upd H T (.tup ys) ∧ ys.length = ls.length ∧ ∀ (k : Nat) l xs, ls[k]? = some l → SqL K H l xs → xs[i]? = ys[k]?,
    fun i H => ∀ l, ls[0]? = some l → ∃ xs, SqL K H l xs ∧ xs.length ≤ i⟩
def fpZ (b n : Nat) : List Addr := (List.range (n + 3)).map fun k => b + k
theorem mem_fpZ {b n c : Nat} : c ∈ fpZ b n ↔ b ≤ c ∧ c ≤ b + n + 2 := by
  unfold fpZ
  rw [List.mem_map]
  constructor
  · rintro ⟨k, hk, rfl⟩
    have := List.mem_range.mp hk
    omega
  · intro h
    exact ⟨c - b, List.mem_range.mpr (by omega), by omega⟩
theorem not_fpZ {b n c : Nat} (h : c ∉ fpZ b n) : c < b ∨ b + n + 2 < c := by
  rw [mem_fpZ] at h
  omega
/-- the items of the i-th column -/
theorem column {X : Cx} {pins : List (Addr × Obj)} {σ : L2.St} {H : Hp} {s : Shared} {i : Nat} (I : Inv X pins σ H s) : ∀ (ls : List Addr), (∀ l ∈ ls, ∃ xs x, SqL X.K H l xs ∧ xs[i]? = some x) →
    ∃ (ys : List V) (us : List Value), Vals ys us ∧ ys.length = ls.length ∧ (∀ (k : Nat) (l : Addr), ls[k]? = some l → ∃ items u, s.heap.IsList l items ∧ us[k]? = some u ∧ items[i]? = some u) ∧ ∀ (k : Nat) l xs, ls[k]? = some l → SqL X.K H l xs → xs[i]? = ys[k]?
  | [], _ => ⟨[], [], .nil, rfl, fun k l h => by simp at h, fun k l xs h => by simp at h⟩
  | l :: r, h => by
    obtain ⟨ys, us, h1, h2, h3, h4⟩ := column I r fun m hm => h m (List.mem_cons_of_mem _ hm)
    obtain ⟨xs, x, hq, hx⟩ := h l (List.mem_cons_self ..)
    obtain ⟨its, rv, p, _⟩ := I.list hq
    obtain ⟨u, hu, ru⟩ := rv.get hx
    refine ⟨x :: ys, u :: us, .cons ru h1, by simp [h2], fun k m hk => ?_, fun k m zs hk hz => ?_⟩
    · cases k with
      | zero =>
        cases hk
        exact ⟨_, u, p.isList, rfl, by simpa using hu⟩
      | succ k => exact h3 k m (by simpa using hk)
    · cases k with
      | zero =>
        cases hk
        rw [I.list_inj hz hq]
        exact hx
      | succ k => exact h4 k m zs (by simpa using hk) hz
theorem turn_zipN {P : Program} {w : World} {K : PySem.W.Frag} {x : Str} {xp : Pos} {ls : List Addr} {b : Nat} (hn : ls.length ≤ 100000) (hb : ∀ l ∈ ls, Nat.lt l b) :
    Turn P w K (.Name x xp) (ItZ K ls) (fpZ b ls.length) (b + ls.length + 2) (fun i h => ZN.St b ls i h) where
  mem := mem_fpZ.mpr (by omega)
  obj := fun i h S c hc => by
    have hc := mem_fpZ.mp hc
    by_cases e : c = b + ls.length + 2
    · obtain ⟨f0, f1, hz, _⟩ := S.z
      rw [e]
      exact ⟨_, hz, fun v q => nomatch q⟩
    by_cases e1 : c = b + ls.length
    · rw [e1]
      exact ⟨_, S.ti, fun v q => nomatch q⟩
    by_cases e2 : c = b + ls.length + 1
    · obtain ⟨kept, _, hT⟩ := S.to
      rw [e2]
      exact ⟨_, hT, fun v q => nomatch q⟩
    · have e : ∃ k : Nat, k < ls.length ∧ c = b + k := ⟨(show Nat from c) - b, by
        have q : (show Nat from c) ≠ b + ls.length + 2 := e
        have q1 : (show Nat from c) ≠ b + ls.length := e1
        have q2 : (show Nat from c) ≠ b + ls.length + 1 := e2
        dsimp only at q q1 q2 ⊢
        omega, by
        show (show Nat from c) = b + ((show Nat from c) - b)
        dsimp only
        omega⟩
      obtain ⟨k, hk, rfl⟩ := e
      obtain ⟨o, ho, _, hd⟩ := S.it k _ (List.getElem?_eq_getElem hk)
      exact ⟨o, ho, fun v q => by rw [hd] at q; cases q⟩
  keep := fun i h h' S k => by
    have k : ∀ (c : Nat), b ≤ c ∧ c ≤ b + ls.length + 2 → ∀ o, h.get? c = some o → h'.get? c = some o := fun c hc => k c (mem_fpZ.mpr hc)
    obtain ⟨f0, f1, hz, hf⟩ := S.z
    obtain ⟨kept, hks, hT⟩ := S.to
    exact ⟨⟨f0, f1, k _ (by omega) _ hz, hf⟩, k _ (by omega) _ S.ti, ⟨kept, hks, k _ (by omega) _ hT⟩, fun j l hj => (S.it j l hj).at fun o q => k (b + j) (by have := (List.getElem?_eq_some_iff.mp hj).1; omega) o q⟩
  item := by
    intro X hP hw hK hc i pins s σ H E I hf S hg
    subst hP hw hK
    obtain ⟨hg1, hg⟩ := hg
    obtain ⟨ys, us, hv, hyl, hit, hxs⟩ := column I ls hg
    have hul : us.length = ys.length := hv.length.symm
    refine ZN.next_item (xs := fun k => us.getD k .none) S hg1 hn (fun k l hk => ?_) fun h' vs hsz hvs hT hsize S' hk => ?_
    · obtain ⟨items, u, h1, h2, h3⟩ := hit k l hk
      refine ⟨hb l (List.mem_of_getElem? hk), items, h1, ?_⟩
      show items[i]? = some (us.getD k .none)
      rw [List.getD_eq_getElem?_getD, h2]
      exact h3
    · refine ⟨_, rfl, wpAny_pure ?_⟩
      have evs : vs = us.toArray := by
        apply Array.ext
        · rw [hsz, List.size_toArray, hul, hyl]
        · intro j h1 h2
          have := hvs j (by omega)
          rw [Array.getElem?_eq_getElem h1] at this
          have h3 : j < us.length := by rw [List.size_toArray] at h2; exact h2
          rw [List.getD_eq_getElem?_getD, List.getElem?_eq_getElem h3] at this
          have := Option.some.inj this
          rw [this]
          simp
      rw [evs] at hT
      have zl : (100000 : Nat) ≤ sizeLine := by decide
      have new : ObjOk X.prog X.w (upd H s.heap.objs.size (.tup ys)) h' s.heap.objs.size (.tup ys) :=
        ⟨by show ys.length ≤ sizeLine; omega, us, hv, ⟨_, hT, rfl, _, rfl⟩⟩
      have I1 : Inv X pins σ (upd H s.heap.objs.size (.tup ys)) { s with heap := h' } :=
        I.turnedNew (t' := s.toks) (ch := fpZ b ls.length) (fun c o hb q => hk c o (not_fpZ hb) q) hf (Nat.le_refl _) new
      have hlt := ZN.sizes_le S
      refine ⟨.ref s.heap.objs.size, _, I1, rfl, ⟨_, ys, rfl, I.hok.fresh (Nat.le_refl _), rfl, hyl, hxs⟩, S', fun c hcm => ?_⟩
      have hc2 := mem_fpZ.mp hcm
      rw [upd_ne (show c ≠ s.heap.objs.size from Nat.ne_of_lt (by omega))]
      exact (hf c hcm).1
  done := by
    intro X hP hw hK hc i pins s σ H E I hf S hg
    subst hP hw hK
    refine ZN.next_end (I.ok.hd hc) S (fun l hl => ?_) fun h' hk => ⟨rfl, I.turnedL (t' := s.toks) (ch := fpZ b ls.length) (fun c o hb q => hk c o (not_fpZ hb) q) hf⟩
    obtain ⟨xs, hq, hle⟩ := hg l hl
    obtain ⟨its, rv, p, _⟩ := I.list hq
    have l1 := rv.length
    exact ⟨hb l (List.mem_of_getElem? hl), _, p.isList, by simp; omega⟩
  self := fun A i s Q E S h => by
    obtain ⟨f0, f1, hz, _⟩ := S.z
    exact ZN.iter_zip hz h
def iZipN (K : PySem.W.Frag) (te : TE) : TI := fun σ H R => te σ H fun x H1 => ∃ a ls, x = V.ref a ∧ (SqT K H1 a (ls.map V.ref) ∨ SqL K H1 a (ls.map V.ref)) ∧ ls.length ≤ 100000 ∧ (∀ l ∈ ls, ∃ xs, SqL K H1 l xs) ∧ R (ItZ K ls) H1
theorem pi_zipN {X : Cx} {e : Expr} {te : TE} {p sp pos xp : Pos} {x : Str} (hg : Gl X "zip") (hm : X.mg "zip" = none) (he : PE X e te)
    (hs : starEach [.Starred e sp] X.env = [(true, eval e X.env)] := by rfl) :
    PI X (.Name x xp) (.Call (.Name "zip" p) [.Starred e sp] [] pos) (iZipN X.K te) := by
  refine ⟨fun pins s σ H R I h => ?_⟩
  refine Call_ (ld_blt I hg hm PyProof.Rows.boot_zip (callWith_typeS (thn (he.run pins s σ H _ I h) fun v s1 ⟨y, H1, I1, ry, a, ls, ey, hq, hn, hl, q⟩ => ?_) hs))
  subst ey
  obtain rfl : v = Value.ref a := ry
  refine StX.star_any I1 hq fun us s2 I2 rv => ?_
  have eu : us = ls.map Value.ref := by
    clear hq hn hl q
    induction ls generalizing us with
    | nil => cases rv; rfl
    | cons l r ih =>
      cases rv with
      | cons r1 r2 =>
        cases r1
        rw [ih _ r2]
        rfl
  subst eu
  refine ZN.call_zip hn (fun l hl2 => ?_) fun h' S hk hsz => ?_
  · obtain ⟨xs, hx⟩ := hl l hl2
    obtain ⟨its, rv, p1, _⟩ := I2.list hx
    exact ⟨_, p1.isList⟩
  · obtain ⟨f0, f1, hz, _⟩ := id S.z
    refine ZN.iter_zip hz ?_
    have I3 : Inv X pins σ H1 { s2 with heap := h' } := I2.kept (t' := s2.toks) hk
    refine ⟨s2.heap.objs.size + ls.length + 2, fpZ s2.heap.objs.size ls.length, _, _, H1, rfl, I3, turn_zipN hn (fun l hl2 => ?_), S, fun c hcm => ?_, q⟩
    · obtain ⟨xs, hx⟩ := hl l hl2
      obtain ⟨its, rv, p1, _⟩ := I2.list hx
      exact p1.lt
    · have hc2 := mem_fpZ.mp hcm
      exact I2.fpOk hc2.1 (I2.hok.fresh hc2.1)
theorem pi_zipNK {X : Cx} {K : PySem.W.Frag} {e : Expr} {te : TE} {p sp pos xp : Pos} {x : Str} (hg : Gl X "zip") (hm : X.mg "zip" = none) (he : PE X e te) (hK : X.K = K := by rfl)
    (hs : starEach [.Starred e sp] X.env = [(true, eval e X.env)] := by rfl) : PI X (.Name x xp) (.Call (.Name "zip" p) [.Starred e sp] [] pos) (iZipN K te) := by
  subst hK
  exact pi_zipN hg hm he hs
end ZX

/-! ### list.count, flat items -/
namespace LCN
open PySem PySem.Spec PyProof.Rows L2 Cm
def rCountL (K : PySem.W.Frag) : V → List V → Hp → VK → Prop := fun x xs H Q => ∃ (a : Addr) (ys : List V) (y : V), x = V.ref a ∧ xs = [y] ∧ SqL K H a ys ∧ flatV y = true ∧ ys.all flatV = true ∧ Q (.int ((ys.countP fun z => eqV z y : Nat) : Int)) H
theorem countP_vals {y : V} : ∀ {ys : List V} {us : List Value}, Vals ys us → ys.all flatV = true → us.countP (eqU y) = ys.countP fun z => eqV z y
  | _, _, .nil, _ => rfl
  | _, _, .cons h r, f => by
    rw [List.all_cons, Bool.and_eq_true] at f
    rw [List.countP_cons, List.countP_cons, countP_vals r f.2, eqU_of h f.1]
theorem mt_countL {X : Cx} : MtR X "list.count" (rCountL X.K) := by
  intro pins s σ H x xs v us Q I rx rxs h
  obtain ⟨a, ys, y, rfl, rfl, hs, fy, fys, q⟩ := h
  cases rx
  cases rxs with
  | cons ry rt =>
    rename_i uy ut
    cases rt
    obtain ⟨its, rv, ⟨⟨cls, dd, data, sl⟩, n, ho, hc, hdn, hd⟩, hlen⟩ := I.list hs
    simp only at hc hd
    subst hc hd
    refine call_meets PySem.F.slot_list_count ⟨_, ho, rfl⟩ PySem.F.entry_list_count (PySem.F.args_list_count_2 _ _)
      (SeqAt.list_countAt a its.toArray n dd sl uy (eqU y)) ⟨ho, fun u' hu' => mem_eqAt ry fy rv fys u' (by simpa using hu'), ?_⟩
    rw [show its.toArray.toList = its from rfl, countP_vals rv fys]
    exact ⟨.int _, H, I.tok _, ⟨_, rfl⟩, q⟩
end LCN

/-! ### PV: readings over values instead of heaps -/
namespace PV
open PySem PySem.Spec PyProof.Rows L2 Cm
open GX (Sm)
/-! #### heaps: what is hidden, what is new -/
def off (H : Hp) (L : List Addr) : Hp := fun a => if a ∈ L then none else H a
theorem off_in {H : Hp} {L : List Addr} {a : Addr} (h : a ∈ L) : off H L a = none := if_pos h
theorem off_ne {H : Hp} {L : List Addr} {a : Addr} (h : a ∉ L) : off H L a = H a := if_neg h
theorem off_some {H : Hp} {L : List Addr} {a : Addr} {o : HO} (h : off H L a = some o) : a ∉ L ∧ H a = some o := by
  by_cases z : a ∈ L
  · rw [off_in z] at h
    cases h
  · rw [off_ne z] at h
    exact ⟨z, h⟩
theorem off_nil {H : Hp} : off H [] = H := funext fun _ => if_neg (by simp)
theorem tab_off {H : Hp} {L : List Addr} {P : Addr} (h : GxR.TabG (off H L) P) : P ∉ L ∧ GxR.TabG H P := by
  obtain ⟨ps, e, t⟩ := h
  obtain ⟨n, e⟩ := off_some e
  exact ⟨n, ps, e, t⟩
theorem tab_off' {H : Hp} {L : List Addr} {P : Addr} (n : P ∉ L) (h : GxR.TabG H P) : GxR.TabG (off H L) P := by
  obtain ⟨ps, e, t⟩ := h
  exact ⟨ps, by rw [off_ne n]; exact e, t⟩
/-- what is hidden in the later heap was hidden, or not there, before -/
theorem sm_off {H H' : Hp} {L L' : List Addr} (e : Sm H H') (h : ∀ a, a ∈ L' → a ∈ L ∨ ((∀ o, H a = some o → ∃ ps, o = .tbl ps) ∧ ¬ GxR.TabG H a)) : Sm (off H L) (off H' L') := by
  refine ⟨fun b o q n => ?_, fun P t => ?_⟩
  · obtain ⟨hb, q⟩ := off_some q
    rw [off_ne fun z => ?_]
    · exact e.keep b o q n
    · rcases h b z with z | ⟨z, _⟩
      · exact hb z
      · obtain ⟨ps, z⟩ := z o q
        exact n ps z
  · obtain ⟨hb, t⟩ := tab_off t
    refine tab_off' (fun z => ?_) (e.tab P t)
    rcases h P z with z | ⟨_, z⟩
    · exact hb z
    · exact z t
def NewTo (H : Hp) (p : Addr) : Prop := (∀ o, H p = some o → ∃ ps, o = .tbl ps) ∧ ¬ GxR.TabG H p
def Hid (H : Hp) (p : Addr) : Prop := ∃ o, H p = some o ∧ ∀ ps, o ≠ .tbl ps
theorem NewTo.none {H : Hp} {p : Addr} (h : H p = Option.none) : NewTo H p := by
  refine ⟨fun o e => ?_, fun t => ?_⟩
  · rw [h] at e
    cases e
  · obtain ⟨ps, e, _⟩ := t
    rw [h] at e
    cases e
theorem NewTo.back {H H' : Hp} {p : Addr} (e : Sm H H') (h : NewTo H' p) : NewTo H p := by
  refine ⟨fun o q => ?_, fun t => h.2 (e.tab p t)⟩
  cases o with
  | tbl ps => exact ⟨ps, rfl⟩
  | _ => exact h.1 _ (e.keep p _ q fun ps z => by cases z)
theorem Hid.mono {H H' : Hp} {p : Addr} (e : Sm H H') (h : Hid H p) : Hid H' p := h.elim fun o z => ⟨o, e.keep p o z.1 z.2, z.2⟩
theorem Hid.ne {H : Hp} {p q : Addr} (h : Hid H q) (n : NewTo H p) : p ≠ q := fun z => by
  obtain ⟨o, e, t⟩ := h
  obtain ⟨ps, z2⟩ := n.1 o (z ▸ e)
  exact t ps z2
theorem Hid.lst {H : Hp} {p : Addr} {xs : List V} (h : H p = some (.lst xs)) : Hid H p := ⟨_, h, fun _ z => by cases z⟩
theorem sm_upd {H H' : Hp} {p : Addr} {o : HO} (e : Sm H H') (n : NewTo H p) : Sm H (upd H' p o) := by
  refine ⟨fun b u q t => ?_, fun P t => ?_⟩
  · rw [upd_ne fun z => ?_]
    · exact e.keep b u q t
    · obtain ⟨ps, z2⟩ := n.1 u (z ▸ q)
      exact t ps z2
  · obtain ⟨ps, q, r⟩ := e.tab P t
    refine ⟨ps, ?_, r⟩
    rw [upd_ne fun z => ?_]
    · exact q
    · subst z
      exact n.2 t
theorem sm_new {H H' : Hp} {p : Addr} {o : HO} (e : Sm H H') (h : H' p = none) : Sm H (upd H' p o) := sm_upd e (NewTo.back e (.none h))
theorem sm_sub {H : Hp} {L L' : List Addr} (h : ∀ a, a ∈ L' → a ∈ L) : Sm (off H L) (off H L') := sm_off (Sm.refl H) fun a z => .inl (h a z)
theorem sm_hide {H : Hp} {L : List Addr} : Sm (off H L) H := by
  have := sm_sub (H := H) (L := L) (L' := []) (by simp)
  rwa [off_nil] at this
theorem off_upd {H : Hp} {L : List Addr} {p : Addr} {o : HO} (h : p ∈ L) : off (upd H p o) L = off H L := funext fun a => by
  by_cases z : a ∈ L
  · rw [off_in z, off_in z]
  · rw [off_ne z, off_ne z, upd_ne (fun q => by subst q; exact z h)]
/-! #### data that stand in the heap -/
mutual
inductive Rp (K : PySem.W.Frag) (H : Hp) : V → PyData → Prop
  | non : Rp K H .non .none
  | bl (b : Bool) : Rp K H (.bl b) (.bool b)
  | int (i : Int) : Rp K H (.int i) (.int i)
  | str (x : Str) : Rp K H (.str x) (.str x)
  | lst {a : Addr} {xs : List V} {ds : List PyData} : H a = some (.lst xs) → RpAll K H xs ds → Rp K H (.ref a) (.list ds)
  | tup {a : Addr} {xs : List V} {ds : List PyData} : SqT K H a xs → RpAll K H xs ds → Rp K H (.ref a) (.tuple ds)
inductive RpAll (K : PySem.W.Frag) (H : Hp) : List V → List PyData → Prop
  | nil : RpAll K H [] []
  | cons {v : V} {vs : List V} {d : PyData} {ds : List PyData} : Rp K H v d → RpAll K H vs ds → RpAll K H (v :: vs) (d :: ds)
end
section
variable {K : PySem.W.Frag} {H H' : Hp}
mutual
theorem Rp.mono (e : Sm H H') : ∀ {v : V} {d : PyData}, Rp K H v d → Rp K H' v d
  | _, _, .non => .non
  | _, _, .bl b => .bl b
  | _, _, .int i => .int i
  | _, _, .str x => .str x
  | _, _, .lst h r => .lst (e.l h) (RpAll.mono e r)
  | _, _, .tup h r => .tup (e.tup h) (RpAll.mono e r)
theorem RpAll.mono (e : Sm H H') : ∀ {vs : List V} {ds : List PyData}, RpAll K H vs ds → RpAll K H' vs ds
  | _, _, .nil => .nil
  | _, _, .cons h r => .cons (Rp.mono e h) (RpAll.mono e r)
end
mutual
theorem Rp.dp : ∀ {v : V} {d : PyData}, Rp K H v d → Dp K H v d
  | _, _, .non => .non
  | _, _, .bl b => .bl b
  | _, _, .int i => .int i
  | _, _, .str x => .str x
  | _, _, .lst h r => .lst (SqL.of h) (RpAll.dp r)
  | _, _, .tup h r => .tup h (RpAll.dp r)
theorem RpAll.dp : ∀ {vs : List V} {ds : List PyData}, RpAll K H vs ds → DpAll K H vs ds
  | _, _, .nil => .nil
  | _, _, .cons h r => .cons (Rp.dp h) (RpAll.dp r)
end
theorem RpAll.length : ∀ {vs : List V} {ds : List PyData}, RpAll K H vs ds → vs.length = ds.length
  | _, _, .nil => rfl
  | _, _, .cons _ r => by simp [RpAll.length r]
theorem RpAll.get : ∀ {vs : List V} {ds : List PyData} {i : Nat} {d : PyData}, RpAll K H vs ds → ds[i]? = some d → ∃ v, vs[i]? = some v ∧ Rp K H v d
  | _, _, _, _, .nil, e => by simp at e
  | _, _, 0, _, .cons h _, e => by simp at e; subst e; exact ⟨_, rfl, h⟩
  | _, _, i + 1, _, .cons _ r, e => by
    obtain ⟨v, h1, h2⟩ := RpAll.get (i := i) r (by simpa using e)
    exact ⟨v, by simpa using h1, h2⟩
theorem RpAll.getV : ∀ {vs : List V} {ds : List PyData} {i : Nat} {v : V}, RpAll K H vs ds → vs[i]? = some v → ∃ d, ds[i]? = some d ∧ Rp K H v d
  | _, _, _, _, .nil, e => by simp at e
  | _, _, 0, _, .cons h _, e => by simp at e; subst e; exact ⟨_, rfl, h⟩
  | _, _, i + 1, _, .cons _ r, e => by
    obtain ⟨v, h1, h2⟩ := RpAll.getV (i := i) r (by simpa using e)
    exact ⟨v, by simpa using h1, h2⟩
theorem RpAll.append : ∀ {vs us : List V} {ds es : List PyData}, RpAll K H vs ds → RpAll K H us es → RpAll K H (vs ++ us) (ds ++ es)
  | _, _, _, _, .nil, s => s
  | _, _, _, _, .cons h r, s => .cons h (RpAll.append r s)
theorem RpAll.take : ∀ (n : Nat) {vs : List V} {ds : List PyData}, RpAll K H vs ds → RpAll K H (vs.take n) (ds.take n)
  | 0, _, _, _ => .nil
  | _ + 1, _, _, .nil => .nil
  | n + 1, _, _, .cons h r => .cons h (RpAll.take n r)
theorem RpAll.drop : ∀ (n : Nat) {vs : List V} {ds : List PyData}, RpAll K H vs ds → RpAll K H (vs.drop n) (ds.drop n)
  | 0, _, _, h => h
  | _ + 1, _, _, .nil => .nil
  | n + 1, _, _, .cons _ r => RpAll.drop n r
theorem RpAll.set : ∀ {vs : List V} {ds : List PyData} {v : V} {d : PyData} (i : Nat), Rp K H v d → RpAll K H vs ds → RpAll K H (vs.set i v) (ds.set i d)
  | _, _, _, _, _, _, .nil => .nil
  | _, _, _, _, 0, h, .cons _ r => .cons h r
  | _, _, _, _, i + 1, h, .cons h2 r => .cons h2 (RpAll.set i h r)
theorem RpAll.reverse : ∀ {vs : List V} {ds : List PyData}, RpAll K H vs ds → RpAll K H vs.reverse ds.reverse
  | _, _, .nil => .nil
  | _, _, .cons h r => by
    rw [List.reverse_cons, List.reverse_cons]
    exact RpAll.append (RpAll.reverse r) (.cons h .nil)
theorem RpAll.replicate {v : V} {d : PyData} (h : Rp K H v d) : ∀ n, RpAll K H (List.replicate n v) (List.replicate n d)
  | 0 => .nil
  | n + 1 => .cons h (RpAll.replicate h n)
theorem RpAll.flatten {vs : List V} {ds : List PyData} (h : RpAll K H vs ds) : ∀ n, RpAll K H (List.replicate n vs).flatten (List.replicate n ds).flatten
  | 0 => .nil
  | n + 1 => by
    rw [List.replicate_succ, List.replicate_succ, List.flatten_cons, List.flatten_cons]
    exact h.append (RpAll.flatten h n)
theorem RpAll.ints : ∀ (ns : List Int), RpAll K H (ns.map V.int) (ns.map PyData.int)
  | [] => .nil
  | n :: ns => .cons (.int n) (RpAll.ints ns)
/-- data without objects -/
def flatD : PyData → Bool
  | .none => true
  | .bool _ => true
  | .int _ => true
  | .str _ => true
  | _ => false
theorem Rp.flat {v : V} {d : PyData} (h : Rp K H v d) (f : flatD d = true) : Rp K H' v d := by
  cases h with
  | non => exact .non
  | bl b => exact .bl b
  | int i => exact .int i
  | str x => exact .str x
  | lst _ _ => cases f
  | tup _ _ => cases f
theorem RpAll.flat : ∀ {vs : List V} {ds : List PyData}, RpAll K H vs ds → ds.all flatD = true → RpAll K H' vs ds
  | _, _, .nil, _ => .nil
  | _, _, .cons h r, f => by
    rw [List.all_cons, Bool.and_eq_true] at f
    exact .cons (h.flat f.1) (RpAll.flat r f.2)
theorem RpAll.flat_ints {vs : List V} {ns : List Int} (h : RpAll K H vs (ns.map .int)) : vs = ns.map V.int := by
  induction ns generalizing vs with
  | nil => cases h; rfl
  | cons n ns ih =>
    cases h with
    | cons h r =>
      cases h
      rw [ih r]
      rfl
end
/-! #### assertions of values, slots, results -/
structure Asr where
  a : V → Hp → Prop
  mono : ∀ v H H', Sm H H' → a v H → a v H'
  key : List Int := []
/-- an object of which nothing is said -/
def anyA : Asr := ⟨fun _ _ => True, fun _ _ _ _ _ => trivial, []⟩
/-- the entries of a dict -/
def KvR (K : PySem.W.Frag) (V0 : Hp) : List (Key × V) → List (Key × PyData) → Prop   := Paired fun a b => a.1 = b.1 ∧ Rp K V0 a.2 b.2
/-- what a slot holds: data that nobody changes | a list of one's own (no one else knows it) at p | a list of lists of one's own, at p, the rows at rs | an object -/
inductive Sl where
  | dat (d : PyData)
  | own (p : Addr) (xs : List PyData)
  | tab (p : Addr) (rs : List Addr) (rows : List (List PyData))
  | dic (p : Addr) (kvs : List (Key × PyData))
  | dit (p : Addr) (ks : List (List Key))
  | obj (A : Asr)
/-- a result's kind: data | a new list | a list of one's own, at p | data that hold such lists | a new list of new lists -/
inductive Tg where
  | dat | fr | own (p : Addr) | bor | ft
inductive Rs where
  | v (t : Tg) (d : PyData)
  | obj (A : Asr)
abbrev Gm := List (Option Sl)
def ownsOf : Option Sl → List Addr
  | some (.own p _) => [p]
  | some (.tab p rs _) => p :: rs
  | some (.dic p _) => [p]
  | some (.dit p _) => [p]
  | _ => []
def owns : Gm → List Addr
  | [] => []
  | x :: r => ownsOf x ++ owns r
/-- rows of a table -/
inductive TabR (K : PySem.W.Frag) (H V0 : Hp) : List Addr → List (List PyData) → Prop
  | nil : TabR K H V0 [] []
  | cons {r : Addr} {rs : List Addr} {vs : List V} {row : List PyData} {rows : List (List PyData)} : H r = some (.lst vs) → RpAll K V0 vs row → TabR K H V0 rs rows → TabR K H V0 (r :: rs) (row :: rows)
def SlR (K : PySem.W.Frag) (H V0 : Hp) : Sl → V → Prop
  | .dat d, v => Rp K V0 v d
  | .own p xs, v => v = .ref p ∧ ∃ vs, H p = some (.lst vs) ∧ RpAll K V0 vs xs
  | .tab p rs rows, v => v = .ref p ∧ H p = some (.lst (rs.map V.ref)) ∧ TabR K H V0 rs rows
  | .dic p kvs, v => v = .ref p ∧ ∃ vs, H p = some (.dK vs) ∧ KvR K V0 vs kvs
  | .dit p ks, v => v = .ref p ∧ ∃ vs, H p = some (.dT vs) ∧ vs.map (·.1) = ks
  | .obj A, v => A.a v V0
def Slots (K : PySem.W.Frag) (H V0 : Hp)   : Gm → L2.St → Prop
  | [], [] => True
  | none :: g, _ :: s => Slots K H V0 g s
  | some x :: g, v :: s => (∃ u, v = some u ∧ SlR K H V0 x u) ∧ Slots K H V0 g s
  | _, _ => False
theorem TabR.imp {K : PySem.W.Frag} {H H' V0 V1 : Hp} (e2 : Sm V0 V1) : ∀ {rs : List Addr} {rows : List (List PyData)}, (∀ r ∈ rs, ∀ vs, H r = some (.lst vs) → H' r = some (.lst vs)) → TabR K H V0 rs rows → TabR K H' V1 rs rows
  | _, _, _, .nil => .nil
  | _, _, f, .cons h1 h2 h3 => .cons (f _ (List.mem_cons_self ..) _ h1) (h2.mono e2) (TabR.imp e2 (fun r hr => f r (List.mem_cons_of_mem _ hr)) h3)
theorem TabR.mono {K : PySem.W.Frag} {H H' V0 V1 : Hp} (e : Sm H H') (e2 : Sm V0 V1) {rs : List Addr} {rows : List (List PyData)} (h : TabR K H V0 rs rows) : TabR K H' V1 rs rows := h.imp e2 fun _ _ _ z => e.l z
theorem TabR.length {K : PySem.W.Frag} {H V0 : Hp} : ∀ {rs : List Addr} {rows : List (List PyData)}, TabR K H V0 rs rows → rs.length = rows.length
  | _, _, .nil => rfl
  | _, _, .cons _ _ h => by simp [TabR.length h]
theorem TabR.get {K : PySem.W.Frag} {H V0 : Hp} : ∀ {rs : List Addr} {rows : List (List PyData)} {i : Nat} {row : List PyData}, TabR K H V0 rs rows → rows[i]? = some row → ∃ r vs, rs[i]? = some r ∧ H r = some (.lst vs) ∧ RpAll K V0 vs row
  | _, _, i, _, .nil, e => by simp at e
  | _, _, 0, _, .cons h1 h2 _, e => by
    simp at e
    subst e
    exact ⟨_, _, rfl, h1, h2⟩
  | _, _, i + 1, _, .cons _ _ h3, e => by
    obtain ⟨r, vs, a, b⟩ := TabR.get (i := i) h3 (by simpa using e)
    exact ⟨r, vs, by simpa using a, b⟩
theorem TabR.hid {K : PySem.W.Frag} {H V0 : Hp} : ∀ {rs : List Addr} {rows : List (List PyData)}, TabR K H V0 rs rows → ∀ r ∈ rs, ∃ vs, H r = some (.lst vs)
  | _, _, .nil, _, h => by cases h
  | _, _, .cons h1 _ h3, r, h => by
    rcases List.mem_cons.mp h with rfl | h
    · exact ⟨_, h1⟩
    · exact TabR.hid h3 r h
/-- the table as data, where its rows are seen -/
theorem TabR.rp {K : PySem.W.Frag} {H V0 : Hp} {L : List Addr} (e : Sm V0 (off H L)) : ∀ {rs : List Addr} {rows : List (List PyData)}, (∀ r ∈ rs, r ∉ L) → TabR K H V0 rs rows → RpAll K (off H L) (rs.map V.ref) (rows.map PyData.list)
  | _, _, _, .nil => .nil
  | _, _, n, .cons h1 h2 h3 => .cons (.lst (by rw [off_ne (n _ (List.mem_cons_self ..)), h1]) (h2.mono e)) (TabR.rp e (fun r hr => n r (List.mem_cons_of_mem _ hr)) h3)
theorem TabR.set {K : PySem.W.Frag} {H V0 : Hp} {r0 : Addr} {vs : List V} {row : List PyData} (ha : RpAll K V0 vs row) : ∀ {rs : List Addr} {rows : List (List PyData)} {i : Nat}, rs.Nodup → rs[i]? = some r0 → TabR K H V0 rs rows → TabR K (upd H r0 (.lst vs)) V0 rs (rows.set i row)
  | _, _, i, _, e, .nil => by simp at e
  | _, _, 0, nd, e, .cons h1 h2 h3 => by
    simp at e
    subst e
    have nd := List.nodup_cons.mp nd
    exact .cons upd_same ha (h3.imp (Sm.refl _) fun r hr vs h => by rw [upd_ne fun z => nd.1 (by rw [← z]; exact hr)]; exact h)
  | _, _, i + 1, nd, e, .cons h1 h2 h3 => by
    have nd := List.nodup_cons.mp nd
    have e : _ := (by simpa using e : _ = some r0)
    refine .cons ?_ h2 (TabR.set (i := i) ha nd.2 e h3)
    rw [upd_ne fun z => nd.1 (by rw [z]; exact List.mem_of_getElem? e)]
    exact h1
theorem SlR.mono {K : PySem.W.Frag} {H H' V0 V1 : Hp} (e : Sm H H') (e2 : Sm V0 V1) : ∀ {x : Sl} {v : V}, SlR K H V0 x v → SlR K H' V1 x v
  | .dat _, _, h => Rp.mono e2 h
  | .own _ _, _, ⟨h, vs, h1, h2⟩ => ⟨h, vs, e.l h1, h2.mono e2⟩
  | .tab _ _ _, _, ⟨h, h1, h2⟩ => ⟨h, e.l h1, h2.mono e e2⟩
  | .dic _ _, _, ⟨h, vs, h1, h2⟩ => ⟨h, vs, e.keep _ _ h1 (fun _ z => by cases z), L2.Paired.mapP h2 fun _ _ z => ⟨z.1, z.2.mono e2⟩⟩
  | .dit _ _, _, ⟨h, vs, h1, h2⟩ => ⟨h, vs, e.keep _ _ h1 (fun _ z => by cases z), h2⟩
  | .obj A, _, h => A.mono _ _ _ e2 h
/-- what is not one's own may change -/
theorem SlR.still {K : PySem.W.Frag} {H H' V0 : Hp} : ∀ {x : Sl} {v : V}, (∀ a ∈ ownsOf (some x), H' a = H a) → SlR K H V0 x v → SlR K H' V0 x v
  | .dat _, _, _, h => h
  | .own p _, _, f, ⟨h, vs, h1, h2⟩ => ⟨h, vs, (f p (List.mem_cons_self ..)).trans h1, h2⟩
  | .tab p rs _, _, f, ⟨h, h1, h2⟩ => ⟨h, (f p (List.mem_cons_self ..)).trans h1, h2.imp (Sm.refl _) fun r hr vs z => (f r (List.mem_cons_of_mem _ hr)).trans z⟩
  | .dic p _, _, f, ⟨h, vs, h1, h2⟩ => ⟨h, vs, (f p (List.mem_cons_self ..)).trans h1, h2⟩
  | .dit p _, _, f, ⟨h, vs, h1, h2⟩ => ⟨h, vs, (f p (List.mem_cons_self ..)).trans h1, h2⟩
  | .obj _, _, _, h => h
theorem Slots.imp {K : PySem.W.Frag} {H H' V0 V1 : Hp} : ∀ {g : Gm} {s : L2.St}, (∀ x v, some x ∈ g → SlR K H V0 x v → SlR K H' V1 x v) → Slots K H V0 g s → Slots K H' V1 g s
  | [], [], _, _ => True.intro
  | none :: g, _ :: s, f, h => Slots.imp (g := g) (s := s) (fun x v hx => f x v (.tail _ hx)) h
  | some x :: g, v :: s, f, ⟨⟨u, h1, h2⟩, h⟩ => ⟨⟨u, h1, f x u (.head _) h2⟩, Slots.imp (g := g) (s := s) (fun x v hx => f x v (.tail _ hx)) h⟩
theorem Slots.mono {K : PySem.W.Frag} {H H' V0 V1 : Hp} {g : Gm} {s : L2.St} (e : Sm H H') (e2 : Sm V0 V1) (h : Slots K H V0 g s) : Slots K H' V1 g s := h.imp fun _ _ _ q => q.mono e e2
theorem Slots.len {K : PySem.W.Frag} {H V0 : Hp} : ∀ {g : Gm} {s : L2.St}, Slots K H V0 g s → s.length = g.length
  | [], [], _ => rfl
  | none :: g, _ :: s, h => by simp [Slots.len (g := g) (s := s) h]
  | some x :: g, v :: s, h => by simp [Slots.len (g := g) (s := s) h.2]
theorem Slots.get {K : PySem.W.Frag} {H V0 : Hp} : ∀ {g : Gm} {s : L2.St} {i : Nat} {x : Sl}, Slots K H V0 g s → g[i]? = some (some x) → ∃ u, s[i]? = some (some u) ∧ SlR K H V0 x u
  | [], [], _, _, _, e => by simp at e
  | none :: g, _ :: s, 0, _, _, e => by simp at e
  | none :: g, _ :: s, i + 1, x, h, e => by
    obtain ⟨u, h1, h2⟩ := Slots.get (g := g) (s := s) (i := i) (x := x) h (by simpa using e)
    exact ⟨u, by simpa using h1, h2⟩
  | some y :: g, v :: s, 0, x, h, e => by
    simp at e
    subst e
    obtain ⟨⟨u, rfl, h⟩, _⟩ := h
    exact ⟨u, rfl, h⟩
  | some y :: g, v :: s, i + 1, x, h, e => by
    obtain ⟨u, h1, h2⟩ := Slots.get (g := g) (s := s) (i := i) (x := x) h.2 (by simpa using e)
    exact ⟨u, by simpa using h1, h2⟩
theorem Slots.set {K : PySem.W.Frag} {H V0 : Hp} {x : Sl} {u : V} (hx : SlR K H V0 x u) : ∀ {g : Gm} {s : L2.St} {i : Nat}, Slots K H V0 g s → Slots K H V0 (g.set i (some x)) (s.set i (some u))
  | [], [], _, _ => True.intro
  | none :: g, _ :: s, 0, h => ⟨⟨u, rfl, hx⟩, h⟩
  | none :: g, _ :: s, i + 1, h => Slots.set (g := g) (s := s) hx h
  | some y :: g, v :: s, 0, h => ⟨⟨u, rfl, hx⟩, h.2⟩
  | some y :: g, v :: s, i + 1, h => ⟨h.1, Slots.set (g := g) (s := s) hx h.2⟩
/-- a slot is forgotten, whatever stands there -/
theorem Slots.drop {K : PySem.W.Frag} {H V0 : Hp} (u : Option V) : ∀ {g : Gm} {s : L2.St} {i : Nat}, Slots K H V0 g s → Slots K H V0 (g.set i none) (s.set i u)
  | [], [], _, _ => True.intro
  | none :: g, _ :: s, 0, h => h
  | none :: g, _ :: s, i + 1, h => Slots.drop (g := g) (s := s) u h
  | some y :: g, v :: s, 0, h => h.2
  | some y :: g, v :: s, i + 1, h => ⟨h.1, Slots.drop (g := g) (s := s) u h.2⟩
theorem mem_ownsOf {x : Option Sl} {a : Addr} (ha : a ∈ ownsOf x) : ∀ {g : Gm}, x ∈ g → a ∈ owns g
  | [], h => by cases h
  | y :: g, h => by
    rcases List.mem_cons.mp h with rfl | h
    · exact List.mem_append_left _ ha
    · exact List.mem_append_right _ (mem_ownsOf ha h)
theorem mem_owns {p : Addr} {xs : List PyData} {g : Gm} (h : some (Sl.own p xs) ∈ g) : p ∈ owns g := mem_ownsOf (List.mem_cons_self ..) h
/-- a slot's own things change, nothing else -/
theorem Slots.chg {K : PySem.W.Frag} {H H' V0 : Hp} {x y : Sl} {u : V} (hx : SlR K H' V0 x u) : ∀ {g : Gm} {s : L2.St} {i : Nat}, Slots K H V0 g s → g[i]? = some (some y) → s[i]? = some (some u) → (owns g).Nodup → (∀ a, a ∉ ownsOf (some y) → H' a = H a) → Slots K H' V0 (g.set i (some x)) s
  | [], [], _, _, e, _, _, _ => by simp at e
  | none :: g, _ :: s, 0, _, e, _, _, _ => by simp at e
  | none :: g, _ :: s, i + 1, h, e, e2, n, f => Slots.chg (g := g) (s := s) hx h (by simpa using e) (by simpa using e2) n f
  | some z :: g, v :: s, 0, h, e, e2, n, f => by
    simp at e e2
    subst e
    obtain ⟨_, h⟩ := h
    refine ⟨⟨u, e2, hx⟩, h.imp fun x v hx q => SlR.still (fun a ha => f a fun hz => ?_) q⟩
    exact (List.nodup_append.mp n).2.2 a hz a (mem_ownsOf ha hx) rfl
  | some z :: g, v :: s, i + 1, h, e, e2, n, f => by
    obtain ⟨⟨w, rfl, h1⟩, h⟩ := h
    have e' : g[i]? = some (some y) := by simpa using e
    refine ⟨⟨w, rfl, SlR.still (fun a ha => f a fun hz => ?_) h1⟩, Slots.chg (g := g) (s := s) hx h e' (by simpa using e2) (List.nodup_append.mp n).2.1 f⟩
    exact (List.nodup_append.mp n).2.2 a ha a (mem_ownsOf hz (List.mem_of_getElem? e')) rfl
end PV

namespace PV
open PySem PySem.Spec PyProof.Rows L2 Cm
open GX (Sm)
/-! #### where a def's body stands -/
structure Fr where
  H0 : Hp
  L0 : List Addr
structure Env (K : PySem.W.Frag) (Ps : List Addr) (F : Fr) (g : Gm) (σ : L2.St) (H : Hp) : Prop where
  sl : Slots K H (off H (F.L0 ++ owns g)) g σ
  sm : Sm F.H0 H
  tb : ∀ P ∈ Ps, GxR.TabG H P
  hd : ∀ q ∈ F.L0, Hid H q
  nd : (owns g).Nodup
  nw : ∀ q ∈ owns g, NewTo F.H0 q ∧ q ∉ F.L0 ∧ Hid H q
section
variable {K : PySem.W.Frag} {Ps : List Addr} {F : Fr} {g g' : Gm} {σ : L2.St} {H H' H2 : Hp} {v : V} {i : Nat}
theorem hidden (I : Env K Ps F g σ H) {q : Addr} (h : q ∈ F.L0 ++ owns g) : Hid H q := (List.mem_append.mp h).elim (I.hd q) fun z => (I.nw q z).2.2
theorem Env.step (I : Env K Ps F g σ H) (e : Sm H H2) : Env K Ps F g σ H2 :=
  ⟨I.sl.mono e (sm_off e fun _ z => .inl z), I.sm.trans e, fun P h => e.tab P (I.tb P h), fun q h => (I.hd q h).mono e, I.nd, fun q h => ⟨(I.nw q h).1, (I.nw q h).2.1, (I.nw q h).2.2.mono e⟩⟩
/-- what is seen from the start stays seen -/
theorem Env.seen (I : Env K Ps F g σ H) : Sm (off F.H0 F.L0) (off H (F.L0 ++ owns g)) := sm_off I.sm fun a z => (List.mem_append.mp z).elim .inl fun z => .inr (I.nw a z).1
theorem Env.seen' (I : Env K Ps F g σ H) : Sm (off H (F.L0 ++ owns g)) (off H F.L0) := sm_sub fun a z => List.mem_append_left _ z
/-- begun anew: from here all but one's own lists stays -/
theorem Env.base (I : Env K Ps F g σ H) : Env K Ps ⟨off H (owns g), F.L0⟩ g σ H :=
  ⟨I.sl, sm_hide, I.tb, I.hd, I.nd, fun q h => ⟨⟨fun o e => absurd h (off_some e).1, fun t => absurd h (tab_off t).1⟩, (I.nw q h).2⟩⟩
theorem Env.base_sm (I : Env K Ps F g σ H) : Sm F.H0 (off H (owns g)) := by
  have := sm_off (L := []) (L' := owns g) I.sm fun a z => .inr (I.nw a z).1
  rwa [off_nil] at this
theorem Env.unbase {σ' : L2.St} (I : Env K Ps F g σ H) (J : Env K Ps ⟨off H (owns g), F.L0⟩ g' σ' H') : Env K Ps F g' σ' H' :=
  ⟨J.sl, I.base_sm.trans J.sm, J.tb, J.hd, J.nd, fun q h => ⟨NewTo.back I.base_sm (J.nw q h).1, (J.nw q h).2⟩⟩
/-- what was seen at the new beginning -/
theorem Env.still {σ' : L2.St} (I : Env K Ps F g σ H) (J : Env K Ps ⟨off H (owns g), F.L0⟩ g' σ' H') : Sm (off H (F.L0 ++ owns g)) (off H' (F.L0 ++ owns g')) := by
  have e : off (off H (owns g)) F.L0 = off H (F.L0 ++ owns g) := funext fun a => by
    by_cases z : a ∈ F.L0
    · rw [off_in z, off_in (List.mem_append_left _ z)]
    · rw [off_ne z]
      by_cases z2 : a ∈ owns g
      · rw [off_in z2, off_in (List.mem_append_right _ z2)]
      · rw [off_ne z2, off_ne (by simp [z, z2])]
  have := J.seen
  rw [← e]
  exact this
/-! results -/
def RsR (K : PySem.W.Frag) (F : Fr) (g : Gm) (H H2 : Hp) (v : V) : Rs → Prop
  | .v .dat d => Rp K (off H2 (F.L0 ++ owns g)) v d
  | .v .fr d => ∃ p vs xs, d = .list xs ∧ v = .ref p ∧ NewTo H p ∧ H2 p = some (.lst vs) ∧ RpAll K (off H2 (p :: (F.L0 ++ owns g))) vs xs
  | .v (.own p) d => ∃ vs xs, d = .list xs ∧ v = .ref p ∧ p ∈ owns g ∧ H2 p = some (.lst vs) ∧ RpAll K (off H2 (F.L0 ++ owns g)) vs xs
  | .v .bor d => Rp K (off H2 F.L0) v d
  | .v .ft d => ∃ p rs rows, d = .list (rows.map PyData.list) ∧ v = .ref p ∧ NewTo H p ∧ (∀ r ∈ rs, NewTo H r) ∧ (p :: rs).Nodup ∧ H2 p = some (.lst (rs.map V.ref)) ∧ TabR K H2 (off H2 (p :: rs ++ (F.L0 ++ owns g))) rs rows
  | .obj A => A.a v (off H2 (F.L0 ++ owns g))
def Sl.r : Sl → Rs
  | .dat d => .v .dat d
  | .own p xs => .v (.own p) (.list xs)
  | .tab _ _ rows => .v .bor (.list (rows.map PyData.list))
  | .dic _ _ => .obj anyA
  | .dit _ _ => .obj anyA
  | .obj A => .obj A
/-- is it seen by all -/
def Tg.ok : Tg → Bool
  | .dat => true
  | .fr => true
  | .ft => true
  | _ => false
def Tg.and (a b : Tg) : Tg := if a.ok && b.ok then .dat else .bor
theorem RsR.bor (I : Env K Ps F g σ H) {t : Tg} {d : PyData} (e : Sm H H2) (h : RsR K F g H H2 v (.v t d)) : Rp K (off H2 F.L0) v d := by
  cases t with
  | dat => exact Rp.mono (sm_sub fun a z => List.mem_append_left _ z) h
  | bor => exact h
  | fr =>
    obtain ⟨p, vs, xs, rfl, rfl, hn, hp, ha⟩ := h
    refine .lst ?_ (ha.mono (sm_sub fun a z => .tail _ (List.mem_append_left _ z)))
    rw [off_ne fun z => (I.hd p z).ne hn rfl]
    exact hp
  | own p =>
    obtain ⟨vs, xs, rfl, rfl, hm, hp, ha⟩ := h
    refine .lst ?_ (ha.mono (sm_sub fun a z => List.mem_append_left _ z))
    rw [off_ne (I.nw p hm).2.1]
    exact hp
  | ft =>
    obtain ⟨p, rs, rows, rfl, rfl, hn, hr, nd, hp, ht⟩ := h
    refine .lst ?_ (ht.rp (sm_sub fun a z => List.mem_append_right _ (List.mem_append_left _ z)) fun r hr2 z => (I.hd r z).ne (hr r hr2) rfl)
    rw [off_ne fun z => (I.hd p z).ne hn rfl]
    exact hp
theorem RsR.rp (I : Env K Ps F g σ H) {t : Tg} {d : PyData} (e : Sm H H2) (h : RsR K F g H H2 v (.v t d)) : Rp K H2 v d := (RsR.bor I e h).mono sm_hide
theorem RsR.dat (I : Env K Ps F g σ H) {t : Tg} {d : PyData} (e : Sm H H2) (o : t.ok = true) (h : RsR K F g H H2 v (.v t d)) : Rp K (off H2 (F.L0 ++ owns g)) v d := by
  cases t with
  | dat => exact h
  | bor => cases o
  | own p => cases o
  | fr =>
    obtain ⟨p, vs, xs, rfl, rfl, hn, hp, ha⟩ := h
    refine .lst ?_ (ha.mono (sm_sub fun a z => .tail _ z))
    rw [off_ne fun z => (hidden I z).ne hn rfl]
    exact hp
  | ft =>
    obtain ⟨p, rs, rows, rfl, rfl, hn, hr, nd, hp, ht⟩ := h
    refine .lst ?_ (ht.rp (sm_sub fun a z => List.mem_append_right _ z) fun r hr2 z => (hidden I z).ne (hr r hr2) rfl)
    rw [off_ne fun z => (hidden I z).ne hn rfl]
    exact hp
theorem RsR.flat (I : Env K Ps F g σ H) {t : Tg} {d : PyData} (e : Sm H H2) (f : flatD d = true) (h : RsR K F g H H2 v (.v t d)) : RsR K F g H H2 v (.v .dat d) := (RsR.bor I e h).flat f
/-- a result stays one -/
theorem RsR.step {r : Rs} (e : Sm H H') (e2 : Sm H' H2) (h : RsR K F g H H' v r) : RsR K F g H H2 v r := by
  have o : ∀ {L}, Sm (off H' L) (off H2 L) := fun {L} => sm_off e2 fun _ z => .inl z
  cases r with
  | obj A => exact A.mono _ _ _ o h
  | v t d =>
    cases t with
    | dat => exact Rp.mono o h
    | bor => exact Rp.mono o h
    | fr =>
      obtain ⟨p, vs, xs, rfl, rfl, hn, hp, ha⟩ := h
      exact ⟨p, vs, xs, rfl, rfl, hn, e2.l hp, ha.mono o⟩
    | own p =>
      obtain ⟨vs, xs, rfl, rfl, hm, hp, ha⟩ := h
      exact ⟨vs, xs, rfl, rfl, hm, e2.l hp, ha.mono o⟩
    | ft =>
      obtain ⟨p, rs, rows, rfl, rfl, hn, hr, nd, hp, ht⟩ := h
      exact ⟨p, rs, rows, rfl, rfl, hn, hr, nd, e2.l hp, ht.mono e2 o⟩
/-- seen from an earlier heap -/
theorem RsR.back {r : Rs} (e : Sm H H') (h : RsR K F g H' H2 v r) : RsR K F g H H2 v r := by
  cases r with
  | obj A => exact h
  | v t d =>
    cases t with
    | dat => exact h
    | bor => exact h
    | own p => exact h
    | fr =>
      obtain ⟨p, vs, xs, rfl, rfl, hn, hp, ha⟩ := h
      exact ⟨p, vs, xs, rfl, rfl, hn.back e, hp, ha⟩
    | ft =>
      obtain ⟨p, rs, rows, rfl, rfl, hn, hr, z⟩ := h
      exact ⟨p, rs, rows, rfl, rfl, hn.back e, fun r hr2 => (hr r hr2).back e, z⟩
theorem Slots.r (I : Env K Ps F g σ H) {x : Sl} (h : g[i]? = some (some x)) : ∃ u, σ[i]? = some (some u) ∧ RsR K F g H H u x.r := by
  obtain ⟨u, h1, h2⟩ := I.sl.get h
  refine ⟨u, h1, ?_⟩
  cases x with
  | dat d => exact h2
  | obj A => exact h2
  | dic p kvs => exact trivial
  | dit p ks => exact trivial
  | own p xs =>
    obtain ⟨rfl, vs, hp, ha⟩ := h2
    exact ⟨vs, xs, rfl, rfl, mem_owns (List.mem_of_getElem? h), hp, ha⟩
  | tab p rs rows =>
    obtain ⟨rfl, hp, ht⟩ := h2
    have hm : ∀ a ∈ p :: rs, a ∈ owns g := fun a ha => mem_ownsOf (x := some (.tab p rs rows)) ha (List.mem_of_getElem? h)
    refine Rp.lst ?_ (ht.rp (sm_sub fun a z => List.mem_append_left _ z) fun r hr => (I.nw r (hm r (List.mem_cons_of_mem _ hr))).2.1)
    rw [off_ne (I.nw p (hm p (List.mem_cons_self ..))).2.1]
    exact hp
/-! stores -/
theorem owns_set_in {x : Option Sl} : ∀ {g : Gm} {i : Nat} {a : Addr}, a ∈ owns (g.set i x) → a ∈ ownsOf x ∨ a ∈ owns g
  | [], _, _, h => .inr h
  | y :: g, 0, a, h => (List.mem_append.mp (show a ∈ ownsOf x ++ owns g from h)).elim .inl fun z => .inr (List.mem_append_right _ z)
  | y :: g, i + 1, a, h => (List.mem_append.mp (show a ∈ ownsOf y ++ owns (g.set i x) from h)).elim (fun z => .inr (List.mem_append_left _ z)) fun z => (owns_set_in (g := g) (i := i) z).elim .inl fun z => .inr (List.mem_append_right _ z)
theorem owns_set_sub {x : Option Sl} (hx : ownsOf x = []) {g : Gm} {i : Nat} {a : Addr} (h : a ∈ owns (g.set i x)) : a ∈ owns g := by
  rcases owns_set_in h with z | z
  · rw [hx] at z
    cases z
  · exact z
theorem owns_set_nds {x : Option Sl} (hn : (ownsOf x).Nodup) : ∀ {g : Gm} {i : Nat}, (∀ a ∈ ownsOf x, a ∉ owns g) → (owns g).Nodup → (owns (g.set i x)).Nodup
  | [], _, _, h => h
  | y :: g, 0, f, h => List.nodup_append.mpr ⟨hn, (List.nodup_append.mp h).2.1, fun a ha b hb e => f a ha (List.mem_append_right _ (e ▸ hb))⟩
  | y :: g, i + 1, f, h => by
    obtain ⟨h1, h2, h3⟩ := List.nodup_append.mp h
    refine List.nodup_append.mpr ⟨h1, owns_set_nds hn (g := g) (i := i) (fun a ha z => f a ha (List.mem_append_right _ z)) h2, fun a ha b hb e => ?_⟩
    rcases owns_set_in hb with z | z
    · exact f b z (List.mem_append_left _ (e ▸ ha))
    · exact h3 a ha b z e
theorem owns_set_nd {x : Option Sl} (hx : ownsOf x = []) {g : Gm} {i : Nat} (h : (owns g).Nodup) : (owns (g.set i x)).Nodup :=
  owns_set_nds (by rw [hx]; exact List.nodup_nil) (fun a ha => by rw [hx] at ha; cases ha) h
theorem vis_set {L0 : List Addr} {x : Option Sl} (hx : ownsOf x = []) : Sm (off H (L0 ++ owns g)) (off H (L0 ++ owns (g.set i x))) :=
  sm_sub fun a z => (List.mem_append.mp z).elim (fun z => List.mem_append_left _ z) fun z => List.mem_append_right _ (owns_set_sub hx z)
theorem Env.set_dat (I : Env K Ps F g σ H) {d : PyData} (h : Rp K (off H (F.L0 ++ owns g)) v d) : Env K Ps F (g.set i (some (.dat d))) (σ.set i (some v)) H := by
  have hx : ownsOf (some (Sl.dat d)) = [] := rfl
  exact ⟨Slots.set (x := .dat d) (h.mono (vis_set hx)) (I.sl.mono (Sm.refl H) (vis_set hx)), I.sm, I.tb, I.hd, owns_set_nd hx I.nd, fun q z => I.nw q (owns_set_sub hx z)⟩
theorem Env.set_obj (I : Env K Ps F g σ H) {A : Asr} (h : A.a v (off H (F.L0 ++ owns g))) : Env K Ps F (g.set i (some (.obj A))) (σ.set i (some v)) H := by
  have hx : ownsOf (some (Sl.obj A)) = [] := rfl
  exact ⟨Slots.set (x := .obj A) (A.mono _ _ _ (vis_set hx) h) (I.sl.mono (Sm.refl H) (vis_set hx)), I.sm, I.tb, I.hd, owns_set_nd hx I.nd, fun q z => I.nw q (owns_set_sub hx z)⟩
theorem Env.forget (I : Env K Ps F g σ H) (u : Option V) : Env K Ps F (g.set i none) (σ.set i u) H := by
  have hx : ownsOf (none : Option Sl) = [] := rfl
  exact ⟨Slots.drop u (I.sl.mono (Sm.refl H) (vis_set hx)), I.sm, I.tb, I.hd, owns_set_nd hx I.nd, fun q z => I.nw q (owns_set_sub hx z)⟩
/-- new things become one's own -/
theorem Env.set_new (I : Env K Ps F g σ H) (e : Sm H H2) {x : Sl} {u : V} (hn : ∀ a ∈ ownsOf (some x), NewTo H a ∧ Hid H2 a) (nd : (ownsOf (some x)).Nodup) (hx : SlR K H2 (off H2 (ownsOf (some x) ++ (F.L0 ++ owns g))) x u) :
    Env K Ps F (g.set i (some x)) (σ.set i (some u)) H2 := by
  have vis : ∀ a, a ∈ F.L0 ++ owns (g.set i (some x)) → a ∈ ownsOf (some x) ++ (F.L0 ++ owns g) := fun a z => (List.mem_append.mp z).elim (fun z => List.mem_append_right _ (List.mem_append_left _ z)) fun z => (owns_set_in z).elim (fun q => List.mem_append_left _ q) fun z => List.mem_append_right _ (List.mem_append_right _ z)
  have v1 : Sm (off H (F.L0 ++ owns g)) (off H2 (F.L0 ++ owns (g.set i (some x)))) := sm_off e fun a z => (List.mem_append.mp (vis a z)).elim (fun q => .inr (hn a q).1) .inl
  have I2 := I.step e
  refine ⟨Slots.set (x := x) (hx.mono (Sm.refl H2) (sm_sub vis)) (I.sl.mono e v1), I2.sm, I2.tb, I2.hd, owns_set_nds nd (fun a ha z => (I.nw a z).2.2.ne (hn a ha).1 rfl) I.nd, fun q z => ?_⟩
  rcases owns_set_in z with z | z
  · exact ⟨(hn q z).1.back I.sm, fun y => (I.hd q y).ne (hn q z).1 rfl, (hn q z).2⟩
  · exact I2.nw q z
/-- a new list becomes one's own -/
theorem Env.set_own (I : Env K Ps F g σ H) (e : Sm H H2) {p : Addr} {vs : List V} {xs : List PyData} (hn : NewTo H p) (hp : H2 p = some (.lst vs)) (ha : RpAll K (off H2 (p :: (F.L0 ++ owns g))) vs xs) :
    Env K Ps F (g.set i (some (.own p xs))) (σ.set i (some (.ref p))) H2 :=
  I.set_new (x := .own p xs) e (fun a ha => by rw [List.mem_singleton.mp ha]; exact ⟨hn, .lst hp⟩) (List.nodup_cons.mpr ⟨by simp, List.nodup_nil⟩) ⟨rfl, vs, hp, ha⟩
/-- a new list of new lists becomes one's own -/
theorem Env.set_tab (I : Env K Ps F g σ H) (e : Sm H H2) {p : Addr} {rs : List Addr} {rows : List (List PyData)} (hn : NewTo H p) (hr : ∀ r ∈ rs, NewTo H r) (nd : (p :: rs).Nodup) (hp : H2 p = some (.lst (rs.map V.ref))) (ht : TabR K H2 (off H2 (p :: rs ++ (F.L0 ++ owns g))) rs rows) :
    Env K Ps F (g.set i (some (.tab p rs rows))) (σ.set i (some (.ref p))) H2 :=
  I.set_new (x := .tab p rs rows) e (fun a ha => by
    rcases List.mem_cons.mp ha with rfl | ha
    · exact ⟨hn, .lst hp⟩
    · obtain ⟨vs, h⟩ := ht.hid a ha
      exact ⟨hr a ha, .lst h⟩) nd ⟨rfl, hp, ht⟩
theorem owns_put {x y : Option Sl} (hxy : ownsOf x = ownsOf y) : ∀ {g : Gm} {i : Nat}, g[i]? = some y → owns (g.set i x) = owns g
  | [], _, e => by simp at e
  | z :: g, 0, e => by
    simp at e
    subst e
    show ownsOf x ++ owns g = ownsOf z ++ owns g
    rw [hxy]
  | z :: g, i + 1, e => by
    show ownsOf z ++ owns (g.set i x) = ownsOf z ++ owns g
    rw [owns_put hxy (g := g) (i := i) (by simpa using e)]
/-- a list that is one's own changes -/
theorem Env.putAtO (I : Env K Ps F g σ H) {x y : Sl} {u : V} {q : Addr} {o : HO} (ho' : ∀ ps, o ≠ .tbl ps) (hg : g[i]? = some (some y)) (hσ : σ[i]? = some (some u)) (hxy : ownsOf (some x) = ownsOf (some y)) (hq : q ∈ ownsOf (some y)) (hx : SlR K (upd H q o) (off H (F.L0 ++ owns g)) x u) :
    Env K Ps F (g.set i (some x)) σ (upd H q o) := by
  have hm : q ∈ owns g := mem_ownsOf hq (List.mem_of_getElem? hg)
  have ho := owns_put hxy hg
  have e : off (upd H q o) (F.L0 ++ owns (g.set i (some x))) = off H (F.L0 ++ owns g) := by rw [ho, off_upd (List.mem_append_right _ hm)]
  have ht : ∀ {P}, GxR.TabG H P → GxR.TabG (upd H q o) P := fun {P} ⟨ps, z, t⟩ => ⟨ps, by
    rw [upd_ne fun w => ?_]
    · exact z
    · subst w
      obtain ⟨o, h1, h2⟩ := (I.nw P hm).2.2
      rw [z] at h1
      cases h1
      exact h2 _ rfl, t⟩
  have hh : ∀ {a}, Hid H a → Hid (upd H q o) a := fun {a} ⟨o2, h1, h2⟩ => by
    by_cases z : a = q
    · subst z
      exact ⟨o, upd_same, ho'⟩
    · exact ⟨o2, by rw [upd_ne z]; exact h1, h2⟩
  refine ⟨?_, sm_upd I.sm (I.nw q hm).1, fun P z => ht (I.tb P z), fun a z => hh (I.hd a z), by rw [ho]; exact I.nd, fun a z => ?_⟩
  · rw [e]
    exact Slots.chg hx I.sl hg hσ I.nd fun a ha => upd_ne fun z => ha (z ▸ hq)
  · rw [ho] at z
    exact ⟨(I.nw a z).1, (I.nw a z).2.1, hh (I.nw a z).2.2⟩
theorem Env.putAt (I : Env K Ps F g σ H) {x y : Sl} {u : V} {q : Addr} {vs : List V} (hg : g[i]? = some (some y)) (hσ : σ[i]? = some (some u)) (hxy : ownsOf (some x) = ownsOf (some y)) (hq : q ∈ ownsOf (some y)) (hx : SlR K (upd H q (.lst vs)) (off H (F.L0 ++ owns g)) x u) :
    Env K Ps F (g.set i (some x)) σ (upd H q (.lst vs)) := I.putAtO (fun _ z => by cases z) hg hσ hxy hq hx
theorem Env.put (I : Env K Ps F g σ H) {p : Addr} {vs : List V} {xs ys : List PyData} (hg : g[i]? = some (some (.own p ys))) (ha : RpAll K (off H (F.L0 ++ owns g)) vs xs) :
    Env K Ps F (g.set i (some (.own p xs))) σ (upd H p (.lst vs)) := by
  obtain ⟨u, h1, rfl, _⟩ := I.sl.get hg
  exact I.putAt hg h1 rfl (List.mem_cons_self ..) ⟨rfl, vs, upd_same, ha⟩
/-- lists of one's own are given up: they are data from now on -/
def Sl.sh : Sl → Sl
  | .own _ xs => .dat (.list xs)
  | .tab _ _ rows => .dat (.list (rows.map PyData.list))
  | .dic _ _ => .obj anyA
  | .dit _ _ => .obj anyA
  | x => x
def shr (g : Gm) : Gm := g.map fun x => x.map Sl.sh
theorem ownsOf_sh {x : Option Sl} : ownsOf (x.map Sl.sh) = [] := by
  cases x with
  | none => rfl
  | some x => cases x <;> rfl
theorem owns_shr : ∀ {g : Gm}, owns (shr g) = []
  | [] => rfl
  | x :: g => by
    show ownsOf (x.map Sl.sh) ++ owns (shr g) = []
    rw [ownsOf_sh, owns_shr]
    rfl
theorem Env.share (I : Env K Ps F g σ H) : Env K Ps F (shr g) σ H := by
  refine ⟨?_, I.sm, I.tb, I.hd, by rw [owns_shr]; exact List.nodup_nil, fun q z => by rw [owns_shr] at z; cases z⟩
  rw [owns_shr, List.append_nil]
  have e := I.seen'
  have all : ∀ p ∈ owns g, p ∉ F.L0 := fun p z => (I.nw p z).2.1
  have s := I.sl
  clear I
  have go : ∀ {g : Gm} {σ : L2.St}, (∀ p ∈ owns g, p ∉ F.L0) → ∀ {V0 : Hp}, Sm V0 (off H F.L0) → Slots K H V0 g σ → Slots K H (off H F.L0) (shr g) σ := by
    intro g
    induction g with
    | nil => intro σ _ V0 _ s; cases σ with
      | nil => trivial
      | cons _ _ => exact s
    | cons x g ih =>
      intro σ al V0 e s
      cases σ with
      | nil => cases x <;> exact s
      | cons v σ =>
        cases x with
        | none => exact ih (fun p z => al p z) e s
        | some x =>
          obtain ⟨⟨u, rfl, hu⟩, s⟩ := s
          cases x with
          | dat d => exact ⟨⟨u, rfl, Rp.mono e hu⟩, ih (fun p z => al p z) e s⟩
          | tab p rs rows =>
            obtain ⟨rfl, hp, ht⟩ := hu
            exact ⟨⟨_, rfl, .lst (by rw [off_ne (al p (List.mem_append_left _ (List.mem_cons_self ..)))]; exact hp) (ht.rp e fun r hr => al r (List.mem_append_left _ (List.mem_cons_of_mem _ hr)))⟩, ih (fun p z => al p (List.mem_append_right _ z)) e s⟩
          | obj A => exact ⟨⟨u, rfl, A.mono _ _ _ e hu⟩, ih (fun p z => al p z) e s⟩
          | dic p kvs => exact ⟨⟨u, rfl, trivial⟩, ih (fun p z => al p (.tail _ z)) e s⟩
          | dit p ks => exact ⟨⟨u, rfl, trivial⟩, ih (fun p z => al p (.tail _ z)) e s⟩
          | own p xs =>
            obtain ⟨rfl, vs, hp, ha⟩ := hu
            exact ⟨⟨_, rfl, .lst (by rw [off_ne (al p (.head _))]; exact hp) (ha.mono e)⟩, ih (fun p z => al p (.tail _ z)) e s⟩
  exact go all e s
end
end PV

namespace PV
open PySem PySem.Spec PyProof.Rows L2 Cm
open GX (Sm)
/-! #### readings over values -/
/-- an error: its class, its own fields -/
structure Er where
  cls : Addr
  fs : Option (List (Str × PyData)) := none
abbrev WX := Value → Option Addr → L2.St → Hp → Prop
abbrev GE := Gm → (Er → Prop) → (Rs → Prop) → Prop
abbrev GT := Gm → (Er → Prop) → (Bool → Prop) → Prop
abbrev GA := Gm → (Er → Prop) → (List Rs → Prop) → Prop
abbrev GO := Gm → (Er → Prop) → (Option Int → Prop) → Prop
abbrev GI := Gm → (Er → Prop) → (List PyData → Prop) → Prop
abbrev GG := Rs → Gm → (Er → Prop) → (Gm → Prop) → Prop
structure GEnds where
  nx : Gm → Prop
  rt : Rs → Prop
  bk : Gm → Prop
  ct : Gm → Prop
  ex : Gm → Er → Prop
abbrev GS := GEnds → Gm → Prop
section
variable (K : PySem.W.Frag) (Ps : List Addr) (W : WX)
def ErR (L0 : List Addr) (H : Hp) (e : Er) (cls : Value) (d : Option Addr) : Prop := cls = .ref e.cls ∧ match e.fs with
  | none => d = none
  | some fs => ∃ a us, d = some a ∧ off H L0 a = some (.xd us) ∧ Paired (fun u f => u.1 = f.1 ∧ Rp K (off H L0) u.2 f.2) us fs
def Wx (F : Fr) (σ : L2.St) (H : Hp) (PX : Er → Prop) : Prop := ∀ e cls d H2, Sm H H2 → ErR K F.L0 H2 e cls d → PX e → W cls d σ H2
def LE (te : TE) (pe : GE) : Prop := ∀ F g σ H Q PX PQ, Env K Ps F g σ H → Wx K W F σ H PX → pe g PX PQ → (∀ r v H2, Sm H H2 → RsR K F g H H2 v r → PQ r → Q v H2) → te σ H Q
def LT (te : TT) (pe : GT) : Prop := ∀ F g σ H Q PX PQ, Env K Ps F g σ H → Wx K W F σ H PX → pe g PX PQ → (∀ b H2, Sm H H2 → PQ b → Q b H2) → te σ H Q
inductive RsAll (F : Fr) (g : Gm) (H H2 : Hp) : List V → List Rs → Prop
  | nil : RsAll F g H H2 [] []
  | cons {v r vs rs} : RsR K F g H H2 v r → RsAll F g H H2 vs rs → RsAll F g H H2 (v :: vs) (r :: rs)
def LA (te : TA) (pe : GA) : Prop := ∀ F g σ H Q PX PQ, Env K Ps F g σ H → Wx K W F σ H PX → pe g PX PQ → (∀ rs vs H2, Sm H H2 → RsAll K F g H H2 vs rs → PQ rs → Q vs H2) → te σ H Q
def LO (te : TO) (pe : GO) : Prop := ∀ F g σ H Q PX PQ, Env K Ps F g σ H → Wx K W F σ H PX → pe g PX PQ → (∀ o H2, Sm H H2 → PQ o → Q o H2) → te σ H Q
/-- operators at values -/
def LR2 (r : R2) (pr : Rs → Rs → (Rs → Prop) → Prop) : Prop := ∀ F g σ H H1 x y v w Q PQ, Env K Ps F g σ H → Sm H H1 → RsR K F g H H1 v x → RsR K F g H H1 w y → pr x y PQ → (∀ r u H2, Sm H1 H2 → RsR K F g H H2 u r → PQ r → Q u H2) → r v w H1 Q
def LR1 (r : V → Hp → VK → Prop) (pr : Rs → (Rs → Prop) → Prop) : Prop := ∀ F g σ H H1 x v Q PQ, Env K Ps F g σ H → Sm H H1 → RsR K F g H H1 v x → pr x PQ → (∀ r u H2, Sm H1 H2 → RsR K F g H H2 u r → PQ r → Q u H2) → r v H1 Q
def LC (r : List V → Hp → VK → Prop) (pr : List Rs → (Rs → Prop) → Prop) : Prop := ∀ F g σ H H1 rs vs Q PQ, Env K Ps F g σ H → Sm H H1 → RsAll K F g H H1 vs rs → pr rs PQ → (∀ r u H2, Sm H1 H2 → RsR K F g H H2 u r → PQ r → Q u H2) → r vs H1 Q
structure Ends' (F : Fr) (PD : GEnds) (D : Ends) : Prop where
  nx : ∀ g σ H, Env K Ps F g σ H → PD.nx g → D.nx σ H
  bk : ∀ g σ H, Env K Ps F g σ H → PD.bk g → D.bk σ H
  ct : ∀ g σ H, Env K Ps F g σ H → PD.ct g → D.ct σ H
  rt : ∀ r v H, Sm F.H0 H → RsR K F [] F.H0 H v r → PD.rt r → D.rt v H
  ex : ∀ g σ H e cls d, Env K Ps F g σ H → ErR K F.L0 H e cls d → PD.ex g e → W cls d σ H
def LS (ts : TS) (ps : GS) : Prop := ∀ F D σ H PD g, Env K Ps F g σ H → Ends' K Ps W F PD D → ps PD g → ts D σ H
def LG (tg : TG) (pg : GG) (vs : List Nat) : Prop := ∀ F g σ H H1 v r Q PX PQ, Env K Ps F g σ H → Sm H H1 → RsR K F g H H1 v r → Wx K W F σ H PX → pg r g PX PQ →
  (∀ g' σ' H', Env K Ps F g' σ' H' → (∀ j, j ∉ vs → σ'[j]? = σ[j]?) → PQ g' → Q σ' H') → tg v σ H1 Q
/-- what is walked: items that stand as long as what is seen stands -/
structure WOk (V0 : Hp) (J : It) (items : List PyData) : Prop where
  go : ∀ i H L, i < items.length → Sm V0 (off H L) → J.go i H
  stop : ∀ H L, Sm V0 (off H L) → J.stop items.length H
  yld : ∀ i H L x H', i < items.length → Sm V0 (off H L) → (∀ q ∈ L, Hid H q) → J.yld i H x H' → Sm H H' ∧ ∃ d, items[i]? = some d ∧ Rp K (off H' L) x d
def LI (wi : TI) (pi : GI) : Prop := ∀ F g σ H R PX PQ, Env K Ps F g σ H → Wx K W F σ H PX → pi g PX PQ → (∀ J H1 items, Sm H H1 → WOk K (off H1 (F.L0 ++ owns g)) J items → PQ items → R J H1) → wi σ H R
end
section
variable {K : PySem.W.Frag} {Ps : List Addr} {W : WX} {F : Fr} {g : Gm} {σ : L2.St} {H H1 H2 : Hp}
theorem Wx.step {PX : Er → Prop} (h : Wx K W F σ H PX) (e : Sm H H1) : Wx K W F σ H1 PX := fun er cls d H2 s => h er cls d H2 (e.trans s)
theorem Ends'.wx {PD : GEnds} {D : Ends} (h : Ends' K Ps W F PD D) (I : Env K Ps F g σ H) : Wx K W F σ H (PD.ex g) := fun e cls d H2 s er p => h.ex g σ H2 e cls d (I.step s) er p
theorem RsR.bas {r : Rs} {v : V} (I : Env K Ps F g σ H) (h : RsR K ⟨off H (owns g), F.L0⟩ [] (off H (owns g)) H2 v r) : RsR K F [] F.H0 H2 v r := by
  cases r with
  | obj A => exact h
  | v t d =>
    cases t with
    | dat => exact h
    | bor => exact h
    | own p => exact h
    | fr =>
      obtain ⟨p, vs, xs, rfl, rfl, hn, hp, ha⟩ := h
      exact ⟨p, vs, xs, rfl, rfl, hn.back I.base_sm, hp, ha⟩
    | ft =>
      obtain ⟨p, rs, rows, rfl, rfl, hn, hr, z⟩ := h
      exact ⟨p, rs, rows, rfl, rfl, hn.back I.base_sm, fun r hr2 => (hr r hr2).back I.base_sm, z⟩
/-- within a loop: all begins anew -/
theorem Ends'.base {PD : GEnds} {D : Ends} (h : Ends' K Ps W F PD D) (I : Env K Ps F g σ H) : Ends' K Ps W ⟨off H (owns g), F.L0⟩ PD D :=
  ⟨fun g' σ' H' J => h.nx g' σ' H' (I.unbase J), fun g' σ' H' J => h.bk g' σ' H' (I.unbase J), fun g' σ' H' J => h.ct g' σ' H' (I.unbase J), fun r v H' e q => h.rt r v H' (I.base_sm.trans e) (q.bas I),
    fun g' σ' H' e cls d J => h.ex g' σ' H' e cls d (I.unbase J)⟩
theorem RsAll.step {rs : List Rs} {vs : List V} (e : Sm H H1) (e2 : Sm H1 H2) (h : RsAll K F g H H1 vs rs) : RsAll K F g H H2 vs rs := by
  induction h with
  | nil => exact .nil
  | cons a _ ih => exact .cons (a.step e e2) ih
theorem RsAll.back {rs : List Rs} {vs : List V} (e : Sm H H1) (h : RsAll K F g H1 H2 vs rs) : RsAll K F g H H2 vs rs := by
  induction h with
  | nil => exact .nil
  | cons a _ ih => exact .cons (a.back e) ih
theorem rs_dat {v : V} {d : PyData} (h : Rp K (off H2 (F.L0 ++ owns g)) v d) : RsR K F g H1 H2 v (.v .dat d) := h
/-! ##### expressions -/
def pVar (i : Nat) : GE := fun g _ Q => match g[i]? with
  | some (some s) => Q s.r
  | _ => False
theorem le_var {i : Nat} : LE K Ps W (tVar i) (pVar i) := by
  intro F g σ H Q PX PQ I _ h k
  unfold pVar at h
  split at h
  · next s e =>
    obtain ⟨u, h1, h2⟩ := Slots.r I e
    exact ⟨u, h1, k _ _ _ (Sm.refl H) h2 h⟩
  · exact h.elim
/-- plain values as data -/
def dV : V → PyData
  | .bl b => .bool b
  | .int i => .int i
  | .str x => .str x
  | _ => .none
theorem rp_dV {v : V} {H : Hp} (h : flatV v = true) : Rp K H v (dV v) := by
  cases v with
  | non => exact .non
  | bl b => exact .bl b
  | int i => exact .int i
  | str x => exact .str x
  | byt _ => cases h
  | flt _ => cases h
  | ref _ => cases h
  | ty _ => cases h
def pC (d : PyData) : GE := fun _ _ Q => Q (.v .dat d)
theorem le_c {v : V} (h : flatV v = true := by rfl) : LE K Ps W (tC v) (pC (dV v)) := fun F g σ H Q PX PQ I _ q k => k _ _ _ (Sm.refl H) (rs_dat (rp_dV h)) q
def pOp (pr : Rs → Rs → (Rs → Prop) → Prop) (pa pb : GE) : GE := fun g PX Q => pa g PX fun x => pb g PX fun y => pr x y Q
theorem le_op {r : R2} {pr : Rs → Rs → (Rs → Prop) → Prop} {ta tb : TE} {pa pb : GE} (hr : LR2 K Ps r pr) (ha : LE K Ps W ta pa) (hb : LE K Ps W tb pb) : LE K Ps W (tOp r ta tb) (pOp pr pa pb) := fun F g σ H Q PX PQ I w h k =>
  ha F g σ H _ PX _ I w h fun x v H1 e1 r1 h1 => hb F g σ H1 _ PX _ (I.step e1) (w.step e1) h1 fun y u H2 e2 r2 h2 => hr F g σ H H2 x y v u Q PQ I (e1.trans e2) (r1.step e1 e2) (r2.back e1) h2 fun r u H3 e3 r3 h3 =>
    k r u H3 ((e1.trans e2).trans e3) r3 h3
def pUn (pr : Rs → (Rs → Prop) → Prop) (pa : GE) : GE := fun g PX Q => pa g PX fun x => pr x Q
theorem le_un {r : V → Hp → VK → Prop} {pr : Rs → (Rs → Prop) → Prop} {ta : TE} {pa : GE} (hr : LR1 K Ps r pr) (ha : LE K Ps W ta pa) : LE K Ps W (tUn r ta) (pUn pr pa) := fun F g σ H Q PX PQ I w h k =>
  ha F g σ H _ PX _ I w h fun x v H1 e1 r1 h1 => hr F g σ H H1 x v Q PQ I e1 r1 h1 fun r u H2 e2 r2 h2 => k r u H2 (e1.trans e2) r2 h2
/-! two ints -/
def pII (C : Int → Int → Prop) (f : Int → Int → PyData) : Rs → Rs → (Rs → Prop) → Prop := fun x y Q => match x, y with
  | .v _ (.int i), .v _ (.int j) => C i j ∧ Q (.v .dat (f i j))
  | _, _ => False
def pII0 (f : Int → Int → PyData) : Rs → Rs → (Rs → Prop) → Prop := fun x y Q => match x, y with
  | .v _ (.int i), .v _ (.int j) => Q (.v .dat (f i j))
  | _, _ => False
theorem lr_I {C : Int → Int → Prop} {f : Int → Int → V} (hf : ∀ i j, flatV (f i j) = true := by intros; rfl) : LR2 K Ps (rI C f) (pII C fun i j => dV (f i j)) := by
  intro F g σ H H1 x y v u Q PQ I e rx ry h k
  unfold pII at h
  split at h
  · next i j =>
    cases rx.rp I e
    cases ry.rp I e
    exact ⟨_, _, rfl, rfl, h.1, k _ _ _ (Sm.refl H1) (rs_dat (rp_dV (hf _ _))) h.2⟩
  · exact h.elim
theorem lr_I0 {f : Int → Int → V} (hf : ∀ i j, flatV (f i j) = true := by intros; rfl) : LR2 K Ps (rI0 f) (pII0 fun i j => dV (f i j)) := by
  intro F g σ H H1 x y v u Q PQ I e rx ry h k
  unfold pII0 at h
  split at h
  · next i j =>
    cases rx.rp I e
    cases ry.rp I e
    exact ⟨_, _, rfl, rfl, k _ _ _ (Sm.refl H1) (rs_dat (rp_dV (hf _ _))) h⟩
  · exact h.elim
def pNeg : Rs → (Rs → Prop) → Prop := fun x Q => match x with
  | .v _ (.int i) => Q (.v .dat (.int (-i)))
  | _ => False
theorem lr_neg : LR1 K Ps (rU fun i => .int (-i)) pNeg := by
  intro F g σ H H1 x v Q PQ I e rx h k
  unfold pNeg at h
  split at h
  · cases rx.rp I e
    exact ⟨_, rfl, k _ _ _ (Sm.refl H1) (rs_dat (.int _)) h⟩
  · exact h.elim
/-! texts -/
def pSS (C : Str → Str → Prop) (f : Str → Str → PyData) : Rs → Rs → (Rs → Prop) → Prop := fun x y Q => match x, y with
  | .v _ (.str i), .v _ (.str j) => C i j ∧ Q (.v .dat (f i j))
  | _, _ => False
def pSS0 (f : Str → Str → PyData) : Rs → Rs → (Rs → Prop) → Prop := fun x y Q => match x, y with
  | .v _ (.str i), .v _ (.str j) => Q (.v .dat (f i j))
  | _, _ => False
theorem lr_S {C : Str → Str → Prop} {f : Str → Str → V} (hf : ∀ i j, flatV (f i j) = true := by intros; rfl) : LR2 K Ps (fun x y H Q => ∃ i j, x = .str i ∧ y = .str j ∧ C i j ∧ Q (f i j) H) (pSS C fun i j => dV (f i j)) := by
  intro F g σ H H1 x y v u Q PQ I e rx ry h k
  unfold pSS at h
  split at h
  · next i j =>
    cases rx.rp I e
    cases ry.rp I e
    exact ⟨_, _, rfl, rfl, h.1, k _ _ _ (Sm.refl H1) (rs_dat (rp_dV (hf _ _))) h.2⟩
  · exact h.elim
theorem lr_S0 {f : Str → Str → V} (hf : ∀ i j, flatV (f i j) = true := by intros; rfl) : LR2 K Ps (fun x y H Q => ∃ i j, x = .str i ∧ y = .str j ∧ Q (f i j) H) (pSS0 fun i j => dV (f i j)) := by
  intro F g σ H H1 x y v u Q PQ I e rx ry h k
  unfold pSS0 at h
  split at h
  · next i j =>
    cases rx.rp I e
    cases ry.rp I e
    exact ⟨_, _, rfl, rfl, k _ _ _ (Sm.refl H1) (rs_dat (rp_dV (hf _ _))) h⟩
  · exact h.elim
/-! == of plain values and of data -/
def eqF : PyData → PyData → Option Bool
  | .none, .none => some true
  | .none, .int _ => some false
  | .int _, .none => some false
  | .none, .bool _ => some false
  | .bool _, .none => some false
  | .none, .str _ => some false
  | .str _, .none => some false
  | .int i, .int j => some (decide (i = j))
  | .bool i, .bool j => some (decide (i = j))
  | .str i, .str j => some (decide (i = j))
  | .int _, .str _ => some false
  | .str _, .int _ => some false
  | .bool _, .str _ => some false
  | .str _, .bool _ => some false
  | _, _ => none
theorem eqF_ok {d e : PyData} {v u : V} {b : Bool} (h : eqF d e = some b) (r1 : Rp K H v d) (r2 : Rp K H u e) : scal v u = true ∧ decide (v = u) = b := by
  cases r1 <;> cases r2 <;> first
    | (cases h; done)
    | (cases h; exact ⟨rfl, by simp⟩)
def pEq (f : Bool → Bool) : Rs → Rs → (Rs → Prop) → Prop := fun x y Q => match x, y with
  | .v _ d, .v _ e => match eqF d e with
    | some b => Q (.v .dat (.bool (f b)))
    | none => False
  | _, _ => False
theorem lr_eq : LR2 K Ps rEq (pEq fun b => b) := by
  intro F g σ H H1 x y v u Q PQ I e rx ry h k
  cases x with
  | obj _ => exact h.elim
  | v t d => cases y with
    | obj _ => exact h.elim
    | v t2 d2 =>
      unfold pEq at h
      dsimp only at h
      split at h
      · next b eb =>
        obtain ⟨h1, h2⟩ := eqF_ok eb (rx.rp I e) (ry.rp I e)
        refine ⟨h1, k _ _ _ (Sm.refl H1) (rs_dat (.bl _)) ?_⟩
        rw [h2]
        exact h
      · exact h.elim
theorem lr_ne : LR2 K Ps rNe (pEq fun b => !b) := by
  intro F g σ H H1 x y v u Q PQ I e rx ry h k
  cases x with
  | obj _ => exact h.elim
  | v t d => cases y with
    | obj _ => exact h.elim
    | v t2 d2 =>
      unfold pEq at h
      dsimp only at h
      split at h
      · next b eb =>
        obtain ⟨h1, h2⟩ := eqF_ok eb (rx.rp I e) (ry.rp I e)
        refine ⟨h1, k _ _ _ (Sm.refl H1) (rs_dat (.bl _)) ?_⟩
        rw [h2]
        exact h
      · exact h.elim
def pEqD (f : Bool → Bool) : Rs → Rs → (Rs → Prop) → Prop := fun x y Q => match x, y with
  | .v _ d, .v _ e => SeqAt.shaped d = true ∧ SeqAt.shaped e = true ∧ Q (.v .dat (.bool (f (PyData.eqv d e))))
  | _, _ => False
theorem lr_eqD : LR2 K Ps (rEqD K) (pEqD fun b => b) := by
  intro F g σ H H1 x y v u Q PQ I e rx ry h k
  cases x with
  | obj _ => exact h.elim
  | v t d => cases y with
    | obj _ => exact h.elim
    | v t2 d2 => exact ⟨_, _, (rx.rp I e).dp, (ry.rp I e).dp, h.1, h.2.1, k _ _ _ (Sm.refl H1) (rs_dat (.bl _)) h.2.2⟩
theorem lr_neD : LR2 K Ps (rNeD K) (pEqD fun b => !b) := by
  intro F g σ H H1 x y v u Q PQ I e rx ry h k
  cases x with
  | obj _ => exact h.elim
  | v t d => cases y with
    | obj _ => exact h.elim
    | v t2 d2 => exact ⟨_, _, (rx.rp I e).dp, (ry.rp I e).dp, h.1, h.2.1, k _ _ _ (Sm.refl H1) (rs_dat (.bl _)) h.2.2⟩
/-! is None -/
def isN : PyData → Bool
  | .none => true
  | _ => false
def pIsN (f : Bool → Bool) : Rs → Rs → (Rs → Prop) → Prop := fun x y Q => match x, y with
  | .v _ d, .v _ .none => Q (.v .dat (.bool (f (isN d))))
  | _, _ => False
/-! parts of lists and tuples -/
def Tg.d : Tg → Bool
  | .bor => false
  | _ => true
/-- an item's kind -/
def Tg.it : Tg → Tg
  | .bor => .bor
  | _ => .dat
theorem RsR.items (I : Env K Ps F g σ H) {t : Tg} {xs : List PyData} {v : V} (e : Sm H H1) (h : RsR K F g H H1 v (.v t (.list xs))) : ∃ p vs, v = .ref p ∧ H1 p = some (.lst vs) ∧ RpAll K (off H1 F.L0) vs xs ∧ (t.it = .dat → RpAll K (off H1 (F.L0 ++ owns g)) vs xs) := by
  have m : Sm (off H1 (F.L0 ++ owns g)) (off H1 F.L0) := sm_sub fun a z => List.mem_append_left _ z
  cases t with
  | dat =>
    cases h with
    | lst hp ha => exact ⟨_, _, rfl, (off_some hp).2, ha.mono m, fun _ => ha⟩
  | bor =>
    cases h with
    | lst hp ha => exact ⟨_, _, rfl, (off_some hp).2, ha, fun z => by cases z⟩
  | fr =>
    obtain ⟨p, vs, xs, z, rfl, hn, hp, ha⟩ := h
    cases z
    have ha2 := ha.mono (sm_sub fun a z => .tail _ z)
    exact ⟨p, vs, rfl, hp, ha2.mono m, fun _ => ha2⟩
  | own p =>
    obtain ⟨vs, xs, z, rfl, hm, hp, ha⟩ := h
    cases z
    exact ⟨p, vs, rfl, hp, ha.mono m, fun _ => ha⟩
  | ft =>
    obtain ⟨p, rs, rows, z, rfl, hn, hr, nd, hp, ht⟩ := h
    cases z
    have hb := ht.rp (L := F.L0 ++ owns g) (sm_sub fun a z => List.mem_append_right _ z) fun r hr2 z => (hidden I z).ne (hr r hr2) rfl
    exact ⟨p, _, rfl, hp, hb.mono m, fun _ => hb⟩
theorem RsR.itemsT (I : Env K Ps F g σ H) {t : Tg} {xs : List PyData} {v : V} (e : Sm H H1) (h : RsR K F g H H1 v (.v t (.tuple xs))) : ∃ p vs, v = .ref p ∧ SqT K H1 p vs ∧ RpAll K (off H1 F.L0) vs xs ∧ (t.it = .dat → RpAll K (off H1 (F.L0 ++ owns g)) vs xs) := by
  have m : Sm (off H1 (F.L0 ++ owns g)) (off H1 F.L0) := sm_sub fun a z => List.mem_append_left _ z
  cases t with
  | dat =>
    cases h with
    | tup hp ha => exact ⟨_, _, rfl, sm_hide.tup hp, ha.mono m, fun _ => ha⟩
  | bor =>
    cases h with
    | tup hp ha => exact ⟨_, _, rfl, sm_hide.tup hp, ha, fun z => by cases z⟩
  | fr =>
    obtain ⟨p, vs, xs, z, _⟩ := h
    cases z
  | own p =>
    obtain ⟨vs, xs, z, _⟩ := h
    cases z
  | ft =>
    obtain ⟨p, rs, rows, z, _⟩ := h
    cases z
theorem tg_it {t : Tg} : t.it = .dat ∨ t.it = .bor := by cases t <;> simp [Tg.it]
theorem rsr_it {t : Tg} {d : PyData} {v : V} (h1 : Rp K (off H1 F.L0) v d) (h2 : t.it = .dat → Rp K (off H1 (F.L0 ++ owns g)) v d) : RsR K F g H H1 v (.v t.it d) := by
  rcases tg_it (t := t) with z | z
  · rw [z]
    exact h2 z
  · rw [z]
    exact h1
theorem atI_get {α : Type} {xs : List α} {i : Int} {y : α} (h : atI xs i = some y) : ∃ j, ixN xs.length i = some j ∧ xs[j]? = some y := by
  unfold atI at h
  cases e : ixN xs.length i with
  | none =>
    rw [e] at h
    cases h
  | some j =>
    rw [e] at h
    exact ⟨j, rfl, h⟩
def pIx : Rs → Rs → (Rs → Prop) → Prop := fun x y Q => match x, y with
  | .v t (.list ds), .v _ (.int i) => ∃ d, atI ds i = some d ∧ Q (.v t.it d)
  | .v t (.tuple ds), .v _ (.int i) => ∃ d, atI ds i = some d ∧ Q (.v t.it d)
  | _, _ => False
/-- a plain item of a table is data -/
def Tg.itD (t : Tg) (d : PyData) : Tg := match t with
  | .bor => cond (flatD d) .dat .bor
  | _ => .dat
theorem rsr_itD (I : Env K Ps F g σ H) (e : Sm H H1) {t : Tg} {d : PyData} {v : V} (h1 : Rp K (off H1 F.L0) v d) (h2 : t.it = .dat → Rp K (off H1 (F.L0 ++ owns g)) v d) : RsR K F g H H1 v (.v (t.itD d) d) := by
  have h := rsr_it (H := H) (t := t) h1 h2
  cases t with
  | bor =>
    show RsR K F g H H1 v (.v (cond (flatD d) .dat .bor) d)
    cases z : flatD d with
    | true => exact RsR.flat I e z h
    | false => exact h
  | _ => exact h
theorem lr_ixL : LR2 K Ps (rIxL K) fun x y Q => match x, y with
  | .v t (.list ds), .v _ (.int i) => ∃ d, atI ds i = some d ∧ Q (.v (t.itD d) d)
  | _, _ => False := by
  intro F g σ H H1 x y v u Q PQ I e rx ry h k
  split at h
  · next t ds _ i =>
    obtain ⟨d, hd, q⟩ := h
    cases ry.rp I e
    obtain ⟨p, vs, rfl, hp, h1, h2⟩ := rx.items I e
    obtain ⟨j, e1, e2⟩ := atI_get hd
    obtain ⟨v, g1, g2⟩ := h1.get e2
    refine ⟨p, vs, i, v, rfl, rfl, SqL.of hp, ?_, k _ _ _ (Sm.refl H1) (rsr_itD I e g2 fun z => ?_) q⟩
    · unfold atI
      rw [h1.length, e1]
      exact g1
    · obtain ⟨v2, g3, g4⟩ := (h2 z).get e2
      rw [g1] at g3
      cases g3
      exact g4
  · exact h.elim
theorem lr_ixT : LR2 K Ps (rIxT K) fun x y Q => match x, y with
  | .v t (.tuple ds), .v _ (.int i) => ∃ d, atI ds i = some d ∧ Q (.v t.it d)
  | _, _ => False := by
  intro F g σ H H1 x y v u Q PQ I e rx ry h k
  split at h
  · next t ds _ i =>
    obtain ⟨d, hd, q⟩ := h
    cases ry.rp I e
    obtain ⟨p, vs, rfl, hp, h1, h2⟩ := rx.itemsT I e
    obtain ⟨j, e1, e2⟩ := atI_get hd
    obtain ⟨v, g1, g2⟩ := h1.get e2
    refine ⟨p, vs, i, v, rfl, rfl, hp, ?_, k _ _ _ (Sm.refl H1) (rsr_it g2 fun z => ?_) q⟩
    · unfold atI
      rw [h1.length, e1]
      exact g1
    · obtain ⟨v2, g3, g4⟩ := (h2 z).get e2
      rw [g1] at g3
      cases g3
      exact g4
  · exact h.elim
end
end PV

namespace PV
open PySem PySem.Spec PyProof.Rows L2 Cm
open GX (Sm)
section
variable {K : PySem.W.Frag} {Ps : List Addr} {W : WX} {F : Fr} {g : Gm} {σ : L2.St} {H H1 H2 : Hp}
theorem new_in (I : Env K Ps F g σ H) {p : Addr} {o : HO} (e : Sm H H1) (hn : H1 p = none) : Sm H1 (upd H1 p o) ∧ NewTo H p ∧ p ∉ F.L0 ++ owns g ∧ ∀ L, Sm (off H1 L) (off (upd H1 p o) (p :: L)) :=
  ⟨sm_new (Sm.refl H1) hn, (NewTo.none hn).back e, fun z => ((hidden I z).mono e).ne (NewTo.none hn) rfl, fun L => sm_off (sm_new (Sm.refl H1) hn) fun a z => (List.mem_cons.mp z).elim (fun q => by subst q; exact .inr (NewTo.none hn)) .inl⟩
/-- a new list of items that are seen -/
theorem rs_fr (I : Env K Ps F g σ H) {p : Addr} {vs : List V} {ds : List PyData} (e : Sm H H1) (hn : H1 p = none) (h : RpAll K (off H1 (F.L0 ++ owns g)) vs ds) : RsR K F g H (upd H1 p (.lst vs)) (.ref p) (.v .fr (.list ds)) :=
  ⟨p, vs, ds, rfl, rfl, (new_in (o := .lst vs) I e hn).2.1, upd_same, h.mono ((new_in I e hn).2.2.2 _)⟩
theorem rs_bor (I : Env K Ps F g σ H) {p : Addr} {vs : List V} {ds : List PyData} (e : Sm H H1) (hn : H1 p = none) (h : RpAll K (off H1 F.L0) vs ds) : RsR K F g H (upd H1 p (.lst vs)) (.ref p) (.v .bor (.list ds)) := by
  obtain ⟨_, _, h3, h4⟩ := new_in (o := .lst vs) I e hn
  refine Rp.lst (by rw [off_ne fun z => h3 (List.mem_append_left _ z)]; exact upd_same) (h.mono ((h4 _).trans (sm_sub fun a z => .tail _ z)))
theorem rs_tup (I : Env K Ps F g σ H) {p : Addr} {vs : List V} {ds : List PyData} (e : Sm H H1) (hn : H1 p = none) (h : RpAll K (off H1 (F.L0 ++ owns g)) vs ds) : RsR K F g H (upd H1 p (.tup vs)) (.ref p) (.v .dat (.tuple ds)) := by
  obtain ⟨_, _, h3, h4⟩ := new_in (o := .tup vs) I e hn
  refine Rp.tup (SqT.of (by rw [off_ne h3]; exact upd_same)) (h.mono ((h4 _).trans (sm_sub fun a z => .tail _ z)))
theorem rs_tupB (I : Env K Ps F g σ H) {p : Addr} {vs : List V} {ds : List PyData} (e : Sm H H1) (hn : H1 p = none) (h : RpAll K (off H1 F.L0) vs ds) : RsR K F g H (upd H1 p (.tup vs)) (.ref p) (.v .bor (.tuple ds)) := by
  obtain ⟨_, _, h3, h4⟩ := new_in (o := .tup vs) I e hn
  refine Rp.tup (SqT.of (by rw [off_ne fun z => h3 (List.mem_append_left _ z)]; exact upd_same)) (h.mono ((h4 _).trans (sm_sub fun a z => .tail _ z)))
/-! ##### more operators -/
theorem lr_isN : LR2 K Ps (fun x y H Q => y = .non ∧ Q (.bl (decide (x = .non))) H) (pIsN fun b => b) := by
  intro F g σ H H1 x y v u Q PQ I e rx ry h k
  unfold pIsN at h
  split at h
  · next t d t2 =>
    have rv := rx.rp I e
    cases ry.rp I e
    refine ⟨rfl, k _ _ _ (Sm.refl H1) (rs_dat (.bl _)) ?_⟩
    cases rv <;> exact h
  · exact h.elim
theorem lr_notN : LR2 K Ps (fun x y H Q => y = .non ∧ Q (.bl (!decide (x = .non))) H) (pIsN fun b => !b) := by
  intro F g σ H H1 x y v u Q PQ I e rx ry h k
  unfold pIsN at h
  split at h
  · next t d t2 =>
    have rv := rx.rp I e
    cases ry.rp I e
    refine ⟨rfl, k _ _ _ (Sm.refl H1) (rs_dat (.bl _)) ?_⟩
    cases rv <;> exact h
  · exact h.elim
def pCat : Rs → Rs → (Rs → Prop) → Prop := fun x y Q => match x, y with
  | .v t (.list a), .v u (.list b) => a.length + b.length ≤ sizeLine ∧ Q (.v (if t.d && u.d then .fr else .bor) (.list (a ++ b)))
  | _, _ => False
theorem it_d {t : Tg} (h : t.d = true) : t.it = .dat := by cases t <;> first | rfl | cases h
theorem and1 {a b : Bool} (h : (a && b) = true) : a = true := (Bool.and_eq_true_iff.mp h).1
theorem and2 {a b : Bool} (h : (a && b) = true) : b = true := (Bool.and_eq_true_iff.mp h).2
theorem lr_cat : LR2 K Ps rCat pCat := by
  intro F g σ H H1 x y v u Q PQ I e rx ry h k
  unfold pCat at h
  split at h
  · next t a t2 b =>
    obtain ⟨p, vs, rfl, hp, h1, h2⟩ := rx.items I e
    obtain ⟨q, us, rfl, hq, h3, h4⟩ := ry.items I e
    refine ⟨p, q, vs, us, rfl, rfl, hp, hq, by rw [h1.length, h3.length]; exact h.1, fun r hr => ?_⟩
    have s := (new_in (o := .lst (vs ++ us)) I e hr).1
    refine k _ _ _ s ?_ h.2
    split
    · next z => exact rs_fr I e hr ((h2 (it_d (and1 z))).append (h4 (it_d (and2 z))))
    · exact rs_bor I e hr (h1.append h3)
  · exact h.elim
def pRep : Rs → Rs → (Rs → Prop) → Prop := fun x y Q => match x, y with
  | .v t (.list a), .v _ (.int n) => -(2 ^ 63) ≤ n ∧ n < 2 ^ 63 ∧ a.length * n.toNat ≤ sizeLine ∧ Q (.v (if t.d then .fr else .bor) (.list (List.replicate n.toNat a).flatten))
  | _, _ => False
theorem lr_rep : LR2 K Ps rRep pRep := by
  intro F g σ H H1 x y v u Q PQ I e rx ry h k
  unfold pRep at h
  split at h
  · next t a t2 n =>
    obtain ⟨p, vs, rfl, hp, h1, h2⟩ := rx.items I e
    cases ry.rp I e
    refine ⟨p, n, vs, rfl, rfl, hp, h.1, h.2.1, by rw [h1.length]; exact h.2.2.1, fun r hr => ?_⟩
    have s := (new_in (o := .lst (List.replicate n.toNat vs).flatten) I e hr).1
    refine k _ _ _ s ?_ h.2.2.2
    split
    · next z => exact rs_fr I e hr ((h2 (it_d z)).flatten _)
    · exact rs_bor I e hr (h1.flatten _)
  · exact h.elim
def pCatT : Rs → Rs → (Rs → Prop) → Prop := fun x y Q => match x, y with
  | .v t (.tuple a), .v u (.tuple b) => a.length + b.length ≤ sizeLine ∧ Q (.v (if t.d && u.d then .dat else .bor) (.tuple (a ++ b)))
  | _, _ => False
theorem RpAll.nil_iff {vs : List V} {ds : List PyData} (h : RpAll K H vs ds) : vs = [] ↔ ds = [] := by
  cases h <;> simp
theorem lr_catA : LR2 K Ps (rCatA K) pCatT := by
  intro F g σ H H1 x y v u Q PQ I e rx ry h k
  unfold pCatT at h
  split at h
  · next t a t2 b =>
    obtain ⟨p, vs, rfl, hp, h1, h2⟩ := rx.itemsT I e
    obtain ⟨q, us, rfl, hq, h3, h4⟩ := ry.itemsT I e
    refine ⟨p, q, vs, us, rfl, rfl, hp, hq, by rw [h1.length, h3.length]; exact h.1, fun z => ?_, fun _ z => ?_, fun _ _ r hr => ?_⟩
    · rw [h1.nil_iff.mp z] at h
      refine k _ _ _ (Sm.refl H1) ?_ h.2
      split
      · next z2 =>
        cases t2 with
        | bor => cases and2 z2
        | dat => exact ry
        | fr => obtain ⟨_, _, _, z, _⟩ := ry; cases z
        | own _ => obtain ⟨_, _, z, _⟩ := ry; cases z
        | ft => obtain ⟨_, _, _, z, _⟩ := ry; cases z
      · exact ry.bor I e
    · rw [h3.nil_iff.mp z] at h
      refine k _ _ _ (Sm.refl H1) ?_ h.2
      rw [List.append_nil]
      split
      · next z2 =>
        cases t with
        | bor => cases and1 z2
        | dat => exact rx
        | fr => obtain ⟨_, _, _, z, _⟩ := rx; cases z
        | own _ => obtain ⟨_, _, z, _⟩ := rx; cases z
        | ft => obtain ⟨_, _, _, z, _⟩ := rx; cases z
      · exact rx.bor I e
    · have s := (new_in (o := .tup (vs ++ us)) I e hr).1
      refine k _ _ _ s ?_ h.2
      split
      · next z => exact rs_tup I e hr ((h2 (it_d (and1 z))).append (h4 (it_d (and2 z))))
      · exact rs_tupB I e hr (h1.append h3)
  · exact h.elim
/-! in, not in, of plain items -/
def eqP : PyData → PyData → Bool
  | .none, .none => true
  | .bool a, .bool b => a == b
  | .bool a, .int b => (if a then 1 else 0) == b
  | .int a, .bool b => a == (if b then 1 else 0)
  | .int a, .int b => a == b
  | .str a, .str b => a == b
  | _, _ => false
def inP (x : PyData) (xs : List PyData) : Bool := xs.any fun y => eqP y x
theorem eqP_ok {d e : PyData} {v u : V} (f1 : flatD d = true) (f2 : flatD e = true) (r1 : Rp K H v d) (r2 : Rp K H1 u e) : eqV v u = eqP d e := by
  cases r1 <;> first
    | (cases f1; done)
    | (cases r2 <;> first | (cases f2; done) | rfl)
theorem flatV_of {d : PyData} {v : V} (f : flatD d = true) (r : Rp K H v d) : flatV v = true := by
  cases r <;> first | rfl | cases f
theorem inP_ok {d : PyData} {v : V} (f1 : flatD d = true) (r1 : Rp K H v d) : ∀ {vs : List V} {ds : List PyData}, ds.all flatD = true → RpAll K H1 vs ds → vs.all flatV = true ∧ inV v vs = inP d ds
  | _, _, _, .nil => ⟨rfl, rfl⟩
  | _, _, f, .cons h r => by
    rw [List.all_cons, Bool.and_eq_true] at f
    obtain ⟨a, b⟩ := inP_ok f1 r1 f.2 r
    have q := eqP_ok f.1 f1 h r1
    refine ⟨by rw [List.all_cons, flatV_of f.1 h, a]; rfl, ?_⟩
    unfold inV inP at b ⊢
    rw [List.any_cons, List.any_cons, b, q]
def pIn (neg : Bool) : Rs → Rs → (Rs → Prop) → Prop := fun x y Q => match x, y with
  | .v _ d, .v _ (.list ds) => flatD d = true ∧ ds.all flatD = true ∧ Q (.v .dat (.bool (if neg then !inP d ds else inP d ds)))
  | .v _ d, .v _ (.tuple ds) => flatD d = true ∧ ds.all flatD = true ∧ Q (.v .dat (.bool (if neg then !inP d ds else inP d ds)))
  | _, _ => False
theorem lr_in {neg : Bool} : LR2 K Ps (rIn K neg) (pIn neg) := by
  intro F g σ H H1 x y v u Q PQ I e rx ry h k
  unfold pIn at h
  split at h
  · next t d t2 ds =>
    obtain ⟨p, vs, rfl, hp, h1, h2⟩ := ry.items I e
    obtain ⟨a, b⟩ := inP_ok h.1 (rx.rp I e) h.2.1 h1
    refine ⟨p, vs, rfl, .inl (SqL.of hp), flatV_of h.1 (rx.rp I e), a, k _ _ _ (Sm.refl H1) (rs_dat (.bl _)) ?_⟩
    rw [b]
    exact h.2.2
  · next t d t2 ds =>
    obtain ⟨p, vs, rfl, hp, h1, h2⟩ := ry.itemsT I e
    obtain ⟨a, b⟩ := inP_ok h.1 (rx.rp I e) h.2.1 h1
    refine ⟨p, vs, rfl, .inr hp, flatV_of h.1 (rx.rp I e), a, k _ _ _ (Sm.refl H1) (rs_dat (.bl _)) ?_⟩
    rw [b]
    exact h.2.2
  · exact h.elim
/-! ##### arguments, displays, slices -/
def pNil : GA := fun _ _ Q => Q []
def pCons (pa : GE) (pr : GA) : GA := fun g PX Q => pa g PX fun x => pr g PX fun xs => Q (x :: xs)
theorem la_nil : LA K Ps W tNil pNil := fun F g σ H Q PX PQ I _ q k => k _ _ _ (Sm.refl H) .nil q
theorem la_cons {ta : TE} {tr : TA} {pa : GE} {pr : GA} (ha : LE K Ps W ta pa) (hr : LA K Ps W tr pr) : LA K Ps W (tCons ta tr) (pCons pa pr) := fun F g σ H Q PX PQ I w h k =>
  ha F g σ H _ PX _ I w h fun x v H1 e1 r1 h1 => hr F g σ H1 _ PX _ (I.step e1) (w.step e1) h1 fun xs vs H2 e2 r2 h2 => k _ _ _ (e1.trans e2) (.cons (r1.step e1 e2) (r2.back e1)) h2
/-- items of a list or a tuple as results -/
def Tg.items (t : Tg) (ds : List PyData) : List Rs := ds.map fun d => .v t.it d
def pStar (pa : GE) (pr : GA) : GA := fun g PX Q => pa g PX fun x => match x with
  | .v t (.list ds) => pr g PX fun xs => Q (t.items ds ++ xs)
  | .v t (.tuple ds) => pr g PX fun xs => Q (t.items ds ++ xs)
  | _ => False
theorem rsall_dat : ∀ {vs : List V} {ds : List PyData}, RpAll K (off H1 (F.L0 ++ owns g)) vs ds → RsAll K F g H H1 vs (ds.map fun d => .v .dat d)
  | _, _, .nil => .nil
  | _, _, .cons h r => .cons h (rsall_dat r)
theorem rsall_bor : ∀ {vs : List V} {ds : List PyData}, RpAll K (off H1 F.L0) vs ds → RsAll K F g H H1 vs (ds.map fun d => .v .bor d)
  | _, _, .nil => .nil
  | _, _, .cons h r => .cons h (rsall_bor r)
theorem rs_items {t : Tg} {vs : List V} {ds : List PyData} (h1 : RpAll K (off H1 F.L0) vs ds) (h2 : t.it = .dat → RpAll K (off H1 (F.L0 ++ owns g)) vs ds) : RsAll K F g H H1 vs (t.items ds) := by
  unfold Tg.items
  rcases tg_it (t := t) with z | z
  · rw [z]
    exact rsall_dat (h2 z)
  · rw [z]
    exact rsall_bor h1
theorem RsAll.append : ∀ {vs us : List V} {rs qs : List Rs}, RsAll K F g H H1 vs rs → RsAll K F g H H1 us qs → RsAll K F g H H1 (vs ++ us) (rs ++ qs)
  | _, _, _, _, .nil, s => s
  | _, _, _, _, .cons a r, s => .cons a (RsAll.append r s)
theorem la_star {ta : TE} {tr : TA} {pa : GE} {pr : GA} (ha : LE K Ps W ta pa) (hr : LA K Ps W tr pr) : LA K Ps W (StX.tStar K ta tr) (pStar pa pr) := fun F g σ H Q PX PQ I w h k =>
  ha F g σ H _ PX _ I w h fun x v H1 e1 r1 h1 => by
    split at h1
    · next t ds =>
      obtain ⟨p, vs, rfl, hp, a1, a2⟩ := r1.items I e1
      exact ⟨p, vs, rfl, .inr (SqL.of hp), hr F g σ H1 _ PX _ (I.step e1) (w.step e1) h1 fun xs us H2 e2 r2 h2 => k _ _ _ (e1.trans e2) (((rs_items a1 a2).step e1 e2).append (r2.back e1)) h2⟩
    · next t ds =>
      obtain ⟨p, vs, rfl, hp, a1, a2⟩ := r1.itemsT I e1
      exact ⟨p, vs, rfl, .inl hp, hr F g σ H1 _ PX _ (I.step e1) (w.step e1) h1 fun xs us H2 e2 r2 h2 => k _ _ _ (e1.trans e2) (((rs_items a1 a2).step e1 e2).append (r2.back e1)) h2⟩
    · exact h1.elim
/-- results that are data, all of them -/
def allD : List Rs → Option (List PyData)
  | [] => some []
  | .v _ d :: r => match allD r with
    | some ds => some (d :: ds)
    | none => none
  | .obj _ :: _ => none
def allS : List Rs → Bool
  | [] => true
  | .v t _ :: r => t.ok && allS r
  | .obj _ :: r => allS r
theorem allD_bor (I : Env K Ps F g σ H) (e : Sm H H1) : ∀ {rs : List Rs} {vs : List V} {ds : List PyData}, RsAll K F g H H1 vs rs → allD rs = some ds → RpAll K (off H1 F.L0) vs ds
  | [], _, _, .nil, h => by
    cases h
    exact .nil
  | .v t d :: r, _, _, .cons a b, h => by
    unfold allD at h
    split at h
    · next ds e2 =>
      cases h
      exact .cons (a.bor I e) (allD_bor I e b e2)
    · cases h
  | .obj _ :: _, _, _, _, h => by cases h
theorem allD_dat (I : Env K Ps F g σ H) (e : Sm H H1) : ∀ {rs : List Rs} {vs : List V} {ds : List PyData}, RsAll K F g H H1 vs rs → allD rs = some ds → allS rs = true → RpAll K (off H1 (F.L0 ++ owns g)) vs ds
  | [], _, _, .nil, h, _ => by
    cases h
    exact .nil
  | .v t d :: r, _, _, .cons a b, h, s => by
    have s' : (t.ok && allS r) = true := s
    unfold allD at h
    split at h
    · next ds e2 =>
      cases h
      exact .cons (a.dat I e (and1 s')) (allD_dat I e b e2 (and2 s'))
    · cases h
  | .obj _ :: _, _, _, _, h, _ => by cases h
def pTup (pa : GA) : GE := fun g PX Q => pa g PX fun rs => match allD rs with
  | some ds => ds.length ≤ sizeLine ∧ Q (.v (if allS rs then .dat else .bor) (.tuple ds))
  | none => False
theorem le_tup {ta : TA} {pa : GA} (ha : LA K Ps W ta pa) : LE K Ps W (tTup ta) (pTup pa) := fun F g σ H Q PX PQ I w h k =>
  ha F g σ H _ PX _ I w h fun rs vs H1 e1 r1 h1 => by
    split at h1
    · next ds ed =>
      have a1 := allD_bor I e1 r1 ed
      refine ⟨by rw [a1.length]; exact h1.1, fun p hp => k _ _ _ (e1.trans (new_in (o := .tup vs) I e1 hp).1) ?_ h1.2⟩
      split
      · next z => exact rs_tup I e1 hp (allD_dat I e1 r1 ed z)
      · exact rs_tupB I e1 hp a1
    · exact h1.elim
def pLst (pa : GA) : GE := fun g PX Q => pa g PX fun rs => match allD rs with
  | some ds => ds.length ≤ sizeLine ∧ Q (.v (if allS rs then .fr else .bor) (.list ds))
  | none => False
theorem le_lst {ta : TA} {pa : GA} (ha : LA K Ps W ta pa) : LE K Ps W (tLst ta) (pLst pa) := fun F g σ H Q PX PQ I w h k =>
  ha F g σ H _ PX _ I w h fun rs vs H1 e1 r1 h1 => by
    split at h1
    · next ds ed =>
      have a1 := allD_bor I e1 r1 ed
      refine ⟨by rw [a1.length]; exact h1.1, fun p hp => k _ _ _ (e1.trans (new_in (o := .lst vs) I e1 hp).1) ?_ h1.2⟩
      split
      · next z => exact rs_fr I e1 hp (allD_dat I e1 r1 ed z)
      · exact rs_bor I e1 hp a1
    · exact h1.elim
def pNoPart : GO := fun _ _ Q => Q none
def pPart (pa : GE) : GO := fun g PX Q => pa g PX fun x => match x with
  | .v _ (.int i) => Q (some i)
  | _ => False
theorem lo_none : LO K Ps W tNoPart pNoPart := fun F g σ H Q PX PQ I _ q k => k _ _ (Sm.refl H) q
theorem lo_some {ta : TE} {pa : GE} (ha : LE K Ps W ta pa) : LO K Ps W (tPart ta) (pPart pa) := fun F g σ H Q PX PQ I w h k =>
  ha F g σ H _ PX _ I w h fun x v H1 e1 r1 h1 => by
    split at h1
    · cases r1.rp I e1
      exact ⟨_, rfl, k _ _ e1 h1⟩
    · exact h1.elim
def cutD (xs : List PyData) (lo hi : Option Int) : List PyData := (xs.drop (HT.sIx xs.length 0 lo)).take (HT.sIx xs.length xs.length hi - HT.sIx xs.length 0 lo)
theorem RpAll.cut {vs : List V} {ds : List PyData} {lo hi : Option Int} (h : RpAll K H vs ds) : RpAll K H (cutV vs lo hi) (cutD ds lo hi) := by
  unfold cutV cutD
  rw [h.length]
  exact (h.drop _).take _
def pSlL (pa : GE) (lo hi : GO) : GE := fun g PX Q => pa g PX fun x => lo g PX fun l => hi g PX fun u => match x with
  | .v t (.list ds) => Q (.v (if t.d then .fr else .bor) (.list (cutD ds l u)))
  | _ => False
theorem le_slL {te : TE} {tl th : TO} {pa : GE} {lo hi : GO} (ha : LE K Ps W te pa) (hl : LO K Ps W tl lo) (hh : LO K Ps W th hi) : LE K Ps W (tSl (rSlL K) te tl th) (pSlL pa lo hi) := fun F g σ H Q PX PQ I w h k =>
  ha F g σ H _ PX _ I w h fun x v H1 e1 r1 h1 => hl F g σ H1 _ PX _ (I.step e1) (w.step e1) h1 fun l H2 e2 h2 => hh F g σ H2 _ PX _ (I.step (e1.trans e2)) (w.step (e1.trans e2)) h2 fun u H3 e3 h3 => by
    have e := (e1.trans e2).trans e3
    have r := r1.step e1 (e2.trans e3)
    split at h3
    · next t ds =>
      obtain ⟨p, vs, rfl, hp, a1, a2⟩ := r.items I e
      refine ⟨p, vs, rfl, SqL.of hp, fun q hq => k _ _ _ (e.trans (new_in (o := .lst (cutV vs l u)) I e hq).1) ?_ h3⟩
      split
      · next z => exact rs_fr I e hq (a2 (it_d z)).cut
      · exact rs_bor I e hq a1.cut
    · exact h3.elim
def pSlT (pa : GE) (lo hi : GO) : GE := fun g PX Q => pa g PX fun x => lo g PX fun l => hi g PX fun u => match x with
  | .v t (.tuple ds) => Q (.v t.it (.tuple (cutD ds l u)))
  | _ => False
theorem cutD_whole {xs : List PyData} {lo hi : Option Int} (h : HT.sIx xs.length 0 lo = 0 ∧ HT.sIx xs.length xs.length hi = xs.length) : cutD xs lo hi = xs := by
  unfold cutD
  rw [h.1, h.2, List.drop_zero, Nat.sub_zero, List.take_length]
theorem le_slT {te : TE} {tl th : TO} {pa : GE} {lo hi : GO} (ha : LE K Ps W te pa) (hl : LO K Ps W tl lo) (hh : LO K Ps W th hi) : LE K Ps W (tSl (rSlA K) te tl th) (pSlT pa lo hi) := fun F g σ H Q PX PQ I w h k =>
  ha F g σ H _ PX _ I w h fun x v H1 e1 r1 h1 => hl F g σ H1 _ PX _ (I.step e1) (w.step e1) h1 fun l H2 e2 h2 => hh F g σ H2 _ PX _ (I.step (e1.trans e2)) (w.step (e1.trans e2)) h2 fun u H3 e3 h3 => by
    have e := (e1.trans e2).trans e3
    have r := r1.step e1 (e2.trans e3)
    split at h3
    · next t ds =>
      obtain ⟨p, vs, rfl, hp, a1, a2⟩ := r.itemsT I e
      refine ⟨p, vs, rfl, hp, fun z => ?_, fun z q hq => k _ _ _ (e.trans (new_in (o := .tup (cutV vs l u)) I e hq).1) ?_ h3⟩
      · rw [a1.length] at z
        rw [cutD_whole z] at h3
        refine k _ _ _ e ?_ h3
        cases t with
        | fr => obtain ⟨_, _, _, z, _⟩ := r; cases z
        | own _ => obtain ⟨_, _, z, _⟩ := r; cases z
        | ft => obtain ⟨_, _, _, z, _⟩ := r; cases z
        | dat => exact r
        | bor => exact r
      · rcases tg_it (t := t) with z | z
        · rw [z]
          exact rs_tup I e hq (a2 z).cut
        · rw [z]
          exact rs_tupB I e hq a1.cut
    · exact h3.elim
end
end PV

namespace PV
open PySem PySem.Spec PyProof.Rows L2 Cm
open GX (Sm)
section
variable {K : PySem.W.Frag} {Ps : List Addr} {W : WX} {F : Fr} {g : Gm} {σ : L2.St} {H H1 H2 : Hp}
/-! ##### built-ins -/
def pCB (pr : List Rs → (Rs → Prop) → Prop) (pa : GA) : GE := fun g PX Q => pa g PX fun rs => pr rs Q
theorem le_cb {r : List V → Hp → VK → Prop} {pr : List Rs → (Rs → Prop) → Prop} {ta : TA} {pa : GA} (hr : LC K Ps r pr) (ha : LA K Ps W ta pa) : LE K Ps W (tCB r ta) (pCB pr pa) := fun F g σ H Q PX PQ I w h k =>
  ha F g σ H _ PX _ I w h fun rs vs H1 e1 r1 h1 => hr F g σ H H1 rs vs Q PQ I e1 r1 h1 fun r u H2 e2 r2 h2 => k r u H2 (e1.trans e2) r2 h2
theorem rs1 {x : Rs} {vs : List V} (h : RsAll K F g H H1 vs [x]) : ∃ v, vs = [v] ∧ RsR K F g H H1 v x := by
  cases h with
  | cons a r =>
    cases r
    exact ⟨_, rfl, a⟩
theorem rs2 {x y : Rs} {vs : List V} (h : RsAll K F g H H1 vs [x, y]) : ∃ v u, vs = [v, u] ∧ RsR K F g H H1 v x ∧ RsR K F g H H1 u y := by
  cases h with
  | cons a r =>
    obtain ⟨u, rfl, b⟩ := rs1 r
    exact ⟨_, u, rfl, a, b⟩
def pLen : List Rs → (Rs → Prop) → Prop := fun rs Q => match rs with
  | [.v _ (.list ds)] => Q (.v .dat (.int ds.length))
  | [.v _ (.tuple ds)] => Q (.v .dat (.int ds.length))
  | _ => False
theorem lc_len : LC K Ps (fun xs H Q => ∃ p ys, xs = [.ref p] ∧ (SqL K H p ys ∨ SqT K H p ys) ∧ Q (.int ys.length) H) pLen := by
  intro F g σ H H1 rs vs Q PQ I e r h k
  unfold pLen at h
  split at h
  · obtain ⟨v, rfl, a⟩ := rs1 r
    obtain ⟨p, vs, rfl, hp, h1, _⟩ := a.items I e
    refine ⟨p, vs, rfl, .inl (SqL.of hp), k _ _ _ (Sm.refl H1) (rs_dat (.int _)) ?_⟩
    rw [h1.length]
    exact h
  · obtain ⟨v, rfl, a⟩ := rs1 r
    obtain ⟨p, vs, rfl, hp, h1, _⟩ := a.itemsT I e
    refine ⟨p, vs, rfl, .inr hp, k _ _ _ (Sm.refl H1) (rs_dat (.int _)) ?_⟩
    rw [h1.length]
    exact h
  · exact h.elim
def pLenS : List Rs → (Rs → Prop) → Prop := fun rs Q => match rs with
  | [.v _ (.str z)] => z.length ≤ sizeLine ∧ Q (.v .dat (.int z.length))
  | _ => False
theorem lc_lenS : LC K Ps (fun xs H Q => ∃ z, xs = [.str z] ∧ z.length ≤ sizeLine ∧ Q (.int z.length) H) pLenS := by
  intro F g σ H H1 rs vs Q PQ I e r h k
  unfold pLenS at h
  split at h
  · obtain ⟨v, rfl, a⟩ := rs1 r
    cases a.rp I e
    exact ⟨_, rfl, h.1, k _ _ _ (Sm.refl H1) (rs_dat (.int _)) h.2⟩
  · exact h.elim
/-- one int in, a plain value out -/
def pI1 (C : Int → Prop) (f : Int → PyData) : List Rs → (Rs → Prop) → Prop := fun rs Q => match rs with
  | [.v _ (.int i)] => C i ∧ Q (.v .dat (f i))
  | _ => False
def pI10 (f : Int → PyData) : List Rs → (Rs → Prop) → Prop := fun rs Q => match rs with
  | [.v _ (.int i)] => Q (.v .dat (f i))
  | _ => False
theorem lc_I1 {C : Int → Prop} {f : Int → V} (hf : ∀ i, flatV (f i) = true := by intros; rfl) : LC K Ps (fun xs H Q => ∃ i, xs = [.int i] ∧ C i ∧ Q (f i) H) (pI1 C fun i => dV (f i)) := by
  intro F g σ H H1 rs vs Q PQ I e r h k
  unfold pI1 at h
  split at h
  · obtain ⟨v, rfl, a⟩ := rs1 r
    cases a.rp I e
    exact ⟨_, rfl, h.1, k _ _ _ (Sm.refl H1) (rs_dat (rp_dV (hf _))) h.2⟩
  · exact h.elim
theorem lc_I10 {f : Int → V} (hf : ∀ i, flatV (f i) = true := by intros; rfl) : LC K Ps (fun xs H Q => ∃ i, xs = [.int i] ∧ Q (f i) H) (pI10 fun i => dV (f i)) := by
  intro F g σ H H1 rs vs Q PQ I e r h k
  unfold pI10 at h
  split at h
  · obtain ⟨v, rfl, a⟩ := rs1 r
    cases a.rp I e
    exact ⟨_, rfl, k _ _ _ (Sm.refl H1) (rs_dat (rp_dV (hf _))) h⟩
  · exact h.elim
def pI2 (f : Int → Int → PyData) : List Rs → (Rs → Prop) → Prop := fun rs Q => match rs with
  | [.v _ (.int i), .v _ (.int j)] => Q (.v .dat (f i j))
  | _ => False
theorem lc_I2 {f : Int → Int → V} (hf : ∀ i j, flatV (f i j) = true := by intros; rfl) : LC K Ps (fun xs H Q => ∃ i j, xs = [.int i, .int j] ∧ Q (f i j) H) (pI2 fun i j => dV (f i j)) := by
  intro F g σ H H1 rs vs Q PQ I e r h k
  unfold pI2 at h
  split at h
  · obtain ⟨v, u, rfl, a, b⟩ := rs2 r
    cases a.rp I e
    cases b.rp I e
    exact ⟨_, _, rfl, k _ _ _ (Sm.refl H1) (rs_dat (rp_dV (hf _ _))) h⟩
  · exact h.elim
def pInt1 : List Rs → (Rs → Prop) → Prop := fun rs Q => match rs with
  | [.v _ (.int i)] => Q (.v .dat (.int i))
  | [.v _ (.bool b)] => Q (.v .dat (.int (if b then 1 else 0)))
  | _ => False
theorem lc_int1 : LC K Ps (fun xs H Q => (∃ i, xs = [.int i] ∧ Q (.int i) H) ∨ ∃ k, xs = [.bl k] ∧ Q (.int (if k then 1 else 0)) H) pInt1 := by
  intro F g σ H H1 rs vs Q PQ I e r h k
  unfold pInt1 at h
  split at h
  · obtain ⟨v, rfl, a⟩ := rs1 r
    cases a.rp I e
    exact .inl ⟨_, rfl, k _ _ _ (Sm.refl H1) (rs_dat (.int _)) h⟩
  · obtain ⟨v, rfl, a⟩ := rs1 r
    cases a.rp I e
    exact .inr ⟨_, rfl, k _ _ _ (Sm.refl H1) (rs_dat (.int _)) h⟩
  · exact h.elim
def pBool1 : List Rs → (Rs → Prop) → Prop := fun rs Q => match rs with
  | [.v _ (.int i)] => Q (.v .dat (.bool (i != 0)))
  | [.v _ (.bool b)] => Q (.v .dat (.bool b))
  | _ => False
theorem lc_bool1 : LC K Ps (fun xs H Q => (∃ i, xs = [.int i] ∧ Q (.bl (i != 0)) H) ∨ ∃ k, xs = [.bl k] ∧ Q (.bl k) H) pBool1 := by
  intro F g σ H H1 rs vs Q PQ I e r h k
  unfold pBool1 at h
  split at h
  · obtain ⟨v, rfl, a⟩ := rs1 r
    cases a.rp I e
    exact .inl ⟨_, rfl, k _ _ _ (Sm.refl H1) (rs_dat (.bl _)) h⟩
  · obtain ⟨v, rfl, a⟩ := rs1 r
    cases a.rp I e
    exact .inr ⟨_, rfl, k _ _ _ (Sm.refl H1) (rs_dat (.bl _)) h⟩
  · exact h.elim
def pS1 (C : Str → Prop) (f : Str → PyData) : List Rs → (Rs → Prop) → Prop := fun rs Q => match rs with
  | [.v _ (.str z)] => C z ∧ Q (.v .dat (f z))
  | _ => False
theorem lc_S1 {C : Str → Prop} {f : Str → V} (hf : ∀ i, flatV (f i) = true := by intros; rfl) : LC K Ps (fun xs H Q => ∃ z, xs = [.str z] ∧ C z ∧ Q (f z) H) (pS1 C fun i => dV (f i)) := by
  intro F g σ H H1 rs vs Q PQ I e r h k
  unfold pS1 at h
  split at h
  · obtain ⟨v, rfl, a⟩ := rs1 r
    cases a.rp I e
    exact ⟨_, rfl, h.1, k _ _ _ (Sm.refl H1) (rs_dat (rp_dV (hf _))) h.2⟩
  · exact h.elim
def pListOf : List Rs → (Rs → Prop) → Prop := fun rs Q => match rs with
  | [.v t (.list ds)] => Q (.v (if t.d then .fr else .bor) (.list ds))
  | [.v t (.tuple ds)] => Q (.v (if t.d then .fr else .bor) (.list ds))
  | _ => False
theorem lc_list : LC K Ps (fun xs H Q => ∃ p ys, xs = [.ref p] ∧ (SqL K H p ys ∨ SqT K H p ys) ∧ ∀ l, H l = none → Q (.ref l) (upd H l (.lst ys))) pListOf := by
  intro F g σ H H1 rs vs Q PQ I e r h k
  unfold pListOf at h
  split at h
  · obtain ⟨v, rfl, a⟩ := rs1 r
    obtain ⟨p, vs, rfl, hp, h1, h2⟩ := a.items I e
    refine ⟨p, vs, rfl, .inl (SqL.of hp), fun l hl => k _ _ _ (new_in (o := .lst vs) I e hl).1 ?_ h⟩
    split
    · next z => exact rs_fr I e hl (h2 (it_d z))
    · exact rs_bor I e hl h1
  · obtain ⟨v, rfl, a⟩ := rs1 r
    obtain ⟨p, vs, rfl, hp, h1, h2⟩ := a.itemsT I e
    refine ⟨p, vs, rfl, .inr hp, fun l hl => k _ _ _ (new_in (o := .lst vs) I e hl).1 ?_ h⟩
    split
    · next z => exact rs_fr I e hl (h2 (it_d z))
    · exact rs_bor I e hl h1
  · exact h.elim
theorem same_tup {t : Tg} {ds : List PyData} {v : V} (h : RsR K F g H H1 v (.v t (.tuple ds))) : RsR K F g H H1 v (.v t.it (.tuple ds)) := by
  cases t with
  | fr => obtain ⟨_, _, _, z, _⟩ := h; cases z
  | own _ => obtain ⟨_, _, z, _⟩ := h; cases z
  | ft => obtain ⟨_, _, _, z, _⟩ := h; cases z
  | dat => exact h
  | bor => exact h
def pTupOf : List Rs → (Rs → Prop) → Prop := fun rs Q => match rs with
  | [.v t (.list ds)] => Q (.v t.it (.tuple ds))
  | [.v t (.tuple ds)] => Q (.v t.it (.tuple ds))
  | _ => False
theorem lc_tuple : LC K Ps (fun xs H Q => ∃ p ys, xs = [.ref p] ∧ ((SqL K H p ys ∧ ∀ l, H l = none → Q (.ref l) (upd H l (.tup ys))) ∨ (SqT K H p ys ∧ Q (.ref p) H))) pTupOf := by
  intro F g σ H H1 rs vs Q PQ I e r h k
  unfold pTupOf at h
  split at h
  · next t ds =>
    obtain ⟨v, rfl, a⟩ := rs1 r
    obtain ⟨p, vs, rfl, hp, h1, h2⟩ := a.items I e
    refine ⟨p, vs, rfl, .inl ⟨SqL.of hp, fun l hl => k _ _ _ (new_in (o := .tup vs) I e hl).1 ?_ h⟩⟩
    rcases tg_it (t := t) with z | z
    · rw [z]
      exact rs_tup I e hl (h2 z)
    · rw [z]
      exact rs_tupB I e hl h1
  · obtain ⟨v, rfl, a⟩ := rs1 r
    obtain ⟨p, vs, rfl, hp, h1, h2⟩ := a.itemsT I e
    exact ⟨p, vs, rfl, .inr ⟨hp, k _ _ _ (Sm.refl H1) (same_tup a) h⟩⟩
  · exact h.elim
theorem lc_tupleT : LC K Ps (fun xs H Q => ∃ a ys, xs = [.ref a] ∧ SqT K H a ys ∧ Q (.ref a) H) fun rs Q => match rs with
  | [.v t (.tuple ds)] => Q (.v t.it (.tuple ds))
  | _ => False := by
  intro F g σ H H1 rs vs Q PQ I e r h k
  split at h
  · obtain ⟨v, rfl, a⟩ := rs1 r
    obtain ⟨p, vs, rfl, hp, h1, h2⟩ := a.itemsT I e
    exact ⟨p, vs, rfl, hp, k _ _ _ (Sm.refl H1) (same_tup a) h⟩
  · exact h.elim
/-- a list of ints in -/
def pNs (P : List Int → (Rs → Prop) → Prop) : List Rs → (Rs → Prop) → Prop := fun rs Q => ∃ t ns, rs = [.v t (.list (ns.map .int))] ∧ P ns Q
theorem ns_of (I : Env K Ps F g σ H) {t : Tg} {ns : List Int} {vs : List V} (e : Sm H H1) (r : RsAll K F g H H1 vs [.v t (.list (ns.map .int))]) : ∃ p, vs = [.ref p] ∧ H1 p = some (.lst (ns.map V.int)) := by
  obtain ⟨v, rfl, a⟩ := rs1 r
  obtain ⟨p, us, rfl, hp, h1, _⟩ := a.items I e
  rw [h1.flat_ints] at hp
  exact ⟨p, rfl, hp⟩
theorem lc_sum : LC K Ps (rSum K) (pNs fun ns Q => Q (.v .dat (.int ns.sum))) := by
  intro F g σ H H1 rs vs Q PQ I e r h k
  obtain ⟨t, ns, rfl, h⟩ := h
  obtain ⟨p, rfl, hp⟩ := ns_of I e r
  exact ⟨p, ns, rfl, SqL.of hp, k _ _ _ (Sm.refl H1) (rs_dat (.int _)) h⟩
theorem lc_max : LC K Ps (rMax K) (pNs fun ns Q => 0 < ns.length ∧ ∀ m, m ∈ ns → (∀ y, y ∈ ns → y ≤ m) → Q (.v .dat (.int m))) := by
  intro F g σ H H1 rs vs Q PQ I e r h k
  obtain ⟨t, ns, rfl, h, h2⟩ := h
  obtain ⟨p, rfl, hp⟩ := ns_of I e r
  exact ⟨p, ns, rfl, SqL.of hp, h, fun m hm hy => k _ _ _ (Sm.refl H1) (rs_dat (.int _)) (h2 m hm hy)⟩
theorem lc_min : LC K Ps (rMin K) (pNs fun ns Q => 0 < ns.length ∧ ∀ m, m ∈ ns → (∀ y, y ∈ ns → m ≤ y) → Q (.v .dat (.int m))) := by
  intro F g σ H H1 rs vs Q PQ I e r h k
  obtain ⟨t, ns, rfl, h, h2⟩ := h
  obtain ⟨p, rfl, hp⟩ := ns_of I e r
  exact ⟨p, ns, rfl, SqL.of hp, h, fun m hm hy => k _ _ _ (Sm.refl H1) (rs_dat (.int _)) (h2 m hm hy)⟩
/-! isinstance(e, a built-in class) -/
def tyD : PyData → String
  | .none => "NoneType"
  | .bool _ => "bool"
  | .int _ => "int"
  | .str _ => "str"
  | .list _ => "list"
  | .tuple _ => "tuple"
  | .dict _ => "dict"
theorem ty_of {v : V} {d : PyData} (h : Rp K H v d) : TyX K H v (.type (tyD d)) := by
  cases h with
  | non => exact .base .non
  | bl b => exact .base (.bl b)
  | int i => exact .base (.int i)
  | str x => exact .base (.str x)
  | lst h _ => exact tyx_list (SqL.of h)
  | tup h _ => exact tyx_tuple h
def isiQ (o : Option Bool) (Q : Rs → Prop) : Prop := match o with
  | some b => Q (.v .dat (.bool b))
  | none => False
def pIsi (n : String) (pa : GE) : GE := fun g PX Q => pa g PX fun x => match x with
  | .v _ d => isiQ (kitB (tyD d) n) Q
  | .obj _ => False
theorem le_isi {n : String} {te : TE} {pa : GE} (ha : LE K Ps W te pa) : LE K Ps W (tCB (rIsi K) (tCons te (tCons (tC (.ty n)) tNil))) (pIsi n pa) := fun F g σ H Q PX PQ I w h k =>
  ha F g σ H _ PX _ I w h fun x v H1 e1 r1 h1 => by
    split at h1
    · next t d =>
      unfold isiQ at h1
      split at h1
      · next b hb => exact ⟨v, _, _, _, b, rfl, .ty n, ty_of (r1.rp I e1), kit_ty hb, k _ _ _ e1 (rs_dat (.bl _)) h1⟩
      · exact h1.elim
    · exact h1.elim
/-! ##### and, or, not, if; tests -/
def bD : Rs → (Bool → Prop) → Prop := fun x Q => match x with
  | .v _ (.bool b) => Q b
  | _ => False
theorem bD_of (I : Env K Ps F g σ H) {x : Rs} {v : V} {P : Bool → Prop} (e : Sm H H1) (r : RsR K F g H H1 v x) (h : bD x P) : ∃ b, v = .bl b ∧ P b := by
  unfold bD at h
  split at h
  · cases r.rp I e
    exact ⟨_, rfl, h⟩
  · exact h.elim
def pAndV (pa pb : GE) : GE := fun g PX Q => pa g PX fun x => bD x fun c => (c = true → pb g PX Q) ∧ (c = false → Q (.v .dat (.bool false)))
theorem le_and {ta tb : TE} {pa pb : GE} (ha : LE K Ps W ta pa) (hb : LE K Ps W tb pb) : LE K Ps W (tAndV ta tb) (pAndV pa pb) := fun F g σ H Q PX PQ I w h k =>
  ha F g σ H _ PX _ I w h fun x v H1 e1 r1 h1 => by
    obtain ⟨c, rfl, q1, q2⟩ := bD_of I e1 r1 h1
    refine ⟨c, rfl, ?_⟩
    cases c with
    | true => exact iteT (hb F g σ H1 Q PX PQ (I.step e1) (w.step e1) (q1 rfl) fun r u H2 e2 r2 h2 => k r u H2 (e1.trans e2) (r2.back e1) h2)
    | false => exact iteF (k _ _ _ e1 (rs_dat (.bl _)) (q2 rfl))
def pOrV (pa pb : GE) : GE := fun g PX Q => pa g PX fun x => bD x fun c => (c = true → Q (.v .dat (.bool true))) ∧ (c = false → pb g PX Q)
theorem le_or {ta tb : TE} {pa pb : GE} (ha : LE K Ps W ta pa) (hb : LE K Ps W tb pb) : LE K Ps W (tOrV ta tb) (pOrV pa pb) := fun F g σ H Q PX PQ I w h k =>
  ha F g σ H _ PX _ I w h fun x v H1 e1 r1 h1 => by
    obtain ⟨c, rfl, q1, q2⟩ := bD_of I e1 r1 h1
    refine ⟨c, rfl, ?_⟩
    cases c with
    | true => exact iteT (k _ _ _ e1 (rs_dat (.bl _)) (q1 rfl))
    | false => exact iteF (hb F g σ H1 Q PX PQ (I.step e1) (w.step e1) (q2 rfl) fun r u H2 e2 r2 h2 => k r u H2 (e1.trans e2) (r2.back e1) h2)
def pNotV (pa : GE) : GE := fun g PX Q => pa g PX fun x => bD x fun c => Q (.v .dat (.bool (!c)))
theorem le_not {ta : TE} {pa : GE} (ha : LE K Ps W ta pa) : LE K Ps W (tNotV ta) (pNotV pa) := fun F g σ H Q PX PQ I w h k =>
  ha F g σ H _ PX _ I w h fun x v H1 e1 r1 h1 => by
    obtain ⟨c, rfl, q⟩ := bD_of I e1 r1 h1
    exact ⟨c, rfl, k _ _ _ e1 (rs_dat (.bl _)) q⟩
def pIfE (pt : GT) (pa pb : GE) : GE := fun g PX Q => pt g PX fun c => (c = true → pa g PX Q) ∧ (c = false → pb g PX Q)
theorem le_if {tt : TT} {ta tb : TE} {pt : GT} {pa pb : GE} (ht : LT K Ps W tt pt) (ha : LE K Ps W ta pa) (hb : LE K Ps W tb pb) : LE K Ps W (tIf tt ta tb) (pIfE pt pa pb) := fun F g σ H Q PX PQ I w h k =>
  ht F g σ H _ PX _ I w h fun c H1 e1 h1 => by
    cases c with
    | true => exact iteT (ha F g σ H1 Q PX PQ (I.step e1) (w.step e1) (h1.1 rfl) fun r u H2 e2 r2 h2 => k r u H2 (e1.trans e2) (r2.back e1) h2)
    | false => exact iteF (hb F g σ H1 Q PX PQ (I.step e1) (w.step e1) (h1.2 rfl) fun r u H2 e2 r2 h2 => k r u H2 (e1.trans e2) (r2.back e1) h2)
def pT (pa : GE) : GT := fun g PX Q => pa g PX fun x => bD x Q
theorem lt_test {ta : TE} {pa : GE} (ha : LE K Ps W ta pa) : LT K Ps W (tTest ta) (pT pa) := fun F g σ H Q PX PQ I w h k =>
  ha F g σ H _ PX _ I w h fun x v H1 e1 r1 h1 => by
    obtain ⟨c, rfl, q⟩ := bD_of I e1 r1 h1
    exact ⟨c, rfl, k _ _ e1 q⟩
theorem lt_B {ta : TE} {pa : GE} (ha : LE K Ps W ta pa) : LT K Ps W (tB ta) (pT pa) := fun F g σ H Q PX PQ I w h k =>
  ha F g σ H _ PX _ I w h fun x v H1 e1 r1 h1 => by
    obtain ⟨c, rfl, q⟩ := bD_of I e1 r1 h1
    exact ⟨c, rfl, k _ _ e1 q⟩
def pAnd (pa pb : GT) : GT := fun g PX Q => pa g PX fun c => (c = true → pb g PX Q) ∧ (c = false → Q false)
theorem lt_and {ta tb : TT} {pa pb : GT} (ha : LT K Ps W ta pa) (hb : LT K Ps W tb pb) : LT K Ps W (tAnd ta tb) (pAnd pa pb) := fun F g σ H Q PX PQ I w h k =>
  ha F g σ H _ PX _ I w h fun c H1 e1 h1 => by
    cases c with
    | true => exact iteT (hb F g σ H1 Q PX PQ (I.step e1) (w.step e1) (h1.1 rfl) fun b H2 e2 h2 => k b H2 (e1.trans e2) h2)
    | false => exact iteF (k _ _ e1 (h1.2 rfl))
def pOr (pa pb : GT) : GT := fun g PX Q => pa g PX fun c => (c = true → Q true) ∧ (c = false → pb g PX Q)
theorem lt_or {ta tb : TT} {pa pb : GT} (ha : LT K Ps W ta pa) (hb : LT K Ps W tb pb) : LT K Ps W (tOr ta tb) (pOr pa pb) := fun F g σ H Q PX PQ I w h k =>
  ha F g σ H _ PX _ I w h fun c H1 e1 h1 => by
    cases c with
    | true => exact iteT (k _ _ e1 (h1.1 rfl))
    | false => exact iteF (hb F g σ H1 Q PX PQ (I.step e1) (w.step e1) (h1.2 rfl) fun b H2 e2 h2 => k b H2 (e1.trans e2) h2)
def pNot (pa : GT) : GT := fun g PX Q => pa g PX fun c => Q (!c)
theorem lt_not {ta : TT} {pa : GT} (ha : LT K Ps W ta pa) : LT K Ps W (tNot ta) (pNot pa) := fun F g σ H Q PX PQ I w h k => ha F g σ H _ PX _ I w h fun c H1 e1 h1 => k _ _ e1 h1
/-- the truth of data -/
def truD : PyData → (Bool → Prop) → Prop := fun d Q => match d with
  | .none => Q false
  | .bool b => Q b
  | .int i => Q (i != 0)
  | .str z => z.length ≤ sizeLine ∧ Q ((z.length : Int) != 0)
  | .list ds => Q (!ds.isEmpty)
  | .tuple ds => Q (!ds.isEmpty)
  | .dict _ => False
theorem RpAll.empty {vs : List V} {ds : List PyData} (h : RpAll K H vs ds) : vs.isEmpty = ds.isEmpty := by cases h <;> rfl
theorem tru_of {v : V} {d : PyData} {P : Bool → Prop} (r : Rp K H v d) (h : truD d P) : ∃ k, TruV K v H k ∧ P k := by
  cases r with
  | non => exact ⟨false, rfl, h⟩
  | bl b => exact ⟨b, rfl, h⟩
  | int i => exact ⟨_, rfl, h⟩
  | str z => exact ⟨_, ⟨h.1, rfl⟩, h.2⟩
  | lst hp ha => exact ⟨_, .inl ⟨_, SqL.of hp, rfl⟩, by rw [ha.empty]; exact h⟩
  | tup hp ha => exact ⟨_, .inr (.inl ⟨_, hp, rfl⟩), by rw [ha.empty]; exact h⟩
def pTru (pa : GE) : GT := fun g PX Q => pa g PX fun x => match x with
  | .v _ d => truD d Q
  | .obj _ => False
theorem lt_truth {ta : TE} {pa : GE} (ha : LE K Ps W ta pa) : LT K Ps W (fun σ H Q => ta σ H fun x H' => ∃ k, TruV K x H' k ∧ Q k H') (pTru pa) := fun F g σ H Q PX PQ I w h k =>
  ha F g σ H _ PX _ I w h fun x v H1 e1 r1 h1 => by
    split at h1
    · obtain ⟨c, h2, q⟩ := tru_of (r1.rp I e1) h1
      exact ⟨c, h2, k _ _ e1 q⟩
    · exact h1.elim
def pNotT (pa : GE) : GE := fun g PX Q => pa g PX fun x => match x with
  | .v _ d => truD d fun b => Q (.v .dat (.bool (!b)))
  | .obj _ => False
theorem le_notT {ta : TE} {pa : GE} (ha : LE K Ps W ta pa) : LE K Ps W (tNotT K ta) (pNotT pa) := fun F g σ H Q PX PQ I w h k =>
  ha F g σ H _ PX _ I w h fun x v H1 e1 r1 h1 => by
    split at h1
    · obtain ⟨c, h2, q⟩ := tru_of (r1.rp I e1) h1
      exact ⟨c, h2, k _ _ _ e1 (rs_dat (.bl _)) q⟩
    · exact h1.elim
def pChain (pr pr' : Rs → Rs → (Rs → Prop) → Prop) (pa pb pc : GE) : GE := fun g PX Q => pa g PX fun x => pb g PX fun y => pr x y fun z => bD z fun k => (k = true → pc g PX fun w => pr' y w Q) ∧ (k = false → Q (.v .dat (.bool false)))
theorem le_chain {r r' : R2} {pr pr' : Rs → Rs → (Rs → Prop) → Prop} {ta tb tc : TE} {pa pb pc : GE} (hr : LR2 K Ps r pr) (hr' : LR2 K Ps r' pr') (ha : LE K Ps W ta pa) (hb : LE K Ps W tb pb) (hc : LE K Ps W tc pc) : LE K Ps W (tChain r r' ta tb tc) (pChain pr pr' pa pb pc) := fun F g σ H Q PX PQ I w h k =>
  ha F g σ H _ PX _ I w h fun x v H1 e1 r1 h1 => hb F g σ H1 _ PX _ (I.step e1) (w.step e1) h1 fun y u H2 e2 r2 h2 => hr F g σ H H2 x y v u _ _ I (e1.trans e2) (r1.step e1 e2) (r2.back e1) h2 fun z t H3 e3 r3 h3 => by
    have e12 := e1.trans e2
    have e123 := e12.trans e3
    obtain ⟨c, rfl, q1, q2⟩ := bD_of I e123 r3 h3
    refine ⟨c, rfl, ?_⟩
    cases c with
    | true => exact iteT (hc F g σ H3 _ PX _ (I.step e123) (w.step e123) (q1 rfl) fun s t H4 e4 r4 h4 => hr' F g σ H H4 y s u t Q PQ I (e123.trans e4) ((r2.back e1).step e12 (e3.trans e4)) (r4.back e123) h4 fun r5 u5 H5 e5 r5' h5 => k _ _ _ ((e123.trans e4).trans e5) r5' h5)
    | false => exact iteF (k _ _ _ e123 (rs_dat (.bl _)) (q2 rfl))
def pThree (p1 p2 p3 : Rs → Rs → (Rs → Prop) → Prop) (pa pb pc pd : GE) : GE := fun g PX Q => pa g PX fun x => pb g PX fun y => p1 x y fun z => bD z fun k =>
  (k = true → pc g PX fun w => p2 y w fun z2 => bD z2 fun k2 => (k2 = true → pd g PX fun u => p3 w u Q) ∧ (k2 = false → Q (.v .dat (.bool false)))) ∧ (k = false → Q (.v .dat (.bool false)))
theorem le_three {r1 r2 r3 : R2} {p1 p2 p3 : Rs → Rs → (Rs → Prop) → Prop} {ta tb tc td : TE} {pa pb pc pd : GE} (l1 : LR2 K Ps r1 p1) (l2 : LR2 K Ps r2 p2) (l3 : LR2 K Ps r3 p3) (ha : LE K Ps W ta pa) (hb : LE K Ps W tb pb) (hc : LE K Ps W tc pc) (hd : LE K Ps W td pd) :
    LE K Ps W (CH3.tThree r1 r2 r3 ta tb tc td) (pThree p1 p2 p3 pa pb pc pd) := fun F g σ H Q PX PQ I w h k =>
  ha F g σ H _ PX _ I w h fun x v H1 e1 q1 h1 => hb F g σ H1 _ PX _ (I.step e1) (w.step e1) h1 fun y u H2 e2 q2 h2 => l1 F g σ H H2 x y v u _ _ I (e1.trans e2) (q1.step e1 e2) (q2.back e1) h2 fun z t H3 e3 q3 h3 => by
    have e12 := e1.trans e2
    have e123 := e12.trans e3
    obtain ⟨c, rfl, a1, a2⟩ := bD_of I e123 q3 h3
    refine ⟨c, rfl, ?_⟩
    cases c with
    | false => exact iteF (k _ _ _ e123 (rs_dat (.bl _)) (a2 rfl))
    | true =>
      refine iteT (hc F g σ H3 _ PX _ (I.step e123) (w.step e123) (a1 rfl) fun s t H4 e4 r4 h4 => l2 F g σ H H4 y s u t _ _ I (e123.trans e4) ((q2.back e1).step e12 (e3.trans e4)) (r4.back e123) h4 fun z5 u5 H5 e5 r5 h5 => ?_)
      have e15 := (e123.trans e4).trans e5
      obtain ⟨c, rfl, b1, b2⟩ := bD_of I e15 r5 h5
      refine ⟨c, rfl, ?_⟩
      cases c with
      | false => exact iteF (k _ _ _ e15 (rs_dat (.bl _)) (b2 rfl))
      | true => exact iteT (hd F g σ H5 _ PX _ (I.step e15) (w.step e15) (b1 rfl) fun s6 t6 H6 e6 r6 h6 => l3 F g σ H H6 s s6 t t6 Q PQ I (e15.trans e6) ((r4.back e123).step (e123.trans e4) (e5.trans e6)) (r6.back e15) h6 fun r7 u7 H7 e7 r7' h7 => k _ _ _ ((e15.trans e6).trans e7) r7' h7)
/-! ##### calls -/
abbrev PSp := List Rs → (Er → Prop) → (Rs → Prop) → Prop
inductive ArgsR (K : PySem.W.Frag) (V0 : Hp) : List V → List Rs → Prop
  | nil : ArgsR K V0 [] []
  | dat {v d vs rs} : Rp K V0 v d → ArgsR K V0 vs rs → ArgsR K V0 (v :: vs) (.v .dat d :: rs)
  | obj {v vs rs} {A : Asr} : A.a v V0 → ArgsR K V0 vs rs → ArgsR K V0 (v :: vs) (.obj A :: rs)
/-- a def's promise in terms of values -/
def SpOk (K : PySem.W.Frag) (Ps : List Addr) (sp : Sp) (psp : PSp) : Prop := ∀ vs H Q E L0 as PX PQ, (∀ q ∈ L0, Hid H q) → ArgsR K (off H L0) vs as → (∀ P ∈ Ps, GxR.TabG H P) → psp as PX PQ →
  (∀ r v H2, Sm H H2 → RsR K ⟨H, L0⟩ [] H H2 v r → PQ r → Q v H2) → (∀ e cls d H2, Sm H H2 → ErR K L0 H2 e cls d → PX e → E cls d H2) → sp vs H Q E
def spP (K : PySem.W.Frag) (Ps : List Addr) (psp : PSp) : Sp := fun vs H Q E => ∃ L0 as PX PQ, (∀ q ∈ L0, Hid H q) ∧ ArgsR K (off H L0) vs as ∧ (∀ P ∈ Ps, GxR.TabG H P) ∧ psp as PX PQ ∧
  (∀ r v H2, Sm H H2 → RsR K ⟨H, L0⟩ [] H H2 v r → PQ r → Q v H2) ∧ (∀ e cls d H2, Sm H H2 → ErR K L0 H2 e cls d → PX e → E cls d H2)
theorem spok {psp : PSp} : SpOk K Ps (spP K Ps psp) psp := fun _ _ _ _ L0 as PX PQ h1 h2 h3 h4 h5 h6 => ⟨L0, as, PX, PQ, h1, h2, h3, h4, h5, h6⟩
def Rs.arg : Rs → Rs
  | .v _ d => .v .dat d
  | .obj A => .obj A
/-- what comes back where a list of one's own was lent -/
def lend (b : Bool) (r : Rs) (Q : Rs → Prop) : Prop := match b, r with
  | true, r => Q r
  | false, .v .fr (.list xs) => Q (.v (if xs.all flatD then .fr else .bor) (.list xs))
  | false, .v _ d => Q (.v (if flatD d then .dat else .bor) d)
  | false, .obj _ => False
def pCall (psp : PSp) (pa : GA) : GE := fun g PX Q => pa g PX fun rs => psp (rs.map Rs.arg) PX fun r => lend (allS rs) r Q
def pCall0 (psp : PSp) (pa : GA) : GE := fun g PX Q => pa g PX fun rs => psp (rs.map Rs.arg) (fun _ => False) fun r => lend (allS rs) r Q
theorem args_ok (I : Env K Ps F g σ H) (e : Sm H H1) {rs : List Rs} {vs : List V} (h : RsAll K F g H H1 vs rs) (s : allS rs = true) : ArgsR K (off H1 (F.L0 ++ owns g)) vs (rs.map Rs.arg) := by
  induction h with
  | nil => exact .nil
  | @cons v r vs rs a _ ih =>
    cases r with
    | obj A => exact .obj a (ih s)
    | v t d =>
      have s' : (t.ok && allS rs) = true := s
      exact .dat (a.dat I e (and1 s')) (ih (and2 s'))
theorem args_bor (I : Env K Ps F g σ H) (e : Sm H H1) {rs : List Rs} {vs : List V} (h : RsAll K F g H H1 vs rs) : ArgsR K (off H1 F.L0) vs (rs.map Rs.arg) := by
  induction h with
  | nil => exact .nil
  | @cons v r vs rs a _ ih =>
    cases r with
    | obj A => exact .obj (A.mono _ _ _ (sm_sub fun a z => List.mem_append_left _ z) a) ih
    | v t d => exact .dat (a.bor I e) ih
theorem ErR.sub {L L' : List Addr} {e : Er} {cls : Value} {d : Option Addr} (h : ErR K L H e cls d) (s : ∀ a, a ∈ L' → a ∈ L) : ErR K L' H e cls d := by
  refine ⟨h.1, ?_⟩
  have h2 := h.2
  cases q : e.fs with
  | none =>
    rw [q] at h2
    exact h2
  | some fs =>
    rw [q] at h2
    obtain ⟨a, us, rfl, ha, hp⟩ := h2
    obtain ⟨n, ha⟩ := off_some ha
    refine ⟨a, us, rfl, ?_, L2.Paired.mapP hp fun u f z => ⟨z.1, z.2.mono (sm_sub s)⟩⟩
    rw [off_ne fun z => n (s a z)]
    exact ha
theorem RsR.up (I : Env K Ps F g σ H) (e : Sm H H1) {r : Rs} {v : V} (h : RsR K ⟨H1, F.L0 ++ owns g⟩ [] H1 H2 v r) : RsR K F g H H2 v r := by
  have q : F.L0 ++ owns g ++ owns [] = F.L0 ++ owns g := List.append_nil _
  cases r with
  | obj A =>
    have h : A.a v (off H2 (F.L0 ++ owns g ++ owns [])) := h
    rw [q] at h
    exact h
  | v t d =>
    cases t with
    | dat =>
      have h : Rp K (off H2 (F.L0 ++ owns g ++ owns [])) v d := h
      rw [q] at h
      exact h
    | bor => exact Rp.mono (sm_sub fun a z => List.mem_append_left _ z) h
    | own p =>
      obtain ⟨vs, xs, _, _, z, _⟩ := h
      cases z
    | fr =>
      obtain ⟨p, vs, xs, rfl, rfl, hn, hp, ha⟩ := h
      have ha : RpAll K (off H2 (p :: (F.L0 ++ owns g ++ owns []))) vs xs := ha
      rw [q] at ha
      exact ⟨p, vs, xs, rfl, rfl, hn.back e, hp, ha⟩
    | ft =>
      obtain ⟨p, rs, rows, rfl, rfl, hn, hr, nd, hp, ht⟩ := h
      have ht : TabR K H2 (off H2 (p :: rs ++ (F.L0 ++ owns g ++ owns []))) rs rows := ht
      rw [q] at ht
      exact ⟨p, rs, rows, rfl, rfl, hn.back e, fun r hr2 => (hr r hr2).back e, nd, hp, ht⟩
theorem lend_ok (I : Env K Ps F g σ H) (e : Sm H H1) {r : Rs} {v : V} {Q : Rs → Prop} (h : RsR K ⟨H1, F.L0⟩ [] H1 H2 v r) (q : lend false r Q) : ∃ r', RsR K F g H H2 v r' ∧ Q r' := by
  have z0 : F.L0 ++ owns [] = F.L0 := List.append_nil _
  have flat : ∀ {d}, Rp K (off H2 F.L0) v d → Q (.v (if flatD d then .dat else .bor) d) → ∃ r', RsR K F g H H2 v r' ∧ Q r' := fun {d} hr q => by
    split at q
    · next f => exact ⟨.v .dat d, hr.flat f, q⟩
    · exact ⟨.v .bor d, hr, q⟩
  cases r with
  | obj A => exact q.elim
  | v t d =>
    cases t with
    | dat =>
      have h : Rp K (off H2 (F.L0 ++ owns [])) v d := h
      rw [z0] at h
      exact flat h q
    | bor => exact flat h q
    | own p =>
      obtain ⟨vs, xs, _, _, z, _⟩ := h
      cases z
    | fr =>
      obtain ⟨p, vs, xs, rfl, rfl, hn, hp, ha⟩ := h
      have ha : RpAll K (off H2 (p :: (F.L0 ++ owns []))) vs xs := ha
      rw [z0] at ha
      have q : Q (.v (if xs.all flatD then .fr else .bor) (.list xs)) := q
      split at q
      · next f => exact ⟨.v .fr (.list xs), ⟨p, vs, xs, rfl, rfl, hn.back e, hp, ha.flat f⟩, q⟩
      · refine ⟨.v .bor (.list xs), Rp.lst ?_ (ha.mono (sm_sub fun a z => .tail _ z)), q⟩
        rw [off_ne fun z => (((I.hd p z).mono e).ne hn) rfl]
        exact hp
    | ft =>
      refine flat ?_ q
      obtain ⟨p, rs, rows, rfl, rfl, hn, hr, nd, hp, ht⟩ := h
      refine Rp.lst ?_ (ht.rp (sm_sub fun a z => List.mem_append_right _ (List.mem_append_left _ z)) fun r hr2 z => (((I.hd r z).mono e).ne (hr r hr2)) rfl)
      rw [off_ne fun z => (((I.hd p z).mono e).ne hn) rfl]
      exact hp
/-- a call's reading, by what becomes of its errors -/
theorem call_of {sp : Sp} {psp : PSp} (ok : SpOk K Ps sp psp) (I : Env K Ps F g σ H) (e : Sm H H1) {rs : List Rs} {vs : List V} {Q : VK} {E : XK} {PX : Er → Prop} {PQ : Rs → Prop} (r : RsAll K F g H H1 vs rs) (h : psp (rs.map Rs.arg) PX fun r => lend (allS rs) r PQ)
    (k : ∀ r v H2, Sm H H2 → RsR K F g H H2 v r → PQ r → Q v H2) (x : ∀ e cls d H2, Sm H H2 → ErR K F.L0 H2 e cls d → PX e → E cls d H2) : sp vs H1 Q E := by
  have I1 := I.step e
  by_cases s : allS rs = true
  · refine ok vs H1 Q E (F.L0 ++ owns g) _ PX _ (fun q z => hidden I1 z) (args_ok I e r s) I1.tb h (fun r v H2 s2 r2 q => ?_) fun er cls d H2 s2 h2 p => x er cls d H2 (e.trans s2) (h2.sub fun a z => List.mem_append_left _ z) p
    rw [s] at q
    exact k _ _ _ (e.trans s2) (r2.up I e) q
  · have s' : allS rs = false := by simpa using s
    refine ok vs H1 Q E F.L0 _ PX _ I1.hd (args_bor I e r) I1.tb h (fun r v H2 s2 r2 q => ?_) fun er cls d H2 s2 h2 p => x er cls d H2 (e.trans s2) h2 p
    rw [s'] at q
    obtain ⟨r', h1, h2⟩ := lend_ok I e r2 q
    exact k _ _ _ (e.trans s2) h1 h2
theorem le_call0 {sp : Sp} {psp : PSp} {E : XK} {ta : TA} {pa : GA} (ok : SpOk K Ps sp psp) (ha : LA K Ps W ta pa) : LE K Ps W (tCall sp [] E ta) (pCall0 psp pa) := fun F g σ H Q PX PQ I w h k =>
  ha F g σ H _ PX _ I w h fun rs vs H1 e1 r1 h1 => by
    rw [List.append_nil]
    exact call_of ok I e1 r1 h1 k fun _ _ _ _ _ _ z => z.elim
theorem le_callX {sp : Sp} {psp : PSp} {E : XK} {ta : TA} {pa : GA} (ok : SpOk K Ps sp psp) (ha : LA K Ps (fun cls d _ H => E cls d H) ta pa) : LE K Ps (fun cls d _ H => E cls d H) (tCall sp [] E ta) (pCall psp pa) := fun F g σ H Q PX PQ I w h k =>
  ha F g σ H _ PX _ I w h fun rs vs H1 e1 r1 h1 => by
    rw [List.append_nil]
    exact call_of ok I e1 r1 h1 k w
theorem le_callT {sp : Sp} {psp : PSp} {ta : TA} {pa : GA} (ok : SpOk K Ps sp psp) (ha : LA K Ps W ta pa) : LE K Ps W (tCallS sp (fun σ cls d H => W cls d σ H) ta) (pCall psp pa) := fun F g σ H Q PX PQ I w h k =>
  ha F g σ H _ PX _ I w h fun rs vs H1 e1 r1 h1 => call_of ok I e1 r1 h1 k w
end
end PV

namespace PV
open PySem PySem.Spec PyProof.Rows L2 Cm
open GX (Sm)
section
variable {K : PySem.W.Frag} {Ps : List Addr} {W : WX} {F : Fr} {g : Gm} {σ : L2.St} {H H1 H2 : Hp}
/-! ##### what is walked -/
theorem wok_at {V0 : Hp} {J : It} {n : Nat} {G : Hp → Prop} {Y : Nat → Hp → V → Hp → Prop} {items : List PyData} (w : Walk J n G Y) (hn : n = items.length) (hG : ∀ H L, Sm V0 (off H L) → G H)
    (hy : ∀ i H L x H', i < n → Sm V0 (off H L) → (∀ q ∈ L, Hid H q) → Y i H x H' → Sm H H' ∧ ∃ d, items[i]? = some d ∧ Rp K (off H' L) x d) : WOk K V0 J items := by
  subst hn
  exact ⟨fun i H L hi e => w.goes i H hi (hG H L e), fun H L e => w.stops H (hG H L e), fun i H L x H' hi e q y => hy i H L x H' hi e q (w.yields i H x H' hi (hG H L e) y)⟩
def pIt (pa : GE) : GI := fun g PX Q => pa g PX fun x => match x with
  | .v t (.list ds) => t.ok = true ∧ Q ds
  | _ => False
theorem li_list {te : TE} {pa : GE} (ha : LE K Ps W te pa) : LI K Ps W (iList K te) (pIt pa) := fun F g σ H R PX PQ I w h k =>
  ha F g σ H _ PX _ I w h fun x v H1 e1 r1 h1 => by
    split at h1
    · next t ds =>
      have q := r1.dat I e1 h1.1
      cases q with
      | @lst a vs _ hp hr =>
        refine ⟨a, rfl, ⟨vs, SqL.of (off_some hp).2⟩, k _ _ _ e1 ?_ h1.2⟩
        refine wok_at (walk_list (K := K) (a := a) (xs := vs)) hr.length (fun H L e => SqL.of (off_some (e.l hp)).2) fun i H L x H' hi e _ y => ?_
        obtain ⟨rfl, hx⟩ := y
        obtain ⟨d, h1, h2⟩ := hr.getV hx
        exact ⟨Sm.refl _, d, h1, h2.mono e⟩
    · exact h1.elim
def pItT (pa : GE) : GI := fun g PX Q => pa g PX fun x => match x with
  | .v t (.tuple ds) => t.ok = true ∧ Q ds
  | _ => False
theorem li_tup {te : TE} {pa : GE} (ha : LE K Ps W te pa) : LI K Ps W (iTup K te) (pItT pa) := fun F g σ H R PX PQ I w h k =>
  ha F g σ H _ PX _ I w h fun x v H1 e1 r1 h1 => by
    split at h1
    · next t ds =>
      have q := r1.dat I e1 h1.1
      cases q with
      | @tup a vs _ hp hr =>
        refine ⟨a, rfl, ⟨vs, sm_hide.tup hp⟩, k _ _ _ e1 ?_ h1.2⟩
        refine wok_at (walk_tup (K := K) (a := a) (xs := vs)) hr.length (fun H L e => sm_hide.tup (e.tup hp)) fun i H L x H' hi e _ y => ?_
        obtain ⟨rfl, hx⟩ := y
        obtain ⟨d, h1, h2⟩ := hr.getV hx
        exact ⟨Sm.refl _, d, h1, h2.mono e⟩
    · exact h1.elim
/-- lo, lo + 1, .. as data -/
def rgD (lo : Int) (n : Nat) : List PyData := (List.range n).map fun (i : Nat) => .int (lo + (i : Int))
theorem rgD_get {lo : Int} {n i : Nat} (h : i < n) : (rgD lo n)[i]? = some (.int (lo + (i : Int))) := by
  unfold rgD
  rw [List.getElem?_map, List.getElem?_range h]
  rfl
theorem wok_rg {V0 : Hp} {lo : Int} {n : Nat} : WOk K V0 (Itr lo n) (rgD lo n) := by
  refine wok_at walk_range (by simp [rgD]) (fun _ _ _ => trivial) fun i H L x H' hi _ _ y => ?_
  obtain ⟨rfl, rfl⟩ := y
  exact ⟨Sm.refl _, _, rgD_get hi, .int _⟩
def pRg1 (pa : GA) : GI := fun g PX Q => pa g PX fun rs => match rs with
  | [.v _ (.int j)] => -(2 ^ 62) ≤ j ∧ j < 2 ^ 62 ∧ Q (rgD 0 j.toNat)
  | _ => False
theorem li_rg1 {ta : TA} {pa : GA} (ha : LA K Ps W ta pa) : LI K Ps W (iRng1 ta) (pRg1 pa) := fun F g σ H R PX PQ I w h k =>
  ha F g σ H _ PX _ I w h fun rs vs H1 e1 r1 h1 => by
    split at h1
    · obtain ⟨v, rfl, a⟩ := rs1 r1
      cases a.rp I e1
      exact ⟨_, rfl, h1.1, h1.2.1, k _ _ _ e1 wok_rg h1.2.2⟩
    · exact h1.elim
def pRg2 (pa : GA) : GI := fun g PX Q => pa g PX fun rs => match rs with
  | [.v _ (.int i), .v _ (.int j)] => (-(2 ^ 62) ≤ i ∧ i < 2 ^ 62 ∧ -(2 ^ 62) ≤ j ∧ j < 2 ^ 62) ∧ Q (rgD i (j - i).toNat)
  | _ => False
theorem li_rg2 {ta : TA} {pa : GA} (ha : LA K Ps W ta pa) : LI K Ps W (iRng2 ta) (pRg2 pa) := fun F g σ H R PX PQ I w h k =>
  ha F g σ H _ PX _ I w h fun rs vs H1 e1 r1 h1 => by
    split at h1
    · obtain ⟨v, u, rfl, a, b⟩ := rs2 r1
      cases a.rp I e1
      cases b.rp I e1
      exact ⟨_, _, rfl, h1.1, k _ _ _ e1 wok_rg h1.2⟩
    · exact h1.elim
/-- lo, lo + c, .. as data -/
def rgC (lo c : Int) (n : Nat) : List PyData := (List.range n).map fun (i : Nat) => .int (lo + (i : Int) * c)
theorem rgC_get {lo c : Int} {n i : Nat} (h : i < n) : (rgC lo c n)[i]? = some (.int (lo + (i : Int) * c)) := by
  unfold rgC
  rw [List.getElem?_map, List.getElem?_range h]
  rfl
def pRg3 (pa : GA) : GI := fun g PX Q => pa g PX fun rs => match rs with
  | [.v _ (.int i), .v _ (.int j), .v _ (.int c)] => ∃ n, RgC i j c n ∧ Q (rgC i c n)
  | _ => False
theorem li_rg3 {ta : TA} {pa : GA} (ha : LA K Ps W ta pa) : LI K Ps W (iRng3 ta) (pRg3 pa) := fun F g σ H R PX PQ I w h k =>
  ha F g σ H _ PX _ I w h fun rs vs H1 e1 r1 h1 => by
    split at h1
    · obtain ⟨n, hn, q⟩ := h1
      cases r1 with
      | cons a r1 =>
        obtain ⟨u, v, rfl, b, c⟩ := rs2 r1
        cases a.rp I e1
        cases b.rp I e1
        cases c.rp I e1
        refine ⟨_, _, _, n, rfl, hn, k _ _ _ e1 ?_ q⟩
        refine wok_at walk_rangeC (by simp [rgC]) (fun _ _ _ => trivial) fun i H L x H' hi _ _ y => ?_
        obtain ⟨rfl, rfl⟩ := y
        exact ⟨Sm.refl _, _, rgC_get hi, .int _⟩
    · exact h1.elim
/-- a new pair, seen -/
theorem rp_pair {T : Addr} {x y : V} {d e : PyData} {L : List Addr} (hT : H T = none) (hL : ∀ q ∈ L, Hid H q) (h1 : Rp K (off H L) x d) (h2 : Rp K (off H L) y e) : Sm H (upd H T (.tup [x, y])) ∧ Rp K (off (upd H T (.tup [x, y])) L) (.ref T) (.tuple [d, e]) := by
  have s := sm_new (o := .tup [x, y]) (Sm.refl H) hT
  have s2 : Sm (off H L) (off (upd H T (.tup [x, y])) L) := sm_off s fun _ z => .inl z
  refine ⟨s, .tup (SqT.of ?_) (.cons (h1.mono s2) (.cons (h2.mono s2) .nil))⟩
  rw [off_ne fun z => (hL T z).ne (NewTo.none hT) rfl]
  exact upd_same
def enD (ds : List PyData) : List PyData := (List.range ds.length).zipWith (fun (i : Nat) d => .tuple [.int (i : Int), d]) ds
theorem enD_get {ds : List PyData} {i : Nat} {d : PyData} (h : ds[i]? = some d) : (enD ds)[i]? = some (.tuple [.int (i : Int), d]) := by
  have hi : i < ds.length := by
    by_cases z : i < ds.length
    · exact z
    · rw [List.getElem?_eq_none (Nat.le_of_not_lt z)] at h
      cases h
  unfold enD
  rw [List.getElem?_zipWith, List.getElem?_range hi, h]
def pEnum (pa : GA) : GI := fun g PX Q => pa g PX fun rs => match rs with
  | [.v t (.list ds)] => t.ok = true ∧ Q (enD ds)
  | _ => False
theorem li_enum {ta : TA} {pa : GA} (ha : LA K Ps W ta pa) : LI K Ps W (iEnum K ta) (pEnum pa) := fun F g σ H R PX PQ I w h k =>
  ha F g σ H _ PX _ I w h fun rs vs H1 e1 r1 h1 => by
    split at h1
    · next t ds =>
      obtain ⟨v, rfl, ra⟩ := rs1 r1
      have q := ra.dat I e1 h1.1
      cases q with
      | @lst a vs _ hp hr =>
        refine ⟨a, vs, rfl, SqL.of (off_some hp).2, k _ _ _ e1 ?_ h1.2⟩
        refine wok_at (walk_enum (K := K) (a := a) (xs := vs)) (by rw [hr.length]; simp [enD]) (fun H L e => SqL.of (off_some (e.l hp)).2) fun i H L x H' hi e hL y => ?_
        obtain ⟨T, x, z, rfl, hT, rfl, h1, h2⟩ := y
        cases h1
        obtain ⟨d, h3, h4⟩ := hr.getV h2
        obtain ⟨s, q⟩ := rp_pair hT hL (Rp.int (i : Int)) (h4.mono e)
        exact ⟨s, _, enD_get h3, q⟩
    · exact h1.elim
def zipD (xs ys : List PyData) : List PyData := xs.zipWith (fun x y => .tuple [x, y]) ys
def pZip (pa : GA) : GI := fun g PX Q => pa g PX fun rs => match rs with
  | [.v t (.list ds), .v u (.list es)] => t.ok = true ∧ u.ok = true ∧ Q (zipD ds es)
  | _ => False
theorem li_zip {ta : TA} {pa : GA} (ha : LA K Ps W ta pa) : LI K Ps W (iZip K ta) (pZip pa) := fun F g σ H R PX PQ I w h k =>
  ha F g σ H _ PX _ I w h fun rs vs H1 e1 r1 h1 => by
    split at h1
    · next t ds u es =>
      obtain ⟨v, u, rfl, ra, rb⟩ := rs2 r1
      have q := ra.dat I e1 h1.1
      have q2 := rb.dat I e1 h1.2.1
      cases q with
      | @lst a vs _ hp hr =>
        cases q2 with
        | @lst b us _ hp2 hr2 =>
          refine ⟨a, b, vs, us, rfl, SqL.of (off_some hp).2, SqL.of (off_some hp2).2, k _ _ _ e1 ?_ h1.2.2⟩
          refine wok_at (walk_zip (K := K) (a := a) (b := b) (xs := vs) (ys := us) rfl) (by rw [hr.length, hr2.length]; simp [zipD]) (fun H L e => ⟨SqL.of (off_some (e.l hp)).2, SqL.of (off_some (e.l hp2)).2⟩) fun i H L x H' hi e hL y => ?_
          obtain ⟨T, x, z, rfl, hT, rfl, h1, h2⟩ := y
          obtain ⟨d, h3, h4⟩ := hr.getV h1
          obtain ⟨d2, h5, h6⟩ := hr2.getV h2
          obtain ⟨s, q⟩ := rp_pair hT hL (h4.mono e) (h6.mono e)
          exact ⟨s, _, by unfold zipD; rw [List.getElem?_zipWith, h3, h5], q⟩
    · exact h1.elim
def pRev (pa : GA) : GI := fun g PX Q => pa g PX fun rs => match rs with
  | [.v t (.list ds)] => t.ok = true ∧ Q ds.reverse
  | _ => False
theorem li_rev {ta : TA} {pa : GA} (ha : LA K Ps W ta pa) : LI K Ps W (iRev K ta) (pRev pa) := fun F g σ H R PX PQ I w h k =>
  ha F g σ H _ PX _ I w h fun rs vs H1 e1 r1 h1 => by
    split at h1
    · next t ds =>
      obtain ⟨v, rfl, ra⟩ := rs1 r1
      have q := ra.dat I e1 h1.1
      cases q with
      | @lst a vs _ hp hr =>
        refine ⟨a, vs, rfl, SqL.of (off_some hp).2, k _ _ _ e1 ?_ h1.2⟩
        refine wok_at (walk_rev (K := K) (a := a) (xs := vs)) (by rw [List.length_reverse, hr.length]) (fun H L e => SqL.of (off_some (e.l hp)).2) fun i H L x H' hi e _ y => ?_
        obtain ⟨rfl, hx⟩ := y
        obtain ⟨d, h1, h2⟩ := hr.getV hx
        refine ⟨Sm.refl _, d, ?_, h2.mono e⟩
        rw [List.getElem?_reverse (by rw [← hr.length]; exact hi), ← hr.length]
        exact h1
    · exact h1.elim
def chD (z : Str) : List PyData := z.cps.toList.map fun c => .str ⟨#[c]⟩
def pStr (pa : GE) : GI := fun g PX Q => pa g PX fun x => match x with
  | .v _ (.str z) => Q (chD z)
  | _ => False
theorem li_str {te : TE} {pa : GE} (ha : LE K Ps W te pa) : LI K Ps W (iStr te) (pStr pa) := fun F g σ H R PX PQ I w h k =>
  ha F g σ H _ PX _ I w h fun x v H1 e1 r1 h1 => by
    split at h1
    · next t z =>
      cases r1.rp I e1
      refine ⟨z, rfl, k _ _ _ e1 ?_ h1⟩
      refine wok_at walk_str (by simp [chD]) (fun _ _ _ => trivial) fun i H L x H' hi _ _ y => ?_
      obtain ⟨rfl, c, hc, rfl⟩ := y
      refine ⟨Sm.refl _, _, ?_, .str _⟩
      unfold chD
      rw [List.getElem?_map, Array.getElem?_toList, hc]
      rfl
    · exact h1.elim
/-! ##### targets -/
def setR (own : Bool) (i : Nat) (r : Rs) (g : Gm) (Q : Gm → Prop) : Prop := match r with
  | .v .dat d => Q (g.set i (some (.dat d)))
  | .v .fr (.list xs) => (own = true → ∀ p, Q (g.set i (some (.own p xs)))) ∧ (own = false → Q (g.set i (some (.dat (.list xs)))))
  | .v .fr _ => False
  | .v .ft (.list ds) => (own = true → ∀ p rs rows, ds = rows.map PyData.list → Q (g.set i (some (.tab p rs rows)))) ∧ (own = false → Q (g.set i (some (.dat (.list ds)))))
  | .v .ft _ => False
  | .v (.own _) d => Q ((shr g).set i (some (.dat d)))
  | .v .bor d => Q ((shr g).set i (some (.dat d)))
  | .obj A => Q (g.set i (some (.obj A)))
theorem set_ok (I : Env K Ps F g σ H) (e : Sm H H1) {r : Rs} {v : V} {i : Nat} {b : Bool} {Q : Gm → Prop} (h : RsR K F g H H1 v r) (q : setR b i r g Q) : ∃ g', Env K Ps F g' (σ.set i (some v)) H1 ∧ Q g' := by
  have I1 := I.step e
  cases r with
  | obj A => exact ⟨_, I1.set_obj h, q⟩
  | v t d =>
    cases t with
    | dat => exact ⟨_, I1.set_dat h, q⟩
    | bor =>
      have I2 := I1.share
      have h2 : Rp K (off H1 (F.L0 ++ owns (shr g))) v d := by
        rw [owns_shr, List.append_nil]
        exact h
      exact ⟨_, I2.set_dat h2, q⟩
    | own p =>
      have h2 := h.bor I e
      rw [← List.append_nil F.L0, ← owns_shr (g := g)] at h2
      exact ⟨_, I1.share.set_dat h2, q⟩
    | fr =>
      have hd := h.dat I e rfl
      obtain ⟨p, vs, xs, rfl, rfl, hn, hp, ha⟩ := h
      cases b with
      | true => exact ⟨_, I.set_own e hn hp ha, q.1 rfl p⟩
      | false => exact ⟨_, I1.set_dat hd, q.2 rfl⟩
    | ft =>
      have hd := h.dat I e rfl
      obtain ⟨p, rs, rows, rfl, rfl, hn, hr, nd, hp, ht⟩ := h
      cases b with
      | true => exact ⟨_, I.set_tab e hn hr nd hp ht, q.1 rfl p rs rows rfl⟩
      | false => exact ⟨_, I1.set_dat hd, q.2 rfl⟩
def pName (b : Bool) (i : Nat) : GG := fun r g _ Q => setR b i r g Q
def LG' (K : PySem.W.Frag) (Ps : List Addr) (tg : TG) (pg : GG) (vs : List Nat) : Prop := ∀ F g σ H H1 v r Q PX PQ, Env K Ps F g σ H → Sm H H1 → RsR K F g H H1 v r → pg r g PX PQ →
  (∀ g' σ', Env K Ps F g' σ' H1 → (∀ j, j ∉ vs → σ'[j]? = σ[j]?) → σ'.length = σ.length → PQ g' → Q σ' H1) → tg v σ H1 Q
theorem lg_name {b : Bool} {i : Nat} : LG' K Ps (gName i) (pName b i) [i] := fun F g σ H H1 v r Q PX PQ I e hr h k => by
  obtain ⟨g', J, q⟩ := set_ok I e hr h
  exact k g' _ J (fun j hj => List.getElem?_set_ne fun z => hj (by subst z; exact .head _)) (by simp) q
/-! targets of data: names, tuples of targets -/
mutual
inductive Tgt where
  | name (i : Nat)
  | tup (ts : Tgts)
inductive Tgts where
  | nil
  | cons (t : Tgt) (ts : Tgts)
end
def Tgts.length : Tgts → Nat
  | .nil => 0
  | .cons _ ts => ts.length + 1
mutual
def tgT (K : PySem.W.Frag) : Tgt → TG
  | .name i => gName i
  | .tup ts => gTup K ts.length (tgsT K ts)
def tgsT (K : PySem.W.Frag) : Tgts → TGs
  | .nil => gNil
  | .cons t ts => gCons (tgT K t) (tgsT K ts)
end
mutual
def pTgt : Tgt → PyData → Gm → (Gm → Prop) → Prop
  | .name i, d, g, Q => Q (g.set i (some (.dat d)))
  | .tup ts, .tuple ds, g, Q => pTgts ts ds g Q
  | .tup _, _, _, _ => False
def pTgts : Tgts → List PyData → Gm → (Gm → Prop) → Prop
  | .nil, [], g, Q => Q g
  | .cons t ts, d :: ds, g, Q => pTgt t d g fun g' => pTgts ts ds g' Q
  | _, _, _, _ => False
end
mutual
def tgV : Tgt → List Nat
  | .name i => [i]
  | .tup ts => tgsV ts
def tgsV : Tgts → List Nat
  | .nil => []
  | .cons t ts => tgV t ++ tgsV ts
end
mutual
theorem tgt_ok : ∀ (t : Tgt) {F : Fr} {g : Gm} {σ : L2.St} {H : Hp} {v : V} {d : PyData} {Q : L2.St → Hp → Prop} {PQ : Gm → Prop}, Env K Ps F g σ H → Rp K (off H (F.L0 ++ owns g)) v d → pTgt t d g PQ →
    (∀ g' σ', Env K Ps F g' σ' H → Sm (off H (F.L0 ++ owns g)) (off H (F.L0 ++ owns g')) → (∀ j, j ∉ tgV t → σ'[j]? = σ[j]?) → σ'.length = σ.length → PQ g' → Q σ' H) → tgT K t v σ H Q
  | .name i, F, g, σ, H, v, d, Q, PQ, I, hr, h, k => by
    unfold tgT
    unfold pTgt at h
    refine k _ _ (I.set_dat hr) (vis_set rfl) (fun j hj => List.getElem?_set_ne fun z => hj ?_) (by simp) h
    subst z
    unfold tgV
    exact .head _
  | .tup ts, F, g, σ, H, v, d, Q, PQ, I, hr, h, k => by
    unfold tgT
    cases hr with
    | tup hp ha =>
      unfold pTgt at h
      have hl := tgts_len ts h
      refine ⟨_, _, rfl, sm_hide.tup hp, by rw [ha.length]; exact hl, ?_⟩
      refine tgts_ok ts I ha h fun g' σ' J e hj hn q => k g' σ' J e (fun j z => hj j fun z2 => z ?_) hn q
      unfold tgV
      exact z2
    | non => unfold pTgt at h; exact h.elim
    | bl _ => unfold pTgt at h; exact h.elim
    | int _ => unfold pTgt at h; exact h.elim
    | str _ => unfold pTgt at h; exact h.elim
    | lst _ _ => unfold pTgt at h; exact h.elim
theorem tgts_ok : ∀ (ts : Tgts) {F : Fr} {g : Gm} {σ : L2.St} {H : Hp} {vs : List V} {ds : List PyData} {Q : L2.St → Hp → Prop} {PQ : Gm → Prop}, Env K Ps F g σ H → RpAll K (off H (F.L0 ++ owns g)) vs ds → pTgts ts ds g PQ →
    (∀ g' σ', Env K Ps F g' σ' H → Sm (off H (F.L0 ++ owns g)) (off H (F.L0 ++ owns g')) → (∀ j, j ∉ tgsV ts → σ'[j]? = σ[j]?) → σ'.length = σ.length → PQ g' → Q σ' H) → tgsT K ts vs σ H Q
  | .nil, F, g, σ, H, vs, ds, Q, PQ, I, hr, h, k => by
    unfold tgsT
    cases hr with
    | nil =>
      unfold pTgts at h
      exact ⟨rfl, k _ _ I (Sm.refl _) (fun _ _ => rfl) rfl h⟩
    | cons _ _ => unfold pTgts at h; exact h.elim
  | .cons t ts, F, g, σ, H, vs, ds, Q, PQ, I, hr, h, k => by
    unfold tgsT
    cases hr with
    | nil => unfold pTgts at h; exact h.elim
    | cons h1 h2 =>
      unfold pTgts at h
      refine ⟨_, _, rfl, tgt_ok t I h1 h fun g' σ' J e hj hn q => ?_⟩
      refine tgts_ok ts J (h2.mono e) q fun g2 σ2 J2 e2 hj2 hn2 q2 => k g2 σ2 J2 (e.trans e2) (fun j z => ?_) (hn2.trans hn) q2
      unfold tgsV at z
      rw [hj2 j fun y => z (List.mem_append_right _ y), hj j fun y => z (List.mem_append_left _ y)]
theorem tgts_len : ∀ (ts : Tgts) {ds : List PyData} {g : Gm} {PQ : Gm → Prop}, pTgts ts ds g PQ → ds.length = ts.length
  | .nil, ds, g, PQ, h => by
    cases ds with
    | nil => rfl
    | cons _ _ => unfold pTgts at h; exact h.elim
  | .cons t ts, ds, g, PQ, h => by
    cases ds with
    | nil => unfold pTgts at h; exact h.elim
    | cons d ds =>
      unfold pTgts at h
      obtain ⟨g', PQ', h2⟩ : ∃ g' PQ', pTgts ts ds g' PQ' := tgt_some t h fun g' q => ⟨g', _, q⟩
      rw [List.length_cons, tgts_len ts h2, Tgts.length]
theorem tgt_some : ∀ (t : Tgt) {d : PyData} {g : Gm} {PQ : Gm → Prop} {A : Prop}, pTgt t d g PQ → (∀ g', PQ g' → A) → A
  | .name i, d, g, PQ, A, h, k => by
    unfold pTgt at h
    exact k _ h
  | .tup ts, d, g, PQ, A, h, k => by
    cases d with
    | tuple ds =>
      unfold pTgt at h
      exact tgts_some ts h k
    | none => unfold pTgt at h; exact h.elim
    | bool _ => unfold pTgt at h; exact h.elim
    | int _ => unfold pTgt at h; exact h.elim
    | str _ => unfold pTgt at h; exact h.elim
    | list _ => unfold pTgt at h; exact h.elim
    | dict _ => unfold pTgt at h; exact h.elim
theorem tgts_some : ∀ (ts : Tgts) {ds : List PyData} {g : Gm} {PQ : Gm → Prop} {A : Prop}, pTgts ts ds g PQ → (∀ g', PQ g' → A) → A
  | .nil, ds, g, PQ, A, h, k => by
    cases ds with
    | nil => unfold pTgts at h; exact k _ h
    | cons _ _ => unfold pTgts at h; exact h.elim
  | .cons t ts, ds, g, PQ, A, h, k => by
    cases ds with
    | nil => unfold pTgts at h; exact h.elim
    | cons d ds =>
      unfold pTgts at h
      exact tgt_some t h fun g' q => tgts_some ts q k
end
end
end PV

namespace PV
open PySem PySem.Spec PyProof.Rows L2 Cm
open GX (Sm)
section
variable {K : PySem.W.Frag} {Ps : List Addr} {W : WX} {F : Fr} {g : Gm} {σ : L2.St} {H H1 H2 : Hp}
def pTg (t : Tgt) : GG := fun r g _ Q => match r with
  | .v k d => k.ok = true ∧ pTgt t d g Q
  | .obj _ => False
theorem lg_tgt (t : Tgt) : LG' K Ps (tgT K t) (pTg t) (tgV t) := fun F g σ H H1 v r Q PX PQ I e hr h k => by
  cases r with
  | obj A => exact h.elim
  | v t2 d => exact tgt_ok t (I.step e) (hr.dat I e h.1) h.2 fun g' σ' J _ hj hn q => k g' σ' J hj hn q
/-! ##### statements -/
theorem Ends'.to {PD : GEnds} {D : Ends} (h : Ends' K Ps W F PD D) {N : L2.St → Hp → Prop} {PN : Gm → Prop} (hn : ∀ g σ H, Env K Ps F g σ H → PN g → N σ H) : Ends' K Ps W F { PD with nx := PN } { D with nx := N } :=
  ⟨hn, h.bk, h.ct, h.rt, h.ex⟩
def pNext : GS := fun PD g => PD.nx g
theorem ls_next : LS K Ps W tNext pNext := fun F D σ H PD g I E h => E.nx g σ H I h
def pBreak : GS := fun PD g => PD.bk g
theorem ls_break : LS K Ps W tBreak pBreak := fun F D σ H PD g I E h => E.bk g σ H I h
def pCont : GS := fun PD g => PD.ct g
theorem ls_cont : LS K Ps W tCont pCont := fun F D σ H PD g I E h => E.ct g σ H I h
def pSeq (a b : GS) : GS := fun PD g => a { PD with nx := b PD } g
theorem ls_seq {t u : TS} {a b : GS} (h1 : LS K Ps W t a) (h2 : LS K Ps W u b) : LS K Ps W (tSeq t u) (pSeq a b) := fun F D σ H PD g I E h =>
  h1 F { D with nx := u D } σ H { PD with nx := b PD } g I (E.to fun g' σ' H' J q => h2 F D σ' H' PD g' J E q) h
def pCut (a b : GS) : GS := fun PD g => ∃ Mid : Gm → Prop, a { PD with nx := Mid } g ∧ ∀ g', Mid g' → b PD g'
theorem ls_cut {t u : TS} {a b : GS} (h1 : LS K Ps W t a) (h2 : LS K Ps W u b) : LS K Ps W (Evl.tCut t u) (pCut a b) := fun F D σ H PD g I E ⟨Mid, ha, hb⟩ =>
  ⟨fun σ' H' => ∃ g', Env K Ps F g' σ' H' ∧ Mid g', h1 F _ σ H { PD with nx := Mid } g I (E.to fun g' σ' H' J q => ⟨g', J, q⟩) ha, fun σ' H' ⟨g', J, q⟩ => h2 F D σ' H' PD g' J E (hb g' q)⟩
theorem ls_cutS {t u : TS} {a b : GS} (h1 : LS K Ps W t a) (h2 : LS K Ps W u b) : LS K Ps W (tSeq t u) (pCut a b) := fun F D σ H PD g I E ⟨Mid, ha, hb⟩ =>
  h1 F _ σ H { PD with nx := Mid } g I (E.to fun g' σ' H' J q => h2 F D σ' H' PD g' J E (hb g' q)) ha
/-- lists of one's own are given up first -/
def pShr (a : GS) : GS := fun PD g => a PD (shr g)
theorem ls_shr {t : TS} {a : GS} (h : LS K Ps W t a) : LS K Ps W t (pShr a) := fun F D σ H PD g I E q => h F D σ H PD (shr g) I.share E q
/-- slots are forgotten first -/
def fgt : List Nat → Gm → Gm
  | [], g => g
  | i :: r, g => fgt r (g.set i none)
theorem set_same {α : Type} {l : List α} {i : Nat} : ∀ {v : α}, l[i]? = some v → l.set i v = l := fun {v} h => by
  apply List.ext_getElem?
  intro j
  by_cases z : i = j
  · subst z
    rw [List.getElem?_set_self', h]
    rfl
  · rw [List.getElem?_set_ne z]
theorem Env.fgt1 (I : Env K Ps F g σ H) (i : Nat) : Env K Ps F (g.set i none) σ H := by
  cases e : σ[i]? with
  | none =>
    have : g.set i none = g := by
      rw [List.set_eq_of_length_le]
      rw [← I.sl.len]
      exact List.getElem?_eq_none_iff.mp e
    rw [this]
    exact I
  | some u =>
    have := I.forget (i := i) u
    rwa [set_same e] at this
theorem Env.fgt (is : List Nat) : ∀ {g : Gm}, Env K Ps F g σ H → Env K Ps F (fgt is g) σ H := by
  induction is with
  | nil => exact fun I => I
  | cons i r ih => exact fun I => ih (I.fgt1 i)
theorem own_out {x : Sl} {a : Addr} (ha : a ∈ ownsOf (some x)) : ∀ {g : Gm} {i : Nat}, (owns g).Nodup → g[i]? = some (some x) → a ∉ owns (g.set i none)
  | [], _, _, h => by simp at h
  | y :: g, 0, nd, h => by
    simp at h
    subst h
    intro z
    exact (List.nodup_append.mp nd).2.2 a ha a (show a ∈ owns g from z) rfl
  | y :: g, i + 1, nd, h => by
    have h : g[i]? = some (some x) := by simpa using h
    intro z
    rcases List.mem_append.mp (show a ∈ ownsOf y ++ owns (g.set i none) from z) with z | z
    · exact (List.nodup_append.mp nd).2.2 a z a (mem_ownsOf ha (List.mem_of_getElem? h)) rfl
    · exact own_out ha (List.nodup_append.mp nd).2.1 h z
/-- one list of one's own is given up -/
theorem Env.share1 (I : Env K Ps F g σ H) {i : Nat} {p : Addr} {xs : List PyData} (hg : g[i]? = some (some (.own p xs))) : Env K Ps F (g.set i (some (.dat (.list xs)))) σ H := by
  obtain ⟨u, hu, rfl, vs, hH, hr⟩ := I.sl.get hg
  have hp : p ∉ F.L0 ++ owns (g.set i none) := fun z => (List.mem_append.mp z).elim (I.nw p (mem_owns (List.mem_of_getElem? hg))).2.1 (own_out (List.mem_cons_self ..) I.nd hg)
  have J := (I.fgt1 i).set_dat (i := i) (v := .ref p) (d := .list xs) (.lst (by rw [off_ne hp]; exact hH) (hr.mono (vis_set rfl)))
  rw [List.set_set, set_same hu] at J
  exact J
theorem Env.shareT (I : Env K Ps F g σ H) {i : Nat} {p : Addr} {rs : List Addr} {rows : List (List PyData)} (hg : g[i]? = some (some (.tab p rs rows))) : Env K Ps F (g.set i (some (.dat (.list (rows.map PyData.list))))) σ H := by
  obtain ⟨u, hu, rfl, hH, ht⟩ := I.sl.get hg
  have hp : ∀ a ∈ p :: rs, a ∉ F.L0 ++ owns (g.set i none) := fun a ha z => (List.mem_append.mp z).elim (I.nw a (mem_ownsOf (x := some (.tab p rs rows)) ha (List.mem_of_getElem? hg))).2.1 (own_out (x := .tab p rs rows) ha I.nd hg)
  have J := (I.fgt1 i).set_dat (i := i) (v := .ref p) (d := .list (rows.map PyData.list)) (.lst (by rw [off_ne (hp p (List.mem_cons_self ..))]; exact hH) (ht.rp (vis_set rfl) fun r hr => hp r (List.mem_cons_of_mem _ hr)))
  rw [List.set_set, set_same hu] at J
  exact J
def shI (i : Nat) (g : Gm) : Gm := match g[i]? with
  | some (some (.own _ xs)) => g.set i (some (.dat (.list xs)))
  | some (some (.tab _ _ rows)) => g.set i (some (.dat (.list (rows.map PyData.list))))
  | _ => g
theorem Env.shI (I : Env K Ps F g σ H) (i : Nat) : Env K Ps F (shI i g) σ H := by
  unfold PV.shI
  split
  · next h => exact I.share1 h
  · next h => exact I.shareT h
  · exact I
def pShrI (i : Nat) (a : GS) : GS := fun PD g => a PD (shI i g)
theorem ls_shrI {t : TS} {a : GS} (i : Nat) (h : LS K Ps W t a) : LS K Ps W t (pShrI i a) := fun F D σ H PD g I E q => h F D σ H PD _ (I.shI i) E q
def pFgt (is : List Nat) (a : GS) : GS := fun PD g => a PD (fgt is g)
theorem ls_fgt {t : TS} {a : GS} (is : List Nat) (h : LS K Ps W t a) : LS K Ps W t (pFgt is a) := fun F D σ H PD g I E q => h F D σ H PD _ (I.fgt is) E q
/-- a cut behind which slots are forgotten -/
def pCutF (is : List Nat) (a b : GS) : GS := fun PD g => ∃ Mid : Gm → Prop, a ⟨fun g' => Mid (fgt is g'), PD.rt, PD.bk, PD.ct, PD.ex⟩ g ∧ ∀ g', Mid g' → b PD g'
theorem ls_cutF {t u : TS} {a b : GS} (is : List Nat) (h1 : LS K Ps W t a) (h2 : LS K Ps W u b) : LS K Ps W (Evl.tCut t u) (pCutF is a b) := fun F D σ H PD g I E ⟨Mid, ha, hb⟩ =>
  ⟨fun σ' H' => ∃ g', Env K Ps F g' σ' H' ∧ Mid g', h1 F _ σ H ⟨fun g' => Mid (fgt is g'), PD.rt, PD.bk, PD.ct, PD.ex⟩ g I ⟨fun g' σ' H' J q => ⟨fgt is g', J.fgt is, q⟩, E.bk, E.ct, E.rt, E.ex⟩ ha, fun σ' H' ⟨g', J, q⟩ => h2 F D σ' H' PD g' J E (hb g' q)⟩
def pAsg (pa : GE) (pg : GG) : GS := fun PD g => pa g (PD.ex g) fun r => pg r g (PD.ex g) PD.nx
theorem ls_asg {te : TE} {tg : TG} {pa : GE} {pg : GG} {vs : List Nat} (ha : LE K Ps W te pa) (hg : LG' K Ps tg pg vs) : LS K Ps W (tAsg te tg) (pAsg pa pg) := fun F D σ H PD g I E h =>
  ha F g σ H _ _ _ I (E.wx I) h fun r v H1 e1 r1 h1 => hg F g σ H H1 v r _ _ _ I e1 r1 h1 fun g' σ' J _ _ q => E.nx g' σ' H1 J q
def pExpr (pa : GE) : GS := fun PD g => pa g (PD.ex g) fun _ => PD.nx g
theorem ls_expr {te : TE} {pa : GE} (ha : LE K Ps W te pa) : LS K Ps W (tDrop te) (pExpr pa) := fun F D σ H PD g I E h =>
  ha F g σ H _ _ _ I (E.wx I) h fun r v H1 e1 r1 h1 => E.nx g σ H1 (I.step e1) h1
/-- what a caller sees of a result -/
def Rs.ret : Rs → Rs
  | .v .dat d => .v .dat d
  | .v .fr d => .v .fr d
  | .v (.own _) d => .v .fr d
  | .v .bor d => .v .dat d
  | .v .ft d => .v .ft d
  | .obj A => .obj A
theorem ret_ok (I : Env K Ps F g σ H) (e : Sm H H1) {r : Rs} {v : V} (h : RsR K F g H H1 v r) : RsR K F [] F.H0 H1 v r.ret := by
  have m : Sm (off H1 (F.L0 ++ owns g)) (off H1 (F.L0 ++ owns [])) := sm_sub fun a z => by
    rw [show owns [] = [] from rfl, List.append_nil] at z
    exact List.mem_append_left _ z
  cases r with
  | obj A => exact A.mono _ _ _ m h
  | v t d =>
    cases t with
    | dat => exact Rp.mono m h
    | bor =>
      have h2 : Rp K (off H1 F.L0) v d := h
      rw [← List.append_nil F.L0] at h2
      exact h2
    | fr =>
      obtain ⟨p, vs, xs, rfl, rfl, hn, hp, ha⟩ := h
      exact ⟨p, vs, xs, rfl, rfl, hn.back I.sm, hp, ha.mono (sm_sub fun a z => (List.mem_cons.mp z).elim (fun q => by subst q; exact .head _) fun z => .tail _ (List.mem_append_left _ (by simpa [owns] using z)))⟩
    | own p =>
      obtain ⟨vs, xs, rfl, rfl, hm, hp, ha⟩ := h
      exact ⟨p, vs, xs, rfl, rfl, (I.nw p hm).1, hp, ha.mono (sm_sub fun a z => (List.mem_cons.mp z).elim (fun q => by subst q; exact List.mem_append_right _ hm) fun z => List.mem_append_left _ (by simpa [owns] using z))⟩
    | ft =>
      obtain ⟨p, rs, rows, rfl, rfl, hn, hr, nd, hp, ht⟩ := h
      refine ⟨p, rs, rows, rfl, rfl, hn.back I.sm, fun r hr2 => (hr r hr2).back I.sm, nd, hp, ht.mono (Sm.refl _) (sm_sub fun a z => (List.mem_append.mp z).elim (fun z => List.mem_append_left _ z) fun z => List.mem_append_right _ (List.mem_append_left _ (by simpa [owns] using z)))⟩
def pRet (pa : GE) : GS := fun PD g => pa g (PD.ex g) fun r => PD.rt r.ret
theorem ls_ret {te : TE} {pa : GE} (ha : LE K Ps W te pa) : LS K Ps W (tRet te) (pRet pa) := fun F D σ H PD g I E h =>
  ha F g σ H _ _ _ I (E.wx I) h fun r v H1 e1 r1 h1 => E.rt _ v H1 (I.sm.trans e1) (ret_ok I e1 r1) h1
def pRetN : GS := fun PD _ => PD.rt (.v .dat .none)
theorem ls_retN : LS K Ps W tRetN pRetN := fun F D σ H PD g I E h => E.rt _ _ H I.sm (rs_dat .non) h
def pIf (pt : GT) (a b : GS) : GS := fun PD g => pt g (PD.ex g) fun c => (c = true → a PD g) ∧ (c = false → b PD g)
theorem ls_if {tt : TT} {t u : TS} {pt : GT} {a b : GS} (ht : LT K Ps W tt pt) (h1 : LS K Ps W t a) (h2 : LS K Ps W u b) : LS K Ps W (tIfS tt t u) (pIf pt a b) := fun F D σ H PD g I E h =>
  ht F g σ H _ _ _ I (E.wx I) h fun c H1 e1 h1' => by
    cases c with
    | true => exact iteT (h1 F D σ H1 PD g (I.step e1) E (h1'.1 rfl))
    | false => exact iteF (h2 F D σ H1 PD g (I.step e1) E (h1'.2 rfl))
def pAug (i : Nat) (f : Int → Int → Int) (pa : GE) : GS := fun PD g => match g[i]? with
  | some (some (.dat (.int a))) => pa g (PD.ex g) fun r => match r with
    | .v _ (.int b) => PD.nx (g.set i (some (.dat (.int (f a b)))))
    | _ => False
  | _ => False
theorem ls_aug {i : Nat} {f : Int → Int → Int} {te : TE} {pa : GE} (ha : LE K Ps W te pa) : LS K Ps W (tAug i te (ipI f)) (pAug i f pa) := fun F D σ H PD g I E h => by
  unfold pAug at h
  split at h
  · next a e =>
    obtain ⟨u, h1, h2⟩ := I.sl.get e
    cases h2
    refine ⟨_, h1, ha F g σ H _ _ _ I (E.wx I) h fun r v H1 e1 r1 h1 => ?_⟩
    split at h1
    · next t b =>
      cases r1.rp I e1
      exact ⟨_, _, rfl, rfl, E.nx _ _ H1 ((I.step e1).set_dat (.int _)) h1⟩
    · exact h1.elim
  · exact h.elim
def pPar (i j : Nat) (pa : GA) : GS := fun PD g => pa g (PD.ex g) fun rs => match rs with
  | [r, q] => setR false i r g fun g' => match q with
    | .v .dat d => r.arg = r ∧ PD.nx (g'.set j (some (.dat d)))
    | _ => False
  | _ => False
theorem ls_par {i j : Nat} {ta : TA} {pa : GA} (ha : LA K Ps W ta pa) : LS K Ps W (tPar i j ta) (pPar i j pa) := fun F D σ H PD g I E h =>
  ha F g σ H _ _ _ I (E.wx I) h fun rs vs H1 e1 r1 h1 => by
    split at h1
    · next r q =>
      obtain ⟨v, u, rfl, a, b⟩ := rs2 r1
      refine ⟨v, u, rfl, ?_⟩
      cases r with
      | obj A =>
        cases q with
        | obj _ => exact h1.elim
        | v t d => cases t with
          | dat => exact E.nx _ _ H1 (((I.step e1).set_obj (i := i) a).set_dat (Rp.mono (vis_set rfl) b)) h1.2
          | fr => exact h1.elim
          | bor => exact h1.elim
          | own _ => exact h1.elim
          | ft => exact h1.elim
      | v t d =>
        have ht : t = .dat := by
          cases t with
          | dat => rfl
          | ft => cases d <;> first | exact h1.elim | (have := h1.2 rfl; split at this <;> first | (cases this.1) | exact this.elim)
          | fr => cases d <;> first | exact h1.elim | (have := h1.2 rfl; split at this <;> first | (cases this.1) | exact this.elim)
          | bor => split at h1 <;> first | (cases h1.1) | exact h1.elim
          | own _ => split at h1 <;> first | (cases h1.1) | exact h1.elim
        subst ht
        cases q with
        | obj _ => exact h1.elim
        | v t2 d2 => cases t2 with
          | dat => exact E.nx _ _ H1 (((I.step e1).set_dat (i := i) a).set_dat (Rp.mono (vis_set rfl) b)) h1.2
          | fr => exact h1.elim
          | bor => exact h1.elim
          | own _ => exact h1.elim
          | ft => exact h1.elim
    · exact h1.elim
/-! ##### lists of one's own that change -/
theorem own_of (I : Env K Ps F g σ H) {j : Nat} {p : Addr} {xs : List PyData} (h : g[j]? = some (some (.own p xs))) : ∃ vs, σ[j]? = some (some (.ref p)) ∧ H p = some (.lst vs) ∧ RpAll K (off H (F.L0 ++ owns g)) vs xs := by
  obtain ⟨u, h1, rfl, vs, h2, h3⟩ := I.sl.get h
  exact ⟨vs, h1, h2, h3⟩
/-- a method that changes a list of one's own -/
def LM (K : PySem.W.Frag) (Ps : List Addr) (r : V → List V → Hp → VK → Prop) (pr : List PyData → List Rs → (List PyData → Prop) → Prop) : Prop := ∀ F g σ H H1 p vs xs us rs Q PQ, Env K Ps F g σ H → Sm H H1 → H1 p = some (.lst vs) → RpAll K (off H1 (F.L0 ++ owns g)) vs xs → RsAll K F g H H1 us rs → pr xs rs PQ →
  (∀ ys ws, RpAll K (off H1 (F.L0 ++ owns g)) ws ys → PQ ys → Q .non (upd H1 p (.lst ws))) → r (.ref p) us H1 Q
def pBM (j : Nat) (pr : List PyData → List Rs → (List PyData → Prop) → Prop) (pa : GA) : GS := fun PD g => match g[j]? with
  | some (some (.own p xs)) => pa g (PD.ex g) fun rs => pr xs rs fun ys => PD.nx (g.set j (some (.own p ys)))
  | _ => False
theorem ls_bm {j : Nat} {r : V → List V → Hp → VK → Prop} {pr : List PyData → List Rs → (List PyData → Prop) → Prop} {ta : TA} {pa : GA} (hm : LM K Ps r pr) (ha : LA K Ps W ta pa) : LS K Ps W (tDrop (tBM K "list" r (tVar j) ta)) (pBM j pr pa) := fun F D σ H PD g I E h => by
  unfold pBM at h
  split at h
  · next p xs e =>
    obtain ⟨vs, h1, h2, h3⟩ := own_of I e
    refine ⟨_, h1, .inl ⟨rfl, _, SqL.of h2⟩, ha F g σ H _ _ _ I (E.wx I) h fun rs us H1 e1 r1 q => ?_⟩
    have I1 := I.step e1
    exact hm F g σ H H1 p vs xs us rs _ _ I e1 (e1.l h2) (h3.mono (sm_off e1 fun _ z => .inl z)) r1 q fun ys ws hw q => E.nx _ σ _ (I1.put e hw) q
  · exact h.elim
def pBM0 (j : Nat) (pr : List PyData → List Rs → (List PyData → Prop) → Prop) : GS := fun PD g => match g[j]? with
  | some (some (.own p xs)) => pr xs [] fun ys => PD.nx (g.set j (some (.own p ys)))
  | _ => False
theorem ls_bm0 {j : Nat} {r : V → List V → Hp → VK → Prop} {pr : List PyData → List Rs → (List PyData → Prop) → Prop} (hm : LM K Ps r pr) : LS K Ps W (tDrop (tBM0 K "list" r (tVar j))) (pBM0 j pr) := fun F D σ H PD g I E h => by
  unfold pBM0 at h
  split at h
  · next p xs e =>
    obtain ⟨vs, h1, h2, h3⟩ := own_of I e
    exact ⟨_, h1, .inl ⟨rfl, _, SqL.of h2⟩, hm F g σ H H p vs xs [] [] _ _ I (Sm.refl H) h2 h3 .nil h fun ys ws hw q => E.nx _ σ _ (I.put e hw) q⟩
  · exact h.elim
def pAppend : List PyData → List Rs → (List PyData → Prop) → Prop := fun xs rs Q => match rs with
  | [.v t d] => t.ok = true ∧ xs.length < sizeLine ∧ Q (xs ++ [d])
  | _ => False
theorem lm_append : LM K Ps rAppend pAppend := by
  intro F g σ H H1 p vs xs us rs Q PQ I e hp ha r h k
  unfold pAppend at h
  split at h
  · next t d =>
    obtain ⟨v, rfl, a⟩ := rs1 r
    exact ⟨p, vs, v, rfl, rfl, hp, by rw [ha.length]; exact h.2.1, k _ _ (ha.append (.cons (a.dat I e h.1) .nil)) h.2.2⟩
  · exact h.elim
def pExtend : List PyData → List Rs → (List PyData → Prop) → Prop := fun xs rs Q => match rs with
  | [.v t (.list ds)] => t.d = true ∧ xs.length + ds.length ≤ sizeLine ∧ Q (xs ++ ds)
  | _ => False
theorem lm_extend : LM K Ps rExtend pExtend := by
  intro F g σ H H1 p vs xs us rs Q PQ I e hp ha r h k
  unfold pExtend at h
  split at h
  · next t ds =>
    obtain ⟨v, rfl, a⟩ := rs1 r
    obtain ⟨q, ws, rfl, hq, h1, h2⟩ := a.items I e
    exact ⟨p, q, vs, ws, rfl, rfl, hp, hq, by rw [ha.length, h1.length]; exact h.2.1, k _ _ (ha.append (h2 (it_d h.1))) h.2.2⟩
  · exact h.elim
def pExtT : List PyData → List Rs → (List PyData → Prop) → Prop := fun xs rs Q => match rs with
  | [.v t (.tuple ds)] => t.d = true ∧ xs.length + ds.length ≤ sizeLine ∧ Q (xs ++ ds)
  | _ => False
theorem lm_extT : LM K Ps (fun x vs H Q => ∃ l b xs zs, x = .ref l ∧ vs = [.ref b] ∧ H l = some (.lst xs) ∧ SqT K H b zs ∧ xs.length + zs.length ≤ sizeLine ∧ Q .non (upd H l (.lst (xs ++ zs)))) pExtT := by
  intro F g σ H H1 p vs xs us rs Q PQ I e hp ha r h k
  unfold pExtT at h
  split at h
  · next t ds =>
    obtain ⟨v, rfl, a⟩ := rs1 r
    obtain ⟨q, ws, rfl, hq, h1, h2⟩ := a.itemsT I e
    exact ⟨p, q, vs, ws, rfl, rfl, hp, hq, by rw [ha.length, h1.length]; exact h.2.1, k _ _ (ha.append (h2 (it_d h.1))) h.2.2⟩
  · exact h.elim
def pClear : List PyData → List Rs → (List PyData → Prop) → Prop := fun _ rs Q => rs = [] ∧ Q []
theorem lm_clear : LM K Ps rClear pClear := by
  intro F g σ H H1 p vs xs us rs Q PQ I e hp ha r h k
  obtain ⟨rfl, h⟩ := h
  cases r
  exact ⟨p, vs, rfl, rfl, hp, k _ _ .nil h⟩
def pReverse : List PyData → List Rs → (List PyData → Prop) → Prop := fun xs rs Q => rs = [] ∧ Q xs.reverse
theorem lm_reverse : LM K Ps rReverse pReverse := by
  intro F g σ H H1 p vs xs us rs Q PQ I e hp ha r h k
  obtain ⟨rfl, h⟩ := h
  cases r
  exact ⟨p, vs, rfl, rfl, hp, k _ _ ha.reverse h⟩
/-- target = xs.pop() -/
def pPop (j : Nat) (pg : GG) : GS := fun PD g => match g[j]? with
  | some (some (.own p xs)) => ∃ ys d, xs = ys ++ [d] ∧ pg (.v .dat d) (g.set j (some (.own p ys))) (PD.ex g) PD.nx
  | _ => False
theorem ls_pop {j : Nat} {tg : TG} {pg : GG} {vs : List Nat} (hg : LG' K Ps tg pg vs) : LS K Ps W (tAsg (tBM0 K "list" rPop (tVar j)) tg) (pPop j pg) := fun F D σ H PD g I E h => by
  unfold pPop at h
  split at h
  · next p xs e =>
    obtain ⟨us, h1, h2, h3⟩ := own_of I e
    obtain ⟨ys, d, rfl, h⟩ := h
    have hl := h3.length
    rw [List.length_append, List.length_singleton] at hl
    obtain ⟨v, h4, h5⟩ := h3.get (i := ys.length) (d := d) (by simp)
    have ht := h3.take ys.length
    rw [List.take_left] at ht
    have hd : us.dropLast = us.take ys.length := by rw [List.dropLast_eq_take, hl]; rfl
    have J := I.put (vs := us.dropLast) (xs := ys) e (by rw [hd]; exact ht)
    refine ⟨_, h1, .inl ⟨rfl, _, SqL.of h2⟩, p, us, v, rfl, rfl, h2, by rw [hl]; exact h4, ?_⟩
    refine hg F _ σ _ _ v _ _ _ _ J (Sm.refl _) (rs_dat ?_) h fun g' σ' J2 _ _ q => E.nx g' σ' _ J2 q
    have e2 : off (upd H p (.lst us.dropLast)) (F.L0 ++ owns (g.set j (some (.own p ys)))) = off H (F.L0 ++ owns g) := by rw [owns_put (x := some (.own p ys)) (y := some (.own p (ys ++ [d]))) rfl e, off_upd (List.mem_append_right _ (mem_owns (List.mem_of_getElem? e)))]
    rw [e2]
    exact h5
  · exact h.elim
/-- xs[i] = e -/
def pSetIx (j : Nat) (pi pa : GE) : GS := fun PD g => match g[j]? with
  | some (some (.own p xs)) => pa g (PD.ex g) fun r => pi g (PD.ex g) fun ix => match r, ix with
    | .v t d, .v _ (.int k) => t.ok = true ∧ ∃ n, ixN xs.length k = some n ∧ PD.nx (g.set j (some (.own p (xs.set n d))))
    | _, _ => False
  | _ => False
theorem ls_setix {j : Nat} {te ti : TE} {pa pi : GE} (ha : LE K Ps W te pa) (hi : LE K Ps W ti pi) : LS K Ps W (tAsg te (gSub (tVar j) ti rSetL)) (pSetIx j pi pa) := fun F D σ H PD g I E h => by
  unfold pSetIx at h
  split at h
  · next p xs e =>
    obtain ⟨us, h1, h2, h3⟩ := own_of I e
    refine ha F g σ H _ _ _ I (E.wx I) h fun r v H1 e1 r1 q => ⟨_, h1, hi F g σ H1 _ _ _ (I.step e1) (E.wx (I.step e1)) q fun ix u H2 e2 r2 q2 => ?_⟩
    split at q2
    · next t d t2 k =>
      obtain ⟨h4, n, hn, q2⟩ := q2
      have e12 := e1.trans e2
      cases r2.rp (I.step e1) e2
      refine ⟨p, us, k, n, rfl, rfl, e12.l h2, by rw [h3.length]; exact hn, E.nx _ σ _ ((I.step e12).put e ?_) q2⟩
      exact RpAll.set n ((r1.step e1 e2).dat I e12 h4) (h3.mono (sm_off e12 fun _ z => .inl z))
    · exact q2.elim
  · exact h.elim
/-! ##### loops -/
def Loop (pg : GG) (b : GS) (PD : GEnds) : List PyData → Gm → Prop
  | [], g => PD.nx g
  | x :: xs, g => pg (.v .dat x) g (PD.ex g) fun g' => b { PD with nx := Loop pg b PD xs, ct := Loop pg b PD xs, bk := PD.nx } g'
def pFor (pi : GI) (pg : GG) (b : GS) : GS := fun PD g => pi g (PD.ex g) fun items => Loop pg b PD items g
theorem drop_get {α : Type} {xs : List α} {i : Nat} {x : α} (h : xs[i]? = some x) : xs.drop i = x :: xs.drop (i + 1) := by
  have hi : i < xs.length := by
    by_cases z : i < xs.length
    · exact z
    · rw [List.getElem?_eq_none (Nat.le_of_not_lt z)] at h
      cases h
  rw [List.getElem?_eq_getElem hi] at h
  cases h
  exact List.drop_eq_getElem_cons hi
theorem ls_for {wi : TI} {tg : TG} {tb : TS} {pi : GI} {pg : GG} {b : GS} {vs : List Nat} (hi : LI K Ps W wi pi) (hg : LG' K Ps tg pg vs) (hb : LS K Ps W tb b) : LS K Ps W (tFor wi tg tb) (pFor pi pg b) := fun F D σ H PD g I E h =>
  hi F g σ H _ _ _ I (E.wx I) h fun J H1 items e1 wk q => by
    have I1 := I.step e1
    have E1 := E.base I1
    refine ⟨fun i m σ' H' => m = items.length - i ∧ i ≤ items.length ∧ ∃ g', Env K Ps ⟨off H1 (owns g), F.L0⟩ g' σ' H' ∧ Loop pg b PD (items.drop i) g', ⟨items.length, by simp, Nat.zero_le _, g, I1.base, by rw [List.drop_zero]; exact q⟩, ?_⟩
    rintro i m σ' H' ⟨rfl, hi, g', I', q⟩
    have st := I1.still I'
    by_cases hlt : i < items.length
    · refine .inr ⟨wk.go i H' _ hlt st, fun σ2 H2 => ∃ g2, Env K Ps ⟨off H1 (owns g), F.L0⟩ g2 σ2 H2 ∧ Loop pg b PD (items.drop (i + 1)) g2, fun σ2 H2 ⟨g2, I2, q2⟩ => ⟨items.length - (i + 1), by omega, rfl, hlt, g2, I2, q2⟩, fun x H2 y => ?_⟩
      obtain ⟨s, d, hd, hr⟩ := wk.yld i H' _ x H2 hlt st (fun q hq => hidden I' hq) y
      rw [drop_get hd] at q
      refine hg _ g' σ' H' H2 x (.v .dat d) _ _ _ I' s (rs_dat hr) q fun g2 σ2 I2 _ _ q2 => ?_
      refine hb _ { D with nx := fun σ2 H2 => ∃ g2, Env K Ps ⟨off H1 (owns g), F.L0⟩ g2 σ2 H2 ∧ Loop pg b PD (items.drop (i + 1)) g2, ct := fun σ2 H2 => ∃ g2, Env K Ps ⟨off H1 (owns g), F.L0⟩ g2 σ2 H2 ∧ Loop pg b PD (items.drop (i + 1)) g2, bk := D.nx } σ2 H2 { PD with nx := Loop pg b PD (items.drop (i + 1)), ct := Loop pg b PD (items.drop (i + 1)), bk := PD.nx } g2 I2 ⟨fun g3 σ3 H3 I3 q3 => ⟨g3, I3, q3⟩, E1.nx, fun g3 σ3 H3 I3 q3 => ⟨g3, I3, q3⟩, E1.rt, E1.ex⟩ q2
    · have : i = items.length := by omega
      subst this
      rw [List.drop_length] at q
      exact .inl ⟨wk.stop H' _ st, E1.nx g' σ' H' I' q⟩
def pWhile (pt : GT) (b : GS) : GS := fun PD g => ∃ Iv : Nat → Gm → Prop, (∃ m, Iv m g) ∧ ∀ m g, Iv m g → pt g (PD.ex g) fun c =>
  (c = true → b { PD with nx := fun g' => ∃ m', m' < m ∧ Iv m' g', ct := fun g' => ∃ m', m' < m ∧ Iv m' g', bk := PD.nx } g) ∧ (c = false → PD.nx g)
theorem ls_while {tt : TT} {tb : TS} {pt : GT} {b : GS} (ht : LT K Ps W tt pt) (hb : LS K Ps W tb b) : LS K Ps W (tWhile tt tb) (pWhile pt b) := fun F D σ H PD g I E ⟨Iv, ⟨m0, h0⟩, turn⟩ => by
  refine ⟨fun m σ' H' => ∃ g', Env K Ps F g' σ' H' ∧ Iv m g', ⟨m0, g, I, h0⟩, fun m σ' H' ⟨g', I', q⟩ => ?_⟩
  refine ht F g' σ' H' _ _ _ I' (E.wx I') (turn m g' q) fun c H1 e1 h1 => ?_
  cases c with
  | false => exact iteF (E.nx g' σ' H1 (I'.step e1) (h1.2 rfl))
  | true =>
    refine iteT ⟨fun σ2 H2 => ∃ m', m' < m ∧ ∃ g2, Env K Ps F g2 σ2 H2 ∧ Iv m' g2, fun σ2 H2 z => z, ?_⟩
    exact hb F { D with nx := fun σ2 H2 => ∃ m', m' < m ∧ ∃ g2, Env K Ps F g2 σ2 H2 ∧ Iv m' g2, ct := fun σ2 H2 => ∃ m', m' < m ∧ ∃ g2, Env K Ps F g2 σ2 H2 ∧ Iv m' g2, bk := D.nx } σ' H1 { PD with nx := fun g' => ∃ m', m' < m ∧ Iv m' g', ct := fun g' => ∃ m', m' < m ∧ Iv m' g', bk := PD.nx } g' (I'.step e1)
      ⟨fun g3 σ3 H3 I3 ⟨m', hm, q3⟩ => ⟨m', hm, g3, I3, q3⟩, E.nx, fun g3 σ3 H3 I3 ⟨m', hm, q3⟩ => ⟨m', hm, g3, I3, q3⟩, E.rt, E.ex⟩ (h1.1 rfl)
/-! ##### comprehensions -/
def wipeG (g : Gm) : List Nat → Gm
  | [] => g
  | v :: vs => (wipeG g vs).set v none
theorem Env.wipe (I : Env K Ps F g σ H) : ∀ vs : List Nat, Env K Ps F (wipeG g vs) (wipe σ vs) H
  | [] => I
  | v :: vs => (Env.wipe I vs).forget none
theorem wipe_get {σ : L2.St} : ∀ {vs : List Nat} {j : Nat}, (wipe σ vs)[j]? = if j ∈ vs ∧ j < σ.length then some none else σ[j]?
  | [], j => by simp [L2.wipe]
  | v :: vs, j => by
    rw [L2.wipe]
    by_cases z : v = j
    · subst z
      rw [List.getElem?_set_self', wipe_get (vs := vs)]
      by_cases l : v < σ.length
      · by_cases hv : v ∈ vs <;> simp [hv, l]
      · have : σ[v]? = none := List.getElem?_eq_none_iff.mpr (by omega)
        simp [l, this]
    · rw [List.getElem?_set_ne z, wipe_get (vs := vs)]
      have : j ∈ v :: vs ↔ j ∈ vs := by
        simp only [List.mem_cons]
        exact ⟨fun q => q.elim (fun q => absurd q.symm z) id, .inr⟩
      simp [this]
theorem wipe_of {σ σ' : L2.St} {vs us : List Nat} (hs : ∀ j, j ∈ us → j ∈ vs) (hl : σ'.length = (wipe σ vs).length) (h : ∀ j, j ∉ us → σ'[j]? = (wipe σ vs)[j]?) : wipe σ' vs = wipe σ vs := by
  rw [wipe_length] at hl
  apply List.ext_getElem?
  intro j
  rw [wipe_get, wipe_get, hl]
  by_cases z : j ∈ vs ∧ j < σ.length
  · simp [z]
  · rw [if_neg z, if_neg z]
    by_cases hj : j ∈ us
    · have hv := hs j hj
      have : ¬ j < σ.length := fun l => z ⟨hv, l⟩
      rw [List.getElem?_eq_none_iff.mpr (by omega), List.getElem?_eq_none_iff.mpr (by omega)]
    · rw [h j hj, wipe_get, if_neg z]
/-- a hidden list changes -/
theorem Env.hid_upd (I : Env K Ps F g σ H) {D : Addr} {vs : List V} (hm : D ∈ F.L0) (hn : NewTo F.H0 D) : Env K Ps F g σ (upd H D (.lst vs)) := by
  have hh : ∀ {q}, Hid H q → Hid (upd H D (.lst vs)) q := fun {q} ⟨o, h1, h2⟩ => by
    by_cases z : q = D
    · subst z
      exact .lst upd_same
    · exact ⟨o, by rw [upd_ne z]; exact h1, h2⟩
  have no : ∀ {ps}, H D ≠ some (.tbl ps) := fun {ps} z => by
    obtain ⟨o, h1, h2⟩ := I.hd D hm
    rw [z] at h1
    cases h1
    exact h2 _ rfl
  refine ⟨?_, sm_upd I.sm hn, fun P z => ?_, fun q z => hh (I.hd q z), I.nd, fun q z => ⟨(I.nw q z).1, (I.nw q z).2.1, hh (I.nw q z).2.2⟩⟩
  · rw [off_upd (List.mem_append_left _ hm)]
    exact I.sl.imp fun x v hx q => SlR.still (fun a ha => upd_ne fun z => (I.nw a (mem_ownsOf ha hx)).2.1 (by rw [z]; exact hm)) q
  · obtain ⟨ps, q, t⟩ := I.tb P z
    refine ⟨ps, ?_, t⟩
    rw [upd_ne fun z => by subst z; exact no q]
    exact q
/-- a new list is hidden -/
theorem Env.hide (I : Env K Ps F g σ H) {D : Addr} {vs : List V} (hD : H D = none) : Env K Ps ⟨F.H0, D :: F.L0⟩ g σ (upd H D (.lst vs)) := by
  obtain ⟨s, hn, _, hv⟩ := new_in (o := .lst vs) I (Sm.refl H) hD
  have J := I.step s
  refine ⟨I.sl.mono s (hv _), J.sm, J.tb, fun q z => (List.mem_cons.mp z).elim (fun y => by subst y; exact .lst upd_same) (J.hd q), J.nd, fun q z => ⟨(J.nw q z).1, fun y => (List.mem_cons.mp y).elim (fun y => ?_) (J.nw q z).2.1, (J.nw q z).2.2⟩⟩
  subst y
  exact (I.nw q z).2.2.ne hn rfl
theorem owns_none : ∀ {g : Gm} {i : Nat}, (∀ x, g[i]? = some x → ownsOf x = []) → owns (g.set i none) = owns g
  | [], _, _ => rfl
  | x :: g, 0, h => by
    have := h x rfl
    show owns g = ownsOf x ++ owns g
    rw [this]
    rfl
  | x :: g, i + 1, h => congrArg (ownsOf x ++ ·) (owns_none (g := g) (i := i) fun y e => h y (by simpa using e))
theorem owns_dt {d : PyData} : ∀ {g : Gm} {i : Nat}, (∀ x, g[i]? = some x → ownsOf x = []) → owns (g.set i (some (.dat d))) = owns g
  | [], _, _ => rfl
  | x :: g, 0, h => by
    have := h x rfl
    show owns g = ownsOf x ++ owns g
    rw [this]
    rfl
  | x :: g, i + 1, h => congrArg (ownsOf x ++ ·) (owns_dt (g := g) (i := i) fun y e => h y (by simpa using e))
mutual
theorem tgt_owns : ∀ (t : Tgt) {d : PyData} {g : Gm} {PQ : Gm → Prop}, (∀ j ∈ tgV t, ∀ x, g[j]? = some x → ownsOf x = []) → pTgt t d g PQ → pTgt t d g fun g' => PQ g' ∧ owns g' = owns g ∧ ∀ (j : Nat) (x : Option Sl), g'[j]? = some x → ownsOf x ≠ [] → g[j]? = some x
  | .name i, d, g, PQ, no, h => by
    unfold pTgt at h ⊢
    have n1 : ∀ x, g[i]? = some x → ownsOf x = [] := no i (by unfold tgV; exact .head _)
    refine ⟨h, owns_dt n1, fun j x e hx => ?_⟩
    by_cases z : i = j
    · subst z
      rw [List.getElem?_set_self'] at e
      cases q : g[i]? with
      | none => rw [q] at e; cases e
      | some u => rw [q] at e; cases e; exact (hx rfl).elim
    · rwa [List.getElem?_set_ne z] at e
  | .tup ts, d, g, PQ, no, h => by
    cases d with
    | tuple ds =>
      unfold pTgt at h ⊢
      exact tgts_owns ts (fun j hj => no j (by unfold tgV; exact hj)) h
    | none => unfold pTgt at h; exact h.elim
    | bool _ => unfold pTgt at h; exact h.elim
    | int _ => unfold pTgt at h; exact h.elim
    | str _ => unfold pTgt at h; exact h.elim
    | list _ => unfold pTgt at h; exact h.elim
    | dict _ => unfold pTgt at h; exact h.elim
theorem tgts_owns : ∀ (ts : Tgts) {ds : List PyData} {g : Gm} {PQ : Gm → Prop}, (∀ j ∈ tgsV ts, ∀ x, g[j]? = some x → ownsOf x = []) → pTgts ts ds g PQ → pTgts ts ds g fun g' => PQ g' ∧ owns g' = owns g ∧ ∀ (j : Nat) (x : Option Sl), g'[j]? = some x → ownsOf x ≠ [] → g[j]? = some x
  | .nil, ds, g, PQ, no, h => by
    cases ds with
    | nil => unfold pTgts at h ⊢; exact ⟨h, rfl, fun _ _ z _ => z⟩
    | cons _ _ => unfold pTgts at h; exact h.elim
  | .cons t ts, ds, g, PQ, no, h => by
    cases ds with
    | nil => unfold pTgts at h; exact h.elim
    | cons d ds =>
      unfold pTgts at h ⊢
      have h2 := tgt_owns t (fun j hj => no j (by unfold tgsV; exact List.mem_append_left _ hj)) h
      refine tgt_mono t h2 fun g1 ⟨q1, o1, k1⟩ => ?_
      refine tgts_mono ts (tgts_owns ts (fun j hj x e => by
        by_cases hx : ownsOf x = []
        · exact hx
        · exact no j (by unfold tgsV; exact List.mem_append_right _ hj) x (k1 j x e hx)) q1) fun g2 ⟨q2, o2, k2⟩ => ⟨q2, o2.trans o1, fun j x e hx => k1 j x (k2 j x e hx) hx⟩
theorem tgt_mono : ∀ (t : Tgt) {d : PyData} {g : Gm} {PQ PQ' : Gm → Prop}, pTgt t d g PQ → (∀ g', PQ g' → PQ' g') → pTgt t d g PQ'
  | .name i, d, g, PQ, PQ', h, k => by
    unfold pTgt at h ⊢
    exact k _ h
  | .tup ts, d, g, PQ, PQ', h, k => by
    cases d with
    | tuple ds =>
      unfold pTgt at h ⊢
      exact tgts_mono ts h k
    | none => unfold pTgt at h; exact h.elim
    | bool _ => unfold pTgt at h; exact h.elim
    | int _ => unfold pTgt at h; exact h.elim
    | str _ => unfold pTgt at h; exact h.elim
    | list _ => unfold pTgt at h; exact h.elim
    | dict _ => unfold pTgt at h; exact h.elim
theorem tgts_mono : ∀ (ts : Tgts) {ds : List PyData} {g : Gm} {PQ PQ' : Gm → Prop}, pTgts ts ds g PQ → (∀ g', PQ g' → PQ' g') → pTgts ts ds g PQ'
  | .nil, ds, g, PQ, PQ', h, k => by
    cases ds with
    | nil => unfold pTgts at h ⊢; exact k _ h
    | cons _ _ => unfold pTgts at h; exact h.elim
  | .cons t ts, ds, g, PQ, PQ', h, k => by
    cases ds with
    | nil => unfold pTgts at h; exact h.elim
    | cons d ds =>
      unfold pTgts at h ⊢
      exact tgt_mono t h fun g1 q1 => tgts_mono ts q1 k
end
theorem wipeG_no {g : Gm} : ∀ {vs : List Nat} {j : Nat}, j ∈ vs → ∀ x, (wipeG g vs)[j]? = some x → ownsOf x = []
  | [], _, h, _ => by cases h
  | v :: vs, j, h, x => fun e => by
    rw [wipeG] at e
    by_cases z : v = j
    · subst z
      rw [List.getElem?_set_self'] at e
      cases q : (wipeG g vs)[v]? with
      | none => rw [q] at e; cases e
      | some u => rw [q] at e; cases e; rfl
    · rw [List.getElem?_set_ne z] at e
      exact wipeG_no ((List.mem_cons.mp h).resolve_left fun q => z q.symm) x e
def Comp (t : Tgt) (pt : GT) (pe : GE) (gw : Gm) (PX : Er → Prop) (k : List PyData → Prop) : List PyData → List PyData → Prop
  | acc, [] => k acc
  | acc, x :: xs => pTgt t x gw fun g' => pt g' PX fun b => (b = true → pe g' PX fun r => match r with
      | .v t2 d => t2.ok = true ∧ acc.length < sizeLine ∧ Comp t pt pe gw PX k (acc ++ [d]) xs
      | .obj _ => False) ∧ (b = false → Comp t pt pe gw PX k acc xs)
def pLc (pi : GI) (t : Tgt) (pt : GT) (pe : GE) (vs : List Nat) : GE := fun g PX Q => owns (wipeG g vs) = owns g ∧ pi g PX fun items => Comp t pt pe (wipeG g vs) PX (fun out => Q (.v .fr (.list out))) [] items
theorem Wx.at {PX : Er → Prop} {σ' : L2.St} (hw : ∀ cls d H2, W cls d σ H2 → W cls d σ' H2) (h : Wx K W F σ H PX) : Wx K W F σ' H PX := fun e cls d H2 s r p => hw _ _ _ (h e cls d H2 s r p)
/-- the wish does not look at the slots -/
def NoSlot (W : WX) : Prop := ∀ cls d σ σ' H, W cls d σ H → W cls d σ' H
theorem le_lc {wi : TI} {tt : TT} {te : TE} {vs : List Nat} {pi : GI} {pt : GT} {pe : GE} (t : Tgt) (hs : ∀ j, j ∈ tgV t → j ∈ vs) (hW : NoSlot W) (hi : LI K Ps W wi pi) (ht : LT K Ps W tt pt) (he : LE K Ps W te pe) :
    LE K Ps W (tLc wi (tgT K t) tt te vs) (pLc pi t pt pe vs) := fun F g σ H Q PX PQ I w h k =>
  hi F g σ H _ _ _ I w h.2 fun J H1 items e1 wk q => fun D hD => by
    have how := h.1
    have I1 := I.step e1
    obtain ⟨s1, hnD, hDn, hv⟩ := new_in (o := .lst []) I1 (Sm.refl H1) hD
    have nF : NewTo F.H0 D := hnD.back I1.sm
    have J0 := (Env.hide (vs := []) I1 hD).wipe vs
    refine ⟨fun i m H' => m = items.length - i ∧ i ≤ items.length ∧ Env K Ps ⟨F.H0, D :: F.L0⟩ (wipeG g vs) (wipe σ vs) H' ∧ Sm H1 H' ∧ ∃ ws acc, H' D = some (.lst ws) ∧ RpAll K (off H' (D :: (F.L0 ++ owns g))) ws acc ∧
      Sm (off H1 (F.L0 ++ owns g)) (off H' (D :: (F.L0 ++ owns g))) ∧ Comp t pt pe (wipeG g vs) PX (fun out => PQ (.v .fr (.list out))) acc (items.drop i), ⟨items.length, by simp, Nat.zero_le _, J0, s1, [], [], upd_same, .nil, hv _, by rw [List.drop_zero]; exact q⟩, ?_⟩
    rintro i m H' ⟨rfl, hi, J', e', ws, acc, hws, hacc, st, q⟩
    by_cases hlt : i < items.length
    · refine .inr ⟨wk.go i H' _ hlt st, fun H2 => Env K Ps ⟨F.H0, D :: F.L0⟩ (wipeG g vs) (wipe σ vs) H2 ∧ Sm H1 H2 ∧ ∃ ws acc, H2 D = some (.lst ws) ∧ RpAll K (off H2 (D :: (F.L0 ++ owns g))) ws acc ∧
        Sm (off H1 (F.L0 ++ owns g)) (off H2 (D :: (F.L0 ++ owns g))) ∧ Comp t pt pe (wipeG g vs) PX (fun out => PQ (.v .fr (.list out))) acc (items.drop (i + 1)), fun H2 z => ⟨items.length - (i + 1), by omega, rfl, hlt, z⟩, fun x H2 y => ?_⟩
      have hL : ∀ q ∈ D :: (F.L0 ++ owns g), Hid H' q := fun q hq => hidden J' (by rw [how]; exact hq)
      obtain ⟨s, d, hd, hr⟩ := wk.yld i H' _ x H2 hlt st hL y
      rw [drop_get hd] at q
      have hr' : Rp K (off H2 (D :: F.L0 ++ owns (wipeG g vs))) x d := by rw [how]; exact hr
      refine tgt_ok t (J'.step s) hr' (tgt_owns t (fun j hj => wipeG_no (hs j hj)) q) fun g2 σ2 I2 _ hj hn ⟨q2, ho2, _⟩ => ⟨wipe_of hs hn hj, ?_⟩
      have w2 : ∀ {H3}, Sm H1 H3 → Wx K W ⟨F.H0, D :: F.L0⟩ σ2 H3 PX := fun {H3} e3 er cls d H4 s4 r4 p4 => hW _ _ _ _ _ (w er cls d H4 ((e1.trans e3).trans s4) (r4.sub fun a z => .tail _ z) p4)
      refine ht _ g2 σ2 H2 _ PX _ I2 (w2 (e'.trans s)) q2 fun b H3 e3 q3 => ?_
      have s3 := s.trans e3
      cases b with
      | false =>
        refine iteF ⟨J'.step s3, e'.trans s3, ws, acc, s3.l hws, hacc.mono (sm_off s3 fun _ z => .inl z), st.trans (sm_off s3 fun _ z => .inl z), q3.2 rfl⟩
      | true =>
        refine iteT (he _ g2 σ2 H3 _ PX _ (I2.step e3) (w2 (e'.trans s3)) (q3.1 rfl) fun r y H4 e4 r4 q4 => ?_)
        split at q4
        · next t d2 =>
          have s4 := s3.trans e4
          refine ⟨ws, s4.l hws, by rw [hacc.length]; exact q4.2.1, (J'.step s4).hid_upd (.head _) nF, sm_upd (e'.trans s4) (NewTo.none hD), ws ++ [y], acc ++ [d2], upd_same, ?_, ?_, q4.2.2⟩
          · rw [off_upd (.head _)]
            refine (hacc.mono (sm_off s4 fun _ z => .inl z)).append (.cons ?_ .nil)
            have hy := r4.dat (I2.step e3) e4 q4.1
            rw [ho2, how] at hy
            exact hy
          · rw [off_upd (.head _)]
            exact st.trans (sm_off s4 fun _ z => .inl z)
        · exact q4.elim
    · have : i = items.length := by omega
      subst this
      rw [List.drop_length] at q
      exact .inl ⟨wk.stop H' _ st, k (.v .fr (.list acc)) _ _ (e1.trans e') ⟨D, ws, acc, rfl, rfl, hnD.back e1, hws, hacc⟩ q⟩
end
end PV

namespace PV
open PySem PySem.Spec PyProof.Rows L2 Cm
open GX (Sm)
section
variable {K : PySem.W.Frag} {Ps : List Addr} {W : WX} {F : Fr} {g : Gm} {σ : L2.St} {H H1 H2 : Hp}
/-! ##### generator expressions in any, all, sum -/
/-- more slots, all empty -/
theorem Slots.more {V0 : Hp} {n : Nat} : ∀ {g : Gm} {s : L2.St}, Slots K H V0 g s → Slots K H V0 (g ++ List.replicate n none) (s ++ List.replicate n none)
  | [], [], _ => by
    induction n with
    | zero => exact trivial
    | succ n ih => exact ih
  | none :: g, _ :: s, h => Slots.more (g := g) (s := s) h
  | some x :: g, v :: s, h => ⟨h.1, Slots.more (g := g) (s := s) h.2⟩
theorem owns_more {n : Nat} : ∀ {g : Gm}, owns (g ++ List.replicate n none) = owns g
  | [] => by
    induction n with
    | zero => rfl
    | succ n ih => exact ih
  | x :: g => congrArg (ownsOf x ++ ·) (owns_more (g := g))
theorem Env.more (I : Env K Ps F g σ H) (n : Nat) : Env K Ps F (g ++ List.replicate n none) (σ ++ List.replicate n none) H := by
  refine ⟨?_, I.sm, I.tb, I.hd, by rw [owns_more]; exact I.nd, fun q z => by rw [owns_more] at z; exact I.nw q z⟩
  rw [owns_more]
  exact I.sl.more
def gG (g : Gm) (own : List (Str × Nat)) (ext : List Str) : Gm := wipeG (g ++ List.replicate ext.length none) (own.map (·.2))
theorem Env.gen (I : Env K Ps F g σ H) (own : List (Str × Nat)) (ext : List Str) : Env K Ps F (gG g own ext) (GX.gS σ own ext) H := by
  unfold gG GX.gS
  rw [List.map_const']
  exact (I.more ext.length).wipe _
def GenB (stop : Bool) (t : Tgt) (pe : GE) (gw : Gm) (PX : Er → Prop) (Q : Rs → Prop) : List PyData → Prop
  | [] => Q (.v .dat (.bool (!stop)))
  | x :: xs => pTgt t x gw fun g' => pe g' PX fun r => bD r fun b => (b = stop → Q (.v .dat (.bool stop))) ∧ (b = (!stop) → GenB stop t pe gw PX Q xs)
def pGen (stop : Bool) (pi : GI) (t : Tgt) (pe : GE) (own : List (Str × Nat)) (ext : List Str) : GE := fun g PX Q => owns (gG g own ext) = owns g ∧ pi g PX fun items => GenB stop t pe (gG g own ext) PX Q items
theorem gen_side (I : Env K Ps F g σ H) (e1 : Sm H H1) {P : Addr} (hP : P ∈ Ps) (e2 : GxR.Tabbed P H1 H2) : Sm H1 H2 := Sm.tabbed ((I.step e1).tb P hP) e2
theorem le_gen {wi : TI} {te : TE} {pi : GI} {pe : GE} {P : Addr} {own : List (Str × Nat)} {ext : List Str} {stop : Bool} (t : Tgt) (hP : P ∈ Ps) (hW : NoSlot W) (hi : LI K Ps W wi pi) (he : LE K Ps W te pe) :
    LE K Ps W (GX.tGen P wi (tgT K t) te own ext stop) (pGen stop pi t pe own ext) := fun F g σ H Q PX PQ I w h k =>
  hi F g σ H _ _ _ I w h.2 fun J H1 items e1 wk q => ⟨(I.step e1).tb P hP, fun H2 tb => by
    have how := h.1
    have s12 := gen_side I e1 hP tb
    have e2 := e1.trans s12
    have J0 := (I.step e2).gen own ext
    refine ⟨fun i m H' => m = items.length - i ∧ i ≤ items.length ∧ Sm H2 H' ∧ GenB stop t pe (gG g own ext) PX PQ (items.drop i), ⟨items.length, by simp, Nat.zero_le _, Sm.refl H2, by rw [List.drop_zero]; exact q⟩, ?_⟩
    rintro i m H' ⟨rfl, hi, e', q⟩
    have st : Sm (off H1 (F.L0 ++ owns g)) (off H' (F.L0 ++ owns g)) := sm_off (s12.trans e') fun _ z => .inl z
    have J' := J0.step e'
    by_cases hlt : i < items.length
    · refine .inr ⟨wk.go i H' _ hlt st, fun H3 => Sm H2 H3 ∧ GenB stop t pe (gG g own ext) PX PQ (items.drop (i + 1)), fun H3 z => ⟨items.length - (i + 1), by omega, rfl, hlt, z⟩, fun x H3 y => ?_⟩
      obtain ⟨s, d, hd, hr⟩ := wk.yld i H' _ x H3 hlt st (fun q hq => hidden (I.step (e2.trans e')) hq) y
      rw [drop_get hd] at q
      have hr' : Rp K (off H3 (F.L0 ++ owns (gG g own ext))) x d := by rw [how]; exact hr
      refine tgt_ok t (J'.step s) hr' q fun g2 σ2 I2 _ _ _ q2 => ?_
      have w2 : Wx K W F σ2 H3 PX := fun er cls d H4 s4 r4 p4 => hW _ _ _ _ _ (w er cls d H4 (((e2.trans e').trans s).trans s4) r4 p4)
      refine he _ g2 σ2 H3 _ PX _ I2 w2 q2 fun r v H4 e4 r4 q4 => ?_
      have e4' := (e'.trans s).trans e4
      obtain ⟨b, rfl, q5, q6⟩ := bD_of I2 e4 r4 q4
      refine ⟨b, rfl, ?_⟩
      by_cases z : b = stop
      · rw [if_pos z]
        exact k _ _ _ (e2.trans e4') (rs_dat (.bl _)) (q5 z)
      · rw [if_neg z]
        exact ⟨e4', q6 (by cases b <;> cases stop <;> first | rfl | exact absurd rfl z)⟩
    · have : i = items.length := by omega
      subst this
      rw [List.drop_length] at q
      exact .inl ⟨wk.stop H' _ st, k _ _ _ (e2.trans e') (rs_dat (.bl _)) q⟩⟩
def GenS (t : Tgt) (pt : GT) (pe : GE) (gw : Gm) (PX : Er → Prop) (Q : Rs → Prop) : Int → List PyData → Prop
  | a, [] => Q (.v .dat (.int a))
  | a, x :: xs => pTgt t x gw fun g' => pt g' PX fun c => (c = true → pe g' PX fun r => match r with
      | .v _ (.int b) => GenS t pt pe gw PX Q (a + b) xs
      | _ => False) ∧ (c = false → GenS t pt pe gw PX Q a xs)
def pYes : GT := fun _ _ Q => Q true
theorem lt_yes : LT K Ps W tYes pYes := fun F g σ H Q PX PQ I _ q k => k _ _ (Sm.refl H) q
def pSum (pi : GI) (t : Tgt) (pt : GT) (pe : GE) (own : List (Str × Nat)) (ext : List Str) : GE := fun g PX Q => owns (gG g own ext) = owns g ∧ pi g PX fun items => GenS t pt pe (gG g own ext) PX Q 0 items
theorem le_sumF {wi : TI} {te : TE} {tt : TT} {pi : GI} {pt : GT} {pe : GE} {P : Addr} {own : List (Str × Nat)} {ext : List Str} (t : Tgt) (hP : P ∈ Ps) (hW : NoSlot W) (hi : LI K Ps W wi pi) (ht : LT K Ps W tt pt) (he : LE K Ps W te pe) :
    LE K Ps W (GX.tSumF P wi (tgT K t) te tt own ext) (pSum pi t pt pe own ext) := fun F g σ H Q PX PQ I w h k =>
  hi F g σ H _ _ _ I w h.2 fun J H1 items e1 wk q => ⟨(I.step e1).tb P hP, fun H2 tb => by
    have how := h.1
    have s12 := gen_side I e1 hP tb
    have e2 := e1.trans s12
    have J0 := (I.step e2).gen own ext
    refine ⟨fun i m a H' => m = items.length - i ∧ i ≤ items.length ∧ Sm H2 H' ∧ GenS t pt pe (gG g own ext) PX PQ a (items.drop i), ⟨items.length, by simp, Nat.zero_le _, Sm.refl H2, by rw [List.drop_zero]; exact q⟩, ?_⟩
    rintro i m a H' ⟨rfl, hi, e', q⟩
    have st : Sm (off H1 (F.L0 ++ owns g)) (off H' (F.L0 ++ owns g)) := sm_off (s12.trans e') fun _ z => .inl z
    have J' := J0.step e'
    by_cases hlt : i < items.length
    · refine .inr ⟨wk.go i H' _ hlt st, fun a H3 => Sm H2 H3 ∧ GenS t pt pe (gG g own ext) PX PQ a (items.drop (i + 1)), fun a H3 z => ⟨items.length - (i + 1), by omega, rfl, hlt, z⟩, fun x H3 y => ?_⟩
      obtain ⟨s, d, hd, hr⟩ := wk.yld i H' _ x H3 hlt st (fun q hq => hidden (I.step (e2.trans e')) hq) y
      rw [drop_get hd] at q
      have hr' : Rp K (off H3 (F.L0 ++ owns (gG g own ext))) x d := by rw [how]; exact hr
      refine tgt_ok t (J'.step s) hr' q fun g2 σ2 I2 _ _ _ q2 => ?_
      have w2 : ∀ {H5}, Sm H3 H5 → Wx K W F σ2 H5 PX := fun {H5} e5 er cls d H4 s4 r4 p4 => hW _ _ _ _ _ (w er cls d H4 ((((e2.trans e').trans s).trans e5).trans s4) r4 p4)
      refine ht _ g2 σ2 H3 _ PX _ I2 (w2 (Sm.refl _)) q2 fun c H5 e5 q5 => ?_
      have e5' := (e'.trans s).trans e5
      cases c with
      | false => exact iteF ⟨e5', q5.2 rfl⟩
      | true =>
        refine iteT (he _ g2 σ2 H5 _ PX _ (I2.step e5) (w2 e5) (q5.1 rfl) fun r v H4 e4 r4 q4 => ?_)
        split at q4
        · next t2 b =>
          cases r4.rp (I2.step e5) e4
          exact ⟨b, rfl, e5'.trans e4, q4⟩
        · exact q4.elim
    · have : i = items.length := by omega
      subst this
      rw [List.drop_length] at q
      exact .inl ⟨wk.stop H' _ st, k _ _ _ (e2.trans e') (rs_dat (.int _)) q⟩⟩
theorem le_sumG {wi : TI} {te : TE} {pi : GI} {pe : GE} {P : Addr} {own : List (Str × Nat)} {ext : List Str} (t : Tgt) (hP : P ∈ Ps) (hW : NoSlot W) (hi : LI K Ps W wi pi) (he : LE K Ps W te pe) :
    LE K Ps W (GX.tSumG P wi (tgT K t) te own ext) (pSum pi t pYes pe own ext) := fun F g σ H Q PX PQ I w h k =>
  hi F g σ H _ _ _ I w h.2 fun J H1 items e1 wk q => ⟨(I.step e1).tb P hP, fun H2 tb => by
    have how := h.1
    have s12 := gen_side I e1 hP tb
    have e2 := e1.trans s12
    have J0 := (I.step e2).gen own ext
    refine ⟨fun i m a H' => m = items.length - i ∧ i ≤ items.length ∧ Sm H2 H' ∧ GenS t pYes pe (gG g own ext) PX PQ a (items.drop i), ⟨items.length, by simp, Nat.zero_le _, Sm.refl H2, by rw [List.drop_zero]; exact q⟩, ?_⟩
    rintro i m a H' ⟨rfl, hi, e', q⟩
    have st : Sm (off H1 (F.L0 ++ owns g)) (off H' (F.L0 ++ owns g)) := sm_off (s12.trans e') fun _ z => .inl z
    have J' := J0.step e'
    by_cases hlt : i < items.length
    · refine .inr ⟨wk.go i H' _ hlt st, fun a H3 => Sm H2 H3 ∧ GenS t pYes pe (gG g own ext) PX PQ a (items.drop (i + 1)), fun a H3 z => ⟨items.length - (i + 1), by omega, rfl, hlt, z⟩, fun x H3 y => ?_⟩
      obtain ⟨s, d, hd, hr⟩ := wk.yld i H' _ x H3 hlt st (fun q hq => hidden (I.step (e2.trans e')) hq) y
      rw [drop_get hd] at q
      have hr' : Rp K (off H3 (F.L0 ++ owns (gG g own ext))) x d := by rw [how]; exact hr
      refine tgt_ok t (J'.step s) hr' q fun g2 σ2 I2 _ _ _ q2 => ?_
      have w2 : ∀ {H5}, Sm H3 H5 → Wx K W F σ2 H5 PX := fun {H5} e5 er cls d H4 s4 r4 p4 => hW _ _ _ _ _ (w er cls d H4 ((((e2.trans e').trans s).trans e5).trans s4) r4 p4)
      refine he _ g2 σ2 H3 _ PX _ I2 (w2 (Sm.refl _)) (q2.1 rfl) fun r v H4 e4 r4 q4 => ?_
      split at q4
      · next t2 b =>
        cases r4.rp I2 e4
        exact ⟨b, rfl, (e'.trans s).trans e4, q4⟩
      · exact q4.elim
    · have : i = items.length := by omega
      subst this
      rw [List.drop_length] at q
      exact .inl ⟨wk.stop H' _ st, k _ _ _ (e2.trans e') (rs_dat (.int _)) q⟩⟩
/-! ##### raising -/
def pRaise (e : Er) : GS := fun PD g => PD.ex g e
theorem ls_raise {C : Addr} : LS K Ps W (fun _ σ H => W (.ref C) none σ H) (pRaise ⟨C, none⟩) := fun F D σ H PD g I E h => E.ex g σ H _ _ _ I ⟨rfl, rfl⟩ h
def pRaise1 (pa : GE) (e : Er) : GS := fun PD g => pa g (PD.ex g) fun _ => PD.ex g e
theorem ls_raise1 {C : Addr} {ta : TE} {pa : GE} (ha : LE K Ps W ta pa) : LS K Ps W (fun _ σ H => ta σ H fun _ H1 => W (.ref C) none σ H1) (pRaise1 pa ⟨C, none⟩) := fun F D σ H PD g I E h =>
  ha F g σ H _ _ _ I (E.wx I) h fun r v H1 e1 r1 h1 => E.ex g σ H1 _ _ _ (I.step e1) ⟨rfl, rfl⟩ h1
/-! ##### defs -/
/-- the slots of a call -/
def slA : Rs → Option Sl
  | .v _ d => some (.dat d)
  | .obj A => some (.obj A)
def startG (n : Nat) (as : List Rs) : Gm := as.map slA ++ List.replicate (n - as.length) none
theorem ArgsR.length {V0 : Hp} {vs : List V} {as : List Rs} (h : ArgsR K V0 vs as) : vs.length = as.length := by
  induction h with
  | nil => rfl
  | dat _ _ ih => simp [ih]
  | obj _ _ ih => simp [ih]
theorem owns_start {n : Nat} {V0 : Hp} {vs : List V} {as : List Rs} (h : ArgsR K V0 vs as) : owns (startG n as) = [] := by
  unfold startG
  rw [owns_more]
  induction h with
  | nil => rfl
  | dat _ _ ih => exact ih
  | obj _ _ ih => exact ih
theorem start_ok {L0 : List Addr} {N : List Str} {vs : List V} {as : List Rs} (h1 : ∀ q ∈ L0, Hid H q) (h2 : ArgsR K (off H L0) vs as) (h3 : ∀ P ∈ Ps, GxR.TabG H P) : Env K Ps ⟨H, L0⟩ (startG N.length as) (L2.start N vs) H := by
  have e := owns_start (n := N.length) h2
  refine ⟨?_, Sm.refl H, h3, h1, by rw [e]; exact List.nodup_nil, fun q z => by rw [e] at z; cases z⟩
  rw [e, List.append_nil]
  unfold startG L2.start
  rw [h2.length]
  refine Slots.more ?_
  clear e
  induction h2 with
  | nil => exact trivial
  | dat a _ ih => exact ⟨⟨_, rfl, a⟩, ih⟩
  | obj a _ ih => exact ⟨⟨_, rfl, a⟩, ih⟩
def W0 : WX := fun _ _ _ _ => False
theorem ns0 : NoSlot W0 := fun _ _ _ _ _ z => z
def WE (E : XK) : WX := fun cls d _ H => E cls d H
theorem nsE {E : XK} : NoSlot (WE E) := fun _ _ _ _ _ z => z
def ends (PQ : Rs → Prop) (PX : Er → Prop) : GEnds := ⟨fun _ => PQ (.v .dat .none), PQ, fun _ => False, fun _ => False, fun _ => PX⟩
theorem ends_ok {L0 : List Addr} {Q : VK} {E : XK} {PQ : Rs → Prop} {PX : Er → Prop} (k : ∀ r v H2, Sm H H2 → RsR K ⟨H, L0⟩ [] H H2 v r → PQ r → Q v H2) (x : ∀ e cls d H2, Sm H H2 → ErR K L0 H2 e cls d → PX e → E cls d H2) :
    Ends' K Ps (WE E) ⟨H, L0⟩ (ends PQ PX) { nx := fun _ H' => Q .non H', rt := Q } :=
  ⟨fun g σ H' I q => k _ _ H' I.sm (rs_dat .non) q, fun _ _ _ _ z => z.elim, fun _ _ _ _ z => z.elim, fun r v H' s h q => k r v H' s h q, fun g σ H' e cls d I h p => x e cls d H' I.sm h p⟩
theorem ends_ok0 {L0 : List Addr} {Q : VK} {PQ : Rs → Prop} (k : ∀ r v H2, Sm H H2 → RsR K ⟨H, L0⟩ [] H H2 v r → PQ r → Q v H2) :
    Ends' K Ps W0 ⟨H, L0⟩ (ends PQ fun _ => False) { nx := fun _ H' => Q .non H', rt := Q } :=
  ⟨fun g σ H' I q => k _ _ H' I.sm (rs_dat .non) q, fun _ _ _ _ z => z.elim, fun _ _ _ _ z => z.elim, fun r v H' s h q => k r v H' s h q, fun g σ H' e cls d I h p => p.elim⟩
variable {P : Program} {w : World} {mg : Str → Option Value} {base : Heap} {x qual : Str} {st : Stmt} {f : Addr} {fd : FuncData} {N ps : List Str} {k : Nat} {psp : PSp}
/-- a def that lets nothing out -/
theorem pv_fn (Fn : Fun K x qual st f fd) (S : FnScope N ps (defScope st)) (len : ∀ as PX PQ, psp as PX PQ → as.length = ps.length)
    (hb : ∀ (cdv : Value) (A : Around) (outer : List PySem.Env) (s : Shared) (H : Hp) (E : XK), Room k (A.deeper (envOfC qual (defScope st) s.heap.objs.size f cdv)) →
      ∃ t p, PSs (cxOf CX0 P w K mg base N qual (defScope st) f cdv A outer s H E).nox (defBody st) t ∧ LS K Ps W0 t p ∧ ∀ as PX PQ, psp as PX PQ → p (ends PQ fun _ => False) (startG N.length as)) :
    FnOk P w K mg base CX0 (k + 1) f fd ps (spP K Ps psp) := by
  refine Fn.ok S (fun vs H Q E h => ?_) fun cdv A outer s H vs Q E hr h => ?_
  · obtain ⟨L0, as, PX, PQ, h1, h2, h3, h4, h5, h6⟩ := h
    rw [h2.length]
    exact len as PX PQ h4
  · obtain ⟨L0, as, PX, PQ, h1, h2, h3, h4, h5, h6⟩ := h
    obtain ⟨t, p, ht, hl, hp⟩ := hb cdv A outer s H E hr
    exact ⟨t, ht, hl ⟨H, L0⟩ _ _ H _ _ (start_ok h1 h2 h3) (ends_ok0 h5) (hp as PX PQ h4)⟩
/-- a def that errors leave -/
theorem pv_fnX (Fn : Fun K x qual st f fd) (S : FnScope N ps (defScope st)) (len : ∀ as PX PQ, psp as PX PQ → as.length = ps.length)
    (hb : ∀ (cdv : Value) (A : Around) (outer : List PySem.Env) (s : Shared) (H : Hp) (E : XK), Room k (A.deeper (envOfC qual (defScope st) s.heap.objs.size f cdv)) →
      ∃ t p, PSs (cxOf (CXN P w) P w K mg base N qual (defScope st) f cdv A outer s H E) (defBody st) t ∧ LS K Ps (WE E) t p ∧ ∀ as PX PQ, psp as PX PQ → p (ends PQ PX) (startG N.length as)) :
    FnOk P w K mg base (CXN P w) (k + 1) f fd ps (spP K Ps psp) := by
  refine okN Fn S (fun vs H Q E h => ?_) fun cdv A outer s H vs Q E hr h => ?_
  · obtain ⟨L0, as, PX, PQ, h1, h2, h3, h4, h5, h6⟩ := h
    rw [h2.length]
    exact len as PX PQ h4
  · obtain ⟨L0, as, PX, PQ, h1, h2, h3, h4, h5, h6⟩ := h
    obtain ⟨t, p, ht, hl, hp⟩ := hb cdv A outer s H E hr
    exact ⟨t, ht, hl ⟨H, L0⟩ _ _ H _ _ (start_ok h1 h2 h3) (ends_ok h5 h6) (hp as PX PQ h4)⟩
theorem pv_def (d : Dn K mg x st ps) (S : FnScope N ps (defScope st)) (len : ∀ as PX PQ, psp as PX PQ → as.length = ps.length)
    (hb : ∀ (f : Addr) (cdv : Value) (A : Around) (outer : List PySem.Env) (s : Shared) (H : Hp) (E : XK), Room k (A.deeper (envOfC x (defScope st) s.heap.objs.size f cdv)) →
      ∃ t p, PSs (cxOf CX0 P w K mg base N x (defScope st) f cdv A outer s H E).nox (defBody st) t ∧ LS K Ps W0 t p ∧ ∀ as PX PQ, psp as PX PQ → p (ends PQ fun _ => False) (startG N.length as)) :
    Ok P w K mg base CX0 (k + 1) x ps (spP K Ps psp) := ok_of d fun f fd Fn => pv_fn Fn S len (hb f)
theorem pv_defX (d : Dn K mg x st ps) (S : FnScope N ps (defScope st)) (len : ∀ as PX PQ, psp as PX PQ → as.length = ps.length)
    (hb : ∀ (f : Addr) (cdv : Value) (A : Around) (outer : List PySem.Env) (s : Shared) (H : Hp) (E : XK), Room k (A.deeper (envOfC x (defScope st) s.heap.objs.size f cdv)) →
      ∃ t p, PSs (cxOf (CXN P w) P w K mg base N x (defScope st) f cdv A outer s H E) (defBody st) t ∧ LS K Ps (WE E) t p ∧ ∀ as PX PQ, psp as PX PQ → p (ends PQ PX) (startG N.length as)) :
    Ok P w K mg base (CXN P w) (k + 1) x ps (spP K Ps psp) := ok_of d fun f fd Fn => pv_fnX Fn S len (hb f)
/-- a def with a generator expression -/
theorem pv_defC {c : Addr} {CX : CXT} (d : GX.DnC K mg x st ps c) (S : FnScope N ps (defScope st)) (len : ∀ as PX PQ, psp as PX PQ → as.length = ps.length)
    (hb : ∀ (f : Addr) (A : Around) (outer : List PySem.Env) (s : Shared) (H : Hp) (E : XK), Room k (A.deeper (envOfC x (defScope st) s.heap.objs.size f (.ref c))) →
      ∃ t p, PSs (cxOf CX P w K mg base N x (defScope st) f (.ref c) A outer s H E) (defBody st) t ∧ LS K Ps (WE E) t p ∧ ∀ as PX PQ, psp as PX PQ → p (ends PQ PX) (startG N.length as)) :
    Ok P w K mg base CX (k + 1) x ps (spP K Ps psp) := by
  refine GX.okc_of d S (fun vs H Q E h => ?_) fun f A outer s H vs Q E hr h => ?_
  · obtain ⟨L0, as, PX, PQ, h1, h2, h3, h4, h5, h6⟩ := h
    rw [h2.length]
    exact len as PX PQ h4
  · obtain ⟨L0, as, PX, PQ, h1, h2, h3, h4, h5, h6⟩ := h
    obtain ⟨t, p, ht, hl, hp⟩ := hb f A outer s H E hr
    exact ⟨t, ht, hl ⟨H, L0⟩ _ _ H _ _ (start_ok h1 h2 h3) (ends_ok h5 h6) (hp as PX PQ h4)⟩
end
end PV

namespace PV
open PySem PySem.Spec PyProof.Rows L2 Cm
open GX (Sm)
section
variable {K : PySem.W.Frag} {Ps : List Addr} {W : WX} {F : Fr} {g : Gm} {σ : L2.St} {H H1 H2 : Hp}
/-! ##### constants, texts, turns of lists -/
theorem rpAll_dV : ∀ {vs : List V}, vs.all flatV = true → RpAll K H vs (vs.map dV)
  | [], _ => .nil
  | v :: vs, h => by
    rw [List.all_cons, Bool.and_eq_true] at h
    exact .cons (rp_dV h.1) (rpAll_dV h.2)
theorem le_globT {vs : List V} (h : vs.all flatV = true) : LE K Ps W (fun _ H Q => ∀ p, (∀ H', SqT K H' p vs) → Q (.ref p) H) (pC (.tuple (vs.map dV))) := fun F g σ H Q PX PQ I _ q k p hp => k _ _ _ (Sm.refl H) (rs_dat (.tup (hp _) (rpAll_dV h))) q
def pRevL (pa : GE) : GE := fun g PX Q => pa g PX fun x => match x with
  | .v t (.list ds) => Q (.v (if t.d then .fr else .bor) (.list ds.reverse))
  | _ => False
theorem le_revL {te : TE} {pa : GE} (ha : LE K Ps W te pa) : LE K Ps W (tRevL K te) (pRevL pa) := fun F g σ H Q PX PQ I w h k =>
  ha F g σ H _ PX _ I w h fun x v H1 e r h3 => by
    split at h3
    · next t ds =>
      obtain ⟨p, vs, rfl, hp, a1, a2⟩ := r.items I e
      refine ⟨p, vs, rfl, SqL.of hp, fun q hq => k _ _ _ (e.trans (new_in (o := .lst vs.reverse) I e hq).1) ?_ h3⟩
      split
      · next z => exact rs_fr I e hq (a2 (it_d z)).reverse
      · exact rs_bor I e hq a1.reverse
    · exact h3.elim
def pSlS (pa : GE) (lo hi : GO) : GE := fun g PX Q => pa g PX fun x => lo g PX fun l => hi g PX fun u => match x with
  | .v _ (.str z) => z.length ≤ sizeLine ∧ Q (.v .dat (.str (cutS z l u)))
  | _ => False
theorem le_slS {te : TE} {tl th : TO} {pa : GE} {lo hi : GO} (ha : LE K Ps W te pa) (hl : LO K Ps W tl lo) (hh : LO K Ps W th hi) : LE K Ps W (tSl rSlS te tl th) (pSlS pa lo hi) := fun F g σ H Q PX PQ I w h k =>
  ha F g σ H _ PX _ I w h fun x v H1 e1 r1 h1 => hl F g σ H1 _ PX _ (I.step e1) (w.step e1) h1 fun l H2 e2 h2 => hh F g σ H2 _ PX _ (I.step (e1.trans e2)) (w.step (e1.trans e2)) h2 fun u H3 e3 h3 => by
    have e := (e1.trans e2).trans e3
    have r := r1.step e1 (e2.trans e3)
    split at h3
    · cases r.rp I e
      exact ⟨_, rfl, h3.1, k _ _ _ e (rs_dat (.str _)) h3.2⟩
    · exact h3.elim
theorem lr_ixS : LR2 K Ps rIxS fun x y Q => match x, y with
  | .v _ (.str z), .v _ (.int i) => z.length ≤ sizeLine ∧ ∃ c, atI z.cps.toList i = some c ∧ Q (.v .dat (.str ⟨#[c]⟩))
  | _, _ => False := by
  intro F g σ H H1 x y v u Q PQ I e rx ry h k
  split at h
  · obtain ⟨hz, c, hc, q⟩ := h
    cases rx.rp I e
    cases ry.rp I e
    exact ⟨_, _, c, rfl, rfl, hz, hc, k _ _ _ (Sm.refl H1) (rs_dat (.str _)) q⟩
  · exact h.elim
def pSign (f : Bool → Bool) : Rs → Rs → (Rs → Prop) → Prop := fun x y Q => match x, y with
  | .v _ (.str s), .v _ (.str z) => ∃ c, s = ⟨#[c]⟩ ∧ Q (.v .dat (.bool (f (decide (c ∈ z.cps.toList)))))
  | _, _ => False
theorem lr_inSign : LR2 K Ps (fun x y H Q => ∃ (c : Nat) (z : Str), x = .str ⟨#[c]⟩ ∧ y = .str z ∧ Q (.bl (decide (c ∈ z.cps.toList))) H) (pSign fun b => b) := by
  intro F g σ H H1 x y v u Q PQ I e rx ry h k
  unfold pSign at h
  split at h
  · obtain ⟨c, rfl, q⟩ := h
    cases rx.rp I e
    cases ry.rp I e
    exact ⟨_, _, rfl, rfl, k _ _ _ (Sm.refl H1) (rs_dat (.bl _)) q⟩
  · exact h.elim
theorem lr_notInSign : LR2 K Ps (fun x y H Q => ∃ (c : Nat) (z : Str), x = .str ⟨#[c]⟩ ∧ y = .str z ∧ Q (.bl (!decide (c ∈ z.cps.toList))) H) (pSign fun b => !b) := by
  intro F g σ H H1 x y v u Q PQ I e rx ry h k
  unfold pSign at h
  split at h
  · obtain ⟨c, rfl, q⟩ := h
    cases rx.rp I e
    cases ry.rp I e
    exact ⟨_, _, rfl, rfl, k _ _ _ (Sm.refl H1) (rs_dat (.bl _)) q⟩
  · exact h.elim
/-- a result as data -/
def Rs.asD : Rs → Rs
  | .v _ d => .v .dat d
  | .obj A => .obj A
def pRetD (pa : GE) : GS := fun PD g => pa g (PD.ex g) fun r => PD.rt r.asD
theorem ls_retD {te : TE} {pa : GE} (ha : LE K Ps W te pa) : LS K Ps W (tRet te) (pRetD pa) := fun F D σ H PD g I E h =>
  ha F g σ H _ _ _ I (E.wx I) h fun r v H1 e1 r1 h1 => E.rt _ v H1 (I.sm.trans e1) (by
    cases r with
    | obj A => exact ret_ok I e1 r1
    | v t d =>
      have h2 := r1.bor I e1
      rw [← List.append_nil F.L0] at h2
      exact h2) h1
/-! ##### objects: properties, fields, making -/
/-- an instance of the class at C -/
def InsOf (C : Addr) (A : Asr) : Prop := ∀ v H, A.a v H → ∃ a dx fs, v = .ref a ∧ H a = some (.ins C dx fs)
def pProp (C : Addr) (psp : PSp) (pa : GE) : GE := fun g PX Q => pa g PX fun x => match x with
  | .obj A => InsOf C A ∧ psp [.obj A] (fun _ => False) Q
  | _ => False
theorem le_prop {C : Addr} {sp : Sp} {psp : PSp} {E : XK} {te : TE} {pa : GE} (ok : SpOk K Ps sp psp) (ha : LE K Ps W te pa) : LE K Ps W (tProp C sp [] E te) (pProp C psp pa) := fun F g σ H Q PX PQ I w h k =>
  ha F g σ H _ PX _ I w h fun x v H1 e1 r1 h1 => by
    split at h1
    · next A =>
      obtain ⟨a, dx, fs, rfl, hv⟩ := h1.1 _ _ r1
      refine ⟨a, dx, fs, rfl, (off_some hv).2, ?_⟩
      exact call_of (rs := [.obj A]) ok I e1 (.cons r1 .nil) h1.2 k fun _ _ _ _ _ _ z => z.elim
    · exact h1.elim
/-- the field f of what A says holds d -/
def HasF (K : PySem.W.Frag) (A : Asr) (f : Str) (r : Rs) : Prop := ∀ v H, A.a v H → ∃ a C dx fs u, v = .ref a ∧ H a = some (.ins C dx fs) ∧ Cls K C ∧ NoAttr K C f ∧ fs.lookup f = some u ∧ match r with
  | .v .dat d => Rp K H u d
  | .obj B => B.a u H
  | _ => False
def pFld (K : PySem.W.Frag) (f : Str) (fv : Asr → Rs) (pa : GE) : GE := fun g PX Q => pa g PX fun x => match x with
  | .obj A => HasF K A f (fv A) ∧ Q (fv A)
  | _ => False
theorem le_fld {f : Str} {fv : Str → Asr → Rs} {te : TE} {pa : GE} (ha : LE K Ps W te pa) : LE K Ps W (tFld K te f) (pFld K f (fv f) pa) := fun F g σ H Q PX PQ I w h k =>
  ha F g σ H _ PX _ I w h fun x v H1 e1 r1 h1 => by
    split at h1
    · next A =>
      obtain ⟨hr, q⟩ := h1
      obtain ⟨a, C, dx, fs, u, rfl, hv, h2, h3, h4, h5⟩ := hr _ _ r1
      refine ⟨a, C, dx, fs, u, rfl, (off_some hv).2, h2, h3, h4, k (fv f A) u H1 e1 ?_ q⟩
      revert h5
      cases fv f A with
      | obj B => exact fun h5 => h5
      | v t d => cases t with
        | dat => exact fun h5 => h5
        | fr => exact fun h5 => h5.elim
        | bor => exact fun h5 => h5.elim
        | own _ => exact fun h5 => h5.elim
        | ft => exact fun h5 => h5.elim
    · exact h1.elim
/-- what making an instance promises -/
def MkOk (K : PySem.W.Frag) (Ps : List Addr) (C : Addr) (sp : Sp) (psp : PSp) : Prop := ∀ (vs : List V) (H : Hp) (Q : VK) (E : XK) (L0 : List Addr) (as : List Rs) (PX : Er → Prop) (PQ : Rs → Prop), (∀ q ∈ L0, Hid H q) → ArgsR K (off H L0) vs as → (∀ P ∈ Ps, GxR.TabG H P) → psp as PX PQ →
  (∀ r v H2, Sm H H2 → RsR K ⟨H, L0⟩ [] H H2 v r → PQ r → Q v H2) → (∀ e cls d H2, Sm H H2 → ErR K L0 H2 e cls d → PX e → E cls d H2) →
  ∀ x dx, H x = none → H dx = none → dx ≠ x → sp (.ref x :: vs) (upd (upd H dx (.own x)) x (.ins C dx [])) (fun v H2 => v = .non ∧ Q (.ref x) H2) E
theorem mk_of {C : Addr} {sp : Sp} {psp : PSp} (ok : MkOk K Ps C sp psp) (I : Env K Ps F g σ H) (e : Sm H H1) {rs : List Rs} {vs : List V} {Q : VK} {E : XK} {PX : Er → Prop} {PQ : Rs → Prop} (r : RsAll K F g H H1 vs rs) (s : allS rs = true) (h : psp (rs.map Rs.arg) PX PQ)
    (k : ∀ r v H2, Sm H H2 → RsR K F g H H2 v r → PQ r → Q v H2) (x : ∀ e cls d H2, Sm H H2 → ErR K F.L0 H2 e cls d → PX e → E cls d H2) :
    ∀ x dx, H1 x = none → H1 dx = none → dx ≠ x → sp (.ref x :: vs) (upd (upd H1 dx (.own x)) x (.ins C dx [])) (fun v H2 => v = .non ∧ Q (.ref x) H2) E := by
  have I1 := I.step e
  exact ok vs H1 Q E (F.L0 ++ owns g) _ PX _ (fun q z => hidden I1 z) (args_ok I e r s) I1.tb h (fun r v H2 s2 r2 q => k _ _ _ (e.trans s2) (r2.up I e) q) fun er cls d H2 s2 h2 p => x er cls d H2 (e.trans s2) (h2.sub fun a z => List.mem_append_left _ z) p
def pMake (psp : PSp) (pa : GA) : GE := fun g PX Q => pa g PX fun rs => allS rs = true ∧ psp (rs.map Rs.arg) PX Q
def pMake0 (psp : PSp) (pa : GA) : GE := fun g PX Q => pa g PX fun rs => allS rs = true ∧ psp (rs.map Rs.arg) (fun _ => False) Q
theorem le_make0 {C : Addr} {sp : Sp} {psp : PSp} {E : XK} {ta : TA} {pa : GA} (ok : MkOk K Ps C sp psp) (ha : LA K Ps W ta pa) : LE K Ps W (tMake C sp [] E ta) (pMake0 psp pa) := fun F g σ H Q PX PQ I w h k =>
  ha F g σ H _ PX _ I w h fun rs vs H1 e1 r1 h1 => by
    show ∀ x dx, _
    rw [List.append_nil]
    exact mk_of ok I e1 r1 h1.1 h1.2 k fun _ _ _ _ _ _ z => z.elim
theorem le_makeX {C : Addr} {sp : Sp} {psp : PSp} {E : XK} {ta : TA} {pa : GA} (ok : MkOk K Ps C sp psp) (ha : LA K Ps (fun cls d _ H => E cls d H) ta pa) : LE K Ps (fun cls d _ H => E cls d H) (tMake C sp [] E ta) (pMake psp pa) := fun F g σ H Q PX PQ I w h k =>
  ha F g σ H _ PX _ I w h fun rs vs H1 e1 r1 h1 => by
    show ∀ x dx, _
    rw [List.append_nil]
    exact mk_of ok I e1 r1 h1.1 h1.2 k w
theorem le_makeT {C : Addr} {sp : Sp} {psp : PSp} {ta : TA} {pa : GA} (ok : MkOk K Ps C sp psp) (ha : LA K Ps W ta pa) : LE K Ps W (CL.tMakeT C sp (fun σ cls d H => W cls d σ H) ta) (pMake psp pa) := fun F g σ H Q PX PQ I w h k =>
  ha F g σ H _ PX _ I w h fun rs vs H1 e1 r1 h1 => mk_of ok I e1 r1 h1.1 h1.2 k w
/-! ##### try .. except X as n: the error in the suite -/
/-- the value is the error at a, of this class, with this dict -/
def errA (K : PySem.W.Frag) (e : Er) (a : Addr) (cls : Value) (d : Option Addr) : Asr where
  a := fun v H => v = .ref a ∧ cls = .ref e.cls ∧ match e.fs with
    | none => d = none
    | some fs => ∃ b us, d = some b ∧ H b = some (.xd us) ∧ Paired (fun u f => u.1 = f.1 ∧ Rp K H u.2 f.2) us fs
  mono := fun v H H' s h => by
    refine ⟨h.1, h.2.1, ?_⟩
    have h2 := h.2.2
    cases q : e.fs with
    | none =>
      rw [q] at h2
      exact h2
    | some fs =>
      rw [q] at h2
      obtain ⟨b, us, rfl, hb, hp⟩ := h2
      exact ⟨b, us, rfl, s.keep _ _ hb (fun _ z => by cases z), L2.Paired.mapP hp fun u f z => ⟨z.1, z.2.mono s⟩⟩
theorem own_lst {V0 : Hp} : ∀ {g : Gm} {s : L2.St} {q : Addr}, Slots K H V0 g s → q ∈ owns g → ∃ o, H q = some o ∧ ∀ us, o ≠ .xd us
  | [], [], _, _, h => by cases h
  | none :: g, _ :: s, q, h, m => own_lst (g := g) (s := s) h m
  | some x :: g, _ :: s, q, ⟨⟨u, _, hx⟩, h⟩, m => by
    rcases List.mem_append.mp (show q ∈ ownsOf (some x) ++ owns g from m) with z | z
    · cases x with
      | dat d => cases z
      | obj A => cases z
      | own p xs =>
        obtain ⟨_, vs, hp, _⟩ := hx
        rw [List.mem_singleton.mp z]
        exact ⟨_, hp, fun _ z => by cases z⟩
      | dic p kvs =>
        obtain ⟨_, vs, hp, _⟩ := hx
        rw [List.mem_singleton.mp z]
        exact ⟨_, hp, fun _ z => by cases z⟩
      | dit p ks =>
        obtain ⟨_, vs, hp, _⟩ := hx
        rw [List.mem_singleton.mp z]
        exact ⟨_, hp, fun _ z => by cases z⟩
      | tab p rs rows =>
        obtain ⟨_, hp, ht⟩ := hx
        rcases List.mem_cons.mp z with rfl | z
        · exact ⟨_, hp, fun _ z => by cases z⟩
        · obtain ⟨vs, h2⟩ := ht.hid q z
          exact ⟨_, h2, fun _ z => by cases z⟩
    · exact own_lst (g := g) (s := s) h z
/-- error fields are plain: their values hold no objects -/
def Er.plain (e : Er) : Prop := ∀ fs, e.fs = some fs → ∀ p ∈ fs, flatD p.2 = true
theorem paired_plain {R S : Str × V → Str × PyData → Prop} : ∀ {us : List (Str × V)} {fs : List (Str × PyData)}, Paired R us fs → (∀ u f, f ∈ fs → R u f → S u f) → Paired S us fs
  | _, _, .nil, _ => .nil
  | _, _, .cons a r, k => .cons (k _ _ (.head _) a) (paired_plain r fun u f hf => k u f (.tail _ hf))
theorem err_ok (I : Env K Ps F g σ H) {e : Er} {cls : Value} {d : Option Addr} (pl : e.plain) (h : ErR K F.L0 H e cls d) (a : Addr) : (errA K e a cls d).a (.ref a) (off H (F.L0 ++ owns g)) := by
  refine ⟨rfl, h.1, ?_⟩
  have h2 := h.2
  cases q : e.fs with
  | none =>
    rw [q] at h2
    exact h2
  | some fs =>
    rw [q] at h2
    obtain ⟨b, us, rfl, hb, hp⟩ := h2
    obtain ⟨nb, hb⟩ := off_some hb
    refine ⟨b, us, rfl, ?_, paired_plain hp fun u f hf z => ⟨z.1, z.2.flat (pl fs q f hf)⟩⟩
    rw [off_ne fun z => ?_]
    · exact hb
    · rcases List.mem_append.mp z with z | z
      · exact nb z
      · obtain ⟨o, hv, no⟩ := own_lst I.sl z
        rw [hb] at hv
        cases hv
        exact no _ rfl
def rIsU (K : PySem.W.Frag) (a : Addr) (cls : Value) (d : Option Addr) : List V → Hp → VK → Prop := fun xs H Q => ∃ (D : Addr) (c : V) (cv : Value) (b : Bool), xs = [.ref a, c] ∧ cls = .ref D ∧ ExcC K D ∧ (∀ u, RelV c u → u = cv) ∧ PySem.W.kitOne K (.ref D) cv = some b ∧
  (d = none ∨ ∃ dd fs, d = some dd ∧ H dd = some (.xd fs)) ∧ Q (.bl b) H
def pIsU (K : PySem.W.Frag) (a : Addr) (cls : Value) (d : Option Addr) (i : Nat) (C : Addr) : GE := fun g _ Q => ∃ e b, g[i]? = some (some (.obj (errA K e a cls d))) ∧ ExcC K e.cls ∧ PySem.W.kitOne K (.ref e.cls) (.ref C) = some b ∧ Q (.v .dat (.bool b))
theorem le_isU {a : Addr} {cls : Value} {d : Option Addr} {i : Nat} {C : Addr} : LE K Ps W (tCB (rIsU K a cls d) (tCons (tVar i) (tCons (tC (.ref C)) tNil))) (pIsU K a cls d i C) := fun F g σ H Q PX PQ I w h k => by
  obtain ⟨e, b, hg, hx, hk, q⟩ := h
  obtain ⟨u, h1, h2⟩ := I.sl.get hg
  obtain ⟨rfl, rfl, h3⟩ := h2
  refine ⟨_, h1, e.cls, _, _, b, rfl, rfl, hx, fun _ z => z, hk, ?_, k _ _ _ (Sm.refl H) (rs_dat (.bl _)) q⟩
  cases q2 : e.fs with
  | none =>
    rw [q2] at h3
    exact .inl h3
  | some fs =>
    rw [q2] at h3
    obtain ⟨b2, us, rfl, hb, _⟩ := h3
    exact .inr ⟨b2, us, rfl, (off_some hb).2⟩
theorem paired_lookup {n : Str} {V0 : Hp} : ∀ {us : List (Str × V)} {fs : List (Str × PyData)} {y : PyData}, Paired (fun u f => u.1 = f.1 ∧ Rp K V0 u.2 f.2) us fs → fs.lookup n = some y → ∃ v, us.lookup n = some v ∧ Rp K V0 v y
  | _, _, _, .nil, h => by cases h
  | (m, v) :: us, (m2, y2) :: fs, y, .cons ⟨a, b⟩ r, h => by
    cases a
    rw [List.lookup_cons] at h ⊢
    cases q : n == m with
    | true =>
      rw [q] at h
      cases h
      exact ⟨v, rfl, b⟩
    | false =>
      rw [q] at h
      exact paired_lookup r h
def pXf (K : PySem.W.Frag) (a : Addr) (cls : Value) (d : Option Addr) (C : Addr) (n : Str) (i : Nat) : GE := fun g _ Q => ∃ e fs y, g[i]? = some (some (.obj (errA K e a cls d))) ∧ e.cls = C ∧ e.fs = some fs ∧ fs.lookup n = some y ∧ Q (.v .dat y)
theorem le_xf {a : Addr} {cls : Value} {d : Option Addr} {C : Addr} {n : Str} {i : Nat} : LE K Ps W (tXf a cls d C n (tVar i)) (pXf K a cls d C n i) := fun F g σ H Q PX PQ I w h k => by
  obtain ⟨e, fs, y, hg, hC, hfs, hl, q⟩ := h
  obtain ⟨u, h1, h2⟩ := I.sl.get hg
  obtain ⟨rfl, rfl, h3⟩ := h2
  rw [hfs] at h3
  obtain ⟨b2, us, rfl, hb, hp⟩ := h3
  obtain ⟨v, hv, hr⟩ := paired_lookup hp hl
  exact ⟨_, h1, rfl, by rw [hC], b2, us, v, rfl, (off_some hb).2, hv, k _ _ _ (Sm.refl H) (rs_dat hr) q⟩
def pTry (K : PySem.W.Frag) (c : Value) (i : Nat) (pb : GS) (psu : Addr → Value → Option Addr → GS) : GS := fun PD g =>
  pb ⟨PD.nx, PD.rt, PD.bk, PD.ct, fun g' e => e.plain ∧ PySem.W.exmOne K (.ref e.cls) c = some true ∧ ∀ a cls d, psu a cls d ⟨fun g2 => PD.nx (g2.set i none), PD.rt, fun g2 => PD.bk (g2.set i none), fun g2 => PD.ct (g2.set i none), fun _ _ => False⟩ (g'.set i (some (.obj (errA K e a cls d))))⟩ g
theorem ls_try {c : Value} {i : Nat} {tb : WX → TS} {ts : Addr → Value → Option Addr → TS} {pb : GS} {psu : Addr → Value → Option Addr → GS} (hb : ∀ W, LS K Ps W (tb W) pb) (hs : ∀ a cls d, LS K Ps W0 (ts a cls d) (psu a cls d)) :
    LS K Ps W (fun D σ H => tb (wAs K c i ts (fun _ _ _ _ => False) D) D σ H) (pTry K c i pb psu) := fun F D σ H PD g I E h => by
  refine hb (wAs K c i ts (fun _ _ _ _ => False) D) F D σ H ⟨PD.nx, PD.rt, PD.bk, PD.ct, fun g' e => e.plain ∧ PySem.W.exmOne K (.ref e.cls) c = some true ∧ ∀ a cls d, psu a cls d ⟨fun g2 => PD.nx (g2.set i none), PD.rt, fun g2 => PD.bk (g2.set i none), fun g2 => PD.ct (g2.set i none), fun _ _ => False⟩ (g'.set i (some (.obj (errA K e a cls d))))⟩ g I ⟨E.nx, E.bk, E.ct, E.rt, fun g' σ' H' e cls d I' r q => ?_⟩ h
  obtain ⟨pl, hx, q⟩ := q
  refine ⟨true, by rw [r.1]; exact hx, fun _ a ha => ?_, fun z => by cases z⟩
  exact hs a cls d F _ (σ'.set i (some (.ref a))) H' ⟨fun g2 => PD.nx (g2.set i none), PD.rt, fun g2 => PD.bk (g2.set i none), fun g2 => PD.ct (g2.set i none), fun _ _ => False⟩ _ (I'.set_obj (err_ok I' pl r a)) ⟨fun g2 σ2 H2 I2 q2 => E.nx _ _ H2 (I2.forget none) q2, fun g2 σ2 H2 I2 q2 => E.bk _ _ H2 (I2.forget none) q2, fun g2 σ2 H2 I2 q2 => E.ct _ _ H2 (I2.forget none) q2, E.rt, fun _ _ _ _ _ _ _ _ z => z.elim⟩ (q a cls d)
/-! ##### raising a class with a field -/
def pRaiseE (C : Addr) (fld : Str) (pa : GA) : GS := fun PD g => pa g (PD.ex g) fun rs => match rs with
  | [.v _ (.int i)] => i.natAbs.log2 < 1920 ∧ PD.ex g ⟨C, some [(fld, .int i)]⟩
  | _ => False
theorem ls_raiseE_core {C : Addr} {fld : Str} {ta : TA} {pa : GA} (ha : LA K Ps W ta pa) : LS K Ps W (fun _ σ H => ta σ H fun vs H1 => ∃ i : Int, vs = [.int i] ∧ i.natAbs.log2 < 1920 ∧ ∀ d, H1 d = none → W (.ref C) (some d) σ (upd H1 d (.xd [(fld, .int i)]))) (pRaiseE C fld pa) := fun F D σ H PD g I E h =>
  ha F g σ H _ _ _ I (E.wx I) h fun rs vs H1 e1 r1 h1 => by
    split at h1
    · next t i =>
      obtain ⟨v, rfl, a⟩ := rs1 r1
      cases a.rp I e1
      refine ⟨i, rfl, h1.1, fun d hd => ?_⟩
      have I1 := I.step e1
      obtain ⟨s, hn, hnL, _⟩ := new_in (o := .xd [(fld, V.int i)]) I1 (Sm.refl H1) hd
      refine E.ex g σ _ ⟨C, some [(fld, .int i)]⟩ _ _ (I1.step s) ⟨rfl, d, [(fld, V.int i)], rfl, ?_, .cons ⟨rfl, .int i⟩ .nil⟩ h1.2
      rw [off_ne fun z => hnL (List.mem_append_left _ z)]
      exact upd_same
    · exact h1.elim
end
end PV
namespace PV
/-- a promise with its number of arguments -/
def sg (n : Nat) (p : PSp) : PSp := fun as PX Q => as.length = n ∧ p as PX Q
end PV

namespace PV
open PySem PySem.Spec PyProof.Rows L2 Cm
/-- isinstance of the suite's error, whatever its class (wants ownerr) -/
theorem call_isU {X : Cx} {a : Addr} {oe : Obj} {cls : Value} {d : Option Addr} {pn : List (Addr × Obj)} (hz : Zc cls d oe) (hf : ∃ vs, oe.data = .fields vs) : CallR (X.suite a ((a, oe) :: pn)) (.builtin "isinstance") (rIsU X.K a cls d) := by
  intro pins s σ H xs us Q I r h
  obtain ⟨D, c, cv, b, rfl, rfl, hx, hcv, e, hd, q⟩ := h
  rcases hd with rfl | ⟨dd, fs, rfl, hd⟩
  · exact call_isE hx hz hf pins s σ H _ us Q I r ⟨c, cv, b, rfl, hcv, e, q⟩
  · exact OE.call_isX hx hz hf pins s σ H _ us Q I r ⟨c, cv, b, dd, fs, rfl, rfl, hcv, e, rfl, hd, q⟩
end PV

/-! #### what one uses in the world of values -/
namespace PV
open PySem PySem.Spec PyProof.Rows L2 Cm
/-! data without great depth, for == -/
def Lay (n : Nat) (d : PyData) : Prop := d.canLay0 = true ∧ d.depth ≤ n
theorem lay_none {n : Nat} : Lay n .none := ⟨rfl, by simp [PyData.depth]⟩
theorem lay_int {n : Nat} {i : Int} : Lay n (.int i) := ⟨rfl, by simp [PyData.depth]⟩
theorem lay_bool {n : Nat} {i : Bool} : Lay n (.bool i) := ⟨rfl, by simp [PyData.depth]⟩
theorem lay_str {n : Nat} {x : Str} (h : (PyData.str x).canLay0 = true) : Lay n (.str x) := ⟨h, by simp [PyData.depth]⟩
theorem lay_all {n : Nat} : ∀ {ds : List PyData}, (∀ d ∈ ds, Lay n d) → PyData.canLayAll0 ds = true ∧ PyData.depthAll ds ≤ n
  | [], _ => ⟨rfl, by simp [PyData.depthAll]⟩
  | d :: ds, h => by
    obtain ⟨h1, h2⟩ := h d (.head _)
    obtain ⟨h3, h4⟩ := lay_all (ds := ds) fun e he => h e (.tail _ he)
    refine ⟨by simp [PyData.canLayAll0, h1, h3], ?_⟩
    simp only [PyData.depthAll]
    omega
theorem lay_list {n : Nat} {ds : List PyData} (h : ∀ d ∈ ds, Lay n d) : Lay (n + 1) (.list ds) := by
  obtain ⟨h1, h2⟩ := lay_all h
  exact ⟨by simpa [PyData.canLay0] using h1, by simp only [PyData.depth]; omega⟩
theorem lay_tup {n : Nat} {ds : List PyData} (h : ∀ d ∈ ds, Lay n d) : Lay (n + 1) (.tuple ds) := by
  obtain ⟨h1, h2⟩ := lay_all h
  exact ⟨by simpa [PyData.canLay0] using h1, by simp only [PyData.depth]; omega⟩
theorem lay_ints {n : Nat} {ns : List Int} : Lay (n + 1) (.list (ns.map PyData.int)) := lay_list fun d hd => by
  obtain ⟨i, _, rfl⟩ := List.mem_map.mp hd
  exact lay_int
theorem lay_intsT {n : Nat} {ns : List Int} : Lay (n + 1) (.tuple (ns.map PyData.int)) := lay_tup fun d hd => by
  obtain ⟨i, _, rfl⟩ := List.mem_map.mp hd
  exact lay_int
theorem lay_map {α : Type} {n : Nat} {f : α → PyData} {as : List α} (h : ∀ a ∈ as, Lay n (f a)) : Lay (n + 1) (.list (as.map f)) := lay_list fun d hd => by
  obtain ⟨i, hi, rfl⟩ := List.mem_map.mp hd
  exact h i hi
theorem lay_mapT {α : Type} {n : Nat} {f : α → PyData} {as : List α} (h : ∀ a ∈ as, Lay n (f a)) : Lay (n + 1) (.tuple (as.map f)) := lay_tup fun d hd => by
  obtain ⟨i, hi, rfl⟩ := List.mem_map.mp hd
  exact h i hi
theorem lay_shp {n : Nat} {d : PyData} (h : Lay n d) (hn : n ≤ 64 := by decide) : SeqAt.shaped d = true := Bool.and_eq_true_iff.mpr ⟨h.1, decide_eq_true (Nat.le_trans h.2 hn)⟩
theorem shp_ints {ns : List Int} : SeqAt.shaped (.list (ns.map PyData.int)) = true := lay_shp (n := 1) lay_ints
theorem eqv_self {d : PyData} (h : SeqAt.shaped d = true) : PyData.eqv d d = true := eqv_refl' h
theorem eqvAll_map {α : Type} [DecidableEq α] {f : α → PyData} (hf : ∀ a b, PyData.eqv (f a) (f b) = decide (a = b)) : ∀ (as bs : List α), PyData.eqvAll (as.map f) (bs.map f) = decide (as = bs)
  | [], [] => by simp [PyData.eqvAll]
  | [], b :: bs => by simp [PyData.eqvAll]
  | a :: as, [] => by simp [PyData.eqvAll]
  | a :: as, b :: bs => by
    by_cases h : a = b <;> simp [PyData.eqvAll, hf, eqvAll_map hf as bs, h]
/-! slices -/
def cutL {α : Type} (xs : List α) (lo hi : Option Int) : List α := (xs.drop (HT.sIx xs.length 0 lo)).take (HT.sIx xs.length xs.length hi - HT.sIx xs.length 0 lo)
theorem cutD_map {α : Type} {f : α → PyData} {as : List α} {lo hi : Option Int} : cutD (as.map f) lo hi = (cutL as lo hi).map f := by
  unfold cutD cutL
  rw [List.length_map, List.map_take, List.map_drop]
theorem sIx_pos {n d : Nat} {k : Int} (h : 0 ≤ k) : HT.sIx n d (some k) = min k.toNat n := by
  obtain ⟨j, rfl⟩ := Int.eq_ofNat_of_zero_le h
  exact HT.sIx_nat n d j
theorem drop_min {α : Type} {xs : List α} {k : Nat} : xs.drop (min k xs.length) = xs.drop k := by
  by_cases h : k ≤ xs.length
  · rw [Nat.min_eq_left h]
  · rw [Nat.min_eq_right (by omega), List.drop_length, List.drop_eq_nil_of_le (by omega)]
theorem cutL_to {α : Type} {xs : List α} {k : Int} (h : 0 ≤ k) : cutL xs none (some k) = xs.take k.toNat := by
  unfold cutL
  rw [sIx_pos h, HT.sIx_none, List.drop_zero, Nat.sub_zero, List.take_eq_take_iff]
  omega
theorem cutL_from {α : Type} {xs : List α} {k : Int} (h : 0 ≤ k) : cutL xs (some k) none = xs.drop k.toNat := by
  unfold cutL
  rw [sIx_pos h, HT.sIx_none, drop_min, List.take_of_length_le]
  rw [List.length_drop]
  omega
theorem cutL_mid {α : Type} {xs : List α} {j k : Int} (h : 0 ≤ j) (hk : 0 ≤ k) : cutL xs (some j) (some k) = (xs.drop j.toNat).take (k.toNat - j.toNat) := by
  unfold cutL
  rw [sIx_pos h, sIx_pos hk, drop_min, List.take_eq_take_iff, List.length_drop]
  omega
theorem cutL_len {α : Type} {xs : List α} {lo hi : Option Int} : (cutL xs lo hi).length ≤ xs.length := by
  unfold cutL
  rw [List.length_take, List.length_drop]
  omega
/-! items -/
theorem at_map {α : Type} {f : α → PyData} {as : List α} {i : Int} {j : Nat} {a : α} (e : i = (j : Int)) (h : as[j]? = some a) : atI (as.map f) i = some (f a) := by
  subst e
  refine atI_nat ?_
  rw [List.getElem?_map, h]
  rfl
theorem at_ints {ns : List Int} {i : Int} (h0 : 0 ≤ i) (h : i < ns.length) : atI (ns.map PyData.int) i = some (.int (ns.getD i.toNat 0)) := by
  have hi : i.toNat < ns.length := by omega
  refine at_map (j := i.toNat) (by omega) ?_
  rw [List.getD_eq_getElem?_getD, List.getElem?_eq_getElem hi]
  rfl
theorem at_ints_some {ns : List Int} {i : Int} (h0 : 0 ≤ i) (h : i < ns.length) : ∃ v, atI (ns.map PyData.int) i = some (.int v) := ⟨_, at_ints h0 h⟩
theorem at0 {α : Type} {a : α} {r : List α} : atI (a :: r) 0 = some a := atI_nat (j := 0) rfl
theorem at1 {α : Type} {a b : α} {r : List α} : atI (a :: b :: r) 1 = some b := atI_nat (j := 1) rfl
theorem at2 {α : Type} {a b c : α} {r : List α} : atI (a :: b :: c :: r) 2 = some c := atI_nat (j := 2) rfl
theorem at3 {α : Type} {a b c d : α} {r : List α} : atI (a :: b :: c :: d :: r) 3 = some d := atI_nat (j := 3) rfl
theorem at4 {α : Type} {a b c d e : α} {r : List α} : atI (a :: b :: c :: d :: e :: r) 4 = some e := atI_nat (j := 4) rfl
theorem at5 {α : Type} {a b c d e f : α} {r : List α} : atI (a :: b :: c :: d :: e :: f :: r) 5 = some f := atI_nat (j := 5) rfl
theorem owns_sh {o : Option Sl} {r : Gm} : owns (Option.map Sl.sh o :: r) = owns r := by
  cases o with
  | none => rfl
  | some x => cases x <;> rfl
theorem rep_none {n : Nat} : List.replicate (n + 1) (none : Option Sl) = none :: List.replicate n none := rfl
theorem owns_no {r : Gm} : owns (none :: r) = owns r := rfl
theorem owns_dat {d : PyData} {r : Gm} : owns (some (.dat d) :: r) = owns r := rfl
theorem owns_obj {d : Asr} {r : Gm} : owns (some (.obj d) :: r) = owns r := rfl
/-! loops -/
theorem loop_inv {α : Type} {inj : α → PyData} {t : Tgt} {b : GS} {PD : GEnds} {g : Gm} (as : List α) (Iv : List α → Gm → Prop) (h0 : Iv [] g)
    (turn : ∀ pre a post g, as = pre ++ a :: post → Iv pre g → ∀ N : Gm → Prop, (∀ g', Iv (pre ++ [a]) g' → N g') → pTgt t (inj a) g fun g' => b { PD with nx := N, ct := N, bk := PD.nx } g') (hd : ∀ g, Iv as g → PD.nx g) :
    Loop (pTg t) b PD (as.map inj) g := by
  suffices ∀ post pre g, as = pre ++ post → Iv pre g → Loop (pTg t) b PD (post.map inj) g from this as [] g rfl h0
  intro post
  induction post with
  | nil =>
    intro pre g e h
    rw [List.append_nil] at e
    subst e
    exact hd g h
  | cons a post ih =>
    intro pre g e h
    exact ⟨rfl, turn pre a post g e h _ fun g' h' => ih (pre ++ [a]) g' (by rw [e, List.append_assoc]; rfl) h'⟩
/-- by the number of the turn -/
theorem loop_ix {α : Type} {inj : α → PyData} {t : Tgt} {b : GS} {PD : GEnds} {g : Gm} (as : List α) (Iv : Nat → Gm → Prop) (h0 : Iv 0 g)
    (turn : ∀ i a g, as[i]? = some a → Iv i g → ∀ N : Gm → Prop, (∀ g', Iv (i + 1) g' → N g') → pTgt t (inj a) g fun g' => b { PD with nx := N, ct := N, bk := PD.nx } g') (hd : ∀ g, Iv as.length g → PD.nx g) :
    Loop (pTg t) b PD (as.map inj) g :=
  loop_inv as (fun pre g => Iv pre.length g) h0 (fun pre a post g e h N k => turn pre.length a g (by rw [e]; simp) h N fun g' h' => k g' (by rw [List.length_append]; exact h')) hd
theorem loop_rg {lo : Int} {n : Nat} {t : Tgt} {b : GS} {PD : GEnds} {g : Gm} (Iv : Nat → Gm → Prop) (h0 : Iv 0 g)
    (turn : ∀ (i : Nat) g, i < n → Iv i g → ∀ N : Gm → Prop, (∀ g', Iv (i + 1) g' → N g') → pTgt t (.int (lo + (i : Int))) g fun g' => b { PD with nx := N, ct := N, bk := PD.nx } g') (hd : ∀ g, Iv n g → PD.nx g) :
    Loop (pTg t) b PD (rgD lo n) g := by
  refine loop_ix (inj := fun i : Nat => PyData.int (lo + (i : Int))) (List.range n) Iv h0 (fun i a g h q N k => ?_) (by rw [List.length_range]; exact hd)
  have hi : i < n := by
    by_cases z : i < n
    · exact z
    · rw [List.getElem?_eq_none (by rw [List.length_range]; omega)] at h
      cases h
  rw [List.getElem?_range hi] at h
  cases h
  exact turn i g hi q N k
theorem rgC_map {lo c : Int} {n : Nat} : rgC lo c n = (List.range n).map fun (i : Nat) => .int (lo + (i : Int) * c) := rfl
theorem enD_map {α : Type} {f : α → PyData} {as : List α} : enD (as.map f) = as.zipIdx.map fun p => .tuple [.int (p.2 : Int), f p.1] := by
  apply List.ext_getElem?
  intro i
  unfold enD
  rw [List.getElem?_zipWith, List.getElem?_map, List.length_map, List.getElem?_map, List.getElem?_zipIdx]
  cases h : as[i]? with
  | none =>
    cases h2 : (List.range as.length)[i]? <;> rfl
  | some a =>
    have hi : i < as.length := by
      by_cases z : i < as.length
      · exact z
      · rw [List.getElem?_eq_none (Nat.le_of_not_lt z)] at h
        cases h
    rw [List.getElem?_range hi]
    simp
theorem zipD_map {α β : Type} {f : α → PyData} {h : β → PyData} {as : List α} {bs : List β} : zipD (as.map f) (bs.map h) = (as.zip bs).map fun p => .tuple [f p.1, h p.2] := by
  unfold zipD
  rw [List.zipWith_map, List.map_zip_eq_zipWith]
  rfl
/-! comprehensions -/
theorem comp_map {α : Type} {inj f : α → PyData} {t : Tgt} {pe : GE} {gw : Gm} {PX : Er → Prop} {k : List PyData → Prop} (gs : α → Gm) (as : List α) (ht : ∀ a, a ∈ as → ∀ Q : Gm → Prop, Q (gs a) → pTgt t (inj a) gw Q) (hl : as.length ≤ 100000)
    (he : ∀ a, a ∈ as → ∀ P : PyData → Prop, P (f a) → pe (gs a) PX fun r => match r with
      | .v t2 d => t2.ok = true ∧ P d
      | .obj _ => False) (hk : k (as.map f)) : Comp t pYes pe gw PX k [] (as.map inj) := by
  suffices ∀ (as' : List α) (acc : List PyData), (∀ a, a ∈ as' → a ∈ as) → acc.length + as'.length ≤ 100000 → k (acc ++ as'.map f) → Comp t pYes pe gw PX k acc (as'.map inj) from this as [] (fun _ z => z) (by simpa using hl) (by simpa using hk)
  intro as'
  induction as' with
  | nil => intro acc _ _ h; simpa [Comp] using h
  | cons a as' ih =>
    intro acc hm hl hk
    refine ht a (hm a (.head _)) _ ⟨fun _ => ?_, fun z => by cases z⟩
    refine he a (hm a (.head _)) (fun d => acc.length < sizeLine ∧ Comp t pYes pe gw PX k (acc ++ [d]) (as'.map inj)) ⟨small (by rw [List.length_cons] at hl; omega), ih _ (fun b hb => hm b (.tail _ hb)) (by rw [List.length_cons] at hl; simp; omega) ?_⟩
    rw [List.append_assoc]
    exact hk
theorem comp_filter {α : Type} {inj f : α → PyData} {c : α → Bool} {t : Tgt} {pt : GT} {pe : GE} {gw : Gm} {PX : Er → Prop} {k : List PyData → Prop} (gs : α → Gm) (as : List α) (ht : ∀ a, a ∈ as → ∀ Q : Gm → Prop, Q (gs a) → pTgt t (inj a) gw Q) (hl : as.length ≤ 100000)
    (hc : ∀ a, a ∈ as → ∀ P : Bool → Prop, P (c a) → pt (gs a) PX P)
    (he : ∀ a, a ∈ as → c a = true → ∀ P : PyData → Prop, P (f a) → pe (gs a) PX fun r => match r with
      | .v t2 d => t2.ok = true ∧ P d
      | .obj _ => False) (hk : k ((as.filter c).map f)) : Comp t pt pe gw PX k [] (as.map inj) := by
  suffices ∀ (as' : List α) (acc : List PyData), (∀ a, a ∈ as' → a ∈ as) → acc.length + as'.length ≤ 100000 → k (acc ++ (as'.filter c).map f) → Comp t pt pe gw PX k acc (as'.map inj) from this as [] (fun _ z => z) (by simpa using hl) (by simpa using hk)
  intro as'
  induction as' with
  | nil => intro acc _ _ h; simpa [Comp] using h
  | cons a as' ih =>
    intro acc hm hl hk
    refine ht a (hm a (.head _)) _ (hc a (hm a (.head _)) _ ⟨fun hca => ?_, fun hca => ?_⟩)
    · refine he a (hm a (.head _)) hca (fun d => acc.length < sizeLine ∧ Comp t pt pe gw PX k (acc ++ [d]) (as'.map inj)) ⟨small (by rw [List.length_cons] at hl; omega), ih _ (fun b hb => hm b (.tail _ hb)) (by rw [List.length_cons] at hl; simp; omega) ?_⟩
      rw [List.append_assoc]
      rw [List.filter_cons_of_pos hca] at hk
      exact hk
    · refine ih acc (fun b hb => hm b (.tail _ hb)) (by rw [List.length_cons] at hl; omega) ?_
      rw [List.filter_cons_of_neg (by simp [hca])] at hk
      exact hk
/-! any, all, sum -/
theorem gen_any {α : Type} {inj : α → PyData} {t : Tgt} {pe : GE} {gw : Gm} {PX : Er → Prop} {Q : Rs → Prop} (gs : α → Gm) (f : α → Bool) (as : List α) (ht : ∀ a, a ∈ as → ∀ Q : Gm → Prop, Q (gs a) → pTgt t (inj a) gw Q)
    (he : ∀ a, a ∈ as → ∀ P : Bool → Prop, P (f a) → pe (gs a) PX fun r => bD r P) (hq : Q (.v .dat (.bool (as.any f)))) : GenB true t pe gw PX Q (as.map inj) := by
  induction as with
  | nil => exact hq
  | cons a as ih =>
    refine ht a (.head _) _ (he a (.head _) _ ⟨fun z => ?_, fun z => ih (fun b hb => ht b (.tail _ hb)) (fun b hb => he b (.tail _ hb)) ?_⟩)
    · rw [List.any_cons, z] at hq
      exact hq
    · rw [List.any_cons, z] at hq
      exact hq
theorem gen_all {α : Type} {inj : α → PyData} {t : Tgt} {pe : GE} {gw : Gm} {PX : Er → Prop} {Q : Rs → Prop} (gs : α → Gm) (f : α → Bool) (as : List α) (ht : ∀ a, a ∈ as → ∀ Q : Gm → Prop, Q (gs a) → pTgt t (inj a) gw Q)
    (he : ∀ a, a ∈ as → ∀ P : Bool → Prop, P (f a) → pe (gs a) PX fun r => bD r P) (hq : Q (.v .dat (.bool (as.all f)))) : GenB false t pe gw PX Q (as.map inj) := by
  induction as with
  | nil => exact hq
  | cons a as ih =>
    refine ht a (.head _) _ (he a (.head _) _ ⟨fun z => ?_, fun z => ih (fun b hb => ht b (.tail _ hb)) (fun b hb => he b (.tail _ hb)) ?_⟩)
    · rw [List.all_cons, z] at hq
      exact hq
    · rw [List.all_cons, z] at hq
      exact hq
theorem gen_sum {α : Type} {inj : α → PyData} {t : Tgt} {pt : GT} {pe : GE} {gw : Gm} {PX : Er → Prop} {Q : Rs → Prop} (gs : α → Gm) (c : α → Bool) (f : α → Int) (as : List α) (a0 : Int) (ht : ∀ a, a ∈ as → ∀ Q : Gm → Prop, Q (gs a) → pTgt t (inj a) gw Q)
    (hc : ∀ a, a ∈ as → ∀ P : Bool → Prop, P (c a) → pt (gs a) PX P)
    (he : ∀ a, a ∈ as → c a = true → ∀ P : Int → Prop, P (f a) → pe (gs a) PX fun r => match r with
      | .v _ (.int b) => P b
      | _ => False) (hq : Q (.v .dat (.int (a0 + ((as.filter c).map f).sum)))) : GenS t pt pe gw PX Q a0 (as.map inj) := by
  induction as generalizing a0 with
  | nil => simpa [GenS] using hq
  | cons a as ih =>
    refine ht a (.head _) _ (hc a (.head _) _ ⟨fun z => he a (.head _) z _ (ih _ (fun b hb => ht b (.tail _ hb)) (fun b hb => hc b (.tail _ hb)) (fun b hb => he b (.tail _ hb)) ?_), fun z => ih _ (fun b hb => ht b (.tail _ hb)) (fun b hb => hc b (.tail _ hb)) (fun b hb => he b (.tail _ hb)) ?_⟩)
    · rw [List.filter_cons_of_pos z] at hq
      rw [List.map_cons, List.sum_cons, ← Int.add_assoc] at hq
      exact hq
    · rw [List.filter_cons_of_neg (by simp [z])] at hq
      exact hq
/-- the ints of data -/
def intsOf : List PyData → List Int
  | [] => []
  | .int i :: r => i :: intsOf r
  | _ :: r => 0 :: intsOf r
theorem intsOf_map (ns : List Int) : intsOf (ns.map PyData.int) = ns := by
  induction ns with
  | nil => rfl
  | cons n ns ih => simp [intsOf, ih]
theorem intsOf_app (a b : List PyData) : intsOf (a ++ b) = intsOf a ++ intsOf b := by
  induction a with
  | nil => rfl
  | cons d a ih => cases d <;> simp [intsOf, ih]
theorem intsOf_nil : intsOf [] = [] := rfl
theorem intsOf_int (i : Int) (r : List PyData) : intsOf (.int i :: r) = i :: intsOf r := rfl
/-- data that are ints -/
def isInts (ds : List PyData) : Prop := ds = (intsOf ds).map PyData.int
theorem isInts_map (ns : List Int) : isInts (ns.map PyData.int) = True := by simp [isInts, intsOf_map]
theorem isInts_nil : isInts [] = True := by simp [isInts, intsOf]
theorem isInts_int (i : Int) (r : List PyData) : isInts (.int i :: r) = isInts r := by simp [isInts, intsOf]
theorem isInts_app {a b : List PyData} : isInts a → isInts b → isInts (a ++ b) := fun h1 h2 => by
  unfold isInts at h1 h2 ⊢
  rw [intsOf_app, List.map_append, ← h1, ← h2]
theorem isInts_mapL (ns : List Int) (r : List PyData) : isInts (ns.map PyData.int ++ r) = isInts r := by
  apply propext
  refine ⟨fun h => ?_, fun h => isInts_app (by rw [isInts_map]; trivial) h⟩
  unfold isInts at h ⊢
  rw [intsOf_app, List.map_append, intsOf_map] at h
  exact List.append_cancel_left h
theorem eqF_int {i j : Int} : eqF (.int i) (.int j) = some (decide (i = j)) := rfl
theorem eqF_str {i j : Str} : eqF (.str i) (.str j) = some (decide (i = j)) := rfl
theorem eqF_bool {i j : Bool} : eqF (.bool i) (.bool j) = some (decide (i = j)) := rfl
theorem eqF_ni {j : Int} : eqF .none (.int j) = some false := rfl
theorem eqF_in {j : Int} : eqF (.int j) .none = some false := rfl
theorem eqF_nn : eqF .none .none = some true := rfl
theorem eqF_si {i : Str} {j : Int} : eqF (.str i) (.int j) = some false := rfl
theorem eqF_is {i : Str} {j : Int} : eqF (.int j) (.str i) = some false := rfl
theorem eqF_sn {i : Str} : eqF (.str i) .none = some false := rfl
theorem eqF_ns {i : Str} : eqF .none (.str i) = some false := rfl
theorem allD_map (t : Tg) (ds : List PyData) : allD (ds.map fun d => Rs.v t d) = some ds := by
  induction ds with
  | nil => rfl
  | cons d ds ih => rw [List.map_cons, allD, ih]
theorem allD_mapA (t : Tg) (ds : List PyData) (r : List Rs) : allD ((ds.map fun d => Rs.v t d) ++ r) = match allD r with
    | some es => some (ds ++ es)
    | none => none := by
  induction ds with
  | nil => cases e : allD r <;> simp [e]
  | cons d ds ih =>
    rw [List.map_cons, List.cons_append, allD, ih]
    cases allD r <;> rfl
theorem allS_map (ds : List PyData) : allS (ds.map fun d => Rs.v .dat d) = true := by
  induction ds with
  | nil => rfl
  | cons d ds ih => rw [List.map_cons, allS, ih]; rfl
theorem allS_mapA (ds : List PyData) (r : List Rs) : allS ((ds.map fun d => Rs.v .dat d) ++ r) = allS r := by
  induction ds with
  | nil => rfl
  | cons d ds ih => rw [List.map_cons, List.cons_append, allS, ih]; rfl
theorem flat_rep {α : Type} {n : Nat} {d : α} : (List.replicate n [d]).flatten = List.replicate n d := by
  induction n with
  | zero => rfl
  | succ n ih => rw [List.replicate_succ, List.flatten_cons, ih]; rfl
theorem fitsL {i : Int} (h1 : -100000000 ≤ i) (h2 : i ≤ 100000000) : Builtin.Range.rangeFitsLong i = true := by
  unfold Builtin.Range.rangeFitsLong
  refine Bool.and_eq_true_iff.mpr ⟨decide_eq_true ?_, decide_eq_true ?_⟩
  · omega
  · omega
/-- range(a, b, c) upwards: as many turns as said -/
theorem rgc_up {a b c : Int} {n : Nat} (hc : 1 ≤ c) (hc2 : c ≤ 1000000) (ha : -1000000 ≤ a) (ha2 : a ≤ 1000000) (hb : -1000000 ≤ b) (hb2 : b ≤ 1000000) (hn : (n : Int) ≤ 3000000) (h : (if a < b then (b - a - 1) / c + 1 else 0) = (n : Int)) : RgC a b c n := by
  have e : Builtin.Range.rangeSize a b c = (n : Int) := by
    unfold Builtin.Range.rangeSize
    rw [if_pos (by omega)]
    exact h
  have h0 : (0 : Int) ≤ (n : Int) := by omega
  clear h
  refine ⟨by omega, by omega, ?_, e⟩
  unfold Builtin.Range.small
  rw [e, fitsL (by omega) (by omega), fitsL (by omega) (by omega), fitsL (by omega) (by omega), fitsL (by omega) (by omega), if_pos (by omega), fitsL (by omega) (by omega)]
  rw [Bool.or_true]
  rfl
theorem plain0 {C : Addr} : Er.plain ⟨C, none⟩ := fun _ z => by cases z
theorem plain1 {C : Addr} {x : Str} {d : PyData} (h : flatD d = true) : Er.plain ⟨C, some [(x, d)]⟩ := fun _ z p hp => by
  cases z
  rw [List.mem_singleton.mp hp]
  exact h
theorem kit_int_int : kitB "int" "int" = some true := by decide +kernel
theorem kit_int_bool : kitB "int" "bool" = some false := by decide +kernel
theorem kit_int_str : kitB "int" "str" = some false := by decide +kernel
theorem kit_int_list : kitB "int" "list" = some false := by decide +kernel
theorem kit_int_tuple : kitB "int" "tuple" = some false := by decide +kernel
theorem kit_bool_int : kitB "bool" "int" = some true := by decide +kernel
theorem kit_bool_bool : kitB "bool" "bool" = some true := by decide +kernel
theorem kit_bool_str : kitB "bool" "str" = some false := by decide +kernel
theorem kit_bool_list : kitB "bool" "list" = some false := by decide +kernel
theorem kit_bool_tuple : kitB "bool" "tuple" = some false := by decide +kernel
theorem kit_str_int : kitB "str" "int" = some false := by decide +kernel
theorem kit_str_bool : kitB "str" "bool" = some false := by decide +kernel
theorem kit_str_str : kitB "str" "str" = some true := by decide +kernel
theorem kit_str_list : kitB "str" "list" = some false := by decide +kernel
theorem kit_str_tuple : kitB "str" "tuple" = some false := by decide +kernel
theorem kit_list_int : kitB "list" "int" = some false := by decide +kernel
theorem kit_list_bool : kitB "list" "bool" = some false := by decide +kernel
theorem kit_list_str : kitB "list" "str" = some false := by decide +kernel
theorem kit_list_list : kitB "list" "list" = some true := by decide +kernel
theorem kit_list_tuple : kitB "list" "tuple" = some false := by decide +kernel
theorem kit_tuple_int : kitB "tuple" "int" = some false := by decide +kernel
theorem kit_tuple_bool : kitB "tuple" "bool" = some false := by decide +kernel
theorem kit_tuple_str : kitB "tuple" "str" = some false := by decide +kernel
theorem kit_tuple_list : kitB "tuple" "list" = some false := by decide +kernel
theorem kit_tuple_tuple : kitB "tuple" "tuple" = some true := by decide +kernel
theorem kit_NoneType_int : kitB "NoneType" "int" = some false := by decide +kernel
theorem kit_NoneType_bool : kitB "NoneType" "bool" = some false := by decide +kernel
theorem kit_NoneType_str : kitB "NoneType" "str" = some false := by decide +kernel
theorem kit_NoneType_list : kitB "NoneType" "list" = some false := by decide +kernel
theorem kit_NoneType_tuple : kitB "NoneType" "tuple" = some false := by decide +kernel
theorem isiQ_s {b : Bool} {Q : Rs → Prop} : isiQ (some b) Q = Q (.v .dat (.bool b)) := rfl
/-! the law's script -/
def scr (K : PySem.W.Frag) (ns : List Int) : Asr where
  a := fun v H => ∃ a, v = .ref a ∧ SqL K H a (ns.map V.int)
  mono := fun v H H' s ⟨a, e, h⟩ => ⟨a, e, s.seq h⟩
  key := ns
theorem scr_key {K : PySem.W.Frag} (ns : List Int) : (scr K ns).key = ns := rfl
section
variable {P : Program} {w : World} {K : PySem.W.Frag} {Ps : List Addr} {mg : Str → Option Value} {base : Heap} {st : Stmt} {f : Addr} {fd : FuncData} {N : List Str} {k : Nat}
/-- law's promise where no tables are -/
def spLaw (K : PySem.W.Frag) : Sp := fun vs H Q _ => ∃ (a : Addr) (ns : List Int), vs = [.ref a] ∧ SqL K H a (ns.map V.int) ∧ ns.length ≤ 63 ∧ ∀ H', Q (.bl true) H'
/-- the law -/
theorem pv_law (Fn : Fun K "law" "law" st f fd) (S : FnScope N ["script"] (defScope st))
    (hb : ∀ (cdv : Value) (A : Around) (outer : List PySem.Env) (s : Shared) (H : Hp) (E : XK), Room k (A.deeper (envOfC "law" (defScope st) s.heap.objs.size f cdv)) →
      ∃ t p, PSs (cxOf CX0 P w K mg base N "law" (defScope st) f cdv A outer s H E).nox (defBody st) t ∧ LS K Ps W0 t p ∧ ∀ (ns : List Int) (PQ : Rs → Prop), ns.length ≤ 63 → PQ (.v .dat (.bool true)) → p (ends PQ fun _ => False) (startG N.length [.obj (scr K ns)])) :
    FnOk P w K mg base CX0 (k + 1) f fd ["script"] (GX.spLawT K Ps) := by
  have h := pv_fn (P := P) (w := w) (mg := mg) (base := base) (k := k) (Ps := Ps) (psp := sg 1 fun as _ Q => ∃ ns : List Int, as = [.obj (scr K ns)] ∧ ns.length ≤ 63 ∧ Q (.v .dat (.bool true))) Fn S (fun as PX PQ h => h.1) fun cdv A outer s H E hr => by
    obtain ⟨t, p, h1, h2, h3⟩ := hb cdv A outer s H E hr
    refine ⟨t, p, h1, h2, fun as PX PQ h => ?_⟩
    obtain ⟨_, ns, rfl, hl, q⟩ := h
    exact h3 ns PQ hl q
  refine h.imp fun vs H Q E q => ?_
  obtain ⟨a, ns, rfl, hS, hl, tb, kQ⟩ := q
  refine ⟨[], [.obj (scr K ns)], fun _ => False, fun r => r = .v .dat (.bool true), (fun _ z => by cases z), .obj ⟨a, rfl, by rw [off_nil]; exact hS⟩ .nil, tb, ⟨rfl, ns, rfl, hl, rfl⟩, fun r v H2 _ hr e => ?_, fun _ _ _ _ _ _ z => z.elim⟩
  subst e
  cases hr
  exact kQ H2
theorem pv_law0 (Fn : Fun K "law" "law" st f fd) (S : FnScope N ["script"] (defScope st))
    (hb : ∀ (cdv : Value) (A : Around) (outer : List PySem.Env) (s : Shared) (H : Hp) (E : XK), Room k (A.deeper (envOfC "law" (defScope st) s.heap.objs.size f cdv)) →
      ∃ t p, PSs (cxOf CX0 P w K mg base N "law" (defScope st) f cdv A outer s H E).nox (defBody st) t ∧ LS K [] W0 t p ∧ ∀ (ns : List Int) (PQ : Rs → Prop), ns.length ≤ 63 → PQ (.v .dat (.bool true)) → p (ends PQ fun _ => False) (startG N.length [.obj (scr K ns)])) :
    FnOk P w K mg base CX0 (k + 1) f fd ["script"] (spLaw K) := (pv_law Fn S hb).imp fun vs H Q E ⟨a, ns, e, hS, hl, kQ⟩ => ⟨a, ns, e, hS, hl, (fun _ z => by cases z), kQ⟩
end
end PV

namespace PV
open PySem PySem.Spec PyProof.Rows L2 Cm
open GX (Sm)
/-! ##### zip(*rows) -/
/-- the i-th item of a row -/
def itD (i : Nat) : PyData → PyData
  | .list xs => xs.getD i .none
  | _ => .none
def colsD (ds : List PyData) (m : Nat) : List PyData := (List.range m).map fun i => .tuple (ds.map (itD i))
def rowsM (ds : List PyData) (m : Nat) : Prop := ∀ d ∈ ds, ∃ xs, d = .list xs ∧ xs.length = m
section
variable {K : PySem.W.Frag} {Ps : List Addr} {W : WX} {F : Fr} {g : Gm} {σ : L2.St} {H H1 H2 : Hp}
theorem rp_lists {V0 : Hp} {m : Nat} : ∀ {vs : List V} {ds : List PyData}, RpAll K V0 vs ds → rowsM ds m → ∃ ls : List Addr, vs = ls.map V.ref ∧ ls.length = ds.length ∧ ∀ (k : Nat) (l : Addr), ls[k]? = some l → ∃ us xs, ds[k]? = some (.list xs) ∧ xs.length = m ∧ V0 l = some (.lst us) ∧ RpAll K V0 us xs
  | _, _, .nil, _ => ⟨[], rfl, rfl, fun k l h => by simp at h⟩
  | _, d :: ds, .cons h r, hm => by
    obtain ⟨ls, rfl, hl, h3⟩ := rp_lists r fun d hd => hm d (List.mem_cons_of_mem _ hd)
    obtain ⟨xs, rfl, hx⟩ := hm d (List.mem_cons_self ..)
    cases h with
    | @lst a us _ h1 h2 =>
      refine ⟨a :: ls, rfl, by simp [hl], fun k l hk => ?_⟩
      cases k with
      | zero =>
        cases hk
        exact ⟨us, xs, rfl, hx, h1, h2⟩
      | succ k =>
        obtain ⟨us, xs, h4, h5⟩ := h3 k l (by simpa using hk)
        exact ⟨us, xs, by simpa using h4, h5⟩
theorem RpAll.of_get {V0 : Hp} : ∀ {vs : List V} {ds : List PyData}, vs.length = ds.length → (∀ (k : Nat) v d, vs[k]? = some v → ds[k]? = some d → Rp K V0 v d) → RpAll K V0 vs ds
  | [], [], _, _ => .nil
  | [], _ :: _, h, _ => by simp at h
  | _ :: _, [], h, _ => by simp at h
  | v :: vs, d :: ds, h, f => .cons (f 0 v d rfl rfl) (RpAll.of_get (by simpa using h) fun k v d h1 h2 => f (k + 1) v d (by simpa using h1) (by simpa using h2))
theorem wok_zipN {V0 : Hp} {m : Nat} {ls : List Addr} {ds : List PyData} (hm : rowsM ds m) (h0 : ds = [] → m = 0) (hl : ls.length = ds.length) (hr : ∀ (k : Nat) (l : Addr), ls[k]? = some l → ∃ us xs, ds[k]? = some (.list xs) ∧ xs.length = m ∧ V0 l = some (.lst us) ∧ RpAll K V0 us xs) : WOk K V0 (ZX.ItZ K ls) (colsD ds m) where
  go := fun i H L hi e => by
    have hi : i < m := by simpa [colsD] using hi
    refine ⟨?_, fun l hl2 => ?_⟩
    · rw [hl]
      cases ds with
      | nil => exact absurd (h0 rfl) (by omega)
      | cons _ _ => simp
    · obtain ⟨k, hk⟩ := List.mem_iff_getElem?.mp hl2
      obtain ⟨us, xs, _, h2, h3, h4⟩ := hr k l hk
      have hlen := h4.length
      exact ⟨us, us[i]'(by omega), SqL.of (off_some (e.l h3)).2, List.getElem?_eq_getElem (by omega)⟩
  stop := fun H L e => by
    intro l hk
    obtain ⟨us, xs, _, h2, h3, h4⟩ := hr 0 l hk
    exact ⟨us, SqL.of (off_some (e.l h3)).2, by rw [h4.length, h2]; simp [colsD]⟩
  yld := fun i H L x H' hi e hL y => by
    have hi : i < m := by simpa [colsD] using hi
    obtain ⟨T, ys, rfl, hT, rfl, hyl, hys⟩ := y
    have s := sm_new (o := .tup ys) (Sm.refl H) hT
    have s2 : Sm (off H L) (off (upd H T (.tup ys)) L) := sm_off s fun _ z => .inl z
    refine ⟨s, .tuple (ds.map (itD i)), by simp [colsD, List.getElem?_map, List.getElem?_range hi], .tup (SqT.of ?_) (RpAll.of_get (by rw [hyl, hl, List.length_map]) fun k v d h1 h2 => ?_)⟩
    · rw [off_ne fun z => (hL T z).ne (NewTo.none hT) rfl]
      exact upd_same
    · have hk : k < ls.length := by
        have := (List.getElem?_eq_some_iff.mp h1).1
        omega
      obtain ⟨us, xs, h3, h4, h5, h6⟩ := hr k _ (List.getElem?_eq_getElem hk)
      rw [List.getElem?_map, h3] at h2
      cases h2
      have hu := hys k _ us (List.getElem?_eq_getElem hk) (SqL.of (off_some (e.l h5)).2)
      rw [h1] at hu
      obtain ⟨d2, h7, h8⟩ := h6.getV hu
      have e3 : itD i (.list xs) = d2 := by
        show xs.getD i .none = d2
        rw [List.getD_eq_getElem?_getD, h7]
        rfl
      rw [e3]
      exact (h8.mono e).mono s2
def pZipS (pa : GE) : GI := fun g PX Q => pa g PX fun x => match x with
  | .v t (.list ds) => t.ok = true ∧ ∃ m, rowsM ds m ∧ (ds = [] → m = 0) ∧ ds.length ≤ 100000 ∧ Q (colsD ds m)
  | .v t (.tuple ds) => t.ok = true ∧ ∃ m, rowsM ds m ∧ (ds = [] → m = 0) ∧ ds.length ≤ 100000 ∧ Q (colsD ds m)
  | _ => False
theorem li_zipS {te : TE} {pa : GE} (ha : LE K Ps W te pa) : LI K Ps W (ZX.iZipN K te) (pZipS pa) := fun F g σ H R PX PQ I w h k =>
  ha F g σ H _ PX _ I w h fun x v H1 e1 r1 h1 => by
    split at h1
    · next t ds =>
      obtain ⟨ht, m, hm, h0, hn, q⟩ := h1
      have hr := r1.dat I e1 ht
      cases hr with
      | @lst a vs _ hp ha =>
        obtain ⟨ls, rfl, hl, h3⟩ := rp_lists ha hm
        refine ⟨a, ls, rfl, .inr (SqL.of (off_some hp).2), by omega, fun l hl2 => ?_, k _ _ _ e1 (wok_zipN hm h0 hl h3) q⟩
        obtain ⟨j, hj⟩ := List.mem_iff_getElem?.mp hl2
        obtain ⟨us, xs, _, _, h5, _⟩ := h3 j l hj
        exact ⟨us, SqL.of (off_some h5).2⟩
    · next t ds =>
      obtain ⟨ht, m, hm, h0, hn, q⟩ := h1
      have hr := r1.dat I e1 ht
      cases hr with
      | @tup a vs _ hp ha =>
        obtain ⟨ls, rfl, hl, h3⟩ := rp_lists ha hm
        refine ⟨a, ls, rfl, .inl (sm_hide.tup hp), by omega, fun l hl2 => ?_, k _ _ _ e1 (wok_zipN hm h0 hl h3) q⟩
        obtain ⟨j, hj⟩ := List.mem_iff_getElem?.mp hl2
        obtain ⟨us, xs, _, _, h5, _⟩ := h3 j l hj
        exact ⟨us, SqL.of (off_some h5).2⟩
    · exact h1.elim
end
end PV

namespace PV
open PySem PySem.Spec PyProof.Rows L2 Cm
open GX (Sm)
section
variable {K : PySem.W.Frag} {Ps : List Addr} {W : WX} {F : Fr} {g : Gm} {σ : L2.St} {H H1 H2 : Hp}
/-! ##### tables of one's own -/
theorem own_nd {x : Option Sl} : ∀ {g : Gm} {i : Nat}, (owns g).Nodup → g[i]? = some x → (ownsOf x).Nodup
  | [], _, _, e => by simp at e
  | y :: g, 0, nd, e => by
    simp at e
    subst e
    exact (List.nodup_append.mp nd).1
  | y :: g, i + 1, nd, e => own_nd (g := g) (i := i) (List.nodup_append.mp nd).2.1 (by simpa using e)
/-- t[r][c] = e -/
def pSetIx2 (j : Nat) (pr pc pa : GE) : GS := fun PD g => match g[j]? with
  | some (some (.tab p rs rows)) => pa g (PD.ex g) fun r => pr g (PD.ex g) fun ix => match ix with
    | .v _ (.int k) => ∃ n row, ixN rows.length k = some n ∧ rows[n]? = some row ∧ pc g (PD.ex g) fun ic => match r, ic with
      | .v t d, .v _ (.int l) => t.ok = true ∧ ∃ m, ixN row.length l = some m ∧ PD.nx (g.set j (some (.tab p rs (rows.set n (row.set m d)))))
      | _, _ => False
    | _ => False
  | _ => False
theorem ls_setix2 {j : Nat} {te tr tc : TE} {pa pr pc : GE} (ha : LE K Ps W te pa) (hr : LE K Ps W tr pr) (hc : LE K Ps W tc pc) : LS K Ps W (tAsg te (gSub (tOp (rIxL K) (tVar j) tr) tc rSetL)) (pSetIx2 j pr pc pa) := fun F D σ H PD g I E h => by
  unfold pSetIx2 at h
  split at h
  · next p rs rows e =>
    obtain ⟨u, h1, rfl, h2, h3⟩ := I.sl.get e
    have nd : (p :: rs).Nodup := own_nd I.nd e
    refine ha F g σ H _ _ _ I (E.wx I) h fun r v H1 e1 r1 q => ⟨_, h1, hr F g σ H1 _ _ _ (I.step e1) (E.wx (I.step e1)) q fun ix w H2 e2 r2 q2 => ?_⟩
    split at q2
    · next t2 k =>
      obtain ⟨n, row, hn, hrow, q2⟩ := q2
      have e12 := e1.trans e2
      have I2 := I.step e12
      cases r2.rp (I.step e1) e2
      have h3' := h3.mono e12 (sm_off e12 fun _ z => .inl z)
      obtain ⟨ra, vs, g1, g2, g3⟩ := h3'.get hrow
      refine ⟨p, rs.map V.ref, k, .ref ra, rfl, rfl, SqL.of (e12.l h2), ?_, ?_⟩
      · unfold atI
        rw [List.length_map, h3'.length, hn]
        show (rs.map V.ref)[n]? = _
        rw [List.getElem?_map, g1]
        rfl
      refine hc F g σ H2 _ _ _ I2 (E.wx I2) q2 fun ic z H3 e3 r3 q3 => ?_
      split at q3
      · next t d t3 l =>
        obtain ⟨ho, m, hm, q3⟩ := q3
        cases r3.rp I2 e3
        have e13 := e12.trans e3
        have hma : ra ∈ rs := List.mem_of_getElem? g1
        refine ⟨ra, vs, l, m, rfl, rfl, e3.l g2, by rw [g3.length]; exact hm, E.nx _ σ _ ((I.step e13).putAt (x := .tab p rs (rows.set n (row.set m d))) (y := .tab p rs rows) e h1 rfl (List.mem_cons_of_mem _ hma) ⟨rfl, ?_, ?_⟩) q3⟩
        · rw [upd_ne fun z => (List.nodup_cons.mp nd).1 (by rw [z]; exact hma)]
          exact e13.l h2
        · exact TabR.set (RpAll.set m ((r1.step e1 (e2.trans e3)).dat I e13 ho) (g3.mono (sm_off e3 fun _ z => .inl z))) (List.nodup_cons.mp nd).2 g1 (h3.mono e13 (sm_off e13 fun _ z => .inl z))
      · exact q3.elim
    · exact q2.elim
  · exact h.elim
/-- a table of one's own is handed out -/
def pRetT (j : Nat) : GS := fun PD g => match g[j]? with
  | some (some (.tab _ _ rows)) => PD.rt (.v .ft (.list (rows.map PyData.list)))
  | _ => False
theorem ls_retT {j : Nat} : LS K Ps W (tRet (tVar j)) (pRetT j) := fun F D σ H PD g I E h => by
  unfold pRetT at h
  split at h
  · next p rs rows e =>
    obtain ⟨u, h1, rfl, h2, h3⟩ := I.sl.get e
    have hm : ∀ a ∈ p :: rs, a ∈ owns g := fun a ha => mem_ownsOf (x := some (.tab p rs rows)) ha (List.mem_of_getElem? e)
    refine ⟨_, h1, E.rt (.v .ft (.list (rows.map PyData.list))) _ H I.sm ⟨p, rs, rows, rfl, rfl, (I.nw p (hm p (List.mem_cons_self ..))).1, fun r hr => (I.nw r (hm r (List.mem_cons_of_mem _ hr))).1, own_nd I.nd e, h2, h3.mono (Sm.refl _) (sm_sub fun a z => ?_)⟩ h⟩
    rcases List.mem_append.mp z with z | z
    · exact List.mem_append_right _ (hm a z)
    · rw [show owns [] = [] from rfl, List.append_nil] at z
      exact List.mem_append_left _ z
  · exact h.elim
/-- a new list of another is hidden -/
theorem Env.hide1 (I : Env K Ps F g σ H) (e : Sm H H2) {r : Addr} (hn : NewTo H r) (hh : Hid H2 r) {L : List Addr} (hL : ∀ a, a ∈ L → a = r ∨ a ∈ F.L0) : Env K Ps ⟨F.H0, L⟩ g σ H2 := by
  have J := I.step e
  refine ⟨I.sl.mono e (sm_off e fun a z => ?_), J.sm, J.tb, fun q z => (hL q z).elim (fun y => by rw [y]; exact hh) (J.hd q), J.nd, fun q z => ⟨(J.nw q z).1, fun y => ?_, (J.nw q z).2.2⟩⟩
  · rcases List.mem_append.mp z with z | z
    · rcases hL a z with rfl | z
      · exact .inr hn
      · exact .inl (List.mem_append_left _ z)
    · exact .inl (List.mem_append_right _ z)
  · rcases hL q y with rfl | y
    · exact (I.nw q z).2.2.ne hn rfl
    · exact (J.nw q z).2.1 y
theorem TabR.snoc {V0 : Hp} {r : Addr} {vs : List V} {row : List PyData} (h1 : H r = some (.lst vs)) (h2 : RpAll K V0 vs row) : ∀ {rs : List Addr} {rows : List (List PyData)}, TabR K H V0 rs rows → TabR K H V0 (rs ++ [r]) (rows ++ [row])
  | _, _, .nil => .cons h1 h2 .nil
  | _, _, .cons a b c => .cons a b (TabR.snoc h1 h2 c)
/-- a comprehension whose items are new lists -/
def CompF (t : Tgt) (pt : GT) (pe : GE) (gw : Gm) (PX : Er → Prop) (k : List (List PyData) → Prop) : List (List PyData) → List PyData → Prop
  | acc, [] => k acc
  | acc, x :: xs => pTgt t x gw fun g' => pt g' PX fun b => (b = true → pe g' PX fun r => match r with
      | .v .fr (.list row) => acc.length < sizeLine ∧ CompF t pt pe gw PX k (acc ++ [row]) xs
      | _ => False) ∧ (b = false → CompF t pt pe gw PX k acc xs)
def pLcF (pi : GI) (t : Tgt) (pt : GT) (pe : GE) (vs : List Nat) : GE := fun g PX Q => owns (wipeG g vs) = owns g ∧ pi g PX fun items => CompF t pt pe (wipeG g vs) PX (fun out => Q (.v .ft (.list (out.map PyData.list)))) [] items
theorem le_lcF {wi : TI} {tt : TT} {te : TE} {vs : List Nat} {pi : GI} {pt : GT} {pe : GE} (t : Tgt) (hs : ∀ j, j ∈ tgV t → j ∈ vs) (hW : NoSlot W) (hi : LI K Ps W wi pi) (ht : LT K Ps W tt pt) (he : LE K Ps W te pe) :
    LE K Ps W (tLc wi (tgT K t) tt te vs) (pLcF pi t pt pe vs) := fun F g σ H Q PX PQ I w h k =>
  hi F g σ H _ _ _ I w h.2 fun J H1 items e1 wk q => fun D hD => by
    have how := h.1
    have I1 := I.step e1
    obtain ⟨s1, hnD, hDn, hv⟩ := new_in (o := .lst []) I1 (Sm.refl H1) hD
    have nF : NewTo F.H0 D := hnD.back I1.sm
    have J0 := (Env.hide (vs := []) I1 hD).wipe vs
    let Inv : Nat → Hp → Prop := fun i H' => ∃ rs acc, Env K Ps ⟨F.H0, D :: rs ++ F.L0⟩ (wipeG g vs) (wipe σ vs) H' ∧ Sm H1 H' ∧ H' D = some (.lst (rs.map V.ref)) ∧ TabR K H' (off H' (D :: rs ++ (F.L0 ++ owns g))) rs acc ∧ (∀ r ∈ rs, NewTo H1 r) ∧ (D :: rs).Nodup ∧
      Sm (off H1 (F.L0 ++ owns g)) (off H' (D :: rs ++ (F.L0 ++ owns g))) ∧ CompF t pt pe (wipeG g vs) PX (fun out => PQ (.v .ft (.list (out.map PyData.list)))) acc (items.drop i)
    refine ⟨fun i m H' => m = items.length - i ∧ i ≤ items.length ∧ Inv i H', ⟨items.length, by simp, Nat.zero_le _, [], [], J0, s1, upd_same, .nil, (fun r hr => by cases hr), List.nodup_cons.mpr ⟨by simp, List.nodup_nil⟩, hv _, by rw [List.drop_zero]; exact q⟩, ?_⟩
    rintro i m H' ⟨rfl, hi, rs, acc, J', e', hws, hacc, hrs, nd, st, q⟩
    by_cases hlt : i < items.length
    · refine .inr ⟨wk.go i H' _ hlt st, fun H2 => Inv (i + 1) H2, fun H2 z => ⟨items.length - (i + 1), by omega, rfl, hlt, z⟩, fun x H2 y => ?_⟩
      have hL : ∀ q ∈ D :: rs ++ (F.L0 ++ owns g), Hid H' q := fun q hq => hidden J' (by rw [how, List.append_assoc]; exact hq)
      obtain ⟨s, d, hd, hr⟩ := wk.yld i H' _ x H2 hlt st hL y
      rw [drop_get hd] at q
      have hr' : Rp K (off H2 (D :: rs ++ F.L0 ++ owns (wipeG g vs))) x d := by rw [how, List.append_assoc]; exact hr
      refine tgt_ok t (J'.step s) hr' (tgt_owns t (fun j hj => wipeG_no (hs j hj)) q) fun g2 σ2 I2 _ hj hn ⟨q2, ho2, _⟩ => ⟨wipe_of hs hn hj, ?_⟩
      have w2 : ∀ {H3}, Sm H1 H3 → Wx K W ⟨F.H0, D :: rs ++ F.L0⟩ σ2 H3 PX := fun {H3} e3 er cls d H4 s4 r4 p4 => hW _ _ _ _ _ (w er cls d H4 ((e1.trans e3).trans s4) (r4.sub fun a z => List.mem_append_right _ z) p4)
      refine ht _ g2 σ2 H2 _ PX _ I2 (w2 (e'.trans s)) q2 fun b H3 e3 q3 => ?_
      have s3 := s.trans e3
      cases b with
      | false =>
        exact iteF ⟨rs, acc, J'.step s3, e'.trans s3, s3.l hws, hacc.mono s3 (sm_off s3 fun _ z => .inl z), hrs, nd, st.trans (sm_off s3 fun _ z => .inl z), q3.2 rfl⟩
      | true =>
        refine iteT (he _ g2 σ2 H3 _ PX _ (I2.step e3) (w2 (e'.trans s3)) (q3.1 rfl) fun r y H4 e4 r4 q4 => ?_)
        split at q4
        · next row =>
          have s4 := s3.trans e4
          obtain ⟨p, us, xs, z, rfl, hn4, hp, ha⟩ := r4
          cases z
          have hpD : p ≠ D := (Hid.lst (s3.l hws)).ne hn4
          have hpr : p ∉ rs := fun z => by
            obtain ⟨vs', z2⟩ := hacc.hid p z
            exact (Hid.lst (s3.l z2)).ne hn4 rfl
          have nd2 : (D :: (rs ++ [p])).Nodup := by
            obtain ⟨n1, n2⟩ := List.nodup_cons.mp nd
            refine List.nodup_cons.mpr ⟨fun z => ?_, List.nodup_append.mpr ⟨n2, List.nodup_cons.mpr ⟨by simp, List.nodup_nil⟩, fun a ha b hb e => ?_⟩⟩
            · rcases List.mem_append.mp z with z | z
              · exact n1 z
              · exact hpD (List.mem_singleton.mp z).symm
            · rw [List.mem_singleton.mp hb] at e
              exact hpr (e ▸ ha)
          have vis : Sm (off H' (D :: rs ++ (F.L0 ++ owns g))) (off H4 (D :: (rs ++ [p]) ++ (F.L0 ++ owns g))) := sm_off s4 fun a z => by
            rcases List.mem_append.mp z with z | z
            · rcases List.mem_cons.mp z with rfl | z
              · exact .inl (List.mem_append_left _ (List.mem_cons_self ..))
              · rcases List.mem_append.mp z with z | z
                · exact .inl (List.mem_append_left _ (List.mem_cons_of_mem _ z))
                · rw [List.mem_singleton.mp z]
                  exact .inr (hn4.back s3)
            · exact .inl (List.mem_append_right _ z)
          have J4 : Env K Ps ⟨F.H0, D :: (rs ++ [p]) ++ F.L0⟩ (wipeG g vs) (wipe σ vs) H4 := (J'.step s3).hide1 e4 hn4 (.lst hp) fun a z => by
            rcases List.mem_append.mp z with z | z
            · rcases List.mem_cons.mp z with rfl | z
              · exact .inr (List.mem_append_left _ (List.mem_cons_self ..))
              · rcases List.mem_append.mp z with z | z
                · exact .inr (List.mem_append_left _ (List.mem_cons_of_mem _ z))
                · exact .inl (List.mem_singleton.mp z)
            · exact .inr (List.mem_append_right _ z)
          have ho : ∀ {u}, off (upd H4 D u) (D :: (rs ++ [p]) ++ (F.L0 ++ owns g)) = off H4 (D :: (rs ++ [p]) ++ (F.L0 ++ owns g)) := fun {u} => off_upd (List.mem_append_left _ (List.mem_cons_self ..))
          refine ⟨rs.map V.ref, s4.l hws, by rw [List.length_map, hacc.length]; exact q4.1, rs ++ [p], acc ++ [row], J4.hid_upd (List.mem_append_left _ (List.mem_cons_self ..)) nF, sm_upd (e'.trans s4) (NewTo.none hD), ?_, ?_, fun r hr => ?_, nd2, ?_, q4.2⟩
          · rw [upd_same, List.map_append]
            rfl
          · rw [ho]
            refine TabR.snoc (by rw [upd_ne hpD]; exact hp) (ha.mono (sm_sub fun a z => ?_)) (hacc.imp vis fun r hr vs' h => ?_)
            · rw [ho2, how]
              rcases List.mem_append.mp z with z | z
              · rcases List.mem_cons.mp z with rfl | z
                · exact List.mem_cons_of_mem _ (List.mem_append_left _ (List.mem_append_left _ (List.mem_cons_self ..)))
                · rcases List.mem_append.mp z with z | z
                  · exact List.mem_cons_of_mem _ (List.mem_append_left _ (List.mem_append_left _ (List.mem_cons_of_mem _ z)))
                  · rw [List.mem_singleton.mp z]
                    exact List.mem_cons_self ..
              · refine List.mem_cons_of_mem _ ?_
                rw [List.append_assoc]
                exact List.mem_append_right _ z
            · rw [upd_ne fun z => (List.nodup_cons.mp nd).1 (by rw [← z]; exact hr)]
              exact s4.l h
          · rcases List.mem_append.mp hr with hr | hr
            · exact hrs r hr
            · rw [List.mem_singleton.mp hr]
              exact hn4.back (e'.trans s3)
          · rw [ho]
            exact st.trans vis
        · exact q4.elim
    · have : i = items.length := by omega
      subst this
      rw [List.drop_length] at q
      exact .inl ⟨wk.stop H' _ st, k (.v .ft (.list (acc.map PyData.list))) _ _ (e1.trans e') ⟨D, rs, acc, rfl, rfl, hnD.back e1, fun r hr => (hrs r hr).back e1, nd, hws, hacc⟩ q⟩
theorem compF_map {α : Type} {inj : α → PyData} {f : α → List PyData} {t : Tgt} {pe : GE} {gw : Gm} {PX : Er → Prop} {k : List (List PyData) → Prop} (gs : α → Gm) (as : List α) (ht : ∀ a, a ∈ as → ∀ Q : Gm → Prop, Q (gs a) → pTgt t (inj a) gw Q) (hl : as.length ≤ 100000)
    (he : ∀ a, a ∈ as → ∀ P : List PyData → Prop, P (f a) → pe (gs a) PX fun r => match r with
      | .v .fr (.list row) => P row
      | _ => False) (hk : k (as.map f)) : CompF t pYes pe gw PX k [] (as.map inj) := by
  suffices ∀ (as' : List α) (acc : List (List PyData)), (∀ a, a ∈ as' → a ∈ as) → acc.length + as'.length ≤ 100000 → k (acc ++ as'.map f) → CompF t pYes pe gw PX k acc (as'.map inj) from this as [] (fun _ z => z) (by simpa using hl) (by simpa using hk)
  intro as'
  induction as' with
  | nil => intro acc _ _ h; simpa [CompF] using h
  | cons a as' ih =>
    intro acc hm hl hk
    refine ht a (hm a (.head _)) _ ⟨fun _ => ?_, fun z => by cases z⟩
    refine he a (hm a (.head _)) (fun d => acc.length < sizeLine ∧ CompF t pYes pe gw PX k (acc ++ [d]) (as'.map inj)) ⟨small (by rw [List.length_cons] at hl; omega), ih _ (fun b hb => hm b (.tail _ hb)) (by rw [List.length_cons] at hl; simp; omega) ?_⟩
    rw [List.append_assoc]
    exact hk
theorem mapL_inj {a b : List (List PyData)} : (a.map PyData.list = b.map PyData.list) ↔ a = b := by
  constructor
  · intro h
    induction a generalizing b with
    | nil => cases b with
      | nil => rfl
      | cons _ _ => cases h
    | cons x xs ih => cases b with
      | nil => cases h
      | cons y ys =>
        simp only [List.map_cons, List.cons.injEq, PyData.list.injEq] at h
        rw [h.1, ih h.2]
  · exact congrArg _
end
end PV

namespace PV
open PySem PySem.Spec PyProof.Rows L2 Cm
open GX (Sm)
section
variable {K : PySem.W.Frag} {Ps : List Addr} {W : WX} {F : Fr} {g : Gm} {σ : L2.St} {H H1 H2 : Hp}
theorem ownsOf_no : ownsOf none = [] := rfl
theorem ownsOf_dat {d : PyData} : ownsOf (some (.dat d)) = [] := rfl
theorem ownsOf_obj {A : Asr} : ownsOf (some (.obj A)) = [] := rfl
theorem ownsOf_own {p : Addr} {xs : List PyData} : ownsOf (some (.own p xs)) = [p] := rfl
theorem ownsOf_dit {p : Addr} {ks : List (List Key)} : ownsOf (some (.dit p ks)) = [p] := rfl
theorem ownsOf_dic {p : Addr} {kvs : List (Key × PyData)} : ownsOf (some (.dic p kvs)) = [p] := rfl
theorem ownsOf_tab {p : Addr} {rs : List Addr} {rows : List (List PyData)} : ownsOf (some (.tab p rs rows)) = p :: rs := rfl
/-! ##### methods of lists that give a value -/
def LMV (K : PySem.W.Frag) (Ps : List Addr) (r : V → List V → Hp → VK → Prop) (pr : List PyData → List Rs → (Rs → Prop) → Prop) : Prop := ∀ F g σ H H1 t ds v rs us Q PQ, Env K Ps F g σ H → Sm H H1 → RsR K F g H H1 v (.v t (.list ds)) → RsAll K F g H H1 us rs → pr ds rs PQ → (∀ r u H2, Sm H1 H2 → RsR K F g H H2 u r → PQ r → Q u H2) → r v us H1 Q
def pBMV (pr : List PyData → List Rs → (Rs → Prop) → Prop) (po : GE) (pa : GA) : GE := fun g PX Q => po g PX fun x => match x with
  | .v _ (.list ds) => pa g PX fun rs => pr ds rs Q
  | _ => False
theorem le_bmv {r : V → List V → Hp → VK → Prop} {pr : List PyData → List Rs → (Rs → Prop) → Prop} {to : TE} {ta : TA} {po : GE} {pa : GA} (hm : LMV K Ps r pr) (ho : LE K Ps W to po) (ha : LA K Ps W ta pa) : LE K Ps W (tBM K "list" r to ta) (pBMV pr po pa) := fun F g σ H Q PX PQ I w h k =>
  ho F g σ H _ PX _ I w h fun x v H1 e1 r1 h1 => by
    split at h1
    · next t ds =>
      obtain ⟨p, vs, rfl, hp, _⟩ := r1.items I e1
      refine ⟨.inl ⟨rfl, _, SqL.of hp⟩, ha F g σ H1 _ PX _ (I.step e1) (w.step e1) h1 fun rs us H2 e2 r2 h2 => ?_⟩
      exact hm F g σ H H2 t ds _ rs us Q PQ I (e1.trans e2) (r1.step e1 e2) (r2.back e1) h2 fun r u H3 e3 r3 h3 => k r u H3 ((e1.trans e2).trans e3) r3 h3
    · exact h1.elim
/-- == of plain data -/
def eqD : PyData → PyData → Bool
  | .none, .none => true
  | .bool a, .bool b => a == b
  | .bool a, .int b => (if a then 1 else 0) == b
  | .int a, .bool b => a == (if b then 1 else 0)
  | .int a, .int b => a == b
  | .str a, .str b => a == b
  | _, _ => false
theorem eqV_D {v u : V} {d e : PyData} (h1 : Rp K H v d) (h2 : Rp K H u e) (f1 : flatD d = true) (f2 : flatD e = true) : eqV v u = eqD d e := by
  cases h1 <;> cases h2 <;> first
    | rfl
    | (cases f1; done)
    | (cases f2; done)
theorem flat_VD {v : V} {d : PyData} (h : Rp K H v d) (f : flatD d = true) : flatV v = true := by
  cases h <;> first
    | rfl
    | (cases f; done)
theorem RpAll.flatV : ∀ {vs : List V} {ds : List PyData}, RpAll K H vs ds → ds.all flatD = true → vs.all L2.flatV = true
  | _, _, .nil, _ => rfl
  | _, _, .cons h r, f => by
    rw [List.all_cons, Bool.and_eq_true] at f ⊢
    exact ⟨flat_VD h f.1, RpAll.flatV r f.2⟩
theorem RpAll.count {u : V} {e : PyData} (h2 : Rp K H u e) (f2 : flatD e = true) : ∀ {vs : List V} {ds : List PyData}, RpAll K H vs ds → ds.all flatD = true → (vs.countP fun z => eqV z u) = ds.countP fun d => eqD d e
  | _, _, .nil, _ => rfl
  | _, _, .cons h r, f => by
    rw [List.all_cons, Bool.and_eq_true] at f
    rw [List.countP_cons, List.countP_cons, RpAll.count h2 f2 r f.2, eqV_D h h2 f.1 f2]
def pCount : List PyData → List Rs → (Rs → Prop) → Prop := fun ds rs Q => match rs with
  | [.v _ d] => flatD d = true ∧ ds.all flatD = true ∧ Q (.v .dat (.int ((ds.countP fun e => eqD e d : Nat) : Int)))
  | _ => False
theorem lm_count : LMV K Ps (LCN.rCountL K) pCount := by
  intro F g σ H H1 t ds v rs us Q PQ I e r1 r2 h k
  unfold pCount at h
  split at h
  · next t2 d =>
    obtain ⟨f1, f2, q⟩ := h
    obtain ⟨u, rfl, ru⟩ := rs1 r2
    obtain ⟨p, vs, rfl, hp, ha, _⟩ := r1.items I e
    have hu := ru.bor I e
    refine ⟨p, vs, u, rfl, rfl, SqL.of hp, flat_VD hu f1, ha.flatV f2, k _ _ _ (Sm.refl H1) (rs_dat ?_) q⟩
    rw [ha.count hu f1 f2]
    exact .int _
  · exact h.elim
def pIndex : List PyData → List Rs → (Rs → Prop) → Prop := fun ds rs Q => match rs with
  | [.v _ d] => flatD d = true ∧ ds.all flatD = true ∧ ∃ (j : Nat) (z : PyData), ds[j]? = some z ∧ eqD z d = true ∧ (∀ (m : Nat) (z' : PyData), m < j → ds[m]? = some z' → eqD z' d = false) ∧ Q (.v .dat (.int (j : Int)))
  | _ => False
theorem all_at {ds : List PyData} (f : ds.all flatD = true) {j : Nat} {z : PyData} (h : ds[j]? = some z) : flatD z = true := List.all_eq_true.mp f z (List.mem_of_getElem? h)
theorem lm_index : LMV K Ps (rIndex K) pIndex := by
  intro F g σ H H1 t ds v rs us Q PQ I e r1 r2 h k
  unfold pIndex at h
  split at h
  · next t2 d =>
    obtain ⟨f1, f2, j, z, hz, hzd, hno, q⟩ := h
    obtain ⟨u, rfl, ru⟩ := rs1 r2
    obtain ⟨p, vs, rfl, hp, ha, _⟩ := r1.items I e
    have hu := ru.bor I e
    obtain ⟨y, hy, ry⟩ := ha.get hz
    refine ⟨p, vs, u, j, y, rfl, rfl, SqL.of hp, flat_VD hu f1, ha.flatV f2, hy, by rw [eqV_D ry hu (all_at f2 hz) f1]; exact hzd, fun m z' hm hz' => ?_, k _ _ _ (Sm.refl H1) (rs_dat (.int _)) q⟩
    obtain ⟨d', hd', rd'⟩ := ha.getV hz'
    rw [eqV_D rd' hu (all_at f2 hd') f1]
    exact hno m d' hm hd'
  · exact h.elim
end
end PV

namespace PV
open PySem PySem.Spec PyProof.Rows L2 Cm
open GX (Sm)
section
variable {K : PySem.W.Frag} {Ps : List Addr} {W : WX} {F : Fr} {g : Gm} {σ : L2.St} {H H1 H2 : Hp}
/-! ##### methods of texts with one argument; join; list(zip(a, b)) -/
def LMS (K : PySem.W.Frag) (Ps : List Addr) (r : V → List V → Hp → VK → Prop) (pr : Str → Rs → (Rs → Prop) → Prop) : Prop := ∀ F g σ H H1 a y w Q PQ, Env K Ps F g σ H → Sm H H1 → RsR K F g H H1 w y → pr a y PQ → (∀ r u H2, Sm H1 H2 → RsR K F g H H2 u r → PQ r → Q u H2) → r (.str a) [w] H1 Q
def pM1 (pr : Str → Rs → (Rs → Prop) → Prop) (po pe : GE) : GE := fun g PX Q => po g PX fun x => match x with
  | .v _ (.str a) => pe g PX fun y => pr a y Q
  | _ => False
theorem le_m1 {r : V → List V → Hp → VK → Prop} {pr : Str → Rs → (Rs → Prop) → Prop} {ta tb : TE} {pa pb : GE} (hm : LMS K Ps r pr) (ha : LE K Ps W ta pa) (hb : LE K Ps W tb pb) : LE K Ps W (tM1 r ta tb) (pM1 pr pa pb) := fun F g σ H Q PX PQ I w h k =>
  ha F g σ H _ PX _ I w h fun x v H1 e1 r1 h1 => by
    split at h1
    · next t a =>
      cases r1.rp I e1
      exact ⟨⟨a, rfl⟩, hb F g σ H1 _ PX _ (I.step e1) (w.step e1) h1 fun y u H2 e2 r2 h2 => hm F g σ H H2 a y u Q PQ I (e1.trans e2) (r2.back e1) h2 fun r u H3 e3 r3 h3 => k r u H3 ((e1.trans e2).trans e3) r3 h3⟩
    · exact h1.elim
theorem RpAll.strs : ∀ {vs : List V} {ys : List Str}, RpAll K H vs (ys.map PyData.str) → vs = ys.map V.str
  | [], [], _ => rfl
  | v :: vs, y :: ys, .cons h r => by
    cases h
    rw [RpAll.strs r]
    rfl
def pJoin : Str → Rs → (Rs → Prop) → Prop := fun a y Q => match y with
  | .v _ (.list ds) => ∃ ys : List Str, ds = ys.map PyData.str ∧ (ys.map (·.length)).sum + ys.length * a.length ≤ 16777216 ∧ Q (.v .dat (.str (Txt.join a ys)))
  | .v _ (.tuple ds) => ∃ ys : List Str, ds = ys.map PyData.str ∧ (ys.map (·.length)).sum + ys.length * a.length ≤ 16777216 ∧ Q (.v .dat (.str (Txt.join a ys)))
  | _ => False
theorem lm_join : LMS K Ps (fun x xs H Q => ∃ a p, ∃ ys : List Str, x = .str a ∧ xs = [V.ref p] ∧ (SqL K H p (ys.map V.str) ∨ SqT K H p (ys.map V.str)) ∧ (ys.map (·.length)).sum + ys.length * a.length ≤ 16777216 ∧ Q (.str (Txt.join a ys)) H) pJoin := by
  intro F g σ H H1 a y w Q PQ I e ry h k
  unfold pJoin at h
  split at h
  · next t2 ds =>
    obtain ⟨ys, rfl, hz, q⟩ := h
    obtain ⟨p, vs, rfl, hp, h1, _⟩ := ry.items I e
    have hv := h1.strs
    subst hv
    exact ⟨a, p, ys, rfl, rfl, .inl (SqL.of hp), hz, k _ _ _ (Sm.refl H1) (rs_dat (.str _)) q⟩
  · next t2 ds =>
    obtain ⟨ys, rfl, hz, q⟩ := h
    obtain ⟨p, vs, rfl, hp, h1, _⟩ := ry.itemsT I e
    have hv := h1.strs
    subst hv
    exact ⟨a, p, ys, rfl, rfl, .inr hp, hz, k _ _ _ (Sm.refl H1) (rs_dat (.str _)) q⟩
  · exact h.elim
/-! f-strings -/
def pJs : List GE → Str → Gm → (Er → Prop) → (Str → Prop) → Prop
  | [], acc, _, _, Q => Q acc
  | p :: ps, acc, g, PX, Q => p g PX fun x => match x with
    | .v _ (.str y) => (acc ++ y).length ≤ sizeLine ∧ pJs ps (acc ++ y) g PX Q
    | _ => False
inductive LJ (K : PySem.W.Frag) (Ps : List Addr) (W : WX) : List TE → List GE → Prop
  | nil : LJ K Ps W [] []
  | cons {t : TE} {p : GE} {ts : List TE} {ps : List GE} : LE K Ps W t p → LJ K Ps W ts ps → LJ K Ps W (t :: ts) (p :: ps)
theorem js_ok {ts : List TE} {ps : List GE} (h : LJ K Ps W ts ps) : ∀ (acc : Str) F g σ H (Q : Str → Hp → Prop) PX (PQ : Str → Prop), Env K Ps F g σ H → Wx K W F σ H PX → pJs ps acc g PX PQ → (∀ out H2, Sm H H2 → PQ out → Q out H2) → tJs ts acc σ H Q := by
  induction h with
  | nil => exact fun acc F g σ H Q PX PQ I w h k => k acc H (Sm.refl H) h
  | cons h _ ih =>
    intro acc F g σ H Q PX PQ I w q k
    refine h F g σ H _ PX _ I w q fun x v H1 e1 r1 h1 => ?_
    split at h1
    · next t y =>
      cases r1.rp I e1
      exact ⟨y, rfl, h1.1, ih (acc ++ y) F g σ H1 Q PX PQ (I.step e1) (w.step e1) h1.2 fun out H2 e2 q2 => k out H2 (e1.trans e2) q2⟩
    · exact h1.elim
def pFmt (pe : GE) : GE := fun g PX Q => pe g PX fun x => match x with
  | .v _ (.str y) => y.length ≤ sizeLine ∧ Q (.v .dat (.str y))
  | .v _ (.int i) => i.natAbs.log2 < 1920 ∧ Q (.v .dat (.str (toString i)))
  | _ => False
theorem le_fmt {te : TE} {pe : GE} (he : LE K Ps W te pe) : LE K Ps W (tFmt te) (pFmt pe) := fun F g σ H Q PX PQ I w h k =>
  he F g σ H _ PX _ I w h fun x v H1 e1 r1 h1 => by
    split at h1
    · next t y =>
      cases r1.rp I e1
      exact .inl ⟨y, rfl, h1.1, k (.v .dat (.str y)) _ H1 e1 (rs_dat (.str _)) h1.2⟩
    · next t i =>
      cases r1.rp I e1
      exact .inr ⟨i, rfl, h1.1, k (.v .dat (.str (toString i))) _ H1 e1 (rs_dat (.str _)) h1.2⟩
    · exact h1.elim
def pJoined (ps : List GE) : GE := fun g PX Q => pJs ps Str.empty g PX fun out => Q (.v .dat (.str out))
theorem le_joined {ts : List TE} {ps : List GE} (h : LJ K Ps W ts ps) : LE K Ps W (fun σ H Q => tJs ts Str.empty σ H fun out H1 => Q (.str out) H1) (pJoined ps) := fun F g σ H Q PX PQ I w q k =>
  js_ok h Str.empty F g σ H _ PX _ I w q fun out H2 e2 q2 => k (.v .dat (.str out)) _ H2 e2 (rs_dat (.str _)) q2
end
end PV

/-! ### a constant of the module that is a tuple of tuples; tuple.index -/
namespace CT2
open PySem PySem.Spec PyProof.Rows L2 Cm
def TyT (K : PySem.W.Frag) (r : Addr) : Prop := ∃ o, K.lookup r = some o ∧ o.cls = .type "tuple" ∧ o.dict = none
theorem tyT {K : PySem.W.Frag} {r : Addr} {H : Hp} (h : TyT K r) : tyV K "tuple" (.ref r) H := .inr (.inl ⟨rfl, h⟩)
def RowAt (K : PySem.W.Frag) (r : Addr) (row : List V) : Prop := (∀ H, SqT K H r row) ∧ TyT K r
def CTT (K : PySem.W.Frag) (mg : Str → Option Value) (x : Str) (rows : List (List V)) : Prop := ∃ (p : Addr) (rs : List Addr), mg x = some (.ref p) ∧ (∀ H, SqT K H p (rs.map V.ref)) ∧ Paired (RowAt K) rs rows
theorem ctt_get {α β : Type} {R : α → β → Prop} : ∀ {rs : List α} {rows : List β} {i : Nat} {row : β}, Paired R rs rows → rows[i]? = some row → ∃ r, rs[i]? = some r ∧ R r row
  | _, _, i, _, .nil, h => by simp at h
  | _, _, 0, _, .cons h r, e => by
    simp at e
    subst e
    exact ⟨_, rfl, h⟩
  | _, _, i + 1, _, .cons h r, e => by
    obtain ⟨s, h1, h2⟩ := ctt_get r (by simpa using e)
    exact ⟨s, by simpa using h1, h2⟩
theorem vals_refs : ∀ rs : List Addr, Vals (rs.map V.ref) (rs.map Value.ref)
  | [] => .nil
  | r :: rs => .cons rfl (vals_refs rs)
theorem row_mk {K : PySem.W.Frag} {p : Addr} {od : Option Addr} {its : Array Value} {n : Nat} {sl : Array (Option Value)} {xs : List V} (l : K.lookup p = some ⟨.type "tuple", od, .seq its n, sl⟩) (hv : Vals xs its.toList) (hs : xs.length ≤ sizeLine) : ∀ H, SqT K H p xs := fun H => by
  have e : its.size ≤ sizeLine := by
    rw [← Array.length_toList, ← hv.length]
    exact hs
  exact .inr ⟨_, its, n, l, rfl, rfl, e, hv⟩
theorem rowAt_mk {K : PySem.W.Frag} {p : Addr} {its : Array Value} {n : Nat} {sl : Array (Option Value)} {xs : List V} (l : K.lookup p = some ⟨.type "tuple", none, .seq its n, sl⟩) (hv : Vals xs its.toList) (hs : xs.length ≤ sizeLine) : RowAt K p xs := ⟨row_mk l hv hs, _, l, rfl, rfl⟩
theorem ctt_mk {K : PySem.W.Frag} {h : Heap} {mg : Str → Option Value} {x : Str} {p : Addr} {od : Option Addr} {its : Array Value} {n : Nat} {sl : Array (Option Value)} {rs : List Addr} {rows : List (List V)} (X : K.In h) (G : h.Ns mainGlobals mg) (a : PySem.W.nsIn K mainGlobals x = some (some (.ref p)))
    (l : K.lookup p = some ⟨.type "tuple", od, .seq its n, sl⟩) (e : its.toList = rs.map Value.ref) (hs : rs.length ≤ sizeLine) (hr : Paired (RowAt K) rs rows) : CTT K mg x rows :=
  ⟨p, rs, PySem.W.mg_of X G a, row_mk l (by rw [e]; exact vals_refs rs) (by rw [List.length_map]; exact hs), hr⟩
theorem pe_globTT {X : Cx} {x : Str} {rows : List (List V)} {pos : Pos} (hg : Gl X x) (h : CTT X.K X.mg x rows) (hd : (x == ("__debug__" : Str)) = false := by decide) :
    PE X (.Name x pos) (fun _ H Q => ∀ (p : Addr) (rs : List Addr), (∀ H', SqT X.K H' p (rs.map V.ref)) → (∀ (i : Nat) (row : List V), rows[i]? = some row → ∃ r : Addr, (rs.map V.ref)[i]? = some (V.ref r) ∧ (∀ H', SqT X.K H' r row) ∧ TyT X.K r) → Q (.ref p) H) := by
  obtain ⟨p, rs, hm, hs, hr⟩ := h
  refine ⟨fun pins s σ H Q I h => (pe_glob hg hm (v := .ref p) rfl hd).run pins s σ H Q I (h p rs hs fun i row e => ?_)⟩
  obtain ⟨r, h1, h2⟩ := ctt_get hr e
  exact ⟨r, by rw [List.getElem?_map, h1]; rfl, h2⟩
def rIndexT (K : PySem.W.Frag) : V → List V → Hp → VK → Prop := fun x xs H Q => ∃ (a : Addr) (ys : List V) (y : V) (j : Nat) (z : V), x = V.ref a ∧ xs = [y] ∧ SqT K H a ys ∧ flatV y = true ∧ ys.all flatV = true ∧ ys[j]? = some z ∧ eqV z y = true ∧
  (∀ (m : Nat) (z' : V), m < j → ys[m]? = some z' → eqV z' y = false) ∧ Q (.int (j : Nat)) H
theorem mt_indexT {X : Cx} : MtR X "tuple.index" (rIndexT X.K) := by
  intro pins s σ H x xs v us Q I rx rxs h
  obtain ⟨a, ys, y, j, z, rfl, rfl, hs, fy, fys, hz, hzj, hno, q⟩ := h
  cases rx
  cases rxs with
  | cons ry rt =>
    rename_i uy ut
    cases rt
    obtain ⟨its, rv, pl, hlen⟩ := I.tuple hs
    obtain ⟨⟨cls, dd, data, sl⟩, ho, hc, n, hd⟩ := pl
    simp only at hc hd
    subst hc hd
    obtain ⟨u, hu, ru⟩ := rv.get hz
    obtain ⟨hjl, hje⟩ := List.getElem?_eq_some_iff.mp hu
    have hvl := rv.length
    have hj : j < its.toArray.size := by simpa using hjl
    refine call_meets PySem.F.slot_tuple_index ⟨_, ho, rfl⟩ PySem.F.entry_tuple_index (PySem.F.args_tuple_index_2 _ _)
      (TI.tuple_indexAt a its.toArray n dd sl uy (eqU y) j hj ?_ ?_) ⟨ho, fun u' hu' => mem_eqAt ry fy rv fys u' (by simpa using hu'), ?_⟩
    · have e1 : its.toArray[j] = u := by simpa using hje
      rw [e1, eqU_of ru (flat_at fys hz)]
      exact hzj
    · intro m hm hmj
      have hml : m < its.length := by simpa using hm
      have hmy : m < ys.length := by omega
      have hy' : ys[m]? = some ys[m] := List.getElem?_eq_getElem hmy
      obtain ⟨u2, hu2, ru2⟩ := rv.get hy'
      obtain ⟨_, hme⟩ := List.getElem?_eq_some_iff.mp hu2
      have e1 : its.toArray[m] = u2 := by simpa using hme
      rw [e1, eqU_of ru2 (flat_at fys hy')]
      exact hno m _ hmj hy'
    · exact ⟨.int (j : Nat), H, I.tok _, ⟨_, rfl⟩, q⟩
end CT2

/-! ### range(a, b, c) as a value that is walked later -/
namespace RV
open PySem PySem.Spec PyProof.Rows L2 Cm
def RngO (p : Addr) (a b c : Int) : HO := .ext fun h => ∃ t u v, IsRange h p a b c t u v
def rRng3 : List V → Hp → VK → Prop := fun vs H Q => ∃ i j k, vs = [V.int i, .int j, .int k] ∧ k ≠ 0 ∧ k.natAbs < 1073741824 ∧ ∀ p, H p = none → Q (.ref p) (upd H p (RngO p i j k))
theorem cr_rng3 {X : Cx} : CallR X (.type "range") rRng3 := by
  intro pins s σ H vs us Q I r h
  obtain ⟨i, j, k, rfl, c0, c1, q⟩ := h
  cases r with
  | cons ri r =>
    obtain ⟨u2, u3, rfl, rj, rk⟩ := vals2 r
    obtain ⟨t, rfl⟩ := ri
    obtain ⟨u, rfl⟩ := rj
    obtain ⟨v, rfl⟩ := rk
    refine call_range_3 c0 ⟨.ref s.heap.objs.size, upd H s.heap.objs.size (RngO s.heap.objs.size i j k), I.laid (t' := s.toks) (fun b o e => Heap.get?_push_of_some _ e) (Nat.le_refl _) ?_, rfl, q _ (I.hok.fresh (Nat.le_refl _))⟩ (.inl (PyProof.noPylong_small c1))
    exact ⟨⟨t, u, v, Heap.get?_push_size _ rfl⟩, ⟨_, Heap.get?_push_size _ rfl⟩, fun h1 h2 ⟨t, u, v, e⟩ k => ⟨t, u, v, k _ e⟩⟩
def iRngV (te : TE) : TI := fun σ H R => te σ H fun v H1 => ∃ p i j k n, v = .ref p ∧ H1 p = some (RngO p i j k) ∧ RgC i j k n ∧ R (Itc i k n) H1
theorem pi_rngV {X : Cx} {tg e : Expr} {te : TE} (he : PE X e te) : PI X tg e (iRngV te) := by
  refine ⟨fun pins s σ H R I h => ?_⟩
  refine thn (he.run pins s σ H _ I h) fun v s1 ⟨x, H1, I1, r1, q1⟩ => ?_
  obtain ⟨p, i, j, k, n, e, hp, ⟨c0, c1, c2, c3⟩, q⟩ := q1
  subst e
  cases r1
  obtain ⟨⟨t, u, w, hr⟩, _⟩ := I1.hok p _ hp
  refine wpAny_pyIter_range hr c2 ?_
  refine pi_one (tk := s1.toks) I1 _ (turn_rangeC _ i k n) ?_ q
  have e1 : i + ((0 : Nat) : Int) * k = i := by simp
  have e2 : (n : Int) - ((0 : Nat) : Int) = Builtin.Range.rangeSize i j k := by rw [c3]; simp
  show IsRangeIter _ _ (i + ((0 : Nat) : Int) * k) ((n : Int) - ((0 : Nat) : Int)) k
  rw [e1, e2]
  exact Heap.get?_push_size _ rfl
end RV
/-! ### constants that are tuples of tuples: all that stands there -/
namespace CTP
open PySem PySem.Spec PyProof.Rows L2 Cm
def tGlobTT (K : PySem.W.Frag) (rows : List (List V)) : TE := fun _ H Q => ∀ (p : Addr) (rs : List Addr), (∀ H', SqT K H' p (rs.map V.ref)) → Paired (CT2.RowAt K) rs rows → Q (.ref p) H
theorem pe_globTT {X : Cx} {x : Str} {rows : List (List V)} {pos : Pos} (hg : Gl X x) (h : CT2.CTT X.K X.mg x rows) (hd : (x == ("__debug__" : Str)) = false := by decide) : PE X (.Name x pos) (tGlobTT X.K rows) := by
  obtain ⟨p, rs, hm, hs, hr⟩ := h
  exact ⟨fun pins s σ H Q I h => (pe_glob hg hm (v := .ref p) rfl hd).run pins s σ H Q I (h p rs hs hr)⟩
end CTP
namespace PV
open PySem PySem.Spec PyProof.Rows L2 Cm
open GX (Sm)
section
variable {K : PySem.W.Frag} {Ps : List Addr} {W : WX} {F : Fr} {g : Gm} {σ : L2.St} {H H1 H2 : Hp}
theorem rows_rp : ∀ {rs : List Addr} {rows : List (List V)}, (rows.all fun r => r.all flatV) = true → Paired (CT2.RowAt K) rs rows → RpAll K H (rs.map V.ref) (rows.map fun r => .tuple (r.map dV))
  | _, _, _, .nil => .nil
  | _, _, f, .cons h t => by
    rw [List.all_cons, Bool.and_eq_true] at f
    exact .cons (.tup (h.1 _) (rpAll_dV f.1)) (rows_rp f.2 t)
theorem le_globTT {rows : List (List V)} (h : (rows.all fun r => r.all flatV) = true) : LE K Ps W (CTP.tGlobTT K rows) (pC (.tuple (rows.map fun r => .tuple (r.map dV)))) := fun F g σ H Q PX PQ I _ q k p rs hp hr => k _ _ _ (Sm.refl H) (rs_dat (.tup (hp _) (rows_rp h hr))) q
/-! ##### a range as a value -/
def rngA (i j k : Int) : Asr where
  a := fun v H => ∃ p, v = .ref p ∧ H p = some (RV.RngO p i j k)
  mono := fun v H H' e ⟨p, q, h⟩ => ⟨p, q, e.keep p _ h fun ps z => by cases z⟩
  key := [i, j, k]
def pRngC : List Rs → (Rs → Prop) → Prop := fun rs Q => match rs with
  | [.v _ (.int i), .v _ (.int j), .v _ (.int k)] => k ≠ 0 ∧ k.natAbs < 1073741824 ∧ Q (.obj (rngA i j k))
  | _ => False
theorem lc_rng3 : LC K Ps RV.rRng3 pRngC := by
  intro F g σ H H1 rs vs Q PQ I e ra h k
  unfold pRngC at h
  split at h
  · next t i t2 j t3 c =>
    cases ra with
    | cons a ra =>
      obtain ⟨u, v, rfl, b, d⟩ := rs2 ra
      cases a.rp I e
      cases b.rp I e
      cases d.rp I e
      refine ⟨i, j, c, rfl, h.1, h.2.1, fun p hp => ?_⟩
      have nn := new_in (o := RV.RngO p i j c) I e hp
      exact k (.obj (rngA i j c)) (.ref p) _ nn.1 ⟨p, rfl, by rw [off_ne nn.2.2.1]; exact upd_same⟩ h.2.2
  · exact h.elim
def pRngV (pa : GE) : GI := fun g PX Q => pa g PX fun x => match x with
  | .obj A => ∃ i j k n, A = rngA i j k ∧ RgC i j k n ∧ Q (rgC i k n)
  | _ => False
theorem li_rngV {te : TE} {pa : GE} (ha : LE K Ps W te pa) : LI K Ps W (RV.iRngV te) (pRngV pa) := fun F g σ H R PX PQ I w h k =>
  ha F g σ H _ PX _ I w h fun x v H1 e1 r1 h1 => by
    split at h1
    · obtain ⟨i, j, c, n, rfl, hn, q⟩ := h1
      obtain ⟨p, rfl, hp⟩ := r1
      refine ⟨p, i, j, c, n, rfl, (off_some hp).2, hn, k _ _ _ e1 ?_ q⟩
      refine wok_at walk_rangeC (by simp [rgC]) (fun _ _ _ => trivial) fun i H L x H' hi _ _ y => ?_
      obtain ⟨rfl, rfl⟩ := y
      exact ⟨Sm.refl _, _, rgC_get hi, .int _⟩
    · exact h1.elim
/-! ##### zip of two tuples -/
theorem walk_zipT {a b : Addr} {xs ys : List V} {n : Nat} (hn : n = min xs.length ys.length) : Walk (RZ.ItzT K a b) n (fun H => SqT K H a xs ∧ SqT K H b ys) (YPair (fun i => xs[i]?) (fun i => ys[i]?)) := by
  subst hn
  refine ⟨fun i _ hi q => ?_, fun _ q => ⟨xs, ys, q.1, q.2, by omega⟩, fun i H v H' _ q y => ?_⟩
  · have h1 : i < xs.length := by omega
    have h2 : i < ys.length := by omega
    exact ⟨xs, ys, xs[i], ys[i], q.1, q.2, by simp [h1], by simp [h2]⟩
  · obtain ⟨T, x, z, h1, h2, h3, h4, h5⟩ := y
    exact ⟨T, x, z, h1, h2, h3, h4 xs q.1, h5 ys q.2⟩
def pZipT (pa : GA) : GI := fun g PX Q => pa g PX fun rs => match rs with
  | [.v t (.tuple ds), .v u (.tuple es)] => t.ok = true ∧ u.ok = true ∧ Q (zipD ds es)
  | _ => False
theorem li_zipT {ta : TA} {pa : GA} (ha : LA K Ps W ta pa) : LI K Ps W (RZ.iZipA K ta) (pZipT pa) := fun F g σ H R PX PQ I w h k =>
  ha F g σ H _ PX _ I w h fun rs vs H1 e1 r1 h1 => by
    split at h1
    · next t ds u es =>
      obtain ⟨v, u, rfl, ra, rb⟩ := rs2 r1
      have q := ra.dat I e1 h1.1
      have q2 := rb.dat I e1 h1.2.1
      cases q with
      | @tup a vs _ hp hr =>
        cases q2 with
        | @tup b us _ hp2 hr2 =>
          refine ⟨a, b, vs, us, rfl, .inr ⟨sm_hide.tup hp, sm_hide.tup hp2, k _ _ _ e1 ?_ h1.2.2⟩⟩
          refine wok_at (walk_zipT (K := K) (a := a) (b := b) (xs := vs) (ys := us) rfl) (by rw [hr.length, hr2.length]; simp [zipD]) (fun H L e => ⟨sm_hide.tup (e.tup hp), sm_hide.tup (e.tup hp2)⟩) fun i H L x H' hi e hL y => ?_
          obtain ⟨T, x, z, rfl, hT, rfl, h1, h2⟩ := y
          obtain ⟨d, h3, h4⟩ := hr.getV h1
          obtain ⟨d2, h5, h6⟩ := hr2.getV h2
          obtain ⟨s, q⟩ := rp_pair hT hL (h4.mono e) (h6.mono e)
          exact ⟨s, _, by unfold zipD; rw [List.getElem?_zipWith, h3, h5], q⟩
    · exact h1.elim
/-! ##### methods of texts -/
def pSt1 (f : Str → Str → PyData) : Str → Rs → (Rs → Prop) → Prop := fun a y Q => match y with
  | .v _ (.str b) => Q (.v .dat (f a b))
  | _ => False
theorem lm_str {f : Str → Str → V} (hf : ∀ a b, flatV (f a b) = true := by intros; rfl) : LMS K Ps (fun x xs H Q => ∃ a b, x = .str a ∧ xs = [.str b] ∧ Q (f a b) H) (pSt1 fun a b => dV (f a b)) := by
  intro F g σ H H1 a y w Q PQ I e ry h k
  unfold pSt1 at h
  split at h
  · cases ry.rp I e
    exact ⟨_, _, rfl, rfl, k _ _ _ (Sm.refl H1) (rs_dat (rp_dV (hf _ _))) h⟩
  · exact h.elim
def pM0 (C : Str → Prop) (f : Str → PyData) (po : GE) : GE := fun g PX Q => po g PX fun x => match x with
  | .v _ (.str a) => C a ∧ Q (.v .dat (f a))
  | _ => False
theorem le_m0 {C : Str → Prop} {f : Str → V} {ta : TE} {pa : GE} (ha : LE K Ps W ta pa) (hf : ∀ a, flatV (f a) = true := by intros; rfl) : LE K Ps W (tM0 (fun x xs H Q => ∃ a, x = .str a ∧ xs = [] ∧ C a ∧ Q (f a) H) ta) (pM0 C (fun a => dV (f a)) pa) := fun F g σ H Q PX PQ I w h k =>
  ha F g σ H _ PX _ I w h fun x v H1 e1 r1 h1 => by
    split at h1
    · next t a =>
      cases r1.rp I e1
      exact ⟨⟨a, rfl⟩, a, rfl, rfl, h1.1, k _ _ _ e1 (rs_dat (rp_dV (hf _))) h1.2⟩
    · exact h1.elim
/-! ##### parts of the law's script -/
def pSlScr (K : PySem.W.Frag) (pa : GE) (lo hi : GO) : GE := fun g PX Q => pa g PX fun x => lo g PX fun l => hi g PX fun u => match x with
  | .obj A => A = scr K A.key ∧ Q (.v .fr (.list ((cutL A.key l u).map PyData.int)))
  | _ => False
theorem le_slScr {te : TE} {tl th : TO} {pa : GE} {lo hi : GO} (ha : LE K Ps W te pa) (hl : LO K Ps W tl lo) (hh : LO K Ps W th hi) : LE K Ps W (tSl (rSlL K) te tl th) (pSlScr K pa lo hi) := fun F g σ H Q PX PQ I w h k =>
  ha F g σ H _ PX _ I w h fun x v H1 e1 r1 h1 => hl F g σ H1 _ PX _ (I.step e1) (w.step e1) h1 fun l H2 e2 h2 => hh F g σ H2 _ PX _ (I.step (e1.trans e2)) (w.step (e1.trans e2)) h2 fun u H3 e3 h3 => by
    have e := (e1.trans e2).trans e3
    have r := r1.step e1 (e2.trans e3)
    split at h3
    · next A =>
      obtain ⟨hA, q⟩ := h3
      generalize A.key = ns at *
      subst hA
      obtain ⟨p, rfl, hp⟩ := r
      have hp : SqL K H3 p (ns.map V.int) := sm_hide.seq hp
      refine ⟨p, _, rfl, hp, fun q2 hq => k _ _ _ (e.trans (new_in (o := .lst (cutV (ns.map V.int) l u)) I e hq).1) ?_ q⟩
      rw [← cutD_map]
      exact rs_fr I e hq (RpAll.ints ns).cut
    · exact h3.elim
/-! ##### lengths of f-strings -/
theorem log_le {e : Int} (h : e.natAbs ≤ 1000000) : e.natAbs.log2 < 1920 := by
  by_cases h0 : e.natAbs = 0
  · rw [h0]
    decide
  · exact (Nat.log2_lt h0).mpr (Nat.lt_of_le_of_lt h (Nat.lt_of_lt_of_le (by decide : 1000000 < 2 ^ 20) (Nat.pow_le_pow_right (by decide) (by decide))))
theorem tlen {i : Int} (h : i.natAbs ≤ 1000000) : (PySem.Str.ofString (toString i)).length ≤ 2000 := by
  have := PyProof.Rows.int_text_len_1921 (log_le h)
  omega
/-- f"{i}.." -/
theorem fmt1 {i : Int} (h : i.natAbs ≤ 1000000) {b : Str} (hb : b.length ≤ 1000) : i.natAbs.log2 < 1920 ∧ (Str.empty ++ PySem.Str.ofString (toString i)).length ≤ sizeLine ∧ (Str.empty ++ PySem.Str.ofString (toString i) ++ b).length ≤ sizeLine := by
  have h1 := tlen h
  have h0 : Str.empty.length = 0 := rfl
  refine ⟨log_le h, ?_, ?_⟩ <;> rw [sizeLine_eq] <;> simp only [PySem.Str.length_append] <;> omega
/-- f"..{i}.." -/
theorem fmt2 {i : Int} (h : i.natAbs ≤ 1000000) {a b : Str} (ha : a.length ≤ 1000) (hb : b.length ≤ 1000) : (Str.empty ++ a).length ≤ sizeLine ∧ i.natAbs.log2 < 1920 ∧ (Str.empty ++ a ++ PySem.Str.ofString (toString i)).length ≤ sizeLine ∧ (Str.empty ++ a ++ PySem.Str.ofString (toString i) ++ b).length ≤ sizeLine := by
  have h1 := tlen h
  have h0 : Str.empty.length = 0 := rfl
  refine ⟨?_, log_le h, ?_, ?_⟩ <;> rw [sizeLine_eq] <;> simp only [PySem.Str.length_append] <;> omega
/-! ##### calls within a suite -/
theorem le_callH {sp : Sp} {psp : PSp} {ta : TA} {pa : GA} (ok : SpOk K Ps sp psp) (ha : LA K Ps W ta pa) : LE K Ps W (tCallS sp (fun _ => E0) ta) (pCall0 psp pa) := fun F g σ H Q PX PQ I w h k =>
  ha F g σ H _ PX _ I w h fun rs vs H1 e1 r1 h1 => call_of ok I e1 r1 h1 k fun _ _ _ _ _ _ z => z.elim
variable {P : Program} {w : World} {mg : Str → Option Value} {base : Heap} {x qual : Str} {st : Stmt} {f : Addr} {fd : FuncData} {N ps : List Str} {k : Nat} {psp : PSp}
theorem pv_defH (d : Dn K mg x st ps) (S : FnScope N ps (defScope st)) (len : ∀ as PX PQ, psp as PX PQ → as.length = ps.length)
    (hb : ∀ (f : Addr) (cdv : Value) (A : Around) (outer : List PySem.Env) (s : Shared) (H : Hp) (E : XK) (p : Addr × Obj), L2H.Hot1 A p → L2H.RoomH k (A.deeper (envOfC x (defScope st) s.heap.objs.size f cdv)) →
      ∃ t q, PSs (L2H.cxH CX0 P w K mg base N x (defScope st) f cdv A outer s H E p) (defBody st) t ∧ LS K Ps W0 t q ∧ ∀ as PX PQ, psp as PX PQ → q (ends PQ fun _ => False) (startG N.length as)) :
    OkH P w K mg base CX0 (k + 1) x ps (spP K Ps psp) := by
  refine okH_of d S (fun vs H Q E h => ?_) fun f cdv A outer s H vs Q E p hot hr h => ?_
  · obtain ⟨L0, as, PX, PQ, h1, h2, h3, h4, h5, h6⟩ := h
    rw [h2.length]
    exact len as PX PQ h4
  · obtain ⟨L0, as, PX, PQ, h1, h2, h3, h4, h5, h6⟩ := h
    obtain ⟨t, q, ht, hl, hp⟩ := hb f cdv A outer s H E p hot hr
    exact ⟨t, ht, hl ⟨H, L0⟩ _ _ H _ _ (start_ok h1 h2 h3) (ends_ok0 h5) (hp as PX PQ h4)⟩
end
end PV

namespace PV
open PySem PySem.Spec PyProof.Rows L2 Cm
open GX (Sm)
/-! #### dicts of one's own -/
def getK (kvs : List (Key × PyData)) (k : Key) : Option PyData := (kvs.find? fun kv => decide (kv.1 = k)).map (·.2)
def setK (kvs : List (Key × PyData)) (k : Key) (v : PyData) : List (Key × PyData) :=
  if (kvs.any fun kv => decide (kv.1 = k)) = true then kvs.map (fun kv => if kv.1 = k then (kv.1, v) else kv) else kvs ++ [(k, v)]
def keyD : PyData → Option Key
  | .int i => some (.inl i)
  | .str s => some (.inr s)
  | _ => none
section
variable {K : PySem.W.Frag} {Ps : List Addr} {W : WX} {F : Fr} {g : Gm} {σ : L2.St} {H H1 H2 : Hp}
theorem keyD_ok {y : V} {d : PyData} {k : Key} (h : Rp K H y d) (e : keyD d = some k) : y = kV k := by
  cases h <;> (simp [keyD] at e) <;> subst e <;> rfl
theorem KvR.mono {V0 V1 : Hp} (e : Sm V0 V1) {vs : List (Key × V)} {kvs : List (Key × PyData)} (h : KvR K V0 vs kvs) : KvR K V1 vs kvs := L2.Paired.mapP h fun _ _ z => ⟨z.1, z.2.mono e⟩
theorem KvR.length {V0 : Hp} {vs : List (Key × V)} {kvs : List (Key × PyData)} (h : KvR K V0 vs kvs) : vs.length = kvs.length := by
  unfold KvR at h
  induction h with
  | nil => rfl
  | cons _ _ ih => simp [ih]
theorem KvR.get {V0 : Hp} {k : Key} {vs : List (Key × V)} {kvs : List (Key × PyData)} (h : KvR K V0 vs kvs) : match getK kvs k with
    | some d => ∃ v, valV vs k = some v ∧ Rp K V0 v d
    | none => valV vs k = none := by
  unfold KvR at h
  induction h with
  | nil => rfl
  | @cons a b vs kvs hab _ ih =>
    obtain ⟨ka, va⟩ := a
    obtain ⟨kb, vb⟩ := b
    obtain ⟨e1, e2⟩ := hab
    simp only at e1 e2
    subst e1
    by_cases z : ka = k
    · simp only [getK, valV, List.find?_cons, z, decide_true, Option.map_some]
      exact ⟨_, rfl, e2⟩
    · have z2 : decide (ka = k) = false := decide_eq_false z
      have e1 : getK ((ka, vb) :: kvs) k = getK kvs k := by simp [getK, List.find?_cons, z2]
      have e2 : valV ((ka, va) :: vs) k = valV vs k := by simp [valV, List.find?_cons, z2]
      rw [e1, e2]
      exact ih
theorem KvR.any {V0 : Hp} {k : Key} {vs : List (Key × V)} {kvs : List (Key × PyData)} (h : KvR K V0 vs kvs) : (vs.any fun kv => decide (kv.1 = k)) = kvs.any fun kv => decide (kv.1 = k) := by
  unfold KvR at h
  induction h with
  | nil => rfl
  | cons hab _ ih => simp only [List.any_cons, ih, hab.1]
theorem KvR.putIn {V0 : Hp} {k : Key} {v : V} {d : PyData} (hv : Rp K V0 v d) {vs : List (Key × V)} {kvs : List (Key × PyData)} (h : KvR K V0 vs kvs) : KvR K V0 (vs.map fun kv => if kv.1 = k then (kv.1, v) else kv) (kvs.map fun kv => if kv.1 = k then (kv.1, d) else kv) := by
  unfold KvR at h ⊢
  induction h with
  | nil => exact .nil
  | @cons a b _ _ hab _ ih =>
    obtain ⟨e1, e2⟩ := hab
    rw [List.map_cons, List.map_cons]
    refine .cons ?_ ih
    by_cases z : a.1 = k
    · rw [if_pos z, if_pos (e1 ▸ z)]
      exact ⟨e1, hv⟩
    · rw [if_neg z, if_neg (e1 ▸ z)]
      exact ⟨e1, e2⟩
theorem KvR.putOut {V0 : Hp} {k : Key} {v : V} {d : PyData} (hv : Rp K V0 v d) {vs : List (Key × V)} {kvs : List (Key × PyData)} (h : KvR K V0 vs kvs) : KvR K V0 (vs ++ [(k, v)]) (kvs ++ [(k, d)]) := by
  unfold KvR at h ⊢
  induction h with
  | nil => exact .cons ⟨rfl, hv⟩ .nil
  | cons hab _ ih => exact .cons hab ih
theorem KvR.put {V0 : Hp} {k : Key} {v : V} {d : PyData} (hv : Rp K V0 v d) {vs : List (Key × V)} {kvs : List (Key × PyData)} (h : KvR K V0 vs kvs) : KvR K V0 (putK vs k v) (setK kvs k d) := by
  unfold putK setK
  rw [h.any]
  split
  · exact h.putIn hv
  · exact h.putOut hv
/-! {} given to a name -/
def pDNew (i : Nat) : GS := fun PD g => ∀ p, PD.nx (g.set i (some (.dic p [])))
theorem ls_dnew {i : Nat} : LS K Ps W (tAsg tDNewK (gName i)) (pDNew i) := fun F D σ H PD g I E h => by
  intro p hp
  have hn := NewTo.none hp
  refine E.nx _ _ _ (I.set_new (x := .dic p []) (sm_new (Sm.refl H) hp) (fun a ha => ?_) ?_ ⟨rfl, [], upd_same, Paired.nil⟩) (h p)
  · rw [List.mem_singleton.mp ha]
    exact ⟨hn, _, upd_same, fun _ z => by cases z⟩
  · exact List.nodup_cons.mpr ⟨by simp, List.nodup_nil⟩
/-! d[k] = v -/
def pDPut (j : Nat) (pv pk : GE) : GS := fun PD g => match g[j]? with
  | some (some (.dic p kvs)) => pv g (PD.ex g) fun r => pk g (PD.ex g) fun y => match r, y with
    | .v t d, .v _ yd => t.ok = true ∧ ∃ k, keyD yd = some k ∧ kvs.length < sizeLine ∧ PD.nx (g.set j (some (.dic p (setK kvs k d))))
    | _, _ => False
  | _ => False
theorem ls_dput {j : Nat} {tk tv : TE} {pk pv : GE} (hk : LE K Ps W tk pk) (hv : LE K Ps W tv pv) : LS K Ps W (sDPut (tVar j) tk tv) (pDPut j pv pk) := fun F D σ H PD g I E h => by
  unfold pDPut at h
  split at h
  · next p kvs hg =>
    obtain ⟨u, hu, rfl, vs, hp, hkv⟩ := I.sl.get hg
    refine hv F g σ H _ _ _ I (E.wx I) h fun r v H1 e1 r1 h1 => ?_
    refine ⟨.ref p, hu, hk F g σ H1 _ _ _ (I.step e1) ((E.wx I).step e1) h1 fun y w H2 e2 r2 h2 => ?_⟩
    split at h2
    · next t d t2 yd =>
      obtain ⟨ok, k, ek, hl, q⟩ := h2
      have e12 := e1.trans e2
      have I2 := I.step e12
      have hp2 : H2 p = some (.dK vs) := e12.keep _ _ hp fun _ z => by cases z
      have hd : Rp K (off H2 (F.L0 ++ owns g)) v d := (r1.step e1 e2).dat I e12 ok
      have hkv2 : KvR K (off H2 (F.L0 ++ owns g)) vs kvs := hkv.mono (sm_off e12 fun _ z => .inl z)
      have hy := keyD_ok (r2.rp (I.step e1) e2) ek
      subst hy
      refine ⟨p, _, rfl, DPut.k hp2 (by rw [hkv.length]; exact hl), E.nx _ σ _ (I2.putAtO (x := .dic p (setK kvs k d)) (y := .dic p kvs) (u := .ref p) (fun _ z => by cases z) hg hu rfl (List.mem_cons_self ..) ⟨rfl, _, upd_same, hkv2.put hd⟩) q⟩
    · exact h2.elim
  · exact h.elim
/-! d.get(k, x) -/
def getR (kvs : List (Key × PyData)) (k : Key) (z : Rs) : Rs := match getK kvs k with
  | some d => .v .dat d
  | none => z
def pDGet2 (j : Nat) (pk px : GE) : GE := fun g PX Q => match g[j]? with
  | some (some (.dic _ kvs)) => pk g PX fun y => px g PX fun z => match y with
    | .v _ yd => ∃ k, keyD yd = some k ∧ Q (getR kvs k z)
    | .obj _ => False
  | _ => False
theorem le_dget2 {j : Nat} {tk tx : TE} {pk px : GE} (hk : LE K Ps W tk pk) (hx : LE K Ps W tx px) : LE K Ps W (tDGet2 (tVar j) tk tx) (pDGet2 j pk px) := fun F g σ H Q PX PQ I w h k => by
  unfold pDGet2 at h
  split at h
  · next p kvs hg =>
    obtain ⟨u, hu, rfl, vs, hp, hkv⟩ := I.sl.get hg
    refine ⟨.ref p, hu, p, rfl, .inl ⟨vs, .inl hp⟩, hk F g σ H _ _ _ I w h fun y yv H1 e1 r1 h1 => hx F g σ H1 _ _ _ (I.step e1) (w.step e1) h1 fun z zv H2 e2 r2 h2 => ?_⟩
    split at h2
    · next t yd =>
      obtain ⟨kk, ek, q⟩ := h2
      have e12 := e1.trans e2
      have hp2 : H2 p = some (.dK vs) := e12.keep _ _ hp fun _ z => by cases z
      have hkv2 : KvR K (off H2 (F.L0 ++ owns g)) vs kvs := hkv.mono (sm_off e12 fun _ z => .inl z)
      have hy := keyD_ok (r1.rp I e1) ek
      subst hy
      refine ⟨valV vs kk, DGet.k hp2, ?_⟩
      have hg2 := hkv2.get (k := kk)
      unfold getR at q
      cases e : getK kvs kk with
      | none =>
        rw [e] at hg2 q
        rw [hg2]
        exact k z zv H2 e12 (r2.back e1) q
      | some d =>
        rw [e] at hg2 q
        obtain ⟨v, ev, rv⟩ := hg2
        rw [ev]
        exact k (.v .dat d) v H2 e12 rv q
    · exact h2.elim
  · exact h.elim
/-! d[k] -/
def pDGet (j : Nat) (pk : GE) : GE := fun g PX Q => match g[j]? with
  | some (some (.dic _ kvs)) => pk g PX fun y => match y with
    | .v _ yd => ∃ k d, keyD yd = some k ∧ getK kvs k = some d ∧ Q (.v .dat d)
    | .obj _ => False
  | _ => False
theorem le_dget {j : Nat} {tk : TE} {pk : GE} (hk : LE K Ps W tk pk) : LE K Ps W (tDGet (tVar j) tk) (pDGet j pk) := fun F g σ H Q PX PQ I w h k => by
  unfold pDGet at h
  split at h
  · next p kvs hg =>
    obtain ⟨u, hu, rfl, vs, hp, hkv⟩ := I.sl.get hg
    refine ⟨.ref p, hu, hk F g σ H _ _ _ I w h fun y yv H1 e1 r1 h1 => ?_⟩
    split at h1
    · next t yd =>
      obtain ⟨kk, d, ek, ed, q⟩ := h1
      have hp2 : H1 p = some (.dK vs) := e1.keep _ _ hp fun _ z => by cases z
      have hkv2 : KvR K (off H1 (F.L0 ++ owns g)) vs kvs := hkv.mono (sm_off e1 fun _ z => .inl z)
      have hy := keyD_ok (r1.rp I e1) ek
      subst hy
      have hg2 := hkv2.get (k := kk)
      rw [ed] at hg2
      obtain ⟨v, ev, rv⟩ := hg2
      exact ⟨p, v, rfl, by rw [← ev]; exact DGet.k hp2, k (.v .dat d) v H1 e1 rv q⟩
    · exact h1.elim
  · exact h.elim
/-! k in d -/
def pDIn (f : Bool → Bool) (j : Nat) (pk : GE) : GE := fun g PX Q => match g[j]? with
  | some (some (.dic _ kvs)) => pk g PX fun y => match y with
    | .v _ yd => ∃ k, keyD yd = some k ∧ Q (.v .dat (.bool (f (getK kvs k).isSome)))
    | .obj _ => False
  | _ => False
theorem din_some {V0 : Hp} {k : Key} {vs : List (Key × V)} {kvs : List (Key × PyData)} (h : KvR K V0 vs kvs) : (valV vs k).isSome = (getK kvs k).isSome := by
  have hg2 := h.get (k := k)
  cases e : getK kvs k with
  | none =>
    rw [e] at hg2
    rw [hg2]
    rfl
  | some d =>
    rw [e] at hg2
    obtain ⟨v, ev, _⟩ := hg2
    rw [ev]
    rfl
theorem le_din {j : Nat} {tk : TE} {pk : GE} (hk : LE K Ps W tk pk) : LE K Ps W (tDIn tk (tVar j)) (pDIn (fun b => b) j pk) := fun F g σ H Q PX PQ I w h k => by
  unfold pDIn at h
  split at h
  · next p kvs hg =>
    obtain ⟨u, hu, rfl, vs, hp, hkv⟩ := I.sl.get hg
    refine hk F g σ H _ _ _ I w h fun y yv H1 e1 r1 h1 => ⟨.ref p, hu, ?_⟩
    split at h1
    · next t yd =>
      obtain ⟨kk, ek, q⟩ := h1
      have hp2 : H1 p = some (.dK vs) := e1.keep _ _ hp fun _ z => by cases z
      have hy := keyD_ok (r1.rp I e1) ek
      subst hy
      rw [← din_some hkv] at q
      exact ⟨p, valV vs kk, rfl, DGet.k hp2, k _ _ H1 e1 (rs_dat (.bl _)) q⟩
    · exact h1.elim
  · exact h.elim
theorem le_dnotin {j : Nat} {tk : TE} {pk : GE} (hk : LE K Ps W tk pk) : LE K Ps W (tDNotIn tk (tVar j)) (pDIn (fun b => !b) j pk) := fun F g σ H Q PX PQ I w h k => by
  unfold pDIn at h
  split at h
  · next p kvs hg =>
    obtain ⟨u, hu, rfl, vs, hp, hkv⟩ := I.sl.get hg
    refine hk F g σ H _ _ _ I w h fun y yv H1 e1 r1 h1 => ⟨.ref p, hu, ?_⟩
    split at h1
    · next t yd =>
      obtain ⟨kk, ek, q⟩ := h1
      have hp2 : H1 p = some (.dK vs) := e1.keep _ _ hp fun _ z => by cases z
      have hy := keyD_ok (r1.rp I e1) ek
      subst hy
      rw [← din_some hkv] at q
      exact ⟨p, valV vs kk, rfl, DGet.k hp2, k _ _ H1 e1 (rs_dat (.bl _)) q⟩
    · exact h1.elim
  · exact h.elim
/-! divmod -/
def pDivMod : List Rs → (Rs → Prop) → Prop := fun rs Q => match rs with
  | [.v _ (.int i), .v _ (.int j)] => CDiv i j ∧ Q (.v .dat (.tuple [.int (i / j), .int (i % j)]))
  | _ => False
theorem lc_divmod : LC K Ps (fun xs H Q => ∃ i j, xs = [.int i, .int j] ∧ CDiv i j ∧ ∀ p, H p = none → Q (.ref p) (upd H p (.tup [.int (i / j), .int (i % j)]))) pDivMod := by
  intro F g σ H H1 rs vs Q PQ I e ra h k
  unfold pDivMod at h
  split at h
  · next t i t2 j =>
    obtain ⟨u, v, rfl, b, c⟩ := rs2 ra
    cases b.rp I e
    cases c.rp I e
    exact ⟨i, j, rfl, h.1, fun p hp => k _ _ _ (new_in (o := .tup _) I e hp).1 (rs_tup I e hp (.cons (.int _) (.cons (.int _) .nil))) h.2⟩
  · exact h.elim
/-! len(d) -/
def pLenD (j : Nat) : GE := fun g _ Q => match g[j]? with
  | some (some (.dic _ kvs)) => Q (.v .dat (.int kvs.length))
  | _ => False
theorem le_lenD {j : Nat} : LE K Ps W (tCB (fun xs H Q => ∃ a kvs, xs = [V.ref a] ∧ H a = some (.dK kvs) ∧ Q (.int kvs.length) H) (tCons (tVar j) tNil)) (pLenD j) := fun F g σ H Q PX PQ I w h k => by
  unfold pLenD at h
  split at h
  · next p kvs hg =>
    obtain ⟨u, hu, rfl, vs, hp, hkv⟩ := I.sl.get hg
    refine ⟨.ref p, hu, p, vs, rfl, hp, ?_⟩
    rw [hkv.length]
    exact k _ _ H (Sm.refl H) (rs_dat (.int _)) h
  · exact h.elim
end
/-- by enumerate -/
theorem loop_en {α : Type} {f : α → PyData} {t : PV.Tgt} {b : PV.GS} {PD : PV.GEnds} {g : PV.Gm} (as : List α) (Iv : Nat → PV.Gm → Prop) (h0 : Iv 0 g)
    (turn : ∀ (i : Nat) a g, as[i]? = some a → Iv i g → ∀ N : PV.Gm → Prop, (∀ g', Iv (i + 1) g' → N g') → PV.pTgt t (.tuple [.int (i : Int), f a]) g fun g' => b { PD with nx := N, ct := N, bk := PD.nx } g') (hd : ∀ g, Iv as.length g → PD.nx g) :
    PV.Loop (PV.pTg t) b PD (PV.enD (as.map f)) g := by
  rw [PV.enD_map]
  refine PV.loop_ix (inj := fun p : α × Nat => .tuple [.int (p.2 : Int), f p.1]) as.zipIdx Iv h0 (fun i a g h q N k => ?_) (by rw [List.length_zipIdx]; exact hd)
  have hi : as[i]? = some a.1 ∧ a.2 = i := by
    rw [List.getElem?_zipIdx] at h
    cases e : as[i]? with
    | none =>
      rw [e] at h
      cases h
    | some x =>
      rw [e] at h
      simp at h
      subst h
      exact ⟨rfl, rfl⟩
  have := turn i a.1 g hi.1 q N k
  rw [← hi.2] at this
  exact this
end PV

/-! ### zip(*rows) whose tuples are known to have no dict, tuple.count -/
namespace ZX
open PySem PySem.Spec PyProof.Rows L2
def ItZF (K : PySem.W.Frag) (ls : List Addr) : It :=
  ⟨(ItZ K ls).go, fun i H v H' => ∃ T ys o, v = .ref T ∧ H T = none ∧ H' = upd H T (.frz o (.tup ys)) ∧ o.cls = .type "tuple" ∧ o.dict = none ∧ ys.length = ls.length ∧ ∀ (k : Nat) l xs, ls[k]? = some l → SqL K H l xs → xs[i]? = ys[k]?, (ItZ K ls).stop⟩
theorem turn_zipF {P : Program} {w : World} {K : PySem.W.Frag} {x : Str} {xp : Pos} {ls : List Addr} {b : Nat} (hn : ls.length ≤ 100000) (hb : ∀ l ∈ ls, Nat.lt l b) :
    Turn P w K (.Name x xp) (ItZF K ls) (fpZ b ls.length) (b + ls.length + 2) (fun i h => ZN.St b ls i h) where
  mem := (turn_zipN (P := P) (w := w) (K := K) (x := x) (xp := xp) hn hb).mem
  obj := (turn_zipN (P := P) (w := w) (K := K) (x := x) (xp := xp) hn hb).obj
  keep := (turn_zipN (P := P) (w := w) (K := K) (x := x) (xp := xp) hn hb).keep
  item := by
    intro X hP hw hK hc i pins s σ H E I hf S hg
    subst hP hw hK
    obtain ⟨hg1, hg⟩ := hg
    obtain ⟨ys, us, hv, hyl, hit, hxs⟩ := column I ls hg
    have hul : us.length = ys.length := hv.length.symm
    refine ZN.next_item (xs := fun k => us.getD k .none) S hg1 hn (fun k l hk => ?_) fun h' vs hsz hvs hT hsize S' hk => ?_
    · obtain ⟨items, u, h1, h2, h3⟩ := hit k l hk
      refine ⟨hb l (List.mem_of_getElem? hk), items, h1, ?_⟩
      show items[i]? = some (us.getD k .none)
      rw [List.getD_eq_getElem?_getD, h2]
      exact h3
    · refine ⟨_, rfl, wpAny_pure ?_⟩
      have evs : vs = us.toArray := by
        apply Array.ext
        · rw [hsz, List.size_toArray, hul, hyl]
        · intro j h1 h2
          have := hvs j (by omega)
          rw [Array.getElem?_eq_getElem h1] at this
          have h3 : j < us.length := by rw [List.size_toArray] at h2; exact h2
          rw [List.getD_eq_getElem?_getD, List.getElem?_eq_getElem h3] at this
          have := Option.some.inj this
          rw [this]
          simp
      rw [evs] at hT
      have zl : (100000 : Nat) ≤ sizeLine := by decide
      have new : ObjOk X.prog X.w (upd H s.heap.objs.size (.frz { cls := .type "tuple", data := .seq us.toArray } (.tup ys))) h' s.heap.objs.size (.frz { cls := .type "tuple", data := .seq us.toArray } (.tup ys)) :=
        ⟨hT, by show ys.length ≤ sizeLine; omega, us, hv, ⟨_, hT, rfl, _, rfl⟩⟩
      have I1 : Inv X pins σ (upd H s.heap.objs.size (.frz { cls := .type "tuple", data := .seq us.toArray } (.tup ys))) { s with heap := h' } :=
        I.turnedNew (t' := s.toks) (ch := fpZ b ls.length) (fun c o hb q => hk c o (not_fpZ hb) q) hf (Nat.le_refl _) new
      have hlt := ZN.sizes_le S
      refine ⟨.ref s.heap.objs.size, _, I1, rfl, ⟨_, ys, _, rfl, I.hok.fresh (Nat.le_refl _), rfl, rfl, rfl, hyl, hxs⟩, S', fun c hcm => ?_⟩
      have hc2 := mem_fpZ.mp hcm
      rw [upd_ne (show c ≠ s.heap.objs.size from Nat.ne_of_lt (by omega))]
      exact (hf c hcm).1
  done := (turn_zipN (P := P) (w := w) (K := K) (x := x) (xp := xp) hn hb).done
  self := (turn_zipN (P := P) (w := w) (K := K) (x := x) (xp := xp) hn hb).self
def iZipF (K : PySem.W.Frag) (te : TE) : TI := fun σ H R => te σ H fun x H1 => ∃ a ls, x = V.ref a ∧ (SqT K H1 a (ls.map V.ref) ∨ SqL K H1 a (ls.map V.ref)) ∧ ls.length ≤ 100000 ∧ (∀ l ∈ ls, ∃ xs, SqL K H1 l xs) ∧ R (ItZF K ls) H1
theorem pi_zipF {X : Cx} {e : Expr} {te : TE} {p sp pos xp : Pos} {x : Str} (hg : Gl X "zip") (hm : X.mg "zip" = none) (he : PE X e te)
    (hs : starEach [.Starred e sp] X.env = [(true, eval e X.env)] := by rfl) :
    PI X (.Name x xp) (.Call (.Name "zip" p) [.Starred e sp] [] pos) (iZipF X.K te) := by
  refine ⟨fun pins s σ H R I h => ?_⟩
  refine Call_ (ld_blt I hg hm PyProof.Rows.boot_zip (callWith_typeS (thn (he.run pins s σ H _ I h) fun v s1 ⟨y, H1, I1, ry, a, ls, ey, hq, hn, hl, q⟩ => ?_) hs))
  subst ey
  obtain rfl : v = Value.ref a := ry
  refine StX.star_any I1 hq fun us s2 I2 rv => ?_
  have eu : us = ls.map Value.ref := by
    clear hq hn hl q
    induction ls generalizing us with
    | nil => cases rv; rfl
    | cons l r ih =>
      cases rv with
      | cons r1 r2 =>
        cases r1
        rw [ih _ r2]
        rfl
  subst eu
  refine ZN.call_zip hn (fun l hl2 => ?_) fun h' S hk hsz => ?_
  · obtain ⟨xs, hx⟩ := hl l hl2
    obtain ⟨its, rv, p1, _⟩ := I2.list hx
    exact ⟨_, p1.isList⟩
  · obtain ⟨f0, f1, hz, _⟩ := id S.z
    refine ZN.iter_zip hz ?_
    have I3 : Inv X pins σ H1 { s2 with heap := h' } := I2.kept (t' := s2.toks) hk
    refine ⟨s2.heap.objs.size + ls.length + 2, fpZ s2.heap.objs.size ls.length, _, _, H1, rfl, I3, turn_zipF hn (fun l hl2 => ?_), S, fun c hcm => ?_, q⟩
    · obtain ⟨xs, hx⟩ := hl l hl2
      obtain ⟨its, rv, p1, _⟩ := I2.list hx
      exact p1.lt
    · have hc2 := mem_fpZ.mp hcm
      exact I2.fpOk hc2.1 (I2.hok.fresh hc2.1)
theorem pi_zipFK {X : Cx} {K : PySem.W.Frag} {e : Expr} {te : TE} {p sp pos xp : Pos} {x : Str} (hg : Gl X "zip") (hm : X.mg "zip" = none) (he : PE X e te) (hK : X.K = K := by rfl)
    (hs : starEach [.Starred e sp] X.env = [(true, eval e X.env)] := by rfl) : PI X (.Name x xp) (.Call (.Name "zip" p) [.Starred e sp] [] pos) (iZipF K te) := by
  subst hK
  exact pi_zipF hg hm he hs
end ZX
namespace TCN
open PySem PySem.Spec PyProof.Rows L2 Cm
/-- a tuple of these items, without a dict, that is known to the object -/
def tupF (H : Hp) (a : Addr) (ys : List V) : Prop := ∃ o, H a = some (.frz o (.tup ys)) ∧ o.cls = .type "tuple" ∧ o.dict = none
def rCountT : V → List V → Hp → VK → Prop := fun x xs H Q => ∃ (a : Addr) (ys : List V) (y : V), x = V.ref a ∧ xs = [y] ∧ tupF H a ys ∧ flatV y = true ∧ ys.all flatV = true ∧ Q (.int ((ys.countP fun z => eqV z y : Nat) : Int)) H
theorem mt_countT {X : Cx} : MtR X "tuple.count" rCountT := by
  intro pins s σ H x xs v us Q I rx rxs h
  obtain ⟨a, ys, y, rfl, rfl, ⟨o, hs, _, _⟩, fy, fys, q⟩ := h
  cases rx
  cases rxs with
  | cons ry rt =>
    rename_i uy ut
    cases rt
    obtain ⟨_, _, its, rv, ho⟩ := I.hok a _ hs
    obtain ⟨⟨cls, dd, data, sl⟩, ho, hc, n, hd⟩ := ho
    simp only at hc hd
    subst hc hd
    refine call_meets PySem.F.slot_tuple_count ⟨_, ho, rfl⟩ PySem.F.entry_tuple_count (PySem.F.args_tuple_count_2 _ _)
      (SeqAt.tuple_countAt a its.toArray n dd sl uy (eqU y)) ⟨ho, fun u' hu' => mem_eqAt ry fy rv fys u' (by simpa using hu'), ?_⟩
    rw [show its.toArray.toList = its from rfl, LCN.countP_vals rv fys]
    exact ⟨.int _, H, I.tok _, ⟨_, rfl⟩, q⟩
section
variable {X : Cx} {o e : Expr} {es : List Expr} {to : TE} {t : TA} {apos cpos : Pos}
def tCntT (to : TE) (t : TA) : TE := fun σ H Q => to σ H fun x H1 => (∃ a ys, x = V.ref a ∧ tupF H1 a ys) ∧ t σ H1 fun xs H2 => rCountT x xs H2 Q
theorem pe_cntT (ho : PE X o to) (ha : PA X (e :: es) t)
    (hbase : attributeBase o "count" X.env (eval o X.env) = eval o X.env := by rfl)
    (hfew : ((backTo cpos (starEach (e :: es) X.env)).all (fun x => !x.1) && (backToKw cpos (keywordEach [] X.env)).all (fun x => x.1.isSome)
      && decide ((e :: es).length + ([] : List Keyword).length + (if ([] : List Keyword).isEmpty then 0 else 1) < 30)) = true := by rfl)
    (hline : (apos.endLine == cpos.line) = true := by rfl) (hs : starEach (e :: es) X.env = (false, eval e X.env) :: starEach es X.env := by rfl) (hplain : (backTo cpos (starEach es X.env)).any (·.1) = false := by rfl) :
    PE X (.Call (.Attribute o "count" apos) (e :: es) [] cpos) (tCntT to t) := by
  refine ⟨fun pins s σ H Q I h => ?_⟩
  refine wpAny_Call_method_late hbase hfew hline rfl (thn (ho.run pins s σ H _ I h) fun v s1 ⟨x, H1, I1, r1, ty, q1⟩ => ?_)
  obtain ⟨a, ys, rfl, ob, hf, hcl, hdi⟩ := ty
  cases r1
  have hg : s1.heap.get? a = some ob := (I1.hok a _ hf).1
  refine ⟨"tuple", "tuple.count", PySem.F.plainAttrs_tuple, PySem.F.slot_tuple_count, PySem.F.type_tuple_count, ⟨ob, hg, hcl⟩, fun b e => ?_, ?_⟩
  · cases e
    exact ⟨ob, hg, hdi⟩
  have hA := ha.run cpos pins s1 σ H1 _ I1 q1
  rw [hs] at hA ⊢
  refine Calls.callWith_builtin (by show (false || (backTo cpos (starEach es X.env)).any (·.1)) = false; rw [hplain] <;> rfl) (Calls.evalArgs_plain ?_)
  exact thn hA fun us s2 ⟨vs, H2, I2, r2, q2⟩ => mt_countT pins s2 σ H2 (.ref a) vs (.ref a) us Q I2 rfl r2 q2
end
end TCN
namespace PV
open PySem PySem.Spec PyProof.Rows L2 Cm
open GX (Sm)
section
variable {K : PySem.W.Frag} {Ps : List Addr} {W : WX} {F : Fr} {g : Gm} {σ : L2.St} {H H1 H2 : Hp}
/-- a tuple of this data whose methods may be called -/
def tupA (K : PySem.W.Frag) (ds : List PyData) : Asr where
  a := fun v H => ∃ a ys, v = .ref a ∧ TCN.tupF H a ys ∧ RpAll K H ys ds
  mono := fun v H H' s ⟨a, ys, e, ⟨o, h1, h2, h3⟩, r⟩ => ⟨a, ys, e, ⟨o, s.keep _ _ h1 (fun _ z => by cases z), h2, h3⟩, r.mono s⟩
def pCntT (K : PySem.W.Frag) (po : GE) (pa : GA) : GE := fun g PX Q => po g PX fun x => match x with
  | .obj A => ∃ ds, A = tupA K ds ∧ pa g PX fun rs => pCount ds rs Q
  | _ => False
theorem le_cntT {to : TE} {ta : TA} {po : GE} {pa : GA} (ho : LE K Ps W to po) (ha : LA K Ps W ta pa) : LE K Ps W (TCN.tCntT to ta) (pCntT K po pa) := fun F g σ H Q PX PQ I w h k =>
  ho F g σ H _ PX _ I w h fun x v H1 e1 r1 h1 => by
    split at h1
    · obtain ⟨ds, rfl, h1⟩ := h1
      obtain ⟨a, ys, rfl, ⟨o, hf, hc, hd⟩, hr⟩ := r1
      have hf1 := (off_some hf).2
      refine ⟨⟨a, ys, rfl, o, hf1, hc, hd⟩, ha F g σ H1 _ PX _ (I.step e1) (w.step e1) h1 fun rs us H2 e2 r2 h2 => ?_⟩
      unfold pCount at h2
      split at h2
      · next t2 d =>
        obtain ⟨f1, f2, q⟩ := h2
        obtain ⟨u, rfl, ru⟩ := rs1 r2
        have hu := ru.bor (I.step e1) e2
        have hr2 : RpAll K (off H2 F.L0) ys ds := hr.mono (sm_off e2 fun _ z => .inl (List.mem_append_left _ z))
        refine ⟨a, ys, u, rfl, rfl, ⟨o, e2.keep _ _ hf1 (fun _ z => by cases z), hc, hd⟩, flat_VD hu f1, hr2.flatV f2, k _ _ _ (e1.trans e2) (rs_dat ?_) q⟩
        rw [hr2.count hu f1 f2]
        exact .int _
      · exact h2.elim
    · exact h1.elim
/-! ##### a comprehension whose walk hands out objects -/
theorem owns_ob {A : Asr} : ∀ {g : Gm} {i : Nat}, (∀ x, g[i]? = some x → ownsOf x = []) → owns (g.set i (some (.obj A))) = owns g
  | [], _, _ => rfl
  | y :: g, 0, h => by
    have := h y rfl
    show ownsOf (some (Sl.obj A)) ++ owns g = ownsOf y ++ owns g
    rw [this]
    rfl
  | y :: g, i + 1, h => by
    show ownsOf y ++ owns (g.set i (some (.obj A))) = ownsOf y ++ owns g
    rw [owns_ob (g := g) (i := i) fun x e => h x e]
structure WOkO (V0 : Hp) (J : It) (items : List Asr) : Prop where
  go : ∀ i H L, i < items.length → Sm V0 (off H L) → J.go i H
  stop : ∀ H L, Sm V0 (off H L) → J.stop items.length H
  yld : ∀ i H L x H', i < items.length → Sm V0 (off H L) → (∀ q ∈ L, Hid H q) → J.yld i H x H' → Sm H H' ∧ ∃ A, items[i]? = some A ∧ A.a x (off H' L)
abbrev GIO := Gm → (Er → Prop) → (List Asr → Prop) → Prop
def LIO (K : PySem.W.Frag) (Ps : List Addr) (W : WX) (wi : TI) (pi : GIO) : Prop := ∀ F g σ H R PX PQ, Env K Ps F g σ H → Wx K W F σ H PX → pi g PX PQ → (∀ J H1 items, Sm H H1 → WOkO (off H1 (F.L0 ++ owns g)) J items → PQ items → R J H1) → wi σ H R
def CompO (i : Nat) (pe : GE) (gw : Gm) (PX : Er → Prop) (k : List PyData → Prop) : List PyData → List Asr → Prop
  | acc, [] => k acc
  | acc, A :: xs => pe (gw.set i (some (.obj A))) PX fun r => match r with
      | .v t2 d => t2.ok = true ∧ acc.length < sizeLine ∧ CompO i pe gw PX k (acc ++ [d]) xs
      | .obj _ => False
def pLcO (pi : GIO) (i : Nat) (pe : GE) (vs : List Nat) : GE := fun g PX Q => owns (wipeG g vs) = owns g ∧ pi g PX fun items => CompO i pe (wipeG g vs) PX (fun out => Q (.v .fr (.list out))) [] items
theorem le_lcO {wi : TI} {te : TE} {vs : List Nat} {pi : GIO} {pe : GE} (n : Nat) (hs : n ∈ vs) (hW : NoSlot W) (hi : LIO K Ps W wi pi) (he : LE K Ps W te pe) :
    LE K Ps W (tLc wi (gName n) tYes te vs) (pLcO pi n pe vs) := fun F g σ H Q PX PQ I w h k =>
  hi F g σ H _ _ _ I w h.2 fun J H1 items e1 wk q => fun D hD => by
    have how := h.1
    have I1 := I.step e1
    obtain ⟨s1, hnD, hDn, hv⟩ := new_in (o := .lst []) I1 (Sm.refl H1) hD
    have nF : NewTo F.H0 D := hnD.back I1.sm
    have J0 := (Env.hide (vs := []) I1 hD).wipe vs
    refine ⟨fun i m H' => m = items.length - i ∧ i ≤ items.length ∧ Env K Ps ⟨F.H0, D :: F.L0⟩ (wipeG g vs) (wipe σ vs) H' ∧ Sm H1 H' ∧ ∃ ws acc, H' D = some (.lst ws) ∧ RpAll K (off H' (D :: (F.L0 ++ owns g))) ws acc ∧
      Sm (off H1 (F.L0 ++ owns g)) (off H' (D :: (F.L0 ++ owns g))) ∧ CompO n pe (wipeG g vs) PX (fun out => PQ (.v .fr (.list out))) acc (items.drop i), ⟨items.length, by simp, Nat.zero_le _, J0, s1, [], [], upd_same, .nil, hv _, by rw [List.drop_zero]; exact q⟩, ?_⟩
    rintro i m H' ⟨rfl, hi, J', e', ws, acc, hws, hacc, st, q⟩
    by_cases hlt : i < items.length
    · refine .inr ⟨wk.go i H' _ hlt st, fun H2 => Env K Ps ⟨F.H0, D :: F.L0⟩ (wipeG g vs) (wipe σ vs) H2 ∧ Sm H1 H2 ∧ ∃ ws acc, H2 D = some (.lst ws) ∧ RpAll K (off H2 (D :: (F.L0 ++ owns g))) ws acc ∧
        Sm (off H1 (F.L0 ++ owns g)) (off H2 (D :: (F.L0 ++ owns g))) ∧ CompO n pe (wipeG g vs) PX (fun out => PQ (.v .fr (.list out))) acc (items.drop (i + 1)), fun H2 z => ⟨items.length - (i + 1), by omega, rfl, hlt, z⟩, fun x H2 y => ?_⟩
      have hL : ∀ q ∈ D :: (F.L0 ++ owns g), Hid H' q := fun q hq => hidden J' (by rw [how]; exact hq)
      obtain ⟨s, A, hd, hr⟩ := wk.yld i H' _ x H2 hlt st hL y
      rw [drop_get hd] at q
      have hr' : A.a x (off H2 (D :: F.L0 ++ owns (wipeG g vs))) := by rw [how]; exact hr
      have I2 := (J'.step s).set_obj (i := n) hr'
      have ho2 : owns ((wipeG g vs).set n (some (.obj A))) = owns (wipeG g vs) := owns_ob fun x e => wipeG_no hs x e
      show wipe ((wipe σ vs).set n (some x)) vs = wipe σ vs ∧ tYes _ _ _
      refine ⟨wipe_of (us := [n]) (by simpa using hs) (by simp) (fun j hj => List.getElem?_set_ne fun z => hj (by simp [z])), ?_⟩
      have w2 : ∀ {H3}, Sm H1 H3 → Wx K W ⟨F.H0, D :: F.L0⟩ ((wipe σ vs).set n (some x)) H3 PX := fun {H3} e3 er cls d H4 s4 r4 p4 => hW _ _ _ _ _ (w er cls d H4 ((e1.trans e3).trans s4) (r4.sub fun a z => .tail _ z) p4)
      unfold tYes
      dsimp only
      rw [if_pos rfl]
      refine he _ _ _ H2 _ PX _ I2 (w2 (e'.trans s)) q fun r y H4 e4 r4 q4 => ?_
      split at q4
      · next t d2 =>
        have s4 := s.trans e4
        refine ⟨ws, s4.l hws, by rw [hacc.length]; exact q4.2.1, (J'.step s4).hid_upd (.head _) nF, sm_upd (e'.trans s4) (NewTo.none hD), ws ++ [y], acc ++ [d2], upd_same, ?_, ?_, q4.2.2⟩
        · rw [off_upd (.head _)]
          refine (hacc.mono (sm_off s4 fun _ z => .inl z)).append (.cons ?_ .nil)
          have hy := r4.dat I2 e4 q4.1
          rw [ho2, how] at hy
          exact hy
        · rw [off_upd (.head _)]
          exact st.trans (sm_off s4 fun _ z => .inl z)
      · exact q4.elim
    · have : i = items.length := by omega
      subst this
      rw [List.drop_length] at q
      exact .inl ⟨wk.stop H' _ st, k (.v .fr (.list acc)) _ _ (e1.trans e') ⟨D, ws, acc, rfl, rfl, hnD.back e1, hws, hacc⟩ q⟩
/-! ##### zip(*rows) with such tuples -/
def colsA (K : PySem.W.Frag) (ds : List PyData) (m : Nat) : List Asr := (List.range m).map fun i => tupA K (ds.map (itD i))
theorem wok_zipF {V0 : Hp} {m : Nat} {ls : List Addr} {ds : List PyData} (hm : rowsM ds m) (h0 : ds = [] → m = 0) (hl : ls.length = ds.length) (hr : ∀ (k : Nat) (l : Addr), ls[k]? = some l → ∃ us xs, ds[k]? = some (.list xs) ∧ xs.length = m ∧ V0 l = some (.lst us) ∧ RpAll K V0 us xs) : WOkO V0 (ZX.ItZF K ls) (colsA K ds m) where
  go := fun i H L hi e => (wok_zipN hm h0 hl hr).go i H L (by simpa [colsA, colsD] using hi) e
  stop := fun H L e => by
    have := (wok_zipN hm h0 hl hr).stop H L e
    rwa [show (colsD ds m).length = (colsA K ds m).length by simp [colsA, colsD]] at this
  yld := fun i H L x H' hi e hL y => by
    have hi : i < m := by simpa [colsA] using hi
    obtain ⟨T, ys, o, rfl, hT, rfl, hc, hd, hyl, hys⟩ := y
    have s := sm_new (o := .frz o (.tup ys)) (Sm.refl H) hT
    have s2 : Sm (off H L) (off (upd H T (.frz o (.tup ys))) L) := sm_off s fun _ z => .inl z
    refine ⟨s, tupA K (ds.map (itD i)), by simp [colsA, List.getElem?_map, List.getElem?_range hi], T, ys, rfl, ⟨o, ?_, hc, hd⟩, RpAll.of_get (by rw [hyl, hl, List.length_map]) fun k v d h1 h2 => ?_⟩
    · rw [off_ne fun z => (hL T z).ne (NewTo.none hT) rfl]
      exact upd_same
    · have hk : k < ls.length := by
        have := (List.getElem?_eq_some_iff.mp h1).1
        omega
      obtain ⟨us, xs, h3, h4, h5, h6⟩ := hr k _ (List.getElem?_eq_getElem hk)
      rw [List.getElem?_map, h3] at h2
      cases h2
      have hu := hys k _ us (List.getElem?_eq_getElem hk) (SqL.of (off_some (e.l h5)).2)
      rw [h1] at hu
      obtain ⟨d2, h7, h8⟩ := h6.getV hu
      have e3 : itD i (.list xs) = d2 := by
        show xs.getD i .none = d2
        rw [List.getD_eq_getElem?_getD, h7]
        rfl
      rw [e3]
      exact (h8.mono e).mono s2
def pZipF (K : PySem.W.Frag) (pa : GE) : GIO := fun g PX Q => pa g PX fun x => match x with
  | .v t (.list ds) => t.ok = true ∧ ∃ m, rowsM ds m ∧ (ds = [] → m = 0) ∧ ds.length ≤ 100000 ∧ Q (colsA K ds m)
  | .v t (.tuple ds) => t.ok = true ∧ ∃ m, rowsM ds m ∧ (ds = [] → m = 0) ∧ ds.length ≤ 100000 ∧ Q (colsA K ds m)
  | _ => False
theorem li_zipF {te : TE} {pa : GE} (ha : LE K Ps W te pa) : LIO K Ps W (ZX.iZipF K te) (pZipF K pa) := fun F g σ H R PX PQ I w h k =>
  ha F g σ H _ PX _ I w h fun x v H1 e1 r1 h1 => by
    split at h1
    · next t ds =>
      obtain ⟨ht, m, hm, h0, hn, q⟩ := h1
      have hr := r1.dat I e1 ht
      cases hr with
      | @lst a vs _ hp ha =>
        obtain ⟨ls, rfl, hl, h3⟩ := rp_lists ha hm
        refine ⟨a, ls, rfl, .inr (SqL.of (off_some hp).2), by omega, fun l hl2 => ?_, k _ _ _ e1 (wok_zipF hm h0 hl h3) q⟩
        obtain ⟨j, hj⟩ := List.mem_iff_getElem?.mp hl2
        obtain ⟨us, xs, _, _, h5, _⟩ := h3 j l hj
        exact ⟨us, SqL.of (off_some h5).2⟩
    · next t ds =>
      obtain ⟨ht, m, hm, h0, hn, q⟩ := h1
      have hr := r1.dat I e1 ht
      cases hr with
      | @tup a vs _ hp ha =>
        obtain ⟨ls, rfl, hl, h3⟩ := rp_lists ha hm
        refine ⟨a, ls, rfl, .inl (sm_hide.tup hp), by omega, fun l hl2 => ?_, k _ _ _ e1 (wok_zipF hm h0 hl h3) q⟩
        obtain ⟨j, hj⟩ := List.mem_iff_getElem?.mp hl2
        obtain ⟨us, xs, _, _, h5, _⟩ := h3 j l hj
        exact ⟨us, SqL.of (off_some h5).2⟩
    · exact h1.elim
/-- element by element -/
theorem compO_map {α : Type} {inj : α → Asr} {f : α → PyData} {i : Nat} {pe : GE} {gw : Gm} {PX : Er → Prop} {k : List PyData → Prop} (as : List α) (hl : as.length ≤ 100000)
    (he : ∀ a, a ∈ as → ∀ P : PyData → Prop, P (f a) → pe (gw.set i (some (.obj (inj a)))) PX fun r => match r with
      | .v t2 d => t2.ok = true ∧ P d
      | .obj _ => False) (hk : k (as.map f)) : CompO i pe gw PX k [] (as.map inj) := by
  suffices ∀ (as' : List α) (acc : List PyData), (∀ a, a ∈ as' → a ∈ as) → acc.length + as'.length ≤ 100000 → k (acc ++ as'.map f) → CompO i pe gw PX k acc (as'.map inj) from this as [] (fun _ z => z) (by simpa using hl) (by simpa using hk)
  intro as'
  induction as' with
  | nil => intro acc _ _ h; simpa [CompO] using h
  | cons a as' ih =>
    intro acc hm hl hk
    refine he a (hm a (.head _)) (fun d => acc.length < sizeLine ∧ CompO i pe gw PX k (acc ++ [d]) (as'.map inj)) ⟨small (by rw [List.length_cons] at hl; omega), ih _ (fun b hb => hm b (.tail _ hb)) (by rw [List.length_cons] at hl; simp; omega) ?_⟩
    simpa using hk
end
end PV

/-! ### a comprehension whose element may raise -/
namespace LX
open PySem PySem.Spec PyProof.Rows L2 Cm
/-- an exception in the air of X, where the def's own frame is L -/
def XF (X : Cx) (E : XK) (L : Addr) : Value → Shared → Prop := fun u t => ∃ (a : Addr) (B : Heap) (r : Shared) (ps : List (Addr × Obj)) (σ : L2.St) (H : Hp) (cls : Value) (d : Option Addr), (u = .ref a ∧ Inv X ps σ H r) ∧
  (∀ b o, r.heap.get? b = some o → b ∉ frs X.stack → B.get? b = some o) ∧ (r.heap.UpToSlots t.heap ∧ Sky B X.stack a (L2N.Zn cls d) L t.heap) ∧ (H a = none ∧ t.os = r.os ∧ AllBare t.gens) ∧ E cls d H
/-- the block's context -/
abbrev bx (X : Cx) (s : Shared) (H : Hp) (scope : Scope) (cenv : Env) (fp : List Addr) (E : XK) (L : Addr) : Cx := (X.blk s H scope cenv fp).wish (XF (X.blk s H scope cenv fp) E L)
/-- where such a comprehension may stand -/
structure AtX (X : Cx) (E : XK) (L : Addr) : Prop where
  tk : ∀ u t, XF X E L u t → X.xe u t
  fr : X.env.frame = some L
  top : ∃ e0 o0, X.stack = e0 :: o0 ∧ e0.frame = some L
theorem atX_def {X : Cx} {E : XK} (tk : L2N.Takes X fun cls d _ H => E cls d H) (hs : X.stack = X.env :: X.outer) (hf : X.env.frame = some X.env.locals) : AtX X E X.env.locals :=
  ⟨fun u t ⟨a, B, r, ps, σ, H, cls, d, ⟨e, I⟩, nb, ⟨up, sky⟩, ⟨na, os, ag⟩, w⟩ => tk u t ⟨a, B, r, ps, σ, H, cls, d, e, I, nb, up, sky, na, os, ag, w⟩, hf, _, _, hs, hf⟩
theorem XF.unwish {X : Cx} {E : XK} {L : Addr} {E' : Value → Shared → Prop} {u : Value} {t : Shared} : XF (X.wish E') E L u t → XF X E L u t := fun ⟨a, B, r, ps, σ, H, cls, d, ⟨e, I⟩, nb, us, z, w⟩ => ⟨a, B, r, ps, σ, H, cls, d, ⟨e, I.unwish⟩, nb, us, z, w⟩
theorem atX_bx {X : Cx} {E : XK} {L C : Addr} {s : Shared} {H : Hp} {scope : Scope} {cl : List (Str × Addr)} {fp : List Addr} (h : AtX X E L) : AtX (bx X s H scope (compEnvC scope cl C X.env) fp E L) E L :=
  ⟨fun _ _ x => x.unwish, h.fr, h.top⟩
/-- calls within the block -/
theorem pass_bx {X : Cx} {E E' : XK} {L : Addr} {s : Shared} {H : Hp} {scope : Scope} {cenv : Env} {fp : List Addr} (h : ∀ cls d H, E' cls d H → E cls d H) : Passes (CXN X.prog X.w) (bx X s H scope cenv fp E L) E' := fun pins σ H1 s1 e t I c => by
  have x := L2N.XE.of_call (W := fun cls d _ H => E cls d H) I.unwish (fun cls d H q => h cls d H q) c
  obtain ⟨a0, B0, H0, cls0, d0, e0, fl, _⟩ := c
  obtain ⟨a, B, r, ps, σ, H, cls, d, e1, J, nb, up, sky, na, os, ag, w⟩ := x
  have ea : a = a0 := by
    rw [e1] at e0
    cases e0
    rfl
  subst ea
  refine ⟨a, B, r, ps, σ, H, cls, d, ⟨e1, J⟩, nb, ⟨up, ?_⟩, ⟨na, os, ag⟩, w⟩
  rcases sky with z | z | z
  · exact .inl z
  · exact .inr (.inl z)
  · obtain ⟨_, _, _, oe, vs, T, oT, ts, k1, _, k2, k3, _, _, k4, k5, k6⟩ := z
    obtain ⟨_, _, _, oe', vs', T', oT', ts', g1, _, g2, g3, _, _, g4, g5, g6⟩ := fl
    rw [k1] at g1
    cases g1
    rw [k2] at g2
    cases g2
    rw [k3] at g3
    cases g3
    rw [k4] at g4
    cases g4
    rw [k5] at g5
    cases g5
    rw [k6] at g6
    cases g6
theorem note_eq {x : Value} {e e' : Env} (h : e.frame = e'.frame) : noteFrame x e = noteFrame x e' := by
  unfold noteFrame PySem.frameOf
  rw [h]
theorem passOn_ok {α : Type} {M : Model} {A : Around} {what : String} {a T L : Addr} {env : Env} {s : Shared} {oe oT : Obj} {vs ts : Array Value} {Q : α → Shared → Prop} {E : Value → Shared → Prop} (hf : env.frame = some L) (he : s.heap.get? a = some oe) (hd : oe.data = .fields vs) (h1 : vs[1]? = some (.ref T))
    (hT : s.heap.get? T = some oT) (hdT : oT.data = .fields ts) (hsz : 3 < ts.size) (h : E (.ref a) { s with heap := s.heap.update T (Obj.mapFields (·.setIfInBounds 3 (rawInt L))) }) : wpAny M A (PySem.passOn what (.ref a) env : Sem α) Q E s := by
  unfold PySem.passOn
  refine wpAny_bind (wpAny_field he hd h1 ?_)
  rw [if_neg (by simp : ¬ ((Value.ref T == Value.none) = true))]
  refine wpAny_bind ?_
  unfold setFlight
  refine wpAny_bind (wpAny_field he hd h1 ?_)
  rw [if_pos (by simp : (Value.ref T != Value.none) = true), hf]
  exact wpAny_setField hT hdT hsz (wpAny_throw h)
theorem frames_base {h B B2 : Heap} : ∀ {l : List Env}, (∀ b, b ∈ frs l → B2.get? b = B.get? b) → h.FunFrames B l → h.FunFrames B2 l
  | [], _, _ => trivial
  | e :: l, k, ⟨z1, ⟨L, o, z2, z3, z4⟩, z5⟩ => ⟨z1, ⟨L, o, z2, (k L (List.mem_filterMap.mpr ⟨e, .head _, z2⟩)).trans z3, z4⟩, frames_base (fun b hb => by
      obtain ⟨e2, h1, h2⟩ := List.mem_filterMap.mp hb
      exact k b (List.mem_filterMap.mpr ⟨e2, .tail _ h1, h2⟩)) z5⟩
section
variable {X : Cx} {E : XK} {L C : Addr} {pins : List (Addr × Obj)} {σ : L2.St} {s3 : Shared} {H3 : Hp} {scope : Scope} {cl : List (Str × Addr)} {fp : List Addr}
theorem fails (h : AtX X E L) (I3 : Inv X pins σ H3 s3) (hC : C = s3.heap.objs.size) (f3 : ∀ b ∈ fp, FpOk X pins H3 b ∧ b < s3.heap.objs.size) {u : Value} {t : Shared} (x : XF (X.blk s3 H3 scope (compEnvC scope cl C X.env) fp) E L u t) :
    notedBy (model X.prog X.w) X.A (compEnvC scope cl C X.env) (CompFails (model X.prog X.w) X.A X.xe (compEnvC scope cl C X.env)) u t := by
  obtain ⟨a, B, r, ps, σ1, H, cls, d, ⟨rfl, I⟩, nb, ⟨up, sky⟩, ⟨na, os, ag⟩, w⟩ := x
  obtain ⟨e0, o0, hs, hf0⟩ := h.top
  have hfr : X.A.frames = some (e0 :: o0) := by rw [← hs]; exact I.ok.frames
  have sky : Sky B (e0 :: o0) a (L2N.Zn cls d) L t.heap := by rw [← hs]; exact sky
  show wpAny _ X.A (noteFrame (.ref a) (compEnvC scope cl C X.env)) _ _ t
  rw [note_eq (e := compEnvC scope cl C X.env) (e' := e0) (show X.env.frame = e0.frame by rw [h.fr, hf0])]
  have I7 : Inv X pins σ H r := I3.call' (ch := fp) I.os I.base I.hok I.bare fun b hb => let ⟨⟨_, z1, _, z3, z4, z5⟩, _⟩ := f3 b hb; ⟨z3, z1, z4, z5⟩
  obtain ⟨m, hn, _⟩ := I.loc
  have hn : r.heap.Ns C m := hn
  obtain ⟨oC, es, ep, goC, dC, kC⟩ := hn
  have cne : C ≠ X.env.locals := fun z => by
    have := I3.lt
    rw [← z, hC] at this
    exact Nat.lt_irrefl _ this
  have CF : C ∉ frs X.stack := fun z => by
    rcases List.mem_cons.mp (I3.stkSub C z) with q | q
    · exact cne q
    · exact I3.nofs (by rw [hC]; exact Nat.le_refl _) q
  have bC := nb C oC goC CF
  have fin : ∀ h1 : Heap, HandSPX.HeldZ B (e0 :: o0) a (L2N.Zn cls d) L h1 → t.heap.UpToSlots h1 → CompFails (model X.prog X.w) X.A X.xe (compEnvC scope cl C X.env) (.ref a) { t with heap := h1 } := by
    rintro h1 ⟨x1, x2, x3, oe, vs, T, oT, ts, q1, q2, q3, q4, q5, q6, q7, q8, q9⟩ up1
    have n1 : h1.Ns C m := ⟨oC, es, ep, x1 C oC bC, dC, kC⟩
    refine ⟨m, n1, fun h2 m2 n2 sb => ?_⟩
    have n2 : h2.Ns C m2 := n2
    obtain ⟨oD, es2, ep2, gD, dD, kD⟩ := id n2
    have aC : a ≠ C := fun z => by
      rw [z, bC] at x2
      cases x2
    have TC : T ≠ C := fun z => by
      rw [z, bC] at q5
      cases q5
    have oth : ∀ b, b ≠ C → h2.get? b = h1.get? b := sb.2
    have hsz : 3 < ts.size := (Array.getElem?_eq_some_iff.mp q9).1
    refine passOn_ok (L := L) (oe := oe) (oT := oT) h.fr ((oth a aC).trans q1) q3 q4 ((oth T TC).trans q7) q8 hsz ?_
    have fd : oD.isFreed = false := Obj.isFreed_of_dict dD
    have g3 : ∀ b, b ≠ T → (h2.update T (Obj.mapFields (·.setIfInBounds 3 (rawInt L)))).get? b = h2.get? b := fun b hb => Heap.get?_update_other _ _ fun z => hb z.symm
    have gT := Heap.get?_update_self (Obj.mapFields (·.setIfInBounds 3 (rawInt L))) ((oth T TC).trans q7) (Obj.isFreed_of_fields (Obj.data_mapFields q8 _))
    have gr : ∀ b, b ≠ C → (r.heap.update C fun _ => oD).get? b = r.heap.get? b := fun b hb => Heap.get?_update_other _ _ fun z => hb z.symm
    have gB : ∀ b, b ≠ C → (B.update C fun _ => oD).get? b = B.get? b := fun b hb => Heap.get?_update_other _ _ fun z => hb z.symm
    have grC : (r.heap.update C fun _ => oD).get? C = some oD := Heap.get?_update_self _ goC fd
    have gBC : (B.update C fun _ => oD).get? C = some oD := Heap.get?_update_self _ bC fd
    have I8 : Inv X pins σ H { r with heap := r.heap.update C fun _ => oD, toks := r.toks } := by
      have fpC := I3.fpOk (H' := H) (b := C) (by rw [hC]; exact Nat.le_refl _) I.free
      exact I7.turned (it := C) (fun b o hb e => (gr b hb).trans e) I.free cne fpC.2.2.2.1 fpC.2.2.2.2.1 fpC.2.2.2.2.2
    have st : (B.update C fun _ => oD).StaysIn (h2.update T (Obj.mapFields (·.setIfInBounds 3 (rawInt L)))) := fun b o e => by
      by_cases z : b = C
      · subst z
        rw [gBC] at e
        cases e
        exact (g3 b (fun y => TC y.symm)).trans gD
      · rw [gB b z] at e
        have nT : b ≠ T := fun y => by
          rw [y, q5] at e
          cases e
        exact (g3 b nT).trans ((oth b z).trans (x1 b o e))
    have ff : (h2.update T (Obj.mapFields (·.setIfInBounds 3 (rawInt L)))).FunFrames (B.update C fun _ => oD) (e0 :: o0) := by
      have y1 : h2.FunFrames B (e0 :: o0) := x3.sameBut sb n2
      have y2 : (h2.update T (Obj.mapFields (·.setIfInBounds 3 (rawInt L)))).FunFrames B (e0 :: o0) := y1.of_keeps fun b o e nf => by
        refine ⟨o, (g3 b fun y => ?_).trans e, rfl⟩
        rw [y, oth T TC, q7] at e
        cases e
        exact nf _ q8
      exact frames_base (fun b hb => gB b fun z => CF (by rw [hs, ← z]; exact hb)) y2
    refine h.tk _ _ ⟨a, B.update C fun _ => oD, _, pins, σ, H, cls, d, ⟨rfl, I8⟩, fun b o e hb => ?_, ⟨fun b o e nf => ?_, ?_⟩, ⟨na, os, ag⟩, w⟩
    · by_cases z : b = C
      · subst z
        have e : (r.heap.update b fun _ => oD).get? b = some o := e
        rw [grC] at e
        rw [gBC, e]
      · have e : (r.heap.update C fun _ => oD).get? b = some o := e
        rw [gr b z] at e
        rw [gB b z]
        exact nb b o e hb
    · have e : (r.heap.update C fun _ => oD).get? b = some o := e
      show ∃ sl, (h2.update T (Obj.mapFields (·.setIfInBounds 3 (rawInt L)))).get? b = some { o with slots := sl }
      by_cases z : b = C
      · subst z
        rw [grC] at e
        cases e
        exact ⟨oD.slots, (g3 b (fun y => TC y.symm)).trans gD⟩
      · rw [gr b z] at e
        obtain ⟨sl, e2⟩ := (up.trans up1) b o e nf
        refine ⟨sl, (g3 b fun y => ?_).trans ((oth b z).trans e2)⟩
        have e2 : h1.get? b = some { o with slots := sl } := e2
        rw [y, q7] at e2
        cases e2
        exact nf _ q8
    · rw [hs]
      refine .inr (.inr ⟨st, ?_, ff, oe, vs, T, _, _, (g3 a fun y => q6 y.symm).trans ((oth a aC).trans q1), q2, q3, q4, ?_, q6, gT, Obj.data_mapFields q8 _, by simp [hsz]⟩)
      · rw [gB a aC]
        exact x2
      · rw [gB T TC]
        exact q5
  rcases sky with ⟨k1, k2, k3, oe, vs, k4, k5, k6, k7⟩ | fl | hd
  · exact PXN.look_newZ L2N.Zn.steady hfr k3 hf0 k4 k1 k2 k6 k7 k5 fin
  · exact PXN.looks_onZ L2N.Zn.steady hfr hf0 fl fin
  · exact HandSPX.againZ hf0 hd.2.2.2 (fin t.heap hd (Heap.UpToSlots.refl _))
theorem lcx_core {H : Hp} {s : Shared} {Q : VK} {elt tg iter : Expr} {ifs : List Expr} {own : List (Str × Nat)} {pos pos' : Pos} {wi : TI} {g : TG} {tt : TT} {te : TE} {use : Option (Value → Sem Unit)} {Qf : Value → Shared → Prop} (hc : X.calm = true) (hN : X.N.Nodup) (hX : AtX X E L) (I : Inv X pins σ H s) (hi : PI X tg iter wi) (ok : BlkOk X.N X.env.scope scope own)
    (hb : ∀ (s : Shared) (H : Hp) (C : Addr) (cl : List (Str × Addr)) (fp : List Addr), PG (bx X s H scope (compEnvC scope cl C X.env) fp E L) tg g ∧ PTs (bx X s H scope (compEnvC scope cl C X.env) fp E L) ifs tt ∧ PE (bx X s H scope (compEnvC scope cl C X.env) fp E L) elt te)
    (hs : ∀ x, foldedSetIterable iter X.env x = pure x) (h : tLc wi g tt te (own.map (·.2)) σ H Q)
    (hR : ∀ D (ce : Env) s' m H', Inv X pins σ H' s' → Q (.ref D) H' → s'.heap.Ns ce.locals m → FpOk X pins H' ce.locals → compEnds (model X.prog X.w) X.A X.xe use Qf (.ref D) ce (.ok .next) s') :
    wpAny (model X.prog X.w) X.A (comprehension (.ListComp elt [⟨tg, iter, ifs, 0⟩] scope pos) scope X.env pos' (newList []) false (eval iter X.env) use) Qf X.xe s := by
  have hfr : ∀ y ∈ scope.names, y.2 = .free → ∃ c, X.env.cells.lookup y.1 = some c := fun y hy e => (ok.free y hy e).elim (fun k => I.ok.has _ (.inl k)) fun k => I.ok.has _ (.inr k)
  refine comprehension_at (use := use) rfl hs (closure_ok hfr) ok.kind (fun y hy e => (ok.uniq y hy).trans (by rw [e])) (thn (hi.run pins s σ H _ I h) fun xv s1 hx => thn hx fun itv s2 h2 => ?_)
  obtain ⟨it, fp, tn, J, H2, e, I2, T, st2, f2, q⟩ := h2
  subst e
  refine wpAny_newObj_type (newEnv_comp ?_) (by show 0 ≤ sizeLine; decide)
  generalize hD : s2.heap.objs.size = D
  have nD : H2 D = none := I2.hok.fresh (Nat.le_of_eq hD)
  obtain ⟨W, ⟨m0, w0⟩, turn⟩ := q D nD
  generalize hr : ({ s2 with heap := s2.heap.push { cls := .type "list", data := .seq ([] : List Value).toArray } } : Shared) = r
  have hrh : r.heap = s2.heap.push { cls := .type "list", data := .seq ([] : List Value).toArray } := by rw [← hr]
  have kr : ∀ b o, s2.heap.get? b = some o → r.heap.get? b = some o := fun b o e => by rw [hrh]; exact Heap.get?_push_of_some _ e
  have I3 : Inv X pins σ (upd H2 D (.lst [])) r := by
    subst hr
    exact I2.laid (t' := s2.toks) (fun b o e => Heap.get?_push_of_some _ e) (Nat.le_of_eq hD) ⟨Nat.zero_le _, [], 0, .nil, by rw [← hD]; exact Heap.get?_push_size _ rfl⟩
  have f3 : ∀ b ∈ fp, FpOk X pins (upd H2 D (.lst [])) b ∧ b < r.heap.objs.size := fun b hb => by
    obtain ⟨o, e, _⟩ := T.obj _ _ st2 b hb
    have lt := Heap.lt_size e
    exact ⟨⟨(upd_ne (by rw [← hD]; exact Nat.ne_of_lt lt)).trans (f2 b hb).1, (f2 b hb).2⟩, by rw [hrh, Heap.size_push]; exact Nat.lt_succ_of_lt lt⟩
  have t3 : tn 0 r.heap := T.keep _ _ _ st2 fun b _ o e => kr b o e
  have I4 := (block_start I3 ok hN f3).wish (XF (X.blk r (upd H2 D (.lst [])) scope (compEnvC scope (cellsFrom (r.heap.objs.size + 1) scope.names (cloFrom X.env.cells scope.names [])) r.heap.objs.size X.env) fp) E L)
  obtain ⟨pg, pt, pe⟩ := hb r (upd H2 D (.lst [])) r.heap.objs.size (cellsFrom (r.heap.objs.size + 1) scope.names (cloFrom X.env.cells scope.names [])) fp
  have fl := fun (u : Value) (t : Shared) => fails (u := u) (t := t) (scope := scope) (cl := cellsFrom (r.heap.objs.size + 1) scope.names (cloFrom X.env.cells scope.names [])) hX I3 rfl f3
  show codeAny _ _ (.compStart (.ListComp elt [⟨tg, iter, ifs, 0⟩] scope pos) 0 (.ref it) (.ref D) (compEnvC scope (cellsFrom (r.heap.objs.size + 1) scope.names (cloFrom X.env.cells scope.names [])) r.heap.objs.size X.env)) (compEnds (model X.prog X.w) X.A X.xe use Qf (.ref D) (compEnvC scope (cellsFrom (r.heap.objs.size + 1) scope.names (cloFrom X.env.cells scope.names [])) r.heap.objs.size X.env)) { r with heap := pushCells (r.heap.push { cls := .type "dict", data := .dict #[] }) scope.names }
  have n3 : ∀ b ∈ fp, (upd H2 D (.lst [])) b = none := fun b hb => (f3 b hb).1.1
  generalize hce : compEnvC scope (cellsFrom (r.heap.objs.size + 1) scope.names (cloFrom X.env.cells scope.names [])) r.heap.objs.size X.env = ce at I4 pg pt pe fl ⊢
  have cL : ce.locals = r.heap.objs.size := by subst hce; rfl
  generalize upd H2 D (.lst []) = H3 at I3 I4 pg pt pe w0 n3 f3 fl
  generalize hs4 : ({ r with heap := pushCells (r.heap.push { cls := .type "dict", data := .dict #[] }) scope.names } : Shared) = s4 at I4 ⊢
  have t4 : tn 0 s4.heap := T.keep _ _ _ t3 fun b _ o e => by rw [← hs4]; exact pushCells_keeps _ _ _ _ (Heap.get?_push_of_some _ e)
  have err : ∀ (u : Value) (t : Shared), XF (X.blk r H3 scope ce fp) E L u t → notedBy (model X.prog X.w) X.A ce (fun e s' => compEnds (model X.prog X.w) X.A X.xe use Qf (.ref D) ce (.error e) s') u t := fun u t x => by
    have := fl u t x
    have e : (fun e s' => compEnds (model X.prog X.w) X.A X.xe use Qf (.ref D) ce (.error e) s') = CompFails (model X.prog X.w) X.A X.xe ce := by
      funext e s'
      cases use <;> rfl
    rw [e]
    exact this
  have stat : ∀ {σ' : L2.St} {H' : Hp} {s' : Shared}, Inv (bx X r H3 scope ce fp E L) [] σ' H' s' → (∀ b ∈ fp, H' b = none) → ∀ b ∈ fp, FpOk (bx X r H3 scope ce fp E L) [] H' b := fun {σ' H' s'} J' hn b hb => ⟨hn b hb, (J'.ok.exf b hb).1, J'.ok.exfs b hb, .inl hb, fun x c e => (J'.ok.exf b hb).2 x c e, fun p hp => by simp at hp⟩
  have loop : codeAny (model X.prog X.w) X.A (.compLoop (.ListComp elt [⟨tg, iter, ifs, 0⟩] scope pos) 0 (.ref it) (.ref D) ce) (compEnds (model X.prog X.w) X.A X.xe use Qf (.ref D) ce) s4 := by
    refine compLoop_any (fun n s' => ∃ i H', Inv (bx X r H3 scope ce fp E L) [] (wipe σ (own.map (·.2))) H' s' ∧ (tn i s'.heap ∧ ∀ b ∈ fp, H' b = none) ∧ W i n H') (fun n s5 => ?_) m0 ⟨0, H3, I4, ⟨t4, n3⟩, w0⟩
    rintro ⟨i, H5, I5, ⟨t5, n5⟩, w5⟩
    rcases turn i n H5 w5 with ⟨stop, qq⟩ | ⟨go, Nx, hNx, step⟩
    · refine thnF (T.done (bx X r H3 scope ce fp E L) rfl rfl rfl hc i [] s5 _ H5 (fun _ _ => False) I5 (stat I5 n5) t5 stop) fun v s6 ⟨hv, I6⟩ => ?_
      subst hv
      have nC : H5 r.heap.objs.size = none := by rw [← cL]; exact I6.free
      obtain ⟨m, hn, _⟩ := I6.loc
      exact hR D ce s6 m H5 (I3.call' (ch := fp) I6.os I6.base I6.hok I6.bare fun b hb => let ⟨⟨_, z1, _, z3, z4, z5⟩, _⟩ := f3 b hb; ⟨z3, z1, z4, z5⟩) qq hn (by rw [cL]; exact I3.fpOk (Nat.le_refl _) nC)
    · refine thnF (T.item (bx X r H3 scope ce fp E L) rfl rfl rfl hc i [] s5 _ H5 (fun _ _ => False) I5 (stat I5 n5) t5 go) fun v s6 ⟨u, hv, h6⟩ => ?_
      subst hv
      refine thnF h6 fun _ s7 ⟨x, H7, I7, r7, y7, t7, n7⟩ => ?_
      have I7' := I7.pinned (stat I7 n7) (T.obj _ _ t7)
      refine wpAny_mono (pg.run _ s7 _ H7 x u _ I7' r7 (step x H7 y7)) (fun _ s8 h8 => ?_) fun e t x => err e t x
      obtain ⟨σ8, H8, I8, hw8, q8⟩ := h8
      refine wpAny_mono (pt.run _ s8 σ8 H8 _ I8 q8) (fun b s9 h9 => ?_) fun e t x => err e t x
      obtain ⟨H9, I9, q9⟩ := h9
      have fin : ∀ {s' : Shared} {H' : Hp}, Inv (bx X r H3 scope ce fp E L) ([] ++ pinsAt fp s7.heap) σ8 H' s' → Nx H' → ∃ m, m < n ∧ ∃ i H', Inv (bx X r H3 scope ce fp E L) [] (wipe σ (own.map (·.2))) H' s' ∧ (tn i s'.heap ∧ ∀ b ∈ fp, H' b = none) ∧ W i m H' := fun {s' H'} J' nx => by
        obtain ⟨m', hm, w'⟩ := hNx H' nx
        have pin' : ∀ b ∈ fp, ∀ o, s7.heap.get? b = some o → s'.heap.get? b = some o ∧ H' b = none := fun b hb o e => let z := J'.pin (b, o) (List.mem_append_right _ (List.mem_append_right _ (mem_pinsAt hb e))); ⟨z.1, z.2.1⟩
        refine ⟨m', hm, i + 1, H', (J'.unpinned (pins := [])).weak (by rw [← hw8, wipe_length]) (fun j v e => ?_), ⟨T.keep _ _ _ t7 fun b hb o e => (pin' b hb o e).1, fun b hb => ?_⟩, w'⟩
        · rw [← hw8] at e
          exact (wipe_some e).1
        · obtain ⟨o, e, _⟩ := T.obj _ _ t7 b hb
          exact (pin' b hb o e).2
      cases b with
      | false =>
        rw [if_neg (by decide)] at q9 ⊢
        exact fin I9 q9
      | true =>
        rw [if_pos rfl] at q9 ⊢
        refine wpAny_mono (pe.run _ s9 σ8 H9 _ I9 q9) (fun z s10 h10 => ?_) fun e t x => err e t x
        obtain ⟨yv, H10, I10, r10, acc, hD10, hz10, nx⟩ := h10
        exact app_ok (X := bx X r H3 scope ce fp E L) I10 hD10 hz10 r10 fun s11 I11 => fin I11 nx
  exact codeAny_compStart_list loop (T.self X.A 0 _ _ _ t4 loop)
theorem pe_lcX {elt tg iter : Expr} {ifs : List Expr} {own : List (Str × Nat)} {pos : Pos} {wi : TI} {g : TG} {tt : TT} {te : TE} (hX : AtX X E L) (hc : X.calm = true) (hN : X.N.Nodup) (hi : PI X tg iter wi) (ok : BlkOk X.N X.env.scope scope own)
    (hg : ∀ (s : Shared) (H : Hp) (C : Addr) (cl : List (Str × Addr)) (fp : List Addr), PG (bx X s H scope (compEnvC scope cl C X.env) fp E L) tg g) (ht : ∀ (s : Shared) (H : Hp) (C : Addr) (cl : List (Str × Addr)) (fp : List Addr), PTs (bx X s H scope (compEnvC scope cl C X.env) fp E L) ifs tt)
    (he : ∀ (s : Shared) (H : Hp) (C : Addr) (cl : List (Str × Addr)) (fp : List Addr), PE (bx X s H scope (compEnvC scope cl C X.env) fp E L) elt te) (hs : ∀ x, foldedSetIterable iter X.env x = pure x := by intro _; rfl) :
    PE X (.ListComp elt [⟨tg, iter, ifs, 0⟩] scope pos) (tLc wi g tt te (own.map (·.2))) := by
  refine ⟨fun pins s σ H Q I h => ?_⟩
  rw [eval_ListComp]
  refine lcx_core hc hN hX I hi ok (fun s H C cl fp => ⟨hg s H C cl fp, ht s H C cl fp, he s H C cl fp⟩) hs h fun D ce s' m H' I' q hn f => ⟨m, hn, fun h'' sb => ?_⟩
  obtain ⟨k0, k1, k2, k3, k4, k5⟩ := f
  exact ⟨.ref D, H', I'.turned (t' := s'.toks) (fun b o hb e => (sb.2 b hb).trans e) k0 k1 k3 k4 k5, rfl, q⟩
theorem ps_setLcX {i : Nat} {y : Str} {py : Pos} {elt tg iter : Expr} {ifs : List Expr} {own : List (Str × Nat)} {pos spos : Pos} {wi : TI} {g : TG} {tt : TT} {te : TE} (hX : AtX X E L) (hc : X.calm = true) (hN : X.N.Nodup) (hy : X.N[i]? = some y) (hyl : X.env.scope.names.lookup y = some .local)
    (hsw : swapsWith (.ListComp elt [⟨tg, iter, ifs, 0⟩] scope pos) (some (.Name y py)) spos.line X.env = pure true) (hi : PI X tg iter wi) (ok : BlkOk X.N X.env.scope scope own)
    (hg : ∀ (s : Shared) (H : Hp) (C : Addr) (cl : List (Str × Addr)) (fp : List Addr), PG (bx X s H scope (compEnvC scope cl C X.env) fp E L) tg g) (ht : ∀ (s : Shared) (H : Hp) (C : Addr) (cl : List (Str × Addr)) (fp : List Addr), PTs (bx X s H scope (compEnvC scope cl C X.env) fp E L) ifs tt)
    (he : ∀ (s : Shared) (H : Hp) (C : Addr) (cl : List (Str × Addr)) (fp : List Addr), PE (bx X s H scope (compEnvC scope cl C X.env) fp E L) elt te) (hs : ∀ x, foldedSetIterable iter X.env x = pure x := by intro _; rfl) :
    PS X (.Assign [.Name y py] (.ListComp elt [⟨tg, iter, ifs, 0⟩] scope pos) spos) (tAsg (tLc wi g tt te (own.map (·.2))) (gName i)) := by
  refine ⟨fun pins s σ H D I h => ?_⟩
  have h : tLc wi g tt te (own.map (·.2)) σ H fun x H1 => gName i x σ H1 D.nx := h
  rw [exec_Assign_Name_used _ _ _ _ hsw]
  refine wpAny_bind (wpAny_standAt (wpAny_bind (wpAny_bind (thn (lcx_core (use := some (assign (.Name y py) X.env)) (Qf := fun _ t => SP X pins D .next t) hc hN hX I hi ok (fun s H C cl fp => ⟨hg s H C cl fp, ht s H C cl fp, he s H C cl fp⟩) hs h fun M ce t m H' I' q hn f => ?_) fun _ t hq => wpAny_pure (wpAny_pure hq)))))
  obtain ⟨k0, k1, k2, k3, k4, k5⟩ := f
  show wpAny _ _ (assign (.Name y py) X.env (.ref M)) _ _ _
  refine wpAny_assign_Name (store_ok2 (v := V.ref M) I' hN hy (.inl hyl) rfl (fun s2 I2 ⟨a, sb, ha⟩ => ?_) (.inr hyl))
  have ne : ce.locals ≠ a := ha.elim (fun z => by rw [z]; exact k1) fun z e => k4 y a z e.symm
  exact ⟨m, hn.sameBut sb ne, fun h3 sb3 => ⟨_, H', I2.turned (t' := s2.toks) (fun b o hb e => (sb3.2 b hb).trans e) k0 k1 k3 k4 k5, q⟩⟩
end
end LX

/-! ##### a comprehension of two fors -/
namespace PV
open PySem PySem.Spec PyProof.Rows L2 Cm
open GX (Sm)
section
variable {K : PySem.W.Frag} {Ps : List Addr} {W : WX} {F : Fr} {g : Gm} {σ : L2.St} {H H1 H2 : Hp}
def Comp2 (t : Tgt) (pt : GT) (pi1 : GI) (t1 : Tgt) (pt1 : GT) (pe : GE) (vs1 : List Nat) (gw : Gm) (PX : Er → Prop) (k : List PyData → Prop) : List PyData → List PyData → Prop
  | acc, [] => k acc
  | acc, x :: xs => pTgt t x gw fun g' => pt g' PX fun b => (b = true → owns (wipeG g' vs1) = owns g' ∧ pi1 g' PX fun items1 => Comp t1 pt1 pe (wipeG g' vs1) PX (fun out => Comp2 t pt pi1 t1 pt1 pe vs1 gw PX k out xs) acc items1) ∧
      (b = false → Comp2 t pt pi1 t1 pt1 pe vs1 gw PX k acc xs)
def pLc2 (pi : GI) (t : Tgt) (pt : GT) (pi1 : GI) (t1 : Tgt) (pt1 : GT) (pe : GE) (vs vs1 : List Nat) : GE := fun g PX Q => owns (wipeG g vs) = owns g ∧ pi g PX fun items => Comp2 t pt pi1 t1 pt1 pe vs1 (wipeG g vs) PX (fun out => Q (.v .fr (.list out))) [] items
theorem le_lc2 {wi wi1 : TI} {tt tt1 : TT} {te : TE} {vs vs1 : List Nat} {pi pi1 : GI} {pt pt1 : GT} {pe : GE} (t t1 : Tgt) (hs : ∀ j, j ∈ tgV t → j ∈ vs) (hs1 : ∀ j, j ∈ tgV t1 → j ∈ vs1) (hW : NoSlot W) (hi : LI K Ps W wi pi) (ht : LT K Ps W tt pt) (hi1 : LI K Ps W wi1 pi1) (ht1 : LT K Ps W tt1 pt1) (he : LE K Ps W te pe) :
    LE K Ps W (tLc2 wi (tgT K t) tt wi1 (tgT K t1) tt1 te vs vs1) (pLc2 pi t pt pi1 t1 pt1 pe vs vs1) := fun F g σ H Q PX PQ I w h k =>
  hi F g σ H _ _ _ I w h.2 fun J H1 items e1 wk q => fun D hD => by
    have how := h.1
    have I1 := I.step e1
    obtain ⟨s1, hnD, hDn, hv⟩ := new_in (o := .lst []) I1 (Sm.refl H1) hD
    have nF : NewTo F.H0 D := hnD.back I1.sm
    have J0 := (Env.hide (vs := []) I1 hD).wipe vs
    refine ⟨fun i m H' => m = items.length - i ∧ i ≤ items.length ∧ Env K Ps ⟨F.H0, D :: F.L0⟩ (wipeG g vs) (wipe σ vs) H' ∧ Sm H1 H' ∧ ∃ ws acc, H' D = some (.lst ws) ∧ RpAll K (off H' (D :: (F.L0 ++ owns g))) ws acc ∧
      Sm (off H1 (F.L0 ++ owns g)) (off H' (D :: (F.L0 ++ owns g))) ∧ Comp2 t pt pi1 t1 pt1 pe vs1 (wipeG g vs) PX (fun out => PQ (.v .fr (.list out))) acc (items.drop i), ⟨items.length, by simp, Nat.zero_le _, J0, s1, [], [], upd_same, .nil, hv _, by rw [List.drop_zero]; exact q⟩, ?_⟩
    rintro i m H' ⟨rfl, hi, J', e', ws, acc, hws, hacc, st, q⟩
    by_cases hlt : i < items.length
    · refine .inr ⟨wk.go i H' _ hlt st, fun H2 => Env K Ps ⟨F.H0, D :: F.L0⟩ (wipeG g vs) (wipe σ vs) H2 ∧ Sm H1 H2 ∧ ∃ ws acc, H2 D = some (.lst ws) ∧ RpAll K (off H2 (D :: (F.L0 ++ owns g))) ws acc ∧
        Sm (off H1 (F.L0 ++ owns g)) (off H2 (D :: (F.L0 ++ owns g))) ∧ Comp2 t pt pi1 t1 pt1 pe vs1 (wipeG g vs) PX (fun out => PQ (.v .fr (.list out))) acc (items.drop (i + 1)), fun H2 z => ⟨items.length - (i + 1), by omega, rfl, hlt, z⟩, fun x H2 y => ?_⟩
      have hL : ∀ q ∈ D :: (F.L0 ++ owns g), Hid H' q := fun q hq => hidden J' (by rw [how]; exact hq)
      obtain ⟨s, d, hd, hr⟩ := wk.yld i H' _ x H2 hlt st hL y
      rw [drop_get hd] at q
      have hr' : Rp K (off H2 (D :: F.L0 ++ owns (wipeG g vs))) x d := by rw [how]; exact hr
      refine tgt_ok t (J'.step s) hr' (tgt_owns t (fun j hj => wipeG_no (hs j hj)) q) fun g2 σ2 I2 _ hj hn ⟨q2, ho2, _⟩ => ⟨wipe_of hs hn hj, ?_⟩
      have w2 : ∀ {σ3 : L2.St} {H3}, Sm H1 H3 → Wx K W ⟨F.H0, D :: F.L0⟩ σ3 H3 PX := fun {σ3 H3} e3 er cls d H4 s4 r4 p4 => hW _ _ _ _ _ (w er cls d H4 ((e1.trans e3).trans s4) (r4.sub fun a z => .tail _ z) p4)
      refine ht _ g2 σ2 H2 _ PX _ I2 (w2 (e'.trans s)) q2 fun b H3 e3 q3 => ?_
      have s3 := s.trans e3
      cases b with
      | false =>
        refine iteF ⟨J'.step s3, e'.trans s3, ws, acc, s3.l hws, hacc.mono (sm_off s3 fun _ z => .inl z), st.trans (sm_off s3 fun _ z => .inl z), q3.2 rfl⟩
      | true =>
        obtain ⟨how1, q4⟩ := q3.1 rfl
        refine iteT (hi1 _ g2 σ2 H3 _ PX _ (I2.step e3) (w2 (e'.trans s3)) q4 fun J1 H4 items1 e4 wk1 q5 => ?_)
        have s4 := s3.trans e4
        have v4 : D :: F.L0 ++ owns g2 = D :: (F.L0 ++ owns g) := by rw [ho2, how]; rfl
        rw [v4] at wk1
        refine ⟨fun j k H5 => k = items1.length - j ∧ j ≤ items1.length ∧ Env K Ps ⟨F.H0, D :: F.L0⟩ (wipeG g vs) (wipe σ vs) H5 ∧ Env K Ps ⟨F.H0, D :: F.L0⟩ (wipeG g2 vs1) (wipe σ2 vs1) H5 ∧ Sm H1 H5 ∧ ∃ ws acc, H5 D = some (.lst ws) ∧ RpAll K (off H5 (D :: (F.L0 ++ owns g))) ws acc ∧
          Sm (off H1 (F.L0 ++ owns g)) (off H5 (D :: (F.L0 ++ owns g))) ∧ Sm (off H4 (D :: (F.L0 ++ owns g))) (off H5 (D :: (F.L0 ++ owns g))) ∧ Comp t1 pt1 pe (wipeG g2 vs1) PX (fun out => Comp2 t pt pi1 t1 pt1 pe vs1 (wipeG g vs) PX (fun out => PQ (.v .fr (.list out))) out (items.drop (i + 1))) acc (items1.drop j),
          ⟨items1.length, by simp, Nat.zero_le _, J'.step s4, ((I2.step e3).step e4).wipe vs1, e'.trans s4, ws, acc, s4.l hws, hacc.mono (sm_off s4 fun _ z => .inl z), st.trans (sm_off s4 fun _ z => .inl z), Sm.refl _, by rw [List.drop_zero]; exact q5⟩, ?_⟩
        rintro j k H5 ⟨rfl, hj, J5, I5, e5, ws5, acc5, hws5, hacc5, st5, st15, q5⟩
        by_cases hlt1 : j < items1.length
        · refine .inr ⟨wk1.go j H5 _ hlt1 st15, fun H6 => Env K Ps ⟨F.H0, D :: F.L0⟩ (wipeG g vs) (wipe σ vs) H6 ∧ Env K Ps ⟨F.H0, D :: F.L0⟩ (wipeG g2 vs1) (wipe σ2 vs1) H6 ∧ Sm H1 H6 ∧ ∃ ws acc, H6 D = some (.lst ws) ∧ RpAll K (off H6 (D :: (F.L0 ++ owns g))) ws acc ∧
            Sm (off H1 (F.L0 ++ owns g)) (off H6 (D :: (F.L0 ++ owns g))) ∧ Sm (off H4 (D :: (F.L0 ++ owns g))) (off H6 (D :: (F.L0 ++ owns g))) ∧ Comp t1 pt1 pe (wipeG g2 vs1) PX (fun out => Comp2 t pt pi1 t1 pt1 pe vs1 (wipeG g vs) PX (fun out => PQ (.v .fr (.list out))) out (items.drop (i + 1))) acc (items1.drop (j + 1)),
            fun H6 z => ⟨items1.length - (j + 1), by omega, rfl, hlt1, z⟩, fun x1 H6 y1 => ?_⟩
          have hL1 : ∀ q ∈ D :: (F.L0 ++ owns g), Hid H5 q := fun q hq => hidden J5 (by rw [how]; exact hq)
          obtain ⟨s6, d1, hd1, hr1⟩ := wk1.yld j H5 _ x1 H6 hlt1 st15 hL1 y1
          rw [drop_get hd1] at q5
          have v6 : D :: F.L0 ++ owns (wipeG g2 vs1) = D :: (F.L0 ++ owns g) := by rw [how1, v4]
          have hr1' : Rp K (off H6 (D :: F.L0 ++ owns (wipeG g2 vs1))) x1 d1 := by rw [v6]; exact hr1
          refine tgt_ok t1 (I5.step s6) hr1' (tgt_owns t1 (fun j hj => wipeG_no (hs1 j hj)) q5) fun g3 σ3 I6 _ hj1 hn1 ⟨q6, ho3, _⟩ => ⟨wipe_of hs1 hn1 hj1, ?_⟩
          refine ht1 _ g3 σ3 H6 _ PX _ I6 (w2 (e5.trans s6)) q6 fun b1 H7 e7 q7 => ?_
          have s7 := s6.trans e7
          cases b1 with
          | false =>
            refine iteF ⟨J5.step s7, I5.step s7, e5.trans s7, ws5, acc5, s7.l hws5, hacc5.mono (sm_off s7 fun _ z => .inl z), st5.trans (sm_off s7 fun _ z => .inl z), st15.trans (sm_off s7 fun _ z => .inl z), q7.2 rfl⟩
          | true =>
            refine iteT (he _ g3 σ3 H7 _ PX _ (I6.step e7) (w2 (e5.trans s7)) (q7.1 rfl) fun r y H8 e8 r8 q8 => ?_)
            split at q8
            · next t2 d2 =>
              have s8 := s7.trans e8
              refine ⟨ws5, s8.l hws5, by rw [hacc5.length]; exact q8.2.1, (J5.step s8).hid_upd (.head _) nF, (I5.step s8).hid_upd (.head _) nF, sm_upd (e5.trans s8) (NewTo.none hD), ws5 ++ [y], acc5 ++ [d2], upd_same, ?_, ?_, ?_, q8.2.2⟩
              · rw [off_upd (.head _)]
                refine (hacc5.mono (sm_off s8 fun _ z => .inl z)).append (.cons ?_ .nil)
                have hy := r8.dat (I6.step e7) e8 q8.1
                rw [ho3] at hy
                rw [v6] at hy
                exact hy
              · rw [off_upd (.head _)]
                exact st5.trans (sm_off s8 fun _ z => .inl z)
              · rw [off_upd (.head _)]
                exact st15.trans (sm_off s8 fun _ z => .inl z)
            · exact q8.elim
        · have : j = items1.length := by omega
          subst this
          rw [List.drop_length] at q5
          exact .inl ⟨wk1.stop H5 _ st15, J5, e5, ws5, acc5, hws5, hacc5, st5, q5⟩
    · have : i = items.length := by omega
      subst this
      rw [List.drop_length] at q
      exact .inl ⟨wk.stop H' _ st, k (.v .fr (.list acc)) _ _ (e1.trans e') ⟨D, ws, acc, rfl, rfl, hnD.back e1, hws, hacc⟩ q⟩
/-- row by row -/
theorem comp2_map {α β : Type} {inj : α → PyData} {inj1 : α → β → PyData} {row : α → List β} {f : α → β → PyData} {t t1 : Tgt} {pi1 : GI} {pe : GE} {vs1 : List Nat} {gw : Gm} {PX : Er → Prop} {k : List PyData → Prop} (gs : α → Gm) (gs1 : α → β → Gm) (as : List α)
    (ht : ∀ a, a ∈ as → ∀ Q : Gm → Prop, Q (gs a) → pTgt t (inj a) gw Q) (hl : (as.map fun a => (row a).length).sum ≤ 100000) (ho : ∀ a, a ∈ as → owns (wipeG (gs a) vs1) = owns (gs a))
    (hi : ∀ a, a ∈ as → ∀ P : List PyData → Prop, P ((row a).map (inj1 a)) → pi1 (gs a) PX P) (ht1 : ∀ a, a ∈ as → ∀ b, b ∈ row a → ∀ Q : Gm → Prop, Q (gs1 a b) → pTgt t1 (inj1 a b) (wipeG (gs a) vs1) Q)
    (he : ∀ a, a ∈ as → ∀ b, b ∈ row a → ∀ P : PyData → Prop, P (f a b) → pe (gs1 a b) PX fun r => match r with
      | .v t2 d => t2.ok = true ∧ P d
      | .obj _ => False) (hk : k (as.flatMap fun a => (row a).map (f a))) : Comp2 t pYes pi1 t1 pYes pe vs1 gw PX k [] (as.map inj) := by
  suffices ∀ (as' : List α) (acc : List PyData), (∀ a, a ∈ as' → a ∈ as) → acc.length + (as'.map fun a => (row a).length).sum ≤ 100000 → k (acc ++ as'.flatMap fun a => (row a).map (f a)) → Comp2 t pYes pi1 t1 pYes pe vs1 gw PX k acc (as'.map inj) from this as [] (fun _ z => z) (by simpa using hl) (by simpa using hk)
  intro as'
  induction as' with
  | nil => intro acc _ _ h; simpa [Comp2] using h
  | cons a as' ih =>
    intro acc hm hl hk
    have ha := hm a (.head _)
    rw [List.map_cons, List.sum_cons] at hl
    rw [List.flatMap_cons, ← List.append_assoc] at hk
    refine ht a ha _ ⟨fun _ => ⟨ho a ha, hi a ha _ ?_⟩, fun z => by cases z⟩
    suffices ∀ (bs : List β) (acc : List PyData), (∀ b, b ∈ bs → b ∈ row a) → acc.length + bs.length + (as'.map fun a => (row a).length).sum ≤ 100000 → k (acc ++ bs.map (f a) ++ as'.flatMap fun a => (row a).map (f a)) → Comp t1 pYes pe (wipeG (gs a) vs1) PX (fun out => Comp2 t pYes pi1 t1 pYes pe vs1 gw PX k out (as'.map inj)) acc (bs.map (inj1 a)) from this (row a) acc (fun _ z => z) (by omega) hk
    intro bs
    induction bs with
    | nil =>
      intro acc _ hl hk
      exact ih _ (fun b hb => hm b (.tail _ hb)) (by simpa using hl) (by simpa using hk)
    | cons b bs ih2 =>
      intro acc hb hl hk
      rw [List.length_cons] at hl
      refine ht1 a ha b (hb b (.head _)) _ ⟨fun _ => ?_, fun z => by cases z⟩
      refine he a ha b (hb b (.head _)) (fun d => acc.length < sizeLine ∧ Comp t1 pYes pe (wipeG (gs a) vs1) PX (fun out => Comp2 t pYes pi1 t1 pYes pe vs1 gw PX k out (as'.map inj)) (acc ++ [d]) (bs.map (inj1 a))) ⟨small (by omega), ih2 _ (fun c hc => hb c (.tail _ hc)) (by simp; omega) ?_⟩
      rw [List.append_assoc]
      rw [List.map_cons] at hk
      simpa using hk
/-- element by element; the first that is not ok raises -/
theorem comp_try {α : Type} {inj f : α → PyData} {t : Tgt} {pe : GE} {gw : Gm} {PX : Er → Prop} {k : List PyData → Prop} (ok : α → Bool) (gs : α → Gm) (as : List α) (ht : ∀ a, a ∈ as → ∀ Q : Gm → Prop, Q (gs a) → pTgt t (inj a) gw Q) (hl : as.length ≤ 100000)
    (he : ∀ a, a ∈ as → ok a = true → ∀ P : PyData → Prop, P (f a) → pe (gs a) PX fun r => match r with
      | .v t2 d => t2.ok = true ∧ P d
      | .obj _ => False) (hx : ∀ a, a ∈ as → ok a = false → ∀ P : Rs → Prop, pe (gs a) PX P) (hk : as.all ok = true → k (as.map f)) : Comp t pYes pe gw PX k [] (as.map inj) := by
  suffices ∀ (as' : List α) (acc : List PyData), (∀ a, a ∈ as' → a ∈ as) → acc.length + as'.length ≤ 100000 → (as'.all ok = true → k (acc ++ as'.map f)) → Comp t pYes pe gw PX k acc (as'.map inj) from this as [] (fun _ z => z) (by simpa using hl) (by simpa using hk)
  intro as'
  induction as' with
  | nil => intro acc _ _ h; simpa [Comp] using h
  | cons a as' ih =>
    intro acc hm hl hk
    refine ht a (hm a (.head _)) _ ⟨fun _ => ?_, fun z => by cases z⟩
    cases c : ok a with
    | false => exact hx a (hm a (.head _)) c _
    | true =>
      refine he a (hm a (.head _)) c (fun d => acc.length < sizeLine ∧ Comp t pYes pe gw PX k (acc ++ [d]) (as'.map inj)) ⟨small (by rw [List.length_cons] at hl; omega), ih _ (fun b hb => hm b (.tail _ hb)) (by rw [List.length_cons] at hl; simp; omega) fun h2 => ?_⟩
      have := hk (by rw [List.all_cons, c, h2]; rfl)
      rw [List.map_cons] at this
      simpa using this
end
end PV

/-! ### *a, b = a list -/
namespace STX
open PySem PySem.Spec PyProof.Rows L2 Cm
def gStar0 (K : PySem.W.Frag) (n : Nat) (t : TGs) : TG := fun v σ H Q => ∃ (p : Addr) (xs : List V), v = .ref p ∧ SqL K H p xs ∧ (0 < n ∧ n ≤ xs.length + 1 ∧ xs.length ≤ 16384) ∧
  ∀ D, H D = none → t (.ref D :: xs.drop (xs.length + 1 - n)) σ (upd H D (.lst (xs.take (xs.length + 1 - n)))) Q
theorem vals_take {vs : List V} {us : List Value} (r : Vals vs us) : ∀ n, Vals (vs.take n) (us.take n) := by
  induction r with
  | nil => intro n; simp; exact .nil
  | cons a _ ih =>
    intro n
    cases n with
    | zero => exact .nil
    | succ n => exact .cons a (ih n)
theorem vals_drop {vs : List V} {us : List Value} (r : Vals vs us) : ∀ n, Vals (vs.drop n) (us.drop n) := by
  induction r with
  | nil => intro n; simp; exact .nil
  | cons a r ih =>
    intro n
    cases n with
    | zero => exact .cons a r
    | succ n => exact ih n
section
variable {X : Cx} {pos sp : Pos}
theorem pgs_star {e : Expr} {es : List Expr} {t : TG} {u : TGs} (h1 : PG X e t) (h2 : PGs X es u)
    (hs : (assignEach (.Starred e sp :: es) X.env).map (·.2) = assign e X.env :: (assignEach es X.env).map (·.2) := by rfl) : PGs X (.Starred e sp :: es) (gCons t u) :=
  ⟨fun pins s σ H vs us Q I r h => by
    obtain ⟨v, vr, rfl, h⟩ := h
    cases r with
    | cons r rr =>
      rw [hs]
      exact assignInOrder_cons (thn (h1.run pins s σ H _ _ _ I r h) fun _ s1 z => let ⟨σ1, H1, I1, q1⟩ := z; h2.run pins s1 σ1 H1 _ _ Q I1 rr q1)⟩
theorem pg_star0 {es : List Expr} {k : Nat} {t : TGs} {n : Nat} (hc : X.calm = true) (h : PGs X es t)
    (hn : (assignEach es X.env).length = n := by rfl) (hst : (assignEach es X.env).findIdx? (·.1) = some 0 := by rfl) : PG X (.Tuple es k pos) (gStar0 X.K n t) :=
  ⟨fun pins s σ H v u Q I r hw => by
    obtain ⟨p, xs, rfl, hq, ⟨n0, n1, n2⟩, hw⟩ := hw
    cases r
    obtain ⟨its, rv, ⟨op, np, gp, cp, dp, dtp⟩, hz⟩ := I.list hq
    have hl : s.heap.IsList p its.toArray := ⟨op, gp, cp, np, dtp⟩
    have hil : its.length = xs.length := rv.length.symm
    have hh := I.ok.hd hc
    have plt : p < s.heap.objs.size := Heap.lt_size gp
    show wpAny _ X.A (assign (.Tuple es k pos) X.env (.ref p)) _ _ s
    rw [assign_Tuple]
    refine wpAny_bind (wpAny_standAt ?_)
    unfold unpack
    rw [hn, hst]
    refine wpAny_bind (wpAny_holding ?_)
    unfold unpackItems
    refine wpAny_bind ?_
    unfold notIterableAtAll
    refine wpAny_bind (wpAny_specialOf hl.typeIs slot_list_iter.lookup ?_)
    refine wpAny_pure ?_
    simp only [Bool.false_eq_true, if_false]
    refine wpAny_bind (wpAny_holding (wpAny_pyIter_list hl ?_))
    refine wpAny_bind (wpAny_holding ?_)
    show wpAny _ X.A (pure []) _ _ _
    refine wpAny_pure ?_
    rw [if_neg (by simp)]
    have git : ({ s with heap := s.heap.push { cls := .type "list_iterator", data := .fields #[.ref p, .int 0 0] } } : Shared).heap.IsListIter s.heap.objs.size p 0 := ⟨_, Heap.get?_push_size _ rfl, rfl, rfl⟩
    refine wpAny_bind (wpAny_holding (PySem.W.kun_collect (s := { s with heap := s.heap.push { cls := .type "list_iterator", data := .fields #[.ref p, .int 0 0] } }) (T := "list_iterator") (.inr (.inr (.inl rfl))) (Walks.list (A := X.A.in1) hh s.heap.objs.size p (Nat.ne_of_lt plt) its.toArray) (fun j u st => st.1.typeIs) (k := 0) (Nat.zero_le _) ⟨git, hl.push _⟩ (Heap.lt_size (Heap.get?_push_size _ rfl)) (Heap.lt_size (Heap.get?_push_of_some _ gp)) (fun h2 tk hk => ?_) (by rw [sizeLine_eq]; simp; omega)))
    have hn1 : n - 1 - 0 = n - 1 := by omega
    rw [List.drop_zero, hn1]
    show wpAny _ X.A (if its.length < n - 1 then _ else _) _ _ _
    rw [if_neg (by omega)]
    show wpAny _ X.A (newList (its.take (its.length - (n - 1))) >>= fun d => pure ([] ++ [d] ++ its.drop (its.length - (n - 1)))) _ _ _
    have fp := I.fpOk (H' := H) (b := s.heap.objs.size) (Nat.le_refl _) (I.hok.fresh (Nat.le_refl _))
    have I2 : Inv X pins σ H { s with heap := h2, toks := tk } := I.turned (it := s.heap.objs.size) (fun b o hb e => hk b o hb (Heap.get?_push_of_some _ e)) fp.1 fp.2.1 fp.2.2.2.1 fp.2.2.2.2.1 fp.2.2.2.2.2
    refine wpAny_bind (wpAny_newObj_type (wpAny_pure ?_) (by show (its.take _).toArray.size ≤ _; simp; rw [sizeLine_eq]; omega))
    have hD : H h2.objs.size = none := I2.hok.fresh (Nat.le_refl _)
    have e1 : its.length - (n - 1) = xs.length + 1 - n := by omega
    rw [e1]
    have I3 : Inv X pins σ (upd H h2.objs.size (.lst (xs.take (xs.length + 1 - n)))) { s with heap := h2.push { cls := .type "list", data := .seq (its.take (xs.length + 1 - n)).toArray }, toks := tk } :=
      I2.laid (t' := tk) (fun b o e => Heap.get?_push_of_some _ e) (Nat.le_refl _) ⟨by rw [List.length_take, sizeLine_eq]; omega, its.take (xs.length + 1 - n), 0, vals_take rv _, Heap.get?_push_size _ rfl⟩
    exact h.run pins _ σ _ (.ref h2.objs.size :: xs.drop (xs.length + 1 - n)) (.ref h2.objs.size :: its.drop (xs.length + 1 - n)) Q I3 (.cons rfl (vals_drop rv _)) (hw _ hD)⟩
/-! text.index(text), found -/
def rIdxT : V → List V → Hp → VK → Prop := fun x xs H Q => ∃ (a b : Str) (k : Nat), x = .str a ∧ xs = [.str b] ∧ Txt.index0 a b = some k ∧ Q (.int (k : Int)) H
theorem mt_indexT (hc : X.calm = true) : MtR X "str.index" rIdxT := fun pins s σ H x xs v us Q I rx rs ⟨a, b, k, e1, e2, hk, q⟩ =>
  mt_indexX (W := fun _ _ _ _ => False) hc takes0 pins s σ H x xs v us Q I rx rs ⟨a, b, e1, e2, fun k' h' => by
    rw [hk] at h'
    cases h'
    exact q, fun z => by
    rw [hk] at z
    cases z⟩
/-! text * int -/
def rMulS : V → V → Hp → VK → Prop := fun x y H Q => ∃ (i : Str) (n : Int), x = .str i ∧ y = .int n ∧ MulOk i n ∧ Q (.str (Txt.mul i n)) H
theorem op_mulS : OpR X (binaryOp .Mult) rMulS := by
  intro pins s σ H x y v u Q I rx ry ⟨i, n, e1, e2, hm, q⟩
  subst e1 e2
  obtain ⟨t, rfl⟩ := rx
  obtain ⟨t2, rfl⟩ := ry
  exact PySem.SB.mul hm fun t' k => ⟨.str (Txt.mul i n), H, I.tok _, ⟨_, rfl⟩, q⟩
end
end STX

namespace PV
open PySem PySem.Spec PyProof.Rows L2 Cm
open GX (Sm)
section
variable {K : PySem.W.Frag} {Ps : List Addr} {W : WX} {F : Fr} {g : Gm} {σ : L2.St} {H H1 H2 : Hp}
/-! ##### *a, b = a list -/
def pAsgStar (pa : GE) (i j : Nat) : GS := fun PD g => pa g (PD.ex g) fun r => match r with
  | .v t (.list ds) => t.ok = true ∧ ds.length ≤ 16384 ∧ ∃ ds0 d, ds = ds0 ++ [d] ∧ PD.nx ((g.set i (some (.dat (.list ds0)))).set j (some (.dat d)))
  | _ => False
theorem ls_asgStar {i j : Nat} {te : TE} {pa : GE} (ha : LE K Ps W te pa) : LS K Ps W (tAsg te (STX.gStar0 K 2 (gCons (gName i) (gCons (gName j) gNil)))) (pAsgStar pa i j) := fun F D σ H PD g I E h =>
  ha F g σ H _ _ _ I (E.wx I) h fun r v H1 e1 r1 h1 => by
    split at h1
    · next t ds =>
      obtain ⟨ht, hl, ds0, d, rfl, q⟩ := h1
      have hr := r1.dat I e1 ht
      cases hr with
      | @lst p vs _ hp ha =>
        have hp1 := (off_some hp).2
        have hvl := ha.length
        rw [List.length_append, List.length_singleton] at hvl hl
        refine ⟨p, vs, rfl, SqL.of hp1, ⟨by decide, by omega, by omega⟩, fun A hA => ?_⟩
        have em : vs.length + 1 - 2 = ds0.length := by omega
        rw [em]
        obtain ⟨s, hn, hni, hv⟩ := new_in (o := .lst (vs.take ds0.length)) I e1 hA
        have h1 : RpAll K (off H1 (F.L0 ++ owns g)) (vs.take ds0.length) ds0 := by
          have := ha.take ds0.length
          rwa [List.take_left] at this
        have h2 : RpAll K (off H1 (F.L0 ++ owns g)) (vs.drop ds0.length) [d] := by
          have := ha.drop ds0.length
          rwa [List.drop_left] at this
        have so : Sm (off H1 (F.L0 ++ owns g)) (off (upd H1 A (.lst (vs.take ds0.length))) (F.L0 ++ owns g)) := sm_off s fun _ z => .inl z
        have I1 := I.step (e1.trans s)
        have I2 := I1.set_dat (i := i) (v := .ref A) (d := .list ds0) (.lst ((off_ne hni).trans upd_same) (h1.mono so))
        cases hd : vs.drop ds0.length with
        | nil =>
          rw [hd] at h2
          cases h2
        | cons y ys =>
          rw [hd] at h2
          cases h2 with
          | cons hy hys =>
            cases hys
            refine ⟨.ref A, [y], rfl, y, [], rfl, rfl, E.nx _ _ _ (I2.set_dat (i := j) (v := y) (d := d) ?_) q⟩
            exact (hy.mono so).mono (vis_set rfl)
    · exact h1.elim
/-! ##### texts -/
def pSplit : Str → Rs → (Rs → Prop) → Prop := fun a y Q => match y with
  | .v _ (.str b) => (b.length == 0) = false ∧ a.length + 2 ≤ sizeLine ∧ Q (.v .fr (.list ((Txt.split a b).map .str)))
  | _ => False
theorem RpAll.ofStrs {H : Hp} : ∀ (ys : List Str), RpAll K H (ys.map V.str) (ys.map PyData.str)
  | [] => .nil
  | y :: ys => .cons (.str y) (RpAll.ofStrs ys)
theorem lm_split : LMS K Ps (fun x xs H Q => ∃ a b, x = .str a ∧ xs = [.str b] ∧ (b.length == 0) = false ∧ a.length + 2 ≤ sizeLine ∧ rNewStrs (Txt.split a b) H Q) pSplit := by
  intro F g σ H H1 a y w Q PQ I e ry h k
  unfold pSplit at h
  split at h
  · next t b =>
    obtain ⟨h1, h2, q⟩ := h
    cases ry.rp I e
    refine ⟨a, b, rfl, rfl, h1, h2, fun p hp => ?_⟩
    exact k _ _ _ (sm_new (Sm.refl H1) hp) (rs_fr I e hp (RpAll.ofStrs _)) q
  · exact h.elim
def pPartition : Str → Rs → (Rs → Prop) → Prop := fun a y Q => match y with
  | .v _ (.str b) => (b.length == 0) = false ∧ a.length ≤ sizeLine ∧ Q (.v .dat (.tuple [.str (Txt.partition a b).1, .str (Txt.partition a b).2.1, .str (Txt.partition a b).2.2]))
  | _ => False
theorem lm_partition : LMS K Ps (fun x xs H Q => ∃ a b, x = .str a ∧ xs = [.str b] ∧ (b.length == 0) = false ∧ a.length ≤ sizeLine ∧
      ∀ p, H p = none → Q (.ref p) (upd H p (.tup [.str (Txt.partition a b).1, .str (Txt.partition a b).2.1, .str (Txt.partition a b).2.2]))) pPartition := by
  intro F g σ H H1 a y w Q PQ I e ry h k
  unfold pPartition at h
  split at h
  · next t b =>
    obtain ⟨h1, h2, q⟩ := h
    cases ry.rp I e
    refine ⟨a, b, rfl, rfl, h1, h2, fun p hp => ?_⟩
    exact k _ _ _ (sm_new (Sm.refl H1) hp) (rs_tup I e hp (.cons (.str _) (.cons (.str _) (.cons (.str _) .nil)))) q
  · exact h.elim
def pIdxT : Str → Rs → (Rs → Prop) → Prop := fun a y Q => match y with
  | .v _ (.str b) => ∃ k, Txt.index0 a b = some k ∧ Q (.v .dat (.int (k : Int)))
  | _ => False
theorem lm_idxT : LMS K Ps STX.rIdxT pIdxT := by
  intro F g σ H H1 a y w Q PQ I e ry h k
  unfold pIdxT at h
  split at h
  · next t b =>
    obtain ⟨i, h1, q⟩ := h
    cases ry.rp I e
    exact ⟨a, b, i, rfl, rfl, h1, k _ _ _ (Sm.refl H1) (rs_dat (.int _)) q⟩
  · exact h.elim
def pMulS : Rs → Rs → (Rs → Prop) → Prop := fun x y Q => match x, y with
  | .v _ (.str i), .v _ (.int n) => MulOk i n ∧ Q (.v .dat (.str (Txt.mul i n)))
  | _, _ => False
theorem lr_mulS : LR2 K Ps STX.rMulS pMulS := by
  intro F g σ H H1 x y v u Q PQ I e rx ry h k
  unfold pMulS at h
  split at h
  · cases rx.rp I e
    cases ry.rp I e
    exact ⟨_, _, rfl, rfl, h.1, k _ _ _ (Sm.refl H1) (rs_dat (.str _)) h.2⟩
  · exact h.elim
end
end PV

namespace PV
open PySem PySem.Spec PyProof.Rows L2 Cm
open GX (Sm)
section
variable {K : PySem.W.Frag} {Ps : List Addr} {W : WX} {F : Fr} {g : Gm} {σ : L2.St} {H H1 H2 : Hp}
/-! ##### sum of a generator expression of two fors -/
def GenS2 (t : Tgt) (pi1 : GI) (t1 : Tgt) (pt1 : GT) (pe : GE) (vs1 : List Nat) (gw : Gm) (PX : Er → Prop) (Q : Rs → Prop) : Int → List PyData → Prop
  | a, [] => Q (.v .dat (.int a))
  | a, x :: xs => pTgt t x gw fun g' => owns (wipeG g' vs1) = owns g' ∧ pi1 g' PX fun items1 => items1.length ≤ 100000 ∧ GenS t1 pt1 pe (wipeG g' vs1) PX (fun r => match r with
      | .v _ (.int b) => GenS2 t pi1 t1 pt1 pe vs1 gw PX Q b xs
      | _ => False) a items1
def pSum2 (pi : GI) (t : Tgt) (pi1 : GI) (t1 : Tgt) (pt1 : GT) (pe : GE) (own : List (Str × Nat)) (ext : List Str) (vs1 : List Nat) : GE := fun g PX Q => owns (gG g own ext) = owns g ∧ pi g PX fun items => GenS2 t pi1 t1 pt1 pe vs1 (gG g own ext) PX Q 0 items
theorem le_sum2 {wi wi1 : TI} {te : TE} {tt : TT} {pi pi1 : GI} {pt : GT} {pe : GE} {P : Addr} {own : List (Str × Nat)} {ext : List Str} {vs1 : List Nat} (t t1 : Tgt) (hs1 : ∀ j, j ∈ tgV t1 → j ∈ vs1) (hP : P ∈ Ps) (hW : NoSlot W) (hi : LI K Ps W wi pi) (hi1 : LI K Ps W wi1 pi1) (ht : LT K Ps W tt pt) (he : LE K Ps W te pe) :
    LE K Ps W (GX.tSum2 P wi (tgT K t) wi1 (tgT K t1) te tt own ext vs1) (pSum2 pi t pi1 t1 pt pe own ext vs1) := fun F g σ H Q PX PQ I w h k =>
  hi F g σ H _ _ _ I w h.2 fun J H1 items e1 wk q => ⟨(I.step e1).tb P hP, fun H2 tb => by
    have how := h.1
    have s12 := gen_side I e1 hP tb
    have e2 := e1.trans s12
    have J0 := (I.step e2).gen own ext
    refine ⟨fun i m a H' => m = (items.length - i) * 100002 ∧ i ≤ items.length ∧ Sm H2 H' ∧ GenS2 t pi1 t1 pt pe vs1 (gG g own ext) PX PQ a (items.drop i), ⟨items.length * 100002, by simp, Nat.zero_le _, Sm.refl H2, by rw [List.drop_zero]; exact q⟩, ?_⟩
    rintro i m a H' ⟨rfl, hi, e', q⟩
    have st : Sm (off H1 (F.L0 ++ owns g)) (off H' (F.L0 ++ owns g)) := sm_off (s12.trans e') fun _ z => .inl z
    have J' := J0.step e'
    by_cases hlt : i < items.length
    · refine .inr ⟨wk.go i H' _ hlt st, fun x H3 y => ?_⟩
      obtain ⟨s, d, hd, hr⟩ := wk.yld i H' _ x H3 hlt st (fun q hq => hidden (I.step (e2.trans e')) hq) y
      rw [drop_get hd] at q
      have hr' : Rp K (off H3 (F.L0 ++ owns (gG g own ext))) x d := by rw [how]; exact hr
      refine tgt_ok t (J'.step s) hr' q fun g2 σ2 I2 _ _ _ q2 => ?_
      have w2 : ∀ {σ' : L2.St} {H5}, Sm H3 H5 → Wx K W F σ' H5 PX := fun {σ' H5} e5 er cls d H4 s4 r4 p4 => hW _ _ _ _ _ (w er cls d H4 ((((e2.trans e').trans s).trans e5).trans s4) r4 p4)
      obtain ⟨how1, q2⟩ := q2
      refine hi1 _ g2 σ2 H3 _ PX _ I2 (w2 (Sm.refl _)) q2 fun J1 H5 items1 e5 wk1 q5 => ?_
      obtain ⟨hl1, q5⟩ := q5
      have K0 := (I2.step e5).wipe vs1
      refine ⟨fun j k a H' => k = (items.length - (i + 1)) * 100002 + 1 + (items1.length - j) ∧ j ≤ items1.length ∧ Sm H5 H' ∧ GenS t1 pt pe (wipeG g2 vs1) PX (fun r => match r with
        | .v _ (.int b) => GenS2 t pi1 t1 pt pe vs1 (gG g own ext) PX PQ b (items.drop (i + 1))
        | _ => False) a (items1.drop j), ⟨_, ?_, rfl, Nat.zero_le _, Sm.refl H5, by rw [List.drop_zero]; exact q5⟩, ?_⟩
      · have : (items.length - i) * 100002 = (items.length - (i + 1)) * 100002 + 100002 := by
          rw [show items.length - i = items.length - (i + 1) + 1 by omega, Nat.add_mul, Nat.one_mul]
        omega
      rintro j k' a' H6 ⟨rfl, hj, e6, q6⟩
      have st1 : Sm (off H5 (F.L0 ++ owns g2)) (off H6 (F.L0 ++ owns g2)) := sm_off e6 fun _ z => .inl z
      have K1 := K0.step e6
      by_cases hlt1 : j < items1.length
      · refine .inr ⟨wk1.go j H6 _ hlt1 st1, fun a H7 => Sm H5 H7 ∧ GenS t1 pt pe (wipeG g2 vs1) PX (fun r => match r with
          | .v _ (.int b) => GenS2 t pi1 t1 pt pe vs1 (gG g own ext) PX PQ b (items.drop (i + 1))
          | _ => False) a (items1.drop (j + 1)), fun a H7 z => ⟨_, by omega, rfl, hlt1, z⟩, fun x1 H7 y1 => ?_⟩
        obtain ⟨s7, d1, hd1, hr1⟩ := wk1.yld j H6 _ x1 H7 hlt1 st1 (fun q hq => hidden (I2.step (e5.trans e6)) hq) y1
        rw [drop_get hd1] at q6
        have hr1' : Rp K (off H7 (F.L0 ++ owns (wipeG g2 vs1))) x1 d1 := by rw [how1]; exact hr1
        refine tgt_ok t1 (K1.step s7) hr1' q6 fun g3 σ3 I3 _ hj3 hn3 q7 => ⟨wipe_of hs1 hn3 hj3, ?_⟩
        have e57 := (e5.trans e6).trans s7
        refine ht _ g3 σ3 H7 _ PX _ I3 (w2 e57) q7 fun c H8 e8 q8 => ?_
        have e68 := (e6.trans s7).trans e8
        cases c with
        | false => exact iteF ⟨e68, q8.2 rfl⟩
        | true =>
          refine iteT (he _ g3 σ3 H8 _ PX _ (I3.step e8) (w2 (e57.trans e8)) (q8.1 rfl) fun r v H9 e9 r9 q9 => ?_)
          split at q9
          · next t2 b =>
            cases r9.rp (I3.step e8) e9
            exact ⟨b, rfl, e68.trans e9, q9⟩
          · exact q9.elim
      · have : j = items1.length := by omega
        subst this
        rw [List.drop_length] at q6
        exact .inl ⟨wk1.stop H6 _ st1, _, by omega, rfl, hlt, ((e'.trans s).trans (e5.trans e6)), q6⟩
    · have : i = items.length := by omega
      subst this
      rw [List.drop_length] at q
      exact .inl ⟨wk.stop H' _ st, k _ _ _ (e2.trans e') (rs_dat (.int _)) q⟩⟩
end
end PV
namespace PV
open PySem PySem.Spec PyProof.Rows L2 Cm
theorem gen_sum2 {α : Type} {inj : α → PyData} {t t1 : Tgt} {pi1 : GI} {pt1 : GT} {pe : GE} {vs1 : List Nat} {gw : Gm} {PX : Er → Prop} {Q : Rs → Prop} (gs : α → Gm) (f : α → Int) (as : List α) (a0 : Int) (ht : ∀ a, a ∈ as → ∀ Q : Gm → Prop, Q (gs a) → pTgt t (inj a) gw Q)
    (hb : ∀ a, a ∈ as → ∀ (b : Int) (P : Int → Prop), P (b + f a) → owns (wipeG (gs a) vs1) = owns (gs a) ∧ pi1 (gs a) PX fun items1 => items1.length ≤ 100000 ∧ GenS t1 pt1 pe (wipeG (gs a) vs1) PX (fun r => match r with
      | .v _ (.int b) => P b
      | _ => False) b items1) (hq : Q (.v .dat (.int (a0 + (as.map f).sum)))) : GenS2 t pi1 t1 pt1 pe vs1 gw PX Q a0 (as.map inj) := by
  induction as generalizing a0 with
  | nil => simpa [GenS2] using hq
  | cons a as ih =>
    refine ht a (.head _) _ (hb a (.head _) a0 (fun b => GenS2 t pi1 t1 pt1 pe vs1 gw PX Q b (as.map inj)) (ih _ (fun b h => ht b (.tail _ h)) (fun b h => hb b (.tail _ h)) ?_))
    rw [List.map_cons, List.sum_cons, ← Int.add_assoc] at hq
    exact hq
end PV

namespace PV
open PySem PySem.Spec PyProof.Rows L2 Cm
open GX (Sm)
/-! ##### defs that change an argument: a list, a table, a dict of the caller's own -/
/-- the arguments (the changed one as anything), what the changed one is, what is promised of it afterwards -/
abbrev PSpI := List Rs → Sl → (Sl → Prop) → Prop
/-- the value is this address -/
def adA (p : Addr) : Asr := ⟨fun v _ => v = .ref p, fun _ _ _ _ h => h, []⟩
section
variable {K : PySem.W.Frag} {Ps : List Addr} {W : WX} {F : Fr} {g : Gm} {σ : L2.St} {H H1 H2 : Hp}
def spIO (K : PySem.W.Frag) (Ps : List Addr) (j : Nat) (psp : PSpI) : Sp := fun vs H Q _ => ∃ L0 as x p r PQ, (∀ q ∈ L0, Hid H q) ∧ (∀ a ∈ ownsOf (some x), Hid H a ∧ a ∉ L0) ∧ (ownsOf (some x)).Nodup ∧ ownsOf (some x) = p :: r ∧ ArgsR K (off H (L0 ++ ownsOf (some x))) vs as ∧ vs[j]? = some (.ref p) ∧
  SlR K H (off H (L0 ++ ownsOf (some x))) x (.ref p) ∧ (∀ P ∈ Ps, GxR.TabG H P) ∧ psp as x PQ ∧
  (∀ y H2, Sm (off H (ownsOf (some x))) H2 → ownsOf (some y) = ownsOf (some x) → SlR K H2 (off H2 (L0 ++ ownsOf (some x))) y (.ref p) → PQ y → Q .non H2)
theorem slr_ref {V0 : Hp} {x : Sl} {u : V} {p : Addr} {r : List Addr} (h : SlR K H V0 x u) (e : ownsOf (some x) = p :: r) : u = .ref p := by
  cases x with
  | dat d => cases e
  | obj A => cases e
  | own q xs =>
    cases e
    exact h.1
  | tab q rs rows =>
    cases e
    exact h.1
  | dic q kvs =>
    cases e
    exact h.1
  | dit q ks =>
    cases e
    exact h.1
/-- one's own things stand in the heap -/
theorem slr_hid {V0 : Hp} {x : Sl} {u : V} (h : SlR K H V0 x u) : ∀ a ∈ ownsOf (some x), Hid H a := fun a ha => by
  cases x with
  | dat d => cases ha
  | obj A => cases ha
  | own q xs =>
    obtain ⟨_, vs, hp, _⟩ := h
    rw [List.mem_singleton.mp ha]
    exact ⟨_, hp, fun _ z => by cases z⟩
  | dic q kvs =>
    obtain ⟨_, vs, hp, _⟩ := h
    rw [List.mem_singleton.mp ha]
    exact ⟨_, hp, fun _ z => by cases z⟩
  | dit q ks =>
    obtain ⟨_, vs, hp, _⟩ := h
    rw [List.mem_singleton.mp ha]
    exact ⟨_, hp, fun _ z => by cases z⟩
  | tab q rs rows =>
    obtain ⟨_, hp, ht⟩ := h
    rcases List.mem_cons.mp ha with rfl | ha
    · exact ⟨_, hp, fun _ z => by cases z⟩
    · obtain ⟨vs, h2⟩ := ht.hid a ha
      exact ⟨_, h2, fun _ z => by cases z⟩
theorem start_sl {V0 : Hp} {N : List Str} {vs : List V} {as : List Rs} (h2 : ArgsR K V0 vs as) : Slots K H V0 (startG N.length as) (L2.start N vs) := by
  unfold startG L2.start
  rw [h2.length]
  refine Slots.more ?_
  induction h2 with
  | nil => exact trivial
  | dat a _ ih => exact ⟨⟨_, rfl, a⟩, ih⟩
  | obj a _ ih => exact ⟨⟨_, rfl, a⟩, ih⟩
theorem owns_set_of {x : Option Sl} : ∀ {g : Gm} {i : Nat}, owns g = [] → i < g.length → owns (g.set i x) = ownsOf x
  | [], _, _, h => by simp at h
  | y :: g, 0, e, _ => by
    have e : ownsOf y ++ owns g = [] := e
    show ownsOf x ++ owns g = ownsOf x
    rw [(List.append_eq_nil_iff.mp e).2, List.append_nil]
  | y :: g, i + 1, e, h => by
    have e : ownsOf y ++ owns g = [] := e
    show ownsOf y ++ owns (g.set i x) = ownsOf x
    rw [(List.append_eq_nil_iff.mp e).1, owns_set_of (g := g) (i := i) (List.append_eq_nil_iff.mp e).2 (by simpa using h)]
    rfl
theorem startIO {L0 : List Addr} {N : List Str} {vs : List V} {as : List Rs} {x : Sl} {j : Nat} {u : V} (h1 : ∀ q ∈ L0, Hid H q) (h0 : ∀ a ∈ ownsOf (some x), Hid H a ∧ a ∉ L0) (nd : (ownsOf (some x)).Nodup) (h2 : ArgsR K (off H (L0 ++ ownsOf (some x))) vs as) (hj : vs[j]? = some u) (hx : SlR K H (off H (L0 ++ ownsOf (some x))) x u) (h3 : ∀ P ∈ Ps, GxR.TabG H P) :
    Env K Ps ⟨off H (ownsOf (some x)), L0⟩ ((startG N.length as).set j (some x)) (L2.start N vs) H := by
  have e := owns_start (n := N.length) h2
  have hjl : j < vs.length := (List.getElem?_eq_some_iff.mp hj).1
  have hl : j < (startG N.length as).length := by
    unfold startG
    rw [List.length_append, List.length_map, ← h2.length]
    omega
  have ho := owns_set_of (x := some x) e hl
  have hs : (L2.start N vs)[j]? = some (some u) := by
    unfold L2.start
    rw [List.getElem?_append_left (by rw [List.length_map]; exact hjl), List.getElem?_map, hj]
    rfl
  have sl := Slots.set (x := x) (i := j) hx (start_sl (N := N) (H := H) h2)
  rw [set_same hs] at sl
  refine ⟨?_, sm_hide, h3, h1, by rw [ho]; exact nd, fun q z => ?_⟩
  · rw [ho]
    exact sl
  · rw [ho] at z
    exact ⟨⟨fun o e => absurd z (off_some e).1, fun t => absurd z (tab_off t).1⟩, (h0 q z).2, (h0 q z).1⟩
def endsIO (j : Nat) (x : Sl) (PQ : Sl → Prop) : GEnds := ⟨fun g => ∃ y, g[j]? = some (some y) ∧ ownsOf (some y) = ownsOf (some x) ∧ PQ y, fun _ => False, fun _ => False, fun _ => False, fun _ _ => False⟩
theorem ends_okIO {L0 : List Addr} {Q : VK} {j : Nat} {x : Sl} {p : Addr} {r : List Addr} {PQ : Sl → Prop} (hp : ownsOf (some x) = p :: r) (k : ∀ y H2, Sm (off H (ownsOf (some x))) H2 → ownsOf (some y) = ownsOf (some x) → SlR K H2 (off H2 (L0 ++ ownsOf (some x))) y (.ref p) → PQ y → Q .non H2) :
    Ends' K Ps W0 ⟨off H (ownsOf (some x)), L0⟩ (endsIO j x PQ) { nx := fun _ H' => Q .non H', rt := Q } := by
  refine ⟨fun g σ H' I q => ?_, fun _ _ _ _ z => z.elim, fun _ _ _ _ z => z.elim, fun _ _ _ _ _ z => z.elim, fun _ _ _ _ _ _ _ _ z => z.elim⟩
  obtain ⟨y, hg, ho, q⟩ := q
  obtain ⟨u, h1, h2⟩ := I.sl.get hg
  have hu := slr_ref h2 (ho.trans hp)
  subst hu
  refine k y H' I.sm ho (h2.mono (Sm.refl _) (sm_sub fun a z => ?_)) q
  rcases List.mem_append.mp z with z | z
  · exact List.mem_append_left _ z
  · rw [← ho] at z
    exact List.mem_append_right _ (mem_ownsOf z (List.mem_of_getElem? hg))
variable {P : Program} {w : World} {mg : Str → Option Value} {base : Heap} {x qual : Str} {st : Stmt} {f : Addr} {fd : FuncData} {N ps : List Str} {k j : Nat} {psp : PSpI}
theorem pv_fnI (Fn : Fun K x qual st f fd) (S : FnScope N ps (defScope st)) (len : ∀ as x PQ, psp as x PQ → as.length = ps.length)
    (hb : ∀ (cdv : Value) (A : Around) (outer : List PySem.Env) (s : Shared) (H : Hp) (E : XK), Room k (A.deeper (envOfC qual (defScope st) s.heap.objs.size f cdv)) →
      ∃ t p, PSs (cxOf CX0 P w K mg base N qual (defScope st) f cdv A outer s H E).nox (defBody st) t ∧ LS K Ps W0 t p ∧ ∀ as x PQ, psp as x PQ → p (endsIO j x PQ) ((startG N.length as).set j (some x))) :
    FnOk P w K mg base CX0 (k + 1) f fd ps (spIO K Ps j psp) := by
  refine Fn.ok S (fun vs H Q E h => ?_) fun cdv A outer s H vs Q E hr h => ?_
  · obtain ⟨L0, as, x, p, r, PQ, h1, h2, h3, h4, h5, h6, h7, h8, h9, h10⟩ := h
    rw [h5.length]
    exact len as x PQ h9
  · obtain ⟨L0, as, x, p, r, PQ, h1, h2, h3, h4, h5, h6, h7, h8, h9, h10⟩ := h
    obtain ⟨t, q, ht, hl, hp⟩ := hb cdv A outer s H E hr
    exact ⟨t, ht, hl ⟨off H (ownsOf (some x)), L0⟩ _ _ H _ _ (startIO h1 h2 h3 h5 h6 h7 h8) (ends_okIO h4 h10) (hp as x PQ h9)⟩
theorem pv_defI (d : Dn K mg x st ps) (S : FnScope N ps (defScope st)) (len : ∀ as x PQ, psp as x PQ → as.length = ps.length)
    (hb : ∀ (f : Addr) (cdv : Value) (A : Around) (outer : List PySem.Env) (s : Shared) (H : Hp) (E : XK), Room k (A.deeper (envOfC x (defScope st) s.heap.objs.size f cdv)) →
      ∃ t p, PSs (cxOf CX0 P w K mg base N x (defScope st) f cdv A outer s H E).nox (defBody st) t ∧ LS K Ps W0 t p ∧ ∀ as x PQ, psp as x PQ → p (endsIO j x PQ) ((startG N.length as).set j (some x))) :
    Ok P w K mg base CX0 (k + 1) x ps (spIO K Ps j psp) := ok_of d fun f fd Fn => pv_fnI Fn S len (hb f)
end
/-- a promise with its number of arguments -/
def sgI (n : Nat) (p : PSpI) : PSpI := fun as x Q => as.length = n ∧ p as x Q
section
variable {K : PySem.W.Frag} {Ps : List Addr} {W : WX} {F : Fr} {g : Gm} {σ : L2.St} {H H1 H2 : Hp}
/-- the caller's side: the name of the thing that is changed, as an argument -/
def pIoV (i : Nat) : GE := fun g _ Q => match g[i]? with
  | some (some x) => ∃ p r, ownsOf (some x) = p :: r ∧ Q (.obj (adA p))
  | _ => False
theorem le_ioV {i : Nat} : LE K Ps W (tVar i) (pIoV i) := fun F g σ H Q PX PQ I w h k => by
  unfold pIoV at h
  split at h
  · next x hg =>
    obtain ⟨p, r, e, q⟩ := h
    obtain ⟨u, h1, h2⟩ := I.sl.get hg
    have := slr_ref h2 e
    subst this
    exact ⟨_, h1, k _ _ _ (Sm.refl H) (show RsR K F g H H (.ref p) (.obj (adA p)) from rfl) q⟩
  · exact h.elim
/-- what is not at these addresses stays -/
theorem Slots.cross {X : List Addr} {V0 V1 : Hp} (e : Sm (off H X) H2) (e2 : Sm V0 V1) : ∀ {g : Gm} {s : L2.St}, (∀ a ∈ owns g, a ∉ X) → Slots K H V0 g s → Slots K H2 V1 g s
  | [], [], _, _ => True.intro
  | none :: g, _ :: s, f, h => Slots.cross (g := g) (s := s) e e2 (fun a ha => f a ha) h
  | some x :: g, v :: s, f, ⟨⟨u, h1, h2⟩, h⟩ =>
    ⟨⟨u, h1, (SlR.still (H' := off H X) (fun a ha => off_ne (f a (List.mem_append_left _ ha))) h2).mono e e2⟩, Slots.cross (g := g) (s := s) e e2 (fun a ha => f a (List.mem_append_right _ ha)) h⟩
theorem owns_none_sub {i : Nat} {a : Addr} : ∀ {g : Gm} {i : Nat}, a ∈ owns (g.set i none) → a ∈ owns g := fun {g i} h => (owns_set_in h).elim (fun z => by cases z) id
theorem owns_split {x : Sl} {a : Addr} : ∀ {g : Gm} {i : Nat}, g[i]? = some (some x) → a ∈ owns g → a ∈ ownsOf (some x) ∨ a ∈ owns (g.set i none)
  | [], _, e, _ => by simp at e
  | y :: g, 0, e, h => by
    simp at e
    subst e
    exact (List.mem_append.mp (show a ∈ ownsOf (some x) ++ owns g from h)).imp id fun z => z
  | y :: g, i + 1, e, h => by
    rcases List.mem_append.mp (show a ∈ ownsOf y ++ owns g from h) with z | z
    · exact .inr (List.mem_append_left _ z)
    · exact (owns_split (g := g) (i := i) (by simpa using e) z).imp id fun z => List.mem_append_right _ z
/-- behind the call: the thing is changed, all else stays -/
theorem Env.crossed (I : Env K Ps F g σ H) {x y : Sl} {i : Nat} {p : Addr} {r : List Addr} (hg : g[i]? = some (some x)) (hp : ownsOf (some x) = p :: r) (e : Sm (off H (ownsOf (some x))) H2) (ho : ownsOf (some y) = ownsOf (some x)) (hy : SlR K H2 (off H2 (F.L0 ++ owns g)) y (.ref p)) : Env K Ps F (g.set i (some y)) σ H2 := by
  have hm : ∀ a ∈ ownsOf (some x), a ∈ owns g := fun a ha => mem_ownsOf ha (List.mem_of_getElem? hg)
  have hos : owns (g.set i (some y)) = owns g := owns_put ho hg
  obtain ⟨u, hu, hux⟩ := I.sl.get hg
  have hur := slr_ref hux hp
  subst hur
  have sm0 : Sm F.H0 (off H (ownsOf (some x))) := by
    have := sm_off (L := []) (L' := ownsOf (some x)) I.sm fun a z => .inr (I.nw a (hm a z)).1
    rwa [off_nil] at this
  have hid : ∀ {q}, Hid H q → q ∉ ownsOf (some x) → Hid H2 q := fun {q} h n => Hid.mono e (by
    obtain ⟨o, h1, h2⟩ := h
    exact ⟨o, by rw [off_ne n]; exact h1, h2⟩)
  have vis : Sm (off H (F.L0 ++ owns g)) (off H2 (F.L0 ++ owns g)) := by
    have z := sm_off (L := F.L0 ++ owns g) (L' := F.L0 ++ owns g) e fun a z => .inl z
    have e3 : off (off H (ownsOf (some x))) (F.L0 ++ owns g) = off H (F.L0 ++ owns g) := funext fun a => by
      by_cases z : a ∈ F.L0 ++ owns g
      · rw [off_in z, off_in z]
      · rw [off_ne z, off_ne z, off_ne fun y => z (List.mem_append_right _ (hm a y))]
    rwa [e3] at z
  refine ⟨?_, sm0.trans e, fun P z => e.tab P (tab_off' (fun y => ?_) (I.tb P z)), fun q z => hid (I.hd q z) fun y => (I.nw q (hm q y)).2.1 z, by rw [hos]; exact I.nd, fun q z => ?_⟩
  · rw [hos]
    have s1 := Slots.cross (X := ownsOf (some x)) e vis (fun a ha z => own_out z I.nd hg ha) (I.sl.drop (some (.ref p)) (i := i))
    have s2 := Slots.set (x := y) (i := i) hy s1
    rw [List.set_set, List.set_set, set_same hu] at s2
    exact s2
  · obtain ⟨o, h1, h2⟩ := (I.nw P (hm P y)).2.2
    obtain ⟨ps, h3, _⟩ := I.tb P z
    rw [h1] at h3
    cases h3
    exact h2 _ rfl
  · rw [hos] at z
    refine ⟨(I.nw q z).1, (I.nw q z).2.1, ?_⟩
    by_cases z2 : q ∈ ownsOf (some x)
    · exact slr_hid hy q (by rw [ho]; exact z2)
    · exact hid (I.nw q z).2.2 z2
def pCallIo (i j : Nat) (psp : PSpI) (pa : GA) : GS := fun PD g => pa g (PD.ex g) fun rs => allS rs = true ∧ ∃ x p r, g[i]? = some (some x) ∧ ownsOf (some x) = p :: r ∧ rs[j]? = some (.obj (adA p)) ∧ psp (rs.map Rs.arg) x fun y => ownsOf (some y) = ownsOf (some x) → PD.nx (g.set i (some y))
theorem rsall_at {rs : List Rs} {vs : List V} {j : Nat} {r : Rs} (h : RsAll K F g H H1 vs rs) (e : rs[j]? = some r) : ∃ v, vs[j]? = some v ∧ RsR K F g H H1 v r := by
  induction h generalizing j with
  | nil => simp at e
  | cons a _ ih =>
    cases j with
    | zero =>
      simp at e
      subst e
      exact ⟨_, rfl, a⟩
    | succ j =>
      obtain ⟨v, h1, h2⟩ := ih (j := j) (by simpa using e)
      exact ⟨v, by simpa using h1, h2⟩
theorem ArgsR.mono {V0 V1 : Hp} (e : Sm V0 V1) {vs : List V} {as : List Rs} (h : ArgsR K V0 vs as) : ArgsR K V1 vs as := by
  induction h with
  | nil => exact .nil
  | dat a _ ih => exact .dat (a.mono e) ih
  | @obj v vs rs A a _ ih => exact .obj (A.mono _ _ _ e a) ih
theorem ls_callIo {j : Nat} {psp : PSpI} {E : XK} {ta : TA} {pa : GA} (i : Nat) (ha : LA K Ps W ta pa) : LS K Ps W (tDrop (tCall (spIO K Ps j psp) [] E ta)) (pCallIo i j psp pa) := fun F D σ H PD g I EN h =>
  ha F g σ H _ _ _ I (EN.wx I) h fun rs vs H1 e1 r1 h1 => by
    obtain ⟨hs, x, p, r, hg, hp, hj, h2⟩ := h1
    have I1 := I.step e1
    rw [List.append_nil]
    obtain ⟨v, hv, hvr⟩ := rsall_at r1 hj
    have hvr : v = .ref p := hvr
    subst hvr
    obtain ⟨u, hu, hux⟩ := I1.sl.get hg
    have hur := slr_ref hux hp
    subst hur
    have hm : ∀ a ∈ ownsOf (some x), a ∈ owns g := fun a ha => mem_ownsOf ha (List.mem_of_getElem? hg)
    have hout : ∀ a ∈ ownsOf (some x), a ∉ owns (g.set i none) := fun a ha => own_out ha I1.nd hg
    have nd : (ownsOf (some x)).Nodup := own_nd I1.nd hg
    have back : ∀ a, a ∈ F.L0 ++ owns (g.set i none) ++ ownsOf (some x) → a ∈ F.L0 ++ owns g := fun a z => by
      rcases List.mem_append.mp z with z | z
      · rcases List.mem_append.mp z with z | z
        · exact List.mem_append_left _ z
        · exact List.mem_append_right _ (owns_none_sub (i := i) z)
      · exact List.mem_append_right _ (hm a z)
    have forth : ∀ a, a ∈ F.L0 ++ owns g → a ∈ F.L0 ++ owns (g.set i none) ++ ownsOf (some x) := fun a z => by
      rcases List.mem_append.mp z with z | z
      · exact List.mem_append_left _ (List.mem_append_left _ z)
      · rcases owns_split hg z with z | z
        · exact List.mem_append_right _ z
        · exact List.mem_append_left _ (List.mem_append_right _ z)
    have v1 : Sm (off H1 (F.L0 ++ owns g)) (off H1 (F.L0 ++ owns (g.set i none) ++ ownsOf (some x))) := sm_sub back
    refine ⟨F.L0 ++ owns (g.set i none), rs.map Rs.arg, x, p, r, _, fun q z => hidden I1 (back q (List.mem_append_left _ z)), fun a ha => ⟨(I1.nw a (hm a ha)).2.2, fun z => ?_⟩, nd, hp, (args_ok I e1 r1 hs).mono v1, hv, hux.mono (Sm.refl _) v1, I1.tb, h2, fun y H2 s2 ho hy q => ?_⟩
    · rcases List.mem_append.mp z with z | z
      · exact (I1.nw a (hm a ha)).2.1 z
      · exact hout a ha z
    · exact EN.nx _ σ H2 (I1.crossed hg hp s2 ho (hy.mono (Sm.refl _) (sm_sub forth))) (q ho)
end
end PV

namespace My
open PySem PySem.Spec PyProof.Rows L2 Cm 
def top (i : Nat) : Stmt := PySem.Challenge.pw_scanpages_k41_whole_frame.main.body.getD i (.Pass ⟨0, 0, 0, 0⟩)
abbrev s_check_bed : Stmt := (top 8)
abbrev N_check_bed : List Str := ["bed", "height", "width", "row"]
theorem sc_check_bed : FnScope N_check_bed ["bed"] (defScope s_check_bed) := ⟨rfl, rfl, rfl, by decide +kernel, rfl, by decide +kernel, by decide +kernel⟩
abbrev s_is_length : Stmt := (top 9)
abbrev N_is_length : List Str := ["integer"]
theorem sc_is_length : FnScope N_is_length ["integer"] (defScope s_is_length) := ⟨rfl, rfl, rfl, by decide +kernel, rfl, by decide +kernel, by decide +kernel⟩
abbrev s_find_page : Stmt := (top 11)
abbrev N_find_page : List Str := ["side", "bed", "height", "width", "columns", "column", "lost", "places", "row", "first_row"]
theorem sc_find_page : FnScope N_find_page ["side", "bed"] (defScope s_find_page) := ⟨rfl, rfl, rfl, by decide +kernel, rfl, by decide +kernel, by decide +kernel⟩
abbrev s__ring_blackness : Stmt := (top 12)
abbrev N__ring_blackness : List Str := ["bed", "columns", "side", "row", "column", "bottom", "right", "black"]
theorem sc__ring_blackness : FnScope N__ring_blackness ["bed", "columns", "side", "row", "column"] (defScope s__ring_blackness) := ⟨rfl, rfl, rfl, by decide +kernel, rfl, by decide +kernel, by decide +kernel⟩
abbrev s__law_cell : Stmt := (top 14)
abbrev N__law_cell : List Str := ["script", "k"]
theorem sc__law_cell : FnScope N__law_cell ["script", "k"] (defScope s__law_cell) := ⟨rfl, rfl, rfl, by decide +kernel, rfl, by decide +kernel, by decide +kernel⟩
abbrev s__law_mix : Stmt := (top 15)
abbrev N__law_mix : List Str := ["cell", "k", "number"]
theorem sc__law_mix : FnScope N__law_mix ["cell", "k"] (defScope s__law_mix) := ⟨rfl, rfl, rfl, by decide +kernel, rfl, by decide +kernel, by decide +kernel⟩
abbrev s__law_row : Stmt := (top 16)
abbrev N__law_row : List Str := ["cell", "count", "bound", "found", "rest", "k"]
theorem sc__law_row : FnScope N__law_row ["cell", "count", "bound"] (defScope s__law_row) := ⟨rfl, rfl, rfl, by decide +kernel, rfl, by decide +kernel, by decide +kernel⟩
abbrev s__law_is_int : Stmt := (top 17)
abbrev N__law_is_int : List Str := ["value"]
theorem sc__law_is_int : FnScope N__law_is_int ["value"] (defScope s__law_is_int) := ⟨rfl, rfl, rfl, by decide +kernel, rfl, by decide +kernel, by decide +kernel⟩
abbrev s__law_ring : Stmt := (top 18)
abbrev N__law_ring : List Str := ["side", "inset", "last", "cells", "k"]
theorem sc__law_ring : FnScope N__law_ring ["side", "inset"] (defScope s__law_ring) := ⟨rfl, rfl, rfl, by decide +kernel, rfl, by decide +kernel, by decide +kernel⟩
abbrev s__law_mark : Stmt := (top 19)
abbrev N__law_mark : List Str := ["side", "row", "column"]
theorem sc__law_mark : FnScope N__law_mark ["side", "row", "column"] (defScope s__law_mark) := ⟨rfl, rfl, rfl, by decide +kernel, rfl, by decide +kernel, by decide +kernel⟩
abbrev s__law_place : Stmt := (top 20)
abbrev N__law_place : List Str := ["side", "place", "width", "at"]
theorem sc__law_place : FnScope N__law_place ["side", "place"] (defScope s__law_place) := ⟨rfl, rfl, rfl, by decide +kernel, rfl, by decide +kernel, by decide +kernel⟩
abbrev s__law_draw : Stmt := (top 21)
abbrev N__law_draw : List Str := ["side", "codewords", "page", "k", "row", "column", "count", "w", "s", "cells"]
theorem sc__law_draw : FnScope N__law_draw ["side", "codewords"] (defScope s__law_draw) := ⟨rfl, rfl, rfl, by decide +kernel, rfl, by decide +kernel, by decide +kernel⟩
abbrev s__law_turned : Stmt := (top 22)
abbrev N__law_turned : List Str := ["rows", "turn", "size", "square", "row", "k", "i", "j"]
theorem sc__law_turned : FnScope N__law_turned ["rows", "turn"] (defScope s__law_turned) := ⟨rfl, rfl, rfl, by decide +kernel, rfl, by decide +kernel, by decide +kernel⟩
abbrev s__law_bed : Stmt := (top 23)
abbrev N__law_bed : List Str := ["page", "turn", "height", "width", "row", "column", "square", "bed", "k", "i", "j"]
theorem sc__law_bed : FnScope N__law_bed ["page", "turn", "height", "width", "row", "column"] (defScope s__law_bed) := ⟨rfl, rfl, rfl, by decide +kernel, rfl, by decide +kernel, by decide +kernel⟩
abbrev s__law_black : Stmt := (top 24)
abbrev N__law_black : List Str := ["bed", "side", "row", "column", "total", "k"]
theorem sc__law_black : FnScope N__law_black ["bed", "side", "row", "column"] (defScope s__law_black) := ⟨rfl, rfl, rfl, by decide +kernel, rfl, by decide +kernel, by decide +kernel⟩
abbrev s__law_found : Stmt := (top 25)
abbrev N__law_found : List Str := ["bed", "side", "found", "row", "column"]
theorem sc__law_found : FnScope N__law_found ["bed", "side"] (defScope s__law_found) := ⟨rfl, rfl, rfl, by decide +kernel, rfl, by decide +kernel, by decide +kernel⟩
abbrev s__law_dirt : Stmt := (top 26)
abbrev N__law_dirt : List Str := ["bed", "side", "row", "column", "cell", "count", "height", "width", "k", "spot", "beside", "outside"]
theorem sc__law_dirt : FnScope N__law_dirt ["bed", "side", "row", "column", "cell", "count"] (defScope s__law_dirt) := ⟨rfl, rfl, rfl, by decide +kernel, rfl, by decide +kernel, by decide +kernel⟩
abbrev s_law : Stmt := (top 27)
abbrev N_law : List Str := ["script", "side", "height", "width", "row", "column", "bound", "bed", "k", "inside", "i", "j", "edge", "ring", "spot", "wild", "cell", "copy", "line", "actual"]
theorem sc_law : FnScope N_law ["script"] (defScope s_law) := ⟨rfl, rfl, rfl, by decide +kernel, rfl, by decide +kernel, by decide +kernel⟩
structure Txt (K : PySem.W.Frag) (mg : Str → Option Value) (C_InvalidBed : Addr) : Prop where
  d_check_bed : Dn K mg "check_bed" s_check_bed ["bed"]
  d_is_length : Dn K mg "is_length" s_is_length ["integer"]
  d_find_page : Dn K mg "find_page" s_find_page ["side", "bed"]
  d__ring_blackness : Dn K mg "_ring_blackness" s__ring_blackness ["bed", "columns", "side", "row", "column"]
  d__law_cell : Dn K mg "_law_cell" s__law_cell ["script", "k"]
  d__law_mix : Dn K mg "_law_mix" s__law_mix ["cell", "k"]
  d__law_ring : Dn K mg "_law_ring" s__law_ring ["side", "inset"]
  d__law_black : Dn K mg "_law_black" s__law_black ["bed", "side", "row", "column"]
  d__law_found : Dn K mg "_law_found" s__law_found ["bed", "side"]
  d__law_dirt : Dn K mg "_law_dirt" s__law_dirt ["bed", "side", "row", "column", "cell", "count"]
  d_law : Dn K mg "law" s_law ["script"]
  c_UNREADABLE : CV mg "UNREADABLE" (.int 2)
  c_WHITE : CV mg "WHITE" (.int 0)
  c_BLACK : CV mg "BLACK" (.int 1)
  c_GREATEST_LENGTH : CV mg "GREATEST_LENGTH" (.int 60)
  n_len : mg "len" = none
  n_range : mg "range" = none
  n_list : mg "list" = none
  n_zip : mg "zip" = none
  n_int : mg "int" = none
  n_isinstance : mg "isinstance" = none
  n_max : mg "max" = none
  n_min : mg "min" = none
  n_tuple : mg "tuple" = none
  x_InvalidBed : XCl K mg "InvalidBed" C_InvalidBed
section
variable {P : Program} {w : World} {K : PySem.W.Frag} {mg : Str → Option Value} {base : Heap} {C_InvalidBed : Addr}
/-- the cell's promise -/
def spCell (K : PySem.W.Frag) : Sp := fun vs H Q _ => ∃ (l : Addr) (ns : List Int) (k : Nat), vs = [.ref l, .int (k : Int)] ∧ SqL K H l (ns.map V.int) ∧ Q (.int (cell ns k)) H
theorem ok__law_cell (T : Txt K mg C_InvalidBed) : Ok P w K mg base CX0 1 "_law_cell" ["script", "k"] (spCell K) := by
  refine ok_of T.d__law_cell fun f fd F => F.ok sc__law_cell (fun vs H Q E h => ?_) (fun cdv A outer s H vs Q E hr h => ?_)
  · obtain ⟨l, ns, k, rfl, _⟩ := h
    rfl
  · obtain ⟨l, ns, k, rfl, hs, q⟩ := h
    refine ⟨_,       (pss_cons (ps_if (pt_cmpR op_lt (pv 1) (pe_callB call_len_seq (by rfl) T.n_len PySem.boot_len (pa_cons (pv 0) pa_nil)) (nomark _))
        (pss_one (ps_ret (pe_callTy call_int1 (by rfl) T.n_int (by decide +kernel) (pa_cons (pe_ix ix_list (pv 0) (pv 1) (fun _ _ => rfl)) pa_nil)))) pss_nil)
      (pss_one (ps_ret pe_int))), ?_⟩
    refine ⟨_, rfl, _, rfl, l, _, rfl, .inl hs, _, _, rfl, rfl, _, rfl, itd (fun h => ?_) (fun h => ?_)⟩
    · have hk : k < ns.length := by
        rw [List.length_map] at h
        omega
      refine ⟨_, rfl, _, rfl, l, _, _, .int ns[k], rfl, rfl, hs, atI_nat (by rw [List.getElem?_map, List.getElem?_eq_getElem hk]; rfl), .inl ⟨_, rfl, ?_⟩⟩
      rw [Cm.cell_in hk] at q
      exact q
    · have hk : ¬ k < ns.length := by
        rw [List.length_map] at h
        omega
      rw [Cm.cell_out hk] at q
      exact q

def mixI (c k : Int) : Int := ((c * 48271 + k * 69621 + 12345) % 2147483647 * 16807 + k * 40692 + 777) % 2147483629 / 997
def spMix : Sp := fun vs H Q _ => ∃ c k : Int, vs = [.int c, .int k] ∧ Q (.int (mixI c k)) H
theorem ok__law_mix (T : Txt K mg C_InvalidBed) : Ok P w K mg base CX0 1 "_law_mix" ["cell", "k"] spMix := by
  refine ok_of T.d__law_mix fun f fd F => F.ok sc__law_mix (fun vs H Q E h => ?_) (fun cdv A outer s H vs Q E hr h => ?_)
  · obtain ⟨c, k, rfl, _⟩ := h
    rfl
  · obtain ⟨c, k, rfl, q⟩ := h
    have nd := sc__law_mix.nd
    refine ⟨_,       (pss_cons (ps_set (i := 2) nd rfl (Or.inl rfl) (pe_op op_mod (pe_callTy call_int1 (by rfl) T.n_int (by decide +kernel) (pa_cons (pe_op op_add (pe_op op_add (pe_op op_mul (pv 0) pe_int) (pe_op op_mul (pv 1) pe_int)) pe_int) pa_nil)) pe_int))
      (pss_cons (ps_set (i := 2) nd rfl (Or.inl rfl) (pe_op op_mod (pe_callTy call_int1 (by rfl) T.n_int (by decide +kernel) (pa_cons (pe_op op_add (pe_op op_add (pe_op op_mul (pv 2) pe_int) (pe_op op_mul (pv 1) pe_int)) pe_int) pa_nil)) pe_int))
      (pss_one (ps_ret (pe_op op_fdiv (pv 2) pe_int))))), ?_⟩
    refine ⟨_, rfl, _, _, rfl, rfl, .inr (by decide), _, rfl, _, _, rfl, rfl, .inr (by decide), _, _, rfl, rfl, _, _, rfl, rfl, .inl ⟨_, rfl, _, _, rfl, rfl, (by show (0 : Int) < 2147483647; decide), ?_⟩⟩
    refine ⟨_, rfl, _, _, rfl, rfl, .inr (by decide), _, rfl, _, _, rfl, rfl, .inr (by decide), _, _, rfl, rfl, _, _, rfl, rfl, .inl ⟨_, rfl, _, _, rfl, rfl, (by show (0 : Int) < 2147483629; decide), ?_⟩⟩
    exact ⟨_, rfl, _, _, rfl, rfl, ⟨by decide, by decide⟩, q⟩

/-! the law's small helpers in terms of values -/
def cellI (ns : List Int) (k : Int) : Int := cell ns k.toNat
def pCell (K : PySem.W.Frag) : PV.PSp := fun as _ Q => match as with
  | [.obj A, .v _ (.int k)] => A = PV.scr K A.key ∧ 0 ≤ k ∧ Q (.v .dat (.int (cellI A.key k)))
  | _ => False
theorem S__law_cell {K : PySem.W.Frag} {Ps : List Addr} : PV.SpOk K Ps (spCell K) (pCell K) := by
  intro vs H Q E L0 as PX PQ h1 h2 h3 h4 h5 h6
  unfold pCell at h4
  split at h4
  · next A t k =>
    obtain ⟨hA, hk, q⟩ := h4
    cases h2 with
    | obj a r =>
      cases r with
      | dat b r =>
        cases r
        cases b
        rw [hA] at a
        obtain ⟨l, rfl, hs⟩ := a
        refine ⟨l, A.key, k.toNat, by rw [Int.toNat_of_nonneg hk], PV.sm_hide.seq hs, h5 (.v .dat (.int _)) _ H (GX.Sm.refl H) (PV.Rp.int _) q⟩
  · exact h4.elim

def pMix : PV.PSp := fun as _ Q => match as with
  | [.v _ (.int c), .v _ (.int k)] => Q (.v .dat (.int (mixI c k)))
  | _ => False
theorem S__law_mix {K : PySem.W.Frag} {Ps : List Addr} : PV.SpOk K Ps spMix pMix := by
  intro vs H Q E L0 as PX PQ h1 h2 h3 h4 h5 h6
  unfold pMix at h4
  split at h4
  · next t c t2 k =>
    cases h2 with
    | dat a r =>
      cases r with
      | dat b r =>
        cases r
        cases a
        cases b
        exact ⟨c, k, rfl, h5 (.v .dat (.int _)) _ H (GX.Sm.refl H) (PV.Rp.int _) h4⟩
  · exact h4.elim

-- @@CUT
/-! lists of lists of ints -/
def dI (xs : List Int) : PyData := .list (xs.map .int)
def unI : PyData → List Int
  | .list ds => PV.intsOf ds
  | _ => []
def llOf (ds : List PyData) : List (List Int) := ds.map unI
def isLL (ds : List PyData) : Prop := ds = (llOf ds).map dI
theorem llOf_dI (xss : List (List Int)) : llOf (xss.map dI) = xss := by
  unfold llOf
  rw [List.map_map]
  conv => rhs; rw [← List.map_id xss]
  refine List.map_congr_left fun xs _ => ?_
  show PV.intsOf (xs.map .int) = xs
  exact PV.intsOf_map _
theorem isLL_dI (xss : List (List Int)) : isLL (xss.map dI) = True := by
  unfold isLL
  rw [llOf_dI]
  simp

/-! ### squares and turns -/
def cellAt (q : List (List Int)) (r c : Nat) : Int := (q.getD r []).getD c 0
def mk (n : Nat) (f : Nat → Nat → Int) : List (List Int) := (List.range n).map fun r => (List.range n).map fun c => f r c
def isSq (n : Nat) (q : List (List Int)) : Prop := q.length = n ∧ ∀ row ∈ q, row.length = n
theorem mk_sq (n : Nat) (f : Nat → Nat → Int) : isSq n (mk n f) := ⟨by simp [mk], fun row h => by
  obtain ⟨r, _, rfl⟩ := List.mem_map.mp h
  simp⟩
theorem mk_at {n : Nat} {f : Nat → Nat → Int} {r c : Nat} (hr : r < n) (hc : c < n) : cellAt (mk n f) r c = f r c := by
  simp [cellAt, mk, hr, hc]
theorem sq_ext {n : Nat} {p q : List (List Int)} (h1 : isSq n p) (h2 : isSq n q) (h : ∀ r c, r < n → c < n → cellAt p r c = cellAt q r c) : p = q := by
  apply List.ext_getElem (h1.1.trans h2.1.symm)
  intro r hr hr2
  have l1 := h1.2 _ (List.getElem_mem hr)
  have l2 := h2.2 _ (List.getElem_mem hr2)
  apply List.ext_getElem (l1.trans l2.symm)
  intro c hc hc2
  have := h r c (by rw [← h1.1]; exact hr) (by rw [← l1]; exact hc)
  unfold cellAt at this
  rw [List.getD_eq_getElem?_getD, List.getD_eq_getElem?_getD, List.getD_eq_getElem?_getD, List.getD_eq_getElem?_getD, List.getElem?_eq_getElem hr, List.getElem?_eq_getElem hr2] at this
  simp only [Option.getD_some] at this
  rw [List.getElem?_eq_getElem hc, List.getElem?_eq_getElem hc2] at this
  exact this
theorem mk_congr {n : Nat} {f g : Nat → Nat → Int} (h : ∀ r c, r < n → c < n → f r c = g r c) : mk n f = mk n g :=
  sq_ext (mk_sq n f) (mk_sq n g) fun r c hr hc => by rw [mk_at hr hc, mk_at hr hc, h r c hr hc]
theorem mk_cell {n : Nat} {q : List (List Int)} (h : isSq n q) : mk n (cellAt q) = q := sq_ext (mk_sq n _) h fun r c hr hc => mk_at hr hc
/-- where the cell r, c of a turned square comes from -/
def phi (n t r c : Nat) : Nat × Nat :=
  match t with
  | 0 => (r, c)
  | 1 => (n - 1 - c, r)
  | 2 => (n - 1 - r, n - 1 - c)
  | 3 => (c, n - 1 - r)
  | 4 => (r, n - 1 - c)
  | 5 => (n - 1 - c, n - 1 - r)
  | 6 => (n - 1 - r, c)
  | _ => (c, r)
theorem phi_lt {n t r c : Nat} (hr : r < n) (hc : c < n) : (phi n t r c).1 < n ∧ (phi n t r c).2 < n := by
  unfold phi
  split <;> exact ⟨by dsimp only; omega, by dsimp only; omega⟩
def turnL (q : List (List Int)) (t : Nat) : List (List Int) := mk q.length fun r c => cellAt q (phi q.length t r c).1 (phi q.length t r c).2
theorem turnL_sq {n : Nat} {q : List (List Int)} (h : q.length = n) (t : Nat) : isSq n (turnL q t) := by
  subst h
  exact mk_sq _ _
theorem turnL_0 {n : Nat} {q : List (List Int)} (h : isSq n q) : turnL q 0 = q := by
  obtain ⟨h1, h2⟩ := h
  subst h1
  exact mk_cell ⟨rfl, h2⟩
theorem sq_getD {n : Nat} {q : List (List Int)} (h : isSq n q) {r : Nat} (hr : r < n) : (q.getD r []).length = n := by
  have hr2 : r < q.length := by rw [h.1]; exact hr
  rw [List.getD_eq_getElem?_getD, List.getElem?_eq_getElem hr2]
  exact h.2 _ (List.getElem_mem hr2)
theorem rev_getD {α : Type} {xs : List α} {d : α} {i : Nat} (h : i < xs.length) : xs.reverse.getD i d = xs.getD (xs.length - 1 - i) d := by
  rw [List.getD_eq_getElem?_getD, List.getD_eq_getElem?_getD, List.getElem?_reverse h]
theorem turnL_4 {n : Nat} {q : List (List Int)} (h : isSq n q) : q.map List.reverse = turnL q 4 := by
  refine sq_ext (n := n) ⟨by rw [List.length_map]; exact h.1, fun row hr => ?_⟩ (turnL_sq h.1 4) fun r c hr hc => ?_
  · obtain ⟨x, hx, rfl⟩ := List.mem_map.mp hr
    rw [List.length_reverse]
    exact h.2 x hx
  · unfold turnL
    rw [h.1, mk_at hr hc]
    show ((q.map List.reverse).getD r []).getD c 0 = (q.getD r []).getD (n - 1 - c) 0
    have hl := sq_getD h hr
    have e : (q.map List.reverse).getD r [] = (q.getD r []).reverse := by
      rw [List.getD_eq_getElem?_getD, List.getD_eq_getElem?_getD, List.getElem?_map]
      cases q[r]? <;> rfl
    rw [e, rev_getD (by omega), hl]
/-- a quarter of a turn: the columns of the rows from below -/
def rotP (n : Nat) (q : List (List Int)) : List (List Int) := (List.range n).map fun i => q.reverse.map fun row => row.getD i 0
theorem rotP_mk {n : Nat} {q : List (List Int)} (h : isSq n q) : rotP n q = mk n fun r c => cellAt q (n - 1 - c) r := by
  refine sq_ext (n := n) ⟨by simp [rotP], fun row hr => ?_⟩ (mk_sq _ _) fun r c hr hc => ?_
  · obtain ⟨i, _, rfl⟩ := List.mem_map.mp hr
    simp [h.1]
  · rw [mk_at hr hc]
    have e : (rotP n q).getD r [] = q.reverse.map fun row => row.getD r 0 := by simp [rotP, hr]
    unfold cellAt
    rw [e]
    have hc2 : c < q.length := by rw [h.1]; exact hc
    have e2 : (q.reverse.map fun row : List Int => row.getD r 0).getD c 0 = (q.reverse.getD c []).getD r 0 := by
      rw [List.getD_eq_getElem?_getD, List.getElem?_map, List.getD_eq_getElem?_getD (l := q.reverse)]
      cases hh : q.reverse[c]? with
      | none =>
        rw [List.getElem?_eq_none_iff, List.length_reverse] at hh
        omega
      | some x => rfl
    rw [e2, rev_getD hc2, h.1]
theorem rot_turn {n : Nat} {q : List (List Int)} {t : Nat} (h : isSq n q) (ht : t < 3 ∨ (4 ≤ t ∧ t < 7)) : rotP n (turnL q t) = turnL q (t + 1) := by
  rw [rotP_mk (turnL_sq h.1 t)]
  unfold turnL
  rw [h.1]
  refine mk_congr fun r c hr hc => ?_
  rw [mk_at (by omega) hr]
  have : t = 0 ∨ t = 1 ∨ t = 2 ∨ t = 4 ∨ t = 5 ∨ t = 6 := by omega
  rcases this with rfl | rfl | rfl | rfl | rfl | rfl
  · rfl
  · rfl
  · show cellAt q (n - 1 - (n - 1 - c)) (n - 1 - r) = cellAt q c (n - 1 - r)
    rw [show n - 1 - (n - 1 - c) = c by omega]
  · rfl
  · show cellAt q (n - 1 - r) (n - 1 - (n - 1 - c)) = cellAt q (n - 1 - r) c
    rw [show n - 1 - (n - 1 - c) = c by omega]
  · show cellAt q (n - 1 - (n - 1 - c)) r = cellAt q c r
    rw [show n - 1 - (n - 1 - c) = c by omega]
def oppN (t : Nat) : Nat := if t ≥ 4 then t else (4 - t) % 4
def combN (f s : Nat) : Nat := (if s < 4 then (f + s) % 4 else (s + 4 - f % 4) % 4) + (if decide (f ≥ 4) != decide (s ≥ 4) then 4 else 0)
theorem combN_lt : ∀ f < 8, ∀ s < 8, combN f s < 8 := by decide
theorem oppN_lt : ∀ f < 8, oppN f < 8 := by decide
theorem comb_opp : ∀ f < 8, combN f (oppN f) = 0 := by decide
theorem phi_comb {n r c : Nat} (hr : r < n) (hc : c < n) : ∀ f < 8, ∀ s < 8, phi n f (phi n s r c).1 (phi n s r c).2 = phi n (combN f s) r c := by
  intro f hf s hs
  have e1 : n - 1 - (n - 1 - r) = r := by omega
  have e2 : n - 1 - (n - 1 - c) = c := by omega
  have hf2 : f = 0 ∨ f = 1 ∨ f = 2 ∨ f = 3 ∨ f = 4 ∨ f = 5 ∨ f = 6 ∨ f = 7 := by omega
  have hs2 : s = 0 ∨ s = 1 ∨ s = 2 ∨ s = 3 ∨ s = 4 ∨ s = 5 ∨ s = 6 ∨ s = 7 := by omega
  rcases hf2 with rfl | rfl | rfl | rfl | rfl | rfl | rfl | rfl <;> rcases hs2 with rfl | rfl | rfl | rfl | rfl | rfl | rfl | rfl <;> (simp only [phi, combN, e1, e2]; try rfl)
theorem turn_turn {n : Nat} {q : List (List Int)} (h : isSq n q) {f s : Nat} (hf : f < 8) (hs : s < 8) : turnL (turnL q f) s = turnL q (combN f s) := by
  have h2 := turnL_sq h.1 f
  unfold turnL at *
  rw [h2.1, h.1]
  refine mk_congr fun r c hr hc => ?_
  obtain ⟨l1, l2⟩ := phi_lt (t := s) hr hc
  rw [h.1] at *
  rw [mk_at l1 l2, phi_comb hr hc f hf s hs]
theorem itD_dI {xs : List Int} {i : Nat} (h : i < xs.length) : PV.itD i (dI xs) = .int (xs.getD i 0) := by
  show (xs.map PyData.int).getD i .none = _
  rw [List.getD_eq_getElem?_getD, List.getElem?_map, List.getElem?_eq_getElem h, List.getD_eq_getElem?_getD, List.getElem?_eq_getElem h]
  rfl
theorem cols_rot {n : Nat} {q : List (List Int)} (h : isSq n q) : (List.range n).map (fun i => PyData.list (((q.map dI).reverse).map (PV.itD i))) = (rotP n q).map dI := by
  unfold rotP
  rw [List.map_map]
  refine List.map_congr_left fun i hi => ?_
  have hi := List.mem_range.mp hi
  show PyData.list _ = PyData.list ((q.reverse.map fun row => row.getD i 0).map .int)
  rw [← List.map_reverse, List.map_map, List.map_map]
  congr 1
  refine List.map_congr_left fun row hr => ?_
  exact itD_dI (by rw [h.2 row (List.mem_reverse.mp hr)]; exact hi)
theorem rowsM_sq {n : Nat} {q : List (List Int)} (h : isSq n q) : PV.rowsM ((q.map dI).reverse) n := fun d hd => by
  obtain ⟨xs, hx, rfl⟩ := List.mem_map.mp (List.mem_reverse.mp hd)
  exact ⟨_, rfl, by rw [List.length_map]; exact h.2 xs hx⟩
/-! the code -/
def okT (t : Int) : Prop := 0 ≤ t ∧ t < 8
instance (t : Int) : Decidable (okT t) := inferInstanceAs (Decidable (_ ∧ _))
def pChkT (CE : Addr) : PV.PSp := fun as PX Q => match as with
  | [.v _ (.int t)] => (¬ okT t → PX ⟨CE, none⟩) ∧ (okT t → Q (.v .dat .none))
  | _ => False
def pTurned (CE : Addr) : PV.PSp := fun as PX Q => match as with
  | [.v _ (.list ds), .v _ (.int t)] => isLL ds ∧ ds.length ≤ 10000 ∧ (¬ isSq ds.length (llOf ds) → PX ⟨CE, none⟩) ∧ (isSq ds.length (llOf ds) → (¬ okT t → PX ⟨CE, none⟩) ∧ (okT t → Q (.v .dat (.list ((turnL (llOf ds) t.toNat).map dI)))))
  | _ => False
def pOpp (CE : Addr) : PV.PSp := fun as PX Q => match as with
  | [.v _ (.int t)] => (¬ okT t → PX ⟨CE, none⟩) ∧ (okT t → Q (.v .dat (.int (oppN t.toNat))))
  | _ => False
def pComb (CE : Addr) : PV.PSp := fun as PX Q => match as with
  | [.v _ (.int f), .v _ (.int s)] => (¬ okT f → PX ⟨CE, none⟩) ∧ (okT f → (¬ okT s → PX ⟨CE, none⟩) ∧ (okT s → Q (.v .dat (.int (combN f.toNat s.toNat)))))
  | _ => False
-- @@CUT
/-! the law's pages, drawn -/
def pairD (p : Nat × Nat) : PyData := .tuple [.int (p.1 : Int), .int (p.2 : Int)]
def ringU (n i k : Nat) : List (Nat × Nat) := (List.range k).flatMap fun d => [(i, i + d), (i + d, n - 1 - i), (n - 1 - i, n - 1 - (i + d)), (n - 1 - (i + d), i)]
def ring (n i : Nat) : List (Nat × Nat) := ringU n i (n - 1 - i - i)
theorem ringU_succ {n i k : Nat} : ringU n i (k + 1) = ringU n i k ++ [(i, i + k), (i + k, n - 1 - i), (n - 1 - i, n - 1 - (i + k)), (n - 1 - (i + k), i)] := by
  unfold ringU
  rw [List.range_succ, List.flatMap_append]
  simp
theorem ringU_len {n i k : Nat} : (ringU n i k).length = 4 * k := by
  induction k with
  | zero => rfl
  | succ k ih =>
    rw [ringU_succ, List.length_append, ih]
    simp
    omega
def pLRing : PV.PSp := fun as _ Q => match as with
  | [.v _ (.int n), .v _ (.int i)] => 0 ≤ i ∧ 2 * i + 1 ≤ n ∧ n ≤ 1000 ∧ Q (.v .dat (.list ((ring n.toNat i.toNat).map pairD)))
  | _ => False
theorem ok__law_ring (T : Txt K mg C_InvalidBed) : Ok P w K mg base CX0 1 "_law_ring" ["side", "inset"] (PV.spP K [] (PV.sg 2 pLRing)) := by
  refine PV.pv_def T.d__law_ring sc__law_ring (fun as PX PQ h => h.1) fun f cdv A outer s H E hr => ?_
  have nd := sc__law_ring.nd
  refine ⟨_, _, (pss_cons (ps_set (i := 2) nd rfl (Or.inl rfl) (pe_op op_sub (pe_op op_sub (pv 0) pe_int) (pv 1)))
      (pss_cons (ps_set (i := 3) nd rfl (Or.inl rfl) (pe_lst pa_nil))
      (pss_cons (ps_for PassesOwn.never rfl (pi_range2 rfl T.n_range (pa_cons (pv 1) (pa_cons (pv 2) pa_nil))) (pg_name (i := 4) nd rfl (Or.inl rfl))
        (pss_one (ps_set (i := 3) nd rfl (Or.inl rfl) (pe_op op_cat (pv 3) (pe_lst (pa_cons (pe_tup (pa_cons (pv 1) (pa_cons (pv 4) pa_nil))) (pa_cons (pe_tup (pa_cons (pv 4) (pa_cons (pv 2) pa_nil))) (pa_cons (pe_tup (pa_cons (pv 2) (pa_cons (pe_op op_sub (pe_op op_sub (pv 0) pe_int) (pv 4)) pa_nil))) (pa_cons (pe_tup (pa_cons (pe_op op_sub (pe_op op_sub (pv 0) pe_int) (pv 4)) (pa_cons (pv 1) pa_nil))) pa_nil)))))))))
      (pss_one (ps_ret (pv 3)))))),
    open PV in (ls_seq (ls_asg (le_op lr_I0 (le_op lr_I0 le_var le_c) le_var) (lg_name (b := false)))
      (ls_seq (ls_asg (le_lst la_nil) (lg_name (b := false)))
      (ls_seq (ls_for (li_rg2 (la_cons le_var (la_cons le_var la_nil))) (lg_tgt (.name 4))
      (ls_asg (le_op lr_cat le_var (le_lst (la_cons (le_tup (la_cons le_var (la_cons le_var la_nil))) (la_cons (le_tup (la_cons le_var (la_cons le_var la_nil))) (la_cons (le_tup (la_cons le_var (la_cons (le_op lr_I0 (le_op lr_I0 le_var le_c) le_var) la_nil))) (la_cons (le_tup (la_cons (le_op lr_I0 (le_op lr_I0 le_var le_c) le_var) (la_cons le_var la_nil))) la_nil)))))) (lg_name (b := false))))
      (ls_retD le_var)))), fun as PX PQ h => ?_⟩
  replace h := h.2
  unfold pLRing at h
  split at h
  · next t n t2 i =>
    obtain ⟨h0, h1, h2, hQ⟩ := h
    obtain ⟨m, rfl⟩ : ∃ m : Nat, n = (m : Int) := ⟨n.toNat, by omega⟩
    obtain ⟨j, rfl⟩ : ∃ j : Nat, i = (j : Int) := ⟨i.toNat, by omega⟩
    simp only [PV.sgI, PV.endsIO, PV.pIoV, PV.pCallIo, PV.pCntT, PV.pLcO, PV.pZipF, PV.pDivMod, PV.ownsOf_dic, PV.pDNew, PV.pDPut, PV.pDGet2, PV.pDGet, PV.pDIn, PV.pLenD, PV.keyD, PV.pSlScr, PV.pZipT, PV.pRngC, PV.pRngV, PV.pSt1, PV.pM0, PV.pZipS, PV.pM1, PV.pJoin, PV.pFmt, PV.pJoined, PV.pJs, PV.pBMV, PV.pCount, PV.pIndex, PV.pSetIx2, PV.pRetT, PV.pLcF, PV.mapL_inj, PV.pVar, PV.pC, PV.pOp, PV.pUn, PV.pII, PV.pII0, PV.pNeg, PV.pSS, PV.pSS0, PV.eqF_int, PV.eqF_str, PV.eqF_bool, PV.eqF_ni, PV.eqF_in, PV.eqF_nn, PV.eqF_si, PV.eqF_is, PV.eqF_sn, PV.eqF_ns, PV.pEq, PV.pEqD, PV.isN, PV.pIsN, PV.Tg.d, PV.Tg.it, PV.Tg.itD, PV.Tg.ok, PV.pCat, PV.pRep, PV.pCatT, PV.pIn, PV.pNil, PV.pCons, PV.Tg.items, PV.pStar, PV.allD, PV.allS, PV.pTup, PV.pLst, PV.pNoPart, PV.pPart, PV.pSlL, PV.pSlT, PV.pCB, PV.pLen, PV.pLenS, PV.pI1, PV.pI10, PV.pI2, PV.pInt1, PV.pBool1, PV.pS1, PV.pListOf, PV.pTupOf, PV.tyD, PV.pIsi, PV.bD, PV.pAndV, PV.pOrV, PV.pNotV, PV.pIfE, PV.pT, PV.pAnd, PV.pOr, PV.pNot, PV.truD, PV.pTru, PV.pNotT, PV.pChain, PV.pThree, PV.Rs.arg, PV.lend, PV.pCall, PV.pCall0, PV.pIt, PV.pItT, PV.pRg1, PV.pRg2, PV.pRg3, PV.pEnum, PV.pZip, PV.pRev, PV.pStr, PV.setR, PV.pName, PV.pTgt, PV.pTgts, PV.pTg, PV.pNext, PV.pBreak, PV.pCont, PV.pSeq, PV.pShr, PV.pShrI, PV.shI, PV.pFgt, PV.fgt, PV.pAsg, PV.pExpr, PV.Rs.ret, PV.pRet, PV.pRetN, PV.pIf, PV.pFld, PV.pAug, PV.pPar, PV.pBM, PV.pBM0, PV.pAppend, PV.pExtend, PV.pExtT, PV.pClear, PV.pReverse, PV.pSetIx, PV.pFor, PV.wipeG, PV.pLc, PV.gG, PV.pGen, PV.pYes, PV.pSum, PV.pRaise, PV.pRaise1, PV.slA, PV.startG, PV.ends, PV.pRevL, PV.pSlS, PV.pSign, PV.pProp, PV.pMake, PV.pMake0, PV.pTry, PV.pRetD, PV.Rs.asD, PV.sg, PV.Sl.r, PV.dV, PV.flatD, PV.owns, PV.ownsOf_no, PV.ownsOf_dat, PV.ownsOf_obj, PV.ownsOf_own, PV.ownsOf_tab, PV.shr, PV.Sl.sh, PV.intsOf_map, PV.intsOf_app, PV.intsOf_nil, PV.intsOf_int, PV.isInts_map, PV.isInts_nil, PV.isInts_int, PV.isInts_mapL, PV.scr_key, PV.isiQ_s, PV.kit_int_int, PV.kit_int_bool, PV.kit_int_str, PV.kit_int_list, PV.kit_int_tuple, PV.kit_bool_int, PV.kit_bool_bool, PV.kit_bool_str, PV.kit_bool_list, PV.kit_bool_tuple, PV.kit_str_int, PV.kit_str_bool, PV.kit_str_str, PV.kit_str_list, PV.kit_str_tuple, PV.kit_list_int, PV.kit_list_bool, PV.kit_list_str, PV.kit_list_list, PV.kit_list_tuple, PV.kit_tuple_int, PV.kit_tuple_bool, PV.kit_tuple_str, PV.kit_tuple_list, PV.kit_tuple_tuple, PV.kit_NoneType_int, PV.kit_NoneType_bool, PV.kit_NoneType_str, PV.kit_NoneType_list, PV.kit_NoneType_tuple, PV.cutD_map, PV.allD_map, PV.allD_mapA, PV.allS_map, PV.allS_mapA, List.getElem?_cons_zero, List.getElem?_cons_succ, List.getElem?_nil, List.set_cons_zero, List.set_cons_succ, List.map_cons, List.map_nil, List.cons_append, List.nil_append, List.append_nil, List.length_cons, List.length_nil, List.length_map, List.length_append, List.length_replicate, PV.flat_rep, Nat.mul_one, Nat.one_mul, PV.rep_none, List.replicate_zero, List.all_cons, List.all_nil, cond_true, cond_false, Bool.and_true, Bool.true_and, Bool.and_false, Bool.false_and, Bool.not_true, Bool.not_false, Bool.not_not, if_true, if_false, ite_true, ite_false, true_and, and_true, true_implies, false_implies, reduceCtorEq, Nat.reduceAdd, Nat.reduceSub, Nat.reduceLT, Nat.reduceLeDiff, Bool.false_eq_true, decide_eq_true_eq, decide_eq_false_iff_not, Bool.not_eq_true, Bool.not_eq_false, Bool.not_eq_true', Bool.not_eq_false', Bool.true_eq_false, Option.map_some, Option.map_none, decide_true, decide_false, not_true_eq_false, not_false_eq_true, implies_true, forall_const, eq_self, Nat.reduceEqDiff, beq_self_eq_true, ne_eq, Int.reduceEq, Int.reduceNe, Int.reduceLT, Int.reduceLE, Int.reduceGT, Int.reduceGE, Int.reduceToNat, Int.reduceAdd, Int.reduceNeg, Nat.reduceLT, Nat.reduceLeDiff, Nat.reduceAdd, Nat.reduceMul, false_and, and_false, and_self, true_and, and_true, false_implies, PV.at0, PV.at1, PV.at2, PV.at3, PV.at4, PV.at5, Option.some.injEq, exists_eq_left', exists_eq_left]
    rw [show ((m : Int) - 1 - j - j).toNat = m - 1 - j - j by omega]
    refine ⟨?_, by omega, PV.loop_rg (lo := j) (n := m - 1 - j - j) (fun k g => ∃ o4, g = [some (.dat (.int m)), some (.dat (.int j)), some (.dat (.int (m - 1 - j))), some (.dat (.list ((ringU m j k).map pairD))), o4]) ⟨none, rfl⟩ ?_ ?_⟩
    · decide
    · rintro k g hk ⟨o4, rfl⟩ N hN
      simp only [PV.sgI, PV.endsIO, PV.pIoV, PV.pCallIo, PV.pCntT, PV.pLcO, PV.pZipF, PV.pDivMod, PV.ownsOf_dic, PV.pDNew, PV.pDPut, PV.pDGet2, PV.pDGet, PV.pDIn, PV.pLenD, PV.keyD, PV.pSlScr, PV.pZipT, PV.pRngC, PV.pRngV, PV.pSt1, PV.pM0, PV.pZipS, PV.pM1, PV.pJoin, PV.pFmt, PV.pJoined, PV.pJs, PV.pBMV, PV.pCount, PV.pIndex, PV.pSetIx2, PV.pRetT, PV.pLcF, PV.mapL_inj, PV.pVar, PV.pC, PV.pOp, PV.pUn, PV.pII, PV.pII0, PV.pNeg, PV.pSS, PV.pSS0, PV.eqF_int, PV.eqF_str, PV.eqF_bool, PV.eqF_ni, PV.eqF_in, PV.eqF_nn, PV.eqF_si, PV.eqF_is, PV.eqF_sn, PV.eqF_ns, PV.pEq, PV.pEqD, PV.isN, PV.pIsN, PV.Tg.d, PV.Tg.it, PV.Tg.itD, PV.Tg.ok, PV.pCat, PV.pRep, PV.pCatT, PV.pIn, PV.pNil, PV.pCons, PV.Tg.items, PV.pStar, PV.allD, PV.allS, PV.pTup, PV.pLst, PV.pNoPart, PV.pPart, PV.pSlL, PV.pSlT, PV.pCB, PV.pLen, PV.pLenS, PV.pI1, PV.pI10, PV.pI2, PV.pInt1, PV.pBool1, PV.pS1, PV.pListOf, PV.pTupOf, PV.tyD, PV.pIsi, PV.bD, PV.pAndV, PV.pOrV, PV.pNotV, PV.pIfE, PV.pT, PV.pAnd, PV.pOr, PV.pNot, PV.truD, PV.pTru, PV.pNotT, PV.pChain, PV.pThree, PV.Rs.arg, PV.lend, PV.pCall, PV.pCall0, PV.pIt, PV.pItT, PV.pRg1, PV.pRg2, PV.pRg3, PV.pEnum, PV.pZip, PV.pRev, PV.pStr, PV.setR, PV.pName, PV.pTgt, PV.pTgts, PV.pTg, PV.pNext, PV.pBreak, PV.pCont, PV.pSeq, PV.pShr, PV.pShrI, PV.shI, PV.pFgt, PV.fgt, PV.pAsg, PV.pExpr, PV.Rs.ret, PV.pRet, PV.pRetN, PV.pIf, PV.pFld, PV.pAug, PV.pPar, PV.pBM, PV.pBM0, PV.pAppend, PV.pExtend, PV.pExtT, PV.pClear, PV.pReverse, PV.pSetIx, PV.pFor, PV.wipeG, PV.pLc, PV.gG, PV.pGen, PV.pYes, PV.pSum, PV.pRaise, PV.pRaise1, PV.slA, PV.startG, PV.ends, PV.pRevL, PV.pSlS, PV.pSign, PV.pProp, PV.pMake, PV.pMake0, PV.pTry, PV.pRetD, PV.Rs.asD, PV.sg, PV.Sl.r, PV.dV, PV.flatD, PV.owns, PV.ownsOf_no, PV.ownsOf_dat, PV.ownsOf_obj, PV.ownsOf_own, PV.ownsOf_tab, PV.shr, PV.Sl.sh, PV.intsOf_map, PV.intsOf_app, PV.intsOf_nil, PV.intsOf_int, PV.isInts_map, PV.isInts_nil, PV.isInts_int, PV.isInts_mapL, PV.scr_key, PV.isiQ_s, PV.kit_int_int, PV.kit_int_bool, PV.kit_int_str, PV.kit_int_list, PV.kit_int_tuple, PV.kit_bool_int, PV.kit_bool_bool, PV.kit_bool_str, PV.kit_bool_list, PV.kit_bool_tuple, PV.kit_str_int, PV.kit_str_bool, PV.kit_str_str, PV.kit_str_list, PV.kit_str_tuple, PV.kit_list_int, PV.kit_list_bool, PV.kit_list_str, PV.kit_list_list, PV.kit_list_tuple, PV.kit_tuple_int, PV.kit_tuple_bool, PV.kit_tuple_str, PV.kit_tuple_list, PV.kit_tuple_tuple, PV.kit_NoneType_int, PV.kit_NoneType_bool, PV.kit_NoneType_str, PV.kit_NoneType_list, PV.kit_NoneType_tuple, PV.cutD_map, PV.allD_map, PV.allD_mapA, PV.allS_map, PV.allS_mapA, List.getElem?_cons_zero, List.getElem?_cons_succ, List.getElem?_nil, List.set_cons_zero, List.set_cons_succ, List.map_cons, List.map_nil, List.cons_append, List.nil_append, List.append_nil, List.length_cons, List.length_nil, List.length_map, List.length_append, List.length_replicate, PV.flat_rep, Nat.mul_one, Nat.one_mul, PV.rep_none, List.replicate_zero, List.all_cons, List.all_nil, cond_true, cond_false, Bool.and_true, Bool.true_and, Bool.and_false, Bool.false_and, Bool.not_true, Bool.not_false, Bool.not_not, if_true, if_false, ite_true, ite_false, true_and, and_true, true_implies, false_implies, reduceCtorEq, Nat.reduceAdd, Nat.reduceSub, Nat.reduceLT, Nat.reduceLeDiff, Bool.false_eq_true, decide_eq_true_eq, decide_eq_false_iff_not, Bool.not_eq_true, Bool.not_eq_false, Bool.not_eq_true', Bool.not_eq_false', Bool.true_eq_false, Option.map_some, Option.map_none, decide_true, decide_false, not_true_eq_false, not_false_eq_true, implies_true, forall_const, eq_self, Nat.reduceEqDiff, beq_self_eq_true, ne_eq, Int.reduceEq, Int.reduceNe, Int.reduceLT, Int.reduceLE, Int.reduceGT, Int.reduceGE, Int.reduceToNat, Int.reduceAdd, Int.reduceNeg, Nat.reduceLT, Nat.reduceLeDiff, Nat.reduceAdd, Nat.reduceMul, false_and, and_false, and_self, true_and, and_true, false_implies, PV.at0, PV.at1, PV.at2, PV.at3, PV.at4, PV.at5, Option.some.injEq, exists_eq_left', exists_eq_left]
      refine ⟨by decide, by decide, by decide, by decide, by decide, by rw [ringU_len]; exact smallE (by omega), hN _ ⟨some (.dat (.int ((j : Int) + k))), ?_⟩⟩
      rw [ringU_succ, List.map_append]
      unfold pairD
      have a1 : ((m - 1 - j : Nat) : Int) = (m : Int) - 1 - j := by omega
      have a2 : ((m - 1 - (j + k) : Nat) : Int) = (m : Int) - 1 - (j + k) := by omega
      have a3 : ((j + k : Nat) : Int) = (j : Int) + k := by omega
      simp only [List.map_cons, List.map_nil, a1, a2, a3]
    · rintro g ⟨o4, rfl⟩
      simp only [PV.sgI, PV.endsIO, PV.pIoV, PV.pCallIo, PV.pCntT, PV.pLcO, PV.pZipF, PV.pDivMod, PV.ownsOf_dic, PV.pDNew, PV.pDPut, PV.pDGet2, PV.pDGet, PV.pDIn, PV.pLenD, PV.keyD, PV.pSlScr, PV.pZipT, PV.pRngC, PV.pRngV, PV.pSt1, PV.pM0, PV.pZipS, PV.pM1, PV.pJoin, PV.pFmt, PV.pJoined, PV.pJs, PV.pBMV, PV.pCount, PV.pIndex, PV.pSetIx2, PV.pRetT, PV.pLcF, PV.mapL_inj, PV.pVar, PV.pC, PV.pOp, PV.pUn, PV.pII, PV.pII0, PV.pNeg, PV.pSS, PV.pSS0, PV.eqF_int, PV.eqF_str, PV.eqF_bool, PV.eqF_ni, PV.eqF_in, PV.eqF_nn, PV.eqF_si, PV.eqF_is, PV.eqF_sn, PV.eqF_ns, PV.pEq, PV.pEqD, PV.isN, PV.pIsN, PV.Tg.d, PV.Tg.it, PV.Tg.itD, PV.Tg.ok, PV.pCat, PV.pRep, PV.pCatT, PV.pIn, PV.pNil, PV.pCons, PV.Tg.items, PV.pStar, PV.allD, PV.allS, PV.pTup, PV.pLst, PV.pNoPart, PV.pPart, PV.pSlL, PV.pSlT, PV.pCB, PV.pLen, PV.pLenS, PV.pI1, PV.pI10, PV.pI2, PV.pInt1, PV.pBool1, PV.pS1, PV.pListOf, PV.pTupOf, PV.tyD, PV.pIsi, PV.bD, PV.pAndV, PV.pOrV, PV.pNotV, PV.pIfE, PV.pT, PV.pAnd, PV.pOr, PV.pNot, PV.truD, PV.pTru, PV.pNotT, PV.pChain, PV.pThree, PV.Rs.arg, PV.lend, PV.pCall, PV.pCall0, PV.pIt, PV.pItT, PV.pRg1, PV.pRg2, PV.pRg3, PV.pEnum, PV.pZip, PV.pRev, PV.pStr, PV.setR, PV.pName, PV.pTgt, PV.pTgts, PV.pTg, PV.pNext, PV.pBreak, PV.pCont, PV.pSeq, PV.pShr, PV.pShrI, PV.shI, PV.pFgt, PV.fgt, PV.pAsg, PV.pExpr, PV.Rs.ret, PV.pRet, PV.pRetN, PV.pIf, PV.pFld, PV.pAug, PV.pPar, PV.pBM, PV.pBM0, PV.pAppend, PV.pExtend, PV.pExtT, PV.pClear, PV.pReverse, PV.pSetIx, PV.pFor, PV.wipeG, PV.pLc, PV.gG, PV.pGen, PV.pYes, PV.pSum, PV.pRaise, PV.pRaise1, PV.slA, PV.startG, PV.ends, PV.pRevL, PV.pSlS, PV.pSign, PV.pProp, PV.pMake, PV.pMake0, PV.pTry, PV.pRetD, PV.Rs.asD, PV.sg, PV.Sl.r, PV.dV, PV.flatD, PV.owns, PV.ownsOf_no, PV.ownsOf_dat, PV.ownsOf_obj, PV.ownsOf_own, PV.ownsOf_tab, PV.shr, PV.Sl.sh, PV.intsOf_map, PV.intsOf_app, PV.intsOf_nil, PV.intsOf_int, PV.isInts_map, PV.isInts_nil, PV.isInts_int, PV.isInts_mapL, PV.scr_key, PV.isiQ_s, PV.kit_int_int, PV.kit_int_bool, PV.kit_int_str, PV.kit_int_list, PV.kit_int_tuple, PV.kit_bool_int, PV.kit_bool_bool, PV.kit_bool_str, PV.kit_bool_list, PV.kit_bool_tuple, PV.kit_str_int, PV.kit_str_bool, PV.kit_str_str, PV.kit_str_list, PV.kit_str_tuple, PV.kit_list_int, PV.kit_list_bool, PV.kit_list_str, PV.kit_list_list, PV.kit_list_tuple, PV.kit_tuple_int, PV.kit_tuple_bool, PV.kit_tuple_str, PV.kit_tuple_list, PV.kit_tuple_tuple, PV.kit_NoneType_int, PV.kit_NoneType_bool, PV.kit_NoneType_str, PV.kit_NoneType_list, PV.kit_NoneType_tuple, PV.cutD_map, PV.allD_map, PV.allD_mapA, PV.allS_map, PV.allS_mapA, List.getElem?_cons_zero, List.getElem?_cons_succ, List.getElem?_nil, List.set_cons_zero, List.set_cons_succ, List.map_cons, List.map_nil, List.cons_append, List.nil_append, List.append_nil, List.length_cons, List.length_nil, List.length_map, List.length_append, List.length_replicate, PV.flat_rep, Nat.mul_one, Nat.one_mul, PV.rep_none, List.replicate_zero, List.all_cons, List.all_nil, cond_true, cond_false, Bool.and_true, Bool.true_and, Bool.and_false, Bool.false_and, Bool.not_true, Bool.not_false, Bool.not_not, if_true, if_false, ite_true, ite_false, true_and, and_true, true_implies, false_implies, reduceCtorEq, Nat.reduceAdd, Nat.reduceSub, Nat.reduceLT, Nat.reduceLeDiff, Bool.false_eq_true, decide_eq_true_eq, decide_eq_false_iff_not, Bool.not_eq_true, Bool.not_eq_false, Bool.not_eq_true', Bool.not_eq_false', Bool.true_eq_false, Option.map_some, Option.map_none, decide_true, decide_false, not_true_eq_false, not_false_eq_true, implies_true, forall_const, eq_self, Nat.reduceEqDiff, beq_self_eq_true, ne_eq, Int.reduceEq, Int.reduceNe, Int.reduceLT, Int.reduceLE, Int.reduceGT, Int.reduceGE, Int.reduceToNat, Int.reduceAdd, Int.reduceNeg, Nat.reduceLT, Nat.reduceLeDiff, Nat.reduceAdd, Nat.reduceMul, false_and, and_false, and_self, true_and, and_true, false_implies, PV.at0, PV.at1, PV.at2, PV.at3, PV.at4, PV.at5, Option.some.injEq, exists_eq_left', exists_eq_left]
      exact hQ
  · exact h.elim
def markI (n r c : Nat) : Int := if r = 1 ∨ (c = 1 ∧ r < n / 2) then 1 else 0
def pLMark : PV.PSp := fun as _ Q => match as with
  | [.v _ (.int n), .v _ (.int r), .v _ (.int c)] => 0 ≤ n ∧ 0 ≤ r ∧ 0 ≤ c ∧ Q (.v .dat (.int (markI n.toNat r.toNat c.toNat)))
  | _ => False
def placeL (w p : Nat) : List (Nat × Nat) := (List.range 4).map fun k => (2 + (4 * p + k) / w, 2 + (4 * p + k) % w)
def pLPlace : PV.PSp := fun as _ Q => match as with
  | [.v _ (.int n), .v _ (.int p)] => 5 ≤ n ∧ n ≤ 1000 ∧ 0 ≤ p ∧ p ≤ 100000 ∧ Q (.v .dat (.list ((placeL (n.toNat - 4) p.toNat).map pairD)))
  | _ => False
/-- a cell is painted -/
def upd2 (f : Nat → Nat → Int) (r c : Nat) (v : Int) : Nat → Nat → Int := fun i j => if i = r ∧ j = c then v else f i j
def rowsI (q : List (List Int)) : List (List PyData) := q.map fun row => row.map PyData.int
theorem rowsI_list {q : List (List Int)} : (rowsI q).map PyData.list = q.map dI := by
  unfold rowsI dI
  rw [List.map_map]
  rfl
theorem mk_len {n : Nat} {f : Nat → Nat → Int} : (mk n f).length = n := by simp [mk]
theorem rowsI_len {q : List (List Int)} : (rowsI q).length = q.length := by simp [rowsI]
theorem set_range {α : Type} {n c : Nat} {f : Nat → α} {v : α} : ((List.range n).map f).set c v = (List.range n).map fun j => if j = c then v else f j := by
  apply List.ext_getElem
  · simp
  · intro i h1 h2
    rw [List.getElem_set, List.getElem_map, List.getElem_map, List.getElem_range]
    by_cases z : c = i
    · rw [if_pos z, if_pos z.symm]
    · rw [if_neg z, if_neg (Ne.symm z)]
theorem tab_put {n : Nat} {f : Nat → Nat → Int} {r c : Nat} {v : Int} (hr : r < n) (hc : c < n) : ∃ row, (rowsI (mk n f))[r]? = some row ∧ row.length = n ∧ (rowsI (mk n f)).set r (row.set c (.int v)) = rowsI (mk n (upd2 f r c v)) := by
  refine ⟨(List.range n).map fun j => .int (f r j), ?_, by simp, ?_⟩
  · simp [rowsI, mk, hr]
  · rw [set_range]
    unfold rowsI mk
    rw [List.map_map, List.map_map, set_range]
    refine List.map_congr_left fun i hi => ?_
    by_cases z : i = r
    · subst z
      rw [if_pos rfl]
      show _ = ((List.range n).map fun j => upd2 f i c v i j).map PyData.int
      rw [List.map_map]
      refine List.map_congr_left fun j _ => ?_
      show _ = PyData.int (upd2 f i c v i j)
      unfold upd2
      by_cases w : j = c
      · rw [if_pos w, if_pos ⟨rfl, w⟩]
      · rw [if_neg w, if_neg fun h => w h.2]
    · rw [if_neg z]
      show ((List.range n).map fun j => f i j).map PyData.int = ((List.range n).map fun j => upd2 f r c v i j).map PyData.int
      congr 1
      refine List.map_congr_left fun j _ => ?_
      unfold upd2
      rw [if_neg fun h => z h.1]
/-- the places of a list are painted -/
def paint (val : Nat × Nat → Int) (l : List (Nat × Nat)) (f : Nat → Nat → Int) : Nat → Nat → Int := fun i j => if (i, j) ∈ l then val (i, j) else f i j
theorem paint_snoc {val : Nat × Nat → Int} {l : List (Nat × Nat)} {f : Nat → Nat → Int} {a : Nat × Nat} : upd2 (paint val l f) a.1 a.2 (val a) = paint val (l ++ [a]) f := by
  funext i j
  unfold upd2 paint
  by_cases h : i = a.1 ∧ j = a.2
  · have e : (i, j) = a := by rw [h.1, h.2]
    rw [if_pos h, if_pos (by rw [e]; simp), e]
  · rw [if_neg h]
    have e : (i, j) ≠ a := fun z => h (by rw [← z]; exact ⟨rfl, rfl⟩)
    by_cases hl : (i, j) ∈ l
    · rw [if_pos hl, if_pos (List.mem_append_left _ hl)]
    · rw [if_neg hl, if_neg fun z => (List.mem_append.mp z).elim hl fun z => e (List.mem_singleton.mp z)]
theorem paint_nil {val : Nat × Nat → Int} {f : Nat → Nat → Int} : paint val [] f = f := by
  funext i j
  unfold paint
  rw [if_neg (by simp)]
theorem ring_mem {n i : Nat} {p : Nat × Nat} (h : p ∈ ring n i) : p.1 < n ∧ p.2 < n := by
  unfold ring ringU at h
  obtain ⟨d, hd, h⟩ := List.mem_flatMap.mp h
  have hd := List.mem_range.mp hd
  simp only [List.mem_cons, List.not_mem_nil, or_false] at h
  rcases h with rfl | rfl | rfl | rfl <;> exact ⟨by dsimp only; omega, by dsimp only; omega⟩
def cellsU (n c w : Nat) : List (Nat × Nat) := (List.range w).flatMap fun w => (List.range 16).flatMap fun s => placeL (n - 4) (s * c + w)
def wordU (n c w s : Nat) : List (Nat × Nat) := (List.range s).flatMap fun s => placeL (n - 4) (s * c + w)
def bitAt (n : Nat) (q : List (List Int)) (p : Nat × Nat) : Int :=
  let at' := (p.1 - 2) * (n - 4) + (p.2 - 2)
  ((q.getD (at' / 4 % q.length) []).getD (at' / 4 / q.length) 0 / 2 ^ (3 - at' % 4)) % 2
def frameF (n : Nat) : Nat → Nat → Int := paint (fun p => markI n p.1 p.2) (ring n 1) (paint (fun _ => 1) (ring n 0) fun _ _ => 0)
def drawn (n : Nat) (q : List (List Int)) : List (List Int) := mk n (paint (bitAt n q) (cellsU n q.length q.length) (frameF n))
def pLDraw : PV.PSp := fun as _ Q => match as with
  | [.v _ (.int n), .v _ (.list ds)] => isLL ds ∧ 5 ≤ n ∧ n ≤ 100 ∧ 64 * (llOf ds).length ≤ (n.toNat - 4) * (n.toNat - 4) ∧ (∀ row ∈ llOf ds, row.length = 16) ∧ Q (.v .ft (.list ((drawn n.toNat (llOf ds)).map dI)))
  | _ => False
-- @@CUT
/-! ### rectangles of cells -/
def mkR (h w : Nat) (f : Nat → Nat → Int) : List (List Int) := (List.range h).map fun r => (List.range w).map fun c => f r c
theorem mkR_len {h w : Nat} {f : Nat → Nat → Int} : (mkR h w f).length = h := by simp [mkR]
theorem mkR_get {h w : Nat} {f : Nat → Nat → Int} {r : Nat} (hr : r < h) : (mkR h w f)[r]? = some ((List.range w).map fun c => f r c) := by simp [mkR, hr]
theorem mkR_row {h w : Nat} {f : Nat → Nat → Int} {row : List Int} (hr : row ∈ mkR h w f) : ∃ r, r < h ∧ row = (List.range w).map fun c => f r c := by
  unfold mkR at hr
  obtain ⟨r, h2, rfl⟩ := List.mem_map.mp hr
  exact ⟨r, List.mem_range.mp h2, rfl⟩
theorem mkR_congr {h w : Nat} {f g : Nat → Nat → Int} (e : ∀ r c, r < h → c < w → f r c = g r c) : mkR h w f = mkR h w g := by
  unfold mkR
  exact List.map_congr_left fun r hr => List.map_congr_left fun c hc => e r c (List.mem_range.mp hr) (List.mem_range.mp hc)
theorem rect_put {h w : Nat} {f : Nat → Nat → Int} {r c : Nat} {v : Int} (hr : r < h) (hc : c < w) : ∃ row, (rowsI (mkR h w f))[r]? = some row ∧ row.length = w ∧ (rowsI (mkR h w f)).set r (row.set c (.int v)) = rowsI (mkR h w (upd2 f r c v)) := by
  refine ⟨(List.range w).map fun j => .int (f r j), ?_, by simp, ?_⟩
  · simp [rowsI, mkR, hr]
  · rw [set_range]
    unfold rowsI mkR
    rw [List.map_map, List.map_map, set_range]
    refine List.map_congr_left fun i hi => ?_
    by_cases z : i = r
    · subst z
      rw [if_pos rfl]
      show _ = ((List.range w).map fun j => upd2 f i c v i j).map PyData.int
      rw [List.map_map]
      refine List.map_congr_left fun j _ => ?_
      show _ = PyData.int (upd2 f i c v i j)
      unfold upd2
      by_cases y : j = c
      · rw [if_pos y, if_pos ⟨rfl, y⟩]
      · rw [if_neg y, if_neg fun h => y h.2]
    · rw [if_neg z]
      show ((List.range w).map fun j => f i j).map PyData.int = ((List.range w).map fun j => upd2 f r c v i j).map PyData.int
      congr 1
      refine List.map_congr_left fun j _ => ?_
      unfold upd2
      rw [if_neg fun h => z h.1]
theorem rect_row {h w : Nat} {f : Nat → Nat → Int} {r : Int} {i : Nat} (e : r = (i : Int)) (hr : i < h) : atI ((mkR h w f).map dI) r = some (dI ((List.range w).map fun c => f i c)) := PV.at_map (f := dI) e (mkR_get hr)
theorem rect_cell {w : Nat} {g : Nat → Int} {c : Int} {j : Nat} (e : c = (j : Int)) (hc : j < w) : atI (((List.range w).map g).map PyData.int) c = some (.int (g j)) := PV.at_map (f := PyData.int) (a := g j) e (by simp [hc])
theorem slice_range {α : Type} {g : Nat → α} {w c s : Nat} (h : c + s ≤ w) : (((List.range w).map g).drop c).take s = (List.range s).map fun k => g (c + k) := by
  apply List.ext_getElem
  · simp
    omega
  · intro i h1 h2
    simp
theorem three_counts {l : List Int} (h : ∀ x ∈ l, 0 ≤ x ∧ x ≤ 2) : (l.countP fun e => e == 0) + (l.countP fun e => e == 1) + (l.countP fun e => e == 2) = l.length := by
  induction l with
  | nil => rfl
  | cons a l ih =>
    have hi := ih fun x hx => h x (.tail _ hx)
    have ha := h a (.head _)
    rw [List.countP_cons, List.countP_cons, List.countP_cons, List.length_cons]
    have : a = 0 ∨ a = 1 ∨ a = 2 := by omega
    rcases this with rfl | rfl | rfl <;> simp <;> omega
theorem nd_sub' {α : Type} [DecidableEq α] : ∀ {l m : List α}, l.Nodup → (∀ x ∈ l, x ∈ m) → l.length ≤ m.length
  | [], _, _, _ => Nat.zero_le _
  | a :: l, m, nd, h => by
    have nd' := List.nodup_cons.mp nd
    have ha : a ∈ m := h a List.mem_cons_self
    have z := nd_sub' (l := l) (m := m.erase a) nd'.2 fun x hx => (List.mem_erase_of_ne fun e => nd'.1 (by rw [← e]; exact hx)).mpr (h x (List.mem_cons_of_mem _ hx))
    rw [List.length_erase_of_mem ha] at z
    have := List.length_pos_of_mem ha
    rw [List.length_cons]
    omega
/-! the ring of a square in a rectangle -/
def lineL (n : Nat) (p : Nat → Nat × Nat) : List (Nat × Nat) := (List.range n).map p
def ringC (s r c : Nat) : List (Nat × Nat) := lineL s (fun k => (r, c + k)) ++ (lineL s (fun k => (r + s - 1, c + k)) ++ (lineL (s - 2) (fun k => (r + 1 + k, c)) ++ lineL (s - 2) fun k => (r + 1 + k, c + s - 1)))
def isB (f : Nat → Nat → Int) (a : Nat × Nat) : Bool := f a.1 a.2 == 1
def blackC (f : Nat → Nat → Int) (s r c : Nat) : Nat := (ringC s r c).countP (isB f)
theorem line_nd {n : Nat} {p : Nat → Nat × Nat} (h : ∀ i j, p i = p j → i = j) : (lineL n p).Nodup := by
  unfold lineL
  rw [List.nodup_iff_pairwise_ne, List.pairwise_map]
  exact (List.nodup_range (n := n)).imp fun {a b} ne e => ne (h a b e)
theorem line_mem {n : Nat} {p : Nat → Nat × Nat} {a : Nat × Nat} : a ∈ lineL n p ↔ ∃ k, k < n ∧ p k = a := by
  unfold lineL
  rw [List.mem_map]
  exact ⟨fun ⟨k, h1, h2⟩ => ⟨k, List.mem_range.mp h1, h2⟩, fun ⟨k, h1, h2⟩ => ⟨k, List.mem_range.mpr h1, h2⟩⟩
theorem ringC_len {s r c : Nat} (hs : 2 ≤ s) : (ringC s r c).length = 4 * s - 4 := by
  unfold ringC lineL
  simp
  omega
theorem ringC_nd {s r c : Nat} (hs : 2 ≤ s) : (ringC s r c).Nodup := by
  unfold ringC
  have h1 : (lineL s fun k => (r, c + k)).Nodup := line_nd fun i j e => by
    have := congrArg Prod.snd e
    dsimp only at this
    omega
  have h2 : (lineL s fun k => (r + s - 1, c + k)).Nodup := line_nd fun i j e => by
    have := congrArg Prod.snd e
    dsimp only at this
    omega
  have h3 : (lineL (s - 2) fun k => (r + 1 + k, c)).Nodup := line_nd fun i j e => by
    have := congrArg Prod.fst e
    dsimp only at this
    omega
  have h4 : (lineL (s - 2) fun k => (r + 1 + k, c + s - 1)).Nodup := line_nd fun i j e => by
    have := congrArg Prod.fst e
    dsimp only at this
    omega
  refine List.nodup_append.mpr ⟨h1, List.nodup_append.mpr ⟨h2, List.nodup_append.mpr ⟨h3, h4, fun a ha b hb e => ?_⟩, fun a ha b hb e => ?_⟩, fun a ha b hb e => ?_⟩
  · subst e
    obtain ⟨i, hi, rfl⟩ := line_mem.mp ha
    obtain ⟨j, hj, e⟩ := line_mem.mp hb
    have := congrArg Prod.snd e
    dsimp only at this
    omega
  · subst e
    obtain ⟨i, hi, rfl⟩ := line_mem.mp ha
    rcases List.mem_append.mp hb with hb | hb
    · obtain ⟨j, hj, e⟩ := line_mem.mp hb
      have := congrArg Prod.fst e
      dsimp only at this
      omega
    · obtain ⟨j, hj, e⟩ := line_mem.mp hb
      have := congrArg Prod.fst e
      dsimp only at this
      omega
  · subst e
    obtain ⟨i, hi, rfl⟩ := line_mem.mp ha
    rcases List.mem_append.mp hb with hb | hb
    · obtain ⟨j, hj, e⟩ := line_mem.mp hb
      have := congrArg Prod.fst e
      dsimp only at this
      omega
    · rcases List.mem_append.mp hb with hb | hb
      · obtain ⟨j, hj, e⟩ := line_mem.mp hb
        have := congrArg Prod.fst e
        dsimp only at this
        omega
      · obtain ⟨j, hj, e⟩ := line_mem.mp hb
        have := congrArg Prod.fst e
        dsimp only at this
        omega
theorem ringC_iff {s r c : Nat} (hs : 2 ≤ s) {a : Nat × Nat} : a ∈ ringC s r c ↔ r ≤ a.1 ∧ a.1 < r + s ∧ c ≤ a.2 ∧ a.2 < c + s ∧ (a.1 = r ∨ a.1 = r + s - 1 ∨ a.2 = c ∨ a.2 = c + s - 1) := by
  unfold ringC
  rw [List.mem_append, List.mem_append, List.mem_append, line_mem, line_mem, line_mem, line_mem]
  obtain ⟨i, j⟩ := a
  simp only [Prod.mk.injEq]
  constructor
  · rintro (⟨k, hk, h1, h2⟩ | ⟨k, hk, h1, h2⟩ | ⟨k, hk, h1, h2⟩ | ⟨k, hk, h1, h2⟩) <;> omega
  · rintro ⟨h1, h2, h3, h4, h5⟩
    by_cases a1 : i = r
    · exact .inl ⟨j - c, by omega, by omega, by omega⟩
    by_cases a2 : i = r + s - 1
    · exact .inr (.inl ⟨j - c, by omega, by omega, by omega⟩)
    by_cases a3 : j = c
    · exact .inr (.inr (.inl ⟨i - r - 1, by omega, by omega, by omega⟩))
    · exact .inr (.inr (.inr ⟨i - r - 1, by omega, by omega, by omega⟩))
theorem countP_split {α : Type} {p : α → Bool} {l : List α} : l.countP p + l.countP (fun a => !p a) = l.length := by
  induction l with
  | nil => rfl
  | cons a l ih =>
    rw [List.countP_cons, List.countP_cons, List.length_cons]
    cases p a <;> simp <;> omega
/-- at most so many cells of the ring are not black -/
theorem black_least {f : Nat → Nat → Int} {s r c : Nat} {l : List (Nat × Nat)} (hs : 2 ≤ s) (h : ∀ a, a ∈ ringC s r c → isB f a = false → a ∈ l) : 4 * s - 4 ≤ blackC f s r c + l.length := by
  have h1 := countP_split (p := isB f) (l := ringC s r c)
  rw [ringC_len hs] at h1
  have h2 : (ringC s r c).countP (fun a => !isB f a) ≤ l.length := by
    rw [List.countP_eq_length_filter]
    refine nd_sub' ((ringC_nd hs).filter _) fun a ha => ?_
    obtain ⟨ha, hb⟩ := List.mem_filter.mp ha
    exact h a ha (by simpa using hb)
  unfold blackC
  omega
/-- a line of its cells has few black ones -/
theorem black_most {f : Nat → Nat → Int} {s r c : Nat} {l : List (Nat × Nat)} {p : Nat → Nat × Nat} (hs : 2 ≤ s) (hp : ∀ i j, p i = p j → i = j) (hr : ∀ k, k < s → p k ∈ ringC s r c) (h : ∀ k, k < s → isB f (p k) = true → p k ∈ l) : blackC f s r c + s ≤ 4 * s - 4 + l.length := by
  have h1 := countP_split (p := isB f) (l := ringC s r c)
  rw [ringC_len hs] at h1
  have h3 := countP_split (p := isB f) (l := lineL s p)
  have hl : (lineL s p).length = s := by simp [lineL]
  rw [hl] at h3
  have h2 : (lineL s p).countP (isB f) ≤ l.length := by
    rw [List.countP_eq_length_filter]
    refine nd_sub' ((line_nd hp).filter _) fun a ha => ?_
    obtain ⟨ha, hb⟩ := List.mem_filter.mp ha
    obtain ⟨k, hk, rfl⟩ := line_mem.mp ha
    exact h k hk hb
  have h4 : (lineL s p).countP (fun a => !isB f a) ≤ (ringC s r c).countP (fun a => !isB f a) := by
    rw [List.countP_eq_length_filter, List.countP_eq_length_filter]
    refine nd_sub' ((line_nd hp).filter _) fun a ha => ?_
    obtain ⟨ha, hb⟩ := List.mem_filter.mp ha
    obtain ⟨k, hk, rfl⟩ := line_mem.mp ha
    exact List.mem_filter.mpr ⟨hr k hk, hb⟩
  unfold blackC
  omega
/-- another square has a line outside of the first one -/
theorem black_other {f : Nat → Nat → Int} {s r c r2 c2 : Nat} {l : List (Nat × Nat)} (hs : 2 ≤ s) (h : ∀ a : Nat × Nat, isB f a = true → ¬ (r ≤ a.1 ∧ a.1 < r + s ∧ c ≤ a.2 ∧ a.2 < c + s) → a ∈ l) (ne : (r2, c2) ≠ (r, c)) : blackC f s r2 c2 + s ≤ 4 * s - 4 + l.length := by
  by_cases a1 : r2 < r
  · refine black_most (p := fun k => (r2, c2 + k)) hs (fun i j e => ?_) (fun k hk => (ringC_iff hs).mpr ?_) fun k hk hb => h _ hb ?_
    · have := congrArg Prod.snd e
      dsimp only at this
      omega
    · dsimp only
      omega
    · dsimp only
      omega
  by_cases a2 : r < r2
  · refine black_most (p := fun k => (r2 + s - 1, c2 + k)) hs (fun i j e => ?_) (fun k hk => (ringC_iff hs).mpr ?_) fun k hk hb => h _ hb ?_
    · have := congrArg Prod.snd e
      dsimp only at this
      omega
    · dsimp only
      omega
    · dsimp only
      omega
  have e : r2 = r := by omega
  subst e
  by_cases a3 : c2 < c
  · refine black_most (p := fun k => (r2 + k, c2)) hs (fun i j e => ?_) (fun k hk => (ringC_iff hs).mpr ?_) fun k hk hb => h _ hb ?_
    · have := congrArg Prod.fst e
      dsimp only at this
      omega
    · dsimp only
      omega
    · dsimp only
      omega
  · have a4 : c < c2 := by
      rcases Nat.lt_or_ge c c2 with z | z
      · exact z
      · exact absurd (by rw [show c2 = c by omega]) ne
    refine black_most (p := fun k => (r2 + k, c2 + s - 1)) hs (fun i j e => ?_) (fun k hk => (ringC_iff hs).mpr ?_) fun k hk hb => h _ hb ?_
    · have := congrArg Prod.fst e
      dsimp only at this
      omega
    · dsimp only
      omega
    · dsimp only
      omega
/-! the places with enough black cells -/
def thrN (s : Nat) : Nat := 4 * s - 4 - (s - 1) / 2
def rowPl (f : Nat → Nat → Int) (s r k : Nat) : List (Nat × Nat) := ((List.range k).filter fun c => decide (thrN s ≤ blackC f s r c)).map fun c => (r, c)
def rowsPl (f : Nat → Nat → Int) (w s k : Nat) : List (Nat × Nat) := (List.range k).flatMap fun r => rowPl f s r (w + 1 - s)
def places (f : Nat → Nat → Int) (h w s : Nat) : List (Nat × Nat) := rowsPl f w s (h + 1 - s)
def foundP (ps : List (Nat × Nat)) : PyData := if ps.length = 1 then pairD (ps.getD 0 (0, 0)) else .none
theorem rowPl_succ {f : Nat → Nat → Int} {s r k : Nat} : rowPl f s r (k + 1) = rowPl f s r k ++ if thrN s ≤ blackC f s r k then [(r, k)] else [] := by
  unfold rowPl
  rw [List.range_succ, List.filter_append, List.map_append]
  congr 1
  rw [List.filter_cons, List.filter_nil]
  by_cases z : thrN s ≤ blackC f s r k
  · rw [if_pos z, if_pos (decide_eq_true z)]
    rfl
  · rw [if_neg z, if_neg (by rw [decide_eq_true_eq]; exact z)]
    rfl
theorem rowsPl_succ {f : Nat → Nat → Int} {w s k : Nat} : rowsPl f w s (k + 1) = rowsPl f w s k ++ rowPl f s k (w + 1 - s) := by
  unfold rowsPl
  rw [List.range_succ, List.flatMap_append]
  simp
theorem rowPl_len {f : Nat → Nat → Int} {s r k : Nat} : (rowPl f s r k).length ≤ k := by
  unfold rowPl
  rw [List.length_map]
  exact Nat.le_trans (List.length_filter_le _ _) (by rw [List.length_range]; exact Nat.le_refl _)
theorem rowsPl_len {f : Nat → Nat → Int} {w s k : Nat} : (rowsPl f w s k).length ≤ k * (w + 1 - s) := by
  induction k with
  | zero => simp [rowsPl]
  | succ k ih =>
    rw [rowsPl_succ, List.length_append, Nat.succ_mul]
    have := rowPl_len (f := f) (s := s) (r := k) (k := w + 1 - s)
    omega
theorem places_mem {f : Nat → Nat → Int} {h w s : Nat} {a : Nat × Nat} : a ∈ places f h w s ↔ a.1 < h + 1 - s ∧ a.2 < w + 1 - s ∧ thrN s ≤ blackC f s a.1 a.2 := by
  unfold places rowsPl rowPl
  rw [List.mem_flatMap]
  constructor
  · rintro ⟨r, hr, h⟩
    obtain ⟨c, hc, rfl⟩ := List.mem_map.mp h
    obtain ⟨hc, hb⟩ := List.mem_filter.mp hc
    exact ⟨List.mem_range.mp hr, List.mem_range.mp hc, of_decide_eq_true hb⟩
  · rintro ⟨h1, h2, h3⟩
    exact ⟨a.1, List.mem_range.mpr h1, List.mem_map.mpr ⟨a.2, List.mem_filter.mpr ⟨List.mem_range.mpr h2, decide_eq_true h3⟩, rfl⟩⟩
theorem rowsPl_nd {f : Nat → Nat → Int} {w s : Nat} : ∀ k, (rowsPl f w s k).Nodup
  | 0 => by simp [rowsPl]
  | k + 1 => by
    rw [rowsPl_succ]
    refine List.nodup_append.mpr ⟨rowsPl_nd k, ?_, fun a ha b hb e => ?_⟩
    · unfold rowPl
      rw [List.nodup_iff_pairwise_ne, List.pairwise_map]
      exact ((List.nodup_range (n := w + 1 - s)).filter _).imp fun {a b} ne e => ne (congrArg Prod.snd e)
    · subst e
      unfold rowsPl at ha
      obtain ⟨r, hr, h⟩ := List.mem_flatMap.mp ha
      unfold rowPl at h hb
      obtain ⟨c, _, rfl⟩ := List.mem_map.mp h
      obtain ⟨c', _, e⟩ := List.mem_map.mp hb
      have := congrArg Prod.fst e
      have := List.mem_range.mp hr
      dsimp only at *
      omega
theorem only_one {α : Type} {l : List α} {a : α} (nd : l.Nodup) (ha : a ∈ l) (h : ∀ b ∈ l, b = a) : l = [a] := by
  cases l with
  | nil => cases ha
  | cons b l =>
    have e := h b (.head _)
    subst e
    cases l with
    | nil => rfl
    | cons c l =>
      have e := h c (.tail _ (.head _))
      subst e
      exact absurd (List.mem_cons_self ..) (List.nodup_cons.mp nd).1
/-- the frame's place, within the bounds -/
theorem places_one {f : Nat → Nat → Int} {h w s r c : Nat} {l1 l2 : List (Nat × Nat)} (hs : 2 ≤ s) (hr : r + s ≤ h) (hc : c + s ≤ w) (b1 : l1.length ≤ (s - 1) / 2) (b2 : l2.length ≤ (s - 1) / 2) (h1 : ∀ a, a ∈ ringC s r c → isB f a = false → a ∈ l1)
    (h2 : ∀ a : Nat × Nat, isB f a = true → ¬ (r ≤ a.1 ∧ a.1 < r + s ∧ c ≤ a.2 ∧ a.2 < c + s) → a ∈ l2) : places f h w s = [(r, c)] := by
  refine only_one (rowsPl_nd _) (places_mem.mpr ⟨by dsimp only; omega, by dsimp only; omega, ?_⟩) fun b hb => ?_
  · have := black_least hs h1
    unfold thrN
    dsimp only
    omega
  · obtain ⟨_, _, hb⟩ := places_mem.mp hb
    refine Classical.byContradiction fun ne => ?_
    have := black_other (r2 := b.1) (c2 := b.2) hs h2 ne
    unfold thrN at hb
    omega
/-! the counts of the code -/
theorem count_line {f : Nat → Nat → Int} {n : Nat} {p : Nat → Nat × Nat} : (lineL n p).countP (isB f) = ((List.range n).map fun k => f (p k).1 (p k).2).countP fun e => e == 1 := by
  unfold lineL
  rw [List.countP_map, List.countP_map]
  rfl
def lineB (f : Nat → Nat → Int) (n : Nat) (p : Nat → Nat × Nat) : Nat := (lineL n p).countP (isB f)
theorem blackC_eq {f : Nat → Nat → Int} {s r c : Nat} : blackC f s r c = lineB f s (fun k => (r, c + k)) + (lineB f s (fun k => (r + s - 1, c + k)) + (lineB f (s - 2) (fun k => (r + 1 + k, c)) + lineB f (s - 2) fun k => (r + 1 + k, c + s - 1))) := by
  unfold blackC ringC lineB
  rw [List.countP_append, List.countP_append, List.countP_append]
theorem lineB_le {f : Nat → Nat → Int} {n : Nat} {p : Nat → Nat × Nat} : lineB f n p ≤ n := by
  unfold lineB
  refine Nat.le_trans List.countP_le_length ?_
  simp [lineL]
theorem lineB_succ {f : Nat → Nat → Int} {n : Nat} {p : Nat → Nat × Nat} : lineB f (n + 1) p = lineB f n p + if f (p n).1 (p n).2 = 1 then 1 else 0 := by
  unfold lineB lineL
  rw [List.range_succ, List.map_append, List.countP_append]
  congr 1
  rw [List.map_cons, List.map_nil, List.countP_cons, List.countP_nil]
  unfold isB
  by_cases z : f (p n).1 (p n).2 = 1
  · rw [if_pos z, if_pos (by rw [z]; rfl)]
  · rw [if_neg z, if_neg (by simpa using z)]
def rectB (h w : Nat) (f : Nat → Nat → Int) : Prop := ∀ i j, i < h → j < w → 0 ≤ f i j ∧ f i j ≤ 2

-- @@CUT
/-! finding the frame -/
def pIsLen : PV.PSp := fun as _ Q => match as with
  | [.v _ (.int n)] => Q (.v .dat (.bool (decide (1 ≤ n ∧ n ≤ 60))))
  | _ => False
theorem ok_is_length (T : Txt K mg C_InvalidBed) : Ok P w K mg base CX0 1 "is_length" ["integer"] (PV.spP K [] (PV.sg 1 pIsLen)) := by
  refine PV.pv_def T.d_is_length sc_is_length (fun as PX PQ h => h.1) fun f cdv A outer s H E hr => ?_
  have nd := sc_is_length.nd
  refine ⟨_, _, (pss_one (ps_ret (pe_chain op_le op_le pe_int (pv 0) (pe_globC rfl T.c_GREATEST_LENGTH)))),
    open PV in (ls_retD (le_chain lr_I0 lr_I0 le_c le_var le_c)), fun as PX PQ h => ?_⟩
  replace h := h.2
  unfold pIsLen at h
  split at h
  · next t n =>
    simp only [PV.sgI, PV.endsIO, PV.pIoV, PV.pCallIo, PV.pCntT, PV.pLcO, PV.pZipF, PV.pDivMod, PV.ownsOf_dic, PV.pDNew, PV.pDPut, PV.pDGet2, PV.pDGet, PV.pDIn, PV.pLenD, PV.keyD, PV.pSlScr, PV.pZipT, PV.pRngC, PV.pRngV, PV.pSt1, PV.pM0, PV.pZipS, PV.pM1, PV.pJoin, PV.pFmt, PV.pJoined, PV.pJs, PV.pBMV, PV.pCount, PV.pIndex, PV.pSetIx2, PV.pRetT, PV.pLcF, PV.mapL_inj, PV.pVar, PV.pC, PV.pOp, PV.pUn, PV.pII, PV.pII0, PV.pNeg, PV.pSS, PV.pSS0, PV.eqF_int, PV.eqF_str, PV.eqF_bool, PV.eqF_ni, PV.eqF_in, PV.eqF_nn, PV.eqF_si, PV.eqF_is, PV.eqF_sn, PV.eqF_ns, PV.pEq, PV.pEqD, PV.isN, PV.pIsN, PV.Tg.d, PV.Tg.it, PV.Tg.itD, PV.Tg.ok, PV.pCat, PV.pRep, PV.pCatT, PV.pIn, PV.pNil, PV.pCons, PV.Tg.items, PV.pStar, PV.allD, PV.allS, PV.pTup, PV.pLst, PV.pNoPart, PV.pPart, PV.pSlL, PV.pSlT, PV.pCB, PV.pLen, PV.pLenS, PV.pI1, PV.pI10, PV.pI2, PV.pInt1, PV.pBool1, PV.pS1, PV.pListOf, PV.pTupOf, PV.tyD, PV.pIsi, PV.bD, PV.pAndV, PV.pOrV, PV.pNotV, PV.pIfE, PV.pT, PV.pAnd, PV.pOr, PV.pNot, PV.truD, PV.pTru, PV.pNotT, PV.pChain, PV.pThree, PV.Rs.arg, PV.lend, PV.pCall, PV.pCall0, PV.pIt, PV.pItT, PV.pRg1, PV.pRg2, PV.pRg3, PV.pEnum, PV.pZip, PV.pRev, PV.pStr, PV.setR, PV.pName, PV.pTgt, PV.pTgts, PV.pTg, PV.pNext, PV.pBreak, PV.pCont, PV.pSeq, PV.pShr, PV.pShrI, PV.shI, PV.pFgt, PV.fgt, PV.pAsg, PV.pExpr, PV.Rs.ret, PV.pRet, PV.pRetN, PV.pIf, PV.pFld, PV.pAug, PV.pPar, PV.pBM, PV.pBM0, PV.pAppend, PV.pExtend, PV.pExtT, PV.pClear, PV.pReverse, PV.pSetIx, PV.pFor, PV.wipeG, PV.pLc, PV.gG, PV.pGen, PV.pYes, PV.pSum, PV.pRaise, PV.pRaise1, PV.slA, PV.startG, PV.ends, PV.pRevL, PV.pSlS, PV.pSign, PV.pProp, PV.pMake, PV.pMake0, PV.pTry, PV.pRetD, PV.Rs.asD, PV.sg, PV.Sl.r, PV.dV, PV.flatD, PV.owns, PV.ownsOf_no, PV.ownsOf_dat, PV.ownsOf_obj, PV.ownsOf_own, PV.ownsOf_tab, PV.shr, PV.Sl.sh, PV.intsOf_map, PV.intsOf_app, PV.intsOf_nil, PV.intsOf_int, PV.isInts_map, PV.isInts_nil, PV.isInts_int, PV.isInts_mapL, PV.scr_key, PV.isiQ_s, PV.kit_int_int, PV.kit_int_bool, PV.kit_int_str, PV.kit_int_list, PV.kit_int_tuple, PV.kit_bool_int, PV.kit_bool_bool, PV.kit_bool_str, PV.kit_bool_list, PV.kit_bool_tuple, PV.kit_str_int, PV.kit_str_bool, PV.kit_str_str, PV.kit_str_list, PV.kit_str_tuple, PV.kit_list_int, PV.kit_list_bool, PV.kit_list_str, PV.kit_list_list, PV.kit_list_tuple, PV.kit_tuple_int, PV.kit_tuple_bool, PV.kit_tuple_str, PV.kit_tuple_list, PV.kit_tuple_tuple, PV.kit_NoneType_int, PV.kit_NoneType_bool, PV.kit_NoneType_str, PV.kit_NoneType_list, PV.kit_NoneType_tuple, PV.cutD_map, PV.allD_map, PV.allD_mapA, PV.allS_map, PV.allS_mapA, List.getElem?_cons_zero, List.getElem?_cons_succ, List.getElem?_nil, List.set_cons_zero, List.set_cons_succ, List.map_cons, List.map_nil, List.cons_append, List.nil_append, List.append_nil, List.length_cons, List.length_nil, List.length_map, List.length_append, List.length_replicate, PV.flat_rep, Nat.mul_one, Nat.one_mul, PV.rep_none, List.replicate_zero, List.all_cons, List.all_nil, cond_true, cond_false, Bool.and_true, Bool.true_and, Bool.and_false, Bool.false_and, Bool.not_true, Bool.not_false, Bool.not_not, if_true, if_false, ite_true, ite_false, true_and, and_true, true_implies, false_implies, reduceCtorEq, Nat.reduceAdd, Nat.reduceSub, Nat.reduceLT, Nat.reduceLeDiff, Bool.false_eq_true, decide_eq_true_eq, decide_eq_false_iff_not, Bool.not_eq_true, Bool.not_eq_false, Bool.not_eq_true', Bool.not_eq_false', Bool.true_eq_false, Option.map_some, Option.map_none, decide_true, decide_false, not_true_eq_false, not_false_eq_true, implies_true, forall_const, eq_self, Nat.reduceEqDiff, beq_self_eq_true, ne_eq, Int.reduceEq, Int.reduceNe, Int.reduceLT, Int.reduceLE, Int.reduceGT, Int.reduceGE, Int.reduceToNat, Int.reduceAdd, Int.reduceNeg, Nat.reduceLT, Nat.reduceLeDiff, Nat.reduceAdd, Nat.reduceMul, false_and, and_false, and_self, true_and, and_true, false_implies, PV.at0, PV.at1, PV.at2, PV.at3, PV.at4, PV.at5, Option.some.injEq, exists_eq_left', exists_eq_left]
    refine ⟨fun a => ?_, fun a => ?_⟩
    · rwa [show decide (1 ≤ n ∧ n ≤ 60) = decide (n ≤ 60) from decide_eq_decide.mpr ⟨fun z => z.2, fun z => ⟨a, z⟩⟩] at h
    · rwa [decide_eq_false fun z => a z.1] at h
  · exact h.elim
theorem flat_ints' {sc : List Int} : (sc.map PyData.int).all PV.flatD = true := by
  rw [List.all_eq_true]
  intro x hx
  obtain ⟨a, _, rfl⟩ := List.mem_map.mp hx
  rfl
theorem count_ints' {sc : List Int} {m : Int} : ((sc.map PyData.int).countP fun e => PV.eqD e (.int m)) = sc.countP fun e => e == m := by
  rw [List.countP_map]
  rfl
def pChkBed : PV.PSp := fun as _ Q => match as with
  | [.v _ (.list ds)] => ∃ (n m : Nat) (f : Nat → Nat → Int), ds = (mkR n m f).map dI ∧ (1 ≤ n ∧ n ≤ 60) ∧ (1 ≤ m ∧ m ≤ 60) ∧ rectB n m f ∧ Q (.v .dat (.tuple [.int n, .int m]))
  | _ => False
theorem ok_check_bed (T : Txt K mg C_InvalidBed) : Ok P w K mg base (CXN P w) 2 "check_bed" ["bed"] (PV.spP K [] (PV.sg 1 pChkBed)) := by
  have G_is_length := ok_is_length (P := P) (w := w) (base := base) T
  refine PV.pv_defX T.d_check_bed sc_check_bed (fun as PX PQ h => h.1) fun f cdv A outer s H E hr => ?_
  have nd := sc_check_bed.nd
  have po := passes_of (X := cxOf (CXN P w) P w K mg base N_check_bed "check_bed" (defScope s_check_bed) f cdv A outer s H E) rfl
  refine ⟨_, _, (pss_cons (ps_set (i := 1) nd rfl (Or.inl rfl) (pe_callB call_len_seq (by rfl) T.n_len PySem.boot_len (pa_cons (pv 0) pa_nil)))
      (pss_cons (ps_if (pt_not (pt_val (pe_callO G_is_length (hr.mono (by decide)) pass0 (pa_cons (pv 1) pa_nil))))
        (pss_one (L2N.ps_raise rfl (L2N.takes_of rfl rfl rfl rfl) (L2N.pmk_own PySem.F.excBase_ValueError T.x_InvalidBed.x T.x_InvalidBed.g T.x_InvalidBed.k (raises_own T.x_InvalidBed.b T.x_InvalidBed.t) rfl))) pss_nil)
      (pss_cons (ps_set (i := 2) nd rfl (Or.inl rfl) (pe_callB call_len_seq (by rfl) T.n_len PySem.boot_len (pa_cons (pe_ix ix_list (pv 0) pe_int (fun _ _ => rfl)) pa_nil)))
      (pss_cons (ps_if (pt_not (pt_val (pe_callO G_is_length (hr.mono (by decide)) pass0 (pa_cons (pv 2) pa_nil))))
        (pss_one (L2N.ps_raise rfl (L2N.takes_of rfl rfl rfl rfl) (L2N.pmk_own PySem.F.excBase_ValueError T.x_InvalidBed.x T.x_InvalidBed.g T.x_InvalidBed.k (raises_own T.x_InvalidBed.b T.x_InvalidBed.t) rfl))) pss_nil)
      (pss_cons (ps_for po rfl (pi_list (pv 0)) (pg_name (i := 3) nd rfl (Or.inl rfl))
        (pss_one (ps_if (PW.pt (pw_or (pt_cmpR op_ne (pe_callB call_len_seq (by rfl) T.n_len PySem.boot_len (pa_cons (pv 3) pa_nil)) (pv 2) (nomark _)) (pw_or1 (pt_cmpR op_ne (pe_op op_add (pe_op op_add (pe_bm PySem.F.plainAttrs_list PySem.F.slot_list_count PySem.F.type_list_count LCN.mt_countL (pv 3) (pa_cons (pe_globC rfl T.c_WHITE) pa_nil)) (pe_bm PySem.F.plainAttrs_list PySem.F.slot_list_count PySem.F.type_list_count LCN.mt_countL (pv 3) (pa_cons (pe_globC rfl T.c_BLACK) pa_nil))) (pe_bm PySem.F.plainAttrs_list PySem.F.slot_list_count PySem.F.type_list_count LCN.mt_countL (pv 3) (pa_cons (pe_globC rfl T.c_UNREADABLE) pa_nil))) (pv 2) (nomark _)))))
          (pss_one (L2N.ps_raise rfl (L2N.takes_of rfl rfl rfl rfl) (L2N.pmk_own PySem.F.excBase_ValueError T.x_InvalidBed.x T.x_InvalidBed.g T.x_InvalidBed.k (raises_own T.x_InvalidBed.b T.x_InvalidBed.t) rfl))) pss_nil)))
      (pss_one (ps_ret (pe_tup (pa_cons (pv 1) (pa_cons (pv 2) pa_nil)))))))))),
    open PV in (ls_seq (ls_asg (le_cb lc_len (la_cons le_var la_nil)) (lg_name (b := false)))
      (ls_seq (ls_if (lt_not (lt_B (le_call0 spok (la_cons le_var la_nil))))
      ls_raise
      ls_next)
      (ls_seq (ls_asg (le_cb lc_len (la_cons (le_op lr_ixL le_var le_c) la_nil)) (lg_name (b := false)))
      (ls_seq (ls_if (lt_not (lt_B (le_call0 spok (la_cons le_var la_nil))))
      ls_raise
      ls_next)
      (ls_seq (ls_for (li_list le_var) (lg_tgt (.name 3))
      (ls_if (lt_or (lt_test (le_op lr_ne (le_cb lc_len (la_cons le_var la_nil)) le_var)) (lt_test (le_op lr_ne (le_op lr_I0 (le_op lr_I0 (le_bmv lm_count le_var (la_cons le_c la_nil)) (le_bmv lm_count le_var (la_cons le_c la_nil))) (le_bmv lm_count le_var (la_cons le_c la_nil))) le_var)))
      ls_raise
      ls_next))
      (ls_retD (le_tup (la_cons le_var (la_cons le_var la_nil))))))))), fun as PX PQ h => ?_⟩
  replace h := h.2
  unfold pChkBed at h
  split at h
  · next t ds =>
    obtain ⟨n, m, f, rfl, hn, hm, hf, hQ⟩ := h
    have r0 : atI ((mkR n m f).map dI) 0 = some (dI ((List.range m).map fun c => f 0 c)) := rect_row rfl (by omega)
    simp only [PV.sgI, PV.endsIO, PV.pIoV, PV.pCallIo, PV.pCntT, PV.pLcO, PV.pZipF, PV.pDivMod, PV.ownsOf_dic, PV.pDNew, PV.pDPut, PV.pDGet2, PV.pDGet, PV.pDIn, PV.pLenD, PV.keyD, PV.pSlScr, PV.pZipT, PV.pRngC, PV.pRngV, PV.pSt1, PV.pM0, PV.pZipS, PV.pM1, PV.pJoin, PV.pFmt, PV.pJoined, PV.pJs, PV.pBMV, PV.pCount, PV.pIndex, PV.pSetIx2, PV.pRetT, PV.pLcF, PV.mapL_inj, PV.pVar, PV.pC, PV.pOp, PV.pUn, PV.pII, PV.pII0, PV.pNeg, PV.pSS, PV.pSS0, PV.eqF_int, PV.eqF_str, PV.eqF_bool, PV.eqF_ni, PV.eqF_in, PV.eqF_nn, PV.eqF_si, PV.eqF_is, PV.eqF_sn, PV.eqF_ns, PV.pEq, PV.pEqD, PV.isN, PV.pIsN, PV.Tg.d, PV.Tg.it, PV.Tg.itD, PV.Tg.ok, PV.pCat, PV.pRep, PV.pCatT, PV.pIn, PV.pNil, PV.pCons, PV.Tg.items, PV.pStar, PV.allD, PV.allS, PV.pTup, PV.pLst, PV.pNoPart, PV.pPart, PV.pSlL, PV.pSlT, PV.pCB, PV.pLen, PV.pLenS, PV.pI1, PV.pI10, PV.pI2, PV.pInt1, PV.pBool1, PV.pS1, PV.pListOf, PV.pTupOf, PV.tyD, PV.pIsi, PV.bD, PV.pAndV, PV.pOrV, PV.pNotV, PV.pIfE, PV.pT, PV.pAnd, PV.pOr, PV.pNot, PV.truD, PV.pTru, PV.pNotT, PV.pChain, PV.pThree, PV.Rs.arg, PV.lend, PV.pCall, PV.pCall0, PV.pIt, PV.pItT, PV.pRg1, PV.pRg2, PV.pRg3, PV.pEnum, PV.pZip, PV.pRev, PV.pStr, PV.setR, PV.pName, PV.pTgt, PV.pTgts, PV.pTg, PV.pNext, PV.pBreak, PV.pCont, PV.pSeq, PV.pShr, PV.pShrI, PV.shI, PV.pFgt, PV.fgt, PV.pAsg, PV.pExpr, PV.Rs.ret, PV.pRet, PV.pRetN, PV.pIf, PV.pFld, PV.pAug, PV.pPar, PV.pBM, PV.pBM0, PV.pAppend, PV.pExtend, PV.pExtT, PV.pClear, PV.pReverse, PV.pSetIx, PV.pFor, PV.wipeG, PV.pLc, PV.gG, PV.pGen, PV.pYes, PV.pSum, PV.pRaise, PV.pRaise1, PV.slA, PV.startG, PV.ends, PV.pRevL, PV.pSlS, PV.pSign, PV.pProp, PV.pMake, PV.pMake0, PV.pTry, PV.pRetD, PV.Rs.asD, PV.sg, PV.Sl.r, PV.dV, PV.flatD, PV.owns, PV.ownsOf_no, PV.ownsOf_dat, PV.ownsOf_obj, PV.ownsOf_own, PV.ownsOf_tab, PV.shr, PV.Sl.sh, PV.intsOf_map, PV.intsOf_app, PV.intsOf_nil, PV.intsOf_int, PV.isInts_map, PV.isInts_nil, PV.isInts_int, PV.isInts_mapL, PV.scr_key, PV.isiQ_s, PV.kit_int_int, PV.kit_int_bool, PV.kit_int_str, PV.kit_int_list, PV.kit_int_tuple, PV.kit_bool_int, PV.kit_bool_bool, PV.kit_bool_str, PV.kit_bool_list, PV.kit_bool_tuple, PV.kit_str_int, PV.kit_str_bool, PV.kit_str_str, PV.kit_str_list, PV.kit_str_tuple, PV.kit_list_int, PV.kit_list_bool, PV.kit_list_str, PV.kit_list_list, PV.kit_list_tuple, PV.kit_tuple_int, PV.kit_tuple_bool, PV.kit_tuple_str, PV.kit_tuple_list, PV.kit_tuple_tuple, PV.kit_NoneType_int, PV.kit_NoneType_bool, PV.kit_NoneType_str, PV.kit_NoneType_list, PV.kit_NoneType_tuple, PV.cutD_map, PV.allD_map, PV.allD_mapA, PV.allS_map, PV.allS_mapA, List.getElem?_cons_zero, List.getElem?_cons_succ, List.getElem?_nil, List.set_cons_zero, List.set_cons_succ, List.map_cons, List.map_nil, List.cons_append, List.nil_append, List.append_nil, List.length_cons, List.length_nil, List.length_map, List.length_append, List.length_replicate, PV.flat_rep, Nat.mul_one, Nat.one_mul, PV.rep_none, List.replicate_zero, List.all_cons, List.all_nil, cond_true, cond_false, Bool.and_true, Bool.true_and, Bool.and_false, Bool.false_and, Bool.not_true, Bool.not_false, Bool.not_not, if_true, if_false, ite_true, ite_false, true_and, and_true, true_implies, false_implies, reduceCtorEq, Nat.reduceAdd, Nat.reduceSub, Nat.reduceLT, Nat.reduceLeDiff, Bool.false_eq_true, decide_eq_true_eq, decide_eq_false_iff_not, Bool.not_eq_true, Bool.not_eq_false, Bool.not_eq_true', Bool.not_eq_false', Bool.true_eq_false, Option.map_some, Option.map_none, decide_true, decide_false, not_true_eq_false, not_false_eq_true, implies_true, forall_const, eq_self, Nat.reduceEqDiff, beq_self_eq_true, ne_eq, Int.reduceEq, Int.reduceNe, Int.reduceLT, Int.reduceLE, Int.reduceGT, Int.reduceGE, Int.reduceToNat, Int.reduceAdd, Int.reduceNeg, Nat.reduceLT, Nat.reduceLeDiff, Nat.reduceAdd, Nat.reduceMul, false_and, and_false, and_self, true_and, and_true, false_implies, PV.at0, PV.at1, PV.at2, PV.at3, PV.at4, PV.at5, Option.some.injEq, exists_eq_left', exists_eq_left, pIsLen, r0, mkR_len, dI, List.length_range]
    refine ⟨fun z => absurd (by omega) z, fun _ => ⟨fun z => absurd (by omega) z, fun _ => ?_⟩⟩
    refine PV.loop_inv (inj := dI) (mkR n m f) (fun _ g => ∃ o3, g = [some (.dat (.list ((mkR n m f).map dI))), some (.dat (.int n)), some (.dat (.int m)), o3]) ⟨none, rfl⟩ ?_ ?_
    · rintro pre row post g e ⟨o3, rfl⟩ N hN
      obtain ⟨r, hr, rfl⟩ := mkR_row (row := row) (by rw [e]; simp)
      simp only [PV.sgI, PV.endsIO, PV.pIoV, PV.pCallIo, PV.pCntT, PV.pLcO, PV.pZipF, PV.pDivMod, PV.ownsOf_dic, PV.pDNew, PV.pDPut, PV.pDGet2, PV.pDGet, PV.pDIn, PV.pLenD, PV.keyD, PV.pSlScr, PV.pZipT, PV.pRngC, PV.pRngV, PV.pSt1, PV.pM0, PV.pZipS, PV.pM1, PV.pJoin, PV.pFmt, PV.pJoined, PV.pJs, PV.pBMV, PV.pCount, PV.pIndex, PV.pSetIx2, PV.pRetT, PV.pLcF, PV.mapL_inj, PV.pVar, PV.pC, PV.pOp, PV.pUn, PV.pII, PV.pII0, PV.pNeg, PV.pSS, PV.pSS0, PV.eqF_int, PV.eqF_str, PV.eqF_bool, PV.eqF_ni, PV.eqF_in, PV.eqF_nn, PV.eqF_si, PV.eqF_is, PV.eqF_sn, PV.eqF_ns, PV.pEq, PV.pEqD, PV.isN, PV.pIsN, PV.Tg.d, PV.Tg.it, PV.Tg.itD, PV.Tg.ok, PV.pCat, PV.pRep, PV.pCatT, PV.pIn, PV.pNil, PV.pCons, PV.Tg.items, PV.pStar, PV.allD, PV.allS, PV.pTup, PV.pLst, PV.pNoPart, PV.pPart, PV.pSlL, PV.pSlT, PV.pCB, PV.pLen, PV.pLenS, PV.pI1, PV.pI10, PV.pI2, PV.pInt1, PV.pBool1, PV.pS1, PV.pListOf, PV.pTupOf, PV.tyD, PV.pIsi, PV.bD, PV.pAndV, PV.pOrV, PV.pNotV, PV.pIfE, PV.pT, PV.pAnd, PV.pOr, PV.pNot, PV.truD, PV.pTru, PV.pNotT, PV.pChain, PV.pThree, PV.Rs.arg, PV.lend, PV.pCall, PV.pCall0, PV.pIt, PV.pItT, PV.pRg1, PV.pRg2, PV.pRg3, PV.pEnum, PV.pZip, PV.pRev, PV.pStr, PV.setR, PV.pName, PV.pTgt, PV.pTgts, PV.pTg, PV.pNext, PV.pBreak, PV.pCont, PV.pSeq, PV.pShr, PV.pShrI, PV.shI, PV.pFgt, PV.fgt, PV.pAsg, PV.pExpr, PV.Rs.ret, PV.pRet, PV.pRetN, PV.pIf, PV.pFld, PV.pAug, PV.pPar, PV.pBM, PV.pBM0, PV.pAppend, PV.pExtend, PV.pExtT, PV.pClear, PV.pReverse, PV.pSetIx, PV.pFor, PV.wipeG, PV.pLc, PV.gG, PV.pGen, PV.pYes, PV.pSum, PV.pRaise, PV.pRaise1, PV.slA, PV.startG, PV.ends, PV.pRevL, PV.pSlS, PV.pSign, PV.pProp, PV.pMake, PV.pMake0, PV.pTry, PV.pRetD, PV.Rs.asD, PV.sg, PV.Sl.r, PV.dV, PV.flatD, PV.owns, PV.ownsOf_no, PV.ownsOf_dat, PV.ownsOf_obj, PV.ownsOf_own, PV.ownsOf_tab, PV.shr, PV.Sl.sh, PV.intsOf_map, PV.intsOf_app, PV.intsOf_nil, PV.intsOf_int, PV.isInts_map, PV.isInts_nil, PV.isInts_int, PV.isInts_mapL, PV.scr_key, PV.isiQ_s, PV.kit_int_int, PV.kit_int_bool, PV.kit_int_str, PV.kit_int_list, PV.kit_int_tuple, PV.kit_bool_int, PV.kit_bool_bool, PV.kit_bool_str, PV.kit_bool_list, PV.kit_bool_tuple, PV.kit_str_int, PV.kit_str_bool, PV.kit_str_str, PV.kit_str_list, PV.kit_str_tuple, PV.kit_list_int, PV.kit_list_bool, PV.kit_list_str, PV.kit_list_list, PV.kit_list_tuple, PV.kit_tuple_int, PV.kit_tuple_bool, PV.kit_tuple_str, PV.kit_tuple_list, PV.kit_tuple_tuple, PV.kit_NoneType_int, PV.kit_NoneType_bool, PV.kit_NoneType_str, PV.kit_NoneType_list, PV.kit_NoneType_tuple, PV.cutD_map, PV.allD_map, PV.allD_mapA, PV.allS_map, PV.allS_mapA, List.getElem?_cons_zero, List.getElem?_cons_succ, List.getElem?_nil, List.set_cons_zero, List.set_cons_succ, List.map_cons, List.map_nil, List.cons_append, List.nil_append, List.append_nil, List.length_cons, List.length_nil, List.length_map, List.length_append, List.length_replicate, PV.flat_rep, Nat.mul_one, Nat.one_mul, PV.rep_none, List.replicate_zero, List.all_cons, List.all_nil, cond_true, cond_false, Bool.and_true, Bool.true_and, Bool.and_false, Bool.false_and, Bool.not_true, Bool.not_false, Bool.not_not, if_true, if_false, ite_true, ite_false, true_and, and_true, true_implies, false_implies, reduceCtorEq, Nat.reduceAdd, Nat.reduceSub, Nat.reduceLT, Nat.reduceLeDiff, Bool.false_eq_true, decide_eq_true_eq, decide_eq_false_iff_not, Bool.not_eq_true, Bool.not_eq_false, Bool.not_eq_true', Bool.not_eq_false', Bool.true_eq_false, Option.map_some, Option.map_none, decide_true, decide_false, not_true_eq_false, not_false_eq_true, implies_true, forall_const, eq_self, Nat.reduceEqDiff, beq_self_eq_true, ne_eq, Int.reduceEq, Int.reduceNe, Int.reduceLT, Int.reduceLE, Int.reduceGT, Int.reduceGE, Int.reduceToNat, Int.reduceAdd, Int.reduceNeg, Nat.reduceLT, Nat.reduceLeDiff, Nat.reduceAdd, Nat.reduceMul, false_and, and_false, and_self, true_and, and_true, false_implies, PV.at0, PV.at1, PV.at2, PV.at3, PV.at4, PV.at5, Option.some.injEq, exists_eq_left', exists_eq_left, dI, flat_ints', count_ints', List.length_range]
      have h3 := three_counts (l := (List.range m).map fun c => f r c) fun x hx => by
        obtain ⟨c, hc, rfl⟩ := List.mem_map.mp hx
        exact hf r c hr (List.mem_range.mp hc)
      rw [List.length_map, List.length_range] at h3
      refine ⟨fun z => absurd (by omega) z, fun _ => hN _ ⟨_, rfl⟩⟩
    · rintro g ⟨o3, rfl⟩
      simp only [PV.sgI, PV.endsIO, PV.pIoV, PV.pCallIo, PV.pCntT, PV.pLcO, PV.pZipF, PV.pDivMod, PV.ownsOf_dic, PV.pDNew, PV.pDPut, PV.pDGet2, PV.pDGet, PV.pDIn, PV.pLenD, PV.keyD, PV.pSlScr, PV.pZipT, PV.pRngC, PV.pRngV, PV.pSt1, PV.pM0, PV.pZipS, PV.pM1, PV.pJoin, PV.pFmt, PV.pJoined, PV.pJs, PV.pBMV, PV.pCount, PV.pIndex, PV.pSetIx2, PV.pRetT, PV.pLcF, PV.mapL_inj, PV.pVar, PV.pC, PV.pOp, PV.pUn, PV.pII, PV.pII0, PV.pNeg, PV.pSS, PV.pSS0, PV.eqF_int, PV.eqF_str, PV.eqF_bool, PV.eqF_ni, PV.eqF_in, PV.eqF_nn, PV.eqF_si, PV.eqF_is, PV.eqF_sn, PV.eqF_ns, PV.pEq, PV.pEqD, PV.isN, PV.pIsN, PV.Tg.d, PV.Tg.it, PV.Tg.itD, PV.Tg.ok, PV.pCat, PV.pRep, PV.pCatT, PV.pIn, PV.pNil, PV.pCons, PV.Tg.items, PV.pStar, PV.allD, PV.allS, PV.pTup, PV.pLst, PV.pNoPart, PV.pPart, PV.pSlL, PV.pSlT, PV.pCB, PV.pLen, PV.pLenS, PV.pI1, PV.pI10, PV.pI2, PV.pInt1, PV.pBool1, PV.pS1, PV.pListOf, PV.pTupOf, PV.tyD, PV.pIsi, PV.bD, PV.pAndV, PV.pOrV, PV.pNotV, PV.pIfE, PV.pT, PV.pAnd, PV.pOr, PV.pNot, PV.truD, PV.pTru, PV.pNotT, PV.pChain, PV.pThree, PV.Rs.arg, PV.lend, PV.pCall, PV.pCall0, PV.pIt, PV.pItT, PV.pRg1, PV.pRg2, PV.pRg3, PV.pEnum, PV.pZip, PV.pRev, PV.pStr, PV.setR, PV.pName, PV.pTgt, PV.pTgts, PV.pTg, PV.pNext, PV.pBreak, PV.pCont, PV.pSeq, PV.pShr, PV.pShrI, PV.shI, PV.pFgt, PV.fgt, PV.pAsg, PV.pExpr, PV.Rs.ret, PV.pRet, PV.pRetN, PV.pIf, PV.pFld, PV.pAug, PV.pPar, PV.pBM, PV.pBM0, PV.pAppend, PV.pExtend, PV.pExtT, PV.pClear, PV.pReverse, PV.pSetIx, PV.pFor, PV.wipeG, PV.pLc, PV.gG, PV.pGen, PV.pYes, PV.pSum, PV.pRaise, PV.pRaise1, PV.slA, PV.startG, PV.ends, PV.pRevL, PV.pSlS, PV.pSign, PV.pProp, PV.pMake, PV.pMake0, PV.pTry, PV.pRetD, PV.Rs.asD, PV.sg, PV.Sl.r, PV.dV, PV.flatD, PV.owns, PV.ownsOf_no, PV.ownsOf_dat, PV.ownsOf_obj, PV.ownsOf_own, PV.ownsOf_tab, PV.shr, PV.Sl.sh, PV.intsOf_map, PV.intsOf_app, PV.intsOf_nil, PV.intsOf_int, PV.isInts_map, PV.isInts_nil, PV.isInts_int, PV.isInts_mapL, PV.scr_key, PV.isiQ_s, PV.kit_int_int, PV.kit_int_bool, PV.kit_int_str, PV.kit_int_list, PV.kit_int_tuple, PV.kit_bool_int, PV.kit_bool_bool, PV.kit_bool_str, PV.kit_bool_list, PV.kit_bool_tuple, PV.kit_str_int, PV.kit_str_bool, PV.kit_str_str, PV.kit_str_list, PV.kit_str_tuple, PV.kit_list_int, PV.kit_list_bool, PV.kit_list_str, PV.kit_list_list, PV.kit_list_tuple, PV.kit_tuple_int, PV.kit_tuple_bool, PV.kit_tuple_str, PV.kit_tuple_list, PV.kit_tuple_tuple, PV.kit_NoneType_int, PV.kit_NoneType_bool, PV.kit_NoneType_str, PV.kit_NoneType_list, PV.kit_NoneType_tuple, PV.cutD_map, PV.allD_map, PV.allD_mapA, PV.allS_map, PV.allS_mapA, List.getElem?_cons_zero, List.getElem?_cons_succ, List.getElem?_nil, List.set_cons_zero, List.set_cons_succ, List.map_cons, List.map_nil, List.cons_append, List.nil_append, List.append_nil, List.length_cons, List.length_nil, List.length_map, List.length_append, List.length_replicate, PV.flat_rep, Nat.mul_one, Nat.one_mul, PV.rep_none, List.replicate_zero, List.all_cons, List.all_nil, cond_true, cond_false, Bool.and_true, Bool.true_and, Bool.and_false, Bool.false_and, Bool.not_true, Bool.not_false, Bool.not_not, if_true, if_false, ite_true, ite_false, true_and, and_true, true_implies, false_implies, reduceCtorEq, Nat.reduceAdd, Nat.reduceSub, Nat.reduceLT, Nat.reduceLeDiff, Bool.false_eq_true, decide_eq_true_eq, decide_eq_false_iff_not, Bool.not_eq_true, Bool.not_eq_false, Bool.not_eq_true', Bool.not_eq_false', Bool.true_eq_false, Option.map_some, Option.map_none, decide_true, decide_false, not_true_eq_false, not_false_eq_true, implies_true, forall_const, eq_self, Nat.reduceEqDiff, beq_self_eq_true, ne_eq, Int.reduceEq, Int.reduceNe, Int.reduceLT, Int.reduceLE, Int.reduceGT, Int.reduceGE, Int.reduceToNat, Int.reduceAdd, Int.reduceNeg, Nat.reduceLT, Nat.reduceLeDiff, Nat.reduceAdd, Nat.reduceMul, false_and, and_false, and_self, true_and, and_true, false_implies, PV.at0, PV.at1, PV.at2, PV.at3, PV.at4, PV.at5, Option.some.injEq, exists_eq_left', exists_eq_left]
      exact ⟨by decide, hQ⟩
  · exact h.elim
def colsT (n m : Nat) (f : Nat → Nat → Int) : List PyData := (List.range m).map fun j => dI ((List.range n).map fun i => f i j)
theorem col_at {n m : Nat} {f : Nat → Nat → Int} {c : Int} {j : Nat} (e : c = (j : Int)) (h : j < m) : atI (colsT n m f) c = some (dI ((List.range n).map fun i => f i j)) := PV.at_map (f := fun j => dI ((List.range n).map fun i => f i j)) (a := j) e (by simp [h])
theorem cut_line {g : Nat → Int} {w c s : Nat} {a b : Int} (ha : a = (c : Int)) (hb : b = ((c + s : Nat) : Int)) (h : c + s ≤ w) : PV.cutL ((List.range w).map g) (some a) (some b) = (List.range s).map fun k => g (c + k) := by
  subst ha hb
  rw [PV.cutL_mid (by omega) (by omega), Int.toNat_natCast, Int.toNat_natCast, show c + s - c = s by omega, slice_range h]
def pRingB : PV.PSp := fun as _ Q => match as with
  | [.v _ (.list ds), .v _ (.list cs), .v _ (.int s), .v _ (.int r), .v _ (.int c)] => ∃ (n m : Nat) (f : Nat → Nat → Int) (k a b : Nat), ds = (mkR n m f).map dI ∧ cs = colsT n m f ∧ s = k ∧ r = a ∧ c = b ∧ 2 ≤ k ∧ a + k ≤ n ∧ b + k ≤ m ∧ n ≤ 1000 ∧ m ≤ 1000 ∧ Q (.v .dat (.int (blackC f k a b)))
  | _ => False
theorem ok__ring_blackness (T : Txt K mg C_InvalidBed) : Ok P w K mg base CX0 1 "_ring_blackness" ["bed", "columns", "side", "row", "column"] (PV.spP K [] (PV.sg 5 pRingB)) := by
  refine PV.pv_def T.d__ring_blackness sc__ring_blackness (fun as PX PQ h => h.1) fun f cdv A outer s H E hr => ?_
  have nd := sc__ring_blackness.nd
  refine ⟨_, _, (pss_cons (ps_set (i := 5) nd rfl (Or.inl rfl) (pe_op op_sub (pe_op op_add (pv 3) (pv 2)) pe_int))
      (pss_cons (ps_set (i := 6) nd rfl (Or.inl rfl) (pe_op op_sub (pe_op op_add (pv 4) (pv 2)) pe_int))
      (Evl.pss_cut (ps_set (i := 7) nd rfl (Or.inl rfl) (pe_op op_add (pe_bm PySem.F.plainAttrs_list PySem.F.slot_list_count PySem.F.type_list_count LCN.mt_countL (pe_slice sl_list (pe_ix ix_list (pv 0) (pv 3) (fun _ _ => rfl)) (po_some (pv 4)) (po_some (pe_op op_add (pv 6) pe_int))) (pa_cons (pe_globC rfl T.c_BLACK) pa_nil)) (pe_bm PySem.F.plainAttrs_list PySem.F.slot_list_count PySem.F.type_list_count LCN.mt_countL (pe_slice sl_list (pe_ix ix_list (pv 0) (pv 5) (fun _ _ => rfl)) (po_some (pv 4)) (po_some (pe_op op_add (pv 6) pe_int))) (pa_cons (pe_globC rfl T.c_BLACK) pa_nil))))
      (pss_one (ps_ret (pe_op op_add (pe_op op_add (pv 7) (pe_bm PySem.F.plainAttrs_list PySem.F.slot_list_count PySem.F.type_list_count LCN.mt_countL (pe_slice sl_list (pe_ix ix_list (pv 1) (pv 4) (fun _ _ => rfl)) (po_some (pe_op op_add (pv 3) pe_int)) (po_some (pv 5))) (pa_cons (pe_globC rfl T.c_BLACK) pa_nil))) (pe_bm PySem.F.plainAttrs_list PySem.F.slot_list_count PySem.F.type_list_count LCN.mt_countL (pe_slice sl_list (pe_ix ix_list (pv 1) (pv 6) (fun _ _ => rfl)) (po_some (pe_op op_add (pv 3) pe_int)) (po_some (pv 5))) (pa_cons (pe_globC rfl T.c_BLACK) pa_nil)))))))),
    open PV in (ls_seq (ls_asg (le_op lr_I0 (le_op lr_I0 le_var le_var) le_c) (lg_name (b := false)))
      (ls_seq (ls_asg (le_op lr_I0 (le_op lr_I0 le_var le_var) le_c) (lg_name (b := false)))
      (ls_cutF [0, 2] (ls_asg (le_op lr_I0 (le_bmv lm_count (le_slL (le_op lr_ixL le_var le_var) (lo_some le_var) (lo_some (le_op lr_I0 le_var le_c))) (la_cons le_c la_nil)) (le_bmv lm_count (le_slL (le_op lr_ixL le_var le_var) (lo_some le_var) (lo_some (le_op lr_I0 le_var le_c))) (la_cons le_c la_nil))) (lg_name (b := false)))
      (ls_retD (le_op lr_I0 (le_op lr_I0 le_var (le_bmv lm_count (le_slL (le_op lr_ixL le_var le_var) (lo_some (le_op lr_I0 le_var le_c)) (lo_some le_var)) (la_cons le_c la_nil))) (le_bmv lm_count (le_slL (le_op lr_ixL le_var le_var) (lo_some (le_op lr_I0 le_var le_c)) (lo_some le_var)) (la_cons le_c la_nil))))))), fun as PX PQ h => ?_⟩
  replace h := h.2
  unfold pRingB at h
  split at h
  · next t ds t2 cs t3 s t4 r t5 c =>
    obtain ⟨n, m, f, k, a, b, rfl, rfl, rfl, rfl, rfl, hk, ha, hb, hn, hm, hQ⟩ := h
    have r1 : atI ((mkR n m f).map dI) (a : Int) = some (dI ((List.range m).map fun c => f a c)) := rect_row rfl (by omega)
    have r2 : atI ((mkR n m f).map dI) ((a : Int) + k - 1) = some (dI ((List.range m).map fun c => f (a + k - 1) c)) := rect_row (by omega) (by omega)
    have r3 : atI (colsT n m f) (b : Int) = some (dI ((List.range n).map fun i => f i b)) := col_at rfl (by omega)
    have r4 : atI (colsT n m f) ((b : Int) + k - 1) = some (dI ((List.range n).map fun i => f i (b + k - 1))) := col_at (by omega) (by omega)
    have c1 : ∀ i, PV.cutL ((List.range m).map fun c => f i c) (some (b : Int)) (some ((b : Int) + k - 1 + 1)) = (List.range k).map fun j => f i (b + j) := fun i => cut_line rfl (by omega) (by omega)
    have c2 : ∀ j, PV.cutL ((List.range n).map fun i => f i j) (some ((a : Int) + 1)) (some ((a : Int) + k - 1)) = (List.range (k - 2)).map fun i => f (a + 1 + i) j := fun j => cut_line (c := a + 1) (s := k - 2) (g := fun i => f i j) (by omega) (by omega) (by omega)
    rw [blackC_eq] at hQ
    unfold lineB at hQ
    simp only [count_line] at hQ
    rw [Int.natCast_add, Int.natCast_add, Int.natCast_add, ← Int.add_assoc, ← Int.add_assoc] at hQ
    simp only [PV.startG, PV.slA, List.map_cons, List.map_nil, List.length_cons, List.length_nil, Nat.reduceAdd, Nat.reduceSub, PV.rep_none, List.cons_append, List.nil_append, List.append_nil, List.replicate_zero]
    simp only [PV.sgI, PV.endsIO, PV.pIoV, PV.pCallIo, PV.pCntT, PV.pLcO, PV.pZipF, PV.pDivMod, PV.ownsOf_dic, PV.pDNew, PV.pDPut, PV.pDGet2, PV.pDGet, PV.pDIn, PV.pLenD, PV.keyD, PV.pSlScr, PV.pZipT, PV.pRngC, PV.pRngV, PV.pSt1, PV.pM0, PV.pZipS, PV.pM1, PV.pJoin, PV.pFmt, PV.pJoined, PV.pJs, PV.pBMV, PV.pCount, PV.pIndex, PV.pSetIx2, PV.pRetT, PV.pLcF, PV.mapL_inj, PV.pVar, PV.pC, PV.pOp, PV.pUn, PV.pII, PV.pII0, PV.pNeg, PV.pSS, PV.pSS0, PV.eqF_int, PV.eqF_str, PV.eqF_bool, PV.eqF_ni, PV.eqF_in, PV.eqF_nn, PV.eqF_si, PV.eqF_is, PV.eqF_sn, PV.eqF_ns, PV.pEq, PV.pEqD, PV.isN, PV.pIsN, PV.Tg.d, PV.Tg.it, PV.Tg.itD, PV.Tg.ok, PV.pCat, PV.pRep, PV.pCatT, PV.pIn, PV.pNil, PV.pCons, PV.Tg.items, PV.pStar, PV.allD, PV.allS, PV.pTup, PV.pLst, PV.pNoPart, PV.pPart, PV.pSlL, PV.pSlT, PV.pCB, PV.pLen, PV.pLenS, PV.pI1, PV.pI10, PV.pI2, PV.pInt1, PV.pBool1, PV.pS1, PV.pListOf, PV.pTupOf, PV.tyD, PV.pIsi, PV.bD, PV.pAndV, PV.pOrV, PV.pNotV, PV.pIfE, PV.pT, PV.pAnd, PV.pOr, PV.pNot, PV.truD, PV.pTru, PV.pNotT, PV.pChain, PV.pThree, PV.Rs.arg, PV.lend, PV.pCall, PV.pCall0, PV.pIt, PV.pItT, PV.pRg1, PV.pRg2, PV.pRg3, PV.pEnum, PV.pZip, PV.pRev, PV.pStr, PV.setR, PV.pName, PV.pTgt, PV.pTgts, PV.pTg, PV.pNext, PV.pBreak, PV.pCont, PV.pSeq, PV.pShr, PV.pShrI, PV.shI, PV.pFgt, PV.fgt, PV.pAsg, PV.pExpr, PV.Rs.ret, PV.pRet, PV.pRetN, PV.pIf, PV.pFld, PV.pAug, PV.pPar, PV.pBM, PV.pBM0, PV.pAppend, PV.pExtend, PV.pExtT, PV.pClear, PV.pReverse, PV.pSetIx, PV.pFor, PV.wipeG, PV.pLc, PV.gG, PV.pGen, PV.pYes, PV.pSum, PV.pRaise, PV.pRaise1, PV.slA, PV.startG, PV.ends, PV.pRevL, PV.pSlS, PV.pSign, PV.pProp, PV.pMake, PV.pMake0, PV.pTry, PV.pRetD, PV.Rs.asD, PV.sg, PV.Sl.r, PV.dV, PV.flatD, PV.owns, PV.ownsOf_no, PV.ownsOf_dat, PV.ownsOf_obj, PV.ownsOf_own, PV.ownsOf_tab, PV.shr, PV.Sl.sh, PV.intsOf_map, PV.intsOf_app, PV.intsOf_nil, PV.intsOf_int, PV.isInts_map, PV.isInts_nil, PV.isInts_int, PV.isInts_mapL, PV.scr_key, PV.isiQ_s, PV.kit_int_int, PV.kit_int_bool, PV.kit_int_str, PV.kit_int_list, PV.kit_int_tuple, PV.kit_bool_int, PV.kit_bool_bool, PV.kit_bool_str, PV.kit_bool_list, PV.kit_bool_tuple, PV.kit_str_int, PV.kit_str_bool, PV.kit_str_str, PV.kit_str_list, PV.kit_str_tuple, PV.kit_list_int, PV.kit_list_bool, PV.kit_list_str, PV.kit_list_list, PV.kit_list_tuple, PV.kit_tuple_int, PV.kit_tuple_bool, PV.kit_tuple_str, PV.kit_tuple_list, PV.kit_tuple_tuple, PV.kit_NoneType_int, PV.kit_NoneType_bool, PV.kit_NoneType_str, PV.kit_NoneType_list, PV.kit_NoneType_tuple, PV.cutD_map, PV.allD_map, PV.allD_mapA, PV.allS_map, PV.allS_mapA, List.getElem?_cons_zero, List.getElem?_cons_succ, List.getElem?_nil, List.set_cons_zero, List.set_cons_succ, List.map_cons, List.map_nil, List.cons_append, List.nil_append, List.append_nil, List.length_cons, List.length_nil, List.length_map, List.length_append, List.length_replicate, PV.flat_rep, Nat.mul_one, Nat.one_mul, PV.rep_none, List.replicate_zero, List.all_cons, List.all_nil, cond_true, cond_false, Bool.and_true, Bool.true_and, Bool.and_false, Bool.false_and, Bool.not_true, Bool.not_false, Bool.not_not, if_true, if_false, ite_true, ite_false, true_and, and_true, true_implies, false_implies, reduceCtorEq, Nat.reduceAdd, Nat.reduceSub, Nat.reduceLT, Nat.reduceLeDiff, Bool.false_eq_true, decide_eq_true_eq, decide_eq_false_iff_not, Bool.not_eq_true, Bool.not_eq_false, Bool.not_eq_true', Bool.not_eq_false', Bool.true_eq_false, Option.map_some, Option.map_none, decide_true, decide_false, not_true_eq_false, not_false_eq_true, implies_true, forall_const, eq_self, Nat.reduceEqDiff, beq_self_eq_true, ne_eq, Int.reduceEq, Int.reduceNe, Int.reduceLT, Int.reduceLE, Int.reduceGT, Int.reduceGE, Int.reduceToNat, Int.reduceAdd, Int.reduceNeg, Nat.reduceLT, Nat.reduceLeDiff, Nat.reduceAdd, Nat.reduceMul, false_and, and_false, and_self, true_and, and_true, false_implies, PV.at0, PV.at1, PV.at2, PV.at3, PV.at4, PV.at5, Option.some.injEq, exists_eq_left', exists_eq_left, r1, r2, dI, c1, flat_ints', count_ints']
    refine ⟨fun g => g = [none, some (.dat (.list (colsT n m f))), none, some (.dat (.int a)), some (.dat (.int b)), some (.dat (.int ((a : Int) + k - 1))), some (.dat (.int ((b : Int) + k - 1))), some (.dat (.int ((((List.range k).map fun j => f a (b + j)).countP fun e => e == 1 : Nat) + (((List.range k).map fun j => f (a + k - 1) (b + j)).countP fun e => e == 1 : Nat))))], ?_, ?_⟩
    · simp only [PV.sgI, PV.endsIO, PV.pIoV, PV.pCallIo, PV.pCntT, PV.pLcO, PV.pZipF, PV.pDivMod, PV.ownsOf_dic, PV.pDNew, PV.pDPut, PV.pDGet2, PV.pDGet, PV.pDIn, PV.pLenD, PV.keyD, PV.pSlScr, PV.pZipT, PV.pRngC, PV.pRngV, PV.pSt1, PV.pM0, PV.pZipS, PV.pM1, PV.pJoin, PV.pFmt, PV.pJoined, PV.pJs, PV.pBMV, PV.pCount, PV.pIndex, PV.pSetIx2, PV.pRetT, PV.pLcF, PV.mapL_inj, PV.pVar, PV.pC, PV.pOp, PV.pUn, PV.pII, PV.pII0, PV.pNeg, PV.pSS, PV.pSS0, PV.eqF_int, PV.eqF_str, PV.eqF_bool, PV.eqF_ni, PV.eqF_in, PV.eqF_nn, PV.eqF_si, PV.eqF_is, PV.eqF_sn, PV.eqF_ns, PV.pEq, PV.pEqD, PV.isN, PV.pIsN, PV.Tg.d, PV.Tg.it, PV.Tg.itD, PV.Tg.ok, PV.pCat, PV.pRep, PV.pCatT, PV.pIn, PV.pNil, PV.pCons, PV.Tg.items, PV.pStar, PV.allD, PV.allS, PV.pTup, PV.pLst, PV.pNoPart, PV.pPart, PV.pSlL, PV.pSlT, PV.pCB, PV.pLen, PV.pLenS, PV.pI1, PV.pI10, PV.pI2, PV.pInt1, PV.pBool1, PV.pS1, PV.pListOf, PV.pTupOf, PV.tyD, PV.pIsi, PV.bD, PV.pAndV, PV.pOrV, PV.pNotV, PV.pIfE, PV.pT, PV.pAnd, PV.pOr, PV.pNot, PV.truD, PV.pTru, PV.pNotT, PV.pChain, PV.pThree, PV.Rs.arg, PV.lend, PV.pCall, PV.pCall0, PV.pIt, PV.pItT, PV.pRg1, PV.pRg2, PV.pRg3, PV.pEnum, PV.pZip, PV.pRev, PV.pStr, PV.setR, PV.pName, PV.pTgt, PV.pTgts, PV.pTg, PV.pNext, PV.pBreak, PV.pCont, PV.pSeq, PV.pShr, PV.pShrI, PV.shI, PV.pFgt, PV.fgt, PV.pAsg, PV.pExpr, PV.Rs.ret, PV.pRet, PV.pRetN, PV.pIf, PV.pFld, PV.pAug, PV.pPar, PV.pBM, PV.pBM0, PV.pAppend, PV.pExtend, PV.pExtT, PV.pClear, PV.pReverse, PV.pSetIx, PV.pFor, PV.wipeG, PV.pLc, PV.gG, PV.pGen, PV.pYes, PV.pSum, PV.pRaise, PV.pRaise1, PV.slA, PV.startG, PV.ends, PV.pRevL, PV.pSlS, PV.pSign, PV.pProp, PV.pMake, PV.pMake0, PV.pTry, PV.pRetD, PV.Rs.asD, PV.sg, PV.Sl.r, PV.dV, PV.flatD, PV.owns, PV.ownsOf_no, PV.ownsOf_dat, PV.ownsOf_obj, PV.ownsOf_own, PV.ownsOf_tab, PV.shr, PV.Sl.sh, PV.intsOf_map, PV.intsOf_app, PV.intsOf_nil, PV.intsOf_int, PV.isInts_map, PV.isInts_nil, PV.isInts_int, PV.isInts_mapL, PV.scr_key, PV.isiQ_s, PV.kit_int_int, PV.kit_int_bool, PV.kit_int_str, PV.kit_int_list, PV.kit_int_tuple, PV.kit_bool_int, PV.kit_bool_bool, PV.kit_bool_str, PV.kit_bool_list, PV.kit_bool_tuple, PV.kit_str_int, PV.kit_str_bool, PV.kit_str_str, PV.kit_str_list, PV.kit_str_tuple, PV.kit_list_int, PV.kit_list_bool, PV.kit_list_str, PV.kit_list_list, PV.kit_list_tuple, PV.kit_tuple_int, PV.kit_tuple_bool, PV.kit_tuple_str, PV.kit_tuple_list, PV.kit_tuple_tuple, PV.kit_NoneType_int, PV.kit_NoneType_bool, PV.kit_NoneType_str, PV.kit_NoneType_list, PV.kit_NoneType_tuple, PV.cutD_map, PV.allD_map, PV.allD_mapA, PV.allS_map, PV.allS_mapA, List.getElem?_cons_zero, List.getElem?_cons_succ, List.getElem?_nil, List.set_cons_zero, List.set_cons_succ, List.map_cons, List.map_nil, List.cons_append, List.nil_append, List.append_nil, List.length_cons, List.length_nil, List.length_map, List.length_append, List.length_replicate, PV.flat_rep, Nat.mul_one, Nat.one_mul, PV.rep_none, List.replicate_zero, List.all_cons, List.all_nil, cond_true, cond_false, Bool.and_true, Bool.true_and, Bool.and_false, Bool.false_and, Bool.not_true, Bool.not_false, Bool.not_not, if_true, if_false, ite_true, ite_false, true_and, and_true, true_implies, false_implies, reduceCtorEq, Nat.reduceAdd, Nat.reduceSub, Nat.reduceLT, Nat.reduceLeDiff, Bool.false_eq_true, decide_eq_true_eq, decide_eq_false_iff_not, Bool.not_eq_true, Bool.not_eq_false, Bool.not_eq_true', Bool.not_eq_false', Bool.true_eq_false, Option.map_some, Option.map_none, decide_true, decide_false, not_true_eq_false, not_false_eq_true, implies_true, forall_const, eq_self, Nat.reduceEqDiff, beq_self_eq_true, ne_eq, Int.reduceEq, Int.reduceNe, Int.reduceLT, Int.reduceLE, Int.reduceGT, Int.reduceGE, Int.reduceToNat, Int.reduceAdd, Int.reduceNeg, Nat.reduceLT, Nat.reduceLeDiff, Nat.reduceAdd, Nat.reduceMul, false_and, and_false, and_self, true_and, and_true, false_implies, PV.at0, PV.at1, PV.at2, PV.at3, PV.at4, PV.at5, Option.some.injEq, exists_eq_left', exists_eq_left, r1, r2, dI, c1, flat_ints', count_ints']
    rintro _ rfl
    simp only [PV.sgI, PV.endsIO, PV.pIoV, PV.pCallIo, PV.pCntT, PV.pLcO, PV.pZipF, PV.pDivMod, PV.ownsOf_dic, PV.pDNew, PV.pDPut, PV.pDGet2, PV.pDGet, PV.pDIn, PV.pLenD, PV.keyD, PV.pSlScr, PV.pZipT, PV.pRngC, PV.pRngV, PV.pSt1, PV.pM0, PV.pZipS, PV.pM1, PV.pJoin, PV.pFmt, PV.pJoined, PV.pJs, PV.pBMV, PV.pCount, PV.pIndex, PV.pSetIx2, PV.pRetT, PV.pLcF, PV.mapL_inj, PV.pVar, PV.pC, PV.pOp, PV.pUn, PV.pII, PV.pII0, PV.pNeg, PV.pSS, PV.pSS0, PV.eqF_int, PV.eqF_str, PV.eqF_bool, PV.eqF_ni, PV.eqF_in, PV.eqF_nn, PV.eqF_si, PV.eqF_is, PV.eqF_sn, PV.eqF_ns, PV.pEq, PV.pEqD, PV.isN, PV.pIsN, PV.Tg.d, PV.Tg.it, PV.Tg.itD, PV.Tg.ok, PV.pCat, PV.pRep, PV.pCatT, PV.pIn, PV.pNil, PV.pCons, PV.Tg.items, PV.pStar, PV.allD, PV.allS, PV.pTup, PV.pLst, PV.pNoPart, PV.pPart, PV.pSlL, PV.pSlT, PV.pCB, PV.pLen, PV.pLenS, PV.pI1, PV.pI10, PV.pI2, PV.pInt1, PV.pBool1, PV.pS1, PV.pListOf, PV.pTupOf, PV.tyD, PV.pIsi, PV.bD, PV.pAndV, PV.pOrV, PV.pNotV, PV.pIfE, PV.pT, PV.pAnd, PV.pOr, PV.pNot, PV.truD, PV.pTru, PV.pNotT, PV.pChain, PV.pThree, PV.Rs.arg, PV.lend, PV.pCall, PV.pCall0, PV.pIt, PV.pItT, PV.pRg1, PV.pRg2, PV.pRg3, PV.pEnum, PV.pZip, PV.pRev, PV.pStr, PV.setR, PV.pName, PV.pTgt, PV.pTgts, PV.pTg, PV.pNext, PV.pBreak, PV.pCont, PV.pSeq, PV.pShr, PV.pShrI, PV.shI, PV.pFgt, PV.fgt, PV.pAsg, PV.pExpr, PV.Rs.ret, PV.pRet, PV.pRetN, PV.pIf, PV.pFld, PV.pAug, PV.pPar, PV.pBM, PV.pBM0, PV.pAppend, PV.pExtend, PV.pExtT, PV.pClear, PV.pReverse, PV.pSetIx, PV.pFor, PV.wipeG, PV.pLc, PV.gG, PV.pGen, PV.pYes, PV.pSum, PV.pRaise, PV.pRaise1, PV.slA, PV.startG, PV.ends, PV.pRevL, PV.pSlS, PV.pSign, PV.pProp, PV.pMake, PV.pMake0, PV.pTry, PV.pRetD, PV.Rs.asD, PV.sg, PV.Sl.r, PV.dV, PV.flatD, PV.owns, PV.ownsOf_no, PV.ownsOf_dat, PV.ownsOf_obj, PV.ownsOf_own, PV.ownsOf_tab, PV.shr, PV.Sl.sh, PV.intsOf_map, PV.intsOf_app, PV.intsOf_nil, PV.intsOf_int, PV.isInts_map, PV.isInts_nil, PV.isInts_int, PV.isInts_mapL, PV.scr_key, PV.isiQ_s, PV.kit_int_int, PV.kit_int_bool, PV.kit_int_str, PV.kit_int_list, PV.kit_int_tuple, PV.kit_bool_int, PV.kit_bool_bool, PV.kit_bool_str, PV.kit_bool_list, PV.kit_bool_tuple, PV.kit_str_int, PV.kit_str_bool, PV.kit_str_str, PV.kit_str_list, PV.kit_str_tuple, PV.kit_list_int, PV.kit_list_bool, PV.kit_list_str, PV.kit_list_list, PV.kit_list_tuple, PV.kit_tuple_int, PV.kit_tuple_bool, PV.kit_tuple_str, PV.kit_tuple_list, PV.kit_tuple_tuple, PV.kit_NoneType_int, PV.kit_NoneType_bool, PV.kit_NoneType_str, PV.kit_NoneType_list, PV.kit_NoneType_tuple, PV.cutD_map, PV.allD_map, PV.allD_mapA, PV.allS_map, PV.allS_mapA, List.getElem?_cons_zero, List.getElem?_cons_succ, List.getElem?_nil, List.set_cons_zero, List.set_cons_succ, List.map_cons, List.map_nil, List.cons_append, List.nil_append, List.append_nil, List.length_cons, List.length_nil, List.length_map, List.length_append, List.length_replicate, PV.flat_rep, Nat.mul_one, Nat.one_mul, PV.rep_none, List.replicate_zero, List.all_cons, List.all_nil, cond_true, cond_false, Bool.and_true, Bool.true_and, Bool.and_false, Bool.false_and, Bool.not_true, Bool.not_false, Bool.not_not, if_true, if_false, ite_true, ite_false, true_and, and_true, true_implies, false_implies, reduceCtorEq, Nat.reduceAdd, Nat.reduceSub, Nat.reduceLT, Nat.reduceLeDiff, Bool.false_eq_true, decide_eq_true_eq, decide_eq_false_iff_not, Bool.not_eq_true, Bool.not_eq_false, Bool.not_eq_true', Bool.not_eq_false', Bool.true_eq_false, Option.map_some, Option.map_none, decide_true, decide_false, not_true_eq_false, not_false_eq_true, implies_true, forall_const, eq_self, Nat.reduceEqDiff, beq_self_eq_true, ne_eq, Int.reduceEq, Int.reduceNe, Int.reduceLT, Int.reduceLE, Int.reduceGT, Int.reduceGE, Int.reduceToNat, Int.reduceAdd, Int.reduceNeg, Nat.reduceLT, Nat.reduceLeDiff, Nat.reduceAdd, Nat.reduceMul, false_and, and_false, and_self, true_and, and_true, false_implies, PV.at0, PV.at1, PV.at2, PV.at3, PV.at4, PV.at5, Option.some.injEq, exists_eq_left', exists_eq_left, r3, r4, dI, c2, flat_ints', count_ints']
    exact hQ
  · exact h.elim
def pFindP : PV.PSp := fun as _ Q => match as with
  | [.v _ (.int s), .v _ (.list ds)] => ∃ (n m : Nat) (f : Nat → Nat → Int) (k : Nat), ds = (mkR n m f).map dI ∧ s = k ∧ (1 ≤ n ∧ n ≤ 60) ∧ (1 ≤ m ∧ m ≤ 60) ∧ rectB n m f ∧ 2 ≤ k ∧ k ≤ n ∧ k ≤ m ∧ Q (.v .dat (foundP (places f n m k)))
  | _ => False
theorem itD_row {j : Nat} {xs : List Int} (h : j < xs.length) : PV.itD j (dI xs) = .int (xs.getD j 0) := by
  show (xs.map PyData.int).getD j .none = _
  rw [List.getD_eq_getElem?_getD, List.getElem?_map, List.getD_eq_getElem?_getD, List.getElem?_eq_getElem h]
  rfl
theorem cols_eq {n m : Nat} {f : Nat → Nat → Int} : PV.colsD ((mkR n m f).map dI) m = (List.range m).map fun j => .tuple ((List.range n).map fun i => .int (f i j)) := by
  unfold PV.colsD
  refine List.map_congr_left fun j hj => ?_
  have hj := List.mem_range.mp hj
  congr 1
  unfold mkR
  rw [List.map_map, List.map_map]
  refine List.map_congr_left fun i _ => ?_
  show PV.itD j (dI ((List.range m).map fun c => f i c)) = _
  rw [itD_row (by simpa using hj)]
  simp [hj]
theorem rows_rect {n m : Nat} {f : Nat → Nat → Int} : PV.rowsM ((mkR n m f).map dI) m := fun d hd => by
  obtain ⟨row, hr, rfl⟩ := List.mem_map.mp hd
  obtain ⟨r, _, rfl⟩ := mkR_row hr
  exact ⟨_, rfl, by simp⟩
theorem ok_find_page (T : Txt K mg C_InvalidBed) : Ok P w K mg base (CXN P w) 3 "find_page" ["side", "bed"] (PV.spP K [] (PV.sg 2 pFindP)) := by
  have G_check_bed := ok_check_bed (P := P) (w := w) (base := base) T
  have G__ring_blackness := ok__ring_blackness (P := P) (w := w) (base := base) T
  refine PV.pv_defX T.d_find_page sc_find_page (fun as PX PQ h => h.1) fun f cdv A outer s H E hr => ?_
  have nd := sc_find_page.nd
  have po := passes_of (X := cxOf (CXN P w) P w K mg base N_find_page "find_page" (defScope s_find_page) f cdv A outer s H E) rfl
  refine ⟨_, _, (pss_cons (ps_asg (pe_callO G_check_bed (hr.mono (by decide)) (passX (L2N.takes_of rfl rfl rfl rfl) (fun _ _ _ z => z)) (pa_cons (pv 1) pa_nil)) (pg_tup rfl (pgs_cons (pg_name (i := 2) nd rfl (Or.inl rfl)) (pgs_cons (pg_name (i := 3) nd rfl (Or.inl rfl)) pgs_nil))))
      (pss_cons (ps_setLc (i := 4) (own := [("column", 5)]) (g := gName 5) (tt := tYes) rfl nd rfl rfl (sw_true rfl rfl rfl (by decide +kernel)) (ZX.pi_zipN (by rfl) T.n_zip (pv 1)) (blkOk_by (N := N_find_page) (sc := defScope s_find_page) (by decide +kernel)) (fun _ _ _ _ _ => (pg_name (i := 5) nd rfl (Or.inl rfl))) (fun _ _ _ _ _ => pts_nil) (fun _ _ _ _ _ => (pe_callTy (TK.call_list_ofK (K := K)) (by rfl) T.n_list (by decide +kernel) (pa_cons (pv 5) pa_nil))))
      (pss_cons (ps_set (i := 6) nd rfl (Or.inl rfl) (pe_op op_fdiv (pe_op op_sub (pv 0) pe_int) pe_int))
      (pss_cons (ps_set (i := 7) nd rfl (Or.inl rfl) (pe_lst pa_nil))
      (pss_cons (ps_for po rfl (pi_range1 rfl T.n_range (pa_cons (pe_op op_add (pe_op op_sub (pv 2) (pv 0)) pe_int) pa_nil)) (pg_name (i := 8) nd rfl (Or.inl rfl))
        (pss_one (ps_for po rfl (pi_range1 rfl T.n_range (pa_cons (pe_op op_add (pe_op op_sub (pv 3) (pv 0)) pe_int) pa_nil)) (pg_name (i := 5) nd rfl (Or.inl rfl))
          (pss_cons (ps_set (i := 9) nd rfl (Or.inl rfl) (pe_bm PySem.F.plainAttrs_list PySem.F.slot_list_count PySem.F.type_list_count LCN.mt_countL (pe_slice sl_list (pe_ix ix_list (pv 1) (pv 8) (fun _ _ => rfl)) (po_some (pv 5)) (po_some (pe_op op_add (pv 5) (pv 0)))) (pa_cons (pe_globC rfl T.c_BLACK) pa_nil)))
          (pss_one (ps_if (PW.pt (pw_and (pt_cmpR op_ge (pv 9) (pe_op op_sub (pv 0) (pv 6)) (nomark _)) (pw_and1 (pt_cmpR op_ge (pe_callO G__ring_blackness (hr.mono (by decide)) pass0 (pa_cons (pv 1) (pa_cons (pv 4) (pa_cons (pv 0) (pa_cons (pv 8) (pa_cons (pv 5) pa_nil)))))) (pe_op op_sub (pe_op op_sub (pe_op op_mul pe_int (pv 0)) pe_int) (pv 6)) (nomark _)))))
            (pss_one (ps_expr (pe_bm PySem.F.plainAttrs_list PySem.F.slot_list_append PySem.F.type_list_append mt_append (pv 7) (pa_cons (pe_tup (pa_cons (pv 8) (pa_cons (pv 5) pa_nil))) pa_nil)))) pss_nil))))))
      (pss_one (ps_ret (pe_ifExp (pt_cmpR op_eq (pe_callB call_len_seq (by rfl) T.n_len PySem.boot_len (pa_cons (pv 7) pa_nil)) pe_int (nomark _)) (pe_ix ix_list (pv 7) pe_int (fun _ _ => rfl)) pe_non)))))))),
    open PV in (ls_seq (ls_asg (le_callX spok (la_cons le_var la_nil)) (lg_tgt (.tup (.cons (.name 2) (.cons (.name 3) .nil)))))
      (ls_seq (ls_asg (le_lc (.name 5) (by decide) nsE (li_zipS le_var) lt_yes (le_cb lc_list (la_cons le_var la_nil))) (lg_name (b := false)))
      (ls_seq (ls_asg (le_op lr_I (le_op lr_I0 le_var le_c) le_c) (lg_name (b := false)))
      (ls_seq (ls_asg (le_lst la_nil) (lg_name (b := true)))
      (ls_seq (ls_for (li_rg1 (la_cons (le_op lr_I0 (le_op lr_I0 le_var le_var) le_c) la_nil)) (lg_tgt (.name 8))
      (ls_for (li_rg1 (la_cons (le_op lr_I0 (le_op lr_I0 le_var le_var) le_c) la_nil)) (lg_tgt (.name 5))
      (ls_seq (ls_asg (le_bmv lm_count (le_slL (le_op lr_ixL le_var le_var) (lo_some le_var) (lo_some (le_op lr_I0 le_var le_var))) (la_cons le_c la_nil)) (lg_name (b := false)))
      (ls_if (lt_and (lt_test (le_op lr_I0 le_var (le_op lr_I0 le_var le_var))) (lt_test (le_op lr_I0 (le_call0 spok (la_cons le_var (la_cons le_var (la_cons le_var (la_cons le_var (la_cons le_var la_nil)))))) (le_op lr_I0 (le_op lr_I0 (le_op lr_I le_c le_var) le_c) le_var))))
      (ls_bm lm_append (la_cons (le_tup (la_cons le_var (la_cons le_var la_nil))) la_nil))
      ls_next))))
      (ls_retD (le_if (lt_test (le_op lr_eq (le_cb lc_len (la_cons le_var la_nil)) le_c)) (le_op lr_ixL le_var le_c) le_c))))))), fun as PX PQ h => ?_⟩
  replace h := h.2
  unfold pFindP at h
  split at h
  · next t s t2 ds =>
    obtain ⟨n, m, f, k, rfl, rfl, hn, hm, hf, hk, hkn, hkm, hQ⟩ := h
    simp only [PV.sgI, PV.endsIO, PV.pIoV, PV.pCallIo, PV.pCntT, PV.pLcO, PV.pZipF, PV.pDivMod, PV.ownsOf_dic, PV.pDNew, PV.pDPut, PV.pDGet2, PV.pDGet, PV.pDIn, PV.pLenD, PV.keyD, PV.pSlScr, PV.pZipT, PV.pRngC, PV.pRngV, PV.pSt1, PV.pM0, PV.pZipS, PV.pM1, PV.pJoin, PV.pFmt, PV.pJoined, PV.pJs, PV.pBMV, PV.pCount, PV.pIndex, PV.pSetIx2, PV.pRetT, PV.pLcF, PV.mapL_inj, PV.pVar, PV.pC, PV.pOp, PV.pUn, PV.pII, PV.pII0, PV.pNeg, PV.pSS, PV.pSS0, PV.eqF_int, PV.eqF_str, PV.eqF_bool, PV.eqF_ni, PV.eqF_in, PV.eqF_nn, PV.eqF_si, PV.eqF_is, PV.eqF_sn, PV.eqF_ns, PV.pEq, PV.pEqD, PV.isN, PV.pIsN, PV.Tg.d, PV.Tg.it, PV.Tg.itD, PV.Tg.ok, PV.pCat, PV.pRep, PV.pCatT, PV.pIn, PV.pNil, PV.pCons, PV.Tg.items, PV.pStar, PV.allD, PV.allS, PV.pTup, PV.pLst, PV.pNoPart, PV.pPart, PV.pSlL, PV.pSlT, PV.pCB, PV.pLen, PV.pLenS, PV.pI1, PV.pI10, PV.pI2, PV.pInt1, PV.pBool1, PV.pS1, PV.pListOf, PV.pTupOf, PV.tyD, PV.pIsi, PV.bD, PV.pAndV, PV.pOrV, PV.pNotV, PV.pIfE, PV.pT, PV.pAnd, PV.pOr, PV.pNot, PV.truD, PV.pTru, PV.pNotT, PV.pChain, PV.pThree, PV.Rs.arg, PV.lend, PV.pCall, PV.pCall0, PV.pIt, PV.pItT, PV.pRg1, PV.pRg2, PV.pRg3, PV.pEnum, PV.pZip, PV.pRev, PV.pStr, PV.setR, PV.pName, PV.pTgt, PV.pTgts, PV.pTg, PV.pNext, PV.pBreak, PV.pCont, PV.pSeq, PV.pShr, PV.pShrI, PV.shI, PV.pFgt, PV.fgt, PV.pAsg, PV.pExpr, PV.Rs.ret, PV.pRet, PV.pRetN, PV.pIf, PV.pFld, PV.pAug, PV.pPar, PV.pBM, PV.pBM0, PV.pAppend, PV.pExtend, PV.pExtT, PV.pClear, PV.pReverse, PV.pSetIx, PV.pFor, PV.wipeG, PV.pLc, PV.gG, PV.pGen, PV.pYes, PV.pSum, PV.pRaise, PV.pRaise1, PV.slA, PV.startG, PV.ends, PV.pRevL, PV.pSlS, PV.pSign, PV.pProp, PV.pMake, PV.pMake0, PV.pTry, PV.pRetD, PV.Rs.asD, PV.sg, PV.Sl.r, PV.dV, PV.flatD, PV.owns, PV.ownsOf_no, PV.ownsOf_dat, PV.ownsOf_obj, PV.ownsOf_own, PV.ownsOf_tab, PV.shr, PV.Sl.sh, PV.intsOf_map, PV.intsOf_app, PV.intsOf_nil, PV.intsOf_int, PV.isInts_map, PV.isInts_nil, PV.isInts_int, PV.isInts_mapL, PV.scr_key, PV.isiQ_s, PV.kit_int_int, PV.kit_int_bool, PV.kit_int_str, PV.kit_int_list, PV.kit_int_tuple, PV.kit_bool_int, PV.kit_bool_bool, PV.kit_bool_str, PV.kit_bool_list, PV.kit_bool_tuple, PV.kit_str_int, PV.kit_str_bool, PV.kit_str_str, PV.kit_str_list, PV.kit_str_tuple, PV.kit_list_int, PV.kit_list_bool, PV.kit_list_str, PV.kit_list_list, PV.kit_list_tuple, PV.kit_tuple_int, PV.kit_tuple_bool, PV.kit_tuple_str, PV.kit_tuple_list, PV.kit_tuple_tuple, PV.kit_NoneType_int, PV.kit_NoneType_bool, PV.kit_NoneType_str, PV.kit_NoneType_list, PV.kit_NoneType_tuple, PV.cutD_map, PV.allD_map, PV.allD_mapA, PV.allS_map, PV.allS_mapA, List.getElem?_cons_zero, List.getElem?_cons_succ, List.getElem?_nil, List.set_cons_zero, List.set_cons_succ, List.map_cons, List.map_nil, List.cons_append, List.nil_append, List.append_nil, List.length_cons, List.length_nil, List.length_map, List.length_append, List.length_replicate, PV.flat_rep, Nat.mul_one, Nat.one_mul, PV.rep_none, List.replicate_zero, List.all_cons, List.all_nil, cond_true, cond_false, Bool.and_true, Bool.true_and, Bool.and_false, Bool.false_and, Bool.not_true, Bool.not_false, Bool.not_not, if_true, if_false, ite_true, ite_false, true_and, and_true, true_implies, false_implies, reduceCtorEq, Nat.reduceAdd, Nat.reduceSub, Nat.reduceLT, Nat.reduceLeDiff, Bool.false_eq_true, decide_eq_true_eq, decide_eq_false_iff_not, Bool.not_eq_true, Bool.not_eq_false, Bool.not_eq_true', Bool.not_eq_false', Bool.true_eq_false, Option.map_some, Option.map_none, decide_true, decide_false, not_true_eq_false, not_false_eq_true, implies_true, forall_const, eq_self, Nat.reduceEqDiff, beq_self_eq_true, ne_eq, Int.reduceEq, Int.reduceNe, Int.reduceLT, Int.reduceLE, Int.reduceGT, Int.reduceGE, Int.reduceToNat, Int.reduceAdd, Int.reduceNeg, Nat.reduceLT, Nat.reduceLeDiff, Nat.reduceAdd, Nat.reduceMul, false_and, and_false, and_self, true_and, and_true, false_implies, PV.at0, PV.at1, PV.at2, PV.at3, PV.at4, PV.at5, Option.some.injEq, exists_eq_left', exists_eq_left, pChkBed]
    refine ⟨n, m, f, rfl, hn, hm, hf, m, rows_rect, fun z => ?_, by rw [mkR_len]; omega, ?_⟩
    · have := congrArg List.length z
      rw [List.length_map, mkR_len, List.length_nil] at this
      omega
    rw [cols_eq]
    refine PV.comp_map (inj := fun j : Nat => .tuple ((List.range n).map fun i => .int (f i j))) (f := fun j : Nat => dI ((List.range n).map fun i => f i j)) _ (List.range m) (fun _ _ _ z => z) (by rw [List.length_range]; omega) (fun j hj P hP => ?_) ?_
    · simp only [PV.sgI, PV.endsIO, PV.pIoV, PV.pCallIo, PV.pCntT, PV.pLcO, PV.pZipF, PV.pDivMod, PV.ownsOf_dic, PV.pDNew, PV.pDPut, PV.pDGet2, PV.pDGet, PV.pDIn, PV.pLenD, PV.keyD, PV.pSlScr, PV.pZipT, PV.pRngC, PV.pRngV, PV.pSt1, PV.pM0, PV.pZipS, PV.pM1, PV.pJoin, PV.pFmt, PV.pJoined, PV.pJs, PV.pBMV, PV.pCount, PV.pIndex, PV.pSetIx2, PV.pRetT, PV.pLcF, PV.mapL_inj, PV.pVar, PV.pC, PV.pOp, PV.pUn, PV.pII, PV.pII0, PV.pNeg, PV.pSS, PV.pSS0, PV.eqF_int, PV.eqF_str, PV.eqF_bool, PV.eqF_ni, PV.eqF_in, PV.eqF_nn, PV.eqF_si, PV.eqF_is, PV.eqF_sn, PV.eqF_ns, PV.pEq, PV.pEqD, PV.isN, PV.pIsN, PV.Tg.d, PV.Tg.it, PV.Tg.itD, PV.Tg.ok, PV.pCat, PV.pRep, PV.pCatT, PV.pIn, PV.pNil, PV.pCons, PV.Tg.items, PV.pStar, PV.allD, PV.allS, PV.pTup, PV.pLst, PV.pNoPart, PV.pPart, PV.pSlL, PV.pSlT, PV.pCB, PV.pLen, PV.pLenS, PV.pI1, PV.pI10, PV.pI2, PV.pInt1, PV.pBool1, PV.pS1, PV.pListOf, PV.pTupOf, PV.tyD, PV.pIsi, PV.bD, PV.pAndV, PV.pOrV, PV.pNotV, PV.pIfE, PV.pT, PV.pAnd, PV.pOr, PV.pNot, PV.truD, PV.pTru, PV.pNotT, PV.pChain, PV.pThree, PV.Rs.arg, PV.lend, PV.pCall, PV.pCall0, PV.pIt, PV.pItT, PV.pRg1, PV.pRg2, PV.pRg3, PV.pEnum, PV.pZip, PV.pRev, PV.pStr, PV.setR, PV.pName, PV.pTgt, PV.pTgts, PV.pTg, PV.pNext, PV.pBreak, PV.pCont, PV.pSeq, PV.pShr, PV.pShrI, PV.shI, PV.pFgt, PV.fgt, PV.pAsg, PV.pExpr, PV.Rs.ret, PV.pRet, PV.pRetN, PV.pIf, PV.pFld, PV.pAug, PV.pPar, PV.pBM, PV.pBM0, PV.pAppend, PV.pExtend, PV.pExtT, PV.pClear, PV.pReverse, PV.pSetIx, PV.pFor, PV.wipeG, PV.pLc, PV.gG, PV.pGen, PV.pYes, PV.pSum, PV.pRaise, PV.pRaise1, PV.slA, PV.startG, PV.ends, PV.pRevL, PV.pSlS, PV.pSign, PV.pProp, PV.pMake, PV.pMake0, PV.pTry, PV.pRetD, PV.Rs.asD, PV.sg, PV.Sl.r, PV.dV, PV.flatD, PV.owns, PV.ownsOf_no, PV.ownsOf_dat, PV.ownsOf_obj, PV.ownsOf_own, PV.ownsOf_tab, PV.shr, PV.Sl.sh, PV.intsOf_map, PV.intsOf_app, PV.intsOf_nil, PV.intsOf_int, PV.isInts_map, PV.isInts_nil, PV.isInts_int, PV.isInts_mapL, PV.scr_key, PV.isiQ_s, PV.kit_int_int, PV.kit_int_bool, PV.kit_int_str, PV.kit_int_list, PV.kit_int_tuple, PV.kit_bool_int, PV.kit_bool_bool, PV.kit_bool_str, PV.kit_bool_list, PV.kit_bool_tuple, PV.kit_str_int, PV.kit_str_bool, PV.kit_str_str, PV.kit_str_list, PV.kit_str_tuple, PV.kit_list_int, PV.kit_list_bool, PV.kit_list_str, PV.kit_list_list, PV.kit_list_tuple, PV.kit_tuple_int, PV.kit_tuple_bool, PV.kit_tuple_str, PV.kit_tuple_list, PV.kit_tuple_tuple, PV.kit_NoneType_int, PV.kit_NoneType_bool, PV.kit_NoneType_str, PV.kit_NoneType_list, PV.kit_NoneType_tuple, PV.cutD_map, PV.allD_map, PV.allD_mapA, PV.allS_map, PV.allS_mapA, List.getElem?_cons_zero, List.getElem?_cons_succ, List.getElem?_nil, List.set_cons_zero, List.set_cons_succ, List.map_cons, List.map_nil, List.cons_append, List.nil_append, List.append_nil, List.length_cons, List.length_nil, List.length_map, List.length_append, List.length_replicate, PV.flat_rep, Nat.mul_one, Nat.one_mul, PV.rep_none, List.replicate_zero, List.all_cons, List.all_nil, cond_true, cond_false, Bool.and_true, Bool.true_and, Bool.and_false, Bool.false_and, Bool.not_true, Bool.not_false, Bool.not_not, if_true, if_false, ite_true, ite_false, true_and, and_true, true_implies, false_implies, reduceCtorEq, Nat.reduceAdd, Nat.reduceSub, Nat.reduceLT, Nat.reduceLeDiff, Bool.false_eq_true, decide_eq_true_eq, decide_eq_false_iff_not, Bool.not_eq_true, Bool.not_eq_false, Bool.not_eq_true', Bool.not_eq_false', Bool.true_eq_false, Option.map_some, Option.map_none, decide_true, decide_false, not_true_eq_false, not_false_eq_true, implies_true, forall_const, eq_self, Nat.reduceEqDiff, beq_self_eq_true, ne_eq, Int.reduceEq, Int.reduceNe, Int.reduceLT, Int.reduceLE, Int.reduceGT, Int.reduceGE, Int.reduceToNat, Int.reduceAdd, Int.reduceNeg, Nat.reduceLT, Nat.reduceLeDiff, Nat.reduceAdd, Nat.reduceMul, false_and, and_false, and_self, true_and, and_true, false_implies, PV.at0, PV.at1, PV.at2, PV.at3, PV.at4, PV.at5, Option.some.injEq, exists_eq_left', exists_eq_left, List.length_range]
      have e : (List.range n).map (fun i => PyData.int (f i j)) = ((List.range n).map fun i => f i j).map PyData.int := by
        rw [List.map_map]
        rfl
      rw [e]
      exact hP
    show CDiv _ _ ∧ _
    rw [show ((List.range m).map fun j => dI ((List.range n).map fun i => f i j)) = colsT n m f from rfl]
    have hdiv : ((k : Int) - 1) / 2 = (((k - 1) / 2 : Nat) : Int) := by omega
    rw [hdiv]
    have ef : ((n : Int) - k + 1).toNat = n + 1 - k := by omega
    have ef2 : ((m : Int) - k + 1).toNat = m + 1 - k := by omega
    refine ⟨⟨by decide, by decide⟩, Nat.zero_le _, fun p => ⟨by omega, by omega, ?_⟩⟩
    rw [ef]
    refine PV.loop_rg (lo := 0) (n := n + 1 - k) (fun R g => ∃ o5 o8 o9, (PV.ownsOf o5 = [] ∧ PV.ownsOf o8 = [] ∧ PV.ownsOf o9 = []) ∧ g = [some (.dat (.int k)), some (.dat (.list ((mkR n m f).map dI))), some (.dat (.int n)), some (.dat (.int m)), some (.dat (.list (colsT n m f))), o5, some (.dat (.int ((k - 1) / 2 : Nat))), some (.own p ((rowsPl f m k R).map pairD)), o8, o9]) ⟨none, none, none, ⟨rfl, rfl, rfl⟩, rfl⟩ ?_ ?_
    · rintro R g hR ⟨o5, o8, o9, ⟨h5, h8, h9⟩, rfl⟩ N hN
      simp only [PV.sgI, PV.endsIO, PV.pIoV, PV.pCallIo, PV.pCntT, PV.pLcO, PV.pZipF, PV.pDivMod, PV.ownsOf_dic, PV.pDNew, PV.pDPut, PV.pDGet2, PV.pDGet, PV.pDIn, PV.pLenD, PV.keyD, PV.pSlScr, PV.pZipT, PV.pRngC, PV.pRngV, PV.pSt1, PV.pM0, PV.pZipS, PV.pM1, PV.pJoin, PV.pFmt, PV.pJoined, PV.pJs, PV.pBMV, PV.pCount, PV.pIndex, PV.pSetIx2, PV.pRetT, PV.pLcF, PV.mapL_inj, PV.pVar, PV.pC, PV.pOp, PV.pUn, PV.pII, PV.pII0, PV.pNeg, PV.pSS, PV.pSS0, PV.eqF_int, PV.eqF_str, PV.eqF_bool, PV.eqF_ni, PV.eqF_in, PV.eqF_nn, PV.eqF_si, PV.eqF_is, PV.eqF_sn, PV.eqF_ns, PV.pEq, PV.pEqD, PV.isN, PV.pIsN, PV.Tg.d, PV.Tg.it, PV.Tg.itD, PV.Tg.ok, PV.pCat, PV.pRep, PV.pCatT, PV.pIn, PV.pNil, PV.pCons, PV.Tg.items, PV.pStar, PV.allD, PV.allS, PV.pTup, PV.pLst, PV.pNoPart, PV.pPart, PV.pSlL, PV.pSlT, PV.pCB, PV.pLen, PV.pLenS, PV.pI1, PV.pI10, PV.pI2, PV.pInt1, PV.pBool1, PV.pS1, PV.pListOf, PV.pTupOf, PV.tyD, PV.pIsi, PV.bD, PV.pAndV, PV.pOrV, PV.pNotV, PV.pIfE, PV.pT, PV.pAnd, PV.pOr, PV.pNot, PV.truD, PV.pTru, PV.pNotT, PV.pChain, PV.pThree, PV.Rs.arg, PV.lend, PV.pCall, PV.pCall0, PV.pIt, PV.pItT, PV.pRg1, PV.pRg2, PV.pRg3, PV.pEnum, PV.pZip, PV.pRev, PV.pStr, PV.setR, PV.pName, PV.pTgt, PV.pTgts, PV.pTg, PV.pNext, PV.pBreak, PV.pCont, PV.pSeq, PV.pShr, PV.pShrI, PV.shI, PV.pFgt, PV.fgt, PV.pAsg, PV.pExpr, PV.Rs.ret, PV.pRet, PV.pRetN, PV.pIf, PV.pFld, PV.pAug, PV.pPar, PV.pBM, PV.pBM0, PV.pAppend, PV.pExtend, PV.pExtT, PV.pClear, PV.pReverse, PV.pSetIx, PV.pFor, PV.wipeG, PV.pLc, PV.gG, PV.pGen, PV.pYes, PV.pSum, PV.pRaise, PV.pRaise1, PV.slA, PV.startG, PV.ends, PV.pRevL, PV.pSlS, PV.pSign, PV.pProp, PV.pMake, PV.pMake0, PV.pTry, PV.pRetD, PV.Rs.asD, PV.sg, PV.Sl.r, PV.dV, PV.flatD, PV.owns, PV.ownsOf_no, PV.ownsOf_dat, PV.ownsOf_obj, PV.ownsOf_own, PV.ownsOf_tab, PV.shr, PV.Sl.sh, PV.intsOf_map, PV.intsOf_app, PV.intsOf_nil, PV.intsOf_int, PV.isInts_map, PV.isInts_nil, PV.isInts_int, PV.isInts_mapL, PV.scr_key, PV.isiQ_s, PV.kit_int_int, PV.kit_int_bool, PV.kit_int_str, PV.kit_int_list, PV.kit_int_tuple, PV.kit_bool_int, PV.kit_bool_bool, PV.kit_bool_str, PV.kit_bool_list, PV.kit_bool_tuple, PV.kit_str_int, PV.kit_str_bool, PV.kit_str_str, PV.kit_str_list, PV.kit_str_tuple, PV.kit_list_int, PV.kit_list_bool, PV.kit_list_str, PV.kit_list_list, PV.kit_list_tuple, PV.kit_tuple_int, PV.kit_tuple_bool, PV.kit_tuple_str, PV.kit_tuple_list, PV.kit_tuple_tuple, PV.kit_NoneType_int, PV.kit_NoneType_bool, PV.kit_NoneType_str, PV.kit_NoneType_list, PV.kit_NoneType_tuple, PV.cutD_map, PV.allD_map, PV.allD_mapA, PV.allS_map, PV.allS_mapA, List.getElem?_cons_zero, List.getElem?_cons_succ, List.getElem?_nil, List.set_cons_zero, List.set_cons_succ, List.map_cons, List.map_nil, List.cons_append, List.nil_append, List.append_nil, List.length_cons, List.length_nil, List.length_map, List.length_append, List.length_replicate, PV.flat_rep, Nat.mul_one, Nat.one_mul, PV.rep_none, List.replicate_zero, List.all_cons, List.all_nil, cond_true, cond_false, Bool.and_true, Bool.true_and, Bool.and_false, Bool.false_and, Bool.not_true, Bool.not_false, Bool.not_not, if_true, if_false, ite_true, ite_false, true_and, and_true, true_implies, false_implies, reduceCtorEq, Nat.reduceAdd, Nat.reduceSub, Nat.reduceLT, Nat.reduceLeDiff, Bool.false_eq_true, decide_eq_true_eq, decide_eq_false_iff_not, Bool.not_eq_true, Bool.not_eq_false, Bool.not_eq_true', Bool.not_eq_false', Bool.true_eq_false, Option.map_some, Option.map_none, decide_true, decide_false, not_true_eq_false, not_false_eq_true, implies_true, forall_const, eq_self, Nat.reduceEqDiff, beq_self_eq_true, ne_eq, Int.reduceEq, Int.reduceNe, Int.reduceLT, Int.reduceLE, Int.reduceGT, Int.reduceGE, Int.reduceToNat, Int.reduceAdd, Int.reduceNeg, Nat.reduceLT, Nat.reduceLeDiff, Nat.reduceAdd, Nat.reduceMul, false_and, and_false, and_self, true_and, and_true, false_implies, PV.at0, PV.at1, PV.at2, PV.at3, PV.at4, PV.at5, Option.some.injEq, exists_eq_left', exists_eq_left, h5, h8, h9]
      refine ⟨by omega, by omega, ?_⟩
      rw [ef2]
      refine PV.loop_rg (lo := 0) (n := m + 1 - k) (fun C g => ∃ o5 o9, (PV.ownsOf o5 = [] ∧ PV.ownsOf o9 = []) ∧ g = [some (.dat (.int k)), some (.dat (.list ((mkR n m f).map dI))), some (.dat (.int n)), some (.dat (.int m)), some (.dat (.list (colsT n m f))), o5, some (.dat (.int ((k - 1) / 2 : Nat))), some (.own p ((rowsPl f m k R ++ rowPl f k R C).map pairD)), some (.dat (.int (0 + (R : Int)))), o9]) ⟨o5, o9, ⟨h5, h9⟩, by rw [show rowPl f k R 0 = [] from rfl, List.append_nil]⟩ ?_ ?_
      · rintro C g hC ⟨o5, o9, ⟨h5, h9⟩, rfl⟩ N2 hN2
        have r1 : atI ((mkR n m f).map dI) (0 + (R : Int)) = some (dI ((List.range m).map fun c => f R c)) := rect_row (by omega) (by omega)
        have c1 : PV.cutL ((List.range m).map fun c => f R c) (some (0 + (C : Int))) (some (0 + (C : Int) + k)) = (List.range k).map fun j => f R (C + j) := cut_line (by omega) (by omega) (by omega)
        simp only [PV.sgI, PV.endsIO, PV.pIoV, PV.pCallIo, PV.pCntT, PV.pLcO, PV.pZipF, PV.pDivMod, PV.ownsOf_dic, PV.pDNew, PV.pDPut, PV.pDGet2, PV.pDGet, PV.pDIn, PV.pLenD, PV.keyD, PV.pSlScr, PV.pZipT, PV.pRngC, PV.pRngV, PV.pSt1, PV.pM0, PV.pZipS, PV.pM1, PV.pJoin, PV.pFmt, PV.pJoined, PV.pJs, PV.pBMV, PV.pCount, PV.pIndex, PV.pSetIx2, PV.pRetT, PV.pLcF, PV.mapL_inj, PV.pVar, PV.pC, PV.pOp, PV.pUn, PV.pII, PV.pII0, PV.pNeg, PV.pSS, PV.pSS0, PV.eqF_int, PV.eqF_str, PV.eqF_bool, PV.eqF_ni, PV.eqF_in, PV.eqF_nn, PV.eqF_si, PV.eqF_is, PV.eqF_sn, PV.eqF_ns, PV.pEq, PV.pEqD, PV.isN, PV.pIsN, PV.Tg.d, PV.Tg.it, PV.Tg.itD, PV.Tg.ok, PV.pCat, PV.pRep, PV.pCatT, PV.pIn, PV.pNil, PV.pCons, PV.Tg.items, PV.pStar, PV.allD, PV.allS, PV.pTup, PV.pLst, PV.pNoPart, PV.pPart, PV.pSlL, PV.pSlT, PV.pCB, PV.pLen, PV.pLenS, PV.pI1, PV.pI10, PV.pI2, PV.pInt1, PV.pBool1, PV.pS1, PV.pListOf, PV.pTupOf, PV.tyD, PV.pIsi, PV.bD, PV.pAndV, PV.pOrV, PV.pNotV, PV.pIfE, PV.pT, PV.pAnd, PV.pOr, PV.pNot, PV.truD, PV.pTru, PV.pNotT, PV.pChain, PV.pThree, PV.Rs.arg, PV.lend, PV.pCall, PV.pCall0, PV.pIt, PV.pItT, PV.pRg1, PV.pRg2, PV.pRg3, PV.pEnum, PV.pZip, PV.pRev, PV.pStr, PV.setR, PV.pName, PV.pTgt, PV.pTgts, PV.pTg, PV.pNext, PV.pBreak, PV.pCont, PV.pSeq, PV.pShr, PV.pShrI, PV.shI, PV.pFgt, PV.fgt, PV.pAsg, PV.pExpr, PV.Rs.ret, PV.pRet, PV.pRetN, PV.pIf, PV.pFld, PV.pAug, PV.pPar, PV.pBM, PV.pBM0, PV.pAppend, PV.pExtend, PV.pExtT, PV.pClear, PV.pReverse, PV.pSetIx, PV.pFor, PV.wipeG, PV.pLc, PV.gG, PV.pGen, PV.pYes, PV.pSum, PV.pRaise, PV.pRaise1, PV.slA, PV.startG, PV.ends, PV.pRevL, PV.pSlS, PV.pSign, PV.pProp, PV.pMake, PV.pMake0, PV.pTry, PV.pRetD, PV.Rs.asD, PV.sg, PV.Sl.r, PV.dV, PV.flatD, PV.owns, PV.ownsOf_no, PV.ownsOf_dat, PV.ownsOf_obj, PV.ownsOf_own, PV.ownsOf_tab, PV.shr, PV.Sl.sh, PV.intsOf_map, PV.intsOf_app, PV.intsOf_nil, PV.intsOf_int, PV.isInts_map, PV.isInts_nil, PV.isInts_int, PV.isInts_mapL, PV.scr_key, PV.isiQ_s, PV.kit_int_int, PV.kit_int_bool, PV.kit_int_str, PV.kit_int_list, PV.kit_int_tuple, PV.kit_bool_int, PV.kit_bool_bool, PV.kit_bool_str, PV.kit_bool_list, PV.kit_bool_tuple, PV.kit_str_int, PV.kit_str_bool, PV.kit_str_str, PV.kit_str_list, PV.kit_str_tuple, PV.kit_list_int, PV.kit_list_bool, PV.kit_list_str, PV.kit_list_list, PV.kit_list_tuple, PV.kit_tuple_int, PV.kit_tuple_bool, PV.kit_tuple_str, PV.kit_tuple_list, PV.kit_tuple_tuple, PV.kit_NoneType_int, PV.kit_NoneType_bool, PV.kit_NoneType_str, PV.kit_NoneType_list, PV.kit_NoneType_tuple, PV.cutD_map, PV.allD_map, PV.allD_mapA, PV.allS_map, PV.allS_mapA, List.getElem?_cons_zero, List.getElem?_cons_succ, List.getElem?_nil, List.set_cons_zero, List.set_cons_succ, List.map_cons, List.map_nil, List.cons_append, List.nil_append, List.append_nil, List.length_cons, List.length_nil, List.length_map, List.length_append, List.length_replicate, PV.flat_rep, Nat.mul_one, Nat.one_mul, PV.rep_none, List.replicate_zero, List.all_cons, List.all_nil, cond_true, cond_false, Bool.and_true, Bool.true_and, Bool.and_false, Bool.false_and, Bool.not_true, Bool.not_false, Bool.not_not, if_true, if_false, ite_true, ite_false, true_and, and_true, true_implies, false_implies, reduceCtorEq, Nat.reduceAdd, Nat.reduceSub, Nat.reduceLT, Nat.reduceLeDiff, Bool.false_eq_true, decide_eq_true_eq, decide_eq_false_iff_not, Bool.not_eq_true, Bool.not_eq_false, Bool.not_eq_true', Bool.not_eq_false', Bool.true_eq_false, Option.map_some, Option.map_none, decide_true, decide_false, not_true_eq_false, not_false_eq_true, implies_true, forall_const, eq_self, Nat.reduceEqDiff, beq_self_eq_true, ne_eq, Int.reduceEq, Int.reduceNe, Int.reduceLT, Int.reduceLE, Int.reduceGT, Int.reduceGE, Int.reduceToNat, Int.reduceAdd, Int.reduceNeg, Nat.reduceLT, Nat.reduceLeDiff, Nat.reduceAdd, Nat.reduceMul, false_and, and_false, and_self, true_and, and_true, false_implies, PV.at0, PV.at1, PV.at2, PV.at3, PV.at4, PV.at5, Option.some.injEq, exists_eq_left', exists_eq_left, r1, dI, c1, flat_ints', count_ints', pRingB, h5, h9]
        have hT : (((List.range k).map fun j => f R (C + j)).countP fun e => e == 1) = lineB f k fun j => (R, C + j) := by
          unfold lineB
          rw [count_line]
        rw [hT]
        have hb := blackC_eq (f := f) (s := k) (r := R) (c := C)
        have l2 := lineB_le (f := f) (n := k) (p := fun j => (R + k - 1, C + j))
        have l3 := lineB_le (f := f) (n := k - 2) (p := fun j => (R + 1 + j, C))
        have l4 := lineB_le (f := f) (n := k - 2) (p := fun j => (R + 1 + j, C + k - 1))
        have hlen := rowPl_len (f := f) (s := k) (r := R) (k := C)
        have hlen2 := rowsPl_len (f := f) (w := m) (s := k) (k := R)
        have hmul : R * (m + 1 - k) ≤ 60 * 60 := Nat.mul_le_mul (by omega) (by omega)
        have hth : thrN k = 4 * k - 4 - (k - 1) / 2 := rfl
        generalize (lineB f k fun j => (R, C + j)) = T1 at *
        refine ⟨fun z => ⟨n, m, f, k, R, C, rfl, rfl, rfl, by omega, by omega, hk, by omega, by omega, by omega, by omega, ?_⟩, fun z => ?_⟩
        · refine ⟨.inl ⟨by omega, by omega⟩, fun y => ⟨by decide, small (by omega), hN2 _ ⟨some (.dat (.int (0 + (C : Int)))), some (.dat (.int T1)), ⟨rfl, rfl⟩, ?_⟩⟩, fun y => hN2 _ ⟨some (.dat (.int (0 + (C : Int)))), some (.dat (.int T1)), ⟨rfl, rfl⟩, ?_⟩⟩
          · rw [rowPl_succ, if_pos (show thrN k ≤ blackC f k R C by omega), ← List.append_assoc, Int.zero_add, Int.zero_add]
            simp only [List.map_append]
            rfl
          · rw [rowPl_succ, if_neg (show ¬ thrN k ≤ blackC f k R C by omega), List.append_nil]
        · refine hN2 _ ⟨some (.dat (.int (0 + (C : Int)))), some (.dat (.int T1)), ⟨rfl, rfl⟩, ?_⟩
          rw [rowPl_succ, if_neg (show ¬ thrN k ≤ blackC f k R C by omega), List.append_nil]
      · rintro g ⟨o5, o9, ⟨h5, h9⟩, rfl⟩
        exact hN _ ⟨o5, _, o9, ⟨h5, rfl, h9⟩, by rw [rowsPl_succ]⟩
    · rintro g ⟨o5, o8, o9, ⟨h5, h8, h9⟩, rfl⟩
      have hQ2 : PQ (.v .dat (foundP (rowsPl f m k (n + 1 - k)))) := hQ
      generalize rowsPl f m k (n + 1 - k) = ps at *
      unfold foundP at hQ2
      simp only [PV.sgI, PV.endsIO, PV.pIoV, PV.pCallIo, PV.pCntT, PV.pLcO, PV.pZipF, PV.pDivMod, PV.ownsOf_dic, PV.pDNew, PV.pDPut, PV.pDGet2, PV.pDGet, PV.pDIn, PV.pLenD, PV.keyD, PV.pSlScr, PV.pZipT, PV.pRngC, PV.pRngV, PV.pSt1, PV.pM0, PV.pZipS, PV.pM1, PV.pJoin, PV.pFmt, PV.pJoined, PV.pJs, PV.pBMV, PV.pCount, PV.pIndex, PV.pSetIx2, PV.pRetT, PV.pLcF, PV.mapL_inj, PV.pVar, PV.pC, PV.pOp, PV.pUn, PV.pII, PV.pII0, PV.pNeg, PV.pSS, PV.pSS0, PV.eqF_int, PV.eqF_str, PV.eqF_bool, PV.eqF_ni, PV.eqF_in, PV.eqF_nn, PV.eqF_si, PV.eqF_is, PV.eqF_sn, PV.eqF_ns, PV.pEq, PV.pEqD, PV.isN, PV.pIsN, PV.Tg.d, PV.Tg.it, PV.Tg.itD, PV.Tg.ok, PV.pCat, PV.pRep, PV.pCatT, PV.pIn, PV.pNil, PV.pCons, PV.Tg.items, PV.pStar, PV.allD, PV.allS, PV.pTup, PV.pLst, PV.pNoPart, PV.pPart, PV.pSlL, PV.pSlT, PV.pCB, PV.pLen, PV.pLenS, PV.pI1, PV.pI10, PV.pI2, PV.pInt1, PV.pBool1, PV.pS1, PV.pListOf, PV.pTupOf, PV.tyD, PV.pIsi, PV.bD, PV.pAndV, PV.pOrV, PV.pNotV, PV.pIfE, PV.pT, PV.pAnd, PV.pOr, PV.pNot, PV.truD, PV.pTru, PV.pNotT, PV.pChain, PV.pThree, PV.Rs.arg, PV.lend, PV.pCall, PV.pCall0, PV.pIt, PV.pItT, PV.pRg1, PV.pRg2, PV.pRg3, PV.pEnum, PV.pZip, PV.pRev, PV.pStr, PV.setR, PV.pName, PV.pTgt, PV.pTgts, PV.pTg, PV.pNext, PV.pBreak, PV.pCont, PV.pSeq, PV.pShr, PV.pShrI, PV.shI, PV.pFgt, PV.fgt, PV.pAsg, PV.pExpr, PV.Rs.ret, PV.pRet, PV.pRetN, PV.pIf, PV.pFld, PV.pAug, PV.pPar, PV.pBM, PV.pBM0, PV.pAppend, PV.pExtend, PV.pExtT, PV.pClear, PV.pReverse, PV.pSetIx, PV.pFor, PV.wipeG, PV.pLc, PV.gG, PV.pGen, PV.pYes, PV.pSum, PV.pRaise, PV.pRaise1, PV.slA, PV.startG, PV.ends, PV.pRevL, PV.pSlS, PV.pSign, PV.pProp, PV.pMake, PV.pMake0, PV.pTry, PV.pRetD, PV.Rs.asD, PV.sg, PV.Sl.r, PV.dV, PV.flatD, PV.owns, PV.ownsOf_no, PV.ownsOf_dat, PV.ownsOf_obj, PV.ownsOf_own, PV.ownsOf_tab, PV.shr, PV.Sl.sh, PV.intsOf_map, PV.intsOf_app, PV.intsOf_nil, PV.intsOf_int, PV.isInts_map, PV.isInts_nil, PV.isInts_int, PV.isInts_mapL, PV.scr_key, PV.isiQ_s, PV.kit_int_int, PV.kit_int_bool, PV.kit_int_str, PV.kit_int_list, PV.kit_int_tuple, PV.kit_bool_int, PV.kit_bool_bool, PV.kit_bool_str, PV.kit_bool_list, PV.kit_bool_tuple, PV.kit_str_int, PV.kit_str_bool, PV.kit_str_str, PV.kit_str_list, PV.kit_str_tuple, PV.kit_list_int, PV.kit_list_bool, PV.kit_list_str, PV.kit_list_list, PV.kit_list_tuple, PV.kit_tuple_int, PV.kit_tuple_bool, PV.kit_tuple_str, PV.kit_tuple_list, PV.kit_tuple_tuple, PV.kit_NoneType_int, PV.kit_NoneType_bool, PV.kit_NoneType_str, PV.kit_NoneType_list, PV.kit_NoneType_tuple, PV.cutD_map, PV.allD_map, PV.allD_mapA, PV.allS_map, PV.allS_mapA, List.getElem?_cons_zero, List.getElem?_cons_succ, List.getElem?_nil, List.set_cons_zero, List.set_cons_succ, List.map_cons, List.map_nil, List.cons_append, List.nil_append, List.append_nil, List.length_cons, List.length_nil, List.length_map, List.length_append, List.length_replicate, PV.flat_rep, Nat.mul_one, Nat.one_mul, PV.rep_none, List.replicate_zero, List.all_cons, List.all_nil, cond_true, cond_false, Bool.and_true, Bool.true_and, Bool.and_false, Bool.false_and, Bool.not_true, Bool.not_false, Bool.not_not, if_true, if_false, ite_true, ite_false, true_and, and_true, true_implies, false_implies, reduceCtorEq, Nat.reduceAdd, Nat.reduceSub, Nat.reduceLT, Nat.reduceLeDiff, Bool.false_eq_true, decide_eq_true_eq, decide_eq_false_iff_not, Bool.not_eq_true, Bool.not_eq_false, Bool.not_eq_true', Bool.not_eq_false', Bool.true_eq_false, Option.map_some, Option.map_none, decide_true, decide_false, not_true_eq_false, not_false_eq_true, implies_true, forall_const, eq_self, Nat.reduceEqDiff, beq_self_eq_true, ne_eq, Int.reduceEq, Int.reduceNe, Int.reduceLT, Int.reduceLE, Int.reduceGT, Int.reduceGE, Int.reduceToNat, Int.reduceAdd, Int.reduceNeg, Nat.reduceLT, Nat.reduceLeDiff, Nat.reduceAdd, Nat.reduceMul, false_and, and_false, and_self, true_and, and_true, false_implies, PV.at0, PV.at1, PV.at2, PV.at3, PV.at4, PV.at5, Option.some.injEq, exists_eq_left', exists_eq_left, h5, h8, h9]
      refine ⟨fun z => ?_, fun z => ?_⟩
      · have z : ps.length = 1 := by omega
        rw [if_pos z] at hQ2
        refine ⟨pairD (ps.getD 0 (0, 0)), PV.at_map (f := pairD) (j := 0) rfl ?_, hQ2⟩
        rw [List.getD_eq_getElem?_getD, List.getElem?_eq_getElem (by omega)]
        rfl
      · rwa [if_neg (by omega)] at hQ2
  · exact h.elim

-- @@CUT
/-! the frame, counted by the law -/
def totB (f : Nat → Nat → Int) (s r c k : Nat) : Nat := lineB f k (fun j => (r, c + j)) + lineB f k (fun j => (r + s - 1, c + j)) + (lineB f (min k (s - 1) - 1) (fun j => (r + 1 + j, c)) + lineB f (min k (s - 1) - 1) fun j => (r + 1 + j, c + s - 1))
theorem lineB_0 {f : Nat → Nat → Int} {p : Nat → Nat × Nat} : lineB f 0 p = 0 := rfl
theorem totB_end {f : Nat → Nat → Int} {s r c : Nat} (hs : 2 ≤ s) : totB f s r c s = blackC f s r c := by
  unfold totB
  rw [blackC_eq, show min s (s - 1) - 1 = s - 2 by omega]
  omega
def oneI (z : Int) : Nat := if z = 1 then 1 else 0
theorem oneI_int {z : Int} : ((oneI z : Nat) : Int) = if z = 1 then 1 else 0 := by
  unfold oneI
  split <;> rfl
theorem totB_in {f : Nat → Nat → Int} {s r c k : Nat} (h0 : 0 < k) (h1 : k < s - 1) : totB f s r c (k + 1) = totB f s r c k + oneI (f r (c + k)) + oneI (f (r + s - 1) (c + k)) + oneI (f (r + k) c) + oneI (f (r + k) (c + s - 1)) := by
  unfold totB
  rw [show min (k + 1) (s - 1) - 1 = (k - 1) + 1 by omega, show min k (s - 1) - 1 = k - 1 by omega, lineB_succ, lineB_succ, lineB_succ, lineB_succ]
  dsimp only
  rw [show r + 1 + (k - 1) = r + k by omega]
  unfold oneI
  omega
theorem totB_out {f : Nat → Nat → Int} {s r c k : Nat} (h : k = 0 ∨ s - 1 ≤ k) : totB f s r c (k + 1) = totB f s r c k + oneI (f r (c + k)) + oneI (f (r + s - 1) (c + k)) := by
  unfold totB
  rw [show min (k + 1) (s - 1) - 1 = min k (s - 1) - 1 by omega, lineB_succ, lineB_succ]
  dsimp only
  unfold oneI
  omega
def pLBlack : PV.PSp := fun as _ Q => match as with
  | [.v _ (.list ds), .v _ (.int s), .v _ (.int r), .v _ (.int c)] => ∃ (n m : Nat) (f : Nat → Nat → Int) (k a b : Nat), ds = (mkR n m f).map dI ∧ s = k ∧ r = a ∧ c = b ∧ 2 ≤ k ∧ a + k ≤ n ∧ b + k ≤ m ∧ n ≤ 1000 ∧ m ≤ 1000 ∧ Q (.v .dat (.int (blackC f k a b)))
  | _ => False
theorem ok__law_black (T : Txt K mg C_InvalidBed) : Ok P w K mg base CX0 1 "_law_black" ["bed", "side", "row", "column"] (PV.spP K [] (PV.sg 4 pLBlack)) := by
  refine PV.pv_def T.d__law_black sc__law_black (fun as PX PQ h => h.1) fun f cdv A outer s H E hr => ?_
  have nd := sc__law_black.nd
  refine ⟨_, _, (pss_cons (ps_set (i := 4) nd rfl (Or.inl rfl) pe_int)
      (pss_cons (ps_for PassesOwn.never rfl (pi_range1 rfl T.n_range (pa_cons (pv 1) pa_nil)) (pg_name (i := 5) nd rfl (Or.inl rfl))
        (pss_cons (ps_set (i := 4) nd rfl (Or.inl rfl) (pe_op op_add (pe_op op_add (pv 4) (pe_callTy call_int1 (by rfl) T.n_int (by decide +kernel) (pa_cons (pe_cmpR op_eq (pe_ix ix_list (pe_ix ix_list (pv 0) (pv 2) (fun _ _ => rfl)) (pe_op op_add (pv 3) (pv 5)) (fun _ _ => rfl)) pe_int (nomark _)) pa_nil))) (pe_callTy call_int1 (by rfl) T.n_int (by decide +kernel) (pa_cons (pe_cmpR op_eq (pe_ix ix_list (pe_ix ix_list (pv 0) (pe_op op_sub (pe_op op_add (pv 2) (pv 1)) pe_int) (fun _ _ => rfl)) (pe_op op_add (pv 3) (pv 5)) (fun _ _ => rfl)) pe_int (nomark _)) pa_nil))))
        (pss_one (ps_if (pt_chain op_lt op_lt pe_int (pv 5) (pe_op op_sub (pv 1) pe_int))
          (pss_one (ps_set (i := 4) nd rfl (Or.inl rfl) (pe_op op_add (pe_op op_add (pv 4) (pe_callTy call_int1 (by rfl) T.n_int (by decide +kernel) (pa_cons (pe_cmpR op_eq (pe_ix ix_list (pe_ix ix_list (pv 0) (pe_op op_add (pv 2) (pv 5)) (fun _ _ => rfl)) (pv 3) (fun _ _ => rfl)) pe_int (nomark _)) pa_nil))) (pe_callTy call_int1 (by rfl) T.n_int (by decide +kernel) (pa_cons (pe_cmpR op_eq (pe_ix ix_list (pe_ix ix_list (pv 0) (pe_op op_add (pv 2) (pv 5)) (fun _ _ => rfl)) (pe_op op_sub (pe_op op_add (pv 3) (pv 1)) pe_int) (fun _ _ => rfl)) pe_int (nomark _)) pa_nil))))) pss_nil))))
      (pss_one (ps_ret (pv 4))))),
    open PV in (ls_seq (ls_asg le_c (lg_name (b := false)))
      (ls_seq (ls_for (li_rg1 (la_cons le_var la_nil)) (lg_tgt (.name 5))
      (ls_seq (ls_asg (le_op lr_I0 (le_op lr_I0 le_var (le_cb lc_int1 (la_cons (le_op lr_eq (le_op lr_ixL (le_op lr_ixL le_var le_var) (le_op lr_I0 le_var le_var)) le_c) la_nil))) (le_cb lc_int1 (la_cons (le_op lr_eq (le_op lr_ixL (le_op lr_ixL le_var (le_op lr_I0 (le_op lr_I0 le_var le_var) le_c)) (le_op lr_I0 le_var le_var)) le_c) la_nil))) (lg_name (b := false)))
      (ls_if (lt_test (le_chain lr_I0 lr_I0 le_c le_var (le_op lr_I0 le_var le_c)))
      (ls_asg (le_op lr_I0 (le_op lr_I0 le_var (le_cb lc_int1 (la_cons (le_op lr_eq (le_op lr_ixL (le_op lr_ixL le_var (le_op lr_I0 le_var le_var)) le_var) le_c) la_nil))) (le_cb lc_int1 (la_cons (le_op lr_eq (le_op lr_ixL (le_op lr_ixL le_var (le_op lr_I0 le_var le_var)) (le_op lr_I0 (le_op lr_I0 le_var le_var) le_c)) le_c) la_nil))) (lg_name (b := false)))
      ls_next)))
      (ls_retD le_var))), fun as PX PQ h => ?_⟩
  replace h := h.2
  unfold pLBlack at h
  split at h
  · next t ds t2 s t3 r t4 c =>
    obtain ⟨n, m, f, k, a, b, rfl, rfl, rfl, rfl, hk, ha, hb, hn, hm, hQ⟩ := h
    simp only [PV.startG, PV.slA, List.map_cons, List.map_nil, List.length_cons, List.length_nil, Nat.reduceAdd, Nat.reduceSub, PV.rep_none, List.cons_append, List.nil_append, List.append_nil, List.replicate_zero]
    simp only [PV.sgI, PV.endsIO, PV.pIoV, PV.pCallIo, PV.pCntT, PV.pLcO, PV.pZipF, PV.pDivMod, PV.ownsOf_dic, PV.pDNew, PV.pDPut, PV.pDGet2, PV.pDGet, PV.pDIn, PV.pLenD, PV.keyD, PV.pSlScr, PV.pZipT, PV.pRngC, PV.pRngV, PV.pSt1, PV.pM0, PV.pZipS, PV.pM1, PV.pJoin, PV.pFmt, PV.pJoined, PV.pJs, PV.pBMV, PV.pCount, PV.pIndex, PV.pSetIx2, PV.pRetT, PV.pLcF, PV.mapL_inj, PV.pVar, PV.pC, PV.pOp, PV.pUn, PV.pII, PV.pII0, PV.pNeg, PV.pSS, PV.pSS0, PV.eqF_int, PV.eqF_str, PV.eqF_bool, PV.eqF_ni, PV.eqF_in, PV.eqF_nn, PV.eqF_si, PV.eqF_is, PV.eqF_sn, PV.eqF_ns, PV.pEq, PV.pEqD, PV.isN, PV.pIsN, PV.Tg.d, PV.Tg.it, PV.Tg.itD, PV.Tg.ok, PV.pCat, PV.pRep, PV.pCatT, PV.pIn, PV.pNil, PV.pCons, PV.Tg.items, PV.pStar, PV.allD, PV.allS, PV.pTup, PV.pLst, PV.pNoPart, PV.pPart, PV.pSlL, PV.pSlT, PV.pCB, PV.pLen, PV.pLenS, PV.pI1, PV.pI10, PV.pI2, PV.pInt1, PV.pBool1, PV.pS1, PV.pListOf, PV.pTupOf, PV.tyD, PV.pIsi, PV.bD, PV.pAndV, PV.pOrV, PV.pNotV, PV.pIfE, PV.pT, PV.pAnd, PV.pOr, PV.pNot, PV.truD, PV.pTru, PV.pNotT, PV.pChain, PV.pThree, PV.Rs.arg, PV.lend, PV.pCall, PV.pCall0, PV.pIt, PV.pItT, PV.pRg1, PV.pRg2, PV.pRg3, PV.pEnum, PV.pZip, PV.pRev, PV.pStr, PV.setR, PV.pName, PV.pTgt, PV.pTgts, PV.pTg, PV.pNext, PV.pBreak, PV.pCont, PV.pSeq, PV.pShr, PV.pShrI, PV.shI, PV.pFgt, PV.fgt, PV.pAsg, PV.pExpr, PV.Rs.ret, PV.pRet, PV.pRetN, PV.pIf, PV.pFld, PV.pAug, PV.pPar, PV.pBM, PV.pBM0, PV.pAppend, PV.pExtend, PV.pExtT, PV.pClear, PV.pReverse, PV.pSetIx, PV.pFor, PV.wipeG, PV.pLc, PV.gG, PV.pGen, PV.pYes, PV.pSum, PV.pRaise, PV.pRaise1, PV.slA, PV.startG, PV.ends, PV.pRevL, PV.pSlS, PV.pSign, PV.pProp, PV.pMake, PV.pMake0, PV.pTry, PV.pRetD, PV.Rs.asD, PV.sg, PV.Sl.r, PV.dV, PV.flatD, PV.owns, PV.ownsOf_no, PV.ownsOf_dat, PV.ownsOf_obj, PV.ownsOf_own, PV.ownsOf_tab, PV.shr, PV.Sl.sh, PV.intsOf_map, PV.intsOf_app, PV.intsOf_nil, PV.intsOf_int, PV.isInts_map, PV.isInts_nil, PV.isInts_int, PV.isInts_mapL, PV.scr_key, PV.isiQ_s, PV.kit_int_int, PV.kit_int_bool, PV.kit_int_str, PV.kit_int_list, PV.kit_int_tuple, PV.kit_bool_int, PV.kit_bool_bool, PV.kit_bool_str, PV.kit_bool_list, PV.kit_bool_tuple, PV.kit_str_int, PV.kit_str_bool, PV.kit_str_str, PV.kit_str_list, PV.kit_str_tuple, PV.kit_list_int, PV.kit_list_bool, PV.kit_list_str, PV.kit_list_list, PV.kit_list_tuple, PV.kit_tuple_int, PV.kit_tuple_bool, PV.kit_tuple_str, PV.kit_tuple_list, PV.kit_tuple_tuple, PV.kit_NoneType_int, PV.kit_NoneType_bool, PV.kit_NoneType_str, PV.kit_NoneType_list, PV.kit_NoneType_tuple, PV.cutD_map, PV.allD_map, PV.allD_mapA, PV.allS_map, PV.allS_mapA, List.getElem?_cons_zero, List.getElem?_cons_succ, List.getElem?_nil, List.set_cons_zero, List.set_cons_succ, List.map_cons, List.map_nil, List.cons_append, List.nil_append, List.append_nil, List.length_cons, List.length_nil, List.length_map, List.length_append, List.length_replicate, PV.flat_rep, Nat.mul_one, Nat.one_mul, PV.rep_none, List.replicate_zero, List.all_cons, List.all_nil, cond_true, cond_false, Bool.and_true, Bool.true_and, Bool.and_false, Bool.false_and, Bool.not_true, Bool.not_false, Bool.not_not, if_true, if_false, ite_true, ite_false, true_and, and_true, true_implies, false_implies, reduceCtorEq, Nat.reduceAdd, Nat.reduceSub, Nat.reduceLT, Nat.reduceLeDiff, Bool.false_eq_true, decide_eq_true_eq, decide_eq_false_iff_not, Bool.not_eq_true, Bool.not_eq_false, Bool.not_eq_true', Bool.not_eq_false', Bool.true_eq_false, Option.map_some, Option.map_none, decide_true, decide_false, not_true_eq_false, not_false_eq_true, implies_true, forall_const, eq_self, Nat.reduceEqDiff, beq_self_eq_true, ne_eq, Int.reduceEq, Int.reduceNe, Int.reduceLT, Int.reduceLE, Int.reduceGT, Int.reduceGE, Int.reduceToNat, Int.reduceAdd, Int.reduceNeg, Nat.reduceLT, Nat.reduceLeDiff, Nat.reduceAdd, Nat.reduceMul, false_and, and_false, and_self, true_and, and_true, false_implies, PV.at0, PV.at1, PV.at2, PV.at3, PV.at4, PV.at5, Option.some.injEq, exists_eq_left', exists_eq_left]
    refine ⟨by omega, by omega, ?_⟩
    rw [Int.toNat_natCast]
    refine PV.loop_rg (lo := 0) (n := k) (fun j g => ∃ o5, g = [some (.dat (.list ((mkR n m f).map dI))), some (.dat (.int k)), some (.dat (.int a)), some (.dat (.int b)), some (.dat (.int (totB f k a b j))), o5]) ⟨none, rfl⟩ ?_ ?_
    · rintro j g hj ⟨o5, rfl⟩ N hN
      have r1 : atI ((mkR n m f).map dI) (a : Int) = some (dI ((List.range m).map fun c => f a c)) := rect_row rfl (by omega)
      have r2 : atI ((mkR n m f).map dI) ((a : Int) + k - 1) = some (dI ((List.range m).map fun c => f (a + k - 1) c)) := rect_row (by omega) (by omega)
      have r3 : atI ((mkR n m f).map dI) ((a : Int) + (0 + (j : Int))) = some (dI ((List.range m).map fun c => f (a + j) c)) := rect_row (by omega) (by omega)
      have c1 : ∀ i, atI (((List.range m).map fun c => f i c).map PyData.int) ((b : Int) + (0 + (j : Int))) = some (.int (f i (b + j))) := fun i => rect_cell (j := b + j) (g := f i) (by omega) (by omega)
      have c2 : ∀ i, atI (((List.range m).map fun c => f i c).map PyData.int) (b : Int) = some (.int (f i b)) := fun i => rect_cell (j := b) (g := f i) (by omega) (by omega)
      have c3 : ∀ i, atI (((List.range m).map fun c => f i c).map PyData.int) ((b : Int) + k - 1) = some (.int (f i (b + k - 1))) := fun i => rect_cell (j := b + k - 1) (g := f i) (by omega) (by omega)
      simp only [PV.sgI, PV.endsIO, PV.pIoV, PV.pCallIo, PV.pCntT, PV.pLcO, PV.pZipF, PV.pDivMod, PV.ownsOf_dic, PV.pDNew, PV.pDPut, PV.pDGet2, PV.pDGet, PV.pDIn, PV.pLenD, PV.keyD, PV.pSlScr, PV.pZipT, PV.pRngC, PV.pRngV, PV.pSt1, PV.pM0, PV.pZipS, PV.pM1, PV.pJoin, PV.pFmt, PV.pJoined, PV.pJs, PV.pBMV, PV.pCount, PV.pIndex, PV.pSetIx2, PV.pRetT, PV.pLcF, PV.mapL_inj, PV.pVar, PV.pC, PV.pOp, PV.pUn, PV.pII, PV.pII0, PV.pNeg, PV.pSS, PV.pSS0, PV.eqF_int, PV.eqF_str, PV.eqF_bool, PV.eqF_ni, PV.eqF_in, PV.eqF_nn, PV.eqF_si, PV.eqF_is, PV.eqF_sn, PV.eqF_ns, PV.pEq, PV.pEqD, PV.isN, PV.pIsN, PV.Tg.d, PV.Tg.it, PV.Tg.itD, PV.Tg.ok, PV.pCat, PV.pRep, PV.pCatT, PV.pIn, PV.pNil, PV.pCons, PV.Tg.items, PV.pStar, PV.allD, PV.allS, PV.pTup, PV.pLst, PV.pNoPart, PV.pPart, PV.pSlL, PV.pSlT, PV.pCB, PV.pLen, PV.pLenS, PV.pI1, PV.pI10, PV.pI2, PV.pInt1, PV.pBool1, PV.pS1, PV.pListOf, PV.pTupOf, PV.tyD, PV.pIsi, PV.bD, PV.pAndV, PV.pOrV, PV.pNotV, PV.pIfE, PV.pT, PV.pAnd, PV.pOr, PV.pNot, PV.truD, PV.pTru, PV.pNotT, PV.pChain, PV.pThree, PV.Rs.arg, PV.lend, PV.pCall, PV.pCall0, PV.pIt, PV.pItT, PV.pRg1, PV.pRg2, PV.pRg3, PV.pEnum, PV.pZip, PV.pRev, PV.pStr, PV.setR, PV.pName, PV.pTgt, PV.pTgts, PV.pTg, PV.pNext, PV.pBreak, PV.pCont, PV.pSeq, PV.pShr, PV.pShrI, PV.shI, PV.pFgt, PV.fgt, PV.pAsg, PV.pExpr, PV.Rs.ret, PV.pRet, PV.pRetN, PV.pIf, PV.pFld, PV.pAug, PV.pPar, PV.pBM, PV.pBM0, PV.pAppend, PV.pExtend, PV.pExtT, PV.pClear, PV.pReverse, PV.pSetIx, PV.pFor, PV.wipeG, PV.pLc, PV.gG, PV.pGen, PV.pYes, PV.pSum, PV.pRaise, PV.pRaise1, PV.slA, PV.startG, PV.ends, PV.pRevL, PV.pSlS, PV.pSign, PV.pProp, PV.pMake, PV.pMake0, PV.pTry, PV.pRetD, PV.Rs.asD, PV.sg, PV.Sl.r, PV.dV, PV.flatD, PV.owns, PV.ownsOf_no, PV.ownsOf_dat, PV.ownsOf_obj, PV.ownsOf_own, PV.ownsOf_tab, PV.shr, PV.Sl.sh, PV.intsOf_map, PV.intsOf_app, PV.intsOf_nil, PV.intsOf_int, PV.isInts_map, PV.isInts_nil, PV.isInts_int, PV.isInts_mapL, PV.scr_key, PV.isiQ_s, PV.kit_int_int, PV.kit_int_bool, PV.kit_int_str, PV.kit_int_list, PV.kit_int_tuple, PV.kit_bool_int, PV.kit_bool_bool, PV.kit_bool_str, PV.kit_bool_list, PV.kit_bool_tuple, PV.kit_str_int, PV.kit_str_bool, PV.kit_str_str, PV.kit_str_list, PV.kit_str_tuple, PV.kit_list_int, PV.kit_list_bool, PV.kit_list_str, PV.kit_list_list, PV.kit_list_tuple, PV.kit_tuple_int, PV.kit_tuple_bool, PV.kit_tuple_str, PV.kit_tuple_list, PV.kit_tuple_tuple, PV.kit_NoneType_int, PV.kit_NoneType_bool, PV.kit_NoneType_str, PV.kit_NoneType_list, PV.kit_NoneType_tuple, PV.cutD_map, PV.allD_map, PV.allD_mapA, PV.allS_map, PV.allS_mapA, List.getElem?_cons_zero, List.getElem?_cons_succ, List.getElem?_nil, List.set_cons_zero, List.set_cons_succ, List.map_cons, List.map_nil, List.cons_append, List.nil_append, List.append_nil, List.length_cons, List.length_nil, List.length_map, List.length_append, List.length_replicate, PV.flat_rep, Nat.mul_one, Nat.one_mul, PV.rep_none, List.replicate_zero, List.all_cons, List.all_nil, cond_true, cond_false, Bool.and_true, Bool.true_and, Bool.and_false, Bool.false_and, Bool.not_true, Bool.not_false, Bool.not_not, if_true, if_false, ite_true, ite_false, true_and, and_true, true_implies, false_implies, reduceCtorEq, Nat.reduceAdd, Nat.reduceSub, Nat.reduceLT, Nat.reduceLeDiff, Bool.false_eq_true, decide_eq_true_eq, decide_eq_false_iff_not, Bool.not_eq_true, Bool.not_eq_false, Bool.not_eq_true', Bool.not_eq_false', Bool.true_eq_false, Option.map_some, Option.map_none, decide_true, decide_false, not_true_eq_false, not_false_eq_true, implies_true, forall_const, eq_self, Nat.reduceEqDiff, beq_self_eq_true, ne_eq, Int.reduceEq, Int.reduceNe, Int.reduceLT, Int.reduceLE, Int.reduceGT, Int.reduceGE, Int.reduceToNat, Int.reduceAdd, Int.reduceNeg, Nat.reduceLT, Nat.reduceLeDiff, Nat.reduceAdd, Nat.reduceMul, false_and, and_false, and_self, true_and, and_true, false_implies, PV.at0, PV.at1, PV.at2, PV.at3, PV.at4, PV.at5, Option.some.injEq, exists_eq_left', exists_eq_left, r1, r2, r3, dI, c1, c2, c3]
      refine ⟨fun y => ⟨fun z => hN _ ⟨some (.dat (.int (0 + (j : Int)))), ?_⟩, fun z => hN _ ⟨some (.dat (.int (0 + (j : Int)))), ?_⟩⟩, fun y => hN _ ⟨some (.dat (.int (0 + (j : Int)))), ?_⟩⟩
      · rw [totB_in (by omega) (by omega)]
        simp only [Int.natCast_add, oneI_int]
      · rw [totB_out (.inr (by omega))]
        simp only [Int.natCast_add, oneI_int]
      · rw [totB_out (.inl (by omega))]
        simp only [Int.natCast_add, oneI_int]
    · rintro g ⟨o5, rfl⟩
      simp only [PV.sgI, PV.endsIO, PV.pIoV, PV.pCallIo, PV.pCntT, PV.pLcO, PV.pZipF, PV.pDivMod, PV.ownsOf_dic, PV.pDNew, PV.pDPut, PV.pDGet2, PV.pDGet, PV.pDIn, PV.pLenD, PV.keyD, PV.pSlScr, PV.pZipT, PV.pRngC, PV.pRngV, PV.pSt1, PV.pM0, PV.pZipS, PV.pM1, PV.pJoin, PV.pFmt, PV.pJoined, PV.pJs, PV.pBMV, PV.pCount, PV.pIndex, PV.pSetIx2, PV.pRetT, PV.pLcF, PV.mapL_inj, PV.pVar, PV.pC, PV.pOp, PV.pUn, PV.pII, PV.pII0, PV.pNeg, PV.pSS, PV.pSS0, PV.eqF_int, PV.eqF_str, PV.eqF_bool, PV.eqF_ni, PV.eqF_in, PV.eqF_nn, PV.eqF_si, PV.eqF_is, PV.eqF_sn, PV.eqF_ns, PV.pEq, PV.pEqD, PV.isN, PV.pIsN, PV.Tg.d, PV.Tg.it, PV.Tg.itD, PV.Tg.ok, PV.pCat, PV.pRep, PV.pCatT, PV.pIn, PV.pNil, PV.pCons, PV.Tg.items, PV.pStar, PV.allD, PV.allS, PV.pTup, PV.pLst, PV.pNoPart, PV.pPart, PV.pSlL, PV.pSlT, PV.pCB, PV.pLen, PV.pLenS, PV.pI1, PV.pI10, PV.pI2, PV.pInt1, PV.pBool1, PV.pS1, PV.pListOf, PV.pTupOf, PV.tyD, PV.pIsi, PV.bD, PV.pAndV, PV.pOrV, PV.pNotV, PV.pIfE, PV.pT, PV.pAnd, PV.pOr, PV.pNot, PV.truD, PV.pTru, PV.pNotT, PV.pChain, PV.pThree, PV.Rs.arg, PV.lend, PV.pCall, PV.pCall0, PV.pIt, PV.pItT, PV.pRg1, PV.pRg2, PV.pRg3, PV.pEnum, PV.pZip, PV.pRev, PV.pStr, PV.setR, PV.pName, PV.pTgt, PV.pTgts, PV.pTg, PV.pNext, PV.pBreak, PV.pCont, PV.pSeq, PV.pShr, PV.pShrI, PV.shI, PV.pFgt, PV.fgt, PV.pAsg, PV.pExpr, PV.Rs.ret, PV.pRet, PV.pRetN, PV.pIf, PV.pFld, PV.pAug, PV.pPar, PV.pBM, PV.pBM0, PV.pAppend, PV.pExtend, PV.pExtT, PV.pClear, PV.pReverse, PV.pSetIx, PV.pFor, PV.wipeG, PV.pLc, PV.gG, PV.pGen, PV.pYes, PV.pSum, PV.pRaise, PV.pRaise1, PV.slA, PV.startG, PV.ends, PV.pRevL, PV.pSlS, PV.pSign, PV.pProp, PV.pMake, PV.pMake0, PV.pTry, PV.pRetD, PV.Rs.asD, PV.sg, PV.Sl.r, PV.dV, PV.flatD, PV.owns, PV.ownsOf_no, PV.ownsOf_dat, PV.ownsOf_obj, PV.ownsOf_own, PV.ownsOf_tab, PV.shr, PV.Sl.sh, PV.intsOf_map, PV.intsOf_app, PV.intsOf_nil, PV.intsOf_int, PV.isInts_map, PV.isInts_nil, PV.isInts_int, PV.isInts_mapL, PV.scr_key, PV.isiQ_s, PV.kit_int_int, PV.kit_int_bool, PV.kit_int_str, PV.kit_int_list, PV.kit_int_tuple, PV.kit_bool_int, PV.kit_bool_bool, PV.kit_bool_str, PV.kit_bool_list, PV.kit_bool_tuple, PV.kit_str_int, PV.kit_str_bool, PV.kit_str_str, PV.kit_str_list, PV.kit_str_tuple, PV.kit_list_int, PV.kit_list_bool, PV.kit_list_str, PV.kit_list_list, PV.kit_list_tuple, PV.kit_tuple_int, PV.kit_tuple_bool, PV.kit_tuple_str, PV.kit_tuple_list, PV.kit_tuple_tuple, PV.kit_NoneType_int, PV.kit_NoneType_bool, PV.kit_NoneType_str, PV.kit_NoneType_list, PV.kit_NoneType_tuple, PV.cutD_map, PV.allD_map, PV.allD_mapA, PV.allS_map, PV.allS_mapA, List.getElem?_cons_zero, List.getElem?_cons_succ, List.getElem?_nil, List.set_cons_zero, List.set_cons_succ, List.map_cons, List.map_nil, List.cons_append, List.nil_append, List.append_nil, List.length_cons, List.length_nil, List.length_map, List.length_append, List.length_replicate, PV.flat_rep, Nat.mul_one, Nat.one_mul, PV.rep_none, List.replicate_zero, List.all_cons, List.all_nil, cond_true, cond_false, Bool.and_true, Bool.true_and, Bool.and_false, Bool.false_and, Bool.not_true, Bool.not_false, Bool.not_not, if_true, if_false, ite_true, ite_false, true_and, and_true, true_implies, false_implies, reduceCtorEq, Nat.reduceAdd, Nat.reduceSub, Nat.reduceLT, Nat.reduceLeDiff, Bool.false_eq_true, decide_eq_true_eq, decide_eq_false_iff_not, Bool.not_eq_true, Bool.not_eq_false, Bool.not_eq_true', Bool.not_eq_false', Bool.true_eq_false, Option.map_some, Option.map_none, decide_true, decide_false, not_true_eq_false, not_false_eq_true, implies_true, forall_const, eq_self, Nat.reduceEqDiff, beq_self_eq_true, ne_eq, Int.reduceEq, Int.reduceNe, Int.reduceLT, Int.reduceLE, Int.reduceGT, Int.reduceGE, Int.reduceToNat, Int.reduceAdd, Int.reduceNeg, Nat.reduceLT, Nat.reduceLeDiff, Nat.reduceAdd, Nat.reduceMul, false_and, and_false, and_self, true_and, and_true, false_implies, PV.at0, PV.at1, PV.at2, PV.at3, PV.at4, PV.at5, Option.some.injEq, exists_eq_left', exists_eq_left]
      rw [totB_end hk]
      exact hQ
  · exact h.elim
def pLFound : PV.PSp := fun as _ Q => match as with
  | [.v _ (.list ds), .v _ (.int s)] => ∃ (n m : Nat) (f : Nat → Nat → Int) (k : Nat), ds = (mkR n m f).map dI ∧ s = k ∧ n ≤ 60 ∧ m ≤ 60 ∧ 2 ≤ k ∧ k ≤ n ∧ k ≤ m ∧ Q (.v .dat (foundP (places f n m k)))
  | _ => False
theorem ok__law_found (T : Txt K mg C_InvalidBed) : Ok P w K mg base CX0 2 "_law_found" ["bed", "side"] (PV.spP K [] (PV.sg 2 pLFound)) := by
  have G__law_black := ok__law_black (P := P) (w := w) (base := base) T
  refine PV.pv_def T.d__law_found sc__law_found (fun as PX PQ h => h.1) fun f cdv A outer s H E hr => ?_
  have nd := sc__law_found.nd
  refine ⟨_, _, (pss_cons (ps_set (i := 2) nd rfl (Or.inl rfl) (pe_lst pa_nil))
      (pss_cons (ps_for PassesOwn.never rfl (pi_range1 rfl T.n_range (pa_cons (pe_op op_add (pe_op op_sub (pe_callB call_len_seq (by rfl) T.n_len PySem.boot_len (pa_cons (pv 0) pa_nil)) (pv 1)) pe_int) pa_nil)) (pg_name (i := 3) nd rfl (Or.inl rfl))
        (pss_one (ps_for PassesOwn.never rfl (pi_range1 rfl T.n_range (pa_cons (pe_op op_add (pe_op op_sub (pe_callB call_len_seq (by rfl) T.n_len PySem.boot_len (pa_cons (pe_ix ix_list (pv 0) pe_int (fun _ _ => rfl)) pa_nil)) (pv 1)) pe_int) pa_nil)) (pg_name (i := 4) nd rfl (Or.inl rfl))
          (pss_one (ps_if (pt_cmpR op_ge (pe_callO G__law_black (hr.mono (by decide)) pass0 (pa_cons (pv 0) (pa_cons (pv 1) (pa_cons (pv 3) (pa_cons (pv 4) pa_nil))))) (pe_op op_sub (pe_op op_sub (pe_op op_mul pe_int (pv 1)) pe_int) (pe_op op_fdiv (pe_op op_sub (pv 1) pe_int) pe_int)) (nomark _))
            (pss_one (ps_expr (pe_bm PySem.F.plainAttrs_list PySem.F.slot_list_append PySem.F.type_list_append mt_append (pv 2) (pa_cons (pe_tup (pa_cons (pv 3) (pa_cons (pv 4) pa_nil))) pa_nil)))) pss_nil)))))
      (pss_cons (ps_if (pt_cmpR op_eq (pe_callB call_len_seq (by rfl) T.n_len PySem.boot_len (pa_cons (pv 2) pa_nil)) pe_int (nomark _))
        (pss_one (ps_ret (pe_ix ix_list (pv 2) pe_int (fun _ _ => rfl)))) pss_nil)
      (pss_one (ps_ret pe_non))))),
    open PV in (ls_seq (ls_asg (le_lst la_nil) (lg_name (b := true)))
      (ls_seq (ls_for (li_rg1 (la_cons (le_op lr_I0 (le_op lr_I0 (le_cb lc_len (la_cons le_var la_nil)) le_var) le_c) la_nil)) (lg_tgt (.name 3))
      (ls_for (li_rg1 (la_cons (le_op lr_I0 (le_op lr_I0 (le_cb lc_len (la_cons (le_op lr_ixL le_var le_c) la_nil)) le_var) le_c) la_nil)) (lg_tgt (.name 4))
      (ls_if (lt_test (le_op lr_I0 (le_call0 spok (la_cons le_var (la_cons le_var (la_cons le_var (la_cons le_var la_nil))))) (le_op lr_I0 (le_op lr_I0 (le_op lr_I le_c le_var) le_c) (le_op lr_I (le_op lr_I0 le_var le_c) le_c))))
      (ls_bm lm_append (la_cons (le_tup (la_cons le_var (la_cons le_var la_nil))) la_nil))
      ls_next)))
      (ls_seq (ls_if (lt_test (le_op lr_eq (le_cb lc_len (la_cons le_var la_nil)) le_c))
      (ls_retD (le_op lr_ixL le_var le_c))
      ls_next)
      (ls_retD le_c)))), fun as PX PQ h => ?_⟩
  replace h := h.2
  unfold pLFound at h
  split at h
  · next t ds t2 s =>
    obtain ⟨n, m, f, k, rfl, rfl, hn, hm, hk, hkn, hkm, hQ⟩ := h
    have r0 : atI ((mkR n m f).map dI) 0 = some (dI ((List.range m).map fun c => f 0 c)) := rect_row rfl (by omega)
    simp only [PV.startG, PV.slA, List.map_cons, List.map_nil, List.length_cons, List.length_nil, Nat.reduceAdd, Nat.reduceSub, PV.rep_none, List.cons_append, List.nil_append, List.append_nil, List.replicate_zero]
    simp only [PV.sgI, PV.endsIO, PV.pIoV, PV.pCallIo, PV.pCntT, PV.pLcO, PV.pZipF, PV.pDivMod, PV.ownsOf_dic, PV.pDNew, PV.pDPut, PV.pDGet2, PV.pDGet, PV.pDIn, PV.pLenD, PV.keyD, PV.pSlScr, PV.pZipT, PV.pRngC, PV.pRngV, PV.pSt1, PV.pM0, PV.pZipS, PV.pM1, PV.pJoin, PV.pFmt, PV.pJoined, PV.pJs, PV.pBMV, PV.pCount, PV.pIndex, PV.pSetIx2, PV.pRetT, PV.pLcF, PV.mapL_inj, PV.pVar, PV.pC, PV.pOp, PV.pUn, PV.pII, PV.pII0, PV.pNeg, PV.pSS, PV.pSS0, PV.eqF_int, PV.eqF_str, PV.eqF_bool, PV.eqF_ni, PV.eqF_in, PV.eqF_nn, PV.eqF_si, PV.eqF_is, PV.eqF_sn, PV.eqF_ns, PV.pEq, PV.pEqD, PV.isN, PV.pIsN, PV.Tg.d, PV.Tg.it, PV.Tg.itD, PV.Tg.ok, PV.pCat, PV.pRep, PV.pCatT, PV.pIn, PV.pNil, PV.pCons, PV.Tg.items, PV.pStar, PV.allD, PV.allS, PV.pTup, PV.pLst, PV.pNoPart, PV.pPart, PV.pSlL, PV.pSlT, PV.pCB, PV.pLen, PV.pLenS, PV.pI1, PV.pI10, PV.pI2, PV.pInt1, PV.pBool1, PV.pS1, PV.pListOf, PV.pTupOf, PV.tyD, PV.pIsi, PV.bD, PV.pAndV, PV.pOrV, PV.pNotV, PV.pIfE, PV.pT, PV.pAnd, PV.pOr, PV.pNot, PV.truD, PV.pTru, PV.pNotT, PV.pChain, PV.pThree, PV.Rs.arg, PV.lend, PV.pCall, PV.pCall0, PV.pIt, PV.pItT, PV.pRg1, PV.pRg2, PV.pRg3, PV.pEnum, PV.pZip, PV.pRev, PV.pStr, PV.setR, PV.pName, PV.pTgt, PV.pTgts, PV.pTg, PV.pNext, PV.pBreak, PV.pCont, PV.pSeq, PV.pShr, PV.pShrI, PV.shI, PV.pFgt, PV.fgt, PV.pAsg, PV.pExpr, PV.Rs.ret, PV.pRet, PV.pRetN, PV.pIf, PV.pFld, PV.pAug, PV.pPar, PV.pBM, PV.pBM0, PV.pAppend, PV.pExtend, PV.pExtT, PV.pClear, PV.pReverse, PV.pSetIx, PV.pFor, PV.wipeG, PV.pLc, PV.gG, PV.pGen, PV.pYes, PV.pSum, PV.pRaise, PV.pRaise1, PV.slA, PV.startG, PV.ends, PV.pRevL, PV.pSlS, PV.pSign, PV.pProp, PV.pMake, PV.pMake0, PV.pTry, PV.pRetD, PV.Rs.asD, PV.sg, PV.Sl.r, PV.dV, PV.flatD, PV.owns, PV.ownsOf_no, PV.ownsOf_dat, PV.ownsOf_obj, PV.ownsOf_own, PV.ownsOf_tab, PV.shr, PV.Sl.sh, PV.intsOf_map, PV.intsOf_app, PV.intsOf_nil, PV.intsOf_int, PV.isInts_map, PV.isInts_nil, PV.isInts_int, PV.isInts_mapL, PV.scr_key, PV.isiQ_s, PV.kit_int_int, PV.kit_int_bool, PV.kit_int_str, PV.kit_int_list, PV.kit_int_tuple, PV.kit_bool_int, PV.kit_bool_bool, PV.kit_bool_str, PV.kit_bool_list, PV.kit_bool_tuple, PV.kit_str_int, PV.kit_str_bool, PV.kit_str_str, PV.kit_str_list, PV.kit_str_tuple, PV.kit_list_int, PV.kit_list_bool, PV.kit_list_str, PV.kit_list_list, PV.kit_list_tuple, PV.kit_tuple_int, PV.kit_tuple_bool, PV.kit_tuple_str, PV.kit_tuple_list, PV.kit_tuple_tuple, PV.kit_NoneType_int, PV.kit_NoneType_bool, PV.kit_NoneType_str, PV.kit_NoneType_list, PV.kit_NoneType_tuple, PV.cutD_map, PV.allD_map, PV.allD_mapA, PV.allS_map, PV.allS_mapA, List.getElem?_cons_zero, List.getElem?_cons_succ, List.getElem?_nil, List.set_cons_zero, List.set_cons_succ, List.map_cons, List.map_nil, List.cons_append, List.nil_append, List.append_nil, List.length_cons, List.length_nil, List.length_map, List.length_append, List.length_replicate, PV.flat_rep, Nat.mul_one, Nat.one_mul, PV.rep_none, List.replicate_zero, List.all_cons, List.all_nil, cond_true, cond_false, Bool.and_true, Bool.true_and, Bool.and_false, Bool.false_and, Bool.not_true, Bool.not_false, Bool.not_not, if_true, if_false, ite_true, ite_false, true_and, and_true, true_implies, false_implies, reduceCtorEq, Nat.reduceAdd, Nat.reduceSub, Nat.reduceLT, Nat.reduceLeDiff, Bool.false_eq_true, decide_eq_true_eq, decide_eq_false_iff_not, Bool.not_eq_true, Bool.not_eq_false, Bool.not_eq_true', Bool.not_eq_false', Bool.true_eq_false, Option.map_some, Option.map_none, decide_true, decide_false, not_true_eq_false, not_false_eq_true, implies_true, forall_const, eq_self, Nat.reduceEqDiff, beq_self_eq_true, ne_eq, Int.reduceEq, Int.reduceNe, Int.reduceLT, Int.reduceLE, Int.reduceGT, Int.reduceGE, Int.reduceToNat, Int.reduceAdd, Int.reduceNeg, Nat.reduceLT, Nat.reduceLeDiff, Nat.reduceAdd, Nat.reduceMul, false_and, and_false, and_self, true_and, and_true, false_implies, PV.at0, PV.at1, PV.at2, PV.at3, PV.at4, PV.at5, Option.some.injEq, exists_eq_left', exists_eq_left]
    have ef : ((n : Int) - k + 1).toNat = n + 1 - k := by omega
    have ef2 : ((m : Int) - k + 1).toNat = m + 1 - k := by omega
    refine ⟨Nat.zero_le _, fun p => ?_⟩
    rw [mkR_len, ef]
    refine ⟨by omega, by omega, ?_⟩
    refine PV.loop_rg (lo := 0) (n := n + 1 - k) (fun R g => ∃ o3 o4, (PV.ownsOf o3 = [] ∧ PV.ownsOf o4 = []) ∧ g = [some (.dat (.list ((mkR n m f).map dI))), some (.dat (.int k)), some (.own p ((rowsPl f m k R).map pairD)), o3, o4]) ⟨none, none, ⟨rfl, rfl⟩, rfl⟩ ?_ ?_
    · rintro R g hR ⟨o3, o4, ⟨h3, h4⟩, rfl⟩ N hN
      simp only [PV.sgI, PV.endsIO, PV.pIoV, PV.pCallIo, PV.pCntT, PV.pLcO, PV.pZipF, PV.pDivMod, PV.ownsOf_dic, PV.pDNew, PV.pDPut, PV.pDGet2, PV.pDGet, PV.pDIn, PV.pLenD, PV.keyD, PV.pSlScr, PV.pZipT, PV.pRngC, PV.pRngV, PV.pSt1, PV.pM0, PV.pZipS, PV.pM1, PV.pJoin, PV.pFmt, PV.pJoined, PV.pJs, PV.pBMV, PV.pCount, PV.pIndex, PV.pSetIx2, PV.pRetT, PV.pLcF, PV.mapL_inj, PV.pVar, PV.pC, PV.pOp, PV.pUn, PV.pII, PV.pII0, PV.pNeg, PV.pSS, PV.pSS0, PV.eqF_int, PV.eqF_str, PV.eqF_bool, PV.eqF_ni, PV.eqF_in, PV.eqF_nn, PV.eqF_si, PV.eqF_is, PV.eqF_sn, PV.eqF_ns, PV.pEq, PV.pEqD, PV.isN, PV.pIsN, PV.Tg.d, PV.Tg.it, PV.Tg.itD, PV.Tg.ok, PV.pCat, PV.pRep, PV.pCatT, PV.pIn, PV.pNil, PV.pCons, PV.Tg.items, PV.pStar, PV.allD, PV.allS, PV.pTup, PV.pLst, PV.pNoPart, PV.pPart, PV.pSlL, PV.pSlT, PV.pCB, PV.pLen, PV.pLenS, PV.pI1, PV.pI10, PV.pI2, PV.pInt1, PV.pBool1, PV.pS1, PV.pListOf, PV.pTupOf, PV.tyD, PV.pIsi, PV.bD, PV.pAndV, PV.pOrV, PV.pNotV, PV.pIfE, PV.pT, PV.pAnd, PV.pOr, PV.pNot, PV.truD, PV.pTru, PV.pNotT, PV.pChain, PV.pThree, PV.Rs.arg, PV.lend, PV.pCall, PV.pCall0, PV.pIt, PV.pItT, PV.pRg1, PV.pRg2, PV.pRg3, PV.pEnum, PV.pZip, PV.pRev, PV.pStr, PV.setR, PV.pName, PV.pTgt, PV.pTgts, PV.pTg, PV.pNext, PV.pBreak, PV.pCont, PV.pSeq, PV.pShr, PV.pShrI, PV.shI, PV.pFgt, PV.fgt, PV.pAsg, PV.pExpr, PV.Rs.ret, PV.pRet, PV.pRetN, PV.pIf, PV.pFld, PV.pAug, PV.pPar, PV.pBM, PV.pBM0, PV.pAppend, PV.pExtend, PV.pExtT, PV.pClear, PV.pReverse, PV.pSetIx, PV.pFor, PV.wipeG, PV.pLc, PV.gG, PV.pGen, PV.pYes, PV.pSum, PV.pRaise, PV.pRaise1, PV.slA, PV.startG, PV.ends, PV.pRevL, PV.pSlS, PV.pSign, PV.pProp, PV.pMake, PV.pMake0, PV.pTry, PV.pRetD, PV.Rs.asD, PV.sg, PV.Sl.r, PV.dV, PV.flatD, PV.owns, PV.ownsOf_no, PV.ownsOf_dat, PV.ownsOf_obj, PV.ownsOf_own, PV.ownsOf_tab, PV.shr, PV.Sl.sh, PV.intsOf_map, PV.intsOf_app, PV.intsOf_nil, PV.intsOf_int, PV.isInts_map, PV.isInts_nil, PV.isInts_int, PV.isInts_mapL, PV.scr_key, PV.isiQ_s, PV.kit_int_int, PV.kit_int_bool, PV.kit_int_str, PV.kit_int_list, PV.kit_int_tuple, PV.kit_bool_int, PV.kit_bool_bool, PV.kit_bool_str, PV.kit_bool_list, PV.kit_bool_tuple, PV.kit_str_int, PV.kit_str_bool, PV.kit_str_str, PV.kit_str_list, PV.kit_str_tuple, PV.kit_list_int, PV.kit_list_bool, PV.kit_list_str, PV.kit_list_list, PV.kit_list_tuple, PV.kit_tuple_int, PV.kit_tuple_bool, PV.kit_tuple_str, PV.kit_tuple_list, PV.kit_tuple_tuple, PV.kit_NoneType_int, PV.kit_NoneType_bool, PV.kit_NoneType_str, PV.kit_NoneType_list, PV.kit_NoneType_tuple, PV.cutD_map, PV.allD_map, PV.allD_mapA, PV.allS_map, PV.allS_mapA, List.getElem?_cons_zero, List.getElem?_cons_succ, List.getElem?_nil, List.set_cons_zero, List.set_cons_succ, List.map_cons, List.map_nil, List.cons_append, List.nil_append, List.append_nil, List.length_cons, List.length_nil, List.length_map, List.length_append, List.length_replicate, PV.flat_rep, Nat.mul_one, Nat.one_mul, PV.rep_none, List.replicate_zero, List.all_cons, List.all_nil, cond_true, cond_false, Bool.and_true, Bool.true_and, Bool.and_false, Bool.false_and, Bool.not_true, Bool.not_false, Bool.not_not, if_true, if_false, ite_true, ite_false, true_and, and_true, true_implies, false_implies, reduceCtorEq, Nat.reduceAdd, Nat.reduceSub, Nat.reduceLT, Nat.reduceLeDiff, Bool.false_eq_true, decide_eq_true_eq, decide_eq_false_iff_not, Bool.not_eq_true, Bool.not_eq_false, Bool.not_eq_true', Bool.not_eq_false', Bool.true_eq_false, Option.map_some, Option.map_none, decide_true, decide_false, not_true_eq_false, not_false_eq_true, implies_true, forall_const, eq_self, Nat.reduceEqDiff, beq_self_eq_true, ne_eq, Int.reduceEq, Int.reduceNe, Int.reduceLT, Int.reduceLE, Int.reduceGT, Int.reduceGE, Int.reduceToNat, Int.reduceAdd, Int.reduceNeg, Nat.reduceLT, Nat.reduceLeDiff, Nat.reduceAdd, Nat.reduceMul, false_and, and_false, and_self, true_and, and_true, false_implies, PV.at0, PV.at1, PV.at2, PV.at3, PV.at4, PV.at5, Option.some.injEq, exists_eq_left', exists_eq_left, r0, dI, List.length_range, h3, h4]
      refine ⟨by omega, by omega, ?_⟩
      rw [ef2]
      refine PV.loop_rg (lo := 0) (n := m + 1 - k) (fun C g => ∃ o4, PV.ownsOf o4 = [] ∧ g = [some (.dat (.list ((mkR n m f).map dI))), some (.dat (.int k)), some (.own p ((rowsPl f m k R ++ rowPl f k R C).map pairD)), some (.dat (.int (0 + (R : Int)))), o4]) ⟨o4, h4, by rw [show rowPl f k R 0 = [] from rfl, List.append_nil]⟩ ?_ ?_
      · rintro C g hC ⟨o4, h4, rfl⟩ N2 hN2
        simp only [PV.sgI, PV.endsIO, PV.pIoV, PV.pCallIo, PV.pCntT, PV.pLcO, PV.pZipF, PV.pDivMod, PV.ownsOf_dic, PV.pDNew, PV.pDPut, PV.pDGet2, PV.pDGet, PV.pDIn, PV.pLenD, PV.keyD, PV.pSlScr, PV.pZipT, PV.pRngC, PV.pRngV, PV.pSt1, PV.pM0, PV.pZipS, PV.pM1, PV.pJoin, PV.pFmt, PV.pJoined, PV.pJs, PV.pBMV, PV.pCount, PV.pIndex, PV.pSetIx2, PV.pRetT, PV.pLcF, PV.mapL_inj, PV.pVar, PV.pC, PV.pOp, PV.pUn, PV.pII, PV.pII0, PV.pNeg, PV.pSS, PV.pSS0, PV.eqF_int, PV.eqF_str, PV.eqF_bool, PV.eqF_ni, PV.eqF_in, PV.eqF_nn, PV.eqF_si, PV.eqF_is, PV.eqF_sn, PV.eqF_ns, PV.pEq, PV.pEqD, PV.isN, PV.pIsN, PV.Tg.d, PV.Tg.it, PV.Tg.itD, PV.Tg.ok, PV.pCat, PV.pRep, PV.pCatT, PV.pIn, PV.pNil, PV.pCons, PV.Tg.items, PV.pStar, PV.allD, PV.allS, PV.pTup, PV.pLst, PV.pNoPart, PV.pPart, PV.pSlL, PV.pSlT, PV.pCB, PV.pLen, PV.pLenS, PV.pI1, PV.pI10, PV.pI2, PV.pInt1, PV.pBool1, PV.pS1, PV.pListOf, PV.pTupOf, PV.tyD, PV.pIsi, PV.bD, PV.pAndV, PV.pOrV, PV.pNotV, PV.pIfE, PV.pT, PV.pAnd, PV.pOr, PV.pNot, PV.truD, PV.pTru, PV.pNotT, PV.pChain, PV.pThree, PV.Rs.arg, PV.lend, PV.pCall, PV.pCall0, PV.pIt, PV.pItT, PV.pRg1, PV.pRg2, PV.pRg3, PV.pEnum, PV.pZip, PV.pRev, PV.pStr, PV.setR, PV.pName, PV.pTgt, PV.pTgts, PV.pTg, PV.pNext, PV.pBreak, PV.pCont, PV.pSeq, PV.pShr, PV.pShrI, PV.shI, PV.pFgt, PV.fgt, PV.pAsg, PV.pExpr, PV.Rs.ret, PV.pRet, PV.pRetN, PV.pIf, PV.pFld, PV.pAug, PV.pPar, PV.pBM, PV.pBM0, PV.pAppend, PV.pExtend, PV.pExtT, PV.pClear, PV.pReverse, PV.pSetIx, PV.pFor, PV.wipeG, PV.pLc, PV.gG, PV.pGen, PV.pYes, PV.pSum, PV.pRaise, PV.pRaise1, PV.slA, PV.startG, PV.ends, PV.pRevL, PV.pSlS, PV.pSign, PV.pProp, PV.pMake, PV.pMake0, PV.pTry, PV.pRetD, PV.Rs.asD, PV.sg, PV.Sl.r, PV.dV, PV.flatD, PV.owns, PV.ownsOf_no, PV.ownsOf_dat, PV.ownsOf_obj, PV.ownsOf_own, PV.ownsOf_tab, PV.shr, PV.Sl.sh, PV.intsOf_map, PV.intsOf_app, PV.intsOf_nil, PV.intsOf_int, PV.isInts_map, PV.isInts_nil, PV.isInts_int, PV.isInts_mapL, PV.scr_key, PV.isiQ_s, PV.kit_int_int, PV.kit_int_bool, PV.kit_int_str, PV.kit_int_list, PV.kit_int_tuple, PV.kit_bool_int, PV.kit_bool_bool, PV.kit_bool_str, PV.kit_bool_list, PV.kit_bool_tuple, PV.kit_str_int, PV.kit_str_bool, PV.kit_str_str, PV.kit_str_list, PV.kit_str_tuple, PV.kit_list_int, PV.kit_list_bool, PV.kit_list_str, PV.kit_list_list, PV.kit_list_tuple, PV.kit_tuple_int, PV.kit_tuple_bool, PV.kit_tuple_str, PV.kit_tuple_list, PV.kit_tuple_tuple, PV.kit_NoneType_int, PV.kit_NoneType_bool, PV.kit_NoneType_str, PV.kit_NoneType_list, PV.kit_NoneType_tuple, PV.cutD_map, PV.allD_map, PV.allD_mapA, PV.allS_map, PV.allS_mapA, List.getElem?_cons_zero, List.getElem?_cons_succ, List.getElem?_nil, List.set_cons_zero, List.set_cons_succ, List.map_cons, List.map_nil, List.cons_append, List.nil_append, List.append_nil, List.length_cons, List.length_nil, List.length_map, List.length_append, List.length_replicate, PV.flat_rep, Nat.mul_one, Nat.one_mul, PV.rep_none, List.replicate_zero, List.all_cons, List.all_nil, cond_true, cond_false, Bool.and_true, Bool.true_and, Bool.and_false, Bool.false_and, Bool.not_true, Bool.not_false, Bool.not_not, if_true, if_false, ite_true, ite_false, true_and, and_true, true_implies, false_implies, reduceCtorEq, Nat.reduceAdd, Nat.reduceSub, Nat.reduceLT, Nat.reduceLeDiff, Bool.false_eq_true, decide_eq_true_eq, decide_eq_false_iff_not, Bool.not_eq_true, Bool.not_eq_false, Bool.not_eq_true', Bool.not_eq_false', Bool.true_eq_false, Option.map_some, Option.map_none, decide_true, decide_false, not_true_eq_false, not_false_eq_true, implies_true, forall_const, eq_self, Nat.reduceEqDiff, beq_self_eq_true, ne_eq, Int.reduceEq, Int.reduceNe, Int.reduceLT, Int.reduceLE, Int.reduceGT, Int.reduceGE, Int.reduceToNat, Int.reduceAdd, Int.reduceNeg, Nat.reduceLT, Nat.reduceLeDiff, Nat.reduceAdd, Nat.reduceMul, false_and, and_false, and_self, true_and, and_true, false_implies, PV.at0, PV.at1, PV.at2, PV.at3, PV.at4, PV.at5, Option.some.injEq, exists_eq_left', exists_eq_left, pLBlack, h4]
        have hlen := rowPl_len (f := f) (s := k) (r := R) (k := C)
        have hlen2 := rowsPl_len (f := f) (w := m) (s := k) (k := R)
        have hmul : R * (m + 1 - k) ≤ 60 * 60 := Nat.mul_le_mul (by omega) (by omega)
        have hth : thrN k = 4 * k - 4 - (k - 1) / 2 := rfl
        have hdiv : ((k : Int) - 1) / 2 = (((k - 1) / 2 : Nat) : Int) := by omega
        refine ⟨n, m, f, k, R, C, rfl, rfl, by omega, by omega, hk, by omega, by omega, by omega, by omega, .inl ⟨by omega, by omega⟩, ⟨by decide, by decide⟩, fun y => ⟨by decide, small (by omega), hN2 _ ⟨some (.dat (.int (0 + (C : Int)))), rfl, ?_⟩⟩, fun y => hN2 _ ⟨some (.dat (.int (0 + (C : Int)))), rfl, ?_⟩⟩
        · rw [rowPl_succ, if_pos (show thrN k ≤ blackC f k R C by omega), ← List.append_assoc, Int.zero_add, Int.zero_add]
          simp only [List.map_append]
          rfl
        · rw [rowPl_succ, if_neg (show ¬ thrN k ≤ blackC f k R C by omega), List.append_nil]
      · rintro g ⟨o4, h4, rfl⟩
        exact hN _ ⟨some (.dat (.int (0 + (R : Int)))), o4, ⟨rfl, h4⟩, by rw [rowsPl_succ]⟩
    · rintro g ⟨o3, o4, ⟨h3, h4⟩, rfl⟩
      have hQ2 : PQ (.v .dat (foundP (rowsPl f m k (n + 1 - k)))) := hQ
      generalize rowsPl f m k (n + 1 - k) = ps at *
      unfold foundP at hQ2
      simp only [PV.sgI, PV.endsIO, PV.pIoV, PV.pCallIo, PV.pCntT, PV.pLcO, PV.pZipF, PV.pDivMod, PV.ownsOf_dic, PV.pDNew, PV.pDPut, PV.pDGet2, PV.pDGet, PV.pDIn, PV.pLenD, PV.keyD, PV.pSlScr, PV.pZipT, PV.pRngC, PV.pRngV, PV.pSt1, PV.pM0, PV.pZipS, PV.pM1, PV.pJoin, PV.pFmt, PV.pJoined, PV.pJs, PV.pBMV, PV.pCount, PV.pIndex, PV.pSetIx2, PV.pRetT, PV.pLcF, PV.mapL_inj, PV.pVar, PV.pC, PV.pOp, PV.pUn, PV.pII, PV.pII0, PV.pNeg, PV.pSS, PV.pSS0, PV.eqF_int, PV.eqF_str, PV.eqF_bool, PV.eqF_ni, PV.eqF_in, PV.eqF_nn, PV.eqF_si, PV.eqF_is, PV.eqF_sn, PV.eqF_ns, PV.pEq, PV.pEqD, PV.isN, PV.pIsN, PV.Tg.d, PV.Tg.it, PV.Tg.itD, PV.Tg.ok, PV.pCat, PV.pRep, PV.pCatT, PV.pIn, PV.pNil, PV.pCons, PV.Tg.items, PV.pStar, PV.allD, PV.allS, PV.pTup, PV.pLst, PV.pNoPart, PV.pPart, PV.pSlL, PV.pSlT, PV.pCB, PV.pLen, PV.pLenS, PV.pI1, PV.pI10, PV.pI2, PV.pInt1, PV.pBool1, PV.pS1, PV.pListOf, PV.pTupOf, PV.tyD, PV.pIsi, PV.bD, PV.pAndV, PV.pOrV, PV.pNotV, PV.pIfE, PV.pT, PV.pAnd, PV.pOr, PV.pNot, PV.truD, PV.pTru, PV.pNotT, PV.pChain, PV.pThree, PV.Rs.arg, PV.lend, PV.pCall, PV.pCall0, PV.pIt, PV.pItT, PV.pRg1, PV.pRg2, PV.pRg3, PV.pEnum, PV.pZip, PV.pRev, PV.pStr, PV.setR, PV.pName, PV.pTgt, PV.pTgts, PV.pTg, PV.pNext, PV.pBreak, PV.pCont, PV.pSeq, PV.pShr, PV.pShrI, PV.shI, PV.pFgt, PV.fgt, PV.pAsg, PV.pExpr, PV.Rs.ret, PV.pRet, PV.pRetN, PV.pIf, PV.pFld, PV.pAug, PV.pPar, PV.pBM, PV.pBM0, PV.pAppend, PV.pExtend, PV.pExtT, PV.pClear, PV.pReverse, PV.pSetIx, PV.pFor, PV.wipeG, PV.pLc, PV.gG, PV.pGen, PV.pYes, PV.pSum, PV.pRaise, PV.pRaise1, PV.slA, PV.startG, PV.ends, PV.pRevL, PV.pSlS, PV.pSign, PV.pProp, PV.pMake, PV.pMake0, PV.pTry, PV.pRetD, PV.Rs.asD, PV.sg, PV.Sl.r, PV.dV, PV.flatD, PV.owns, PV.ownsOf_no, PV.ownsOf_dat, PV.ownsOf_obj, PV.ownsOf_own, PV.ownsOf_tab, PV.shr, PV.Sl.sh, PV.intsOf_map, PV.intsOf_app, PV.intsOf_nil, PV.intsOf_int, PV.isInts_map, PV.isInts_nil, PV.isInts_int, PV.isInts_mapL, PV.scr_key, PV.isiQ_s, PV.kit_int_int, PV.kit_int_bool, PV.kit_int_str, PV.kit_int_list, PV.kit_int_tuple, PV.kit_bool_int, PV.kit_bool_bool, PV.kit_bool_str, PV.kit_bool_list, PV.kit_bool_tuple, PV.kit_str_int, PV.kit_str_bool, PV.kit_str_str, PV.kit_str_list, PV.kit_str_tuple, PV.kit_list_int, PV.kit_list_bool, PV.kit_list_str, PV.kit_list_list, PV.kit_list_tuple, PV.kit_tuple_int, PV.kit_tuple_bool, PV.kit_tuple_str, PV.kit_tuple_list, PV.kit_tuple_tuple, PV.kit_NoneType_int, PV.kit_NoneType_bool, PV.kit_NoneType_str, PV.kit_NoneType_list, PV.kit_NoneType_tuple, PV.cutD_map, PV.allD_map, PV.allD_mapA, PV.allS_map, PV.allS_mapA, List.getElem?_cons_zero, List.getElem?_cons_succ, List.getElem?_nil, List.set_cons_zero, List.set_cons_succ, List.map_cons, List.map_nil, List.cons_append, List.nil_append, List.append_nil, List.length_cons, List.length_nil, List.length_map, List.length_append, List.length_replicate, PV.flat_rep, Nat.mul_one, Nat.one_mul, PV.rep_none, List.replicate_zero, List.all_cons, List.all_nil, cond_true, cond_false, Bool.and_true, Bool.true_and, Bool.and_false, Bool.false_and, Bool.not_true, Bool.not_false, Bool.not_not, if_true, if_false, ite_true, ite_false, true_and, and_true, true_implies, false_implies, reduceCtorEq, Nat.reduceAdd, Nat.reduceSub, Nat.reduceLT, Nat.reduceLeDiff, Bool.false_eq_true, decide_eq_true_eq, decide_eq_false_iff_not, Bool.not_eq_true, Bool.not_eq_false, Bool.not_eq_true', Bool.not_eq_false', Bool.true_eq_false, Option.map_some, Option.map_none, decide_true, decide_false, not_true_eq_false, not_false_eq_true, implies_true, forall_const, eq_self, Nat.reduceEqDiff, beq_self_eq_true, ne_eq, Int.reduceEq, Int.reduceNe, Int.reduceLT, Int.reduceLE, Int.reduceGT, Int.reduceGE, Int.reduceToNat, Int.reduceAdd, Int.reduceNeg, Nat.reduceLT, Nat.reduceLeDiff, Nat.reduceAdd, Nat.reduceMul, false_and, and_false, and_self, true_and, and_true, false_implies, PV.at0, PV.at1, PV.at2, PV.at3, PV.at4, PV.at5, Option.some.injEq, exists_eq_left', exists_eq_left, h3, h4]
      refine ⟨fun z => ?_, fun z => ?_⟩
      · have z : ps.length = 1 := by omega
        rw [if_pos z] at hQ2
        refine ⟨pairD (ps.getD 0 (0, 0)), PV.at_map (f := pairD) (j := 0) rfl ?_, hQ2⟩
        rw [List.getD_eq_getElem?_getD, List.getElem?_eq_getElem (by omega)]
        rfl
      · rwa [if_neg (by omega)] at hQ2
  · exact h.elim
/-! dirt outside of the page -/
def inSq (k a b i j : Nat) : Prop := a ≤ i ∧ i < a + k ∧ b ≤ j ∧ j < b + k
def dirtP (f f' : Nat → Nat → Int) (k a b : Nat) (l : List (Nat × Nat)) : Prop := ∀ i j, (inSq k a b i j → f' i j = f i j) ∧ (¬ inSq k a b i j → f' i j = f i j ∨ (f' i j = 1 ∧ (i, j) ∈ l))
def pLDirt : PV.PSpI := fun as x Q => match as, x with
  | [.obj _, .v _ (.int s), .v _ (.int r), .v _ (.int c), .v _ (.int _), .v _ (.int q)], .tab p rs rows => ∃ (n m : Nat) (f : Nat → Nat → Int) (k a b d : Nat), rows = rowsI (mkR n m f) ∧ s = k ∧ r = a ∧ c = b ∧ q = d ∧ (1 ≤ n ∧ n ≤ 1000) ∧ (1 ≤ m ∧ m ≤ 1000) ∧ d ≤ 1000 ∧ a ≤ 1000 ∧ b ≤ 1000 ∧ k ≤ 1000 ∧ ∀ f' l, l.length ≤ d → dirtP f f' k a b l → Q (.tab p rs (rowsI (mkR n m f')))
  | _, _ => False
theorem ok__law_dirt (T : Txt K mg C_InvalidBed) : Ok P w K mg base CX0 2 "_law_dirt" ["bed", "side", "row", "column", "cell", "count"] (PV.spIO K [] 0 (PV.sgI 6 pLDirt)) := by
  have G__law_mix := ok__law_mix (P := P) (w := w) (base := base) T
  refine PV.pv_defI T.d__law_dirt sc__law_dirt (fun as x PQ h => h.1) fun f cdv A outer s H E hr => ?_
  have nd := sc__law_dirt.nd
  refine ⟨_, _, (pss_cons (ps_set (i := 6) nd rfl (Or.inl rfl) (pe_callB call_len_seq (by rfl) T.n_len PySem.boot_len (pa_cons (pv 0) pa_nil)))
      (pss_cons (ps_set (i := 7) nd rfl (Or.inl rfl) (pe_callB call_len_seq (by rfl) T.n_len PySem.boot_len (pa_cons (pe_ix ix_list (pv 0) pe_int (fun _ _ => rfl)) pa_nil)))
      (pss_one (ps_for PassesOwn.never rfl (pi_range1 rfl T.n_range (pa_cons (pv 5) pa_nil)) (pg_name (i := 8) nd rfl (Or.inl rfl))
        (Evl.pss_cut (ps_if (pt_cmpR op_eq (pe_op op_mod (pv 4) pe_int) pe_int (nomark _))
          (pss_one (ps_set (i := 9) nd rfl (Or.inl rfl) (pe_tup (pa_cons (pe_op op_mod (pe_callO G__law_mix (hr.mono (by decide)) pass0 (pa_cons (pv 4) (pa_cons (pe_op op_mul pe_int (pv 8)) pa_nil))) (pv 6)) (pa_cons (pe_op op_mod (pe_callO G__law_mix (hr.mono (by decide)) pass0 (pa_cons (pv 4) (pa_cons (pe_op op_add (pe_op op_mul pe_int (pv 8)) pe_int) pa_nil))) (pv 7)) pa_nil)))))
          (pss_cons (ps_set (i := 10) nd rfl (Or.inl rfl) (pe_ix ix_tup (pe_tup (pa_cons (pe_op op_sub (pv 2) pe_int) (pa_cons (pe_op op_add (pv 2) (pv 1)) pa_nil))) (pe_op op_mod (pe_op op_fdiv (pv 4) pe_int) pe_int) (fun _ _ => rfl)))
          (pss_one (ps_set (i := 9) nd rfl (Or.inl rfl) (pe_tup (pa_cons (pe_callB (call_max2 rfl) (by rfl) T.n_max (by decide +kernel) (pa_cons pe_int (pa_cons (pe_callB (call_min2 rfl) (by rfl) T.n_min (by decide +kernel) (pa_cons (pe_op op_sub (pv 6) pe_int) (pa_cons (pv 10) pa_nil))) pa_nil))) (pa_cons (pe_callB (call_min2 rfl) (by rfl) T.n_min (by decide +kernel) (pa_cons (pe_op op_sub (pv 7) pe_int) (pa_cons (pe_op op_add (pv 3) (pv 8)) pa_nil))) pa_nil)))))))
        (pss_cons (ps_set (i := 11) nd rfl (Or.inl rfl) (pe_or (pe_cmpR op_lt (pe_ix ix_tup (pv 9) pe_int (fun _ _ => rfl)) (pv 2) (nomark _)) (pe_or (pe_cmpR op_ge (pe_ix ix_tup (pv 9) pe_int (fun _ _ => rfl)) (pe_op op_add (pv 2) (pv 1)) (nomark _)) (pe_or (pe_cmpR op_lt (pe_ix ix_tup (pv 9) pe_int (fun _ _ => rfl)) (pv 3) (nomark _)) (pe_one (pe_cmpR op_ge (pe_ix ix_tup (pv 9) pe_int (fun _ _ => rfl)) (pe_op op_add (pv 3) (pv 1)) (nomark _)))))))
        (pss_one (ps_if (pt_val (pv 11))
          (pss_one (ps_asg pe_int (pg_sub (pe_ix ix_list (pv 0) (pe_ix ix_tup (pv 9) pe_int (fun _ _ => rfl)) (fun _ _ => rfl)) (pe_ix ix_tup (pv 9) pe_int (fun _ _ => rfl)) set_list))) pss_nil)))))))),
    open PV in (ls_seq (ls_asg (le_cb lc_len (la_cons le_var la_nil)) (lg_name (b := false)))
      (ls_seq (ls_asg (le_cb lc_len (la_cons (le_op lr_ixL le_var le_c) la_nil)) (lg_name (b := false)))
      (ls_for (li_rg1 (la_cons le_var la_nil)) (lg_tgt (.name 8))
      (ls_cutF [11] (ls_if (lt_test (le_op lr_eq (le_op lr_I le_var le_c) le_c))
      (ls_asg (le_tup (la_cons (le_op lr_I (le_call0 S__law_mix (la_cons le_var (la_cons (le_op lr_I le_c le_var) la_nil))) le_var) (la_cons (le_op lr_I (le_call0 S__law_mix (la_cons le_var (la_cons (le_op lr_I0 (le_op lr_I le_c le_var) le_c) la_nil))) le_var) la_nil))) (lg_name (b := false)))
      (ls_seq (ls_asg (le_op lr_ixT (le_tup (la_cons (le_op lr_I0 le_var le_c) (la_cons (le_op lr_I0 le_var le_var) la_nil))) (le_op lr_I (le_op lr_I le_var le_c) le_c)) (lg_name (b := false)))
      (ls_asg (le_tup (la_cons (le_cb lc_I2 (la_cons le_c (la_cons (le_cb lc_I2 (la_cons (le_op lr_I0 le_var le_c) (la_cons le_var la_nil))) la_nil))) (la_cons (le_cb lc_I2 (la_cons (le_op lr_I0 le_var le_c) (la_cons (le_op lr_I0 le_var le_var) la_nil))) la_nil))) (lg_name (b := false)))))
      (ls_seq (ls_asg (le_or (le_op lr_I0 (le_op lr_ixT le_var le_c) le_var) (le_or (le_op lr_I0 (le_op lr_ixT le_var le_c) (le_op lr_I0 le_var le_var)) (le_or (le_op lr_I0 (le_op lr_ixT le_var le_c) le_var) (le_op lr_I0 (le_op lr_ixT le_var le_c) (le_op lr_I0 le_var le_var))))) (lg_name (b := false)))
      (ls_if (lt_B le_var)
      (ls_setix2 le_c (le_op lr_ixT le_var le_c) (le_op lr_ixT le_var le_c))
      ls_next)))))), fun as x PQ h => ?_⟩
  replace h := h.2
  unfold pLDirt at h
  split at h
  · next A t s t2 r t3 c t4 cl t5 q p rs rows =>
    obtain ⟨n, m, f, k, a, b, d, rfl, rfl, rfl, rfl, rfl, hn, hm, hd, ha, hb, hk, hQ⟩ := h
    have r0 : atI ((mkR n m f).map dI) 0 = some (dI ((List.range m).map fun c => f 0 c)) := rect_row rfl (by omega)
    simp only [PV.startG, PV.slA, List.map_cons, List.map_nil, List.length_cons, List.length_nil, Nat.reduceAdd, Nat.reduceSub, PV.rep_none, List.cons_append, List.nil_append, List.append_nil, List.replicate_zero]
    simp only [PV.sgI, PV.endsIO, PV.pIoV, PV.pCallIo, PV.pCntT, PV.pLcO, PV.pZipF, PV.pDivMod, PV.ownsOf_dic, PV.pDNew, PV.pDPut, PV.pDGet2, PV.pDGet, PV.pDIn, PV.pLenD, PV.keyD, PV.pSlScr, PV.pZipT, PV.pRngC, PV.pRngV, PV.pSt1, PV.pM0, PV.pZipS, PV.pM1, PV.pJoin, PV.pFmt, PV.pJoined, PV.pJs, PV.pBMV, PV.pCount, PV.pIndex, PV.pSetIx2, PV.pRetT, PV.pLcF, PV.mapL_inj, PV.pVar, PV.pC, PV.pOp, PV.pUn, PV.pII, PV.pII0, PV.pNeg, PV.pSS, PV.pSS0, PV.eqF_int, PV.eqF_str, PV.eqF_bool, PV.eqF_ni, PV.eqF_in, PV.eqF_nn, PV.eqF_si, PV.eqF_is, PV.eqF_sn, PV.eqF_ns, PV.pEq, PV.pEqD, PV.isN, PV.pIsN, PV.Tg.d, PV.Tg.it, PV.Tg.itD, PV.Tg.ok, PV.pCat, PV.pRep, PV.pCatT, PV.pIn, PV.pNil, PV.pCons, PV.Tg.items, PV.pStar, PV.allD, PV.allS, PV.pTup, PV.pLst, PV.pNoPart, PV.pPart, PV.pSlL, PV.pSlT, PV.pCB, PV.pLen, PV.pLenS, PV.pI1, PV.pI10, PV.pI2, PV.pInt1, PV.pBool1, PV.pS1, PV.pListOf, PV.pTupOf, PV.tyD, PV.pIsi, PV.bD, PV.pAndV, PV.pOrV, PV.pNotV, PV.pIfE, PV.pT, PV.pAnd, PV.pOr, PV.pNot, PV.truD, PV.pTru, PV.pNotT, PV.pChain, PV.pThree, PV.Rs.arg, PV.lend, PV.pCall, PV.pCall0, PV.pIt, PV.pItT, PV.pRg1, PV.pRg2, PV.pRg3, PV.pEnum, PV.pZip, PV.pRev, PV.pStr, PV.setR, PV.pName, PV.pTgt, PV.pTgts, PV.pTg, PV.pNext, PV.pBreak, PV.pCont, PV.pSeq, PV.pShr, PV.pShrI, PV.shI, PV.pFgt, PV.fgt, PV.pAsg, PV.pExpr, PV.Rs.ret, PV.pRet, PV.pRetN, PV.pIf, PV.pFld, PV.pAug, PV.pPar, PV.pBM, PV.pBM0, PV.pAppend, PV.pExtend, PV.pExtT, PV.pClear, PV.pReverse, PV.pSetIx, PV.pFor, PV.wipeG, PV.pLc, PV.gG, PV.pGen, PV.pYes, PV.pSum, PV.pRaise, PV.pRaise1, PV.slA, PV.startG, PV.ends, PV.pRevL, PV.pSlS, PV.pSign, PV.pProp, PV.pMake, PV.pMake0, PV.pTry, PV.pRetD, PV.Rs.asD, PV.sg, PV.Sl.r, PV.dV, PV.flatD, PV.owns, PV.ownsOf_no, PV.ownsOf_dat, PV.ownsOf_obj, PV.ownsOf_own, PV.ownsOf_tab, PV.shr, PV.Sl.sh, PV.intsOf_map, PV.intsOf_app, PV.intsOf_nil, PV.intsOf_int, PV.isInts_map, PV.isInts_nil, PV.isInts_int, PV.isInts_mapL, PV.scr_key, PV.isiQ_s, PV.kit_int_int, PV.kit_int_bool, PV.kit_int_str, PV.kit_int_list, PV.kit_int_tuple, PV.kit_bool_int, PV.kit_bool_bool, PV.kit_bool_str, PV.kit_bool_list, PV.kit_bool_tuple, PV.kit_str_int, PV.kit_str_bool, PV.kit_str_str, PV.kit_str_list, PV.kit_str_tuple, PV.kit_list_int, PV.kit_list_bool, PV.kit_list_str, PV.kit_list_list, PV.kit_list_tuple, PV.kit_tuple_int, PV.kit_tuple_bool, PV.kit_tuple_str, PV.kit_tuple_list, PV.kit_tuple_tuple, PV.kit_NoneType_int, PV.kit_NoneType_bool, PV.kit_NoneType_str, PV.kit_NoneType_list, PV.kit_NoneType_tuple, PV.cutD_map, PV.allD_map, PV.allD_mapA, PV.allS_map, PV.allS_mapA, List.getElem?_cons_zero, List.getElem?_cons_succ, List.getElem?_nil, List.set_cons_zero, List.set_cons_succ, List.map_cons, List.map_nil, List.cons_append, List.nil_append, List.append_nil, List.length_cons, List.length_nil, List.length_map, List.length_append, List.length_replicate, PV.flat_rep, Nat.mul_one, Nat.one_mul, PV.rep_none, List.replicate_zero, List.all_cons, List.all_nil, cond_true, cond_false, Bool.and_true, Bool.true_and, Bool.and_false, Bool.false_and, Bool.not_true, Bool.not_false, Bool.not_not, if_true, if_false, ite_true, ite_false, true_and, and_true, true_implies, false_implies, reduceCtorEq, Nat.reduceAdd, Nat.reduceSub, Nat.reduceLT, Nat.reduceLeDiff, Bool.false_eq_true, decide_eq_true_eq, decide_eq_false_iff_not, Bool.not_eq_true, Bool.not_eq_false, Bool.not_eq_true', Bool.not_eq_false', Bool.true_eq_false, Option.map_some, Option.map_none, decide_true, decide_false, not_true_eq_false, not_false_eq_true, implies_true, forall_const, eq_self, Nat.reduceEqDiff, beq_self_eq_true, ne_eq, Int.reduceEq, Int.reduceNe, Int.reduceLT, Int.reduceLE, Int.reduceGT, Int.reduceGE, Int.reduceToNat, Int.reduceAdd, Int.reduceNeg, Nat.reduceLT, Nat.reduceLeDiff, Nat.reduceAdd, Nat.reduceMul, false_and, and_false, and_self, true_and, and_true, false_implies, PV.at0, PV.at1, PV.at2, PV.at3, PV.at4, PV.at5, Option.some.injEq, exists_eq_left', exists_eq_left, rowsI_list, r0, rowsI_len, mkR_len, dI, List.length_range]
    refine ⟨by omega, by omega, ?_⟩
    rw [Int.toNat_natCast]
    refine PV.loop_rg (lo := 0) (n := d) (fun q g => ∃ f' l o8 o9 o10 o11, l.length ≤ q ∧ dirtP f f' k a b l ∧ (PV.ownsOf o8 = [] ∧ PV.ownsOf o9 = [] ∧ PV.ownsOf o10 = [] ∧ PV.ownsOf o11 = []) ∧ g = [some (.tab p rs (rowsI (mkR n m f'))), some (.dat (.int k)), some (.dat (.int a)), some (.dat (.int b)), some (.dat (.int cl)), some (.dat (.int d)), some (.dat (.int n)), some (.dat (.int m)), o8, o9, o10, o11]) ⟨f, [], none, none, none, none, Nat.le_refl _, fun i j => ⟨fun _ => rfl, fun _ => .inl rfl⟩, ⟨rfl, rfl, rfl, rfl⟩, rfl⟩ ?_ ?_
    · rintro q g hq ⟨f', l, o8, o9, o10, o11, hl, hP, ⟨h8, h9, h10, h11⟩, rfl⟩ N hN
      simp only [PV.sgI, PV.endsIO, PV.pIoV, PV.pCallIo, PV.pCntT, PV.pLcO, PV.pZipF, PV.pDivMod, PV.ownsOf_dic, PV.pDNew, PV.pDPut, PV.pDGet2, PV.pDGet, PV.pDIn, PV.pLenD, PV.keyD, PV.pSlScr, PV.pZipT, PV.pRngC, PV.pRngV, PV.pSt1, PV.pM0, PV.pZipS, PV.pM1, PV.pJoin, PV.pFmt, PV.pJoined, PV.pJs, PV.pBMV, PV.pCount, PV.pIndex, PV.pSetIx2, PV.pRetT, PV.pLcF, PV.mapL_inj, PV.pVar, PV.pC, PV.pOp, PV.pUn, PV.pII, PV.pII0, PV.pNeg, PV.pSS, PV.pSS0, PV.eqF_int, PV.eqF_str, PV.eqF_bool, PV.eqF_ni, PV.eqF_in, PV.eqF_nn, PV.eqF_si, PV.eqF_is, PV.eqF_sn, PV.eqF_ns, PV.pEq, PV.pEqD, PV.isN, PV.pIsN, PV.Tg.d, PV.Tg.it, PV.Tg.itD, PV.Tg.ok, PV.pCat, PV.pRep, PV.pCatT, PV.pIn, PV.pNil, PV.pCons, PV.Tg.items, PV.pStar, PV.allD, PV.allS, PV.pTup, PV.pLst, PV.pNoPart, PV.pPart, PV.pSlL, PV.pSlT, PV.pCB, PV.pLen, PV.pLenS, PV.pI1, PV.pI10, PV.pI2, PV.pInt1, PV.pBool1, PV.pS1, PV.pListOf, PV.pTupOf, PV.tyD, PV.pIsi, PV.bD, PV.pAndV, PV.pOrV, PV.pNotV, PV.pIfE, PV.pT, PV.pAnd, PV.pOr, PV.pNot, PV.truD, PV.pTru, PV.pNotT, PV.pChain, PV.pThree, PV.Rs.arg, PV.lend, PV.pCall, PV.pCall0, PV.pIt, PV.pItT, PV.pRg1, PV.pRg2, PV.pRg3, PV.pEnum, PV.pZip, PV.pRev, PV.pStr, PV.setR, PV.pName, PV.pTgt, PV.pTgts, PV.pTg, PV.pNext, PV.pBreak, PV.pCont, PV.pSeq, PV.pShr, PV.pShrI, PV.shI, PV.pFgt, PV.fgt, PV.pAsg, PV.pExpr, PV.Rs.ret, PV.pRet, PV.pRetN, PV.pIf, PV.pFld, PV.pAug, PV.pPar, PV.pBM, PV.pBM0, PV.pAppend, PV.pExtend, PV.pExtT, PV.pClear, PV.pReverse, PV.pSetIx, PV.pFor, PV.wipeG, PV.pLc, PV.gG, PV.pGen, PV.pYes, PV.pSum, PV.pRaise, PV.pRaise1, PV.slA, PV.startG, PV.ends, PV.pRevL, PV.pSlS, PV.pSign, PV.pProp, PV.pMake, PV.pMake0, PV.pTry, PV.pRetD, PV.Rs.asD, PV.sg, PV.Sl.r, PV.dV, PV.flatD, PV.owns, PV.ownsOf_no, PV.ownsOf_dat, PV.ownsOf_obj, PV.ownsOf_own, PV.ownsOf_tab, PV.shr, PV.Sl.sh, PV.intsOf_map, PV.intsOf_app, PV.intsOf_nil, PV.intsOf_int, PV.isInts_map, PV.isInts_nil, PV.isInts_int, PV.isInts_mapL, PV.scr_key, PV.isiQ_s, PV.kit_int_int, PV.kit_int_bool, PV.kit_int_str, PV.kit_int_list, PV.kit_int_tuple, PV.kit_bool_int, PV.kit_bool_bool, PV.kit_bool_str, PV.kit_bool_list, PV.kit_bool_tuple, PV.kit_str_int, PV.kit_str_bool, PV.kit_str_str, PV.kit_str_list, PV.kit_str_tuple, PV.kit_list_int, PV.kit_list_bool, PV.kit_list_str, PV.kit_list_list, PV.kit_list_tuple, PV.kit_tuple_int, PV.kit_tuple_bool, PV.kit_tuple_str, PV.kit_tuple_list, PV.kit_tuple_tuple, PV.kit_NoneType_int, PV.kit_NoneType_bool, PV.kit_NoneType_str, PV.kit_NoneType_list, PV.kit_NoneType_tuple, PV.cutD_map, PV.allD_map, PV.allD_mapA, PV.allS_map, PV.allS_mapA, List.getElem?_cons_zero, List.getElem?_cons_succ, List.getElem?_nil, List.set_cons_zero, List.set_cons_succ, List.map_cons, List.map_nil, List.cons_append, List.nil_append, List.append_nil, List.length_cons, List.length_nil, List.length_map, List.length_append, List.length_replicate, PV.flat_rep, Nat.mul_one, Nat.one_mul, PV.rep_none, List.replicate_zero, List.all_cons, List.all_nil, cond_true, cond_false, Bool.and_true, Bool.true_and, Bool.and_false, Bool.false_and, Bool.not_true, Bool.not_false, Bool.not_not, if_true, if_false, ite_true, ite_false, true_and, and_true, true_implies, false_implies, reduceCtorEq, Nat.reduceAdd, Nat.reduceSub, Nat.reduceLT, Nat.reduceLeDiff, Bool.false_eq_true, decide_eq_true_eq, decide_eq_false_iff_not, Bool.not_eq_true, Bool.not_eq_false, Bool.not_eq_true', Bool.not_eq_false', Bool.true_eq_false, Option.map_some, Option.map_none, decide_true, decide_false, not_true_eq_false, not_false_eq_true, implies_true, forall_const, eq_self, Nat.reduceEqDiff, beq_self_eq_true, ne_eq, Int.reduceEq, Int.reduceNe, Int.reduceLT, Int.reduceLE, Int.reduceGT, Int.reduceGE, Int.reduceToNat, Int.reduceAdd, Int.reduceNeg, Nat.reduceLT, Nat.reduceLeDiff, Nat.reduceAdd, Nat.reduceMul, false_and, and_false, and_self, true_and, and_true, false_implies, PV.at0, PV.at1, PV.at2, PV.at3, PV.at4, PV.at5, Option.some.injEq, exists_eq_left', exists_eq_left, h8, h9, h10, h11]
      refine ⟨fun g => ∃ (x y : Nat) (o10 : Option PV.Sl), x < n ∧ y < m ∧ PV.ownsOf o10 = [] ∧ g = [some (.tab p rs (rowsI (mkR n m f'))), some (.dat (.int k)), some (.dat (.int a)), some (.dat (.int b)), some (.dat (.int cl)), some (.dat (.int d)), some (.dat (.int n)), some (.dat (.int m)), some (.dat (.int (0 + (q : Int)))), some (.dat (.tuple [.int x, .int y])), o10, none], ?_, ?_⟩
      · simp only [PV.sgI, PV.endsIO, PV.pIoV, PV.pCallIo, PV.pCntT, PV.pLcO, PV.pZipF, PV.pDivMod, PV.ownsOf_dic, PV.pDNew, PV.pDPut, PV.pDGet2, PV.pDGet, PV.pDIn, PV.pLenD, PV.keyD, PV.pSlScr, PV.pZipT, PV.pRngC, PV.pRngV, PV.pSt1, PV.pM0, PV.pZipS, PV.pM1, PV.pJoin, PV.pFmt, PV.pJoined, PV.pJs, PV.pBMV, PV.pCount, PV.pIndex, PV.pSetIx2, PV.pRetT, PV.pLcF, PV.mapL_inj, PV.pVar, PV.pC, PV.pOp, PV.pUn, PV.pII, PV.pII0, PV.pNeg, PV.pSS, PV.pSS0, PV.eqF_int, PV.eqF_str, PV.eqF_bool, PV.eqF_ni, PV.eqF_in, PV.eqF_nn, PV.eqF_si, PV.eqF_is, PV.eqF_sn, PV.eqF_ns, PV.pEq, PV.pEqD, PV.isN, PV.pIsN, PV.Tg.d, PV.Tg.it, PV.Tg.itD, PV.Tg.ok, PV.pCat, PV.pRep, PV.pCatT, PV.pIn, PV.pNil, PV.pCons, PV.Tg.items, PV.pStar, PV.allD, PV.allS, PV.pTup, PV.pLst, PV.pNoPart, PV.pPart, PV.pSlL, PV.pSlT, PV.pCB, PV.pLen, PV.pLenS, PV.pI1, PV.pI10, PV.pI2, PV.pInt1, PV.pBool1, PV.pS1, PV.pListOf, PV.pTupOf, PV.tyD, PV.pIsi, PV.bD, PV.pAndV, PV.pOrV, PV.pNotV, PV.pIfE, PV.pT, PV.pAnd, PV.pOr, PV.pNot, PV.truD, PV.pTru, PV.pNotT, PV.pChain, PV.pThree, PV.Rs.arg, PV.lend, PV.pCall, PV.pCall0, PV.pIt, PV.pItT, PV.pRg1, PV.pRg2, PV.pRg3, PV.pEnum, PV.pZip, PV.pRev, PV.pStr, PV.setR, PV.pName, PV.pTgt, PV.pTgts, PV.pTg, PV.pNext, PV.pBreak, PV.pCont, PV.pSeq, PV.pShr, PV.pShrI, PV.shI, PV.pFgt, PV.fgt, PV.pAsg, PV.pExpr, PV.Rs.ret, PV.pRet, PV.pRetN, PV.pIf, PV.pFld, PV.pAug, PV.pPar, PV.pBM, PV.pBM0, PV.pAppend, PV.pExtend, PV.pExtT, PV.pClear, PV.pReverse, PV.pSetIx, PV.pFor, PV.wipeG, PV.pLc, PV.gG, PV.pGen, PV.pYes, PV.pSum, PV.pRaise, PV.pRaise1, PV.slA, PV.startG, PV.ends, PV.pRevL, PV.pSlS, PV.pSign, PV.pProp, PV.pMake, PV.pMake0, PV.pTry, PV.pRetD, PV.Rs.asD, PV.sg, PV.Sl.r, PV.dV, PV.flatD, PV.owns, PV.ownsOf_no, PV.ownsOf_dat, PV.ownsOf_obj, PV.ownsOf_own, PV.ownsOf_tab, PV.shr, PV.Sl.sh, PV.intsOf_map, PV.intsOf_app, PV.intsOf_nil, PV.intsOf_int, PV.isInts_map, PV.isInts_nil, PV.isInts_int, PV.isInts_mapL, PV.scr_key, PV.isiQ_s, PV.kit_int_int, PV.kit_int_bool, PV.kit_int_str, PV.kit_int_list, PV.kit_int_tuple, PV.kit_bool_int, PV.kit_bool_bool, PV.kit_bool_str, PV.kit_bool_list, PV.kit_bool_tuple, PV.kit_str_int, PV.kit_str_bool, PV.kit_str_str, PV.kit_str_list, PV.kit_str_tuple, PV.kit_list_int, PV.kit_list_bool, PV.kit_list_str, PV.kit_list_list, PV.kit_list_tuple, PV.kit_tuple_int, PV.kit_tuple_bool, PV.kit_tuple_str, PV.kit_tuple_list, PV.kit_tuple_tuple, PV.kit_NoneType_int, PV.kit_NoneType_bool, PV.kit_NoneType_str, PV.kit_NoneType_list, PV.kit_NoneType_tuple, PV.cutD_map, PV.allD_map, PV.allD_mapA, PV.allS_map, PV.allS_mapA, List.getElem?_cons_zero, List.getElem?_cons_succ, List.getElem?_nil, List.set_cons_zero, List.set_cons_succ, List.map_cons, List.map_nil, List.cons_append, List.nil_append, List.append_nil, List.length_cons, List.length_nil, List.length_map, List.length_append, List.length_replicate, PV.flat_rep, Nat.mul_one, Nat.one_mul, PV.rep_none, List.replicate_zero, List.all_cons, List.all_nil, cond_true, cond_false, Bool.and_true, Bool.true_and, Bool.and_false, Bool.false_and, Bool.not_true, Bool.not_false, Bool.not_not, if_true, if_false, ite_true, ite_false, true_and, and_true, true_implies, false_implies, reduceCtorEq, Nat.reduceAdd, Nat.reduceSub, Nat.reduceLT, Nat.reduceLeDiff, Bool.false_eq_true, decide_eq_true_eq, decide_eq_false_iff_not, Bool.not_eq_true, Bool.not_eq_false, Bool.not_eq_true', Bool.not_eq_false', Bool.true_eq_false, Option.map_some, Option.map_none, decide_true, decide_false, not_true_eq_false, not_false_eq_true, implies_true, forall_const, eq_self, Nat.reduceEqDiff, beq_self_eq_true, ne_eq, Int.reduceEq, Int.reduceNe, Int.reduceLT, Int.reduceLE, Int.reduceGT, Int.reduceGE, Int.reduceToNat, Int.reduceAdd, Int.reduceNeg, Nat.reduceLT, Nat.reduceLeDiff, Nat.reduceAdd, Nat.reduceMul, false_and, and_false, and_self, true_and, and_true, false_implies, PV.at0, PV.at1, PV.at2, PV.at3, PV.at4, PV.at5, Option.some.injEq, exists_eq_left', exists_eq_left, pMix, h8, h9, h10, h11]
        refine ⟨fun z => ⟨.inl ⟨by omega, by omega⟩, by omega, .inl ⟨by omega, by omega⟩, by omega, by decide, ?_⟩, fun z => ⟨by decide, ⟨by decide, by decide⟩, ?_⟩⟩
        · have b1 := Int.emod_nonneg (mixI cl (2 * (0 + (q : Int)))) (show (n : Int) ≠ 0 by omega)
          have b2 := Int.emod_lt_of_pos (mixI cl (2 * (0 + (q : Int)))) (show (0 : Int) < n by omega)
          have b3 := Int.emod_nonneg (mixI cl (2 * (0 + (q : Int)) + 1)) (show (m : Int) ≠ 0 by omega)
          have b4 := Int.emod_lt_of_pos (mixI cl (2 * (0 + (q : Int)) + 1)) (show (0 : Int) < m by omega)
          generalize mixI cl (2 * (0 + (q : Int))) % (n : Int) = u at *
          generalize mixI cl (2 * (0 + (q : Int)) + 1) % (m : Int) = v at *
          exact ⟨u.toNat, v.toNat, o10, by omega, by omega, h10, by rw [Int.toNat_of_nonneg b1, Int.toNat_of_nonneg b3]⟩
        · obtain ⟨u, hu⟩ : ∃ u, atI [PyData.int ((a : Int) - 1), .int ((a : Int) + k)] (cl / 2 % 2) = some (.int u) := by
            rcases (show cl / 2 % 2 = 0 ∨ cl / 2 % 2 = 1 by omega) with y | y <;> rw [y]
            · exact ⟨_, rfl⟩
            · exact ⟨_, rfl⟩
          refine ⟨_, hu, ?_⟩
          simp only [PV.sgI, PV.endsIO, PV.pIoV, PV.pCallIo, PV.pCntT, PV.pLcO, PV.pZipF, PV.pDivMod, PV.ownsOf_dic, PV.pDNew, PV.pDPut, PV.pDGet2, PV.pDGet, PV.pDIn, PV.pLenD, PV.keyD, PV.pSlScr, PV.pZipT, PV.pRngC, PV.pRngV, PV.pSt1, PV.pM0, PV.pZipS, PV.pM1, PV.pJoin, PV.pFmt, PV.pJoined, PV.pJs, PV.pBMV, PV.pCount, PV.pIndex, PV.pSetIx2, PV.pRetT, PV.pLcF, PV.mapL_inj, PV.pVar, PV.pC, PV.pOp, PV.pUn, PV.pII, PV.pII0, PV.pNeg, PV.pSS, PV.pSS0, PV.eqF_int, PV.eqF_str, PV.eqF_bool, PV.eqF_ni, PV.eqF_in, PV.eqF_nn, PV.eqF_si, PV.eqF_is, PV.eqF_sn, PV.eqF_ns, PV.pEq, PV.pEqD, PV.isN, PV.pIsN, PV.Tg.d, PV.Tg.it, PV.Tg.itD, PV.Tg.ok, PV.pCat, PV.pRep, PV.pCatT, PV.pIn, PV.pNil, PV.pCons, PV.Tg.items, PV.pStar, PV.allD, PV.allS, PV.pTup, PV.pLst, PV.pNoPart, PV.pPart, PV.pSlL, PV.pSlT, PV.pCB, PV.pLen, PV.pLenS, PV.pI1, PV.pI10, PV.pI2, PV.pInt1, PV.pBool1, PV.pS1, PV.pListOf, PV.pTupOf, PV.tyD, PV.pIsi, PV.bD, PV.pAndV, PV.pOrV, PV.pNotV, PV.pIfE, PV.pT, PV.pAnd, PV.pOr, PV.pNot, PV.truD, PV.pTru, PV.pNotT, PV.pChain, PV.pThree, PV.Rs.arg, PV.lend, PV.pCall, PV.pCall0, PV.pIt, PV.pItT, PV.pRg1, PV.pRg2, PV.pRg3, PV.pEnum, PV.pZip, PV.pRev, PV.pStr, PV.setR, PV.pName, PV.pTgt, PV.pTgts, PV.pTg, PV.pNext, PV.pBreak, PV.pCont, PV.pSeq, PV.pShr, PV.pShrI, PV.shI, PV.pFgt, PV.fgt, PV.pAsg, PV.pExpr, PV.Rs.ret, PV.pRet, PV.pRetN, PV.pIf, PV.pFld, PV.pAug, PV.pPar, PV.pBM, PV.pBM0, PV.pAppend, PV.pExtend, PV.pExtT, PV.pClear, PV.pReverse, PV.pSetIx, PV.pFor, PV.wipeG, PV.pLc, PV.gG, PV.pGen, PV.pYes, PV.pSum, PV.pRaise, PV.pRaise1, PV.slA, PV.startG, PV.ends, PV.pRevL, PV.pSlS, PV.pSign, PV.pProp, PV.pMake, PV.pMake0, PV.pTry, PV.pRetD, PV.Rs.asD, PV.sg, PV.Sl.r, PV.dV, PV.flatD, PV.owns, PV.ownsOf_no, PV.ownsOf_dat, PV.ownsOf_obj, PV.ownsOf_own, PV.ownsOf_tab, PV.shr, PV.Sl.sh, PV.intsOf_map, PV.intsOf_app, PV.intsOf_nil, PV.intsOf_int, PV.isInts_map, PV.isInts_nil, PV.isInts_int, PV.isInts_mapL, PV.scr_key, PV.isiQ_s, PV.kit_int_int, PV.kit_int_bool, PV.kit_int_str, PV.kit_int_list, PV.kit_int_tuple, PV.kit_bool_int, PV.kit_bool_bool, PV.kit_bool_str, PV.kit_bool_list, PV.kit_bool_tuple, PV.kit_str_int, PV.kit_str_bool, PV.kit_str_str, PV.kit_str_list, PV.kit_str_tuple, PV.kit_list_int, PV.kit_list_bool, PV.kit_list_str, PV.kit_list_list, PV.kit_list_tuple, PV.kit_tuple_int, PV.kit_tuple_bool, PV.kit_tuple_str, PV.kit_tuple_list, PV.kit_tuple_tuple, PV.kit_NoneType_int, PV.kit_NoneType_bool, PV.kit_NoneType_str, PV.kit_NoneType_list, PV.kit_NoneType_tuple, PV.cutD_map, PV.allD_map, PV.allD_mapA, PV.allS_map, PV.allS_mapA, List.getElem?_cons_zero, List.getElem?_cons_succ, List.getElem?_nil, List.set_cons_zero, List.set_cons_succ, List.map_cons, List.map_nil, List.cons_append, List.nil_append, List.append_nil, List.length_cons, List.length_nil, List.length_map, List.length_append, List.length_replicate, PV.flat_rep, Nat.mul_one, Nat.one_mul, PV.rep_none, List.replicate_zero, List.all_cons, List.all_nil, cond_true, cond_false, Bool.and_true, Bool.true_and, Bool.and_false, Bool.false_and, Bool.not_true, Bool.not_false, Bool.not_not, if_true, if_false, ite_true, ite_false, true_and, and_true, true_implies, false_implies, reduceCtorEq, Nat.reduceAdd, Nat.reduceSub, Nat.reduceLT, Nat.reduceLeDiff, Bool.false_eq_true, decide_eq_true_eq, decide_eq_false_iff_not, Bool.not_eq_true, Bool.not_eq_false, Bool.not_eq_true', Bool.not_eq_false', Bool.true_eq_false, Option.map_some, Option.map_none, decide_true, decide_false, not_true_eq_false, not_false_eq_true, implies_true, forall_const, eq_self, Nat.reduceEqDiff, beq_self_eq_true, ne_eq, Int.reduceEq, Int.reduceNe, Int.reduceLT, Int.reduceLE, Int.reduceGT, Int.reduceGE, Int.reduceToNat, Int.reduceAdd, Int.reduceNeg, Nat.reduceLT, Nat.reduceLeDiff, Nat.reduceAdd, Nat.reduceMul, false_and, and_false, and_self, true_and, and_true, false_implies, PV.at0, PV.at1, PV.at2, PV.at3, PV.at4, PV.at5, Option.some.injEq, exists_eq_left', exists_eq_left]
          have bu : ∃ x : Nat, x < n ∧ (if (if u < (n : Int) - 1 then u else (n : Int) - 1) > 0 then if u < (n : Int) - 1 then u else (n : Int) - 1 else 0) = (x : Int) := by
            refine ⟨(if (if u < (n : Int) - 1 then u else (n : Int) - 1) > 0 then if u < (n : Int) - 1 then u else (n : Int) - 1 else 0).toNat, ?_⟩
            split <;> split <;> omega
          have bv : ∃ y : Nat, y < m ∧ (if (b : Int) + (0 + (q : Int)) < (m : Int) - 1 then (b : Int) + (0 + (q : Int)) else (m : Int) - 1) = (y : Int) := by
            refine ⟨(if (b : Int) + (0 + (q : Int)) < (m : Int) - 1 then (b : Int) + (0 + (q : Int)) else (m : Int) - 1).toNat, ?_⟩
            split <;> omega
          obtain ⟨x, hx, ex⟩ := bu
          obtain ⟨y, hy, ey⟩ := bv
          rw [ex, ey]
          exact ⟨by decide, x, y, some (.dat (.int u)), hx, hy, rfl, rfl⟩
      rintro _ ⟨x, y, o10, hx, hy, h10, rfl⟩
      have hput : ¬ inSq k a b x y → ∃ n_1 row, ixN (rowsI (mkR n m f')).length (x : Int) = some n_1 ∧ (rowsI (mkR n m f'))[n_1]? = some row ∧ ∃ m_1, ixN row.length (y : Int) = some m_1 ∧ N [some (.tab p rs ((rowsI (mkR n m f')).set n_1 (row.set m_1 (.int 1)))), some (.dat (.int k)), some (.dat (.int a)), some (.dat (.int b)), some (.dat (.int cl)), some (.dat (.int d)), some (.dat (.int n)), some (.dat (.int m)), some (.dat (.int (0 + (q : Int)))), some (.dat (.tuple [.int x, .int y])), o10, some (.dat (.bool true))] := fun no => by
        obtain ⟨row, g1, g2, g3⟩ := rect_put (f := f') (v := 1) hx hy
        refine ⟨x, row, Evl.ixN_nat (by rw [rowsI_len, mkR_len]; exact hx), g1, y, by rw [g2]; exact Evl.ixN_nat hy, ?_⟩
        rw [g3]
        refine hN _ ⟨upd2 f' x y 1, l ++ [(x, y)], _, _, _, _, by rw [List.length_append]; show _ + 1 ≤ _; omega, fun i j => ?_, ⟨rfl, rfl, h10, rfl⟩, rfl⟩
        obtain ⟨p1, p2⟩ := hP i j
        unfold upd2
        by_cases z : i = x ∧ j = y
        · rw [if_pos z]
          refine ⟨fun y => absurd (by rw [z.1, z.2] at y; exact y) no, fun _ => .inr ⟨rfl, ?_⟩⟩
          rw [z.1, z.2]
          simp
        · rw [if_neg z]
          exact ⟨p1, fun y => (p2 y).imp id fun y => ⟨y.1, List.mem_append_left _ y.2⟩⟩
      simp only [PV.sgI, PV.endsIO, PV.pIoV, PV.pCallIo, PV.pCntT, PV.pLcO, PV.pZipF, PV.pDivMod, PV.ownsOf_dic, PV.pDNew, PV.pDPut, PV.pDGet2, PV.pDGet, PV.pDIn, PV.pLenD, PV.keyD, PV.pSlScr, PV.pZipT, PV.pRngC, PV.pRngV, PV.pSt1, PV.pM0, PV.pZipS, PV.pM1, PV.pJoin, PV.pFmt, PV.pJoined, PV.pJs, PV.pBMV, PV.pCount, PV.pIndex, PV.pSetIx2, PV.pRetT, PV.pLcF, PV.mapL_inj, PV.pVar, PV.pC, PV.pOp, PV.pUn, PV.pII, PV.pII0, PV.pNeg, PV.pSS, PV.pSS0, PV.eqF_int, PV.eqF_str, PV.eqF_bool, PV.eqF_ni, PV.eqF_in, PV.eqF_nn, PV.eqF_si, PV.eqF_is, PV.eqF_sn, PV.eqF_ns, PV.pEq, PV.pEqD, PV.isN, PV.pIsN, PV.Tg.d, PV.Tg.it, PV.Tg.itD, PV.Tg.ok, PV.pCat, PV.pRep, PV.pCatT, PV.pIn, PV.pNil, PV.pCons, PV.Tg.items, PV.pStar, PV.allD, PV.allS, PV.pTup, PV.pLst, PV.pNoPart, PV.pPart, PV.pSlL, PV.pSlT, PV.pCB, PV.pLen, PV.pLenS, PV.pI1, PV.pI10, PV.pI2, PV.pInt1, PV.pBool1, PV.pS1, PV.pListOf, PV.pTupOf, PV.tyD, PV.pIsi, PV.bD, PV.pAndV, PV.pOrV, PV.pNotV, PV.pIfE, PV.pT, PV.pAnd, PV.pOr, PV.pNot, PV.truD, PV.pTru, PV.pNotT, PV.pChain, PV.pThree, PV.Rs.arg, PV.lend, PV.pCall, PV.pCall0, PV.pIt, PV.pItT, PV.pRg1, PV.pRg2, PV.pRg3, PV.pEnum, PV.pZip, PV.pRev, PV.pStr, PV.setR, PV.pName, PV.pTgt, PV.pTgts, PV.pTg, PV.pNext, PV.pBreak, PV.pCont, PV.pSeq, PV.pShr, PV.pShrI, PV.shI, PV.pFgt, PV.fgt, PV.pAsg, PV.pExpr, PV.Rs.ret, PV.pRet, PV.pRetN, PV.pIf, PV.pFld, PV.pAug, PV.pPar, PV.pBM, PV.pBM0, PV.pAppend, PV.pExtend, PV.pExtT, PV.pClear, PV.pReverse, PV.pSetIx, PV.pFor, PV.wipeG, PV.pLc, PV.gG, PV.pGen, PV.pYes, PV.pSum, PV.pRaise, PV.pRaise1, PV.slA, PV.startG, PV.ends, PV.pRevL, PV.pSlS, PV.pSign, PV.pProp, PV.pMake, PV.pMake0, PV.pTry, PV.pRetD, PV.Rs.asD, PV.sg, PV.Sl.r, PV.dV, PV.flatD, PV.owns, PV.ownsOf_no, PV.ownsOf_dat, PV.ownsOf_obj, PV.ownsOf_own, PV.ownsOf_tab, PV.shr, PV.Sl.sh, PV.intsOf_map, PV.intsOf_app, PV.intsOf_nil, PV.intsOf_int, PV.isInts_map, PV.isInts_nil, PV.isInts_int, PV.isInts_mapL, PV.scr_key, PV.isiQ_s, PV.kit_int_int, PV.kit_int_bool, PV.kit_int_str, PV.kit_int_list, PV.kit_int_tuple, PV.kit_bool_int, PV.kit_bool_bool, PV.kit_bool_str, PV.kit_bool_list, PV.kit_bool_tuple, PV.kit_str_int, PV.kit_str_bool, PV.kit_str_str, PV.kit_str_list, PV.kit_str_tuple, PV.kit_list_int, PV.kit_list_bool, PV.kit_list_str, PV.kit_list_list, PV.kit_list_tuple, PV.kit_tuple_int, PV.kit_tuple_bool, PV.kit_tuple_str, PV.kit_tuple_list, PV.kit_tuple_tuple, PV.kit_NoneType_int, PV.kit_NoneType_bool, PV.kit_NoneType_str, PV.kit_NoneType_list, PV.kit_NoneType_tuple, PV.cutD_map, PV.allD_map, PV.allD_mapA, PV.allS_map, PV.allS_mapA, List.getElem?_cons_zero, List.getElem?_cons_succ, List.getElem?_nil, List.set_cons_zero, List.set_cons_succ, List.map_cons, List.map_nil, List.cons_append, List.nil_append, List.append_nil, List.length_cons, List.length_nil, List.length_map, List.length_append, List.length_replicate, PV.flat_rep, Nat.mul_one, Nat.one_mul, PV.rep_none, List.replicate_zero, List.all_cons, List.all_nil, cond_true, cond_false, Bool.and_true, Bool.true_and, Bool.and_false, Bool.false_and, Bool.not_true, Bool.not_false, Bool.not_not, if_true, if_false, ite_true, ite_false, true_and, and_true, true_implies, false_implies, reduceCtorEq, Nat.reduceAdd, Nat.reduceSub, Nat.reduceLT, Nat.reduceLeDiff, Bool.false_eq_true, decide_eq_true_eq, decide_eq_false_iff_not, Bool.not_eq_true, Bool.not_eq_false, Bool.not_eq_true', Bool.not_eq_false', Bool.true_eq_false, Option.map_some, Option.map_none, decide_true, decide_false, not_true_eq_false, not_false_eq_true, implies_true, forall_const, eq_self, Nat.reduceEqDiff, beq_self_eq_true, ne_eq, Int.reduceEq, Int.reduceNe, Int.reduceLT, Int.reduceLE, Int.reduceGT, Int.reduceGE, Int.reduceToNat, Int.reduceAdd, Int.reduceNeg, Nat.reduceLT, Nat.reduceLeDiff, Nat.reduceAdd, Nat.reduceMul, false_and, and_false, and_self, true_and, and_true, false_implies, PV.at0, PV.at1, PV.at2, PV.at3, PV.at4, PV.at5, Option.some.injEq, exists_eq_left', exists_eq_left, h10]
      unfold inSq at hput
      refine ⟨fun z => hput (by omega), fun z => ⟨fun z => hput (by omega), fun z => ⟨fun z => hput (by omega), fun z => ⟨fun z => (by rw [decide_eq_true z]; exact hput (by omega)), fun z => ?_⟩⟩⟩⟩
      exact hN _ ⟨f', l, _, _, _, _, by omega, hP, ⟨rfl, rfl, h10, rfl⟩, rfl⟩
    · rintro g ⟨f', l, o8, o9, o10, o11, hl, hP, ⟨h8, h9, h10, h11⟩, rfl⟩
      simp only [PV.sgI, PV.endsIO, PV.pIoV, PV.pCallIo, PV.pCntT, PV.pLcO, PV.pZipF, PV.pDivMod, PV.ownsOf_dic, PV.pDNew, PV.pDPut, PV.pDGet2, PV.pDGet, PV.pDIn, PV.pLenD, PV.keyD, PV.pSlScr, PV.pZipT, PV.pRngC, PV.pRngV, PV.pSt1, PV.pM0, PV.pZipS, PV.pM1, PV.pJoin, PV.pFmt, PV.pJoined, PV.pJs, PV.pBMV, PV.pCount, PV.pIndex, PV.pSetIx2, PV.pRetT, PV.pLcF, PV.mapL_inj, PV.pVar, PV.pC, PV.pOp, PV.pUn, PV.pII, PV.pII0, PV.pNeg, PV.pSS, PV.pSS0, PV.eqF_int, PV.eqF_str, PV.eqF_bool, PV.eqF_ni, PV.eqF_in, PV.eqF_nn, PV.eqF_si, PV.eqF_is, PV.eqF_sn, PV.eqF_ns, PV.pEq, PV.pEqD, PV.isN, PV.pIsN, PV.Tg.d, PV.Tg.it, PV.Tg.itD, PV.Tg.ok, PV.pCat, PV.pRep, PV.pCatT, PV.pIn, PV.pNil, PV.pCons, PV.Tg.items, PV.pStar, PV.allD, PV.allS, PV.pTup, PV.pLst, PV.pNoPart, PV.pPart, PV.pSlL, PV.pSlT, PV.pCB, PV.pLen, PV.pLenS, PV.pI1, PV.pI10, PV.pI2, PV.pInt1, PV.pBool1, PV.pS1, PV.pListOf, PV.pTupOf, PV.tyD, PV.pIsi, PV.bD, PV.pAndV, PV.pOrV, PV.pNotV, PV.pIfE, PV.pT, PV.pAnd, PV.pOr, PV.pNot, PV.truD, PV.pTru, PV.pNotT, PV.pChain, PV.pThree, PV.Rs.arg, PV.lend, PV.pCall, PV.pCall0, PV.pIt, PV.pItT, PV.pRg1, PV.pRg2, PV.pRg3, PV.pEnum, PV.pZip, PV.pRev, PV.pStr, PV.setR, PV.pName, PV.pTgt, PV.pTgts, PV.pTg, PV.pNext, PV.pBreak, PV.pCont, PV.pSeq, PV.pShr, PV.pShrI, PV.shI, PV.pFgt, PV.fgt, PV.pAsg, PV.pExpr, PV.Rs.ret, PV.pRet, PV.pRetN, PV.pIf, PV.pFld, PV.pAug, PV.pPar, PV.pBM, PV.pBM0, PV.pAppend, PV.pExtend, PV.pExtT, PV.pClear, PV.pReverse, PV.pSetIx, PV.pFor, PV.wipeG, PV.pLc, PV.gG, PV.pGen, PV.pYes, PV.pSum, PV.pRaise, PV.pRaise1, PV.slA, PV.startG, PV.ends, PV.pRevL, PV.pSlS, PV.pSign, PV.pProp, PV.pMake, PV.pMake0, PV.pTry, PV.pRetD, PV.Rs.asD, PV.sg, PV.Sl.r, PV.dV, PV.flatD, PV.owns, PV.ownsOf_no, PV.ownsOf_dat, PV.ownsOf_obj, PV.ownsOf_own, PV.ownsOf_tab, PV.shr, PV.Sl.sh, PV.intsOf_map, PV.intsOf_app, PV.intsOf_nil, PV.intsOf_int, PV.isInts_map, PV.isInts_nil, PV.isInts_int, PV.isInts_mapL, PV.scr_key, PV.isiQ_s, PV.kit_int_int, PV.kit_int_bool, PV.kit_int_str, PV.kit_int_list, PV.kit_int_tuple, PV.kit_bool_int, PV.kit_bool_bool, PV.kit_bool_str, PV.kit_bool_list, PV.kit_bool_tuple, PV.kit_str_int, PV.kit_str_bool, PV.kit_str_str, PV.kit_str_list, PV.kit_str_tuple, PV.kit_list_int, PV.kit_list_bool, PV.kit_list_str, PV.kit_list_list, PV.kit_list_tuple, PV.kit_tuple_int, PV.kit_tuple_bool, PV.kit_tuple_str, PV.kit_tuple_list, PV.kit_tuple_tuple, PV.kit_NoneType_int, PV.kit_NoneType_bool, PV.kit_NoneType_str, PV.kit_NoneType_list, PV.kit_NoneType_tuple, PV.cutD_map, PV.allD_map, PV.allD_mapA, PV.allS_map, PV.allS_mapA, List.getElem?_cons_zero, List.getElem?_cons_succ, List.getElem?_nil, List.set_cons_zero, List.set_cons_succ, List.map_cons, List.map_nil, List.cons_append, List.nil_append, List.append_nil, List.length_cons, List.length_nil, List.length_map, List.length_append, List.length_replicate, PV.flat_rep, Nat.mul_one, Nat.one_mul, PV.rep_none, List.replicate_zero, List.all_cons, List.all_nil, cond_true, cond_false, Bool.and_true, Bool.true_and, Bool.and_false, Bool.false_and, Bool.not_true, Bool.not_false, Bool.not_not, if_true, if_false, ite_true, ite_false, true_and, and_true, true_implies, false_implies, reduceCtorEq, Nat.reduceAdd, Nat.reduceSub, Nat.reduceLT, Nat.reduceLeDiff, Bool.false_eq_true, decide_eq_true_eq, decide_eq_false_iff_not, Bool.not_eq_true, Bool.not_eq_false, Bool.not_eq_true', Bool.not_eq_false', Bool.true_eq_false, Option.map_some, Option.map_none, decide_true, decide_false, not_true_eq_false, not_false_eq_true, implies_true, forall_const, eq_self, Nat.reduceEqDiff, beq_self_eq_true, ne_eq, Int.reduceEq, Int.reduceNe, Int.reduceLT, Int.reduceLE, Int.reduceGT, Int.reduceGE, Int.reduceToNat, Int.reduceAdd, Int.reduceNeg, Nat.reduceLT, Nat.reduceLeDiff, Nat.reduceAdd, Nat.reduceMul, false_and, and_false, and_self, true_and, and_true, false_implies, PV.at0, PV.at1, PV.at2, PV.at3, PV.at4, PV.at5, Option.some.injEq, exists_eq_left', exists_eq_left]
      exact hQ f' l hl hP
  · exact h.elim

-- @@CUT
def edgeP (k i j : Nat) : Prop := i = 0 ∨ j = 0 ∨ i + 1 = k ∨ j + 1 = k
def geoF (k a b I J : Nat) (f : Nat → Nat → Int) : Prop := (∀ i j, 0 ≤ f i j ∧ f i j ≤ 2) ∧ (∀ i j, ¬ inSq k a b i j → f i j = 0) ∧ ∀ i j, (i < I ∨ (i = I ∧ j < J)) → i < k → j < k → edgeP k i j → f (a + i) (b + j) = 1
theorem upd2_upd2 {f : Nat → Nat → Int} {x y : Nat} {u v : Int} : upd2 (upd2 f x y u) x y v = upd2 f x y v := by
  funext i j
  unfold upd2
  split <;> rfl
theorem geo_step {k a b i j : Nat} {f : Nat → Nat → Int} {v : Int} (h : geoF k a b i j f) (hi : i < k) (hj : j < k) (hv : 0 ≤ v ∧ v ≤ 2) (he : edgeP k i j → v = 1) : geoF k a b i (j + 1) (upd2 f (a + i) (b + j) v) := by
  obtain ⟨h1, h2, h3⟩ := h
  refine ⟨fun x y => ?_, fun x y n => ?_, fun x y c hx hy e => ?_⟩
  · unfold upd2
    split
    · exact hv
    · exact h1 x y
  · unfold upd2
    rw [if_neg fun z => n ⟨by omega, by omega, by omega, by omega⟩]
    exact h2 x y n
  · unfold upd2
    by_cases z : a + x = a + i ∧ b + y = b + j
    · rw [if_pos z]
      exact he (by rw [show i = x by omega, show j = y by omega]; exact e)
    · rw [if_neg z]
      exact h3 x y (by omega) hx hy e
theorem geo_row {k a b i : Nat} {f : Nat → Nat → Int} (h : geoF k a b i k f) : geoF k a b (i + 1) 0 f := ⟨h.1, h.2.1, fun x y c hx hy e => h.2.2 x y (by omega) hx hy e⟩
theorem geo_ring {k a b : Nat} {f : Nat → Nat → Int} (hk : 2 ≤ k) (h : geoF k a b k 0 f) {c : Nat × Nat} (hc : c ∈ ringC k a b) : isB f c = true := by
  rw [ringC_iff hk] at hc
  have := h.2.2 (c.1 - a) (c.2 - b) (by omega) (by omega) (by omega) (by unfold edgeP; omega)
  rw [show a + (c.1 - a) = c.1 by omega, show b + (c.2 - b) = c.2 by omega] at this
  unfold isB
  rw [this]
  rfl
def rgOk (k a b : Nat) (f : Nat → Nat → Int) (l : List (Nat × Nat)) : Prop := ∀ c, c ∈ ringC k a b → isB f c = false → c ∈ l
def otOk (k a b : Nat) (f : Nat → Nat → Int) (l : List (Nat × Nat)) : Prop := ∀ c : Nat × Nat, isB f c = true → ¬ inSq k a b c.1 c.2 → c ∈ l
def vOk (f : Nat → Nat → Int) : Prop := ∀ i j, 0 ≤ f i j ∧ f i j ≤ 2
theorem v_upd {f : Nat → Nat → Int} {x y : Nat} {v : Int} (h : vOk f) (hv : 0 ≤ v ∧ v ≤ 2) : vOk (upd2 f x y v) := fun i j => by
  unfold upd2
  split
  · exact hv
  · exact h i j
theorem rg_upd {k a b x y : Nat} {f : Nat → Nat → Int} {l : List (Nat × Nat)} {v : Int} (h : rgOk k a b f l) : rgOk k a b (upd2 f x y v) (l ++ [(x, y)]) := fun c hc hb => by
  unfold isB upd2 at hb
  by_cases z : c.1 = x ∧ c.2 = y
  · have e : c = (x, y) := by rw [← z.1, ← z.2]
    rw [e]
    simp
  · rw [if_neg z] at hb
    exact List.mem_append_left _ (h c hc hb)
theorem z_upd {k a b i j : Nat} {f : Nat → Nat → Int} {v : Int} (h : ∀ i j, ¬ inSq k a b i j → f i j = 0) (hi : i < k) (hj : j < k) : ∀ x y, ¬ inSq k a b x y → upd2 f (a + i) (b + j) v x y = 0 := fun x y n => by
  unfold upd2
  rw [if_neg fun z => n ⟨by omega, by omega, by omega, by omega⟩]
  exact h x y n
def gGeo (k a b d : Nat) (f : Nat → Nat → Int) : Prop := ∃ l1 l2, l1.length ≤ d ∧ l2.length ≤ d ∧ rgOk k a b f l1 ∧ otOk k a b f l2
theorem dirt_geo {k a b d : Nat} {f f' : Nat → Nat → Int} {l1 l2 : List (Nat × Nat)} (hk : 2 ≤ k) (h : vOk f) (hz : ∀ i j, ¬ inSq k a b i j → f i j = 0) (h1 : l1.length ≤ d) (h2 : l2.length ≤ d) (hr : rgOk k a b f l1) (hd : dirtP f f' k a b l2) : vOk f' ∧ gGeo k a b d f' := by
  refine ⟨fun i j => ?_, l1, l2, h1, h2, fun c hc hb => ?_, fun c hb n => ?_⟩
  · by_cases z : inSq k a b i j
    · rw [(hd i j).1 z]
      exact h i j
    · rcases (hd i j).2 z with e | e
      · rw [e]
        exact h i j
      · rw [e.1]
        decide
  · have z : inSq k a b c.1 c.2 := by
      rw [ringC_iff hk] at hc
      unfold inSq
      omega
    refine hr c hc ?_
    unfold isB at hb ⊢
    rw [(hd c.1 c.2).1 z] at hb
    exact hb
  · rcases (hd c.1 c.2).2 n with e | e
    · unfold isB at hb
      rw [e, hz _ _ n] at hb
      cases hb
    · exact e.2
-- @@CUT
-- @@LAW
theorem ok_law0 (T : Txt K mg C_InvalidBed) (f : Addr) (fd : FuncData) (F : Fun K "law" "law" s_law f fd) : FnOk P w K mg base CX0 4 f fd ["script"] (PV.spLaw K) := by
  have G__law_ring := ok__law_ring (P := P) (w := w) (base := base) T
  have G__law_dirt := ok__law_dirt (P := P) (w := w) (base := base) T
  have G_find_page := ok_find_page (P := P) (w := w) (base := base) T
  have G__law_cell := ok__law_cell (P := P) (w := w) (base := base) T
  have G__law_mix := ok__law_mix (P := P) (w := w) (base := base) T
  have G__law_found := ok__law_found (P := P) (w := w) (base := base) T
  refine PV.pv_law0 F sc_law fun cdv A outer s H E hr => ?_
  have nd := sc_law.nd
  have hu64 : (A.deeper (envOfC "law" (defScope s_law) s.heap.objs.size f cdv)).units + 64 < cLine := by
    have := hr.un
    omega
  refine ⟨_, _, (pss_cons (ps_set (i := 1) nd rfl (Or.inl rfl) (pe_op op_add pe_int (pe_op op_mod (pe_callO G__law_cell (hr.mono (by decide)) pass0 (pa_cons (pv 0) (pa_cons pe_int pa_nil))) pe_int)))
      (pss_cons (ps_set (i := 2) nd rfl (Or.inl rfl) (pe_op op_add (pv 1) (pe_op op_mod (pe_callO G__law_cell (hr.mono (by decide)) pass0 (pa_cons (pv 0) (pa_cons pe_int pa_nil))) pe_int)))
      (pss_cons (ps_set (i := 3) nd rfl (Or.inr rfl) (pe_op op_add (pv 1) (pe_op op_mod (pe_op op_fdiv (pe_callO G__law_cell (hr.mono (by decide)) pass0 (pa_cons (pv 0) (pa_cons pe_int pa_nil))) pe_int) pe_int)))
      (pss_cons (ps_set (i := 4) nd rfl (Or.inl rfl) (pe_op op_mod (pe_callO G__law_cell (hr.mono (by decide)) pass0 (pa_cons (pv 0) (pa_cons pe_int pa_nil))) (pe_op op_add (pe_op op_sub (pv 2) (pv 1)) pe_int)))
      (pss_cons (ps_set (i := 5) nd rfl (Or.inl rfl) (pe_op op_mod (pe_op op_fdiv (pe_callO G__law_cell (hr.mono (by decide)) pass0 (pa_cons (pv 0) (pa_cons pe_int pa_nil))) pe_int) (pe_op op_add (pe_op op_sub (pv 3) (pv 1)) pe_int)))
      (Evl.pss_cut (ps_set (i := 6) nd rfl (Or.inl rfl) (pe_op op_fdiv (pe_op op_sub (pv 1) pe_int) pe_int))
      (pss_cons (ps_setLc (i := 7) (own := [("k", 8)]) (g := gName 8) (tt := tYes) rfl nd rfl rfl (sw_true rfl rfl rfl (by decide +kernel)) (pi_range1 rfl T.n_range (pa_cons (pv 2) pa_nil)) (blkOk_by (N := N_law) (sc := defScope s_law) (by decide +kernel)) (fun _ _ _ _ _ => (pg_name (i := 8) nd rfl (Or.inl rfl))) (fun _ _ _ _ _ => pts_nil) (fun _ _ _ _ _ => (pe_op op_rep (pe_lst (pa_cons pe_int pa_nil)) (pv 3))))
      (pss_cons (ps_set (i := 9) nd rfl (Or.inl rfl) (pe_op op_add pe_int (pe_op op_mod (pe_callO G__law_cell (hr.mono (by decide)) pass0 (pa_cons (pv 0) (pa_cons pe_int pa_nil))) pe_int)))
      (pss_cons (ps_for PassesOwn.never rfl (pi_range1 rfl T.n_range (pa_cons (pv 1) pa_nil)) (pg_name (i := 10) nd rfl (Or.inl rfl))
        (pss_one (ps_for PassesOwn.never rfl (pi_range1 rfl T.n_range (pa_cons (pv 1) pa_nil)) (pg_name (i := 11) nd rfl (Or.inl rfl))
          (pss_cons (ps_set (i := 12) nd rfl (Or.inl rfl) (pe_or (pe_cmpR op_eq (pv 10) pe_int (nomark _)) (pe_or (pe_cmpR op_eq (pv 11) pe_int (nomark _)) (pe_or (pe_cmpR op_eq (pv 10) (pe_op op_sub (pv 1) pe_int) (nomark _)) (pe_one (pe_cmpR op_eq (pv 11) (pe_op op_sub (pv 1) pe_int) (nomark _)))))))
          (pss_cons (ps_asg pe_int (pg_sub (pe_ix ix_list (pv 7) (pe_op op_add (pv 4) (pv 10)) (fun _ _ => rfl)) (pe_op op_add (pv 5) (pv 11)) set_list))
          (pss_one (ps_if (PW.pt (pw_and (pt_not (pt_val (pv 12))) (pw_and1 (pt_cmpR op_lt (pv 9) pe_int (nomark _)))))
            (pss_one (ps_asg (pe_callTy call_int1 (by rfl) T.n_int (by decide +kernel) (pa_cons (pe_cmpR op_lt (pe_op op_mod (pe_callO G__law_mix (hr.mono (by decide)) pass0 (pa_cons (pe_callO G__law_cell (hr.mono (by decide)) pass0 (pa_cons (pv 0) (pa_cons pe_int pa_nil))) (pa_cons (pe_op op_add (pe_op op_mul pe_int (pv 10)) (pv 11)) pa_nil))) pe_int) (pv 9) (nomark _)) pa_nil)) (pg_sub (pe_ix ix_list (pv 7) (pe_op op_add (pv 4) (pv 10)) (fun _ _ => rfl)) (pe_op op_add (pv 5) (pv 11)) set_list))) pss_nil)))))))
      (Evl.pss_cut (ps_set (i := 13) nd rfl (Or.inl rfl) (pe_callO G__law_ring (hr.mono (by decide)) pass0 (pa_cons (pv 1) (pa_cons pe_int pa_nil))))
      (pss_cons (ps_for PassesOwn.never rfl (pi_range1 rfl T.n_range (pa_cons (pe_op op_mod (pe_callO G__law_cell (hr.mono (by decide)) pass0 (pa_cons (pv 0) (pa_cons pe_int pa_nil))) (pe_op op_add (pv 6) pe_int)) pa_nil)) (pg_name (i := 8) nd rfl (Or.inl rfl))
        (pss_cons (ps_set (i := 14) nd rfl (Or.inl rfl) (pe_op op_mod (pe_callO G__law_mix (hr.mono (by decide)) pass0 (pa_cons (pe_callO G__law_cell (hr.mono (by decide)) pass0 (pa_cons (pv 0) (pa_cons pe_int pa_nil))) (pa_cons (pv 8) pa_nil))) (pe_callB call_len_seq (by rfl) T.n_len PySem.boot_len (pa_cons (pv 13) pa_nil))))
        (Evl.pss_cut (ps_if (pt_cmpR op_eq (pe_op op_mod (pe_op op_fdiv (pe_callO G__law_cell (hr.mono (by decide)) pass0 (pa_cons (pv 0) (pa_cons pe_int pa_nil))) pe_int) pe_int) pe_int (nomark _))
          (pss_one (ps_set (i := 14) nd rfl (Or.inl rfl) (pe_op op_mod (pe_op op_add (pe_op op_mul pe_int (pv 8)) (pe_op op_mod (pe_callO G__law_cell (hr.mono (by decide)) pass0 (pa_cons (pv 0) (pa_cons pe_int pa_nil))) pe_int)) (pe_callB call_len_seq (by rfl) T.n_len PySem.boot_len (pa_cons (pv 13) pa_nil))))) pss_nil)
        (pss_one (ps_asg (pe_op op_mul pe_int (pe_op op_mod (pe_callO G__law_mix (hr.mono (by decide)) pass0 (pa_cons (pe_callO G__law_cell (hr.mono (by decide)) pass0 (pa_cons (pv 0) (pa_cons pe_int pa_nil))) (pa_cons (pe_op op_add (pv 8) pe_int) pa_nil))) pe_int)) (pg_sub (pe_ix ix_list (pv 7) (pe_op op_add (pv 4) (pe_ix ix_tup (pe_ix ix_list (pv 13) (pv 14) (fun _ _ => rfl)) pe_int (fun _ _ => rfl))) (fun _ _ => rfl)) (pe_op op_add (pv 5) (pe_ix ix_tup (pe_ix ix_list (pv 13) (pv 14) (fun _ _ => rfl)) pe_int (fun _ _ => rfl))) set_list))))))
      (Evl.pss_cut (ps_expr (pe_callO G__law_dirt (hr.mono (by decide)) pass0 (pa_cons (pv 7) (pa_cons (pv 1) (pa_cons (pv 4) (pa_cons (pv 5) (pa_cons (pe_callO G__law_cell (hr.mono (by decide)) pass0 (pa_cons (pv 0) (pa_cons pe_int pa_nil))) (pa_cons (pe_op op_mod (pe_callO G__law_cell (hr.mono (by decide)) pass0 (pa_cons (pv 0) (pa_cons pe_int pa_nil))) (pe_op op_add (pv 6) pe_int)) pa_nil))))))))
      (pss_cons (ps_set (i := 15) nd rfl (Or.inl rfl) (pe_cmpR op_eq (pe_op op_mod (pe_callO G__law_cell (hr.mono (by decide)) pass0 (pa_cons (pv 0) (pa_cons pe_int pa_nil))) pe_int) pe_int (nomark _)))
      (Evl.pss_cut (ps_if (pt_val (pv 15))
        (pss_one (ps_for PassesOwn.never rfl (pi_list (pe_slice sl_list (pv 0) (po_some pe_int) (po_some pe_int))) (pg_name (i := 16) nd rfl (Or.inl rfl))
          (pss_cons (ps_set (i := 14) nd rfl (Or.inl rfl) (pe_op op_mod (pe_callTy call_int1 (by rfl) T.n_int (by decide +kernel) (pa_cons (pv 16) pa_nil)) (pe_op op_mul (pv 2) (pv 3))))
          (pss_one (ps_asg (pe_op op_mod (pe_op op_fdiv (pe_callTy call_int1 (by rfl) T.n_int (by decide +kernel) (pa_cons (pv 16) pa_nil)) pe_int) pe_int) (pg_sub (pe_ix ix_list (pv 7) (pe_op op_fdiv (pv 14) (pv 3)) (fun _ _ => rfl)) (pe_op op_mod (pv 14) (pv 3)) set_list)))))) pss_nil)
      (pss_cons (ps_setLc (i := 17) (own := [("line", 18)]) (g := gName 18) (tt := tYes) rfl nd rfl rfl (sw_true rfl rfl rfl (by decide +kernel)) (pi_list (pv 7)) (blkOk_by (N := N_law) (sc := defScope s_law) (by decide +kernel)) (fun _ _ _ _ _ => (pg_name (i := 18) nd rfl (Or.inl rfl))) (fun _ _ _ _ _ => pts_nil) (fun _ _ _ _ _ => (pe_callTy (TK.call_list_ofK (K := K)) (by rfl) T.n_list (by decide +kernel) (pa_cons (pv 18) pa_nil))))
      (pss_cons (ps_set (i := 19) nd rfl (Or.inl rfl) (pe_callO G_find_page (hr.mono (by decide)) passN (pa_cons (pv 1) (pa_cons (pv 17) pa_nil))))
      (pss_cons (ps_if (PW.pt (pw_or (pt_cmpR (op_neD hu64) (pv 17) (pv 7) (nomark _)) (pw_or1 (PW.pt (pw_and (pt_cmpR op_notN (pv 19) pe_non (nomark _)) (pw_and1 (pt_not (pt_val (pe_callB call_isi (by rfl) T.n_isinstance (by decide +kernel) (pa_cons (pv 19) (pa_cons (pe_bltn (v := .ty "tuple") (by rfl) T.n_tuple (by decide +kernel) rfl) pa_nil)))))))))))
        (pss_one (ps_ret pe_bl)) pss_nil)
      (pss_cons (ps_if (pt_val (pv 15))
        (pss_one (ps_ret (pe_cmpR (op_eqD hu64) (pv 19) (pe_callO G__law_found (hr.mono (by decide)) pass0 (pa_cons (pv 7) (pa_cons (pv 1) pa_nil))) (nomark _)))) pss_nil)
      (pss_one (ps_ret (pe_and (pe_cmpR (op_eqD hu64) (pv 19) (pe_tup (pa_cons (pv 4) (pa_cons (pv 5) pa_nil))) (nomark _)) (pe_one (pe_cmpR (op_eqD hu64) (pe_callO G__law_found (hr.mono (by decide)) pass0 (pa_cons (pv 7) (pa_cons (pv 1) pa_nil))) (pe_tup (pa_cons (pv 4) (pa_cons (pv 5) pa_nil))) (nomark _)))))))))))))))))))))))),
    open PV in (ls_seq (ls_asg (le_op lr_I0 le_c (le_op lr_I (le_call0 S__law_cell (la_cons le_var (la_cons le_c la_nil))) le_c)) (lg_name (b := false)))
      (ls_seq (ls_asg (le_op lr_I0 le_var (le_op lr_I (le_call0 S__law_cell (la_cons le_var (la_cons le_c la_nil))) le_c)) (lg_name (b := false)))
      (ls_seq (ls_asg (le_op lr_I0 le_var (le_op lr_I (le_op lr_I (le_call0 S__law_cell (la_cons le_var (la_cons le_c la_nil))) le_c) le_c)) (lg_name (b := false)))
      (ls_seq (ls_asg (le_op lr_I (le_call0 S__law_cell (la_cons le_var (la_cons le_c la_nil))) (le_op lr_I0 (le_op lr_I0 le_var le_var) le_c)) (lg_name (b := false)))
      (ls_seq (ls_asg (le_op lr_I (le_op lr_I (le_call0 S__law_cell (la_cons le_var (la_cons le_c la_nil))) le_c) (le_op lr_I0 (le_op lr_I0 le_var le_var) le_c)) (lg_name (b := false)))
      (ls_cutF [7, 9, 13, 15, 17, 19] (ls_asg (le_op lr_I (le_op lr_I0 le_var le_c) le_c) (lg_name (b := false)))
      (ls_seq (ls_asg (le_lcF (.name 8) (by decide) ns0 (li_rg1 (la_cons le_var la_nil)) lt_yes (le_op lr_rep (le_lst (la_cons le_c la_nil)) le_var)) (lg_name (b := true)))
      (ls_seq (ls_asg (le_op lr_I0 le_c (le_op lr_I (le_call0 S__law_cell (la_cons le_var (la_cons le_c la_nil))) le_c)) (lg_name (b := false)))
      (ls_seq (ls_for (li_rg1 (la_cons le_var la_nil)) (lg_tgt (.name 10))
      (ls_for (li_rg1 (la_cons le_var la_nil)) (lg_tgt (.name 11))
      (ls_seq (ls_asg (le_or (le_op lr_eq le_var le_c) (le_or (le_op lr_eq le_var le_c) (le_or (le_op lr_eq le_var (le_op lr_I0 le_var le_c)) (le_op lr_eq le_var (le_op lr_I0 le_var le_c))))) (lg_name (b := false)))
      (ls_seq (ls_setix2 le_c (le_op lr_I0 le_var le_var) (le_op lr_I0 le_var le_var))
      (ls_if (lt_and (lt_not (lt_B le_var)) (lt_test (le_op lr_I0 le_var le_c)))
      (ls_setix2 (le_cb lc_int1 (la_cons (le_op lr_I0 (le_op lr_I (le_call0 S__law_mix (la_cons (le_call0 S__law_cell (la_cons le_var (la_cons le_c la_nil))) (la_cons (le_op lr_I0 (le_op lr_I le_c le_var) le_var) la_nil))) le_c) le_var) la_nil)) (le_op lr_I0 le_var le_var) (le_op lr_I0 le_var le_var))
      ls_next)))))
      (ls_cutF [9, 10, 11, 12, 15, 17, 19] (ls_asg (le_call0 spok (la_cons le_var (la_cons le_c la_nil))) (lg_name (b := false)))
      (ls_seq (ls_for (li_rg1 (la_cons (le_op lr_I (le_call0 S__law_cell (la_cons le_var (la_cons le_c la_nil))) (le_op lr_I0 le_var le_c)) la_nil)) (lg_tgt (.name 8))
      (ls_seq (ls_asg (le_op lr_I (le_call0 S__law_mix (la_cons (le_call0 S__law_cell (la_cons le_var (la_cons le_c la_nil))) (la_cons le_var la_nil))) (le_cb lc_len (la_cons le_var la_nil))) (lg_name (b := false)))
      (ls_cutF [9, 10, 11, 12, 15, 17, 19] (ls_if (lt_test (le_op lr_eq (le_op lr_I (le_op lr_I (le_call0 S__law_cell (la_cons le_var (la_cons le_c la_nil))) le_c) le_c) le_c))
      (ls_asg (le_op lr_I (le_op lr_I0 (le_op lr_I le_c le_var) (le_op lr_I (le_call0 S__law_cell (la_cons le_var (la_cons le_c la_nil))) le_c)) (le_cb lc_len (la_cons le_var la_nil))) (lg_name (b := false)))
      ls_next)
      (ls_setix2 (le_op lr_I le_c (le_op lr_I (le_call0 S__law_mix (la_cons (le_call0 S__law_cell (la_cons le_var (la_cons le_c la_nil))) (la_cons (le_op lr_I0 le_var le_c) la_nil))) le_c)) (le_op lr_I0 le_var (le_op lr_ixT (le_op lr_ixL le_var le_var) le_c)) (le_op lr_I0 le_var (le_op lr_ixT (le_op lr_ixL le_var le_var) le_c))))))
      (ls_cutF [6, 8, 9, 10, 11, 12, 13, 15, 17, 19] (ls_callIo 7 (la_cons le_ioV (la_cons le_var (la_cons le_var (la_cons le_var (la_cons (le_call0 S__law_cell (la_cons le_var (la_cons le_c la_nil))) (la_cons (le_op lr_I (le_call0 S__law_cell (la_cons le_var (la_cons le_c la_nil))) (le_op lr_I0 le_var le_c)) la_nil)))))))
      (ls_seq (ls_asg (le_op lr_eq (le_op lr_I (le_call0 S__law_cell (la_cons le_var (la_cons le_c la_nil))) le_c) le_c) (lg_name (b := false)))
      (ls_cutF [0, 2, 3, 6, 8, 9, 10, 11, 12, 13, 14, 16, 17, 19] (ls_if (lt_B le_var)
      (ls_for (li_list (le_slScr le_var (lo_some le_c) (lo_some le_c))) (lg_tgt (.name 16))
      (ls_seq (ls_asg (le_op lr_I (le_cb lc_int1 (la_cons le_var la_nil)) (le_op lr_I le_var le_var)) (lg_name (b := false)))
      (ls_setix2 (le_op lr_I (le_op lr_I (le_cb lc_int1 (la_cons le_var la_nil)) le_c) le_c) (le_op lr_I le_var le_var) (le_op lr_I le_var le_var))))
      ls_next)
      (ls_seq (ls_shrI 7 (ls_asg (le_lc (.name 18) (by decide) ns0 (li_list le_var) lt_yes (le_cb lc_list (la_cons le_var la_nil))) (lg_name (b := false))))
      (ls_seq (ls_asg (le_call0 spok (la_cons le_var (la_cons le_var la_nil))) (lg_name (b := false)))
      (ls_seq (ls_if (lt_or (lt_test (le_op lr_neD le_var le_var)) (lt_and (lt_test (le_op lr_notN le_var le_c)) (lt_not (lt_B (le_isi le_var)))))
      (ls_retD le_c)
      ls_next)
      (ls_seq (ls_if (lt_B le_var)
      (ls_retD (le_op lr_eqD le_var (le_call0 spok (la_cons le_var (la_cons le_var la_nil)))))
      ls_next)
      (ls_retD (le_and (le_op lr_eqD le_var (le_tup (la_cons le_var (la_cons le_var la_nil)))) (le_op lr_eqD (le_call0 spok (la_cons le_var (la_cons le_var la_nil))) (le_tup (la_cons le_var (la_cons le_var la_nil)))))))))))))))))))))))), fun ns PQ hlen kQ => ?_⟩
  simp only [PV.startG, PV.slA, List.map_cons, List.map_nil, List.length_cons, List.length_nil, Nat.reduceAdd, Nat.reduceSub, PV.rep_none, List.cons_append, List.nil_append, List.append_nil, List.replicate_zero]
  simp only [PV.sgI, PV.endsIO, PV.pIoV, PV.pCallIo, PV.pCntT, PV.pLcO, PV.pZipF, PV.pDivMod, PV.ownsOf_dic, PV.pDNew, PV.pDPut, PV.pDGet2, PV.pDGet, PV.pDIn, PV.pLenD, PV.keyD, PV.pSlScr, PV.pZipT, PV.pRngC, PV.pRngV, PV.pSt1, PV.pM0, PV.pZipS, PV.pM1, PV.pJoin, PV.pFmt, PV.pJoined, PV.pJs, PV.pBMV, PV.pCount, PV.pIndex, PV.pSetIx2, PV.pRetT, PV.pLcF, PV.mapL_inj, PV.pVar, PV.pC, PV.pOp, PV.pUn, PV.pII, PV.pII0, PV.pNeg, PV.pSS, PV.pSS0, PV.eqF_int, PV.eqF_str, PV.eqF_bool, PV.eqF_ni, PV.eqF_in, PV.eqF_nn, PV.eqF_si, PV.eqF_is, PV.eqF_sn, PV.eqF_ns, PV.pEq, PV.pEqD, PV.isN, PV.pIsN, PV.Tg.d, PV.Tg.it, PV.Tg.itD, PV.Tg.ok, PV.pCat, PV.pRep, PV.pCatT, PV.pIn, PV.pNil, PV.pCons, PV.Tg.items, PV.pStar, PV.allD, PV.allS, PV.pTup, PV.pLst, PV.pNoPart, PV.pPart, PV.pSlL, PV.pSlT, PV.pCB, PV.pLen, PV.pLenS, PV.pI1, PV.pI10, PV.pI2, PV.pInt1, PV.pBool1, PV.pS1, PV.pListOf, PV.pTupOf, PV.tyD, PV.pIsi, PV.bD, PV.pAndV, PV.pOrV, PV.pNotV, PV.pIfE, PV.pT, PV.pAnd, PV.pOr, PV.pNot, PV.truD, PV.pTru, PV.pNotT, PV.pChain, PV.pThree, PV.Rs.arg, PV.lend, PV.pCall, PV.pCall0, PV.pIt, PV.pItT, PV.pRg1, PV.pRg2, PV.pRg3, PV.pEnum, PV.pZip, PV.pRev, PV.pStr, PV.setR, PV.pName, PV.pTgt, PV.pTgts, PV.pTg, PV.pNext, PV.pBreak, PV.pCont, PV.pSeq, PV.pShr, PV.pShrI, PV.shI, PV.pFgt, PV.fgt, PV.pAsg, PV.pExpr, PV.Rs.ret, PV.pRet, PV.pRetN, PV.pIf, PV.pFld, PV.pAug, PV.pPar, PV.pBM, PV.pBM0, PV.pAppend, PV.pExtend, PV.pExtT, PV.pClear, PV.pReverse, PV.pSetIx, PV.pFor, PV.wipeG, PV.pLc, PV.gG, PV.pGen, PV.pYes, PV.pSum, PV.pRaise, PV.pRaise1, PV.slA, PV.startG, PV.ends, PV.pRevL, PV.pSlS, PV.pSign, PV.pProp, PV.pMake, PV.pMake0, PV.pTry, PV.pRetD, PV.Rs.asD, PV.sg, PV.Sl.r, PV.dV, PV.flatD, PV.owns, PV.ownsOf_no, PV.ownsOf_dat, PV.ownsOf_obj, PV.ownsOf_own, PV.ownsOf_tab, PV.shr, PV.Sl.sh, PV.intsOf_map, PV.intsOf_app, PV.intsOf_nil, PV.intsOf_int, PV.isInts_map, PV.isInts_nil, PV.isInts_int, PV.isInts_mapL, PV.scr_key, PV.isiQ_s, PV.kit_int_int, PV.kit_int_bool, PV.kit_int_str, PV.kit_int_list, PV.kit_int_tuple, PV.kit_bool_int, PV.kit_bool_bool, PV.kit_bool_str, PV.kit_bool_list, PV.kit_bool_tuple, PV.kit_str_int, PV.kit_str_bool, PV.kit_str_str, PV.kit_str_list, PV.kit_str_tuple, PV.kit_list_int, PV.kit_list_bool, PV.kit_list_str, PV.kit_list_list, PV.kit_list_tuple, PV.kit_tuple_int, PV.kit_tuple_bool, PV.kit_tuple_str, PV.kit_tuple_list, PV.kit_tuple_tuple, PV.kit_NoneType_int, PV.kit_NoneType_bool, PV.kit_NoneType_str, PV.kit_NoneType_list, PV.kit_NoneType_tuple, PV.cutD_map, PV.allD_map, PV.allD_mapA, PV.allS_map, PV.allS_mapA, List.getElem?_cons_zero, List.getElem?_cons_succ, List.getElem?_nil, List.set_cons_zero, List.set_cons_succ, List.map_cons, List.map_nil, List.cons_append, List.nil_append, List.append_nil, List.length_cons, List.length_nil, List.length_map, List.length_append, List.length_replicate, PV.flat_rep, Nat.mul_one, Nat.one_mul, PV.rep_none, List.replicate_zero, List.all_cons, List.all_nil, cond_true, cond_false, Bool.and_true, Bool.true_and, Bool.and_false, Bool.false_and, Bool.not_true, Bool.not_false, Bool.not_not, if_true, if_false, ite_true, ite_false, true_and, and_true, true_implies, false_implies, reduceCtorEq, Nat.reduceAdd, Nat.reduceSub, Nat.reduceLT, Nat.reduceLeDiff, Bool.false_eq_true, decide_eq_true_eq, decide_eq_false_iff_not, Bool.not_eq_true, Bool.not_eq_false, Bool.not_eq_true', Bool.not_eq_false', Bool.true_eq_false, Option.map_some, Option.map_none, decide_true, decide_false, not_true_eq_false, not_false_eq_true, implies_true, forall_const, eq_self, Nat.reduceEqDiff, beq_self_eq_true, ne_eq, Int.reduceEq, Int.reduceNe, Int.reduceLT, Int.reduceLE, Int.reduceGT, Int.reduceGE, Int.reduceToNat, Int.reduceAdd, Int.reduceNeg, Nat.reduceLT, Nat.reduceLeDiff, Nat.reduceAdd, Nat.reduceMul, false_and, and_false, and_self, true_and, and_true, false_implies, PV.at0, PV.at1, PV.at2, PV.at3, PV.at4, PV.at5, Option.some.injEq, exists_eq_left', exists_eq_left, pCell]
  have h0 : 0 ≤ cellI ns 0 % 9 ∧ cellI ns 0 % 9 < 9 := ⟨Int.emod_nonneg _ (by decide), Int.emod_lt_of_pos _ (by decide)⟩
  have h1 : 0 ≤ cellI ns 1 % 9 ∧ cellI ns 1 % 9 < 9 := ⟨Int.emod_nonneg _ (by decide), Int.emod_lt_of_pos _ (by decide)⟩
  have h2 : 0 ≤ cellI ns 1 / 9 % 9 ∧ cellI ns 1 / 9 % 9 < 9 := ⟨Int.emod_nonneg _ (by decide), Int.emod_lt_of_pos _ (by decide)⟩
  obtain ⟨k, hk⟩ : ∃ k : Nat, 16 + cellI ns 0 % 9 = (k : Int) := ⟨(16 + cellI ns 0 % 9).toNat, by omega⟩
  rw [hk]
  obtain ⟨n, hn⟩ : ∃ n : Nat, (k : Int) + cellI ns 1 % 9 = (n : Int) := ⟨((k : Int) + cellI ns 1 % 9).toNat, by omega⟩
  obtain ⟨m, hm⟩ : ∃ m : Nat, (k : Int) + cellI ns 1 / 9 % 9 = (m : Int) := ⟨((k : Int) + cellI ns 1 / 9 % 9).toNat, by omega⟩
  rw [hn, hm]
  have p1 : (0 : Int) < (n : Int) - k + 1 := by omega
  have p2 : (0 : Int) < (m : Int) - k + 1 := by omega
  have e1 := Int.emod_nonneg (cellI ns 2) (show (n : Int) - k + 1 ≠ 0 by omega)
  have e2 := Int.emod_lt_of_pos (cellI ns 2) p1
  have e3 := Int.emod_nonneg (cellI ns 2 / 9) (show (m : Int) - k + 1 ≠ 0 by omega)
  have e4 := Int.emod_lt_of_pos (cellI ns 2 / 9) p2
  obtain ⟨a, ha⟩ : ∃ a : Nat, cellI ns 2 % ((n : Int) - k + 1) = (a : Int) := ⟨(cellI ns 2 % ((n : Int) - k + 1)).toNat, by omega⟩
  obtain ⟨b, hb⟩ : ∃ b : Nat, cellI ns 2 / 9 % ((m : Int) - k + 1) = (b : Int) := ⟨(cellI ns 2 / 9 % ((m : Int) - k + 1)).toNat, by omega⟩
  rw [ha] at e1 e2
  rw [hb] at e3 e4
  rw [ha, hb]
  have hk16 : 16 ≤ k ∧ k ≤ 24 := by omega
  have hn1 : k ≤ n ∧ n ≤ 32 := by omega
  have hm1 : k ≤ m ∧ m ≤ 32 := by omega
  have ha1 : a + k ≤ n := by omega
  have hb1 : b + k ≤ m := by omega
  clear e1 e2 e3 e4 ha hb p1 p2 hn hm hk h0 h1 h2
  refine ⟨⟨by decide, by decide⟩, by omega, ⟨by decide, by decide⟩, by omega, ?_⟩
  have hd : ((k : Int) - 1) / 2 = (((k - 1) / 2 : Nat) : Int) := by omega
  refine ⟨fun g => g = [some (.obj (PV.scr K ns)), some (.dat (.int k)), some (.dat (.int n)), some (.dat (.int m)), some (.dat (.int a)), some (.dat (.int b)), some (.dat (.int ((k - 1) / 2 : Nat))), none, none, none, none, none, none, none, none, none, none, none, none, none], ?_, ?_⟩
  · simp only [PV.sgI, PV.endsIO, PV.pIoV, PV.pCallIo, PV.pCntT, PV.pLcO, PV.pZipF, PV.pDivMod, PV.ownsOf_dic, PV.pDNew, PV.pDPut, PV.pDGet2, PV.pDGet, PV.pDIn, PV.pLenD, PV.keyD, PV.pSlScr, PV.pZipT, PV.pRngC, PV.pRngV, PV.pSt1, PV.pM0, PV.pZipS, PV.pM1, PV.pJoin, PV.pFmt, PV.pJoined, PV.pJs, PV.pBMV, PV.pCount, PV.pIndex, PV.pSetIx2, PV.pRetT, PV.pLcF, PV.mapL_inj, PV.pVar, PV.pC, PV.pOp, PV.pUn, PV.pII, PV.pII0, PV.pNeg, PV.pSS, PV.pSS0, PV.eqF_int, PV.eqF_str, PV.eqF_bool, PV.eqF_ni, PV.eqF_in, PV.eqF_nn, PV.eqF_si, PV.eqF_is, PV.eqF_sn, PV.eqF_ns, PV.pEq, PV.pEqD, PV.isN, PV.pIsN, PV.Tg.d, PV.Tg.it, PV.Tg.itD, PV.Tg.ok, PV.pCat, PV.pRep, PV.pCatT, PV.pIn, PV.pNil, PV.pCons, PV.Tg.items, PV.pStar, PV.allD, PV.allS, PV.pTup, PV.pLst, PV.pNoPart, PV.pPart, PV.pSlL, PV.pSlT, PV.pCB, PV.pLen, PV.pLenS, PV.pI1, PV.pI10, PV.pI2, PV.pInt1, PV.pBool1, PV.pS1, PV.pListOf, PV.pTupOf, PV.tyD, PV.pIsi, PV.bD, PV.pAndV, PV.pOrV, PV.pNotV, PV.pIfE, PV.pT, PV.pAnd, PV.pOr, PV.pNot, PV.truD, PV.pTru, PV.pNotT, PV.pChain, PV.pThree, PV.Rs.arg, PV.lend, PV.pCall, PV.pCall0, PV.pIt, PV.pItT, PV.pRg1, PV.pRg2, PV.pRg3, PV.pEnum, PV.pZip, PV.pRev, PV.pStr, PV.setR, PV.pName, PV.pTgt, PV.pTgts, PV.pTg, PV.pNext, PV.pBreak, PV.pCont, PV.pSeq, PV.pShr, PV.pShrI, PV.shI, PV.pFgt, PV.fgt, PV.pAsg, PV.pExpr, PV.Rs.ret, PV.pRet, PV.pRetN, PV.pIf, PV.pFld, PV.pAug, PV.pPar, PV.pBM, PV.pBM0, PV.pAppend, PV.pExtend, PV.pExtT, PV.pClear, PV.pReverse, PV.pSetIx, PV.pFor, PV.wipeG, PV.pLc, PV.gG, PV.pGen, PV.pYes, PV.pSum, PV.pRaise, PV.pRaise1, PV.slA, PV.startG, PV.ends, PV.pRevL, PV.pSlS, PV.pSign, PV.pProp, PV.pMake, PV.pMake0, PV.pTry, PV.pRetD, PV.Rs.asD, PV.sg, PV.Sl.r, PV.dV, PV.flatD, PV.owns, PV.ownsOf_no, PV.ownsOf_dat, PV.ownsOf_obj, PV.ownsOf_own, PV.ownsOf_tab, PV.shr, PV.Sl.sh, PV.intsOf_map, PV.intsOf_app, PV.intsOf_nil, PV.intsOf_int, PV.isInts_map, PV.isInts_nil, PV.isInts_int, PV.isInts_mapL, PV.scr_key, PV.isiQ_s, PV.kit_int_int, PV.kit_int_bool, PV.kit_int_str, PV.kit_int_list, PV.kit_int_tuple, PV.kit_bool_int, PV.kit_bool_bool, PV.kit_bool_str, PV.kit_bool_list, PV.kit_bool_tuple, PV.kit_str_int, PV.kit_str_bool, PV.kit_str_str, PV.kit_str_list, PV.kit_str_tuple, PV.kit_list_int, PV.kit_list_bool, PV.kit_list_str, PV.kit_list_list, PV.kit_list_tuple, PV.kit_tuple_int, PV.kit_tuple_bool, PV.kit_tuple_str, PV.kit_tuple_list, PV.kit_tuple_tuple, PV.kit_NoneType_int, PV.kit_NoneType_bool, PV.kit_NoneType_str, PV.kit_NoneType_list, PV.kit_NoneType_tuple, PV.cutD_map, PV.allD_map, PV.allD_mapA, PV.allS_map, PV.allS_mapA, List.getElem?_cons_zero, List.getElem?_cons_succ, List.getElem?_nil, List.set_cons_zero, List.set_cons_succ, List.map_cons, List.map_nil, List.cons_append, List.nil_append, List.append_nil, List.length_cons, List.length_nil, List.length_map, List.length_append, List.length_replicate, PV.flat_rep, Nat.mul_one, Nat.one_mul, PV.rep_none, List.replicate_zero, List.all_cons, List.all_nil, cond_true, cond_false, Bool.and_true, Bool.true_and, Bool.and_false, Bool.false_and, Bool.not_true, Bool.not_false, Bool.not_not, if_true, if_false, ite_true, ite_false, true_and, and_true, true_implies, false_implies, reduceCtorEq, Nat.reduceAdd, Nat.reduceSub, Nat.reduceLT, Nat.reduceLeDiff, Bool.false_eq_true, decide_eq_true_eq, decide_eq_false_iff_not, Bool.not_eq_true, Bool.not_eq_false, Bool.not_eq_true', Bool.not_eq_false', Bool.true_eq_false, Option.map_some, Option.map_none, decide_true, decide_false, not_true_eq_false, not_false_eq_true, implies_true, forall_const, eq_self, Nat.reduceEqDiff, beq_self_eq_true, ne_eq, Int.reduceEq, Int.reduceNe, Int.reduceLT, Int.reduceLE, Int.reduceGT, Int.reduceGE, Int.reduceToNat, Int.reduceAdd, Int.reduceNeg, Nat.reduceLT, Nat.reduceLeDiff, Nat.reduceAdd, Nat.reduceMul, false_and, and_false, and_self, true_and, and_true, false_implies, PV.at0, PV.at1, PV.at2, PV.at3, PV.at4, PV.at5, Option.some.injEq, exists_eq_left', exists_eq_left]
    rw [hd]
    exact ⟨⟨by decide, by decide⟩, rfl⟩
  rintro _ rfl
  generalize hbd : (k - 1) / 2 = bd
  simp only [PV.sgI, PV.endsIO, PV.pIoV, PV.pCallIo, PV.pCntT, PV.pLcO, PV.pZipF, PV.pDivMod, PV.ownsOf_dic, PV.pDNew, PV.pDPut, PV.pDGet2, PV.pDGet, PV.pDIn, PV.pLenD, PV.keyD, PV.pSlScr, PV.pZipT, PV.pRngC, PV.pRngV, PV.pSt1, PV.pM0, PV.pZipS, PV.pM1, PV.pJoin, PV.pFmt, PV.pJoined, PV.pJs, PV.pBMV, PV.pCount, PV.pIndex, PV.pSetIx2, PV.pRetT, PV.pLcF, PV.mapL_inj, PV.pVar, PV.pC, PV.pOp, PV.pUn, PV.pII, PV.pII0, PV.pNeg, PV.pSS, PV.pSS0, PV.eqF_int, PV.eqF_str, PV.eqF_bool, PV.eqF_ni, PV.eqF_in, PV.eqF_nn, PV.eqF_si, PV.eqF_is, PV.eqF_sn, PV.eqF_ns, PV.pEq, PV.pEqD, PV.isN, PV.pIsN, PV.Tg.d, PV.Tg.it, PV.Tg.itD, PV.Tg.ok, PV.pCat, PV.pRep, PV.pCatT, PV.pIn, PV.pNil, PV.pCons, PV.Tg.items, PV.pStar, PV.allD, PV.allS, PV.pTup, PV.pLst, PV.pNoPart, PV.pPart, PV.pSlL, PV.pSlT, PV.pCB, PV.pLen, PV.pLenS, PV.pI1, PV.pI10, PV.pI2, PV.pInt1, PV.pBool1, PV.pS1, PV.pListOf, PV.pTupOf, PV.tyD, PV.pIsi, PV.bD, PV.pAndV, PV.pOrV, PV.pNotV, PV.pIfE, PV.pT, PV.pAnd, PV.pOr, PV.pNot, PV.truD, PV.pTru, PV.pNotT, PV.pChain, PV.pThree, PV.Rs.arg, PV.lend, PV.pCall, PV.pCall0, PV.pIt, PV.pItT, PV.pRg1, PV.pRg2, PV.pRg3, PV.pEnum, PV.pZip, PV.pRev, PV.pStr, PV.setR, PV.pName, PV.pTgt, PV.pTgts, PV.pTg, PV.pNext, PV.pBreak, PV.pCont, PV.pSeq, PV.pShr, PV.pShrI, PV.shI, PV.pFgt, PV.fgt, PV.pAsg, PV.pExpr, PV.Rs.ret, PV.pRet, PV.pRetN, PV.pIf, PV.pFld, PV.pAug, PV.pPar, PV.pBM, PV.pBM0, PV.pAppend, PV.pExtend, PV.pExtT, PV.pClear, PV.pReverse, PV.pSetIx, PV.pFor, PV.wipeG, PV.pLc, PV.gG, PV.pGen, PV.pYes, PV.pSum, PV.pRaise, PV.pRaise1, PV.slA, PV.startG, PV.ends, PV.pRevL, PV.pSlS, PV.pSign, PV.pProp, PV.pMake, PV.pMake0, PV.pTry, PV.pRetD, PV.Rs.asD, PV.sg, PV.Sl.r, PV.dV, PV.flatD, PV.owns, PV.ownsOf_no, PV.ownsOf_dat, PV.ownsOf_obj, PV.ownsOf_own, PV.ownsOf_tab, PV.shr, PV.Sl.sh, PV.intsOf_map, PV.intsOf_app, PV.intsOf_nil, PV.intsOf_int, PV.isInts_map, PV.isInts_nil, PV.isInts_int, PV.isInts_mapL, PV.scr_key, PV.isiQ_s, PV.kit_int_int, PV.kit_int_bool, PV.kit_int_str, PV.kit_int_list, PV.kit_int_tuple, PV.kit_bool_int, PV.kit_bool_bool, PV.kit_bool_str, PV.kit_bool_list, PV.kit_bool_tuple, PV.kit_str_int, PV.kit_str_bool, PV.kit_str_str, PV.kit_str_list, PV.kit_str_tuple, PV.kit_list_int, PV.kit_list_bool, PV.kit_list_str, PV.kit_list_list, PV.kit_list_tuple, PV.kit_tuple_int, PV.kit_tuple_bool, PV.kit_tuple_str, PV.kit_tuple_list, PV.kit_tuple_tuple, PV.kit_NoneType_int, PV.kit_NoneType_bool, PV.kit_NoneType_str, PV.kit_NoneType_list, PV.kit_NoneType_tuple, PV.cutD_map, PV.allD_map, PV.allD_mapA, PV.allS_map, PV.allS_mapA, List.getElem?_cons_zero, List.getElem?_cons_succ, List.getElem?_nil, List.set_cons_zero, List.set_cons_succ, List.map_cons, List.map_nil, List.cons_append, List.nil_append, List.append_nil, List.length_cons, List.length_nil, List.length_map, List.length_append, List.length_replicate, PV.flat_rep, Nat.mul_one, Nat.one_mul, PV.rep_none, List.replicate_zero, List.all_cons, List.all_nil, cond_true, cond_false, Bool.and_true, Bool.true_and, Bool.and_false, Bool.false_and, Bool.not_true, Bool.not_false, Bool.not_not, if_true, if_false, ite_true, ite_false, true_and, and_true, true_implies, false_implies, reduceCtorEq, Nat.reduceAdd, Nat.reduceSub, Nat.reduceLT, Nat.reduceLeDiff, Bool.false_eq_true, decide_eq_true_eq, decide_eq_false_iff_not, Bool.not_eq_true, Bool.not_eq_false, Bool.not_eq_true', Bool.not_eq_false', Bool.true_eq_false, Option.map_some, Option.map_none, decide_true, decide_false, not_true_eq_false, not_false_eq_true, implies_true, forall_const, eq_self, Nat.reduceEqDiff, beq_self_eq_true, ne_eq, Int.reduceEq, Int.reduceNe, Int.reduceLT, Int.reduceLE, Int.reduceGT, Int.reduceGE, Int.reduceToNat, Int.reduceAdd, Int.reduceNeg, Nat.reduceLT, Nat.reduceLeDiff, Nat.reduceAdd, Nat.reduceMul, false_and, and_false, and_self, true_and, and_true, false_implies, PV.at0, PV.at1, PV.at2, PV.at3, PV.at4, PV.at5, Option.some.injEq, exists_eq_left', exists_eq_left]
  refine ⟨by omega, by omega, PV.compF_map (f := fun _ : Nat => List.replicate m (.int 0)) _ (List.range n) (fun _ _ _ z => z) (by rw [List.length_range]; omega) (fun j hj P hP => ?_) ?_⟩
  · simp only [PV.sgI, PV.endsIO, PV.pIoV, PV.pCallIo, PV.pCntT, PV.pLcO, PV.pZipF, PV.pDivMod, PV.ownsOf_dic, PV.pDNew, PV.pDPut, PV.pDGet2, PV.pDGet, PV.pDIn, PV.pLenD, PV.keyD, PV.pSlScr, PV.pZipT, PV.pRngC, PV.pRngV, PV.pSt1, PV.pM0, PV.pZipS, PV.pM1, PV.pJoin, PV.pFmt, PV.pJoined, PV.pJs, PV.pBMV, PV.pCount, PV.pIndex, PV.pSetIx2, PV.pRetT, PV.pLcF, PV.mapL_inj, PV.pVar, PV.pC, PV.pOp, PV.pUn, PV.pII, PV.pII0, PV.pNeg, PV.pSS, PV.pSS0, PV.eqF_int, PV.eqF_str, PV.eqF_bool, PV.eqF_ni, PV.eqF_in, PV.eqF_nn, PV.eqF_si, PV.eqF_is, PV.eqF_sn, PV.eqF_ns, PV.pEq, PV.pEqD, PV.isN, PV.pIsN, PV.Tg.d, PV.Tg.it, PV.Tg.itD, PV.Tg.ok, PV.pCat, PV.pRep, PV.pCatT, PV.pIn, PV.pNil, PV.pCons, PV.Tg.items, PV.pStar, PV.allD, PV.allS, PV.pTup, PV.pLst, PV.pNoPart, PV.pPart, PV.pSlL, PV.pSlT, PV.pCB, PV.pLen, PV.pLenS, PV.pI1, PV.pI10, PV.pI2, PV.pInt1, PV.pBool1, PV.pS1, PV.pListOf, PV.pTupOf, PV.tyD, PV.pIsi, PV.bD, PV.pAndV, PV.pOrV, PV.pNotV, PV.pIfE, PV.pT, PV.pAnd, PV.pOr, PV.pNot, PV.truD, PV.pTru, PV.pNotT, PV.pChain, PV.pThree, PV.Rs.arg, PV.lend, PV.pCall, PV.pCall0, PV.pIt, PV.pItT, PV.pRg1, PV.pRg2, PV.pRg3, PV.pEnum, PV.pZip, PV.pRev, PV.pStr, PV.setR, PV.pName, PV.pTgt, PV.pTgts, PV.pTg, PV.pNext, PV.pBreak, PV.pCont, PV.pSeq, PV.pShr, PV.pShrI, PV.shI, PV.pFgt, PV.fgt, PV.pAsg, PV.pExpr, PV.Rs.ret, PV.pRet, PV.pRetN, PV.pIf, PV.pFld, PV.pAug, PV.pPar, PV.pBM, PV.pBM0, PV.pAppend, PV.pExtend, PV.pExtT, PV.pClear, PV.pReverse, PV.pSetIx, PV.pFor, PV.wipeG, PV.pLc, PV.gG, PV.pGen, PV.pYes, PV.pSum, PV.pRaise, PV.pRaise1, PV.slA, PV.startG, PV.ends, PV.pRevL, PV.pSlS, PV.pSign, PV.pProp, PV.pMake, PV.pMake0, PV.pTry, PV.pRetD, PV.Rs.asD, PV.sg, PV.Sl.r, PV.dV, PV.flatD, PV.owns, PV.ownsOf_no, PV.ownsOf_dat, PV.ownsOf_obj, PV.ownsOf_own, PV.ownsOf_tab, PV.shr, PV.Sl.sh, PV.intsOf_map, PV.intsOf_app, PV.intsOf_nil, PV.intsOf_int, PV.isInts_map, PV.isInts_nil, PV.isInts_int, PV.isInts_mapL, PV.scr_key, PV.isiQ_s, PV.kit_int_int, PV.kit_int_bool, PV.kit_int_str, PV.kit_int_list, PV.kit_int_tuple, PV.kit_bool_int, PV.kit_bool_bool, PV.kit_bool_str, PV.kit_bool_list, PV.kit_bool_tuple, PV.kit_str_int, PV.kit_str_bool, PV.kit_str_str, PV.kit_str_list, PV.kit_str_tuple, PV.kit_list_int, PV.kit_list_bool, PV.kit_list_str, PV.kit_list_list, PV.kit_list_tuple, PV.kit_tuple_int, PV.kit_tuple_bool, PV.kit_tuple_str, PV.kit_tuple_list, PV.kit_tuple_tuple, PV.kit_NoneType_int, PV.kit_NoneType_bool, PV.kit_NoneType_str, PV.kit_NoneType_list, PV.kit_NoneType_tuple, PV.cutD_map, PV.allD_map, PV.allD_mapA, PV.allS_map, PV.allS_mapA, List.getElem?_cons_zero, List.getElem?_cons_succ, List.getElem?_nil, List.set_cons_zero, List.set_cons_succ, List.map_cons, List.map_nil, List.cons_append, List.nil_append, List.append_nil, List.length_cons, List.length_nil, List.length_map, List.length_append, List.length_replicate, PV.flat_rep, Nat.mul_one, Nat.one_mul, PV.rep_none, List.replicate_zero, List.all_cons, List.all_nil, cond_true, cond_false, Bool.and_true, Bool.true_and, Bool.and_false, Bool.false_and, Bool.not_true, Bool.not_false, Bool.not_not, if_true, if_false, ite_true, ite_false, true_and, and_true, true_implies, false_implies, reduceCtorEq, Nat.reduceAdd, Nat.reduceSub, Nat.reduceLT, Nat.reduceLeDiff, Bool.false_eq_true, decide_eq_true_eq, decide_eq_false_iff_not, Bool.not_eq_true, Bool.not_eq_false, Bool.not_eq_true', Bool.not_eq_false', Bool.true_eq_false, Option.map_some, Option.map_none, decide_true, decide_false, not_true_eq_false, not_false_eq_true, implies_true, forall_const, eq_self, Nat.reduceEqDiff, beq_self_eq_true, ne_eq, Int.reduceEq, Int.reduceNe, Int.reduceLT, Int.reduceLE, Int.reduceGT, Int.reduceGE, Int.reduceToNat, Int.reduceAdd, Int.reduceNeg, Nat.reduceLT, Nat.reduceLeDiff, Nat.reduceAdd, Nat.reduceMul, false_and, and_false, and_self, true_and, and_true, false_implies, PV.at0, PV.at1, PV.at2, PV.at3, PV.at4, PV.at5, Option.some.injEq, exists_eq_left', exists_eq_left]
    exact ⟨by decide, by omega, by omega, smallE (by omega), hP⟩
  rintro p rs _ rfl
  have hz : (List.range n).map (fun _ : Nat => List.replicate m (PyData.int 0)) = rowsI (mkR n m fun _ _ => 0) := by
    unfold rowsI mkR
    rw [List.map_map]
    refine List.map_congr_left fun i _ => ?_
    show _ = ((List.range m).map fun _ => (0 : Int)).map PyData.int
    rw [List.map_map]
    apply List.ext_getElem <;> simp
  rw [hz]
  simp only [PV.sgI, PV.endsIO, PV.pIoV, PV.pCallIo, PV.pCntT, PV.pLcO, PV.pZipF, PV.pDivMod, PV.ownsOf_dic, PV.pDNew, PV.pDPut, PV.pDGet2, PV.pDGet, PV.pDIn, PV.pLenD, PV.keyD, PV.pSlScr, PV.pZipT, PV.pRngC, PV.pRngV, PV.pSt1, PV.pM0, PV.pZipS, PV.pM1, PV.pJoin, PV.pFmt, PV.pJoined, PV.pJs, PV.pBMV, PV.pCount, PV.pIndex, PV.pSetIx2, PV.pRetT, PV.pLcF, PV.mapL_inj, PV.pVar, PV.pC, PV.pOp, PV.pUn, PV.pII, PV.pII0, PV.pNeg, PV.pSS, PV.pSS0, PV.eqF_int, PV.eqF_str, PV.eqF_bool, PV.eqF_ni, PV.eqF_in, PV.eqF_nn, PV.eqF_si, PV.eqF_is, PV.eqF_sn, PV.eqF_ns, PV.pEq, PV.pEqD, PV.isN, PV.pIsN, PV.Tg.d, PV.Tg.it, PV.Tg.itD, PV.Tg.ok, PV.pCat, PV.pRep, PV.pCatT, PV.pIn, PV.pNil, PV.pCons, PV.Tg.items, PV.pStar, PV.allD, PV.allS, PV.pTup, PV.pLst, PV.pNoPart, PV.pPart, PV.pSlL, PV.pSlT, PV.pCB, PV.pLen, PV.pLenS, PV.pI1, PV.pI10, PV.pI2, PV.pInt1, PV.pBool1, PV.pS1, PV.pListOf, PV.pTupOf, PV.tyD, PV.pIsi, PV.bD, PV.pAndV, PV.pOrV, PV.pNotV, PV.pIfE, PV.pT, PV.pAnd, PV.pOr, PV.pNot, PV.truD, PV.pTru, PV.pNotT, PV.pChain, PV.pThree, PV.Rs.arg, PV.lend, PV.pCall, PV.pCall0, PV.pIt, PV.pItT, PV.pRg1, PV.pRg2, PV.pRg3, PV.pEnum, PV.pZip, PV.pRev, PV.pStr, PV.setR, PV.pName, PV.pTgt, PV.pTgts, PV.pTg, PV.pNext, PV.pBreak, PV.pCont, PV.pSeq, PV.pShr, PV.pShrI, PV.shI, PV.pFgt, PV.fgt, PV.pAsg, PV.pExpr, PV.Rs.ret, PV.pRet, PV.pRetN, PV.pIf, PV.pFld, PV.pAug, PV.pPar, PV.pBM, PV.pBM0, PV.pAppend, PV.pExtend, PV.pExtT, PV.pClear, PV.pReverse, PV.pSetIx, PV.pFor, PV.wipeG, PV.pLc, PV.gG, PV.pGen, PV.pYes, PV.pSum, PV.pRaise, PV.pRaise1, PV.slA, PV.startG, PV.ends, PV.pRevL, PV.pSlS, PV.pSign, PV.pProp, PV.pMake, PV.pMake0, PV.pTry, PV.pRetD, PV.Rs.asD, PV.sg, PV.Sl.r, PV.dV, PV.flatD, PV.owns, PV.ownsOf_no, PV.ownsOf_dat, PV.ownsOf_obj, PV.ownsOf_own, PV.ownsOf_tab, PV.shr, PV.Sl.sh, PV.intsOf_map, PV.intsOf_app, PV.intsOf_nil, PV.intsOf_int, PV.isInts_map, PV.isInts_nil, PV.isInts_int, PV.isInts_mapL, PV.scr_key, PV.isiQ_s, PV.kit_int_int, PV.kit_int_bool, PV.kit_int_str, PV.kit_int_list, PV.kit_int_tuple, PV.kit_bool_int, PV.kit_bool_bool, PV.kit_bool_str, PV.kit_bool_list, PV.kit_bool_tuple, PV.kit_str_int, PV.kit_str_bool, PV.kit_str_str, PV.kit_str_list, PV.kit_str_tuple, PV.kit_list_int, PV.kit_list_bool, PV.kit_list_str, PV.kit_list_list, PV.kit_list_tuple, PV.kit_tuple_int, PV.kit_tuple_bool, PV.kit_tuple_str, PV.kit_tuple_list, PV.kit_tuple_tuple, PV.kit_NoneType_int, PV.kit_NoneType_bool, PV.kit_NoneType_str, PV.kit_NoneType_list, PV.kit_NoneType_tuple, PV.cutD_map, PV.allD_map, PV.allD_mapA, PV.allS_map, PV.allS_mapA, List.getElem?_cons_zero, List.getElem?_cons_succ, List.getElem?_nil, List.set_cons_zero, List.set_cons_succ, List.map_cons, List.map_nil, List.cons_append, List.nil_append, List.append_nil, List.length_cons, List.length_nil, List.length_map, List.length_append, List.length_replicate, PV.flat_rep, Nat.mul_one, Nat.one_mul, PV.rep_none, List.replicate_zero, List.all_cons, List.all_nil, cond_true, cond_false, Bool.and_true, Bool.true_and, Bool.and_false, Bool.false_and, Bool.not_true, Bool.not_false, Bool.not_not, if_true, if_false, ite_true, ite_false, true_and, and_true, true_implies, false_implies, reduceCtorEq, Nat.reduceAdd, Nat.reduceSub, Nat.reduceLT, Nat.reduceLeDiff, Bool.false_eq_true, decide_eq_true_eq, decide_eq_false_iff_not, Bool.not_eq_true, Bool.not_eq_false, Bool.not_eq_true', Bool.not_eq_false', Bool.true_eq_false, Option.map_some, Option.map_none, decide_true, decide_false, not_true_eq_false, not_false_eq_true, implies_true, forall_const, eq_self, Nat.reduceEqDiff, beq_self_eq_true, ne_eq, Int.reduceEq, Int.reduceNe, Int.reduceLT, Int.reduceLE, Int.reduceGT, Int.reduceGE, Int.reduceToNat, Int.reduceAdd, Int.reduceNeg, Nat.reduceLT, Nat.reduceLeDiff, Nat.reduceAdd, Nat.reduceMul, false_and, and_false, and_self, true_and, and_true, false_implies, PV.at0, PV.at1, PV.at2, PV.at3, PV.at4, PV.at5, Option.some.injEq, exists_eq_left', exists_eq_left, pCell]
  generalize 1 + cellI ns 3 % 7 = ins
  refine ⟨by omega, by omega, ?_⟩
  rw [Int.toNat_natCast]
  refine PV.loop_rg (lo := 0) (n := k) (fun I g => ∃ f o10 o11 o12, geoF k a b I 0 f ∧ (PV.ownsOf o10 = [] ∧ PV.ownsOf o11 = [] ∧ PV.ownsOf o12 = []) ∧ g = [some (.obj (PV.scr K ns)), some (.dat (.int k)), some (.dat (.int n)), some (.dat (.int m)), some (.dat (.int a)), some (.dat (.int b)), some (.dat (.int bd)), some (.tab p rs (rowsI (mkR n m f))), none, some (.dat (.int ins)), o10, o11, o12, none, none, none, none, none, none, none]) ⟨_, none, none, none, ⟨fun _ _ => by decide, fun _ _ _ => rfl, fun i j c => by omega⟩, ⟨rfl, rfl, rfl⟩, rfl⟩ ?_ ?_
  · rintro I g hI ⟨f, o10, o11, o12, hf, ⟨h10, h11, h12⟩, rfl⟩ N hN
    simp only [PV.sgI, PV.endsIO, PV.pIoV, PV.pCallIo, PV.pCntT, PV.pLcO, PV.pZipF, PV.pDivMod, PV.ownsOf_dic, PV.pDNew, PV.pDPut, PV.pDGet2, PV.pDGet, PV.pDIn, PV.pLenD, PV.keyD, PV.pSlScr, PV.pZipT, PV.pRngC, PV.pRngV, PV.pSt1, PV.pM0, PV.pZipS, PV.pM1, PV.pJoin, PV.pFmt, PV.pJoined, PV.pJs, PV.pBMV, PV.pCount, PV.pIndex, PV.pSetIx2, PV.pRetT, PV.pLcF, PV.mapL_inj, PV.pVar, PV.pC, PV.pOp, PV.pUn, PV.pII, PV.pII0, PV.pNeg, PV.pSS, PV.pSS0, PV.eqF_int, PV.eqF_str, PV.eqF_bool, PV.eqF_ni, PV.eqF_in, PV.eqF_nn, PV.eqF_si, PV.eqF_is, PV.eqF_sn, PV.eqF_ns, PV.pEq, PV.pEqD, PV.isN, PV.pIsN, PV.Tg.d, PV.Tg.it, PV.Tg.itD, PV.Tg.ok, PV.pCat, PV.pRep, PV.pCatT, PV.pIn, PV.pNil, PV.pCons, PV.Tg.items, PV.pStar, PV.allD, PV.allS, PV.pTup, PV.pLst, PV.pNoPart, PV.pPart, PV.pSlL, PV.pSlT, PV.pCB, PV.pLen, PV.pLenS, PV.pI1, PV.pI10, PV.pI2, PV.pInt1, PV.pBool1, PV.pS1, PV.pListOf, PV.pTupOf, PV.tyD, PV.pIsi, PV.bD, PV.pAndV, PV.pOrV, PV.pNotV, PV.pIfE, PV.pT, PV.pAnd, PV.pOr, PV.pNot, PV.truD, PV.pTru, PV.pNotT, PV.pChain, PV.pThree, PV.Rs.arg, PV.lend, PV.pCall, PV.pCall0, PV.pIt, PV.pItT, PV.pRg1, PV.pRg2, PV.pRg3, PV.pEnum, PV.pZip, PV.pRev, PV.pStr, PV.setR, PV.pName, PV.pTgt, PV.pTgts, PV.pTg, PV.pNext, PV.pBreak, PV.pCont, PV.pSeq, PV.pShr, PV.pShrI, PV.shI, PV.pFgt, PV.fgt, PV.pAsg, PV.pExpr, PV.Rs.ret, PV.pRet, PV.pRetN, PV.pIf, PV.pFld, PV.pAug, PV.pPar, PV.pBM, PV.pBM0, PV.pAppend, PV.pExtend, PV.pExtT, PV.pClear, PV.pReverse, PV.pSetIx, PV.pFor, PV.wipeG, PV.pLc, PV.gG, PV.pGen, PV.pYes, PV.pSum, PV.pRaise, PV.pRaise1, PV.slA, PV.startG, PV.ends, PV.pRevL, PV.pSlS, PV.pSign, PV.pProp, PV.pMake, PV.pMake0, PV.pTry, PV.pRetD, PV.Rs.asD, PV.sg, PV.Sl.r, PV.dV, PV.flatD, PV.owns, PV.ownsOf_no, PV.ownsOf_dat, PV.ownsOf_obj, PV.ownsOf_own, PV.ownsOf_tab, PV.shr, PV.Sl.sh, PV.intsOf_map, PV.intsOf_app, PV.intsOf_nil, PV.intsOf_int, PV.isInts_map, PV.isInts_nil, PV.isInts_int, PV.isInts_mapL, PV.scr_key, PV.isiQ_s, PV.kit_int_int, PV.kit_int_bool, PV.kit_int_str, PV.kit_int_list, PV.kit_int_tuple, PV.kit_bool_int, PV.kit_bool_bool, PV.kit_bool_str, PV.kit_bool_list, PV.kit_bool_tuple, PV.kit_str_int, PV.kit_str_bool, PV.kit_str_str, PV.kit_str_list, PV.kit_str_tuple, PV.kit_list_int, PV.kit_list_bool, PV.kit_list_str, PV.kit_list_list, PV.kit_list_tuple, PV.kit_tuple_int, PV.kit_tuple_bool, PV.kit_tuple_str, PV.kit_tuple_list, PV.kit_tuple_tuple, PV.kit_NoneType_int, PV.kit_NoneType_bool, PV.kit_NoneType_str, PV.kit_NoneType_list, PV.kit_NoneType_tuple, PV.cutD_map, PV.allD_map, PV.allD_mapA, PV.allS_map, PV.allS_mapA, List.getElem?_cons_zero, List.getElem?_cons_succ, List.getElem?_nil, List.set_cons_zero, List.set_cons_succ, List.map_cons, List.map_nil, List.cons_append, List.nil_append, List.append_nil, List.length_cons, List.length_nil, List.length_map, List.length_append, List.length_replicate, PV.flat_rep, Nat.mul_one, Nat.one_mul, PV.rep_none, List.replicate_zero, List.all_cons, List.all_nil, cond_true, cond_false, Bool.and_true, Bool.true_and, Bool.and_false, Bool.false_and, Bool.not_true, Bool.not_false, Bool.not_not, if_true, if_false, ite_true, ite_false, true_and, and_true, true_implies, false_implies, reduceCtorEq, Nat.reduceAdd, Nat.reduceSub, Nat.reduceLT, Nat.reduceLeDiff, Bool.false_eq_true, decide_eq_true_eq, decide_eq_false_iff_not, Bool.not_eq_true, Bool.not_eq_false, Bool.not_eq_true', Bool.not_eq_false', Bool.true_eq_false, Option.map_some, Option.map_none, decide_true, decide_false, not_true_eq_false, not_false_eq_true, implies_true, forall_const, eq_self, Nat.reduceEqDiff, beq_self_eq_true, ne_eq, Int.reduceEq, Int.reduceNe, Int.reduceLT, Int.reduceLE, Int.reduceGT, Int.reduceGE, Int.reduceToNat, Int.reduceAdd, Int.reduceNeg, Nat.reduceLT, Nat.reduceLeDiff, Nat.reduceAdd, Nat.reduceMul, false_and, and_false, and_self, true_and, and_true, false_implies, PV.at0, PV.at1, PV.at2, PV.at3, PV.at4, PV.at5, Option.some.injEq, exists_eq_left', exists_eq_left, h10, h11, h12]
    refine ⟨by omega, by omega, ?_⟩
    rw [Int.toNat_natCast]
    refine PV.loop_rg (lo := 0) (n := k) (fun J g => ∃ f o11 o12, geoF k a b I J f ∧ (PV.ownsOf o11 = [] ∧ PV.ownsOf o12 = []) ∧ g = [some (.obj (PV.scr K ns)), some (.dat (.int k)), some (.dat (.int n)), some (.dat (.int m)), some (.dat (.int a)), some (.dat (.int b)), some (.dat (.int bd)), some (.tab p rs (rowsI (mkR n m f))), none, some (.dat (.int ins)), some (.dat (.int (0 + (I : Int)))), o11, o12, none, none, none, none, none, none, none]) ⟨f, o11, o12, hf, ⟨h11, h12⟩, rfl⟩ ?_ ?_
    · rintro J g hJ ⟨f, o11, o12, hf, ⟨h11, h12⟩, rfl⟩ N2 hN2
      simp only [PV.sgI, PV.endsIO, PV.pIoV, PV.pCallIo, PV.pCntT, PV.pLcO, PV.pZipF, PV.pDivMod, PV.ownsOf_dic, PV.pDNew, PV.pDPut, PV.pDGet2, PV.pDGet, PV.pDIn, PV.pLenD, PV.keyD, PV.pSlScr, PV.pZipT, PV.pRngC, PV.pRngV, PV.pSt1, PV.pM0, PV.pZipS, PV.pM1, PV.pJoin, PV.pFmt, PV.pJoined, PV.pJs, PV.pBMV, PV.pCount, PV.pIndex, PV.pSetIx2, PV.pRetT, PV.pLcF, PV.mapL_inj, PV.pVar, PV.pC, PV.pOp, PV.pUn, PV.pII, PV.pII0, PV.pNeg, PV.pSS, PV.pSS0, PV.eqF_int, PV.eqF_str, PV.eqF_bool, PV.eqF_ni, PV.eqF_in, PV.eqF_nn, PV.eqF_si, PV.eqF_is, PV.eqF_sn, PV.eqF_ns, PV.pEq, PV.pEqD, PV.isN, PV.pIsN, PV.Tg.d, PV.Tg.it, PV.Tg.itD, PV.Tg.ok, PV.pCat, PV.pRep, PV.pCatT, PV.pIn, PV.pNil, PV.pCons, PV.Tg.items, PV.pStar, PV.allD, PV.allS, PV.pTup, PV.pLst, PV.pNoPart, PV.pPart, PV.pSlL, PV.pSlT, PV.pCB, PV.pLen, PV.pLenS, PV.pI1, PV.pI10, PV.pI2, PV.pInt1, PV.pBool1, PV.pS1, PV.pListOf, PV.pTupOf, PV.tyD, PV.pIsi, PV.bD, PV.pAndV, PV.pOrV, PV.pNotV, PV.pIfE, PV.pT, PV.pAnd, PV.pOr, PV.pNot, PV.truD, PV.pTru, PV.pNotT, PV.pChain, PV.pThree, PV.Rs.arg, PV.lend, PV.pCall, PV.pCall0, PV.pIt, PV.pItT, PV.pRg1, PV.pRg2, PV.pRg3, PV.pEnum, PV.pZip, PV.pRev, PV.pStr, PV.setR, PV.pName, PV.pTgt, PV.pTgts, PV.pTg, PV.pNext, PV.pBreak, PV.pCont, PV.pSeq, PV.pShr, PV.pShrI, PV.shI, PV.pFgt, PV.fgt, PV.pAsg, PV.pExpr, PV.Rs.ret, PV.pRet, PV.pRetN, PV.pIf, PV.pFld, PV.pAug, PV.pPar, PV.pBM, PV.pBM0, PV.pAppend, PV.pExtend, PV.pExtT, PV.pClear, PV.pReverse, PV.pSetIx, PV.pFor, PV.wipeG, PV.pLc, PV.gG, PV.pGen, PV.pYes, PV.pSum, PV.pRaise, PV.pRaise1, PV.slA, PV.startG, PV.ends, PV.pRevL, PV.pSlS, PV.pSign, PV.pProp, PV.pMake, PV.pMake0, PV.pTry, PV.pRetD, PV.Rs.asD, PV.sg, PV.Sl.r, PV.dV, PV.flatD, PV.owns, PV.ownsOf_no, PV.ownsOf_dat, PV.ownsOf_obj, PV.ownsOf_own, PV.ownsOf_tab, PV.shr, PV.Sl.sh, PV.intsOf_map, PV.intsOf_app, PV.intsOf_nil, PV.intsOf_int, PV.isInts_map, PV.isInts_nil, PV.isInts_int, PV.isInts_mapL, PV.scr_key, PV.isiQ_s, PV.kit_int_int, PV.kit_int_bool, PV.kit_int_str, PV.kit_int_list, PV.kit_int_tuple, PV.kit_bool_int, PV.kit_bool_bool, PV.kit_bool_str, PV.kit_bool_list, PV.kit_bool_tuple, PV.kit_str_int, PV.kit_str_bool, PV.kit_str_str, PV.kit_str_list, PV.kit_str_tuple, PV.kit_list_int, PV.kit_list_bool, PV.kit_list_str, PV.kit_list_list, PV.kit_list_tuple, PV.kit_tuple_int, PV.kit_tuple_bool, PV.kit_tuple_str, PV.kit_tuple_list, PV.kit_tuple_tuple, PV.kit_NoneType_int, PV.kit_NoneType_bool, PV.kit_NoneType_str, PV.kit_NoneType_list, PV.kit_NoneType_tuple, PV.cutD_map, PV.allD_map, PV.allD_mapA, PV.allS_map, PV.allS_mapA, List.getElem?_cons_zero, List.getElem?_cons_succ, List.getElem?_nil, List.set_cons_zero, List.set_cons_succ, List.map_cons, List.map_nil, List.cons_append, List.nil_append, List.append_nil, List.length_cons, List.length_nil, List.length_map, List.length_append, List.length_replicate, PV.flat_rep, Nat.mul_one, Nat.one_mul, PV.rep_none, List.replicate_zero, List.all_cons, List.all_nil, cond_true, cond_false, Bool.and_true, Bool.true_and, Bool.and_false, Bool.false_and, Bool.not_true, Bool.not_false, Bool.not_not, if_true, if_false, ite_true, ite_false, true_and, and_true, true_implies, false_implies, reduceCtorEq, Nat.reduceAdd, Nat.reduceSub, Nat.reduceLT, Nat.reduceLeDiff, Bool.false_eq_true, decide_eq_true_eq, decide_eq_false_iff_not, Bool.not_eq_true, Bool.not_eq_false, Bool.not_eq_true', Bool.not_eq_false', Bool.true_eq_false, Option.map_some, Option.map_none, decide_true, decide_false, not_true_eq_false, not_false_eq_true, implies_true, forall_const, eq_self, Nat.reduceEqDiff, beq_self_eq_true, ne_eq, Int.reduceEq, Int.reduceNe, Int.reduceLT, Int.reduceLE, Int.reduceGT, Int.reduceGE, Int.reduceToNat, Int.reduceAdd, Int.reduceNeg, Nat.reduceLT, Nat.reduceLeDiff, Nat.reduceAdd, Nat.reduceMul, false_and, and_false, and_self, true_and, and_true, false_implies, PV.at0, PV.at1, PV.at2, PV.at3, PV.at4, PV.at5, Option.some.injEq, exists_eq_left', exists_eq_left, pCell, pMix, h11, h12]
      have eI : (a : Int) + (0 + (I : Int)) = ((a + I : Nat) : Int) := by omega
      have eJ : (b : Int) + (0 + (J : Int)) = ((b + J : Nat) : Int) := by omega
      simp only [eI, eJ]
      generalize hv : (if mixI (cellI ns 4) (40 * (0 + (I : Int)) + (0 + (J : Int))) % 7 < ins then (1 : Int) else 0) = v
      have hv2 : 0 ≤ v ∧ v ≤ 2 := by
        rw [← hv]
        split <;> decide
      obtain ⟨row, g1, g2, g3⟩ := rect_put (f := f) (v := 1) (show a + I < n by omega) (show b + J < m by omega)
      obtain ⟨row2, k1, k2, k3⟩ := rect_put (f := upd2 f (a + I) (b + J) 1) (v := v) (show a + I < n by omega) (show b + J < m by omega)
      have i1 : ixN (rowsI (mkR n m f)).length ((a + I : Nat) : Int) = some (a + I) := Evl.ixN_nat (by rw [rowsI_len, mkR_len]; omega)
      have i2 : ixN row.length ((b + J : Nat) : Int) = some (b + J) := Evl.ixN_nat (by rw [g2]; omega)
      have i3 : ixN (rowsI (mkR n m (upd2 f (a + I) (b + J) 1))).length ((a + I : Nat) : Int) = some (a + I) := Evl.ixN_nat (by rw [rowsI_len, mkR_len]; omega)
      have i4 : ixN row2.length ((b + J : Nat) : Int) = some (b + J) := Evl.ixN_nat (by rw [k2]; omega)
      have hN1 : ∀ (f2 : Nat → Nat → Int) (o12 : Option PV.Sl), geoF k a b I (J + 1) f2 → PV.ownsOf o12 = [] → N2 [some (.obj (PV.scr K ns)), some (.dat (.int k)), some (.dat (.int n)), some (.dat (.int m)), some (.dat (.int a)), some (.dat (.int b)), some (.dat (.int bd)), some (.tab p rs (rowsI (mkR n m f2))), none, some (.dat (.int ins)), some (.dat (.int (0 + (I : Int)))), some (.dat (.int (0 + (J : Int)))), o12, none, none, none, none, none, none, none] := fun f2 o12 h1 h2 => hN2 _ ⟨f2, some (.dat (.int (0 + (J : Int)))), o12, h1, ⟨rfl, h2⟩, rfl⟩
      have s1 := geo_step hf hI hJ (v := 1) (by decide) fun _ => rfl
      refine ⟨fun z => ⟨a + I, row, i1, g1, b + J, i2, ?_⟩, fun z => ⟨fun y => ⟨a + I, row, i1, g1, b + J, i2, ?_⟩, fun y => ⟨fun x => ⟨a + I, row, i1, g1, b + J, i2, ?_⟩, fun x => ⟨a + I, row, i1, g1, b + J, i2, ?_⟩⟩⟩⟩
      · rw [g3]
        exact hN1 _ _ s1 rfl
      · rw [g3]
        exact hN1 _ _ s1 rfl
      · rw [g3]
        exact hN1 _ _ s1 rfl
      · rw [g3]
        refine ⟨fun t => ⟨fun t2 => ⟨.inl ⟨by omega, by omega⟩, a + I, row2, i3, k1, b + J, i4, ?_⟩, fun t2 => hN1 _ _ s1 rfl⟩, fun t => hN1 _ _ s1 rfl⟩
        rw [k3, upd2_upd2]
        refine hN1 _ _ (geo_step hf hI hJ hv2 fun e => ?_) rfl
        unfold edgeP at e
        omega
    · rintro g ⟨f, o11, o12, hf, ⟨h11, h12⟩, rfl⟩
      exact hN _ ⟨f, some (.dat (.int (0 + (I : Int)))), o11, o12, geo_row hf, ⟨rfl, h11, h12⟩, rfl⟩
  rintro g ⟨f, o10, o11, o12, hf, ⟨h10, h11, h12⟩, rfl⟩
  have rgk : rgOk k a b f [] := fun c hc hb => by
    rw [geo_ring (by omega) hf hc] at hb
    cases hb
  refine ⟨fun g => g = [some (.obj (PV.scr K ns)), some (.dat (.int k)), some (.dat (.int n)), some (.dat (.int m)), some (.dat (.int a)), some (.dat (.int b)), some (.dat (.int bd)), some (.tab p rs (rowsI (mkR n m f))), none, none, none, none, none, some (.dat (.list ((ring k 0).map pairD))), none, none, none, none, none, none], ?_, ?_⟩
  · simp only [PV.sgI, PV.endsIO, PV.pIoV, PV.pCallIo, PV.pCntT, PV.pLcO, PV.pZipF, PV.pDivMod, PV.ownsOf_dic, PV.pDNew, PV.pDPut, PV.pDGet2, PV.pDGet, PV.pDIn, PV.pLenD, PV.keyD, PV.pSlScr, PV.pZipT, PV.pRngC, PV.pRngV, PV.pSt1, PV.pM0, PV.pZipS, PV.pM1, PV.pJoin, PV.pFmt, PV.pJoined, PV.pJs, PV.pBMV, PV.pCount, PV.pIndex, PV.pSetIx2, PV.pRetT, PV.pLcF, PV.mapL_inj, PV.pVar, PV.pC, PV.pOp, PV.pUn, PV.pII, PV.pII0, PV.pNeg, PV.pSS, PV.pSS0, PV.eqF_int, PV.eqF_str, PV.eqF_bool, PV.eqF_ni, PV.eqF_in, PV.eqF_nn, PV.eqF_si, PV.eqF_is, PV.eqF_sn, PV.eqF_ns, PV.pEq, PV.pEqD, PV.isN, PV.pIsN, PV.Tg.d, PV.Tg.it, PV.Tg.itD, PV.Tg.ok, PV.pCat, PV.pRep, PV.pCatT, PV.pIn, PV.pNil, PV.pCons, PV.Tg.items, PV.pStar, PV.allD, PV.allS, PV.pTup, PV.pLst, PV.pNoPart, PV.pPart, PV.pSlL, PV.pSlT, PV.pCB, PV.pLen, PV.pLenS, PV.pI1, PV.pI10, PV.pI2, PV.pInt1, PV.pBool1, PV.pS1, PV.pListOf, PV.pTupOf, PV.tyD, PV.pIsi, PV.bD, PV.pAndV, PV.pOrV, PV.pNotV, PV.pIfE, PV.pT, PV.pAnd, PV.pOr, PV.pNot, PV.truD, PV.pTru, PV.pNotT, PV.pChain, PV.pThree, PV.Rs.arg, PV.lend, PV.pCall, PV.pCall0, PV.pIt, PV.pItT, PV.pRg1, PV.pRg2, PV.pRg3, PV.pEnum, PV.pZip, PV.pRev, PV.pStr, PV.setR, PV.pName, PV.pTgt, PV.pTgts, PV.pTg, PV.pNext, PV.pBreak, PV.pCont, PV.pSeq, PV.pShr, PV.pShrI, PV.shI, PV.pFgt, PV.fgt, PV.pAsg, PV.pExpr, PV.Rs.ret, PV.pRet, PV.pRetN, PV.pIf, PV.pFld, PV.pAug, PV.pPar, PV.pBM, PV.pBM0, PV.pAppend, PV.pExtend, PV.pExtT, PV.pClear, PV.pReverse, PV.pSetIx, PV.pFor, PV.wipeG, PV.pLc, PV.gG, PV.pGen, PV.pYes, PV.pSum, PV.pRaise, PV.pRaise1, PV.slA, PV.startG, PV.ends, PV.pRevL, PV.pSlS, PV.pSign, PV.pProp, PV.pMake, PV.pMake0, PV.pTry, PV.pRetD, PV.Rs.asD, PV.sg, PV.Sl.r, PV.dV, PV.flatD, PV.owns, PV.ownsOf_no, PV.ownsOf_dat, PV.ownsOf_obj, PV.ownsOf_own, PV.ownsOf_tab, PV.shr, PV.Sl.sh, PV.intsOf_map, PV.intsOf_app, PV.intsOf_nil, PV.intsOf_int, PV.isInts_map, PV.isInts_nil, PV.isInts_int, PV.isInts_mapL, PV.scr_key, PV.isiQ_s, PV.kit_int_int, PV.kit_int_bool, PV.kit_int_str, PV.kit_int_list, PV.kit_int_tuple, PV.kit_bool_int, PV.kit_bool_bool, PV.kit_bool_str, PV.kit_bool_list, PV.kit_bool_tuple, PV.kit_str_int, PV.kit_str_bool, PV.kit_str_str, PV.kit_str_list, PV.kit_str_tuple, PV.kit_list_int, PV.kit_list_bool, PV.kit_list_str, PV.kit_list_list, PV.kit_list_tuple, PV.kit_tuple_int, PV.kit_tuple_bool, PV.kit_tuple_str, PV.kit_tuple_list, PV.kit_tuple_tuple, PV.kit_NoneType_int, PV.kit_NoneType_bool, PV.kit_NoneType_str, PV.kit_NoneType_list, PV.kit_NoneType_tuple, PV.cutD_map, PV.allD_map, PV.allD_mapA, PV.allS_map, PV.allS_mapA, List.getElem?_cons_zero, List.getElem?_cons_succ, List.getElem?_nil, List.set_cons_zero, List.set_cons_succ, List.map_cons, List.map_nil, List.cons_append, List.nil_append, List.append_nil, List.length_cons, List.length_nil, List.length_map, List.length_append, List.length_replicate, PV.flat_rep, Nat.mul_one, Nat.one_mul, PV.rep_none, List.replicate_zero, List.all_cons, List.all_nil, cond_true, cond_false, Bool.and_true, Bool.true_and, Bool.and_false, Bool.false_and, Bool.not_true, Bool.not_false, Bool.not_not, if_true, if_false, ite_true, ite_false, true_and, and_true, true_implies, false_implies, reduceCtorEq, Nat.reduceAdd, Nat.reduceSub, Nat.reduceLT, Nat.reduceLeDiff, Bool.false_eq_true, decide_eq_true_eq, decide_eq_false_iff_not, Bool.not_eq_true, Bool.not_eq_false, Bool.not_eq_true', Bool.not_eq_false', Bool.true_eq_false, Option.map_some, Option.map_none, decide_true, decide_false, not_true_eq_false, not_false_eq_true, implies_true, forall_const, eq_self, Nat.reduceEqDiff, beq_self_eq_true, ne_eq, Int.reduceEq, Int.reduceNe, Int.reduceLT, Int.reduceLE, Int.reduceGT, Int.reduceGE, Int.reduceToNat, Int.reduceAdd, Int.reduceNeg, Nat.reduceLT, Nat.reduceLeDiff, Nat.reduceAdd, Nat.reduceMul, false_and, and_false, and_self, true_and, and_true, false_implies, PV.at0, PV.at1, PV.at2, PV.at3, PV.at4, PV.at5, Option.some.injEq, exists_eq_left', exists_eq_left, pLRing, h10, h11, h12]
    rw [Int.toNat_natCast]
    exact ⟨by omega, by omega, rfl⟩
  rintro _ rfl
  simp only [PV.sgI, PV.endsIO, PV.pIoV, PV.pCallIo, PV.pCntT, PV.pLcO, PV.pZipF, PV.pDivMod, PV.ownsOf_dic, PV.pDNew, PV.pDPut, PV.pDGet2, PV.pDGet, PV.pDIn, PV.pLenD, PV.keyD, PV.pSlScr, PV.pZipT, PV.pRngC, PV.pRngV, PV.pSt1, PV.pM0, PV.pZipS, PV.pM1, PV.pJoin, PV.pFmt, PV.pJoined, PV.pJs, PV.pBMV, PV.pCount, PV.pIndex, PV.pSetIx2, PV.pRetT, PV.pLcF, PV.mapL_inj, PV.pVar, PV.pC, PV.pOp, PV.pUn, PV.pII, PV.pII0, PV.pNeg, PV.pSS, PV.pSS0, PV.eqF_int, PV.eqF_str, PV.eqF_bool, PV.eqF_ni, PV.eqF_in, PV.eqF_nn, PV.eqF_si, PV.eqF_is, PV.eqF_sn, PV.eqF_ns, PV.pEq, PV.pEqD, PV.isN, PV.pIsN, PV.Tg.d, PV.Tg.it, PV.Tg.itD, PV.Tg.ok, PV.pCat, PV.pRep, PV.pCatT, PV.pIn, PV.pNil, PV.pCons, PV.Tg.items, PV.pStar, PV.allD, PV.allS, PV.pTup, PV.pLst, PV.pNoPart, PV.pPart, PV.pSlL, PV.pSlT, PV.pCB, PV.pLen, PV.pLenS, PV.pI1, PV.pI10, PV.pI2, PV.pInt1, PV.pBool1, PV.pS1, PV.pListOf, PV.pTupOf, PV.tyD, PV.pIsi, PV.bD, PV.pAndV, PV.pOrV, PV.pNotV, PV.pIfE, PV.pT, PV.pAnd, PV.pOr, PV.pNot, PV.truD, PV.pTru, PV.pNotT, PV.pChain, PV.pThree, PV.Rs.arg, PV.lend, PV.pCall, PV.pCall0, PV.pIt, PV.pItT, PV.pRg1, PV.pRg2, PV.pRg3, PV.pEnum, PV.pZip, PV.pRev, PV.pStr, PV.setR, PV.pName, PV.pTgt, PV.pTgts, PV.pTg, PV.pNext, PV.pBreak, PV.pCont, PV.pSeq, PV.pShr, PV.pShrI, PV.shI, PV.pFgt, PV.fgt, PV.pAsg, PV.pExpr, PV.Rs.ret, PV.pRet, PV.pRetN, PV.pIf, PV.pFld, PV.pAug, PV.pPar, PV.pBM, PV.pBM0, PV.pAppend, PV.pExtend, PV.pExtT, PV.pClear, PV.pReverse, PV.pSetIx, PV.pFor, PV.wipeG, PV.pLc, PV.gG, PV.pGen, PV.pYes, PV.pSum, PV.pRaise, PV.pRaise1, PV.slA, PV.startG, PV.ends, PV.pRevL, PV.pSlS, PV.pSign, PV.pProp, PV.pMake, PV.pMake0, PV.pTry, PV.pRetD, PV.Rs.asD, PV.sg, PV.Sl.r, PV.dV, PV.flatD, PV.owns, PV.ownsOf_no, PV.ownsOf_dat, PV.ownsOf_obj, PV.ownsOf_own, PV.ownsOf_tab, PV.shr, PV.Sl.sh, PV.intsOf_map, PV.intsOf_app, PV.intsOf_nil, PV.intsOf_int, PV.isInts_map, PV.isInts_nil, PV.isInts_int, PV.isInts_mapL, PV.scr_key, PV.isiQ_s, PV.kit_int_int, PV.kit_int_bool, PV.kit_int_str, PV.kit_int_list, PV.kit_int_tuple, PV.kit_bool_int, PV.kit_bool_bool, PV.kit_bool_str, PV.kit_bool_list, PV.kit_bool_tuple, PV.kit_str_int, PV.kit_str_bool, PV.kit_str_str, PV.kit_str_list, PV.kit_str_tuple, PV.kit_list_int, PV.kit_list_bool, PV.kit_list_str, PV.kit_list_list, PV.kit_list_tuple, PV.kit_tuple_int, PV.kit_tuple_bool, PV.kit_tuple_str, PV.kit_tuple_list, PV.kit_tuple_tuple, PV.kit_NoneType_int, PV.kit_NoneType_bool, PV.kit_NoneType_str, PV.kit_NoneType_list, PV.kit_NoneType_tuple, PV.cutD_map, PV.allD_map, PV.allD_mapA, PV.allS_map, PV.allS_mapA, List.getElem?_cons_zero, List.getElem?_cons_succ, List.getElem?_nil, List.set_cons_zero, List.set_cons_succ, List.map_cons, List.map_nil, List.cons_append, List.nil_append, List.append_nil, List.length_cons, List.length_nil, List.length_map, List.length_append, List.length_replicate, PV.flat_rep, Nat.mul_one, Nat.one_mul, PV.rep_none, List.replicate_zero, List.all_cons, List.all_nil, cond_true, cond_false, Bool.and_true, Bool.true_and, Bool.and_false, Bool.false_and, Bool.not_true, Bool.not_false, Bool.not_not, if_true, if_false, ite_true, ite_false, true_and, and_true, true_implies, false_implies, reduceCtorEq, Nat.reduceAdd, Nat.reduceSub, Nat.reduceLT, Nat.reduceLeDiff, Bool.false_eq_true, decide_eq_true_eq, decide_eq_false_iff_not, Bool.not_eq_true, Bool.not_eq_false, Bool.not_eq_true', Bool.not_eq_false', Bool.true_eq_false, Option.map_some, Option.map_none, decide_true, decide_false, not_true_eq_false, not_false_eq_true, implies_true, forall_const, eq_self, Nat.reduceEqDiff, beq_self_eq_true, ne_eq, Int.reduceEq, Int.reduceNe, Int.reduceLT, Int.reduceLE, Int.reduceGT, Int.reduceGE, Int.reduceToNat, Int.reduceAdd, Int.reduceNeg, Nat.reduceLT, Nat.reduceLeDiff, Nat.reduceAdd, Nat.reduceMul, false_and, and_false, and_self, true_and, and_true, false_implies, PV.at0, PV.at1, PV.at2, PV.at3, PV.at4, PV.at5, Option.some.injEq, exists_eq_left', exists_eq_left, pCell]
  have q1 : (0 : Int) < (bd : Int) + 1 := by omega
  have q2 := Int.emod_nonneg (cellI ns 5) (show (bd : Int) + 1 ≠ 0 by omega)
  have q3 := Int.emod_lt_of_pos (cellI ns 5) q1
  obtain ⟨d, hd2⟩ : ∃ d : Nat, cellI ns 5 % ((bd : Int) + 1) = (d : Int) := ⟨(cellI ns 5 % ((bd : Int) + 1)).toNat, by omega⟩
  rw [hd2] at q2 q3 ⊢
  refine ⟨q1, by omega, by omega, ?_⟩
  rw [Int.toNat_natCast]
  have hrl : (ring k 0).length = 4 * (k - 1) := by
    unfold ring
    rw [ringU_len]
    omega
  refine PV.loop_rg (lo := 0) (n := d) (fun q g => ∃ f l o8 o14, (vOk f ∧ (∀ i j, ¬ inSq k a b i j → f i j = 0) ∧ l.length ≤ q ∧ rgOk k a b f l) ∧ (PV.ownsOf o8 = [] ∧ PV.ownsOf o14 = []) ∧ g = [some (.obj (PV.scr K ns)), some (.dat (.int k)), some (.dat (.int n)), some (.dat (.int m)), some (.dat (.int a)), some (.dat (.int b)), some (.dat (.int bd)), some (.tab p rs (rowsI (mkR n m f))), o8, none, none, none, none, some (.dat (.list ((ring k 0).map pairD))), o14, none, none, none, none, none]) ⟨f, [], none, none, ⟨hf.1, hf.2.1, Nat.le_refl _, rgk⟩, ⟨rfl, rfl⟩, rfl⟩ ?_ ?_
  · rintro q g hq ⟨f, l, o8, o14, ⟨hv, hz, hl, hr⟩, ⟨h8, h14⟩, rfl⟩ N hN
    simp only [PV.sgI, PV.endsIO, PV.pIoV, PV.pCallIo, PV.pCntT, PV.pLcO, PV.pZipF, PV.pDivMod, PV.ownsOf_dic, PV.pDNew, PV.pDPut, PV.pDGet2, PV.pDGet, PV.pDIn, PV.pLenD, PV.keyD, PV.pSlScr, PV.pZipT, PV.pRngC, PV.pRngV, PV.pSt1, PV.pM0, PV.pZipS, PV.pM1, PV.pJoin, PV.pFmt, PV.pJoined, PV.pJs, PV.pBMV, PV.pCount, PV.pIndex, PV.pSetIx2, PV.pRetT, PV.pLcF, PV.mapL_inj, PV.pVar, PV.pC, PV.pOp, PV.pUn, PV.pII, PV.pII0, PV.pNeg, PV.pSS, PV.pSS0, PV.eqF_int, PV.eqF_str, PV.eqF_bool, PV.eqF_ni, PV.eqF_in, PV.eqF_nn, PV.eqF_si, PV.eqF_is, PV.eqF_sn, PV.eqF_ns, PV.pEq, PV.pEqD, PV.isN, PV.pIsN, PV.Tg.d, PV.Tg.it, PV.Tg.itD, PV.Tg.ok, PV.pCat, PV.pRep, PV.pCatT, PV.pIn, PV.pNil, PV.pCons, PV.Tg.items, PV.pStar, PV.allD, PV.allS, PV.pTup, PV.pLst, PV.pNoPart, PV.pPart, PV.pSlL, PV.pSlT, PV.pCB, PV.pLen, PV.pLenS, PV.pI1, PV.pI10, PV.pI2, PV.pInt1, PV.pBool1, PV.pS1, PV.pListOf, PV.pTupOf, PV.tyD, PV.pIsi, PV.bD, PV.pAndV, PV.pOrV, PV.pNotV, PV.pIfE, PV.pT, PV.pAnd, PV.pOr, PV.pNot, PV.truD, PV.pTru, PV.pNotT, PV.pChain, PV.pThree, PV.Rs.arg, PV.lend, PV.pCall, PV.pCall0, PV.pIt, PV.pItT, PV.pRg1, PV.pRg2, PV.pRg3, PV.pEnum, PV.pZip, PV.pRev, PV.pStr, PV.setR, PV.pName, PV.pTgt, PV.pTgts, PV.pTg, PV.pNext, PV.pBreak, PV.pCont, PV.pSeq, PV.pShr, PV.pShrI, PV.shI, PV.pFgt, PV.fgt, PV.pAsg, PV.pExpr, PV.Rs.ret, PV.pRet, PV.pRetN, PV.pIf, PV.pFld, PV.pAug, PV.pPar, PV.pBM, PV.pBM0, PV.pAppend, PV.pExtend, PV.pExtT, PV.pClear, PV.pReverse, PV.pSetIx, PV.pFor, PV.wipeG, PV.pLc, PV.gG, PV.pGen, PV.pYes, PV.pSum, PV.pRaise, PV.pRaise1, PV.slA, PV.startG, PV.ends, PV.pRevL, PV.pSlS, PV.pSign, PV.pProp, PV.pMake, PV.pMake0, PV.pTry, PV.pRetD, PV.Rs.asD, PV.sg, PV.Sl.r, PV.dV, PV.flatD, PV.owns, PV.ownsOf_no, PV.ownsOf_dat, PV.ownsOf_obj, PV.ownsOf_own, PV.ownsOf_tab, PV.shr, PV.Sl.sh, PV.intsOf_map, PV.intsOf_app, PV.intsOf_nil, PV.intsOf_int, PV.isInts_map, PV.isInts_nil, PV.isInts_int, PV.isInts_mapL, PV.scr_key, PV.isiQ_s, PV.kit_int_int, PV.kit_int_bool, PV.kit_int_str, PV.kit_int_list, PV.kit_int_tuple, PV.kit_bool_int, PV.kit_bool_bool, PV.kit_bool_str, PV.kit_bool_list, PV.kit_bool_tuple, PV.kit_str_int, PV.kit_str_bool, PV.kit_str_str, PV.kit_str_list, PV.kit_str_tuple, PV.kit_list_int, PV.kit_list_bool, PV.kit_list_str, PV.kit_list_list, PV.kit_list_tuple, PV.kit_tuple_int, PV.kit_tuple_bool, PV.kit_tuple_str, PV.kit_tuple_list, PV.kit_tuple_tuple, PV.kit_NoneType_int, PV.kit_NoneType_bool, PV.kit_NoneType_str, PV.kit_NoneType_list, PV.kit_NoneType_tuple, PV.cutD_map, PV.allD_map, PV.allD_mapA, PV.allS_map, PV.allS_mapA, List.getElem?_cons_zero, List.getElem?_cons_succ, List.getElem?_nil, List.set_cons_zero, List.set_cons_succ, List.map_cons, List.map_nil, List.cons_append, List.nil_append, List.append_nil, List.length_cons, List.length_nil, List.length_map, List.length_append, List.length_replicate, PV.flat_rep, Nat.mul_one, Nat.one_mul, PV.rep_none, List.replicate_zero, List.all_cons, List.all_nil, cond_true, cond_false, Bool.and_true, Bool.true_and, Bool.and_false, Bool.false_and, Bool.not_true, Bool.not_false, Bool.not_not, if_true, if_false, ite_true, ite_false, true_and, and_true, true_implies, false_implies, reduceCtorEq, Nat.reduceAdd, Nat.reduceSub, Nat.reduceLT, Nat.reduceLeDiff, Bool.false_eq_true, decide_eq_true_eq, decide_eq_false_iff_not, Bool.not_eq_true, Bool.not_eq_false, Bool.not_eq_true', Bool.not_eq_false', Bool.true_eq_false, Option.map_some, Option.map_none, decide_true, decide_false, not_true_eq_false, not_false_eq_true, implies_true, forall_const, eq_self, Nat.reduceEqDiff, beq_self_eq_true, ne_eq, Int.reduceEq, Int.reduceNe, Int.reduceLT, Int.reduceLE, Int.reduceGT, Int.reduceGE, Int.reduceToNat, Int.reduceAdd, Int.reduceNeg, Nat.reduceLT, Nat.reduceLeDiff, Nat.reduceAdd, Nat.reduceMul, false_and, and_false, and_self, true_and, and_true, false_implies, PV.at0, PV.at1, PV.at2, PV.at3, PV.at4, PV.at5, Option.some.injEq, exists_eq_left', exists_eq_left, pCell, pMix, hrl, h8, h14]
    have w1 : (0 : Int) < ((4 * (k - 1) : Nat) : Int) := by omega
    have w2 : ∀ x : Int, ∃ u : Nat, u < 4 * (k - 1) ∧ x % ((4 * (k - 1) : Nat) : Int) = (u : Int) := fun x => by
      have z1 := Int.emod_nonneg x (show ((4 * (k - 1) : Nat) : Int) ≠ 0 by omega)
      have z2 := Int.emod_lt_of_pos x w1
      exact ⟨(x % ((4 * (k - 1) : Nat) : Int)).toNat, by omega, by omega⟩
    obtain ⟨u0, hu0, eu0⟩ := w2 (mixI (cellI ns 6) (0 + (q : Int)))
    rw [eu0]
    refine ⟨w1, fun g => ∃ u : Nat, u < 4 * (k - 1) ∧ g = [some (.obj (PV.scr K ns)), some (.dat (.int k)), some (.dat (.int n)), some (.dat (.int m)), some (.dat (.int a)), some (.dat (.int b)), some (.dat (.int bd)), some (.tab p rs (rowsI (mkR n m f))), some (.dat (.int (0 + (q : Int)))), none, none, none, none, some (.dat (.list ((ring k 0).map pairD))), some (.dat (.int u)), none, none, none, none, none], ?_, ?_⟩
    · simp only [PV.sgI, PV.endsIO, PV.pIoV, PV.pCallIo, PV.pCntT, PV.pLcO, PV.pZipF, PV.pDivMod, PV.ownsOf_dic, PV.pDNew, PV.pDPut, PV.pDGet2, PV.pDGet, PV.pDIn, PV.pLenD, PV.keyD, PV.pSlScr, PV.pZipT, PV.pRngC, PV.pRngV, PV.pSt1, PV.pM0, PV.pZipS, PV.pM1, PV.pJoin, PV.pFmt, PV.pJoined, PV.pJs, PV.pBMV, PV.pCount, PV.pIndex, PV.pSetIx2, PV.pRetT, PV.pLcF, PV.mapL_inj, PV.pVar, PV.pC, PV.pOp, PV.pUn, PV.pII, PV.pII0, PV.pNeg, PV.pSS, PV.pSS0, PV.eqF_int, PV.eqF_str, PV.eqF_bool, PV.eqF_ni, PV.eqF_in, PV.eqF_nn, PV.eqF_si, PV.eqF_is, PV.eqF_sn, PV.eqF_ns, PV.pEq, PV.pEqD, PV.isN, PV.pIsN, PV.Tg.d, PV.Tg.it, PV.Tg.itD, PV.Tg.ok, PV.pCat, PV.pRep, PV.pCatT, PV.pIn, PV.pNil, PV.pCons, PV.Tg.items, PV.pStar, PV.allD, PV.allS, PV.pTup, PV.pLst, PV.pNoPart, PV.pPart, PV.pSlL, PV.pSlT, PV.pCB, PV.pLen, PV.pLenS, PV.pI1, PV.pI10, PV.pI2, PV.pInt1, PV.pBool1, PV.pS1, PV.pListOf, PV.pTupOf, PV.tyD, PV.pIsi, PV.bD, PV.pAndV, PV.pOrV, PV.pNotV, PV.pIfE, PV.pT, PV.pAnd, PV.pOr, PV.pNot, PV.truD, PV.pTru, PV.pNotT, PV.pChain, PV.pThree, PV.Rs.arg, PV.lend, PV.pCall, PV.pCall0, PV.pIt, PV.pItT, PV.pRg1, PV.pRg2, PV.pRg3, PV.pEnum, PV.pZip, PV.pRev, PV.pStr, PV.setR, PV.pName, PV.pTgt, PV.pTgts, PV.pTg, PV.pNext, PV.pBreak, PV.pCont, PV.pSeq, PV.pShr, PV.pShrI, PV.shI, PV.pFgt, PV.fgt, PV.pAsg, PV.pExpr, PV.Rs.ret, PV.pRet, PV.pRetN, PV.pIf, PV.pFld, PV.pAug, PV.pPar, PV.pBM, PV.pBM0, PV.pAppend, PV.pExtend, PV.pExtT, PV.pClear, PV.pReverse, PV.pSetIx, PV.pFor, PV.wipeG, PV.pLc, PV.gG, PV.pGen, PV.pYes, PV.pSum, PV.pRaise, PV.pRaise1, PV.slA, PV.startG, PV.ends, PV.pRevL, PV.pSlS, PV.pSign, PV.pProp, PV.pMake, PV.pMake0, PV.pTry, PV.pRetD, PV.Rs.asD, PV.sg, PV.Sl.r, PV.dV, PV.flatD, PV.owns, PV.ownsOf_no, PV.ownsOf_dat, PV.ownsOf_obj, PV.ownsOf_own, PV.ownsOf_tab, PV.shr, PV.Sl.sh, PV.intsOf_map, PV.intsOf_app, PV.intsOf_nil, PV.intsOf_int, PV.isInts_map, PV.isInts_nil, PV.isInts_int, PV.isInts_mapL, PV.scr_key, PV.isiQ_s, PV.kit_int_int, PV.kit_int_bool, PV.kit_int_str, PV.kit_int_list, PV.kit_int_tuple, PV.kit_bool_int, PV.kit_bool_bool, PV.kit_bool_str, PV.kit_bool_list, PV.kit_bool_tuple, PV.kit_str_int, PV.kit_str_bool, PV.kit_str_str, PV.kit_str_list, PV.kit_str_tuple, PV.kit_list_int, PV.kit_list_bool, PV.kit_list_str, PV.kit_list_list, PV.kit_list_tuple, PV.kit_tuple_int, PV.kit_tuple_bool, PV.kit_tuple_str, PV.kit_tuple_list, PV.kit_tuple_tuple, PV.kit_NoneType_int, PV.kit_NoneType_bool, PV.kit_NoneType_str, PV.kit_NoneType_list, PV.kit_NoneType_tuple, PV.cutD_map, PV.allD_map, PV.allD_mapA, PV.allS_map, PV.allS_mapA, List.getElem?_cons_zero, List.getElem?_cons_succ, List.getElem?_nil, List.set_cons_zero, List.set_cons_succ, List.map_cons, List.map_nil, List.cons_append, List.nil_append, List.append_nil, List.length_cons, List.length_nil, List.length_map, List.length_append, List.length_replicate, PV.flat_rep, Nat.mul_one, Nat.one_mul, PV.rep_none, List.replicate_zero, List.all_cons, List.all_nil, cond_true, cond_false, Bool.and_true, Bool.true_and, Bool.and_false, Bool.false_and, Bool.not_true, Bool.not_false, Bool.not_not, if_true, if_false, ite_true, ite_false, true_and, and_true, true_implies, false_implies, reduceCtorEq, Nat.reduceAdd, Nat.reduceSub, Nat.reduceLT, Nat.reduceLeDiff, Bool.false_eq_true, decide_eq_true_eq, decide_eq_false_iff_not, Bool.not_eq_true, Bool.not_eq_false, Bool.not_eq_true', Bool.not_eq_false', Bool.true_eq_false, Option.map_some, Option.map_none, decide_true, decide_false, not_true_eq_false, not_false_eq_true, implies_true, forall_const, eq_self, Nat.reduceEqDiff, beq_self_eq_true, ne_eq, Int.reduceEq, Int.reduceNe, Int.reduceLT, Int.reduceLE, Int.reduceGT, Int.reduceGE, Int.reduceToNat, Int.reduceAdd, Int.reduceNeg, Nat.reduceLT, Nat.reduceLeDiff, Nat.reduceAdd, Nat.reduceMul, false_and, and_false, and_self, true_and, and_true, false_implies, PV.at0, PV.at1, PV.at2, PV.at3, PV.at4, PV.at5, Option.some.injEq, exists_eq_left', exists_eq_left, pCell, hrl]
      obtain ⟨u1, hu1, eu1⟩ := w2 (4 * (0 + (q : Int)) + cellI ns 6 % 4)
      rw [eu1]
      exact ⟨⟨by decide, by decide⟩, fun z => ⟨.inl ⟨by omega, by omega⟩, w1, u1, hu1, rfl⟩, fun z => ⟨u0, hu0, rfl⟩⟩
    rintro _ ⟨u, hu, rfl⟩
    have hru : (ring k 0)[u]? = some ((ring k 0).getD u (0, 0)) := by
      rw [List.getD_eq_getElem?_getD, List.getElem?_eq_getElem (by rw [hrl]; exact hu)]
      rfl
    have hrm := ring_mem (List.mem_of_getElem? hru)
    generalize (ring k 0).getD u (0, 0) = c at *
    have hat : atI ((ring k 0).map pairD) (u : Int) = some (pairD c) := PV.at_map (f := pairD) rfl hru
    simp only [PV.sgI, PV.endsIO, PV.pIoV, PV.pCallIo, PV.pCntT, PV.pLcO, PV.pZipF, PV.pDivMod, PV.ownsOf_dic, PV.pDNew, PV.pDPut, PV.pDGet2, PV.pDGet, PV.pDIn, PV.pLenD, PV.keyD, PV.pSlScr, PV.pZipT, PV.pRngC, PV.pRngV, PV.pSt1, PV.pM0, PV.pZipS, PV.pM1, PV.pJoin, PV.pFmt, PV.pJoined, PV.pJs, PV.pBMV, PV.pCount, PV.pIndex, PV.pSetIx2, PV.pRetT, PV.pLcF, PV.mapL_inj, PV.pVar, PV.pC, PV.pOp, PV.pUn, PV.pII, PV.pII0, PV.pNeg, PV.pSS, PV.pSS0, PV.eqF_int, PV.eqF_str, PV.eqF_bool, PV.eqF_ni, PV.eqF_in, PV.eqF_nn, PV.eqF_si, PV.eqF_is, PV.eqF_sn, PV.eqF_ns, PV.pEq, PV.pEqD, PV.isN, PV.pIsN, PV.Tg.d, PV.Tg.it, PV.Tg.itD, PV.Tg.ok, PV.pCat, PV.pRep, PV.pCatT, PV.pIn, PV.pNil, PV.pCons, PV.Tg.items, PV.pStar, PV.allD, PV.allS, PV.pTup, PV.pLst, PV.pNoPart, PV.pPart, PV.pSlL, PV.pSlT, PV.pCB, PV.pLen, PV.pLenS, PV.pI1, PV.pI10, PV.pI2, PV.pInt1, PV.pBool1, PV.pS1, PV.pListOf, PV.pTupOf, PV.tyD, PV.pIsi, PV.bD, PV.pAndV, PV.pOrV, PV.pNotV, PV.pIfE, PV.pT, PV.pAnd, PV.pOr, PV.pNot, PV.truD, PV.pTru, PV.pNotT, PV.pChain, PV.pThree, PV.Rs.arg, PV.lend, PV.pCall, PV.pCall0, PV.pIt, PV.pItT, PV.pRg1, PV.pRg2, PV.pRg3, PV.pEnum, PV.pZip, PV.pRev, PV.pStr, PV.setR, PV.pName, PV.pTgt, PV.pTgts, PV.pTg, PV.pNext, PV.pBreak, PV.pCont, PV.pSeq, PV.pShr, PV.pShrI, PV.shI, PV.pFgt, PV.fgt, PV.pAsg, PV.pExpr, PV.Rs.ret, PV.pRet, PV.pRetN, PV.pIf, PV.pFld, PV.pAug, PV.pPar, PV.pBM, PV.pBM0, PV.pAppend, PV.pExtend, PV.pExtT, PV.pClear, PV.pReverse, PV.pSetIx, PV.pFor, PV.wipeG, PV.pLc, PV.gG, PV.pGen, PV.pYes, PV.pSum, PV.pRaise, PV.pRaise1, PV.slA, PV.startG, PV.ends, PV.pRevL, PV.pSlS, PV.pSign, PV.pProp, PV.pMake, PV.pMake0, PV.pTry, PV.pRetD, PV.Rs.asD, PV.sg, PV.Sl.r, PV.dV, PV.flatD, PV.owns, PV.ownsOf_no, PV.ownsOf_dat, PV.ownsOf_obj, PV.ownsOf_own, PV.ownsOf_tab, PV.shr, PV.Sl.sh, PV.intsOf_map, PV.intsOf_app, PV.intsOf_nil, PV.intsOf_int, PV.isInts_map, PV.isInts_nil, PV.isInts_int, PV.isInts_mapL, PV.scr_key, PV.isiQ_s, PV.kit_int_int, PV.kit_int_bool, PV.kit_int_str, PV.kit_int_list, PV.kit_int_tuple, PV.kit_bool_int, PV.kit_bool_bool, PV.kit_bool_str, PV.kit_bool_list, PV.kit_bool_tuple, PV.kit_str_int, PV.kit_str_bool, PV.kit_str_str, PV.kit_str_list, PV.kit_str_tuple, PV.kit_list_int, PV.kit_list_bool, PV.kit_list_str, PV.kit_list_list, PV.kit_list_tuple, PV.kit_tuple_int, PV.kit_tuple_bool, PV.kit_tuple_str, PV.kit_tuple_list, PV.kit_tuple_tuple, PV.kit_NoneType_int, PV.kit_NoneType_bool, PV.kit_NoneType_str, PV.kit_NoneType_list, PV.kit_NoneType_tuple, PV.cutD_map, PV.allD_map, PV.allD_mapA, PV.allS_map, PV.allS_mapA, List.getElem?_cons_zero, List.getElem?_cons_succ, List.getElem?_nil, List.set_cons_zero, List.set_cons_succ, List.map_cons, List.map_nil, List.cons_append, List.nil_append, List.append_nil, List.length_cons, List.length_nil, List.length_map, List.length_append, List.length_replicate, PV.flat_rep, Nat.mul_one, Nat.one_mul, PV.rep_none, List.replicate_zero, List.all_cons, List.all_nil, cond_true, cond_false, Bool.and_true, Bool.true_and, Bool.and_false, Bool.false_and, Bool.not_true, Bool.not_false, Bool.not_not, if_true, if_false, ite_true, ite_false, true_and, and_true, true_implies, false_implies, reduceCtorEq, Nat.reduceAdd, Nat.reduceSub, Nat.reduceLT, Nat.reduceLeDiff, Bool.false_eq_true, decide_eq_true_eq, decide_eq_false_iff_not, Bool.not_eq_true, Bool.not_eq_false, Bool.not_eq_true', Bool.not_eq_false', Bool.true_eq_false, Option.map_some, Option.map_none, decide_true, decide_false, not_true_eq_false, not_false_eq_true, implies_true, forall_const, eq_self, Nat.reduceEqDiff, beq_self_eq_true, ne_eq, Int.reduceEq, Int.reduceNe, Int.reduceLT, Int.reduceLE, Int.reduceGT, Int.reduceGE, Int.reduceToNat, Int.reduceAdd, Int.reduceNeg, Nat.reduceLT, Nat.reduceLeDiff, Nat.reduceAdd, Nat.reduceMul, false_and, and_false, and_self, true_and, and_true, false_implies, PV.at0, PV.at1, PV.at2, PV.at3, PV.at4, PV.at5, Option.some.injEq, exists_eq_left', exists_eq_left, pCell, pMix, hat, pairD]
    have eI : (a : Int) + (c.1 : Int) = ((a + c.1 : Nat) : Int) := by omega
    have eJ : (b : Int) + (c.2 : Int) = ((b + c.2 : Nat) : Int) := by omega
    simp only [eI, eJ]
    have hv2 : 0 ≤ 2 * (mixI (cellI ns 6) (0 + (q : Int) + 99) % 2) ∧ 2 * (mixI (cellI ns 6) (0 + (q : Int) + 99) % 2) ≤ 2 := by omega
    generalize 2 * (mixI (cellI ns 6) (0 + (q : Int) + 99) % 2) = v at *
    obtain ⟨row, g1, g2, g3⟩ := rect_put (f := f) (v := v) (show a + c.1 < n by omega) (show b + c.2 < m by omega)
    refine ⟨.inl ⟨by omega, by omega⟩, a + c.1, row, Evl.ixN_nat (by rw [rowsI_len, mkR_len]; omega), g1, b + c.2, by rw [g2]; exact Evl.ixN_nat (by omega), ?_⟩
    rw [g3]
    exact hN _ ⟨upd2 f (a + c.1) (b + c.2) v, l ++ [(a + c.1, b + c.2)], some (.dat (.int (0 + (q : Int)))), some (.dat (.int u)), ⟨v_upd hv hv2, z_upd hz hrm.1 hrm.2, by rw [List.length_append]; show _ + 1 ≤ _; omega, rg_upd hr⟩, ⟨rfl, rfl⟩, rfl⟩
  rintro g ⟨f, l, o8, o14, ⟨hv, hz, hl, hr⟩, ⟨h8, h14⟩, rfl⟩
  refine ⟨fun g => ∃ f o14, vOk f ∧ gGeo k a b bd f ∧ PV.ownsOf o14 = [] ∧ g = [some (.obj (PV.scr K ns)), some (.dat (.int k)), some (.dat (.int n)), some (.dat (.int m)), some (.dat (.int a)), some (.dat (.int b)), none, some (.tab p rs (rowsI (mkR n m f))), none, none, none, none, none, none, o14, none, none, none, none, none], ?_, ?_⟩
  · simp only [PV.sgI, PV.endsIO, PV.pIoV, PV.pCallIo, PV.pCntT, PV.pLcO, PV.pZipF, PV.pDivMod, PV.ownsOf_dic, PV.pDNew, PV.pDPut, PV.pDGet2, PV.pDGet, PV.pDIn, PV.pLenD, PV.keyD, PV.pSlScr, PV.pZipT, PV.pRngC, PV.pRngV, PV.pSt1, PV.pM0, PV.pZipS, PV.pM1, PV.pJoin, PV.pFmt, PV.pJoined, PV.pJs, PV.pBMV, PV.pCount, PV.pIndex, PV.pSetIx2, PV.pRetT, PV.pLcF, PV.mapL_inj, PV.pVar, PV.pC, PV.pOp, PV.pUn, PV.pII, PV.pII0, PV.pNeg, PV.pSS, PV.pSS0, PV.eqF_int, PV.eqF_str, PV.eqF_bool, PV.eqF_ni, PV.eqF_in, PV.eqF_nn, PV.eqF_si, PV.eqF_is, PV.eqF_sn, PV.eqF_ns, PV.pEq, PV.pEqD, PV.isN, PV.pIsN, PV.Tg.d, PV.Tg.it, PV.Tg.itD, PV.Tg.ok, PV.pCat, PV.pRep, PV.pCatT, PV.pIn, PV.pNil, PV.pCons, PV.Tg.items, PV.pStar, PV.allD, PV.allS, PV.pTup, PV.pLst, PV.pNoPart, PV.pPart, PV.pSlL, PV.pSlT, PV.pCB, PV.pLen, PV.pLenS, PV.pI1, PV.pI10, PV.pI2, PV.pInt1, PV.pBool1, PV.pS1, PV.pListOf, PV.pTupOf, PV.tyD, PV.pIsi, PV.bD, PV.pAndV, PV.pOrV, PV.pNotV, PV.pIfE, PV.pT, PV.pAnd, PV.pOr, PV.pNot, PV.truD, PV.pTru, PV.pNotT, PV.pChain, PV.pThree, PV.Rs.arg, PV.lend, PV.pCall, PV.pCall0, PV.pIt, PV.pItT, PV.pRg1, PV.pRg2, PV.pRg3, PV.pEnum, PV.pZip, PV.pRev, PV.pStr, PV.setR, PV.pName, PV.pTgt, PV.pTgts, PV.pTg, PV.pNext, PV.pBreak, PV.pCont, PV.pSeq, PV.pShr, PV.pShrI, PV.shI, PV.pFgt, PV.fgt, PV.pAsg, PV.pExpr, PV.Rs.ret, PV.pRet, PV.pRetN, PV.pIf, PV.pFld, PV.pAug, PV.pPar, PV.pBM, PV.pBM0, PV.pAppend, PV.pExtend, PV.pExtT, PV.pClear, PV.pReverse, PV.pSetIx, PV.pFor, PV.wipeG, PV.pLc, PV.gG, PV.pGen, PV.pYes, PV.pSum, PV.pRaise, PV.pRaise1, PV.slA, PV.startG, PV.ends, PV.pRevL, PV.pSlS, PV.pSign, PV.pProp, PV.pMake, PV.pMake0, PV.pTry, PV.pRetD, PV.Rs.asD, PV.sg, PV.Sl.r, PV.dV, PV.flatD, PV.owns, PV.ownsOf_no, PV.ownsOf_dat, PV.ownsOf_obj, PV.ownsOf_own, PV.ownsOf_tab, PV.shr, PV.Sl.sh, PV.intsOf_map, PV.intsOf_app, PV.intsOf_nil, PV.intsOf_int, PV.isInts_map, PV.isInts_nil, PV.isInts_int, PV.isInts_mapL, PV.scr_key, PV.isiQ_s, PV.kit_int_int, PV.kit_int_bool, PV.kit_int_str, PV.kit_int_list, PV.kit_int_tuple, PV.kit_bool_int, PV.kit_bool_bool, PV.kit_bool_str, PV.kit_bool_list, PV.kit_bool_tuple, PV.kit_str_int, PV.kit_str_bool, PV.kit_str_str, PV.kit_str_list, PV.kit_str_tuple, PV.kit_list_int, PV.kit_list_bool, PV.kit_list_str, PV.kit_list_list, PV.kit_list_tuple, PV.kit_tuple_int, PV.kit_tuple_bool, PV.kit_tuple_str, PV.kit_tuple_list, PV.kit_tuple_tuple, PV.kit_NoneType_int, PV.kit_NoneType_bool, PV.kit_NoneType_str, PV.kit_NoneType_list, PV.kit_NoneType_tuple, PV.cutD_map, PV.allD_map, PV.allD_mapA, PV.allS_map, PV.allS_mapA, List.getElem?_cons_zero, List.getElem?_cons_succ, List.getElem?_nil, List.set_cons_zero, List.set_cons_succ, List.map_cons, List.map_nil, List.cons_append, List.nil_append, List.append_nil, List.length_cons, List.length_nil, List.length_map, List.length_append, List.length_replicate, PV.flat_rep, Nat.mul_one, Nat.one_mul, PV.rep_none, List.replicate_zero, List.all_cons, List.all_nil, cond_true, cond_false, Bool.and_true, Bool.true_and, Bool.and_false, Bool.false_and, Bool.not_true, Bool.not_false, Bool.not_not, if_true, if_false, ite_true, ite_false, true_and, and_true, true_implies, false_implies, reduceCtorEq, Nat.reduceAdd, Nat.reduceSub, Nat.reduceLT, Nat.reduceLeDiff, Bool.false_eq_true, decide_eq_true_eq, decide_eq_false_iff_not, Bool.not_eq_true, Bool.not_eq_false, Bool.not_eq_true', Bool.not_eq_false', Bool.true_eq_false, Option.map_some, Option.map_none, decide_true, decide_false, not_true_eq_false, not_false_eq_true, implies_true, forall_const, eq_self, Nat.reduceEqDiff, beq_self_eq_true, ne_eq, Int.reduceEq, Int.reduceNe, Int.reduceLT, Int.reduceLE, Int.reduceGT, Int.reduceGE, Int.reduceToNat, Int.reduceAdd, Int.reduceNeg, Nat.reduceLT, Nat.reduceLeDiff, Nat.reduceAdd, Nat.reduceMul, false_and, and_false, and_self, true_and, and_true, false_implies, PV.at0, PV.at1, PV.at2, PV.at3, PV.at4, PV.at5, Option.some.injEq, exists_eq_left', exists_eq_left, pCell, h8, h14]
    have y2 := Int.emod_nonneg (cellI ns 8) (show (bd : Int) + 1 ≠ 0 by omega)
    have y3 := Int.emod_lt_of_pos (cellI ns 8) q1
    refine ⟨p, rs, rfl, q1, _, p, rs, rfl, rfl, rfl, ?_⟩
    unfold pLDirt
    dsimp only
    refine ⟨n, m, f, k, a, b, (cellI ns 8 % ((bd : Int) + 1)).toNat, rfl, rfl, rfl, rfl, by omega, by omega, by omega, by omega, by omega, by omega, by omega, fun f' l2 hl2 hd2 _ => ?_⟩
    obtain ⟨z1, z2⟩ := dirt_geo (d := bd) (by omega) hv hz (by omega) (by omega) hr hd2
    exact ⟨f', o14, z1, z2, h14, rfl⟩
  rintro _ ⟨f, o14, hv, hg, h14, rfl⟩
  simp only [PV.sgI, PV.endsIO, PV.pIoV, PV.pCallIo, PV.pCntT, PV.pLcO, PV.pZipF, PV.pDivMod, PV.ownsOf_dic, PV.pDNew, PV.pDPut, PV.pDGet2, PV.pDGet, PV.pDIn, PV.pLenD, PV.keyD, PV.pSlScr, PV.pZipT, PV.pRngC, PV.pRngV, PV.pSt1, PV.pM0, PV.pZipS, PV.pM1, PV.pJoin, PV.pFmt, PV.pJoined, PV.pJs, PV.pBMV, PV.pCount, PV.pIndex, PV.pSetIx2, PV.pRetT, PV.pLcF, PV.mapL_inj, PV.pVar, PV.pC, PV.pOp, PV.pUn, PV.pII, PV.pII0, PV.pNeg, PV.pSS, PV.pSS0, PV.eqF_int, PV.eqF_str, PV.eqF_bool, PV.eqF_ni, PV.eqF_in, PV.eqF_nn, PV.eqF_si, PV.eqF_is, PV.eqF_sn, PV.eqF_ns, PV.pEq, PV.pEqD, PV.isN, PV.pIsN, PV.Tg.d, PV.Tg.it, PV.Tg.itD, PV.Tg.ok, PV.pCat, PV.pRep, PV.pCatT, PV.pIn, PV.pNil, PV.pCons, PV.Tg.items, PV.pStar, PV.allD, PV.allS, PV.pTup, PV.pLst, PV.pNoPart, PV.pPart, PV.pSlL, PV.pSlT, PV.pCB, PV.pLen, PV.pLenS, PV.pI1, PV.pI10, PV.pI2, PV.pInt1, PV.pBool1, PV.pS1, PV.pListOf, PV.pTupOf, PV.tyD, PV.pIsi, PV.bD, PV.pAndV, PV.pOrV, PV.pNotV, PV.pIfE, PV.pT, PV.pAnd, PV.pOr, PV.pNot, PV.truD, PV.pTru, PV.pNotT, PV.pChain, PV.pThree, PV.Rs.arg, PV.lend, PV.pCall, PV.pCall0, PV.pIt, PV.pItT, PV.pRg1, PV.pRg2, PV.pRg3, PV.pEnum, PV.pZip, PV.pRev, PV.pStr, PV.setR, PV.pName, PV.pTgt, PV.pTgts, PV.pTg, PV.pNext, PV.pBreak, PV.pCont, PV.pSeq, PV.pShr, PV.pShrI, PV.shI, PV.pFgt, PV.fgt, PV.pAsg, PV.pExpr, PV.Rs.ret, PV.pRet, PV.pRetN, PV.pIf, PV.pFld, PV.pAug, PV.pPar, PV.pBM, PV.pBM0, PV.pAppend, PV.pExtend, PV.pExtT, PV.pClear, PV.pReverse, PV.pSetIx, PV.pFor, PV.wipeG, PV.pLc, PV.gG, PV.pGen, PV.pYes, PV.pSum, PV.pRaise, PV.pRaise1, PV.slA, PV.startG, PV.ends, PV.pRevL, PV.pSlS, PV.pSign, PV.pProp, PV.pMake, PV.pMake0, PV.pTry, PV.pRetD, PV.Rs.asD, PV.sg, PV.Sl.r, PV.dV, PV.flatD, PV.owns, PV.ownsOf_no, PV.ownsOf_dat, PV.ownsOf_obj, PV.ownsOf_own, PV.ownsOf_tab, PV.shr, PV.Sl.sh, PV.intsOf_map, PV.intsOf_app, PV.intsOf_nil, PV.intsOf_int, PV.isInts_map, PV.isInts_nil, PV.isInts_int, PV.isInts_mapL, PV.scr_key, PV.isiQ_s, PV.kit_int_int, PV.kit_int_bool, PV.kit_int_str, PV.kit_int_list, PV.kit_int_tuple, PV.kit_bool_int, PV.kit_bool_bool, PV.kit_bool_str, PV.kit_bool_list, PV.kit_bool_tuple, PV.kit_str_int, PV.kit_str_bool, PV.kit_str_str, PV.kit_str_list, PV.kit_str_tuple, PV.kit_list_int, PV.kit_list_bool, PV.kit_list_str, PV.kit_list_list, PV.kit_list_tuple, PV.kit_tuple_int, PV.kit_tuple_bool, PV.kit_tuple_str, PV.kit_tuple_list, PV.kit_tuple_tuple, PV.kit_NoneType_int, PV.kit_NoneType_bool, PV.kit_NoneType_str, PV.kit_NoneType_list, PV.kit_NoneType_tuple, PV.cutD_map, PV.allD_map, PV.allD_mapA, PV.allS_map, PV.allS_mapA, List.getElem?_cons_zero, List.getElem?_cons_succ, List.getElem?_nil, List.set_cons_zero, List.set_cons_succ, List.map_cons, List.map_nil, List.cons_append, List.nil_append, List.append_nil, List.length_cons, List.length_nil, List.length_map, List.length_append, List.length_replicate, PV.flat_rep, Nat.mul_one, Nat.one_mul, PV.rep_none, List.replicate_zero, List.all_cons, List.all_nil, cond_true, cond_false, Bool.and_true, Bool.true_and, Bool.and_false, Bool.false_and, Bool.not_true, Bool.not_false, Bool.not_not, if_true, if_false, ite_true, ite_false, true_and, and_true, true_implies, false_implies, reduceCtorEq, Nat.reduceAdd, Nat.reduceSub, Nat.reduceLT, Nat.reduceLeDiff, Bool.false_eq_true, decide_eq_true_eq, decide_eq_false_iff_not, Bool.not_eq_true, Bool.not_eq_false, Bool.not_eq_true', Bool.not_eq_false', Bool.true_eq_false, Option.map_some, Option.map_none, decide_true, decide_false, not_true_eq_false, not_false_eq_true, implies_true, forall_const, eq_self, Nat.reduceEqDiff, beq_self_eq_true, ne_eq, Int.reduceEq, Int.reduceNe, Int.reduceLT, Int.reduceLE, Int.reduceGT, Int.reduceGE, Int.reduceToNat, Int.reduceAdd, Int.reduceNeg, Nat.reduceLT, Nat.reduceLeDiff, Nat.reduceAdd, Nat.reduceMul, false_and, and_false, and_self, true_and, and_true, false_implies, PV.at0, PV.at1, PV.at2, PV.at3, PV.at4, PV.at5, Option.some.injEq, exists_eq_left', exists_eq_left, pCell, h14]
  generalize decide (cellI ns 9 % 4 = 1) = wild
  refine ⟨fun g => ∃ f, vOk f ∧ (wild = false → gGeo k a b bd f) ∧ g = [none, some (.dat (.int k)), none, none, some (.dat (.int a)), some (.dat (.int b)), none, some (.tab p rs (rowsI (mkR n m f))), none, none, none, none, none, none, none, some (.dat (.bool wild)), none, none, none, none], ?_, ?_⟩
  · simp only [PV.sgI, PV.endsIO, PV.pIoV, PV.pCallIo, PV.pCntT, PV.pLcO, PV.pZipF, PV.pDivMod, PV.ownsOf_dic, PV.pDNew, PV.pDPut, PV.pDGet2, PV.pDGet, PV.pDIn, PV.pLenD, PV.keyD, PV.pSlScr, PV.pZipT, PV.pRngC, PV.pRngV, PV.pSt1, PV.pM0, PV.pZipS, PV.pM1, PV.pJoin, PV.pFmt, PV.pJoined, PV.pJs, PV.pBMV, PV.pCount, PV.pIndex, PV.pSetIx2, PV.pRetT, PV.pLcF, PV.mapL_inj, PV.pVar, PV.pC, PV.pOp, PV.pUn, PV.pII, PV.pII0, PV.pNeg, PV.pSS, PV.pSS0, PV.eqF_int, PV.eqF_str, PV.eqF_bool, PV.eqF_ni, PV.eqF_in, PV.eqF_nn, PV.eqF_si, PV.eqF_is, PV.eqF_sn, PV.eqF_ns, PV.pEq, PV.pEqD, PV.isN, PV.pIsN, PV.Tg.d, PV.Tg.it, PV.Tg.itD, PV.Tg.ok, PV.pCat, PV.pRep, PV.pCatT, PV.pIn, PV.pNil, PV.pCons, PV.Tg.items, PV.pStar, PV.allD, PV.allS, PV.pTup, PV.pLst, PV.pNoPart, PV.pPart, PV.pSlL, PV.pSlT, PV.pCB, PV.pLen, PV.pLenS, PV.pI1, PV.pI10, PV.pI2, PV.pInt1, PV.pBool1, PV.pS1, PV.pListOf, PV.pTupOf, PV.tyD, PV.pIsi, PV.bD, PV.pAndV, PV.pOrV, PV.pNotV, PV.pIfE, PV.pT, PV.pAnd, PV.pOr, PV.pNot, PV.truD, PV.pTru, PV.pNotT, PV.pChain, PV.pThree, PV.Rs.arg, PV.lend, PV.pCall, PV.pCall0, PV.pIt, PV.pItT, PV.pRg1, PV.pRg2, PV.pRg3, PV.pEnum, PV.pZip, PV.pRev, PV.pStr, PV.setR, PV.pName, PV.pTgt, PV.pTgts, PV.pTg, PV.pNext, PV.pBreak, PV.pCont, PV.pSeq, PV.pShr, PV.pShrI, PV.shI, PV.pFgt, PV.fgt, PV.pAsg, PV.pExpr, PV.Rs.ret, PV.pRet, PV.pRetN, PV.pIf, PV.pFld, PV.pAug, PV.pPar, PV.pBM, PV.pBM0, PV.pAppend, PV.pExtend, PV.pExtT, PV.pClear, PV.pReverse, PV.pSetIx, PV.pFor, PV.wipeG, PV.pLc, PV.gG, PV.pGen, PV.pYes, PV.pSum, PV.pRaise, PV.pRaise1, PV.slA, PV.startG, PV.ends, PV.pRevL, PV.pSlS, PV.pSign, PV.pProp, PV.pMake, PV.pMake0, PV.pTry, PV.pRetD, PV.Rs.asD, PV.sg, PV.Sl.r, PV.dV, PV.flatD, PV.owns, PV.ownsOf_no, PV.ownsOf_dat, PV.ownsOf_obj, PV.ownsOf_own, PV.ownsOf_tab, PV.shr, PV.Sl.sh, PV.intsOf_map, PV.intsOf_app, PV.intsOf_nil, PV.intsOf_int, PV.isInts_map, PV.isInts_nil, PV.isInts_int, PV.isInts_mapL, PV.scr_key, PV.isiQ_s, PV.kit_int_int, PV.kit_int_bool, PV.kit_int_str, PV.kit_int_list, PV.kit_int_tuple, PV.kit_bool_int, PV.kit_bool_bool, PV.kit_bool_str, PV.kit_bool_list, PV.kit_bool_tuple, PV.kit_str_int, PV.kit_str_bool, PV.kit_str_str, PV.kit_str_list, PV.kit_str_tuple, PV.kit_list_int, PV.kit_list_bool, PV.kit_list_str, PV.kit_list_list, PV.kit_list_tuple, PV.kit_tuple_int, PV.kit_tuple_bool, PV.kit_tuple_str, PV.kit_tuple_list, PV.kit_tuple_tuple, PV.kit_NoneType_int, PV.kit_NoneType_bool, PV.kit_NoneType_str, PV.kit_NoneType_list, PV.kit_NoneType_tuple, PV.cutD_map, PV.allD_map, PV.allD_mapA, PV.allS_map, PV.allS_mapA, List.getElem?_cons_zero, List.getElem?_cons_succ, List.getElem?_nil, List.set_cons_zero, List.set_cons_succ, List.map_cons, List.map_nil, List.cons_append, List.nil_append, List.append_nil, List.length_cons, List.length_nil, List.length_map, List.length_append, List.length_replicate, PV.flat_rep, Nat.mul_one, Nat.one_mul, PV.rep_none, List.replicate_zero, List.all_cons, List.all_nil, cond_true, cond_false, Bool.and_true, Bool.true_and, Bool.and_false, Bool.false_and, Bool.not_true, Bool.not_false, Bool.not_not, if_true, if_false, ite_true, ite_false, true_and, and_true, true_implies, false_implies, reduceCtorEq, Nat.reduceAdd, Nat.reduceSub, Nat.reduceLT, Nat.reduceLeDiff, Bool.false_eq_true, decide_eq_true_eq, decide_eq_false_iff_not, Bool.not_eq_true, Bool.not_eq_false, Bool.not_eq_true', Bool.not_eq_false', Bool.true_eq_false, Option.map_some, Option.map_none, decide_true, decide_false, not_true_eq_false, not_false_eq_true, implies_true, forall_const, eq_self, Nat.reduceEqDiff, beq_self_eq_true, ne_eq, Int.reduceEq, Int.reduceNe, Int.reduceLT, Int.reduceLE, Int.reduceGT, Int.reduceGE, Int.reduceToNat, Int.reduceAdd, Int.reduceNeg, Nat.reduceLT, Nat.reduceLeDiff, Nat.reduceAdd, Nat.reduceMul, false_and, and_false, and_self, true_and, and_true, false_implies, PV.at0, PV.at1, PV.at2, PV.at3, PV.at4, PV.at5, Option.some.injEq, exists_eq_left', exists_eq_left, h14]
    refine ⟨fun hw => ?_, fun hw => ⟨f, hv, fun _ => hg, rfl⟩⟩
    refine PV.loop_inv (inj := PyData.int) _ (fun _ g => ∃ f o14 o16, vOk f ∧ (PV.ownsOf o14 = [] ∧ PV.ownsOf o16 = []) ∧ g = [some (.obj (PV.scr K ns)), some (.dat (.int k)), some (.dat (.int n)), some (.dat (.int m)), some (.dat (.int a)), some (.dat (.int b)), none, some (.tab p rs (rowsI (mkR n m f))), none, none, none, none, none, none, o14, some (.dat (.bool wild)), o16, none, none, none]) ⟨f, o14, none, hv, ⟨h14, rfl⟩, rfl⟩ ?_ ?_
    · rintro pre x post g e ⟨f, o14, o16, hv, ⟨h14, h16⟩, rfl⟩ N hN
      have hnm : (n : Int) * (m : Int) = ((n * m : Nat) : Int) := (Int.natCast_mul n m).symm
      have hnm0 : 0 < n * m := Nat.mul_pos (by omega) (by omega)
      have y2 := Int.emod_nonneg x (show ((n * m : Nat) : Int) ≠ 0 by omega)
      have y3 := Int.emod_lt_of_pos x (show (0 : Int) < ((n * m : Nat) : Int) by omega)
      obtain ⟨u, hu⟩ : ∃ u : Nat, x % ((n * m : Nat) : Int) = (u : Int) := ⟨(x % ((n * m : Nat) : Int)).toNat, by omega⟩
      rw [hu] at y2 y3
      have hu1 : u / m < n := Nat.div_lt_of_lt_mul (by rw [Nat.mul_comm]; omega)
      have hu2 : u % m < m := Nat.mod_lt _ (by omega)
      have eI : (u : Int) / (m : Int) = ((u / m : Nat) : Int) := (Int.natCast_ediv u m).symm
      have eJ : (u : Int) % (m : Int) = ((u % m : Nat) : Int) := (Int.natCast_emod u m).symm
      simp only [PV.sgI, PV.endsIO, PV.pIoV, PV.pCallIo, PV.pCntT, PV.pLcO, PV.pZipF, PV.pDivMod, PV.ownsOf_dic, PV.pDNew, PV.pDPut, PV.pDGet2, PV.pDGet, PV.pDIn, PV.pLenD, PV.keyD, PV.pSlScr, PV.pZipT, PV.pRngC, PV.pRngV, PV.pSt1, PV.pM0, PV.pZipS, PV.pM1, PV.pJoin, PV.pFmt, PV.pJoined, PV.pJs, PV.pBMV, PV.pCount, PV.pIndex, PV.pSetIx2, PV.pRetT, PV.pLcF, PV.mapL_inj, PV.pVar, PV.pC, PV.pOp, PV.pUn, PV.pII, PV.pII0, PV.pNeg, PV.pSS, PV.pSS0, PV.eqF_int, PV.eqF_str, PV.eqF_bool, PV.eqF_ni, PV.eqF_in, PV.eqF_nn, PV.eqF_si, PV.eqF_is, PV.eqF_sn, PV.eqF_ns, PV.pEq, PV.pEqD, PV.isN, PV.pIsN, PV.Tg.d, PV.Tg.it, PV.Tg.itD, PV.Tg.ok, PV.pCat, PV.pRep, PV.pCatT, PV.pIn, PV.pNil, PV.pCons, PV.Tg.items, PV.pStar, PV.allD, PV.allS, PV.pTup, PV.pLst, PV.pNoPart, PV.pPart, PV.pSlL, PV.pSlT, PV.pCB, PV.pLen, PV.pLenS, PV.pI1, PV.pI10, PV.pI2, PV.pInt1, PV.pBool1, PV.pS1, PV.pListOf, PV.pTupOf, PV.tyD, PV.pIsi, PV.bD, PV.pAndV, PV.pOrV, PV.pNotV, PV.pIfE, PV.pT, PV.pAnd, PV.pOr, PV.pNot, PV.truD, PV.pTru, PV.pNotT, PV.pChain, PV.pThree, PV.Rs.arg, PV.lend, PV.pCall, PV.pCall0, PV.pIt, PV.pItT, PV.pRg1, PV.pRg2, PV.pRg3, PV.pEnum, PV.pZip, PV.pRev, PV.pStr, PV.setR, PV.pName, PV.pTgt, PV.pTgts, PV.pTg, PV.pNext, PV.pBreak, PV.pCont, PV.pSeq, PV.pShr, PV.pShrI, PV.shI, PV.pFgt, PV.fgt, PV.pAsg, PV.pExpr, PV.Rs.ret, PV.pRet, PV.pRetN, PV.pIf, PV.pFld, PV.pAug, PV.pPar, PV.pBM, PV.pBM0, PV.pAppend, PV.pExtend, PV.pExtT, PV.pClear, PV.pReverse, PV.pSetIx, PV.pFor, PV.wipeG, PV.pLc, PV.gG, PV.pGen, PV.pYes, PV.pSum, PV.pRaise, PV.pRaise1, PV.slA, PV.startG, PV.ends, PV.pRevL, PV.pSlS, PV.pSign, PV.pProp, PV.pMake, PV.pMake0, PV.pTry, PV.pRetD, PV.Rs.asD, PV.sg, PV.Sl.r, PV.dV, PV.flatD, PV.owns, PV.ownsOf_no, PV.ownsOf_dat, PV.ownsOf_obj, PV.ownsOf_own, PV.ownsOf_tab, PV.shr, PV.Sl.sh, PV.intsOf_map, PV.intsOf_app, PV.intsOf_nil, PV.intsOf_int, PV.isInts_map, PV.isInts_nil, PV.isInts_int, PV.isInts_mapL, PV.scr_key, PV.isiQ_s, PV.kit_int_int, PV.kit_int_bool, PV.kit_int_str, PV.kit_int_list, PV.kit_int_tuple, PV.kit_bool_int, PV.kit_bool_bool, PV.kit_bool_str, PV.kit_bool_list, PV.kit_bool_tuple, PV.kit_str_int, PV.kit_str_bool, PV.kit_str_str, PV.kit_str_list, PV.kit_str_tuple, PV.kit_list_int, PV.kit_list_bool, PV.kit_list_str, PV.kit_list_list, PV.kit_list_tuple, PV.kit_tuple_int, PV.kit_tuple_bool, PV.kit_tuple_str, PV.kit_tuple_list, PV.kit_tuple_tuple, PV.kit_NoneType_int, PV.kit_NoneType_bool, PV.kit_NoneType_str, PV.kit_NoneType_list, PV.kit_NoneType_tuple, PV.cutD_map, PV.allD_map, PV.allD_mapA, PV.allS_map, PV.allS_mapA, List.getElem?_cons_zero, List.getElem?_cons_succ, List.getElem?_nil, List.set_cons_zero, List.set_cons_succ, List.map_cons, List.map_nil, List.cons_append, List.nil_append, List.append_nil, List.length_cons, List.length_nil, List.length_map, List.length_append, List.length_replicate, PV.flat_rep, Nat.mul_one, Nat.one_mul, PV.rep_none, List.replicate_zero, List.all_cons, List.all_nil, cond_true, cond_false, Bool.and_true, Bool.true_and, Bool.and_false, Bool.false_and, Bool.not_true, Bool.not_false, Bool.not_not, if_true, if_false, ite_true, ite_false, true_and, and_true, true_implies, false_implies, reduceCtorEq, Nat.reduceAdd, Nat.reduceSub, Nat.reduceLT, Nat.reduceLeDiff, Bool.false_eq_true, decide_eq_true_eq, decide_eq_false_iff_not, Bool.not_eq_true, Bool.not_eq_false, Bool.not_eq_true', Bool.not_eq_false', Bool.true_eq_false, Option.map_some, Option.map_none, decide_true, decide_false, not_true_eq_false, not_false_eq_true, implies_true, forall_const, eq_self, Nat.reduceEqDiff, beq_self_eq_true, ne_eq, Int.reduceEq, Int.reduceNe, Int.reduceLT, Int.reduceLE, Int.reduceGT, Int.reduceGE, Int.reduceToNat, Int.reduceAdd, Int.reduceNeg, Nat.reduceLT, Nat.reduceLeDiff, Nat.reduceAdd, Nat.reduceMul, false_and, and_false, and_self, true_and, and_true, false_implies, PV.at0, PV.at1, PV.at2, PV.at3, PV.at4, PV.at5, Option.some.injEq, exists_eq_left', exists_eq_left, h14, h16, hnm, hu, eI, eJ]
      have hv2 : 0 ≤ x / 4096 % 3 ∧ x / 4096 % 3 ≤ 2 := by omega
      generalize x / 4096 % 3 = v at *
      obtain ⟨row, g1, g2, g3⟩ := rect_put (f := f) (v := v) hu1 hu2
      refine ⟨.inl ⟨by omega, by omega⟩, by omega, ⟨by decide, by decide⟩, ⟨by omega, by omega⟩, u / m, row, Evl.ixN_nat (by rw [rowsI_len, mkR_len]; exact hu1), g1, by omega, u % m, by rw [g2]; exact Evl.ixN_nat hu2, ?_⟩
      rw [g3]
      exact hN _ ⟨upd2 f (u / m) (u % m) v, some (.dat (.int u)), some (.dat (.int x)), v_upd hv hv2, ⟨rfl, rfl⟩, rfl⟩
    · rintro g ⟨f, o14, o16, hv, ⟨h14, h16⟩, rfl⟩
      simp only [PV.sgI, PV.endsIO, PV.pIoV, PV.pCallIo, PV.pCntT, PV.pLcO, PV.pZipF, PV.pDivMod, PV.ownsOf_dic, PV.pDNew, PV.pDPut, PV.pDGet2, PV.pDGet, PV.pDIn, PV.pLenD, PV.keyD, PV.pSlScr, PV.pZipT, PV.pRngC, PV.pRngV, PV.pSt1, PV.pM0, PV.pZipS, PV.pM1, PV.pJoin, PV.pFmt, PV.pJoined, PV.pJs, PV.pBMV, PV.pCount, PV.pIndex, PV.pSetIx2, PV.pRetT, PV.pLcF, PV.mapL_inj, PV.pVar, PV.pC, PV.pOp, PV.pUn, PV.pII, PV.pII0, PV.pNeg, PV.pSS, PV.pSS0, PV.eqF_int, PV.eqF_str, PV.eqF_bool, PV.eqF_ni, PV.eqF_in, PV.eqF_nn, PV.eqF_si, PV.eqF_is, PV.eqF_sn, PV.eqF_ns, PV.pEq, PV.pEqD, PV.isN, PV.pIsN, PV.Tg.d, PV.Tg.it, PV.Tg.itD, PV.Tg.ok, PV.pCat, PV.pRep, PV.pCatT, PV.pIn, PV.pNil, PV.pCons, PV.Tg.items, PV.pStar, PV.allD, PV.allS, PV.pTup, PV.pLst, PV.pNoPart, PV.pPart, PV.pSlL, PV.pSlT, PV.pCB, PV.pLen, PV.pLenS, PV.pI1, PV.pI10, PV.pI2, PV.pInt1, PV.pBool1, PV.pS1, PV.pListOf, PV.pTupOf, PV.tyD, PV.pIsi, PV.bD, PV.pAndV, PV.pOrV, PV.pNotV, PV.pIfE, PV.pT, PV.pAnd, PV.pOr, PV.pNot, PV.truD, PV.pTru, PV.pNotT, PV.pChain, PV.pThree, PV.Rs.arg, PV.lend, PV.pCall, PV.pCall0, PV.pIt, PV.pItT, PV.pRg1, PV.pRg2, PV.pRg3, PV.pEnum, PV.pZip, PV.pRev, PV.pStr, PV.setR, PV.pName, PV.pTgt, PV.pTgts, PV.pTg, PV.pNext, PV.pBreak, PV.pCont, PV.pSeq, PV.pShr, PV.pShrI, PV.shI, PV.pFgt, PV.fgt, PV.pAsg, PV.pExpr, PV.Rs.ret, PV.pRet, PV.pRetN, PV.pIf, PV.pFld, PV.pAug, PV.pPar, PV.pBM, PV.pBM0, PV.pAppend, PV.pExtend, PV.pExtT, PV.pClear, PV.pReverse, PV.pSetIx, PV.pFor, PV.wipeG, PV.pLc, PV.gG, PV.pGen, PV.pYes, PV.pSum, PV.pRaise, PV.pRaise1, PV.slA, PV.startG, PV.ends, PV.pRevL, PV.pSlS, PV.pSign, PV.pProp, PV.pMake, PV.pMake0, PV.pTry, PV.pRetD, PV.Rs.asD, PV.sg, PV.Sl.r, PV.dV, PV.flatD, PV.owns, PV.ownsOf_no, PV.ownsOf_dat, PV.ownsOf_obj, PV.ownsOf_own, PV.ownsOf_tab, PV.shr, PV.Sl.sh, PV.intsOf_map, PV.intsOf_app, PV.intsOf_nil, PV.intsOf_int, PV.isInts_map, PV.isInts_nil, PV.isInts_int, PV.isInts_mapL, PV.scr_key, PV.isiQ_s, PV.kit_int_int, PV.kit_int_bool, PV.kit_int_str, PV.kit_int_list, PV.kit_int_tuple, PV.kit_bool_int, PV.kit_bool_bool, PV.kit_bool_str, PV.kit_bool_list, PV.kit_bool_tuple, PV.kit_str_int, PV.kit_str_bool, PV.kit_str_str, PV.kit_str_list, PV.kit_str_tuple, PV.kit_list_int, PV.kit_list_bool, PV.kit_list_str, PV.kit_list_list, PV.kit_list_tuple, PV.kit_tuple_int, PV.kit_tuple_bool, PV.kit_tuple_str, PV.kit_tuple_list, PV.kit_tuple_tuple, PV.kit_NoneType_int, PV.kit_NoneType_bool, PV.kit_NoneType_str, PV.kit_NoneType_list, PV.kit_NoneType_tuple, PV.cutD_map, PV.allD_map, PV.allD_mapA, PV.allS_map, PV.allS_mapA, List.getElem?_cons_zero, List.getElem?_cons_succ, List.getElem?_nil, List.set_cons_zero, List.set_cons_succ, List.map_cons, List.map_nil, List.cons_append, List.nil_append, List.append_nil, List.length_cons, List.length_nil, List.length_map, List.length_append, List.length_replicate, PV.flat_rep, Nat.mul_one, Nat.one_mul, PV.rep_none, List.replicate_zero, List.all_cons, List.all_nil, cond_true, cond_false, Bool.and_true, Bool.true_and, Bool.and_false, Bool.false_and, Bool.not_true, Bool.not_false, Bool.not_not, if_true, if_false, ite_true, ite_false, true_and, and_true, true_implies, false_implies, reduceCtorEq, Nat.reduceAdd, Nat.reduceSub, Nat.reduceLT, Nat.reduceLeDiff, Bool.false_eq_true, decide_eq_true_eq, decide_eq_false_iff_not, Bool.not_eq_true, Bool.not_eq_false, Bool.not_eq_true', Bool.not_eq_false', Bool.true_eq_false, Option.map_some, Option.map_none, decide_true, decide_false, not_true_eq_false, not_false_eq_true, implies_true, forall_const, eq_self, Nat.reduceEqDiff, beq_self_eq_true, ne_eq, Int.reduceEq, Int.reduceNe, Int.reduceLT, Int.reduceLE, Int.reduceGT, Int.reduceGE, Int.reduceToNat, Int.reduceAdd, Int.reduceNeg, Nat.reduceLT, Nat.reduceLeDiff, Nat.reduceAdd, Nat.reduceMul, false_and, and_false, and_self, true_and, and_true, false_implies, PV.at0, PV.at1, PV.at2, PV.at3, PV.at4, PV.at5, Option.some.injEq, exists_eq_left', exists_eq_left]
      exact ⟨f, hv, fun z => (by rw [hw] at z; cases z), rfl⟩
  rintro _ ⟨f, hv, hg, rfl⟩
  have shq : SeqAt.shaped (.list ((mkR n m f).map dI)) = true := PV.lay_shp (n := 2) (PV.lay_map fun r _ => PV.lay_ints)
  have seq : PyData.eqv (.list ((mkR n m f).map dI)) (.list ((mkR n m f).map dI)) = true := PV.eqv_self shq
  have sht : ∀ x y : Int, SeqAt.shaped (.tuple [.int x, .int y]) = true := fun x y => PV.lay_shp (n := 1) (PV.lay_tup fun d hd => by
    simp only [List.mem_cons, List.not_mem_nil, or_false] at hd
    rcases hd with rfl | rfl <;> exact PV.lay_int)
  have set : ∀ x y : Int, PyData.eqv (.tuple [.int x, .int y]) (.tuple [.int x, .int y]) = true := fun x y => PV.eqv_self (sht x y)
  have hfd : foundP (places f n m k) = .none ∨ ∃ x y : Int, foundP (places f n m k) = .tuple [.int x, .int y] := by
    unfold foundP
    split
    · exact .inr ⟨_, _, rfl⟩
    · exact .inl rfl
  have hfw : wild = false → foundP (places f n m k) = .tuple [.int a, .int b] := fun hw => by
    obtain ⟨l1, l2, b1, b2, r1, r2⟩ := hg hw
    rw [places_one (h := n) (w := m) (by omega) ha1 hb1 (by omega) (by omega) r1 r2]
    rfl
  have hfp : ∀ {PX} {Q : PV.Rs → Prop}, Q (.v .dat (foundP (places f n m k))) → pFindP [.v .dat (.int k), .v .dat (.list ((mkR n m f).map dI))] PX Q := fun {PX Q} q => by
    unfold pFindP
    exact ⟨n, m, f, k, rfl, rfl, by omega, by omega, fun i j _ _ => hv i j, by omega, by omega, by omega, q⟩
  have hfl : ∀ {PX} {Q : PV.Rs → Prop}, Q (.v .dat (foundP (places f n m k))) → pLFound [.v .dat (.list ((mkR n m f).map dI)), .v .dat (.int k)] PX Q := fun {PX Q} q => by
    unfold pLFound
    exact ⟨n, m, f, k, rfl, rfl, by omega, by omega, by omega, by omega, by omega, q⟩
  generalize foundP (places f n m k) = dd at *
  simp only [PV.sgI, PV.endsIO, PV.pIoV, PV.pCallIo, PV.pCntT, PV.pLcO, PV.pZipF, PV.pDivMod, PV.ownsOf_dic, PV.pDNew, PV.pDPut, PV.pDGet2, PV.pDGet, PV.pDIn, PV.pLenD, PV.keyD, PV.pSlScr, PV.pZipT, PV.pRngC, PV.pRngV, PV.pSt1, PV.pM0, PV.pZipS, PV.pM1, PV.pJoin, PV.pFmt, PV.pJoined, PV.pJs, PV.pBMV, PV.pCount, PV.pIndex, PV.pSetIx2, PV.pRetT, PV.pLcF, PV.mapL_inj, PV.pVar, PV.pC, PV.pOp, PV.pUn, PV.pII, PV.pII0, PV.pNeg, PV.pSS, PV.pSS0, PV.eqF_int, PV.eqF_str, PV.eqF_bool, PV.eqF_ni, PV.eqF_in, PV.eqF_nn, PV.eqF_si, PV.eqF_is, PV.eqF_sn, PV.eqF_ns, PV.pEq, PV.pEqD, PV.isN, PV.pIsN, PV.Tg.d, PV.Tg.it, PV.Tg.itD, PV.Tg.ok, PV.pCat, PV.pRep, PV.pCatT, PV.pIn, PV.pNil, PV.pCons, PV.Tg.items, PV.pStar, PV.allD, PV.allS, PV.pTup, PV.pLst, PV.pNoPart, PV.pPart, PV.pSlL, PV.pSlT, PV.pCB, PV.pLen, PV.pLenS, PV.pI1, PV.pI10, PV.pI2, PV.pInt1, PV.pBool1, PV.pS1, PV.pListOf, PV.pTupOf, PV.tyD, PV.pIsi, PV.bD, PV.pAndV, PV.pOrV, PV.pNotV, PV.pIfE, PV.pT, PV.pAnd, PV.pOr, PV.pNot, PV.truD, PV.pTru, PV.pNotT, PV.pChain, PV.pThree, PV.Rs.arg, PV.lend, PV.pCall, PV.pCall0, PV.pIt, PV.pItT, PV.pRg1, PV.pRg2, PV.pRg3, PV.pEnum, PV.pZip, PV.pRev, PV.pStr, PV.setR, PV.pName, PV.pTgt, PV.pTgts, PV.pTg, PV.pNext, PV.pBreak, PV.pCont, PV.pSeq, PV.pShr, PV.pShrI, PV.shI, PV.pFgt, PV.fgt, PV.pAsg, PV.pExpr, PV.Rs.ret, PV.pRet, PV.pRetN, PV.pIf, PV.pFld, PV.pAug, PV.pPar, PV.pBM, PV.pBM0, PV.pAppend, PV.pExtend, PV.pExtT, PV.pClear, PV.pReverse, PV.pSetIx, PV.pFor, PV.wipeG, PV.pLc, PV.gG, PV.pGen, PV.pYes, PV.pSum, PV.pRaise, PV.pRaise1, PV.slA, PV.startG, PV.ends, PV.pRevL, PV.pSlS, PV.pSign, PV.pProp, PV.pMake, PV.pMake0, PV.pTry, PV.pRetD, PV.Rs.asD, PV.sg, PV.Sl.r, PV.dV, PV.flatD, PV.owns, PV.ownsOf_no, PV.ownsOf_dat, PV.ownsOf_obj, PV.ownsOf_own, PV.ownsOf_tab, PV.shr, PV.Sl.sh, PV.intsOf_map, PV.intsOf_app, PV.intsOf_nil, PV.intsOf_int, PV.isInts_map, PV.isInts_nil, PV.isInts_int, PV.isInts_mapL, PV.scr_key, PV.isiQ_s, PV.kit_int_int, PV.kit_int_bool, PV.kit_int_str, PV.kit_int_list, PV.kit_int_tuple, PV.kit_bool_int, PV.kit_bool_bool, PV.kit_bool_str, PV.kit_bool_list, PV.kit_bool_tuple, PV.kit_str_int, PV.kit_str_bool, PV.kit_str_str, PV.kit_str_list, PV.kit_str_tuple, PV.kit_list_int, PV.kit_list_bool, PV.kit_list_str, PV.kit_list_list, PV.kit_list_tuple, PV.kit_tuple_int, PV.kit_tuple_bool, PV.kit_tuple_str, PV.kit_tuple_list, PV.kit_tuple_tuple, PV.kit_NoneType_int, PV.kit_NoneType_bool, PV.kit_NoneType_str, PV.kit_NoneType_list, PV.kit_NoneType_tuple, PV.cutD_map, PV.allD_map, PV.allD_mapA, PV.allS_map, PV.allS_mapA, List.getElem?_cons_zero, List.getElem?_cons_succ, List.getElem?_nil, List.set_cons_zero, List.set_cons_succ, List.map_cons, List.map_nil, List.cons_append, List.nil_append, List.append_nil, List.length_cons, List.length_nil, List.length_map, List.length_append, List.length_replicate, PV.flat_rep, Nat.mul_one, Nat.one_mul, PV.rep_none, List.replicate_zero, List.all_cons, List.all_nil, cond_true, cond_false, Bool.and_true, Bool.true_and, Bool.and_false, Bool.false_and, Bool.not_true, Bool.not_false, Bool.not_not, if_true, if_false, ite_true, ite_false, true_and, and_true, true_implies, false_implies, reduceCtorEq, Nat.reduceAdd, Nat.reduceSub, Nat.reduceLT, Nat.reduceLeDiff, Bool.false_eq_true, decide_eq_true_eq, decide_eq_false_iff_not, Bool.not_eq_true, Bool.not_eq_false, Bool.not_eq_true', Bool.not_eq_false', Bool.true_eq_false, Option.map_some, Option.map_none, decide_true, decide_false, not_true_eq_false, not_false_eq_true, implies_true, forall_const, eq_self, Nat.reduceEqDiff, beq_self_eq_true, ne_eq, Int.reduceEq, Int.reduceNe, Int.reduceLT, Int.reduceLE, Int.reduceGT, Int.reduceGE, Int.reduceToNat, Int.reduceAdd, Int.reduceNeg, Nat.reduceLT, Nat.reduceLeDiff, Nat.reduceAdd, Nat.reduceMul, false_and, and_false, and_self, true_and, and_true, false_implies, PV.at0, PV.at1, PV.at2, PV.at3, PV.at4, PV.at5, Option.some.injEq, exists_eq_left', exists_eq_left, PV.pShrI, rowsI_list]
  refine PV.comp_map (f := dI) _ (mkR n m f) (fun _ _ _ z => z) (by rw [mkR_len]; omega) (fun row hr P hP => ?_) ?_
  · simp only [PV.sgI, PV.endsIO, PV.pIoV, PV.pCallIo, PV.pCntT, PV.pLcO, PV.pZipF, PV.pDivMod, PV.ownsOf_dic, PV.pDNew, PV.pDPut, PV.pDGet2, PV.pDGet, PV.pDIn, PV.pLenD, PV.keyD, PV.pSlScr, PV.pZipT, PV.pRngC, PV.pRngV, PV.pSt1, PV.pM0, PV.pZipS, PV.pM1, PV.pJoin, PV.pFmt, PV.pJoined, PV.pJs, PV.pBMV, PV.pCount, PV.pIndex, PV.pSetIx2, PV.pRetT, PV.pLcF, PV.mapL_inj, PV.pVar, PV.pC, PV.pOp, PV.pUn, PV.pII, PV.pII0, PV.pNeg, PV.pSS, PV.pSS0, PV.eqF_int, PV.eqF_str, PV.eqF_bool, PV.eqF_ni, PV.eqF_in, PV.eqF_nn, PV.eqF_si, PV.eqF_is, PV.eqF_sn, PV.eqF_ns, PV.pEq, PV.pEqD, PV.isN, PV.pIsN, PV.Tg.d, PV.Tg.it, PV.Tg.itD, PV.Tg.ok, PV.pCat, PV.pRep, PV.pCatT, PV.pIn, PV.pNil, PV.pCons, PV.Tg.items, PV.pStar, PV.allD, PV.allS, PV.pTup, PV.pLst, PV.pNoPart, PV.pPart, PV.pSlL, PV.pSlT, PV.pCB, PV.pLen, PV.pLenS, PV.pI1, PV.pI10, PV.pI2, PV.pInt1, PV.pBool1, PV.pS1, PV.pListOf, PV.pTupOf, PV.tyD, PV.pIsi, PV.bD, PV.pAndV, PV.pOrV, PV.pNotV, PV.pIfE, PV.pT, PV.pAnd, PV.pOr, PV.pNot, PV.truD, PV.pTru, PV.pNotT, PV.pChain, PV.pThree, PV.Rs.arg, PV.lend, PV.pCall, PV.pCall0, PV.pIt, PV.pItT, PV.pRg1, PV.pRg2, PV.pRg3, PV.pEnum, PV.pZip, PV.pRev, PV.pStr, PV.setR, PV.pName, PV.pTgt, PV.pTgts, PV.pTg, PV.pNext, PV.pBreak, PV.pCont, PV.pSeq, PV.pShr, PV.pShrI, PV.shI, PV.pFgt, PV.fgt, PV.pAsg, PV.pExpr, PV.Rs.ret, PV.pRet, PV.pRetN, PV.pIf, PV.pFld, PV.pAug, PV.pPar, PV.pBM, PV.pBM0, PV.pAppend, PV.pExtend, PV.pExtT, PV.pClear, PV.pReverse, PV.pSetIx, PV.pFor, PV.wipeG, PV.pLc, PV.gG, PV.pGen, PV.pYes, PV.pSum, PV.pRaise, PV.pRaise1, PV.slA, PV.startG, PV.ends, PV.pRevL, PV.pSlS, PV.pSign, PV.pProp, PV.pMake, PV.pMake0, PV.pTry, PV.pRetD, PV.Rs.asD, PV.sg, PV.Sl.r, PV.dV, PV.flatD, PV.owns, PV.ownsOf_no, PV.ownsOf_dat, PV.ownsOf_obj, PV.ownsOf_own, PV.ownsOf_tab, PV.shr, PV.Sl.sh, PV.intsOf_map, PV.intsOf_app, PV.intsOf_nil, PV.intsOf_int, PV.isInts_map, PV.isInts_nil, PV.isInts_int, PV.isInts_mapL, PV.scr_key, PV.isiQ_s, PV.kit_int_int, PV.kit_int_bool, PV.kit_int_str, PV.kit_int_list, PV.kit_int_tuple, PV.kit_bool_int, PV.kit_bool_bool, PV.kit_bool_str, PV.kit_bool_list, PV.kit_bool_tuple, PV.kit_str_int, PV.kit_str_bool, PV.kit_str_str, PV.kit_str_list, PV.kit_str_tuple, PV.kit_list_int, PV.kit_list_bool, PV.kit_list_str, PV.kit_list_list, PV.kit_list_tuple, PV.kit_tuple_int, PV.kit_tuple_bool, PV.kit_tuple_str, PV.kit_tuple_list, PV.kit_tuple_tuple, PV.kit_NoneType_int, PV.kit_NoneType_bool, PV.kit_NoneType_str, PV.kit_NoneType_list, PV.kit_NoneType_tuple, PV.cutD_map, PV.allD_map, PV.allD_mapA, PV.allS_map, PV.allS_mapA, List.getElem?_cons_zero, List.getElem?_cons_succ, List.getElem?_nil, List.set_cons_zero, List.set_cons_succ, List.map_cons, List.map_nil, List.cons_append, List.nil_append, List.append_nil, List.length_cons, List.length_nil, List.length_map, List.length_append, List.length_replicate, PV.flat_rep, Nat.mul_one, Nat.one_mul, PV.rep_none, List.replicate_zero, List.all_cons, List.all_nil, cond_true, cond_false, Bool.and_true, Bool.true_and, Bool.and_false, Bool.false_and, Bool.not_true, Bool.not_false, Bool.not_not, if_true, if_false, ite_true, ite_false, true_and, and_true, true_implies, false_implies, reduceCtorEq, Nat.reduceAdd, Nat.reduceSub, Nat.reduceLT, Nat.reduceLeDiff, Bool.false_eq_true, decide_eq_true_eq, decide_eq_false_iff_not, Bool.not_eq_true, Bool.not_eq_false, Bool.not_eq_true', Bool.not_eq_false', Bool.true_eq_false, Option.map_some, Option.map_none, decide_true, decide_false, not_true_eq_false, not_false_eq_true, implies_true, forall_const, eq_self, Nat.reduceEqDiff, beq_self_eq_true, ne_eq, Int.reduceEq, Int.reduceNe, Int.reduceLT, Int.reduceLE, Int.reduceGT, Int.reduceGE, Int.reduceToNat, Int.reduceAdd, Int.reduceNeg, Nat.reduceLT, Nat.reduceLeDiff, Nat.reduceAdd, Nat.reduceMul, false_and, and_false, and_self, true_and, and_true, false_implies, PV.at0, PV.at1, PV.at2, PV.at3, PV.at4, PV.at5, Option.some.injEq, exists_eq_left', exists_eq_left, dI]
    exact hP
  refine hfp ?_
  rcases hfd with rfl | ⟨x, y, rfl⟩
  · cases wild with
    | false => cases hfw rfl
    | true =>
      simp only [PV.sgI, PV.endsIO, PV.pIoV, PV.pCallIo, PV.pCntT, PV.pLcO, PV.pZipF, PV.pDivMod, PV.ownsOf_dic, PV.pDNew, PV.pDPut, PV.pDGet2, PV.pDGet, PV.pDIn, PV.pLenD, PV.keyD, PV.pSlScr, PV.pZipT, PV.pRngC, PV.pRngV, PV.pSt1, PV.pM0, PV.pZipS, PV.pM1, PV.pJoin, PV.pFmt, PV.pJoined, PV.pJs, PV.pBMV, PV.pCount, PV.pIndex, PV.pSetIx2, PV.pRetT, PV.pLcF, PV.mapL_inj, PV.pVar, PV.pC, PV.pOp, PV.pUn, PV.pII, PV.pII0, PV.pNeg, PV.pSS, PV.pSS0, PV.eqF_int, PV.eqF_str, PV.eqF_bool, PV.eqF_ni, PV.eqF_in, PV.eqF_nn, PV.eqF_si, PV.eqF_is, PV.eqF_sn, PV.eqF_ns, PV.pEq, PV.pEqD, PV.isN, PV.pIsN, PV.Tg.d, PV.Tg.it, PV.Tg.itD, PV.Tg.ok, PV.pCat, PV.pRep, PV.pCatT, PV.pIn, PV.pNil, PV.pCons, PV.Tg.items, PV.pStar, PV.allD, PV.allS, PV.pTup, PV.pLst, PV.pNoPart, PV.pPart, PV.pSlL, PV.pSlT, PV.pCB, PV.pLen, PV.pLenS, PV.pI1, PV.pI10, PV.pI2, PV.pInt1, PV.pBool1, PV.pS1, PV.pListOf, PV.pTupOf, PV.tyD, PV.pIsi, PV.bD, PV.pAndV, PV.pOrV, PV.pNotV, PV.pIfE, PV.pT, PV.pAnd, PV.pOr, PV.pNot, PV.truD, PV.pTru, PV.pNotT, PV.pChain, PV.pThree, PV.Rs.arg, PV.lend, PV.pCall, PV.pCall0, PV.pIt, PV.pItT, PV.pRg1, PV.pRg2, PV.pRg3, PV.pEnum, PV.pZip, PV.pRev, PV.pStr, PV.setR, PV.pName, PV.pTgt, PV.pTgts, PV.pTg, PV.pNext, PV.pBreak, PV.pCont, PV.pSeq, PV.pShr, PV.pShrI, PV.shI, PV.pFgt, PV.fgt, PV.pAsg, PV.pExpr, PV.Rs.ret, PV.pRet, PV.pRetN, PV.pIf, PV.pFld, PV.pAug, PV.pPar, PV.pBM, PV.pBM0, PV.pAppend, PV.pExtend, PV.pExtT, PV.pClear, PV.pReverse, PV.pSetIx, PV.pFor, PV.wipeG, PV.pLc, PV.gG, PV.pGen, PV.pYes, PV.pSum, PV.pRaise, PV.pRaise1, PV.slA, PV.startG, PV.ends, PV.pRevL, PV.pSlS, PV.pSign, PV.pProp, PV.pMake, PV.pMake0, PV.pTry, PV.pRetD, PV.Rs.asD, PV.sg, PV.Sl.r, PV.dV, PV.flatD, PV.owns, PV.ownsOf_no, PV.ownsOf_dat, PV.ownsOf_obj, PV.ownsOf_own, PV.ownsOf_tab, PV.shr, PV.Sl.sh, PV.intsOf_map, PV.intsOf_app, PV.intsOf_nil, PV.intsOf_int, PV.isInts_map, PV.isInts_nil, PV.isInts_int, PV.isInts_mapL, PV.scr_key, PV.isiQ_s, PV.kit_int_int, PV.kit_int_bool, PV.kit_int_str, PV.kit_int_list, PV.kit_int_tuple, PV.kit_bool_int, PV.kit_bool_bool, PV.kit_bool_str, PV.kit_bool_list, PV.kit_bool_tuple, PV.kit_str_int, PV.kit_str_bool, PV.kit_str_str, PV.kit_str_list, PV.kit_str_tuple, PV.kit_list_int, PV.kit_list_bool, PV.kit_list_str, PV.kit_list_list, PV.kit_list_tuple, PV.kit_tuple_int, PV.kit_tuple_bool, PV.kit_tuple_str, PV.kit_tuple_list, PV.kit_tuple_tuple, PV.kit_NoneType_int, PV.kit_NoneType_bool, PV.kit_NoneType_str, PV.kit_NoneType_list, PV.kit_NoneType_tuple, PV.cutD_map, PV.allD_map, PV.allD_mapA, PV.allS_map, PV.allS_mapA, List.getElem?_cons_zero, List.getElem?_cons_succ, List.getElem?_nil, List.set_cons_zero, List.set_cons_succ, List.map_cons, List.map_nil, List.cons_append, List.nil_append, List.append_nil, List.length_cons, List.length_nil, List.length_map, List.length_append, List.length_replicate, PV.flat_rep, Nat.mul_one, Nat.one_mul, PV.rep_none, List.replicate_zero, List.all_cons, List.all_nil, cond_true, cond_false, Bool.and_true, Bool.true_and, Bool.and_false, Bool.false_and, Bool.not_true, Bool.not_false, Bool.not_not, if_true, if_false, ite_true, ite_false, true_and, and_true, true_implies, false_implies, reduceCtorEq, Nat.reduceAdd, Nat.reduceSub, Nat.reduceLT, Nat.reduceLeDiff, Bool.false_eq_true, decide_eq_true_eq, decide_eq_false_iff_not, Bool.not_eq_true, Bool.not_eq_false, Bool.not_eq_true', Bool.not_eq_false', Bool.true_eq_false, Option.map_some, Option.map_none, decide_true, decide_false, not_true_eq_false, not_false_eq_true, implies_true, forall_const, eq_self, Nat.reduceEqDiff, beq_self_eq_true, ne_eq, Int.reduceEq, Int.reduceNe, Int.reduceLT, Int.reduceLE, Int.reduceGT, Int.reduceGE, Int.reduceToNat, Int.reduceAdd, Int.reduceNeg, Nat.reduceLT, Nat.reduceLeDiff, Nat.reduceAdd, Nat.reduceMul, false_and, and_false, and_self, true_and, and_true, false_implies, PV.at0, PV.at1, PV.at2, PV.at3, PV.at4, PV.at5, Option.some.injEq, exists_eq_left', exists_eq_left, shq, seq]
      refine hfl ⟨rfl, rfl, ?_⟩
      rw [show PyData.eqv .none .none = true from rfl]
      exact kQ
  · simp only [PV.sgI, PV.endsIO, PV.pIoV, PV.pCallIo, PV.pCntT, PV.pLcO, PV.pZipF, PV.pDivMod, PV.ownsOf_dic, PV.pDNew, PV.pDPut, PV.pDGet2, PV.pDGet, PV.pDIn, PV.pLenD, PV.keyD, PV.pSlScr, PV.pZipT, PV.pRngC, PV.pRngV, PV.pSt1, PV.pM0, PV.pZipS, PV.pM1, PV.pJoin, PV.pFmt, PV.pJoined, PV.pJs, PV.pBMV, PV.pCount, PV.pIndex, PV.pSetIx2, PV.pRetT, PV.pLcF, PV.mapL_inj, PV.pVar, PV.pC, PV.pOp, PV.pUn, PV.pII, PV.pII0, PV.pNeg, PV.pSS, PV.pSS0, PV.eqF_int, PV.eqF_str, PV.eqF_bool, PV.eqF_ni, PV.eqF_in, PV.eqF_nn, PV.eqF_si, PV.eqF_is, PV.eqF_sn, PV.eqF_ns, PV.pEq, PV.pEqD, PV.isN, PV.pIsN, PV.Tg.d, PV.Tg.it, PV.Tg.itD, PV.Tg.ok, PV.pCat, PV.pRep, PV.pCatT, PV.pIn, PV.pNil, PV.pCons, PV.Tg.items, PV.pStar, PV.allD, PV.allS, PV.pTup, PV.pLst, PV.pNoPart, PV.pPart, PV.pSlL, PV.pSlT, PV.pCB, PV.pLen, PV.pLenS, PV.pI1, PV.pI10, PV.pI2, PV.pInt1, PV.pBool1, PV.pS1, PV.pListOf, PV.pTupOf, PV.tyD, PV.pIsi, PV.bD, PV.pAndV, PV.pOrV, PV.pNotV, PV.pIfE, PV.pT, PV.pAnd, PV.pOr, PV.pNot, PV.truD, PV.pTru, PV.pNotT, PV.pChain, PV.pThree, PV.Rs.arg, PV.lend, PV.pCall, PV.pCall0, PV.pIt, PV.pItT, PV.pRg1, PV.pRg2, PV.pRg3, PV.pEnum, PV.pZip, PV.pRev, PV.pStr, PV.setR, PV.pName, PV.pTgt, PV.pTgts, PV.pTg, PV.pNext, PV.pBreak, PV.pCont, PV.pSeq, PV.pShr, PV.pShrI, PV.shI, PV.pFgt, PV.fgt, PV.pAsg, PV.pExpr, PV.Rs.ret, PV.pRet, PV.pRetN, PV.pIf, PV.pFld, PV.pAug, PV.pPar, PV.pBM, PV.pBM0, PV.pAppend, PV.pExtend, PV.pExtT, PV.pClear, PV.pReverse, PV.pSetIx, PV.pFor, PV.wipeG, PV.pLc, PV.gG, PV.pGen, PV.pYes, PV.pSum, PV.pRaise, PV.pRaise1, PV.slA, PV.startG, PV.ends, PV.pRevL, PV.pSlS, PV.pSign, PV.pProp, PV.pMake, PV.pMake0, PV.pTry, PV.pRetD, PV.Rs.asD, PV.sg, PV.Sl.r, PV.dV, PV.flatD, PV.owns, PV.ownsOf_no, PV.ownsOf_dat, PV.ownsOf_obj, PV.ownsOf_own, PV.ownsOf_tab, PV.shr, PV.Sl.sh, PV.intsOf_map, PV.intsOf_app, PV.intsOf_nil, PV.intsOf_int, PV.isInts_map, PV.isInts_nil, PV.isInts_int, PV.isInts_mapL, PV.scr_key, PV.isiQ_s, PV.kit_int_int, PV.kit_int_bool, PV.kit_int_str, PV.kit_int_list, PV.kit_int_tuple, PV.kit_bool_int, PV.kit_bool_bool, PV.kit_bool_str, PV.kit_bool_list, PV.kit_bool_tuple, PV.kit_str_int, PV.kit_str_bool, PV.kit_str_str, PV.kit_str_list, PV.kit_str_tuple, PV.kit_list_int, PV.kit_list_bool, PV.kit_list_str, PV.kit_list_list, PV.kit_list_tuple, PV.kit_tuple_int, PV.kit_tuple_bool, PV.kit_tuple_str, PV.kit_tuple_list, PV.kit_tuple_tuple, PV.kit_NoneType_int, PV.kit_NoneType_bool, PV.kit_NoneType_str, PV.kit_NoneType_list, PV.kit_NoneType_tuple, PV.cutD_map, PV.allD_map, PV.allD_mapA, PV.allS_map, PV.allS_mapA, List.getElem?_cons_zero, List.getElem?_cons_succ, List.getElem?_nil, List.set_cons_zero, List.set_cons_succ, List.map_cons, List.map_nil, List.cons_append, List.nil_append, List.append_nil, List.length_cons, List.length_nil, List.length_map, List.length_append, List.length_replicate, PV.flat_rep, Nat.mul_one, Nat.one_mul, PV.rep_none, List.replicate_zero, List.all_cons, List.all_nil, cond_true, cond_false, Bool.and_true, Bool.true_and, Bool.and_false, Bool.false_and, Bool.not_true, Bool.not_false, Bool.not_not, if_true, if_false, ite_true, ite_false, true_and, and_true, true_implies, false_implies, reduceCtorEq, Nat.reduceAdd, Nat.reduceSub, Nat.reduceLT, Nat.reduceLeDiff, Bool.false_eq_true, decide_eq_true_eq, decide_eq_false_iff_not, Bool.not_eq_true, Bool.not_eq_false, Bool.not_eq_true', Bool.not_eq_false', Bool.true_eq_false, Option.map_some, Option.map_none, decide_true, decide_false, not_true_eq_false, not_false_eq_true, implies_true, forall_const, eq_self, Nat.reduceEqDiff, beq_self_eq_true, ne_eq, Int.reduceEq, Int.reduceNe, Int.reduceLT, Int.reduceLE, Int.reduceGT, Int.reduceGE, Int.reduceToNat, Int.reduceAdd, Int.reduceNeg, Nat.reduceLT, Nat.reduceLeDiff, Nat.reduceAdd, Nat.reduceMul, false_and, and_false, and_self, true_and, and_true, false_implies, PV.at0, PV.at1, PV.at2, PV.at3, PV.at4, PV.at5, Option.some.injEq, exists_eq_left', exists_eq_left, shq, seq]
    cases wild with
    | false =>
      have hxy := hfw rfl
      rw [hxy] at hfl ⊢
      refine ⟨fun z => (by cases z), fun _ => ⟨by decide, sht _ _, sht _ _, fun _ => hfl ⟨by decide, sht _ _, sht _ _, ?_⟩, fun z => (by rw [set] at z; cases z)⟩⟩
      rw [set]
      exact kQ
    | true =>
      refine ⟨fun _ => hfl ⟨sht _ _, sht _ _, ?_⟩, fun z => (by cases z)⟩
      rw [set]
      exact kQ

end
theorem law_mk {P : Program} {w : World} {K : PySem.W.Frag} {mg : Str → Option Value} {C_InvalidBed : Addr} {C_fa : Addr} (T : Txt K mg C_InvalidBed) (hfa : mg "law" = some (.ref C_fa)) : ∃ fd : FuncData, (∀ (s : Shared) (v : Value), BindsTo s fd ⟨[v], []⟩ [("script", v)]) ∧ ∀ base : Heap, K.In base → base.Ns mainGlobals mg → FnOk P w K mg base CX0 4 C_fa fd ["script"] (PV.spLaw K) := by
  obtain ⟨f, fd, F, g, b⟩ := id T.d_law
  have e := hfa.symm.trans g
  cases e
  refine ⟨fd, fun s v => ?_, fun base _ _ => ?_⟩
  · obtain ⟨oc, od, kV, doc, pm, an, cdv, ct, osl, rfl, lk, hcd⟩ := F.ex
    exact .of_eq rfl
  · exact ok_law0 T _ fd F
theorem law_end {P : Program} {w : World} {K : PySem.W.Frag} {h : Heap} {mg : Str → Option Value} {fa : Addr} {C_InvalidBed : Addr} {f_check_bed : Addr} {oc_check_bed kV_check_bed dc_check_bed pm_check_bed cd_check_bed ct_check_bed : Value} {od_check_bed an_check_bed : Option Addr} {sl_check_bed : Array (Option Value)} {f_is_length : Addr} {oc_is_length kV_is_length dc_is_length pm_is_length cd_is_length ct_is_length : Value} {od_is_length an_is_length : Option Addr} {sl_is_length : Array (Option Value)} {f_find_page : Addr} {oc_find_page kV_find_page dc_find_page pm_find_page cd_find_page ct_find_page : Value} {od_find_page an_find_page : Option Addr} {sl_find_page : Array (Option Value)} {f__ring_blackness : Addr} {oc__ring_blackness kV__ring_blackness dc__ring_blackness pm__ring_blackness cd__ring_blackness ct__ring_blackness : Value} {od__ring_blackness an__ring_blackness : Option Addr} {sl__ring_blackness : Array (Option Value)} {f__law_cell : Addr} {oc__law_cell kV__law_cell dc__law_cell pm__law_cell cd__law_cell ct__law_cell : Value} {od__law_cell an__law_cell : Option Addr} {sl__law_cell : Array (Option Value)} {f__law_mix : Addr} {oc__law_mix kV__law_mix dc__law_mix pm__law_mix cd__law_mix ct__law_mix : Value} {od__law_mix an__law_mix : Option Addr} {sl__law_mix : Array (Option Value)} {f__law_ring : Addr} {oc__law_ring kV__law_ring dc__law_ring pm__law_ring cd__law_ring ct__law_ring : Value} {od__law_ring an__law_ring : Option Addr} {sl__law_ring : Array (Option Value)} {f__law_black : Addr} {oc__law_black kV__law_black dc__law_black pm__law_black cd__law_black ct__law_black : Value} {od__law_black an__law_black : Option Addr} {sl__law_black : Array (Option Value)} {f__law_found : Addr} {oc__law_found kV__law_found dc__law_found pm__law_found cd__law_found ct__law_found : Value} {od__law_found an__law_found : Option Addr} {sl__law_found : Array (Option Value)} {f__law_dirt : Addr} {oc__law_dirt kV__law_dirt dc__law_dirt pm__law_dirt cd__law_dirt ct__law_dirt : Value} {od__law_dirt an__law_dirt : Option Addr} {sl__law_dirt : Array (Option Value)} {f_law : Addr} {oc_law kV_law dc_law pm_law cd_law ct_law : Value} {od_law an_law : Option Addr} {sl_law : Array (Option Value)} {t_UNREADABLE : Tok} {t_WHITE : Tok} {t_BLACK : Tok} {t_GREATEST_LENGTH : Tok} (X : K.In h) (G : h.Ns mainGlobals mg) (hfa : mg "law" = some (.ref fa))
    (a_check_bed : PySem.W.nsIn K mainGlobals "check_bed" = some (some (.ref f_check_bed)))
    (l_check_bed : K.lookup f_check_bed = some ⟨oc_check_bed, od_check_bed, .func (PySem.W.fnOf "check_bed" "check_bed" (defArgs s_check_bed) (defBody s_check_bed) (defScope s_check_bed) .none kV_check_bed dc_check_bed pm_check_bed an_check_bed cd_check_bed ct_check_bed), sl_check_bed⟩)
    (c_check_bed : PySem.W.codeIn K cd_check_bed "check_bed" = true)
    (k_check_bed : PySem.W.keepIn K (.ref f_check_bed) = true)
    (a_is_length : PySem.W.nsIn K mainGlobals "is_length" = some (some (.ref f_is_length)))
    (l_is_length : K.lookup f_is_length = some ⟨oc_is_length, od_is_length, .func (PySem.W.fnOf "is_length" "is_length" (defArgs s_is_length) (defBody s_is_length) (defScope s_is_length) .none kV_is_length dc_is_length pm_is_length an_is_length cd_is_length ct_is_length), sl_is_length⟩)
    (c_is_length : PySem.W.codeIn K cd_is_length "is_length" = true)
    (k_is_length : PySem.W.keepIn K (.ref f_is_length) = true)
    (a_find_page : PySem.W.nsIn K mainGlobals "find_page" = some (some (.ref f_find_page)))
    (l_find_page : K.lookup f_find_page = some ⟨oc_find_page, od_find_page, .func (PySem.W.fnOf "find_page" "find_page" (defArgs s_find_page) (defBody s_find_page) (defScope s_find_page) .none kV_find_page dc_find_page pm_find_page an_find_page cd_find_page ct_find_page), sl_find_page⟩)
    (c_find_page : PySem.W.codeIn K cd_find_page "find_page" = true)
    (k_find_page : PySem.W.keepIn K (.ref f_find_page) = true)
    (a__ring_blackness : PySem.W.nsIn K mainGlobals "_ring_blackness" = some (some (.ref f__ring_blackness)))
    (l__ring_blackness : K.lookup f__ring_blackness = some ⟨oc__ring_blackness, od__ring_blackness, .func (PySem.W.fnOf "_ring_blackness" "_ring_blackness" (defArgs s__ring_blackness) (defBody s__ring_blackness) (defScope s__ring_blackness) .none kV__ring_blackness dc__ring_blackness pm__ring_blackness an__ring_blackness cd__ring_blackness ct__ring_blackness), sl__ring_blackness⟩)
    (c__ring_blackness : PySem.W.codeIn K cd__ring_blackness "_ring_blackness" = true)
    (k__ring_blackness : PySem.W.keepIn K (.ref f__ring_blackness) = true)
    (a__law_cell : PySem.W.nsIn K mainGlobals "_law_cell" = some (some (.ref f__law_cell)))
    (l__law_cell : K.lookup f__law_cell = some ⟨oc__law_cell, od__law_cell, .func (PySem.W.fnOf "_law_cell" "_law_cell" (defArgs s__law_cell) (defBody s__law_cell) (defScope s__law_cell) .none kV__law_cell dc__law_cell pm__law_cell an__law_cell cd__law_cell ct__law_cell), sl__law_cell⟩)
    (c__law_cell : PySem.W.codeIn K cd__law_cell "_law_cell" = true)
    (k__law_cell : PySem.W.keepIn K (.ref f__law_cell) = true)
    (a__law_mix : PySem.W.nsIn K mainGlobals "_law_mix" = some (some (.ref f__law_mix)))
    (l__law_mix : K.lookup f__law_mix = some ⟨oc__law_mix, od__law_mix, .func (PySem.W.fnOf "_law_mix" "_law_mix" (defArgs s__law_mix) (defBody s__law_mix) (defScope s__law_mix) .none kV__law_mix dc__law_mix pm__law_mix an__law_mix cd__law_mix ct__law_mix), sl__law_mix⟩)
    (c__law_mix : PySem.W.codeIn K cd__law_mix "_law_mix" = true)
    (k__law_mix : PySem.W.keepIn K (.ref f__law_mix) = true)
    (a__law_ring : PySem.W.nsIn K mainGlobals "_law_ring" = some (some (.ref f__law_ring)))
    (l__law_ring : K.lookup f__law_ring = some ⟨oc__law_ring, od__law_ring, .func (PySem.W.fnOf "_law_ring" "_law_ring" (defArgs s__law_ring) (defBody s__law_ring) (defScope s__law_ring) .none kV__law_ring dc__law_ring pm__law_ring an__law_ring cd__law_ring ct__law_ring), sl__law_ring⟩)
    (c__law_ring : PySem.W.codeIn K cd__law_ring "_law_ring" = true)
    (k__law_ring : PySem.W.keepIn K (.ref f__law_ring) = true)
    (a__law_black : PySem.W.nsIn K mainGlobals "_law_black" = some (some (.ref f__law_black)))
    (l__law_black : K.lookup f__law_black = some ⟨oc__law_black, od__law_black, .func (PySem.W.fnOf "_law_black" "_law_black" (defArgs s__law_black) (defBody s__law_black) (defScope s__law_black) .none kV__law_black dc__law_black pm__law_black an__law_black cd__law_black ct__law_black), sl__law_black⟩)
    (c__law_black : PySem.W.codeIn K cd__law_black "_law_black" = true)
    (k__law_black : PySem.W.keepIn K (.ref f__law_black) = true)
    (a__law_found : PySem.W.nsIn K mainGlobals "_law_found" = some (some (.ref f__law_found)))
    (l__law_found : K.lookup f__law_found = some ⟨oc__law_found, od__law_found, .func (PySem.W.fnOf "_law_found" "_law_found" (defArgs s__law_found) (defBody s__law_found) (defScope s__law_found) .none kV__law_found dc__law_found pm__law_found an__law_found cd__law_found ct__law_found), sl__law_found⟩)
    (c__law_found : PySem.W.codeIn K cd__law_found "_law_found" = true)
    (k__law_found : PySem.W.keepIn K (.ref f__law_found) = true)
    (a__law_dirt : PySem.W.nsIn K mainGlobals "_law_dirt" = some (some (.ref f__law_dirt)))
    (l__law_dirt : K.lookup f__law_dirt = some ⟨oc__law_dirt, od__law_dirt, .func (PySem.W.fnOf "_law_dirt" "_law_dirt" (defArgs s__law_dirt) (defBody s__law_dirt) (defScope s__law_dirt) .none kV__law_dirt dc__law_dirt pm__law_dirt an__law_dirt cd__law_dirt ct__law_dirt), sl__law_dirt⟩)
    (c__law_dirt : PySem.W.codeIn K cd__law_dirt "_law_dirt" = true)
    (k__law_dirt : PySem.W.keepIn K (.ref f__law_dirt) = true)
    (a_law : PySem.W.nsIn K mainGlobals "law" = some (some (.ref f_law)))
    (l_law : K.lookup f_law = some ⟨oc_law, od_law, .func (PySem.W.fnOf "law" "law" (defArgs s_law) (defBody s_law) (defScope s_law) .none kV_law dc_law pm_law an_law cd_law ct_law), sl_law⟩)
    (c_law : PySem.W.codeIn K cd_law "law" = true)
    (k_law : PySem.W.keepIn K (.ref f_law) = true)
    (a_UNREADABLE : PySem.W.nsIn K mainGlobals "UNREADABLE" = some (some (.int 2 t_UNREADABLE)))
    (a_WHITE : PySem.W.nsIn K mainGlobals "WHITE" = some (some (.int 0 t_WHITE)))
    (a_BLACK : PySem.W.nsIn K mainGlobals "BLACK" = some (some (.int 1 t_BLACK)))
    (a_GREATEST_LENGTH : PySem.W.nsIn K mainGlobals "GREATEST_LENGTH" = some (some (.int 60 t_GREATEST_LENGTH)))
    (z_len : PySem.W.nsIn K mainGlobals "len" = some none)
    (z_range : PySem.W.nsIn K mainGlobals "range" = some none)
    (z_list : PySem.W.nsIn K mainGlobals "list" = some none)
    (z_zip : PySem.W.nsIn K mainGlobals "zip" = some none)
    (z_int : PySem.W.nsIn K mainGlobals "int" = some none)
    (z_isinstance : PySem.W.nsIn K mainGlobals "isinstance" = some none)
    (z_max : PySem.W.nsIn K mainGlobals "max" = some none)
    (z_min : PySem.W.nsIn K mainGlobals "min" = some none)
    (z_tuple : PySem.W.nsIn K mainGlobals "tuple" = some none)
    (a_InvalidBed : PySem.W.nsIn K mainGlobals "InvalidBed" = some (some (.ref C_InvalidBed)))
    (x_InvalidBed : PySem.W.excIn K C_InvalidBed [.type "ValueError", .type "Exception", .type "BaseException", .type "object"] "ValueError.__new__" = true)
    (k_InvalidBed : PySem.W.keepIn K (.ref C_InvalidBed) = true)
    (b_InvalidBed : PySem.W.subIn K (.ref C_InvalidBed) (.type "BaseException") = some true)
    (t_InvalidBed : PySem.W.typeIn K (.ref C_InvalidBed) = some (.type "type"))
    (g_InvalidBed : PySem.W.findIn K (.ref C_InvalidBed) "__getattribute__" = some (some (.builtin "BaseException.__getattribute__")))
    (h_InvalidBed : PySem.W.findIn K (.ref C_InvalidBed) "__getattr__" = some none)
    (d_InvalidBed : PySem.W.hasDictIn K C_InvalidBed = true)
    (o_InvalidBed : PySem.W.findIn K (.ref C_InvalidBed) "__class__" = some (some (.builtin "object.__class__")))
    (n_InvalidBed : PySem.W.specialIn K (.builtin "object.__class__") "__get__" = some (some (.builtin "getset_descriptor.__get__")))
    (m_InvalidBed : PySem.W.takesIn K (.builtin "object.__class__") = some true)
    (r_InvalidBed : PySem.W.mroIn K C_InvalidBed (.type "object") = some true)
    (i_InvalidBed : PySem.W.isClsIn K C_InvalidBed = true)
    : ∃ fd : FuncData, (∀ (s : Shared) (v : Value), BindsTo s fd ⟨[v], []⟩ [("script", v)]) ∧ ∀ base : Heap, K.In base → base.Ns mainGlobals mg → FnOk P w K mg base CX0 4 fa fd ["script"] (PV.spLaw K) :=
  law_mk (T := ⟨dn_mk X G a_check_bed l_check_bed c_check_bed k_check_bed (fun _ _ _ _ _ _ us hl => match us, hl with | [_], _ => rfl),
    dn_mk X G a_is_length l_is_length c_is_length k_is_length (fun _ _ _ _ _ _ us hl => match us, hl with | [_], _ => rfl),
    dn_mk X G a_find_page l_find_page c_find_page k_find_page (fun _ _ _ _ _ _ us hl => match us, hl with | [_, _], _ => rfl),
    dn_mk X G a__ring_blackness l__ring_blackness c__ring_blackness k__ring_blackness (fun _ _ _ _ _ _ us hl => match us, hl with | [_, _, _, _, _], _ => rfl),
    dn_mk X G a__law_cell l__law_cell c__law_cell k__law_cell (fun _ _ _ _ _ _ us hl => match us, hl with | [_, _], _ => rfl),
    dn_mk X G a__law_mix l__law_mix c__law_mix k__law_mix (fun _ _ _ _ _ _ us hl => match us, hl with | [_, _], _ => rfl),
    dn_mk X G a__law_ring l__law_ring c__law_ring k__law_ring (fun _ _ _ _ _ _ us hl => match us, hl with | [_, _], _ => rfl),
    dn_mk X G a__law_black l__law_black c__law_black k__law_black (fun _ _ _ _ _ _ us hl => match us, hl with | [_, _, _, _], _ => rfl),
    dn_mk X G a__law_found l__law_found c__law_found k__law_found (fun _ _ _ _ _ _ us hl => match us, hl with | [_, _], _ => rfl),
    dn_mk X G a__law_dirt l__law_dirt c__law_dirt k__law_dirt (fun _ _ _ _ _ _ us hl => match us, hl with | [_, _, _, _, _, _], _ => rfl),
    dn_mk X G a_law l_law c_law k_law (fun _ _ _ _ _ _ us hl => match us, hl with | [_], _ => rfl),
    cv_int X G a_UNREADABLE,
    cv_int X G a_WHITE,
    cv_int X G a_BLACK,
    cv_int X G a_GREATEST_LENGTH,
    PySem.W.mg_none_of X G z_len,
    PySem.W.mg_none_of X G z_range,
    PySem.W.mg_none_of X G z_list,
    PySem.W.mg_none_of X G z_zip,
    PySem.W.mg_none_of X G z_int,
    PySem.W.mg_none_of X G z_isinstance,
    PySem.W.mg_none_of X G z_max,
    PySem.W.mg_none_of X G z_min,
    PySem.W.mg_none_of X G z_tuple,
    xcl_mk X G a_InvalidBed x_InvalidBed k_InvalidBed b_InvalidBed t_InvalidBed g_InvalidBed h_InvalidBed d_InvalidBed o_InvalidBed n_InvalidBed m_InvalidBed r_InvalidBed i_InvalidBed⟩) hfa
theorem walk {l : PySem.W.OpenLaw} {q : Program} {loose : List Str} {XP : (Str → Option Value) → Heap → Prop} {YP : World → Heap → Prop} {d : DefRec} {K : Params → PySem.W.Frag} (hn : l.most = some 63) (hdf : d.params.defaults = [])
    (hY : ∀ (w : World) (h : Heap), YP w h → (K w.params).In h)
    (F : ∀ (w : World) (mg : Str → Option Value) (fa : Addr) (h : Heap), (K w.params).In h → h.Ns mainGlobals mg → mg d.name = some (.ref fa) →
      ∃ fd : FuncData, (∀ (s : Shared) (u : Value), BindsTo s fd ⟨[u], []⟩ [("script", u)]) ∧ ∀ base : Heap, (K w.params).In base → base.Ns mainGlobals mg → FnOk l.prog w (K w.params) mg base CX0 4 fa fd ["script"] (PV.spLaw (K w.params))) :
    PySem.W.WalkO q loose XP YP l.row.toRowW d [] (fun f vs => PySem.call f vs) :=
  L2.walk_of (n := 63) (k := 4) (x := "script") (CX := fun _ => CX0) (sp := fun w => PV.spLaw (K w.params)) hn (by decide) hdf ⟨rfl, by decide, by decide⟩ hY F (fun _ _ a ns hl _ hS => ⟨a, ns, rfl, hS, hl, fun _ => rfl⟩) fun _ _ _ _ _ z => z
end My
open PySem PySem.W PyProof.Rows in
set_option maxRecDepth 100000 in
set_option maxHeartbeats 0 in
theorem PySem.Challenge.cw_scanpages_k41_whole_frame_holds : PySem.Challenge.rw_scanpages_k41_whole_frame.Holds := by
  w_on; o_law; k_head; (case hw => w_witness2)
  k_fill
  refine My.walk (l := PySem.Challenge.rw_scanpages_k41_whole_frame) rfl rfl (fun w h Y => PySem.W.kIn_of Y) ?F
  case F =>
    intro w mg fa h KX G hmg
    refine' My.law_end KX G hmg ?a_check_bed ?l_check_bed ?c_check_bed ?k_check_bed ?a_is_length ?l_is_length ?c_is_length ?k_is_length ?a_find_page ?l_find_page ?c_find_page ?k_find_page ?a__ring_blackness ?l__ring_blackness ?c__ring_blackness ?k__ring_blackness ?a__law_cell ?l__law_cell ?c__law_cell ?k__law_cell ?a__law_mix ?l__law_mix ?c__law_mix ?k__law_mix ?a__law_ring ?l__law_ring ?c__law_ring ?k__law_ring ?a__law_black ?l__law_black ?c__law_black ?k__law_black ?a__law_found ?l__law_found ?c__law_found ?k__law_found ?a__law_dirt ?l__law_dirt ?c__law_dirt ?k__law_dirt ?a_law ?l_law ?c_law ?k_law ?a_UNREADABLE ?a_WHITE ?a_BLACK ?a_GREATEST_LENGTH ?z_len ?z_range ?z_list ?z_zip ?z_int ?z_isinstance ?z_max ?z_min ?z_tuple ?a_InvalidBed ?x_InvalidBed ?k_InvalidBed ?b_InvalidBed ?t_InvalidBed ?g_InvalidBed ?h_InvalidBed ?d_InvalidBed ?o_InvalidBed ?n_InvalidBed ?m_InvalidBed ?r_InvalidBed ?i_InvalidBed
    (case a_check_bed => k_is)
    (case l_check_bed => k_is)
    (case c_check_bed => k_is)
    (case k_check_bed => k_is)
    (case a_is_length => k_is)
    (case l_is_length => k_is)
    (case c_is_length => k_is)
    (case k_is_length => k_is)
    (case a_find_page => k_is)
    (case l_find_page => k_is)
    (case c_find_page => k_is)
    (case k_find_page => k_is)
    (case a__ring_blackness => k_is)
    (case l__ring_blackness => k_is)
    (case c__ring_blackness => k_is)
    (case k__ring_blackness => k_is)
    (case a__law_cell => k_is)
    (case l__law_cell => k_is)
    (case c__law_cell => k_is)
    (case k__law_cell => k_is)
    (case a__law_mix => k_is)
    (case l__law_mix => k_is)
    (case c__law_mix => k_is)
    (case k__law_mix => k_is)
    (case a__law_ring => k_is)
    (case l__law_ring => k_is)
    (case c__law_ring => k_is)
    (case k__law_ring => k_is)
    (case a__law_black => k_is)
    (case l__law_black => k_is)
    (case c__law_black => k_is)
    (case k__law_black => k_is)
    (case a__law_found => k_is)
    (case l__law_found => k_is)
    (case c__law_found => k_is)
    (case k__law_found => k_is)
    (case a__law_dirt => k_is)
    (case l__law_dirt => k_is)
    (case c__law_dirt => k_is)
    (case k__law_dirt => k_is)
    (case a_law => k_is)
    (case l_law => k_is)
    (case c_law => k_is)
    (case k_law => k_is)
    (case a_UNREADABLE => k_is)
    (case a_WHITE => k_is)
    (case a_BLACK => k_is)
    (case a_GREATEST_LENGTH => k_is)
    (case z_len => k_is)
    (case z_range => k_is)
    (case z_list => k_is)
    (case z_zip => k_is)
    (case z_int => k_is)
    (case z_isinstance => k_is)
    (case z_max => k_is)
    (case z_min => k_is)
    (case z_tuple => k_is)
    (case a_InvalidBed => k_is)
    (case x_InvalidBed => k_exc)
    (case k_InvalidBed => k_is)
    (case b_InvalidBed => k_is)
    (case t_InvalidBed => k_is)
    (case g_InvalidBed => k_is)
    (case h_InvalidBed => k_is)
    (case d_InvalidBed => k_is)
    (case o_InvalidBed => k_is)
    (case n_InvalidBed => k_is)
    (case m_InvalidBed => k_is)
    (case r_InvalidBed => k_is)
    (case i_InvalidBed => k_is)
#print axioms PySem.Challenge.cw_scanpages_k41_whole_frame_holds
