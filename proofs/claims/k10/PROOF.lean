import PyProof.Rows.All
import Wide.All
import OpenK.AllK
import Wide.FinOn
import HandS.ForMost
import HandS.Exc
import HandS.ExcInit
import HandS.IsInst
import HandS.Defaults
import HandS.Wide
import HandS.Conv
import HandS.Dict
import HandS.DictTup
import HandS.DictComp
import HandS.Flow
import HandS.Style
import HandS.TupSets
import HandS.NoneIn
import HandS.ForExc
import HandS.TryMany
import HandS.ExcField
import HandS.WordsExc
import HandS.HeadHook1
import HandS.HeadHook2
import HandS.Head0
import HandS.Head1
import HandS.Head2
import HandS.Head3
import HandS.HeadEnd
import HandS.HeadHook4
import HandS.Nested
import HandS.Lambda
import HandS.Iter
import KE.GoesEnum
import HandS.More
import HandS.Zip
import HandS.ExcOwn
import KE.GoesZip
import KE.GoesMore
import HandS.BoundDict
import HandS.WordsDict
import HandS.Walk
import HandS.SetFor
import HandS.Strs
import HandS.ListItems
import PyProof.P3Eq
import HandS.CallSlots
import HandS.HeadWalk
import PySem.Challenge.RW_twoworlds_k10_holds_looked_at
set_option Elab.async false
set_option linter.all false
set_option maxRecDepth 100000
set_option maxHeartbeats 40000000
namespace L2.TB
open PySem PySem.Spec PyProof.Rows
def topS (i : Nat) : Stmt := PySem.Challenge.pw_twoworlds_k10_holds_looked_at.main.body.getD i (.Pass ⟨0, 0, 0, 0⟩)
abbrev sStart : Stmt := topS 44
abbrev sDraw : Stmt := topS 45
abbrev sPick : Stmt := topS 46
abbrev sMixed : Stmt := topS 47
abbrev sNames : Stmt := topS 41
abbrev sRows : Stmt := topS 42
abbrev sSome : Stmt := topS 43
abbrev sSame : Stmt := topS 48
abbrev sFrozen : Stmt := topS 49
abbrev sTried : Stmt := topS 50
abbrev sHolds : Stmt := topS 51
abbrev sCan : Stmt := topS 52
abbrev sBent : Stmt := topS 53
abbrev sRefR : Stmt := topS 54
abbrev sLaw : Stmt := topS 55
abbrev sIsInt : Stmt := topS 16
abbrev sIsList : Stmt := topS 18
abbrev sIsPair : Stmt := topS 19
abbrev sIsCount : Stmt := topS 17
abbrev sIsName : Stmt := topS 20
abbrev sIsOne : Stmt := topS 21
abbrev sHasJust : Stmt := topS 22
abbrev sFirst : Stmt := topS 23
abbrev sCkK : Stmt := topS 24
abbrev sCkA : Stmt := topS 25
abbrev sCkB : Stmt := topS 26
abbrev sCkLack : Stmt := topS 27
abbrev sCkW : Stmt := topS 28
abbrev sAskF : Stmt := topS 29
abbrev sFewest : Stmt := topS 32
abbrev sMeanF : Stmt := topS 33
abbrev sHoldF : Stmt := topS 34
abbrev sIsHold : Stmt := topS 35
abbrev sAreInts : Stmt := topS 38
abbrev sBadRow : Stmt := topS 39
abbrev sTable : Stmt := topS 37
abbrev sSearch : Stmt := topS 31
abbrev sSInit : Stmt := inClass sSearch 0
abbrev sWhole : Stmt := inClass sSearch 1
abbrev sPartsOf : Stmt := inClass sSearch 2
abbrev sCost : Stmt := inClass sSearch 3
abbrev sHoldM : Stmt := inClass sSearch 5
abbrev sIsHard : Stmt := inClass sSearch 6
abbrev sBest : Stmt := inClass sSearch 7
abbrev sBestQ : Stmt := inClass sSearch 8
abbrev sCostOf : Stmt := inClass sSearch 9
abbrev sInit : Stmt := inClass sTable 0
abbrev sLenM : Stmt := inClass sTable 1
abbrev sQs : Stmt := inClass sTable 4
abbrev sRowsM : Stmt := inClass sTable 13
abbrev sDictOf : Stmt := inClass sTable 17
abbrev sIsTold : Stmt := inClass sTable 7
abbrev sPlan : Stmt := inClass sTable 8
abbrev sIsPlan : Stmt := inClass sTable 9
abbrev sAdd : Stmt := inClass sTable 3
abbrev sAnswers : Stmt := inClass sTable 6
abbrev sFound : Stmt := inClass sTable 10
abbrev sApart : Stmt := inClass sTable 11
abbrev sAreAp : Stmt := inClass sTable 12
abbrev sLeft : Stmt := inClass sTable 14
abbrev sMayBe : Stmt := inClass sTable 15
abbrev sOnly : Stmt := inClass sTable 16
abbrev sIsWorld : Stmt := inClass sTable 19
abbrev sCkAns : Stmt := inClass sTable 20
abbrev sPlaces : Stmt := inClass sTable 18
abbrev sParting : Stmt := inClass sTable 21
abbrev sPlanOf : Stmt := inClass sTable 22
abbrev sIBadRow : Stmt := inClass (topS 10) 0
abbrev sIBadKnown : Stmt := inClass (topS 5) 0
abbrev sINoQuestion : Stmt := inClass (topS 6) 0
abbrev sIBadNumber : Stmt := inClass (topS 9) 0
abbrev sIBadWeight : Stmt := inClass (topS 12) 0
end L2.TB
/-! several except clauses, each with a name for the exception or without one -/
namespace TA
open PySem PySem.Spec PyProof.Rows L2
abbrev Cl := Value × Option Nat × (Addr → Value → Option Addr → TS)
/-- the ends of a suite whose name goes behind it -/
def goesE (i : Nat) (D : Ends) : Ends := { nx := fun σ H => D.nx (σ.set i none) H, rt := D.rt, bk := fun σ H => D.bk (σ.set i none) H, ct := fun σ H => D.ct (σ.set i none) H }
/-- what a clause does with the exception at a -/
def cl1 (k : Cl) (D : Ends) (a : Addr) (cls : Value) (d : Option Addr) (σ : L2.St) (H : Hp) : Prop := match k.2.1 with
  | none => k.2.2 a cls d D σ H
  | some i => k.2.2 a cls d (goesE i D) (σ.set i (some (.ref a))) H
def wCls (K : PySem.W.Frag) (Wout : WX) (D : Ends) : List Cl → WX
  | [] => Wout
  | k :: r => fun cls d σ H => ∃ b, PySem.W.exmOne K cls k.1 = some b ∧ (b = true → ∀ a, H a = none → cl1 k D a cls d σ H) ∧ (b = false → wCls K Wout D r cls d σ H)
/-- the name of a clause is a slot -/
def NamedAs (X : Cx) : Option Str → Option Nat → Prop
  | none, none => True
  | some n, some i => X.N[i]? = some n ∧ X.env.kindOf n = some .local
  | _, _ => False
inductive Cls (X : Cx) : List ExceptHandler → List Cl → Prop
  | nil : Cls X [] []
  | cons {x : Str} {on : Option Str} {k : Cl} {b₀ : Stmt} {suite : List Stmt} {np q : Pos} {hds : List ExceptHandler} {l : List Cl} (hn : NamedAs X on k.2.1) (hc : Names X x k.1)
      (hsu : ∀ (a : Addr) (oe : Obj) (cls : Value) (d : Option Addr) (pn : List (Addr × Obj)), Zc cls d oe → (∃ vs, oe.data = .fields vs) → PSs (X.suite a ((a, oe) :: pn)) (b₀ :: suite) (k.2.2 a cls d)) (r : Cls X hds l) :
      Cls X (.ExceptHandler (some (.Name x np)) on (b₀ :: suite) q :: hds) (k :: l)
section
variable {X : Cx} {body : List Stmt} {h₀ : ExceptHandler} {hds : List ExceptHandler} {l : List Cl} {pos : Pos} {tb : WX → TS} {Wout : WX}
theorem ps_try_cls (hs : X.stack = X.env :: X.outer) (hf : X.env.frame = some X.env.locals) (hN : X.N.Nodup) (tk : Takes X Wout)
    (hb : ∀ (W : WX) (pn : List (Addr × Obj)) (xe : Value → Shared → Prop), Takes (X.tr pn xe) W → PassesOwn (model X.prog X.w) X.A X.env xe → PSs (X.tr pn xe) body (tb W))
    (hh : Cls X (h₀ :: hds) l) : PS X (.Try body (h₀ :: hds) [] [] pos) (fun D σ H => tb (wCls X.K Wout D l) D σ H) := by
  refine ⟨fun pins s σ H D I reading => ?_⟩
  have okX := I.ok
  have frA : X.A.frames = some (X.env :: X.outer) := by rw [okX.frames, hs]
  refine wpAny_Try_except (wpAny_mono ((hb (wCls X.K Wout D l) (X.pn ++ pins) (fun e s1 => wpAny (model X.prog X.w) X.A (noteFrame e X.env)
    (fun _ s2 => wpAny (model X.prog X.w) X.A (setFlight e none) (fun _ s3 => wpAny (model X.prog X.w) X.A (handleBy e X.env (h₀ :: hds)) (SP X pins D) X.xe s3) X.xe s2) X.xe s1)
    (fun ev s1 caught => ?_) PassesOwn.looking).run [] s σ H D (I.toTry _) reading) (fun fl s1 done => ?_) (fun _ _ z => z))
  · obtain ⟨a, B, sI, pinsT, σ1, H1, cls, d, rfl, JT, nb, up1, sky, fresh, osE, bare, wish⟩ := caught
    have J : Inv X pins σ1 H1 sI := JT.ofTry okX
    show wpAny (model X.prog X.w) X.A (noteFrame (.ref a) X.env) _ _ _
    refine Sky.land Zc.steady frA hf (by rw [← hs]; exact sky) fun hL landed upL => ?_
    have JL : Inv X pins σ1 H1 { s1 with heap := hL } := J.landed nb landed.1 (up1.trans upL) osE bare
    obtain ⟨oL, vL, eL, zL, dL⟩ := landed.there
    have offFrames : a ∉ frs (X.env :: X.outer) := fun hm => by
      obtain ⟨_, o2, e2, no⟩ := landed.2.2.1.mem hm
      rw [eL] at e2
      cases e2
      exact no _ dL
    have offLocals : a ≠ X.env.locals := fun z => offFrames (List.mem_filterMap.mpr ⟨X.env, List.mem_cons_self, by rw [hf, z]⟩)
    have offFs : a ∉ X.fs := fun hm => by
      obtain ⟨e, he, q⟩ := List.mem_filterMap.mp hm
      exact offFrames (List.mem_filterMap.mpr ⟨e, List.mem_cons_of_mem _ he, q⟩)
    have SL := JL.suite eL dL fresh offLocals offFs
    have along : ∀ {hd2 : List ExceptHandler} {l2 : List Cl}, Cls X hd2 l2 → wCls X.K Wout D l2 cls d σ1 H1 → wpAny (model X.prog X.w) X.A (handleBy (.ref a) X.env hd2) (SP X pins D) X.xe { s1 with heap := hL } := by
      intro hd2 l2 hk
      induction hk with
      | nil =>
        intro w
        refine wpAny_handleBy_nil ?_
        obtain ⟨_, _, _, oe, vs, T, oT, _, he, _, hd, h1, _⟩ := id landed
        unfold PySem.passOn
        refine wpAny_bind (wpAny_field he hd h1 ?_)
        rw [if_neg (by simp)]
        have out : wpAny (model X.prog X.w) X.A (setFlight (.ref a) X.env.frame) (fun _ s4 => wpAny (model X.prog X.w) X.A (throw (.ref a) : Sem Flow) (SP X pins D) X.xe s4) X.xe { s1 with heap := hL } := by
          rw [hf]
          exact HandSPX.setFlight_upZ landed fun h4 up4 more => wpAny_throw (tk _ _ ⟨a, B, sI, pins, σ1, H1, cls, d, rfl, J, nb, (up1.trans upL).trans more, .inr (.inr (by rw [hs]; exact up4)), fresh, osE, bare, w⟩)
        first
          | exact wpAny_bind (wpAny_pure (wpAny_bind out))
          | exact wpAny_bind out
      | @cons x on k b₀ suite np q hds3 l3 hn hc hsu r ih =>
        intro w
        obtain ⟨b, isIt, yes, no⟩ := w
        refine wpAny_handleBy_cons (codeAny_handlers_test ?_) (fun z => by cases z)
        have seesClass : PySem.W.Looks (model X.prog X.w) hL (typeOf (.ref a)) cls := fun A Q E s2 kk go => wpAny_typeOf_ref (kk _ _ eL) (by rw [zL.1]; exact go)
        have matched := PySem.W.exm_one (M := model X.prog X.w) JL.kIn seesClass isIt
        have named : ∀ {Q E : Value → Shared → Prop}, Q k.1 { s1 with heap := hL } → wpAny (model X.prog X.w) (X.A.mark (some (.ref a))) (eval (.Name x np) X.env) Q E { s1 with heap := hL } := fun {Q E} go => by
          rcases hc with ⟨g1, g2, g3 | ⟨g3, g4, g5⟩⟩
          · exact ld_glob (X := X.suite a ((a, oL) :: (X.pn ++ pins))) SL g1 g3 go g2
          · exact ld_blt (X := X.suite a ((a, oL) :: (X.pn ++ pins))) SL g1 g3 g4 go g5 g2
        refine named (matched.here ?_)
        cases b with
        | false => exact ih (no rfl)
        | true =>
          obtain ⟨kc, oi, kt⟩ := k
          match on, oi, hn with
          | none, none, _ =>
            refine codeAny_handlers_suite (HandSPX.lands_againZ landed fun h4 l4 up4 => ?_)
            have J4 : Inv X pins σ1 H1 { s1 with heap := h4 } := J.landed nb l4.1 ((up1.trans upL).trans up4) osE bare
            obtain ⟨o4, v4, e4, z4, d4⟩ := l4.there
            have S4 := J4.suite e4 d4 fresh offLocals offFs
            refine wpAny_mono ((hsu a o4 cls d (X.pn ++ pins) z4 ⟨_, d4⟩).run [] _ σ1 H1 D S4 (yes rfl a fresh)) (fun f2 s6 hsp => ?_) (fun _ _ z => False.elim z)
            cases f2 with
            | ret u =>
              obtain ⟨v6, σ6, H6, S6, r6, q6⟩ := hsp
              exact ⟨v6, σ6, H6, S6.unsuite okX, r6, q6⟩
            | next => exact hsp.imp fun σ6 z => z.imp fun H6 z => ⟨z.1.unsuite okX, z.2⟩
            | brk => exact hsp.imp fun σ6 z => z.imp fun H6 z => ⟨z.1.unsuite okX, z.2⟩
            | cont => exact hsp.imp fun σ6 z => z.imp fun H6 z => ⟨z.1.unsuite okX, z.2⟩
          | some n, some i, hn =>
            refine codeAny_handlers_suite_as (HandSPX.lands_againZ landed fun h4 l4 up4 => ?_)
            have J4 : Inv X pins σ1 H1 { s1 with heap := h4 } := J.landed nb l4.1 ((up1.trans upL).trans up4) osE bare
            obtain ⟨o4, v4, e4, z4, d4⟩ := l4.there
            have S4 := J4.suite e4 d4 fresh offLocals offFs
            refine store_ok (X := X.suite a ((a, o4) :: (X.pn ++ pins))) (v := .ref a) S4 hN hn.1 (.inl hn.2) rfl (fun s5 S5 => ?_) (.inr hn.2)
            refine wpAny_mono ((hsu a o4 cls d (X.pn ++ pins) z4 ⟨_, d4⟩).run [] s5 _ H1 _ S5 (yes rfl a fresh)) (fun f2 s6 hsp => ?_) (fun _ _ z => False.elim z)
            have gone : ∀ {σ6 : L2.St} {H6 : Hp} {Q : Shared → Prop}, Inv (X.suite a ((a, o4) :: (X.pn ++ pins))) [] σ6 H6 s6 → (∀ s7, Inv X pins (σ6.set i none) H6 s7 → Q s7) →
                wpAny (model X.prog X.w) X.A (do bindName X.env n .none; unbindBehindTheSuite X.env n q) (fun _ s7 => Q s7) X.xe s6 := fun S6 go => gone_ok (S6.unsuite okX) hN hn.1 hn.2 go
            cases f2 with
            | ret u =>
              obtain ⟨v6, σ6, H6, S6, r6, q6⟩ := hsp
              exact gone S6 fun _ J7 => ⟨v6, _, H6, J7, r6, q6⟩
            | next => obtain ⟨σ6, H6, S6, q6⟩ := hsp; exact gone S6 fun _ J7 => ⟨_, H6, J7, q6⟩
            | brk => obtain ⟨σ6, H6, S6, q6⟩ := hsp; exact gone S6 fun _ J7 => ⟨_, H6, J7, q6⟩
            | cont => obtain ⟨σ6, H6, S6, q6⟩ := hsp; exact gone S6 fun _ J7 => ⟨_, H6, J7, q6⟩
    exact along hh wish
  · cases fl with
    | ret u =>
      obtain ⟨v, σ1, H1, J1, r, q⟩ := done
      exact ⟨v, σ1, H1, J1.ofTry okX, r, q⟩
    | next =>
      obtain ⟨σ1, H1, J1, q⟩ := done
      exact wpAny_execs_nil ⟨σ1, H1, J1.ofTry okX, q⟩
    | brk => exact done.imp fun σ1 z => z.imp fun H1 z => ⟨z.1.ofTry okX, z.2⟩
    | cont => exact done.imp fun σ1 z => z.imp fun H1 z => ⟨z.1.ofTry okX, z.2⟩
end
end TA
/-! classes of errors with an `__init__` of one parameter: what the top's end must say, how such an error is raised -/
namespace L2.TB
open PySem PySem.Spec PyProof.Rows
/-- the class at C: an error over ValueError whose own bases are classes -/
def ownB (K : PySem.W.Frag) (C : Addr) : Bool := match K.lookup C with
  | some ⟨.type "type", _, .cls cd, sl⟩ => (match cd.mro, sl.toList with
    | .ref C' :: bm, [_, _, _, _, some (.builtin n), _] => C' == C && (n == "ValueError.__new__" && (!cd.hasDel && (cd.hasDict && PySem.HandSPX.refsVE bm)))
    | _, _ => false)
  | _ => false
theorem ownB_ok {K : PySem.W.Frag} {C : Addr} (h : ownB K C = true) :
    ∃ nm q N bs bm sn sub ab col dd k0 k1 k2 k3 k5, K.lookup C = some (excClassObj nm q C N bs bm true sn sub ab col dd k0 k1 k2 k3 k5 "ValueError.__new__") ∧ PySem.HandSPX.refsVE bm = true := by
  unfold ownB at h
  split at h
  · rename_i dd cd sl lk
    split at h
    · rename_i C' bm k0 k1 k2 k3 n k5 em es
      simp only [Bool.and_eq_true, beq_iff_eq, Bool.not_eq_true'] at h
      obtain ⟨rfl, rfl, hd, hh, hr⟩ := h
      obtain ⟨nm, bs, mro, ns, qn, hdc, sn, sub, ab, col, del⟩ := cd
      dsimp only at em hd hh
      subst em hd hh
      have e : sl = #[k0, k1, k2, k3, some (.builtin "ValueError.__new__"), k5] := by
        obtain ⟨l⟩ := sl
        simp only at es
        rw [es]
      subst e
      exact ⟨nm, qn, ns, bs, bm, sn, sub, ab, col, dd, k0, k1, k2, k3, k5, lk, hr⟩
    · cases h
  · cases h
def errB (K : PySem.W.Frag) (x f : Str) : Bool := ownB K (He.ga K x) &&
  (He.eqO (PySem.W.findIn K (.ref (He.ga K x)) "__setattr__") (some (some (.builtin "object.__setattr__"))) &&
  (decide (PySem.W.subIn K (.ref (He.ga K x)) (.type "BaseException") = some true) && (decide (PySem.W.typeIn K (.ref (He.ga K x)) = some (.type "type")) && (PySem.W.keepIn K (.ref (He.ga K x)) &&
  (He.eqO (PySem.W.findIn K (.ref (He.ga K x)) f) (some none) && (He.eqO (PySem.W.findIn K (.ref (He.ga K x)) "__init__") (some (some (.ref (He.ma K (He.ga K x) "__init__")))) &&
  (decide (PySem.W.typeIn K (.ref (He.ma K (He.ga K x) "__init__")) = some (.type "function")) && xfB K (He.ga K x))))))))
/-- a class of errors at C, its `__init__` at fI, its one field fld -/
structure ErrC (K : PySem.W.Frag) (C fI : Addr) (fld : Str) : Prop where
  o : OexC K C
  no : PySem.W.findIn K (.ref C) fld = some none
  ini : PySem.W.findIn K (.ref C) "__init__" = some (some (.ref fI))
  fn : PySem.W.typeIn K (.ref fI) = some (.type "function")
  xf : XfC K C
theorem errB_ok {K : PySem.W.Frag} {x f : Str} (h : errB K x f = true) : ErrC K (He.ga K x) (He.ma K (He.ga K x) "__init__") f := by
  obtain ⟨h1, h⟩ := He.ba h
  obtain ⟨h2, h⟩ := He.ba h
  obtain ⟨h3, h⟩ := He.ba h
  obtain ⟨h4, h⟩ := He.ba h
  obtain ⟨h5, h⟩ := He.ba h
  obtain ⟨h6, h⟩ := He.ba h
  obtain ⟨h7, h⟩ := He.ba h
  obtain ⟨h8, h9⟩ := He.ba h
  exact ⟨⟨ownB_ok h1, He.eqO_ok h2, of_decide_eq_true h3, of_decide_eq_true h4, h5⟩, He.eqO_ok h6, He.eqO_ok h7, of_decide_eq_true h8, xfB_ok h9⟩
/-- self.fld = it -/
def spErr (K : PySem.W.Frag) (fld : Str) : Sp := fun vs H Q _ => ∃ (a C : Addr) (v : V), vs = [.ref a, v] ∧ OexC K C ∧ PySem.W.findIn K (.ref C) fld = some none ∧ H a = some (exo a C none) ∧
  ∀ dx, H dx = none → dx ≠ a → Q .non (upd (upd H dx (exd dx [(fld, v)])) a (exo a C (some dx)))
section
variable {P : Program} {w : World} {K : PySem.W.Frag} {mg : Str → Option Value} {base : Heap} {f : Addr} {fd : FuncData}
theorem ok_errInit {q y fld : Str} {st : Stmt} {p0 p1 p2 p3 : Pos} (F : Fun K "__init__" q st f fd) (S : FnScope ["self", y] ["self", y] (defScope st)) (hb : defBody st = [.Assign [.Attribute (.Name "self" p0) fld p1] (.Name y p2) p3])
    (hv0 : Vis (defScope st) "self") (hv1 : Vis (defScope st) y) (hdy : (y == ("__debug__" : Str)) = false) (hcy : (y == ("__classdict__" : Str)) = false) : FnOk P w K mg base CX0 1 f fd ["self", y] (spErr K fld) := by
  refine F.ok S (fun vs H Q E h => by obtain ⟨a, C, v, e, _⟩ := h; rw [e]; rfl) fun cdv A outer s H vs Q E hr hsp => ?_
  obtain ⟨a, C, v, rfl, T, no, ha, hq⟩ := hsp
  rw [hb]
  refine ⟨_, pss_one (ps_ost (pe_var (i := 0) rfl hv0 (by decide) (by decide)) (pe_var (i := 1) rfl hv1 hdy hcy) rfl), ?_⟩
  exact ⟨_, rfl, _, rfl, a, C, rfl, T, no, .inl ⟨ha, hq⟩⟩
end
/-- x(e), to be raised -/
theorem pmk_err {X : Cx} {x fld : Str} {C fI : Addr} {fd : FuncData} {y : Str} {e : Expr} {te : TE} {p pos : Pos} (E : ErrC X.K C fI fld) (F : FnOk X.prog X.w X.K X.mg X.base CX0 1 fI fd ["self", y] (spErr X.K fld)) (hb : Binds X.K fd ["self", y] [])
    (hr : Room 2 X.A) (hg : Gl X x) (hm : X.mg x = some (.ref C)) (he : PE X e te) (hdb : (x == ("__debug__" : Str)) = false := by decide) (hs : starEach [e] X.env = (false, eval e X.env) :: starEach [] X.env := by rfl) :
    PMk X (.Call (.Name x p) [e] [] pos) (tMkO C (spErr X.K fld) [] (tCons te tNil)) := pmk_oex (x := x) (es := []) (ta := tCons te tNil) (ds := []) (dvs := []) E.o E.ini E.fn F hr hb .nil pass0 hg hm (pa_cons he pa_nil (hs := hs)) hdb hs rfl
/-- what must hold where x(v) flies: d is its dict -/
theorem mk_rs {K : PySem.W.Frag} {fld : Str} {C fI : Addr} {v : V} {H1 : Hp} {Q : XK} (E : ErrC K C fI fld) (h : ∀ d, H1 d = none → Q (.ref C) (some d) (upd H1 d (.xd [(fld, v)]))) :
    [v].length ≤ 1000 ∧ ∀ a, H1 a = none → spErr K fld (.ref a :: ([v] ++ [])) (upd H1 a (exo a C none))
      (fun v H2 => v = .non ∧ ∃ (d : Addr) (fs : List (Str × V)), H2 a = some (exo a C (some d)) ∧ H2 d = some (exd d fs) ∧ H1 d = none ∧ Q (.ref C) (some d) (upd (del H2 a) d (.xd fs))) (fun _ _ _ => False) := by
  refine ⟨by show 1 ≤ 1000; omega, fun a ha => ⟨a, C, v, rfl, E.o, E.no, upd_same, fun dx hdx ne => ⟨rfl, dx, _, upd_same, by rw [upd_ne ne, upd_same], ?_, ?_⟩⟩⟩
  · rw [upd_ne ne] at hdx; exact hdx
  · have n1 : H1 dx = none := by rw [upd_ne ne] at hdx; exact hdx
    have e : upd (del (upd (upd (upd H1 a (exo a C none)) dx (exd dx [(fld, v)])) a (exo a C (some dx))) a) dx (.xd [(fld, v)]) = upd H1 dx (.xd [(fld, v)]) := by
      funext b
      by_cases h1 : b = dx
      · subst h1; rw [upd_same, upd_same]
      · rw [upd_ne h1, upd_ne h1]
        by_cases h2 : b = a
        · subst h2; rw [del_same, ha]
        · rw [del_ne h2, upd_ne h2, upd_ne h1, upd_ne h2]
    rw [e]
    exact h dx n1
/-- an error of the class at C flies from here, v in its field -/
def Flies (C : Addr) (fld : Str) (v : V) (H : Hp) (E : XK) : Prop := ∀ d H', Same H H' → H d = none → H' d = some (.xd [(fld, v)]) → E (.ref C) (some d) H'
theorem Flies.same {C : Addr} {fld : Str} {v : V} {H H' : Hp} {E : XK} (h : Flies C fld v H E) (s : Same H H') : Flies C fld v H' E := fun d H2 s2 n e => h d H2 (s.trans s2) (by
  cases q : H d with
  | none => rfl
  | some o => rw [s _ _ q] at n; cases n) e
theorem Flies.mk {K : PySem.W.Frag} {fld : Str} {C fI : Addr} {v : V} {H1 : Hp} {Q : XK} (E : ErrC K C fI fld) (h : Flies C fld v H1 Q) :
    [v].length ≤ 1000 ∧ ∀ a, H1 a = none → spErr K fld (.ref a :: ([v] ++ [])) (upd H1 a (exo a C none))
      (fun v H2 => v = .non ∧ ∃ (d : Addr) (fs : List (Str × V)), H2 a = some (exo a C (some d)) ∧ H2 d = some (exd d fs) ∧ H1 d = none ∧ Q (.ref C) (some d) (upd (del H2 a) d (.xd fs))) (fun _ _ _ => False) :=
  mk_rs E fun d n => h d _ (fun b o e => by rw [upd_ne (ne_of_none e n)]; exact e) n upd_same
end L2.TB
namespace L2.TB
open PySem PySem.Spec PyProof.Rows
/-! ### what the top leaves, by addresses -/
def asK : List Nat := ([3, 6, 4, 49, 59, 79, 98, 117, 136, 155, 174, 193, 205, 224, 233, 240, 247, 254, 259, 266, 271, 278, 285, 292, 299, 304, 311, 316, 386, 398, 406, 414, 422, 569, 578, 583, 588, 593, 600, 607] : List Nat) ++
  ([614, 621, 626, 631, 636, 643, 648, 653, 658, 665, 670, 48, 58, 78, 97, 116, 135, 154, 173, 192, 204, 223, 232, 239, 246, 253, 258, 265, 270, 277, 284, 291, 298, 303, 310, 315, 385, 397, 391, 405] : List Nat) ++
  ([399, 413, 407, 421, 415, 568, 577, 582, 587, 592, 599, 606, 613, 620, 625, 630, 635, 642, 647, 652, 657, 664, 669, 43, 44, 45, 46, 47, 57, 60, 76, 77, 95, 96, 114, 115, 133, 134, 152, 153] : List Nat) ++
  ([171, 172, 190, 191, 203, 221, 222, 227, 228, 229, 230, 231, 234, 235, 236, 237, 238, 241, 242, 243, 244, 245, 248, 249, 250, 251, 252, 255, 256, 257, 260, 261, 262, 263, 264, 267, 268, 269, 272, 273] : List Nat) ++
  ([274, 275, 276, 279, 280, 281, 282, 283, 286, 287, 288, 289, 290, 293, 294, 295, 296, 297, 300, 301, 302, 305, 306, 307, 308, 309, 312, 313, 314, 330, 337, 342, 349, 354, 359, 366, 373, 378, 383, 384] : List Nat) ++
  ([387, 388, 392, 393, 394, 395, 396, 400, 401, 402, 403, 404, 408, 409, 410, 411, 412, 416, 417, 418, 419, 420, 434, 441, 448, 455, 462, 469, 474, 481, 488, 493, 498, 505, 512, 517, 522, 529, 536, 541] : List Nat) ++
  ([546, 551, 556, 561, 566, 567, 570, 571, 574, 575, 576, 579, 580, 581, 584, 585, 586, 589, 590, 591, 594, 595, 596, 597, 598, 601, 602, 603, 604, 605, 608, 609, 610, 611, 612, 615, 616, 617, 618, 619] : List Nat) ++
  ([622, 623, 624, 627, 628, 629, 632, 633, 634, 637, 638, 639, 640, 641, 644, 645, 646, 649, 650, 651, 654, 655, 656, 659, 660, 661, 662, 663, 666, 667, 668, 75, 94, 113, 132, 151, 170, 189, 220, 329] : List Nat) ++
  ([336, 341, 348, 353, 358, 365, 372, 377, 382, 433, 440, 447, 454, 461, 468, 473, 480, 487, 492, 497, 504, 511, 516, 521, 528, 535, 540, 545, 550, 555, 560, 565, 70, 71, 72, 73, 74, 89, 90, 91] : List Nat) ++
  ([92, 93, 108, 109, 110, 111, 112, 127, 128, 129, 130, 131, 146, 147, 148, 149, 150, 165, 166, 167, 168, 169, 184, 185, 186, 187, 188, 215, 216, 217, 218, 219, 324, 325, 326, 327, 328, 331, 332, 333] : List Nat) ++
  ([334, 335, 338, 339, 340, 343, 344, 345, 346, 347, 350, 351, 352, 355, 356, 357, 360, 361, 362, 363, 364, 367, 368, 369, 370, 371, 374, 375, 376, 379, 380, 381, 430, 431, 432, 435, 436, 437, 438, 439] : List Nat) ++
  ([442, 443, 444, 445, 446, 449, 450, 451, 452, 453, 456, 457, 458, 459, 460, 463, 464, 465, 466, 467, 470, 471, 472, 475, 476, 477, 478, 479, 482, 483, 484, 485, 486, 489, 490, 491, 494, 495, 496, 499] : List Nat) ++
  ([500, 501, 502, 503, 506, 507, 508, 509, 510, 513, 514, 515, 518, 519, 520, 523, 524, 525, 526, 527, 530, 531, 532, 533, 534, 537, 538, 539, 542, 543, 544, 547, 548, 549, 552, 553, 554, 557, 558, 559] : List Nat) ++
  ([562, 563, 564] : List Nat)
def dd (p : Str × Option Str) (x q : Str) (st : Stmt) (dv : List He.Dv) : He.DefD := { at_ := p, name := x, qual := q, params := defArgs st, body := defBody st, scope := defScope st, dfl := dv }
def fnT : List He.DefD := ([dd ("_law_start", none) "_law_start" "_law_start" sStart [], dd ("_law_draw", none) "_law_draw" "_law_draw" sDraw [], dd ("_law_pick", none) "_law_pick" "_law_pick" sPick [], dd ("_law_mixed", none) "_law_mixed" "_law_mixed" sMixed [], dd ("_law_t_names", none) "_law_t_names" "_law_t_names" sNames [], dd ("_law_t_rows", none) "_law_t_rows" "_law_t_rows" sRows [], dd ("_law_t_some", none) "_law_t_some" "_law_t_some" sSome [], dd ("_law_same", none) "_law_same" "_law_same" sSame []] : List He.DefD) ++
  ([dd ("_law_frozen", none) "_law_frozen" "_law_frozen" sFrozen [], dd ("_law_tried", none) "_law_tried" "_law_tried" sTried [], dd ("_law_holds", none) "_law_holds" "_law_holds" sHolds [], dd ("_law_can", none) "_law_can" "_law_can" sCan [], dd ("_law_bent", none) "_law_bent" "_law_bent" sBent [], dd ("_law_refused_right", none) "_law_refused_right" "_law_refused_right" sRefR [], dd ("law", none) "law" "law" sLaw [], dd ("is_integer", none) "is_integer" "is_integer" sIsInt []] : List He.DefD) ++
  ([dd ("is_list", none) "is_list" "is_list" sIsList [], dd ("is_pair", none) "is_pair" "is_pair" sIsPair [], dd ("is_count", none) "is_count" "is_count" sIsCount [], dd ("is_name", none) "is_name" "is_name" sIsName [], dd ("is_one_of", none) "is_one_of" "is_one_of" sIsOne [], dd ("has_just", none) "has_just" "has_just" sHasJust [], dd ("first_bad", none) "first_bad" "first_bad" sFirst [], dd ("check_known", none) "check_known" "check_known" sCkK []] : List He.DefD) ++
  ([dd ("check_asked", none) "check_asked" "check_asked" sCkA [], dd ("check_both", none) "check_both" "check_both" sCkB [], dd ("check_lacking", none) "check_lacking" "check_lacking" sCkLack [], dd ("check_weights", none) "check_weights" "check_weights" sCkW [], dd ("asked_files", none) "asked_files" "asked_files" sAskF [], dd ("fewest", none) "fewest" "fewest" sFewest [.non], dd ("mean_fewest", none) "mean_fewest" "mean_fewest" sMeanF [.non], dd ("hold", none) "hold" "hold" sHoldF [.non]] : List He.DefD) ++
  ([dd ("is_hold", none) "is_hold" "is_hold" sIsHold [.non], dd ("_are_integers", none) "_are_integers" "_are_integers" sAreInts [], dd ("_first_bad_row", none) "_first_bad_row" "_first_bad_row" sBadRow [], dd ("Table", some "__init__") "__init__" "Table.__init__" sInit [], dd ("Table", some "__len__") "__len__" "Table.__len__" sLenM [], dd ("Table", some "questions") "questions" "Table.questions" sQs [], dd ("Table", some "rows") "rows" "Table.rows" sRowsM [], dd ("Table", some "_dict_of") "_dict_of" "Table._dict_of" sDictOf []] : List He.DefD) ++
  ([dd ("Table", some "is_told") "is_told" "Table.is_told" sIsTold [], dd ("Table", some "plan") "plan" "Table.plan" sPlan [], dd ("Table", some "is_plan") "is_plan" "Table.is_plan" sIsPlan [], dd ("Table", some "__add__") "__add__" "Table.__add__" sAdd [], dd ("Table", some "answers") "answers" "Table.answers" sAnswers [], dd ("Table", some "found") "found" "Table.found" sFound [], dd ("Table", some "apart") "apart" "Table.apart" sApart [], dd ("Table", some "are_apart") "are_apart" "Table.are_apart" sAreAp []] : List He.DefD) ++
  ([dd ("Table", some "left") "left" "Table.left" sLeft [], dd ("Table", some "may_be") "may_be" "Table.may_be" sMayBe [], dd ("Table", some "only") "only" "Table.only" sOnly [], dd ("Table", some "_is_world") "_is_world" "Table._is_world" sIsWorld [], dd ("Table", some "_check_answers") "_check_answers" "Table._check_answers" sCkAns [], dd ("Table", some "_places") "_places" "Table._places" sPlaces [], dd ("Table", some "_parting_rows") "_parting_rows" "Table._parting_rows" sParting [], dd ("Table", some "_plan_of") "_plan_of" "Table._plan_of" sPlanOf []] : List He.DefD) ++
  ([dd ("Search", some "__init__") "__init__" "Search.__init__" sSInit [], dd ("Search", some "whole") "whole" "Search.whole" sWhole [], dd ("Search", some "parts_of") "parts_of" "Search.parts_of" sPartsOf [], dd ("Search", some "cost") "cost" "Search.cost" sCost [], dd ("Search", some "hold") "hold" "Search.hold" sHoldM [], dd ("Search", some "is_hard") "is_hard" "Search.is_hard" sIsHard [], dd ("Search", some "_best") "_best" "Search._best" sBest [], dd ("Search", some "_best_question") "_best_question" "Search._best_question" sBestQ []] : List He.DefD) ++
  ([dd ("Search", some "_cost_of") "_cost_of" "Search._cost_of" sCostOf [], dd ("BadRow", some "__init__") "__init__" "BadRow.__init__" sIBadRow [], dd ("BadKnown", some "__init__") "__init__" "BadKnown.__init__" sIBadKnown [], dd ("NoQuestion", some "__init__") "__init__" "NoQuestion.__init__" sINoQuestion [], dd ("BadNumber", some "__init__") "__init__" "BadNumber.__init__" sIBadNumber [], dd ("BadWeight", some "__init__") "__init__" "BadWeight.__init__" sIBadWeight []] : List He.DefD)
def faT : List He.Fa := ([.glo "_law_start", .glo "_law_draw", .glo "_law_pick", .glo "_law_mixed", .glo "_law_t_names", .glo "_law_t_rows", .glo "_law_t_some", .glo "_law_same", .glo "_law_frozen", .glo "_law_tried", .glo "_law_holds", .glo "_law_can", .glo "_law_bent", .glo "_law_refused_right", .glo "law", .glo "is_integer"] : List He.Fa) ++
  ([.glo "is_list", .glo "is_pair", .glo "is_count", .glo "is_name", .glo "is_one_of", .glo "has_just", .glo "first_bad", .glo "check_known", .glo "check_asked", .glo "check_both", .glo "check_lacking", .glo "check_weights", .glo "asked_files", .glo "fewest", .glo "mean_fewest", .glo "hold"] : List He.Fa) ++
  ([.glo "is_hold", .glo "_are_integers", .glo "_first_bad_row", .glo "Table", .glo "Search", .free "list", .free "len", .free "int", .free "range", .free "dict", .free "tuple", .free "str", .free "bool", .free "isinstance", .free "all", .free "any"] : List He.Fa) ++
  ([.free "enumerate", .free "zip", .free "set", .free "max", .free "sorted", .free "sum", .int "LONGEST" 40, .str "SIGNS" "abcdefghijklmnopqrstuvwxyz0123456789.", .cls "Table", .noat "Table" "_questions", .noat "Table" "_rows", .meth "Table" "__len__", .meth "Table" "questions", .meth "Table" "rows", .meth "Table" "_dict_of", .meth "Table" "is_told"] : List He.Fa) ++
  ([.meth "Table" "plan", .meth "Table" "is_plan", .meth "Table" "__add__", .meth "Table" "answers", .meth "Table" "found", .meth "Table" "apart", .meth "Table" "are_apart", .meth "Table" "left", .meth "Table" "may_be", .meth "Table" "only", .meth "Table" "_is_world", .meth "Table" "_check_answers", .meth "Table" "_places", .meth "Table" "_parting_rows", .meth "Table" "_plan_of", .cls "Search"] : List He.Fa) ++
  ([.noat "Search" "_rows", .noat "Search" "_asked", .noat "Search" "_of", .noat "Search" "_weights", .noat "Search" "_bests", .meth "Search" "whole", .meth "Search" "parts_of", .meth "Search" "cost", .meth "Search" "hold", .meth "Search" "is_hard", .meth "Search" "_best", .meth "Search" "_best_question", .meth "Search" "_cost_of", .meth "Table" "__init__", .mkr "Table", .meth "Search" "__init__"] : List He.Fa) ++
  ([.mkr "Search", .glo "BadRow", .glo "BadKnown", .glo "NoQuestion", .glo "BadNumber", .glo "BadWeight", .exm "BadRow" "BadRow" true, .exm "BadRow" "BadKnown" false, .exm "BadRow" "NoQuestion" false, .exm "BadRow" "BadNumber" false, .exm "BadRow" "BadWeight" false, .exm "BadKnown" "BadRow" false, .exm "BadKnown" "BadKnown" true, .exm "BadKnown" "NoQuestion" false, .exm "BadKnown" "BadNumber" false, .exm "BadKnown" "BadWeight" false] : List He.Fa) ++
  ([.exm "NoQuestion" "BadRow" false, .exm "NoQuestion" "BadKnown" false, .exm "NoQuestion" "NoQuestion" true, .exm "NoQuestion" "BadNumber" false, .exm "NoQuestion" "BadWeight" false, .exm "BadNumber" "BadRow" false, .exm "BadNumber" "BadKnown" false, .exm "BadNumber" "NoQuestion" false, .exm "BadNumber" "BadNumber" true, .exm "BadNumber" "BadWeight" false, .exm "BadWeight" "BadRow" false, .exm "BadWeight" "BadKnown" false, .exm "BadWeight" "NoQuestion" false, .exm "BadWeight" "BadNumber" false, .exm "BadWeight" "BadWeight" true] : List He.Fa)
/-- the defs that hold a def, a lambda -/
def tfT : List He.Defn := [("_law_refused_right", none)]
/-- the classes of errors, each with its field -/
def erT : List (Str × Str) := [("BadRow", "index"), ("BadKnown", "index"), ("NoQuestion", "name"), ("BadNumber", "thing"), ("BadWeight", "index")]
/-- of the class besides -/
def moreT (K : PySem.W.Frag) : Bool := PySem.W.selfFirst K (He.ga K "Table")
def csL (K : PySem.W.Frag) : List (Addr × Addr) := tfT.map (He.cT K)
def diffT (K : PySem.W.Frag) : Bool := decide ((tfT.map fun p => (He.cT K p).2).Nodup) && ((erT.all fun p => errB K p.1 p.2) && moreT K)
def obsK (g : Addr → Option Obj) : He.AlD × Bool := (He.obsD faT fnT (He.frT g asK), diffT (He.frT g asK) && He.tabsB g tfT (He.frT g asK))
structure SaysK (h : Heap) (K : PySem.W.Frag) : Prop where
  d : He.SaysD faT fnT K
  np : (tfT.map fun p => (He.cT K p).2).Nodup
  er : ∀ p ∈ erT, errB K p.1 p.2 = true
  mo : moreT K = true
  hd : ∀ p ∈ tfT, PySem.W.codeHdIn K (He.cT K p).1 (He.cT K p).2 = true
  out : ∀ p ∈ tfT, K.lookup (He.cT K p).2 = none
  empty : ∀ p ∈ tfT, h.get? (He.cT K p).2 = some { cls := .none, data := .fields #[] }
theorem saysK_of {h : Heap} (e : obsK h.get? = (He.valD fnT, true)) : SaysK h (He.frT h.get? asK) := by
  have e1 : He.obsD faT fnT (He.frT h.get? asK) = He.valD fnT := congrArg (fun z : He.AlD × Bool => z.1) e
  have e2 : (diffT (He.frT h.get? asK) && He.tabsB h.get? tfT (He.frT h.get? asK)) = true := congrArg (fun z : He.AlD × Bool => z.2) e
  obtain ⟨h1, h2⟩ := He.ba e2
  have key : ∀ p ∈ tfT, PySem.W.codeHdIn (He.frT h.get? asK) (He.cT (He.frT h.get? asK) p).1 (He.cT (He.frT h.get? asK) p).2 = true ∧ ∃ o, h.get? (He.cT (He.frT h.get? asK) p).2 = some o ∧ He.emptyTab o = true := fun p hp => by
    obtain ⟨h3, h4⟩ := He.ba (List.all_eq_true.mp h2 p hp)
    refine ⟨h3, ?_⟩
    cases q : h.get? (He.cT (He.frT h.get? asK) p).2 with
    | none => rw [q] at h4; cases h4
    | some o => rw [q] at h4; exact ⟨o, rfl, h4⟩
  obtain ⟨h5, h6⟩ := He.ba h1
  obtain ⟨h6, h7⟩ := He.ba h6
  exact ⟨e1, of_decide_eq_true h5, fun p hp => List.all_eq_true.mp h6 p hp, h7, fun p hp => (key p hp).1, (fun p hp => by
    obtain ⟨_, o, q, z⟩ := key p hp
    exact He.frT_none q z), (fun p hp => by
    obtain ⟨_, o, q, z⟩ := key p hp
    rw [q, He.emptyTab_eq z])⟩
section
variable {h : Heap} {K : PySem.W.Frag}
theorem SaysK.hdC (c : SaysK h K) {p : Addr × Addr} (hp : p ∈ csL K) : PySem.W.codeHdIn K p.1 p.2 = true := by
  obtain ⟨q, hq, e⟩ := List.mem_map.mp hp
  rw [← e]
  exact c.hd q hq
theorem SaysK.outC (c : SaysK h K) {p : Addr × Addr} (hp : p ∈ csL K) : K.lookup p.2 = none := by
  obtain ⟨q, hq, e⟩ := List.mem_map.mp hp
  rw [← e]
  exact c.out q hq
theorem SaysK.emptyC (c : SaysK h K) {p : Addr × Addr} (hp : p ∈ csL K) : h.get? p.2 = some { cls := .none, data := .fields #[] } := by
  obtain ⟨q, hq, e⟩ := List.mem_map.mp hp
  rw [← e]
  exact c.empty q hq
end
def hookK : PySem.W.Hook where
  α := He.AlD × Bool
  obs := fun s => obsK s.heap.get?
  val := fun _ => (He.valD fnT, true)
  says := fun _ h => ∃ K : PySem.W.Frag, K.In h ∧ SaysK h K
  of := fun _ _ e => ⟨_, He.frT_in, saysK_of e⟩
  keeps := fun _ _ _ ⟨K, hK, c⟩ k => ⟨K, PySem.W.Frag.In.keeps hK k, ⟨c.d, c.np, c.er, c.mo, c.hd, c.out, fun p hp => k _ _ (c.empty p hp)⟩⟩
def obT (s : PySem.W.SharedT) : He.AlD × Bool := obsK (HandSHeadRun.getT s)
theorem obT_eq (s : PySem.W.SharedT) : obT s = hookK.obs s.abs := by
  have e : HandSHeadRun.getT s = s.abs.heap.get? := funext fun a => HandSHeadRun.getT_eq s a
  unfold obT
  rw [e] <;> rfl
namespace HdR
open PySem PySem.W PySem.Calls PyProof.Rows
abbrev R : OpenRow := OpenLaw.row PySem.Challenge.rw_twoworlds_k10_holds_looked_at
abbrev qv : Program := view R.prog [0, 55]
def names : List PySem.Str := (["_wall", "WorldError", "BadWorld", "BadKnown", "NoQuestion", "BadPlan", "BadAnswers", "BadNumber", "BadRow", "UnlikeQuestions", "BadWeight", "is_integer", "is_count", "is_list", "is_pair", "is_name", "is_one_of", "has_just", "first_bad", "check_known", "check_asked", "check_both", "check_lacking", "check_weights", "asked_files", "Search", "fewest", "mean_fewest", "hold", "is_hold"] : List PySem.Str) ++
  (["Table", "_are_integers", "_first_bad_row", "_law_t_names", "_law_t_rows", "_law_t_some", "_law_start", "_law_draw", "_law_pick", "_law_mixed", "_law_same", "_law_frozen", "_law_tried", "_law_holds", "_law_can", "_law_bent", "_law_refused_right", "SIGNS", "LONGEST"] : List PySem.Str)
set_option maxHeartbeats 0 in
theorem run (w : World) : HandSHeadRun.RunEqI R qv L2.TB.hookK L2.TB.obT 16000 names w := by
  unfold HandSHeadRun.RunEqI
  kernel_rfl
end HdR
end L2.TB
/-! _law_tried: what was raised, as data -/
namespace L2.TB
open PySem PySem.Spec PyProof.Rows
abbrev NTd : List Str := ["ask", "found", "e"]
theorem scTd : FnScope NTd ["ask"] (defScope sTried) := ⟨rfl, rfl, rfl, by decide +kernel, rfl, by decide +kernel, by decide +kernel⟩
/-- the clauses: a class's name, the class, the word for it, its field -/
structure Clz where
  x : Str
  C : Addr
  tag : Str
  fld : Str
/-- the errors' classes -/
structure ErrA where
  CQ : Addr
  CK : Addr
  CN : Addr
  CX : Addr
/-- what _law_tried makes of what was raised: the pair is frozen by sp -/
def EchT (cs : List Clz) (sp : Sp) (Q : VK) : XK := fun cls d H => ∃ (c : Clz) (dd : Addr) (fs : List (Str × V)) (v : V), c ∈ cs ∧ cls = .ref c.C ∧ d = some dd ∧ H dd = some (.xd fs) ∧ fs.lookup c.fld = some v ∧
  ∀ t, H t = none → sp [.ref t] (upd H t (.tup [.str c.tag, v])) Q fun _ _ _ => False
/-- nothing but one of cs is raised, and nothing is told -/
def TTr (cs : List Clz) (sp : Sp) : (XK → Hp → VK → Prop) → Hp → VK → Prop := fun tl H Q => ∀ (E : XK) (R : VK), (∀ cls d H', EchT cs sp Q cls d H' → E cls d H') → tl E H R
/-- the classes are told apart -/
structure ClzOk (K : PySem.W.Frag) (mg : Str → Option Value) (cs : List Clz) : Prop where
  g : ∀ c ∈ cs, mg c.x = some (.ref c.C)
  xf : ∀ c ∈ cs, XfC K c.C ∧ PySem.W.findIn K (.ref c.C) c.fld = some none
  exm : ∀ c ∈ cs, ∀ c' ∈ cs, PySem.W.exmOne K (.ref c.C) (.ref c'.C) = some (decide (c.x = c'.x))
  inj : ∀ c ∈ cs, ∀ c' ∈ cs, c.x = c'.x → c = c'
abbrev clOf (tag fld : Str) (C : Addr) : TA.Cl := (.ref C, some 2, fun a cls d => tAsg (tTup (tCons (tC (.str tag)) (tCons (tXf a cls d C fld (tVar 2)) tNil))) (gName 1))
/-- this law's four -/
def clz4 (A : ErrA) : List Clz := [⟨"NoQuestion", A.CQ, "question", "name"⟩, ⟨"BadKnown", A.CK, "known", "index"⟩, ⟨"BadNumber", A.CN, "number", "thing"⟩, ⟨"BadWeight", A.CX, "weight", "index"⟩]
theorem cls_fit {K : PySem.W.Frag} {mg : Str → Option Value} {cs : List Clz} (O : ClzOk K mg cs) {Wout : WX} {D : Ends} {o0 o1 o2 : Option V} {c : Clz} {dd : Addr} {fs : List (Str × V)} {v : V} {H : Hp} (hc : c ∈ cs) (hd : H dd = some (.xd fs)) (hl : fs.lookup c.fld = some v)
    (go : ∀ t, H t = none → D.nx [o0, some (.ref t), none] (upd H t (.tup [.str c.tag, v]))) (r : List TA.Cl) :
    ∀ l : List Clz, (∀ c' ∈ l, c' ∈ cs) → c ∈ l → TA.wCls K Wout D ((l.map fun c => clOf c.tag c.fld c.C) ++ r) (.ref c.C) (some dd) [o0, o1, o2] H
  | [], _, h => absurd h (by simp)
  | c' :: l, sub, h => by
    refine ⟨decide (c.x = c'.x), O.exm c hc c' (sub c' (by simp)), fun e a na => ?_, fun e => ?_⟩
    · obtain rfl := O.inj c hc c' (sub c' (by simp)) (of_decide_eq_true e)
      refine ⟨_, rfl, rfl, rfl, dd, fs, v, rfl, hd, hl, (by show 2 ≤ sizeLine; decide), fun t nt => ?_⟩
      exact go t nt
    · refine cls_fit O hc hd hl go r l (fun c2 h2 => sub c2 (List.mem_cons_of_mem _ h2)) ?_
      rcases List.mem_cons.mp h with z | z
      · rw [z] at e; simp at e
      · exact z
abbrev tdCx (X : Cx) (g : Addr) (cdg : Value) (s : Shared) (H : Hp) : Cx := (cxOf C8.CX0 X.prog X.w X.K X.mg X.base NTd "_law_tried" (defScope sTried) g cdg X.A X.stack s H C8.E0).nox
theorem cl_one {X : Cx} {g : Addr} {cdg : Value} {s : Shared} {H : Hp} {x tag fld : Str} {C : Addr} {np p p1 p2 p3 p4 p5 q : Pos} {j kk : Nat} {hds : List ExceptHandler} {l : List TA.Cl} (gx : Gl (tdCx X g cdg s H) x) (hd : (x == ("__debug__" : Str)) = false) (hm : X.mg x = some (.ref C)) (xf : XfC X.K C)
    (no : PySem.W.findIn X.K (.ref C) fld = some none) (r : TA.Cls (tdCx X g cdg s H) hds l) :
    TA.Cls (tdCx X g cdg s H) (.ExceptHandler (some (.Name x np)) (some "e") [.Assign [.Name "found" p] (.Tuple [.Constant (.str tag) j p1, .Attribute (.Name "e" p2) fld p3] kk p4) p5] q :: hds) (clOf tag fld C :: l) :=
  .cons (k := clOf tag fld C) ⟨rfl, rfl⟩ ⟨gx, hd, .inl hm⟩ (fun a oe cls d pn hz hf => pss_one (ps_set (i := 1) scTd.nd rfl (Or.inl rfl) (pe_tup (pa_cons pe_str (pa_cons (pe_xf (X := tdCx X g cdg s H) xf no hz hf (pv 2)) pa_nil))))) r
abbrev mg1 (mg : Str → Option Value) (c : Clz) : Prop := mg c.x = some (.ref c.C)
section
variable {X : Cx} {g fz : Addr} {cdg : Value} {fdz : FuncData} {q : Str} {k : Nat} {sp : Sp}
theorem tried_gives {A : ErrA} (O : ClzOk X.K X.mg (clz4 A))
    (hr : Room (k + 1) X.A) (GF : FnOk X.prog X.w X.K X.mg X.base CX0 k fz fdz ["thing"] sp) (FZ : Fun X.K "_law_frozen" "_law_frozen" sFrozen fz fdz) (gF : X.mg "_law_frozen" = some (.ref fz)) :
    LamX.GivesTo X NTd "_law_tried" (defScope sTried) g cdg (defBody sTried) "ask" q (TTr (clz4 A) sp) := by
  intro f c' s H Q tl act hco h
  have nd := scTd.nd
  have mm : ∀ c, c ∈ clz4 A → mg1 X.mg c ∧ XfC X.K c.C ∧ PySem.W.findIn X.K (.ref c.C) c.fld = some none := fun c h => ⟨O.g c h, O.xf c h⟩
  have m1 := mm ⟨"NoQuestion", A.CQ, "question", "name"⟩ (by simp [clz4])
  have m2 := mm ⟨"BadKnown", A.CK, "known", "index"⟩ (by simp [clz4])
  have m3 := mm ⟨"BadNumber", A.CN, "number", "thing"⟩ (by simp [clz4])
  have m4 := mm ⟨"BadWeight", A.CX, "weight", "index"⟩ (by simp [clz4])
  have b := FZ.binds (ps := ["thing"]) fun _ _ _ _ _ _ us hl => match us, hl with | [_], _ => rfl
  refine ⟨_, pss_cons (ps_set (i := 1) nd rfl (Or.inl rfl) pe_str)
    (pss_cons (TA.ps_try_cls (Wout := fun _ _ _ _ => False) (l := [clOf "question" "name" A.CQ, clOf "known" "index" A.CK, clOf "number" "thing" A.CN, clOf "weight" "index" A.CX])
        (tb := fun W D σ H => σ[0]? = some (some (.ref f)) ∧ H c' = some (LamX.CodeO c' q) ∧ tl (fun cls d H' => ∀ σ' : L2.St, σ'.length = 3 → W cls d σ' H') H fun _ H' => D.nx σ H')
        rfl rfl nd LamX.takes0 (fun W pn xe tk _ => ?_)
        (cl_one rfl (by decide) m1.1 m1.2.1 m1.2.2 (cl_one rfl (by decide) m2.1 m2.2.1 m2.2.2 (cl_one rfl (by decide) m3.1 m3.2.1 m3.2.2
          (cl_one rfl (by decide) m4.1 m4.2.1 m4.2.2 .nil)))))
    (pss_one (ps_ret (pe_call GF (hr.deeper _) rfl gF FZ.kp b .nil pass0 (pa_cons (pv 1) pa_nil))))), ?_⟩
  · have tk' : Takes ((tdCx X g cdg s H).tr pn xe) (fun cls d σ' H' => σ'.length = 3 → W cls d σ' H') := fun u s' ⟨a, B, sI, pins, σ, H, cls, d, e, I, nb, up, sky, na, os, ag, w⟩ => tk u s' ⟨a, B, sI, pins, σ, H, cls, d, e, I, nb, up, sky, na, os, ag, w I.len⟩
    have hp := fun p1 p2 => act (fun cls d σ' H' => σ'.length = 3 → W cls d σ' H') pn xe (fun cls d H' => ∀ σ' : L2.St, σ'.length = 3 → W cls d σ' H') p1 p2 tk' (fun cls d σ' H' e => e σ')
    exact pss_one (ps_expr (hp _ _))
  · refine ⟨rfl, hco, h _ _ fun cls d H' e σ' l3 => ?_⟩
    match σ', l3 with
    | [o0, o1, o2], _ =>
      show TA.wCls X.K (fun _ _ _ _ => False) _ (((clz4 A).map fun c => clOf c.tag c.fld c.C) ++ []) _ _ _ _
      obtain ⟨c, dd, fs, v, hc, rfl, rfl, hd, hl, hz⟩ := e
      refine cls_fit O hc hd hl (fun t nt => ?_) [] (clz4 A) (fun _ z => z) hc
      exact ⟨_, rfl, hz t nt⟩
end
end L2.TB
namespace L2.TB
open PySem PySem.Spec PyProof.Rows
/-! ### the spring of draws -/
structure StrmAt (H : Hp) (l ls : Addr) (cs : List Int) (g k m N : Int) : Prop where
  o : H l = some (.lst [.ref ls, .int g, .int k, .int m])
  c : H ls = some (.lst (cs.map V.int))
  ne : ls ≠ l
  g0 : 0 ≤ g
  k0 : 0 ≤ k
  k1 : k ≤ N
  m0 : 0 ≤ m
  m1 : m < 2147483647
  sz : cs.length ≤ 100
def Strm (H : Hp) (l ls : Addr) (N : Int) : Prop := ∃ cs g k m, StrmAt H l ls cs g k m N
/-- all but the spring is as it was -/
def But (l ls : Addr) (H H' : Hp) : Prop := ∀ b o, b ≠ l → b ≠ ls → H b = some o → H' b = some o
theorem But.refl (l ls : Addr) (H : Hp) : But l ls H H := fun _ _ _ _ e => e
theorem But.trans {l ls : Addr} {H H1 H2 : Hp} (a : But l ls H H1) (b : But l ls H1 H2) : But l ls H H2 := fun c o h1 h2 e => b c o h1 h2 (a c o h1 h2 e)
theorem But.of {l ls : Addr} {H H' : Hp} (a : Same H H') : But l ls H H' := fun c o _ _ e => a c o e
theorem But.upd {l ls a : Addr} {H : Hp} {o : HO} (h : a = l ∨ a = ls) : But l ls H (upd H a o) := fun b u h1 h2 e => by
  have ne : b ≠ a := by rcases h with h | h <;> (subst h; assumption)
  rw [upd_ne ne]; exact e
theorem dp_ints {K : PySem.W.Frag} {H : Hp} : ∀ cs : List Int, DpAll K H (cs.map V.int) (cs.map PyData.int)
  | [] => .nil
  | c :: cs => .cons (.int c) (dp_ints cs)
def spDraw : Sp := fun vs H Q _ => ∃ (l ls : Addr) (many N : Int), vs = [.ref l, .int many] ∧ Strm H l ls N ∧ N ≤ 1000000 ∧ 0 < many ∧ many < 1000 ∧
  ∀ H' r, 0 ≤ r → r < many → Strm H' l ls (N + 1) → But l ls H H' → Q (.int r) H'
theorem scDraw : FnScope ["stream", "many", "cell", "digit", "mixed"] ["stream", "many"] (defScope sDraw) := ⟨rfl, rfl, rfl, by decide +kernel, rfl, by decide +kernel, by decide +kernel⟩
theorem pow_nn (a : Int) (h : 0 ≤ a) : 0 ≤ a ^ (Int.toNat 5) := Int.pow_nonneg h
theorem at0 {a b c d : V} : atI [a, b, c, d] 0 = some a := rfl
theorem at1 {a b c d : V} : atI [a, b, c, d] 1 = some b := rfl
theorem at2 {a b c d : V} : atI [a, b, c, d] 2 = some c := rfl
theorem at3 {a b c d : V} : atI [a, b, c, d] 3 = some d := rfl
theorem draw_end {A B C many : Int} (h : 0 < many) : 0 ≤ A % B % many ∧ A % B % many < many :=
  ⟨Int.emod_nonneg _ (by omega), Int.emod_lt_of_pos _ h⟩
section
variable {P : Program} {w : World} {K : PySem.W.Frag} {mg : Str → Option Value} {base : Heap} {f : Addr} {fd : FuncData}
theorem ok_draw (F : Fun K "_law_draw" "_law_draw" sDraw f fd) (gI : mg "int" = none) : FnOk P w K mg base CX0 1 f fd ["stream", "many"] spDraw := by
  refine F.ok scDraw (fun vs H Q E h => by obtain ⟨l, ls, many, N, e, _⟩ := h; rw [e]; rfl) fun cdv A outer s H vs Q E hr hsp => ?_
  obtain ⟨l, ls, many, N, rfl, ⟨cs, g, k, m, S⟩, hN, h0, h1, hq⟩ := hsp
  have nd := scDraw.nd
  have hu := hu_of hr
  have hu64 := hr.units
  obtain ⟨tl, ptl, htl⟩ : ∃ t, PSs (cxOf CX0 P w K mg base ["stream", "many", "cell", "digit", "mixed"] "_law_draw" (defScope sDraw) f cdv A outer s H E).nox ((defBody sDraw).drop 2) t ∧
      ∀ (H1 : Hp) (c : Option V) (cs : List Int) (g k m : Int), StrmAt H1 l ls cs g k m (N + 1) → But l ls H H1 →
        t { nx := fun _ H' => Q .non H', rt := Q } [some (.ref l), some (.int many), c, none, none] H1 := by
    refine ⟨_, pss_cons (ps_if (pt_cmpR op_gt (pe_ix ix_list (pv 0) pe_int (fun _ _ => rfl)) pe_int (nomark _))
      (pss_cons (ps_set (i := 3) nd rfl (Or.inl rfl) (pe_op op_mod (pe_callTy call_int1 rfl gI boot_int (pa_cons (pe_ix ix_list (pv 0) pe_int (fun _ _ => rfl)) pa_nil)) (pv 1)))
      (pss_cons (ps_asg (pe_op op_fdiv (pe_ix ix_list (pv 0) pe_int (fun _ _ => rfl)) (pv 1)) (pg_sub (pv 0) pe_int set_list))
      (pss_one (ps_ret (pv 3)))))
      pss_nil)
    (pss_cons (ps_set (i := 4) nd rfl (Or.inl rfl) (pe_op op_mod (pe_callTy call_int1 rfl gI boot_int (pa_cons (pe_op op_pow (pe_op op_add (pe_op op_add (pe_ix ix_list (pv 0) pe_int (fun _ _ => rfl)) (pe_op op_mul pe_int (pe_ix ix_list (pv 0) pe_int (fun _ _ => rfl)))) pe_int) pe_int) pa_nil)) pe_int))
    (pss_one (ps_ret (pe_op op_mod (pe_op op_mod (pe_callTy call_int1 rfl gI boot_int (pa_cons (pe_op op_pow (pe_op op_add (pe_op op_add (pe_op op_mul (pv 4) pe_int) (pe_op op_mul pe_int (pe_ix ix_list (pv 0) pe_int (fun _ _ => rfl)))) pe_int) pe_int) pa_nil)) pe_int) (pv 1))))), fun H1 c cs g k m S hB => ?_⟩
    refine ⟨_, rfl, _, _, _, _, rfl, rfl, SqL.of S.o, at1, _, _, rfl, rfl, _, rfl, ite2 (fun e => ?_) (fun e => ?_)⟩
    · refine ⟨_, rfl, _, _, _, _, rfl, rfl, SqL.of S.o, at1, .inl ⟨_, rfl, ?_⟩⟩
      refine ⟨_, rfl, _, _, rfl, rfl, h0, ?_⟩
      refine ⟨_, rfl, _, _, _, _, rfl, rfl, SqL.of S.o, at1, _, rfl, _, _, rfl, rfl, ⟨h0, by omega⟩, ?_⟩
      refine ⟨_, rfl, _, _, _, _, rfl, rfl, S.o, rfl, ?_⟩
      refine ⟨_, rfl, ?_⟩
      refine hq _ _ (Int.emod_nonneg _ (by omega)) (Int.emod_lt_of_pos _ h0) ⟨cs, g / many, k, m, ⟨upd_same, ?_, S.ne, Int.ediv_nonneg S.g0 (by omega), S.k0, S.k1, S.m0, S.m1, S.sz⟩⟩ (hB.trans (But.upd (.inl rfl)))
      rw [upd_ne S.ne]; exact S.c
    · have hk := S.k1
      have hk0 := S.k0
      have hm := S.m0
      have hm1 := S.m1
      refine ⟨_, rfl, _, _, _, _, rfl, rfl, SqL.of S.o, at3, _, rfl, _, _, _, _, rfl, rfl, SqL.of S.o, at2, _, _, rfl, rfl, .inl ⟨by decide, by decide⟩, _, _, rfl, rfl, _, _, rfl, rfl, _, _, rfl, rfl, ⟨by decide, by decide, ?_⟩, ?_⟩
      · omega
      refine .inl ⟨_, rfl, _, _, rfl, rfl, (by show (0 : Int) < 2147483629; decide), ?_⟩
      have e1 := Int.emod_nonneg ((m + 7919 * k + 104729) ^ Int.toNat 5) (show (2147483629 : Int) ≠ 0 by decide)
      have e2 := Int.emod_lt_of_pos ((m + 7919 * k + 104729) ^ Int.toNat 5) (show (0 : Int) < 2147483629 by decide)
      generalize (m + 7919 * k + 104729) ^ Int.toNat 5 % 2147483629 = z at e1 e2 ⊢
      refine ⟨_, rfl, _, _, rfl, rfl, .inr ⟨by decide, by decide⟩, _, rfl, _, _, _, _, rfl, rfl, SqL.of S.o, at2, _, _, rfl, rfl, .inl ⟨by decide, by decide⟩, _, _, rfl, rfl, _, _, rfl, rfl, _, _, rfl, rfl, ⟨by decide, by decide, ?_⟩, ?_⟩
      · omega
      refine .inl ⟨_, rfl, _, _, rfl, rfl, (by show (0 : Int) < 1000000007; decide), _, rfl, _, _, rfl, rfl, h0, ?_⟩
      exact hq _ _ (Int.emod_nonneg _ (by omega)) (Int.emod_lt_of_pos _ h0) ⟨cs, g, k, m, S⟩ hB
  refine ⟨_, pss_cons (ps_asg (pe_op op_add (pe_ix ix_list (pv 0) pe_int (fun _ _ => rfl)) pe_int) (pg_sub (pv 0) pe_int set_list))
    (pss_cons (ps_if (PW.pt (pw_and (pt_cmpR op_eq (pe_ix ix_list (pv 0) pe_int (fun _ _ => rfl)) pe_int (nomark _))
        (pw_and1 (pt_cmpR (op_neD hu64) (pe_ix ix_list (pv 0) pe_int (fun _ _ => rfl)) (pe_lst pa_nil) (nomark _)))))
      (pss_cons (ps_set (i := 2) nd rfl (Or.inl rfl) (pe_bm PySem.F.plainAttrs_list PySem.F.slot_list_pop PySem.F.type_list_pop mt_popAt (pe_ix ix_list (pv 0) pe_int (fun _ _ => rfl)) (pa_cons pe_int pa_nil)))
      (pss_cons (ps_asg (pe_op op_mod (pe_callTy call_int1 rfl gI boot_int (pa_cons (pe_op op_add (pe_op op_add (pe_op op_mul (pe_ix ix_list (pv 0) pe_int (fun _ _ => rfl)) pe_int) (pv 2)) pe_int) pa_nil)) pe_int) (pg_sub (pv 0) pe_int set_list))
      (pss_one (ps_asg (pe_ifExp (pt_cmpR op_ge (pv 2) (pe_op op_pow pe_int pe_int) (nomark _)) (pv 2) pe_int) (pg_sub (pv 0) pe_int set_list)))))
      pss_nil) ptl), ?_⟩
  refine ⟨_, rfl, _, _, _, _, rfl, rfl, SqL.of S.o, at2, _, _, rfl, rfl, _, rfl, _, _, _, _, rfl, rfl, S.o, rfl, ?_⟩
  have S1 : StrmAt (upd H l (.lst [.ref ls, .int g, .int (k + 1), .int m])) l ls cs g (k + 1) m (N + 1) :=
    ⟨upd_same, by rw [upd_ne S.ne]; exact S.c, S.ne, S.g0, by have := S.k0; omega, by have := S.k1; omega, S.m0, S.m1, S.sz⟩
  have B1 : But l ls H (upd H l (.lst [.ref ls, .int g, .int (k + 1), .int m])) := But.upd (.inl rfl)
  refine ⟨_, rfl, _, _, _, _, rfl, rfl, SqL.of S1.o, at1, rfl, _, rfl, ite2 (fun e => ?_) (fun e => ?_)⟩
  · refine ⟨_, rfl, _, _, _, _, rfl, rfl, SqL.of S1.o, at0, Nat.zero_le _, fun q nq => ?_⟩
    have ql : q ≠ l := by
      intro z; rw [z, upd_same] at nq; cases nq
    have qs : q ≠ ls := by
      intro z; rw [z, upd_ne S.ne] at nq; rw [S.c] at nq; cases nq
    have S2 : StrmAt (upd (upd H l (.lst [.ref ls, .int g, .int (k + 1), .int m])) q (.lst [])) l ls cs g (k + 1) m (N + 1) :=
      ⟨by rw [upd_ne (Ne.symm ql)]; exact S1.o, by rw [upd_ne (Ne.symm qs)]; exact S1.c, S.ne, S1.g0, S1.k0, S1.k1, S1.m0, S1.m1, S1.sz⟩
    have B2 : But l ls H (upd (upd H l (.lst [.ref ls, .int g, .int (k + 1), .int m])) q (.lst [])) := B1.trans (But.of fun b o eb => by
      rw [upd_ne (ne_of_none eb nq)]; exact eb)
    refine ⟨.list (cs.map .int), .list [], .lst (SqL.of S2.c) (dp_ints cs), .lst (SqL.of upd_same) .nil, PySem.W.shaped_ints cs, by decide, ?_⟩
    cases cs with
    | nil =>
      refine ⟨_, rfl, iteF ?_⟩
      exact htl _ none [] g (k + 1) m S2 B2
    | cons c cs =>
      refine ⟨_, rfl, iteT ?_⟩
      refine ⟨_, rfl, _, _, _, _, rfl, rfl, SqL.of S2.o, at0, .inl ⟨rfl, _, SqL.of S2.c⟩, ?_⟩
      have ix0 : ixN ((c :: cs).map V.int).length 0 = some 0 := by
        simp [ixN]
      refine ⟨ls, _, 0, 0, .int c, rfl, rfl, S2.c, by decide, by decide, (ixN_seq ix0).1, rfl, ?_⟩
      have S3 : StrmAt (upd (upd (upd H l (.lst [.ref ls, .int g, .int (k + 1), .int m])) q (.lst [])) ls (.lst (cs.map V.int))) l ls cs g (k + 1) m (N + 1) :=
        ⟨by rw [upd_ne (Ne.symm S.ne)]; exact S2.o, upd_same, S.ne, S2.g0, S2.k0, S2.k1, S2.m0, S2.m1, by have := S2.sz; simp only [List.length_cons] at this; omega⟩
      have B3 := B2.trans (But.upd (l := l) (ls := ls) (a := ls) (H := upd (upd H l (.lst [.ref ls, .int g, .int (k + 1), .int m])) q (.lst [])) (o := .lst (cs.map V.int)) (.inr rfl))
      have hm0 := S.m0
      have hm1 := S.m1
      refine ⟨_, rfl, _, _, _, _, rfl, rfl, SqL.of S3.o, at3, _, _, rfl, rfl, .inl ⟨by omega, by omega⟩, _, rfl, _, _, rfl, rfl, _, _, rfl, rfl, .inl ⟨_, rfl, _, _, rfl, rfl, (by show (0 : Int) < 2147483647; decide), ?_⟩⟩
      refine ⟨_, rfl, _, _, _, _, rfl, rfl, S3.o, rfl, ?_⟩
      have S4 : StrmAt (upd (upd (upd (upd H l (.lst [.ref ls, .int g, .int (k + 1), .int m])) q (.lst [])) ls (.lst (cs.map V.int))) l (.lst [.ref ls, .int g, .int (k + 1), .int ((m * 8191 + c + 3) % 2147483647)])) l ls cs g (k + 1) ((m * 8191 + c + 3) % 2147483647) (N + 1) :=
        ⟨upd_same, by rw [upd_ne S.ne]; exact S3.c, S.ne, S3.g0, S3.k0, S3.k1, Int.emod_nonneg _ (by decide), Int.emod_lt_of_pos _ (by decide), S3.sz⟩
      have B4 := B3.trans (But.upd (l := l) (ls := ls) (a := l) (o := .lst [.ref ls, .int g, .int (k + 1), .int ((m * 8191 + c + 3) % 2147483647)]) (.inl rfl))
      refine ⟨_, rfl, _, _, rfl, rfl, ⟨by decide, by decide, by decide⟩, _, _, rfl, rfl, _, rfl, ite2 (fun e4 => ?_) (fun e4 => ?_)⟩
      · refine ⟨_, rfl, _, rfl, _, _, _, _, rfl, rfl, S4.o, rfl, ?_⟩
        have hc : (0 : Int) ≤ c := by
          have z := of_decide_eq_true e4
          have z2 : (0 : Int) ≤ 10 ^ (Int.toNat 18) := Int.pow_nonneg (by decide)
          omega
        exact htl _ (some (.int c)) cs c (k + 1) ((m * 8191 + c + 3) % 2147483647)
          ⟨upd_same, by rw [upd_ne S.ne]; exact S4.c, S.ne, hc, S4.k0, S4.k1, S4.m0, S4.m1, S4.sz⟩ (B4.trans (But.upd (.inl rfl)))
      · refine ⟨_, rfl, _, _, _, _, rfl, rfl, S4.o, rfl, ?_⟩
        exact htl _ (some (.int c)) cs 0 (k + 1) ((m * 8191 + c + 3) % 2147483647)
          ⟨upd_same, by rw [upd_ne S.ne]; exact S4.c, S.ne, by decide, S4.k0, S4.k1, S4.m0, S4.m1, S4.sz⟩ (B4.trans (But.upd (.inl rfl)))
  · refine iteF ?_
    exact htl _ none cs g (k + 1) m S1 B1
def spStart (K : PySem.W.Frag) : Sp := fun vs H Q _ => ∃ (a : Addr) (ns : List Int), vs = [.ref a] ∧ SqL K H a (ns.map V.int) ∧ ns.length ≤ 100 ∧
  ∀ H' l ls, H l = none → Same H H' → Strm H' l ls 0 → H ls = none → Q (.ref l) H'
theorem scStart : FnScope ["script"] ["script"] (defScope sStart) := ⟨rfl, rfl, rfl, by decide +kernel, rfl, by decide +kernel, by decide +kernel⟩
theorem ok_start (F : Fun K "_law_start" "_law_start" sStart f fd) (gL : mg "list" = none) : FnOk P w K mg base CX0 1 f fd ["script"] (spStart K) := by
  refine F.ok scStart (fun vs H Q E h => by obtain ⟨a, ns, e, _⟩ := h; rw [e]; rfl) fun cdv A outer s H vs Q E hr hsp => ?_
  obtain ⟨a, ns, rfl, hS, hn, hq⟩ := hsp
  refine ⟨_, pss_one (ps_ret (pe_lst (pa_cons (pe_callTy call_list_of rfl gL (by decide +kernel) (pa_cons (pv 0) pa_nil)) (pa_cons pe_int (pa_cons pe_int (pa_cons pe_int pa_nil)))))), ?_⟩
  refine ⟨_, rfl, _, _, rfl, .inl hS, fun ls hls => ⟨by rw [sizeLine_eq]; show 4 ≤ _; omega, fun l hl => ?_⟩⟩
  have ne : ls ≠ l := by
    intro z; rw [← z, upd_same] at hl; cases hl
  have hl2 : H l = none := by rw [upd_ne (Ne.symm ne)] at hl; exact hl
  exact hq _ l ls hl2 (fun b o e => by rw [upd_ne (ne_of_none e hl2), upd_ne (ne_of_none e hls)]; exact e)
    ⟨ns, 0, 0, 11, ⟨upd_same, by rw [upd_ne ne, upd_same], ne, by decide, by decide, by decide, by decide, by decide, hn⟩⟩ hls
def spPick (K : PySem.W.Frag) : Sp := fun vs H Q _ => ∃ (l ls c : Addr) (xs : List V) (N : Int), vs = [.ref l, .ref c] ∧ Strm H l ls N ∧ N ≤ 1000000 ∧
  c ≠ l ∧ c ≠ ls ∧ H c = some (.lst xs) ∧ 0 < xs.length ∧ xs.length < 1000 ∧
  ∀ H' x, x ∈ xs → Strm H' l ls (N + 1) → But l ls H H' → Q x H'
theorem scPick : FnScope ["stream", "some"] ["stream", "some"] (defScope sPick) := ⟨rfl, rfl, rfl, by decide +kernel, rfl, by decide +kernel, by decide +kernel⟩
theorem ok_pick {fD : Addr} {fdD : FuncData} (F : Fun K "_law_pick" "_law_pick" sPick f fd) (FD : Fun K "_law_draw" "_law_draw" sDraw fD fdD)
    (gD : mg "_law_draw" = some (.ref fD)) (gI : mg "int" = none) (gN : mg "len" = none) : FnOk P w K mg base CX0 2 f fd ["stream", "some"] (spPick K) := by
  have G : FnOk P w K mg base CX0 1 fD fdD ["stream", "many"] spDraw := ok_draw FD gI
  have b := FD.binds (ps := ["stream", "many"]) fun _ _ _ _ _ _ us hl => match us, hl with | [_, _], _ => rfl
  refine F.ok scPick (fun vs H Q E h => by obtain ⟨l, ls, c, xs, N, e, _⟩ := h; rw [e]; rfl) fun cdv A outer s H vs Q E hr hsp => ?_
  obtain ⟨l, ls, c, xs, N, rfl, hS, hN, n1, n2, hc, h0, h1, hq⟩ := hsp
  refine ⟨_, pss_one (ps_ret (pe_ix ix_list (pv 1) (pe_call G hr rfl gD FD.kp b .nil pass0 (pa_cons (pv 0) (pa_cons (pe_callB call_len rfl gN boot_len (pa_cons (pv 1) pa_nil)) pa_nil))) (fun _ _ => rfl))), ?_⟩
  refine ⟨_, rfl, _, rfl, _, rfl, _, xs.length, rfl, .inl ⟨_, SqL.of hc, rfl⟩, ?_⟩
  refine ⟨l, ls, _, N, rfl, hS, hN, by omega, by omega, fun H' r r0 r1 S' B' => ?_⟩
  have hr2 : r.toNat < xs.length := by omega
  refine ⟨_, _, _, xs[r.toNat], rfl, rfl, SqL.of (B' c _ n1 n2 hc), ?_, hq H' _ (List.getElem_mem _) S' B'⟩
  have e : ((r.toNat : Nat) : Int) = r := by omega
  have z := atI_nat (xs := xs) (j := r.toNat) (v := xs[r.toNat]) (by simp)
  rw [e] at z
  exact z
end
end L2.TB
namespace L2.TB
open PySem PySem.Spec PyProof.Rows
theorem same_new {H : Hp} {p : Addr} {o : HO} (n : H p = none) : Same H (upd H p o) := fun c u z => by rw [upd_ne (ne_of_none z n)]; exact z
theorem Strm.same {H H' : Hp} {l ls : Addr} {N : Int} (h : Strm H l ls N) (s : Same H H') : Strm H' l ls N := by
  obtain ⟨cs, g, k, m, S⟩ := h
  exact ⟨cs, g, k, m, s _ _ S.o, s _ _ S.c, S.ne, S.g0, S.k0, S.k1, S.m0, S.m1, S.sz⟩
theorem Strm.some {H : Hp} {l ls : Addr} {N : Int} (h : Strm H l ls N) : (∃ o, H l = some o) ∧ ∃ o, H ls = some o := by
  obtain ⟨cs, g, k, m, S⟩ := h
  exact ⟨⟨_, S.o⟩, ⟨_, S.c⟩⟩
/-- what was not there is not the spring -/
theorem Strm.apart {H H' : Hp} {l ls p : Addr} {N : Int} (h : Strm H l ls N) (s : Same H H') (n : H' p = none) : p ≠ l ∧ p ≠ ls := by
  obtain ⟨⟨o, e⟩, ⟨o', e'⟩⟩ := h.some
  exact ⟨(fun z => by rw [z, s _ _ e] at n; cases n), (fun z => by rw [z, s _ _ e'] at n; cases n)⟩
def spPickS : Sp := fun vs H Q _ => ∃ (l ls : Addr) (x : Str) (N : Int), vs = [.ref l, .str x] ∧ Strm H l ls N ∧ N ≤ 1000000 ∧ 0 < x.cps.size ∧ x.cps.size < 1000 ∧
  ∀ H' c, c ∈ x.cps.toList → Strm H' l ls (N + 1) → But l ls H H' → Q (.str ⟨#[c]⟩) H'
/-- a mixed list: what was in it, in some order -/
def spMixed (K : PySem.W.Frag) : Sp := fun vs H Q _ => ∃ (l ls c : Addr) (xs : List V) (N : Int), vs = [.ref l, .ref c] ∧ Strm H l ls N ∧ N ≤ 900000 ∧ SqL K H c xs ∧ xs.length < 1000 ∧
  ∀ H' q ys, ys.Perm xs → H q = none → H' q = some (.lst ys) → Strm H' l ls (N + xs.length) → But l ls H H' → Q (.ref q) H'
theorem scMixed : FnScope ["stream", "some", "left", "k"] ["stream", "some"] (defScope sMixed) := ⟨rfl, rfl, rfl, by decide +kernel, rfl, by decide +kernel, by decide +kernel⟩
theorem pop_perm : ∀ (l : List V) (k : Nat) (y : V), l[k]? = some y → (y :: l.eraseIdx k).Perm l
  | [], k, y, h => by simp at h
  | a :: l, 0, y, h => by
    obtain rfl : a = y := by simpa using h
    exact List.Perm.refl _
  | a :: l, k + 1, y, h => by
    have z := pop_perm l k y (by simpa using h)
    exact (List.Perm.swap a y _).trans (z.cons a)
section
variable {P : Program} {w : World} {K : PySem.W.Frag} {mg : Str → Option Value} {base : Heap} {f fD fP fM : Addr} {fd fdD fdP fdM : FuncData}
theorem ok_pickS (F : Fun K "_law_pick" "_law_pick" sPick f fd) (FD : Fun K "_law_draw" "_law_draw" sDraw fD fdD)
    (gD : mg "_law_draw" = some (.ref fD)) (gI : mg "int" = none) (gN : mg "len" = none) : FnOk P w K mg base CX0 2 f fd ["stream", "some"] spPickS := by
  have G : FnOk P w K mg base CX0 1 fD fdD ["stream", "many"] spDraw := ok_draw FD gI
  have b := FD.binds (ps := ["stream", "many"]) fun _ _ _ _ _ _ us hl => match us, hl with | [_, _], _ => rfl
  refine F.ok scPick (fun vs H Q E h => by obtain ⟨l, ls, x, N, e, _⟩ := h; rw [e]; rfl) fun cdv A outer s H vs Q E hr hsp => ?_
  obtain ⟨l, ls, x, N, rfl, hS, hN, h0, h1, hq⟩ := hsp
  refine ⟨_, pss_one (ps_ret (pe_ix ix_str (pv 1) (pe_call G hr rfl gD FD.kp b .nil pass0 (pa_cons (pv 0) (pa_cons (pe_callB call_len rfl gN boot_len (pa_cons (pv 1) pa_nil)) pa_nil))) (fun _ _ => rfl))), ?_⟩
  have hz : x.length ≤ sizeLine := by rw [sizeLine_eq]; show x.cps.size ≤ _; omega
  have hl : ((x.length : Nat) : Int) = (x.cps.size : Int) := rfl
  refine ⟨_, rfl, _, rfl, _, rfl, _, x.length, rfl, ⟨hz, rfl⟩, ?_⟩
  refine ⟨l, ls, _, N, rfl, hS, hN, by omega, by omega, fun H' r r0 r1 S' B' => ?_⟩
  have hr2 : r.toNat < x.cps.toList.length := by rw [Array.length_toList]; omega
  refine ⟨x, r, x.cps.toList[r.toNat], rfl, rfl, hz, ?_, hq H' _ (List.getElem_mem _) S' B'⟩
  have e : ((r.toNat : Nat) : Int) = r := by omega
  have z := atI_nat (xs := x.cps.toList) (j := r.toNat) (v := x.cps.toList[r.toNat]) (by simp)
  rw [e] at z
  exact z
theorem ok_mixed (F : Fun K "_law_mixed" "_law_mixed" sMixed f fd) (FD : Fun K "_law_draw" "_law_draw" sDraw fD fdD)
    (gD : mg "_law_draw" = some (.ref fD)) (gI : mg "int" = none) (gN : mg "len" = none) (gL : mg "list" = none) (gR : mg "range" = none) : FnOk P w K mg base CX0 2 f fd ["stream", "some"] (spMixed K) := by
  have G : FnOk P w K mg base CX0 1 fD fdD ["stream", "many"] spDraw := ok_draw FD gI
  have b := FD.binds (ps := ["stream", "many"]) fun _ _ _ _ _ _ us hl => match us, hl with | [_, _], _ => rfl
  refine F.ok scMixed (fun vs H Q E h => by obtain ⟨l, ls, c, xs, N, e, _⟩ := h; rw [e]; rfl) fun cdv A outer s H vs Q E hr hsp => ?_
  obtain ⟨l, ls, c, xs, N, rfl, hS, hN, hc, h1, hq⟩ := hsp
  have nd := scMixed.nd
  refine ⟨_, pss_cons (ps_set (i := 2) nd rfl (Or.inr rfl) (pe_callTy call_list_of rfl gL (by decide +kernel) (pa_cons (pv 1) pa_nil)))
    (pss_one (ps_ret (pe_lc (own := [("k", 3)]) (tt := tYes) (te := tBM K "list" rPopAt (tVar 2) (tCons (tCall spDraw [] E0 (tCons (tVar 0) (tCons (tCB (rLen K) (tCons (tVar 2) tNil)) tNil))) tNil)) rfl nd (pi_range1 rfl gR (pa_cons (pe_callB call_len rfl gN boot_len (pa_cons (pv 2) pa_nil)) pa_nil)) (blkOk_by (N := ["stream", "some", "left", "k"]) (sc := defScope sMixed) (by decide +kernel))
      (fun _ _ _ _ _ => pg_name (i := 3) nd rfl (Or.inl rfl)) (fun _ _ _ _ _ => pts_nil)
      (fun _ _ _ _ _ => pe_bm PySem.F.plainAttrs_list PySem.F.slot_list_pop PySem.F.type_list_pop mt_popAt (pv 2) (pa_cons (pe_call G hr rfl gD FD.kp b .nil pass0 (pa_cons (pv 0) (pa_cons (pe_callB call_len rfl gN boot_len (pa_cons (pv 2) pa_nil)) pa_nil))) pa_nil))))), ?_⟩
  refine ⟨_, rfl, c, xs, rfl, .inl hc, fun p np => ?_⟩
  have kp := same_new (o := .lst xs) np
  have ap := hS.apart (Same.refl _) np
  refine ⟨_, rfl, .ref p, xs.length, rfl, .inl ⟨_, SqL.of upd_same, rfl⟩, _, rfl, by omega, by omega, fun q nq => ?_⟩
  have aq := hS.apart kp nq
  have pq : p ≠ q := fun z => by rw [← z, upd_same] at nq; cases nq
  have nq0 : H q = none := Same.free kp nq
  refine lc_range (n := xs.length) (fun i H' => ∃ done rest, H' q = some (.lst done) ∧ H' p = some (.lst rest) ∧ done.length = i ∧ (done ++ rest).Perm xs ∧ Strm H' l ls (N + i) ∧ But l ls H H')
    ⟨[], xs, upd_same, by rw [upd_ne pq]; exact upd_same, rfl, List.Perm.refl _, by simpa using ((hS.same kp).same (same_new nq)), But.of (kp.trans (same_new nq))⟩ ?_ ?_
  · rintro i H3 hi ⟨done, rest, oq, op, ln, pm, S3, B3⟩
    have hlen : done.length + rest.length = xs.length := by rw [← pm.length_eq, List.length_append]
    refine ⟨rfl, ?_⟩
    refine ⟨_, rfl, .inl ⟨rfl, _, SqL.of op⟩, _, rfl, _, rfl, .ref p, rest.length, rfl, .inl ⟨_, SqL.of op, rfl⟩, ?_⟩
    refine ⟨l, ls, _, _, rfl, S3, by omega, by omega, by omega, fun H4 r r0 r1 S4 B4 => ?_⟩
    have hr2 : r.toNat < rest.length := by omega
    have er : ((r.toNat : Nat) : Int) = r := by omega
    have ix0 : ixN rest.length r = some r.toNat := by
      unfold ixN
      rw [if_pos r0, if_pos r1]
    refine ⟨p, rest, r, r.toNat, rest[r.toNat], rfl, rfl, B4 _ _ ap.1 ap.2 op, by omega, by omega, (ixN_seq ix0).1, by simp, done, ?_, (by rw [sizeLine_eq]; omega), done ++ [rest[r.toNat]], rest.eraseIdx r.toNat, upd_same, ?_, by simp [ln], ?_, ?_, ?_⟩
    · rw [upd_ne (Ne.symm pq)]; exact B4 _ _ aq.1 aq.2 oq
    · rw [upd_ne pq, upd_same]
    · have z := pop_perm rest r.toNat rest[r.toNat] (by simp)
      rw [List.append_assoc]
      exact (List.Perm.append_left done z).trans pm
    · obtain ⟨cs, g, k, m, S⟩ := S4
      have e1 : N + ((i + 1 : Nat) : Int) = N + (i : Int) + 1 := by omega
      rw [e1]
      exact ⟨cs, g, k, m, by rw [upd_ne (Ne.symm aq.1), upd_ne (Ne.symm ap.1)]; exact S.o, by rw [upd_ne (Ne.symm aq.2), upd_ne (Ne.symm ap.2)]; exact S.c, S.ne, S.g0, S.k0, S.k1, S.m0, S.m1, S.sz⟩
    · intro b o h1 h2 e
      have nb : b ≠ q := ne_of_none e nq0
      have nb2 : b ≠ p := ne_of_none e np
      rw [upd_ne nb, upd_ne nb2]
      exact B4 _ _ h1 h2 (B3 _ _ h1 h2 e)
  · rintro H3 ⟨done, rest, oq, op, ln, pm, S3, B3⟩
    have hlen : done.length + rest.length = xs.length := by rw [← pm.length_eq, List.length_append]
    have er : rest = [] := List.eq_nil_of_length_eq_zero (by omega)
    subst er
    rw [List.append_nil] at pm
    exact hq H3 q done pm nq0 oq S3 B3
end
end L2.TB
namespace L2.TB
open PySem PySem.Spec PyProof.Rows
theorem Strm.mono {H : Hp} {l ls : Addr} {N M : Int} (h : Strm H l ls N) (le : N ≤ M) : Strm H l ls M := by
  obtain ⟨cs, g, k, m, S⟩ := h
  exact ⟨cs, g, k, m, S.o, S.c, S.ne, S.g0, S.k0, by have := S.k1; omega, S.m0, S.m1, S.sz⟩
/-- some of a mixed list -/
def spSome (K : PySem.W.Frag) : Sp := fun vs H Q _ => ∃ (l ls c : Addr) (xs : List V) (N : Int), vs = [.ref l, .ref c] ∧ Strm H l ls N ∧ N ≤ 800000 ∧ H c = some (.lst xs) ∧ c ≠ l ∧ c ≠ ls ∧ xs.length < 100 ∧
  ∀ H' q ys zs, (ys ++ zs).Perm xs → H q = none → H' q = some (.lst ys) → Strm H' l ls (N + 200) → But l ls H H' → Q (.ref q) H'
theorem scSome : FnScope ["stream", "names"] ["stream", "names"] (defScope sSome) := ⟨rfl, rfl, rfl, by decide +kernel, rfl, by decide +kernel, by decide +kernel⟩
theorem cut_to (xs : List V) (r : Int) (h0 : 0 ≤ r) (h1 : r < xs.length + 1) : cutV xs none (some r) = xs.take r.toNat := by
  have e1 : HT.sIx xs.length 0 none = 0 := rfl
  have e2 : HT.sIx xs.length xs.length (some r) = r.toNat := by
    unfold HT.sIx
    simp only []
    rw [if_neg (show ¬ r < 0 by omega)]
    omega
  unfold cutV
  rw [e1, e2]; simp
section
variable {P : Program} {w : World} {K : PySem.W.Frag} {mg : Str → Option Value} {base : Heap} {f fD fP fM : Addr} {fd fdD fdP fdM : FuncData}
theorem ok_some (F : Fun K "_law_t_some" "_law_t_some" sSome f fd) (FM : Fun K "_law_mixed" "_law_mixed" sMixed fM fdM) (gM : mg "_law_mixed" = some (.ref fM)) (FD : Fun K "_law_draw" "_law_draw" sDraw fD fdD)
    (gD : mg "_law_draw" = some (.ref fD)) (gI : mg "int" = none) (gN : mg "len" = none) (gL : mg "list" = none) (gR : mg "range" = none) : FnOk P w K mg base CX0 3 f fd ["stream", "names"] (spSome K) := by
  have G : FnOk P w K mg base CX0 1 fD fdD ["stream", "many"] spDraw := ok_draw FD gI
  have b := FD.binds (ps := ["stream", "many"]) fun _ _ _ _ _ _ us hl => match us, hl with | [_, _], _ => rfl
  have GM : FnOk P w K mg base CX0 2 fM fdM ["stream", "some"] (spMixed K) := ok_mixed FM FD gD gI gN gL gR
  have bM := FM.binds (ps := ["stream", "some"]) fun _ _ _ _ _ _ us hl => match us, hl with | [_, _], _ => rfl
  refine F.ok scSome (fun vs H Q E h => by obtain ⟨l, ls, c, xs, N, e, _⟩ := h; rw [e]; rfl) fun cdv A outer s H vs Q E hr hsp => ?_
  obtain ⟨l, ls, c, xs, N, rfl, hS, hN, hc, cl, cls, h1, hq⟩ := hsp
  refine ⟨_, pss_one (ps_ret (pe_slice sl_list (pe_call GM hr rfl gM FM.kp bM .nil pass0 (pa_cons (pv 0) (pa_cons (pv 1) pa_nil))) po_none (po_some (pe_call G (hr.mono (by decide)) rfl gD FD.kp b .nil pass0 (pa_cons (pv 0) (pa_cons (pe_op op_add (pe_callB call_len rfl gN boot_len (pa_cons (pv 1) pa_nil)) pe_int) pa_nil)))))), ?_⟩
  refine ⟨_, rfl, _, rfl, l, ls, c, xs, N, rfl, hS, by omega, SqL.of hc, by omega, fun H1 q ys pm nq oq S1 B1 => ?_⟩
  have aq := hS.apart (Same.refl _) nq
  have hcl := B1 _ _ cl cls hc
  refine ⟨_, rfl, _, rfl, .ref c, xs.length, rfl, .inl ⟨_, SqL.of hcl, rfl⟩, _, _, rfl, rfl, ?_⟩
  refine ⟨l, ls, _, _, rfl, S1, by omega, by omega, by omega, fun H2 r r0 r1 S2 B2 => ?_⟩
  refine ⟨r, rfl, q, ys, rfl, SqL.of (B2 _ _ aq.1 aq.2 oq), fun p np => ?_⟩
  have ly : ys.length = xs.length := pm.length_eq
  rw [cut_to ys r r0 (by rw [ly]; exact r1)]
  refine hq _ p (ys.take r.toNat) (ys.drop r.toNat) (by rw [List.take_append_drop]; exact pm) ?_ upd_same ((S2.same (same_new np)).mono (by omega)) ((B1.trans B2).trans (But.of (same_new np)))
  have ap := S2.apart (Same.refl _) np
  cases e : H p with
  | none => rfl
  | some o => have z := (B1.trans B2) _ _ ap.1 ap.2 e; rw [z] at np; cases np
end
end L2.TB
namespace L2.TB
open PySem PySem.Spec PyProof.Rows
def signsL : List Nat := (Str.ofString "abcdefghijklmnopqrstuvwxyz0123456789.").cps.toList
/-- a name that is_name lets pass -/
def NmOk (x : Str) : Prop := 1 ≤ x.cps.toList.length ∧ x.cps.toList.length ≤ 40 ∧ ∀ c ∈ x.cps.toList, c ∈ signsL
def wordL : List Nat := (Str.ofString "abcxyz019").cps.toList
def letL : List Nat := (Str.ofString "abcdefghijklmnopqrstuvwxyz").cps.toList
/-- a name as the law draws it -/
def NmS (x : Str) : Prop := NmOk x ∧ x.cps.toList.length ≤ 3
theorem word_sub : ∀ c ∈ wordL, c ∈ signsL := by decide +kernel
theorem let_sub : ∀ c ∈ letL, c ∈ signsL := by decide +kernel
theorem join_flat : ∀ cs : List Nat, TL.joinL [] (cs.map fun c => [c]) = cs
  | [] => rfl
  | [c] => rfl
  | c :: d :: r => by
    show [c] ++ ([] ++ TL.joinL [] ((d :: r).map fun c => [c])) = _
    rw [join_flat (d :: r)]; rfl
theorem join_cps (cs : List Nat) : (Txt.join (Str.ofString "") (cs.map fun c => (⟨#[c]⟩ : Str))).cps.toList = cs := by
  rw [TL.join_eq]
  have e := TL.tl_join (Str.ofString "") (cs.map fun c => (⟨#[c]⟩ : Str))
  have e2 : (cs.map fun c => (⟨#[c]⟩ : Str)).map TL.tl = cs.map fun c => [c] := by rw [List.map_map]; rfl
  have e3 : TL.tl (Str.ofString "") = [] := by decide +kernel
  rw [e2, e3, join_flat] at e
  exact e
/-- the spare names: a letter and q -/
def spare (c : Nat) : Str := (⟨#[c]⟩ : Str) ++ Str.ofString "q"
theorem spare_ok : ∀ c ∈ letL, NmS (spare c) := by
  unfold NmS NmOk
  decide +kernel
theorem spare_nd : (letL.map spare).Nodup := by decide +kernel
theorem str_inj (a b : Str) : eqV (.str a) (.str b) = decide (a = b) := by
  show (a == b) = _
  by_cases h : a = b
  · subst h; simp
  · rw [decide_eq_false h]; simpa using h
theorem inV_strs (x : Str) : ∀ xs : List Str, inV (.str x) (xs.map V.str) = decide (x ∈ xs)
  | [] => by simp [inV]
  | a :: xs => by
    have e := inV_strs x xs
    unfold inV at e ⊢
    rw [List.map_cons, List.any_cons, e, str_inj]
    by_cases h : a = x
    · subst h; simp
    · by_cases h2 : x ∈ xs
      · simp [h2]
      · simp [h, h2, Ne.symm h]
theorem flat_strs (xs : List Str) : (xs.map V.str).all flatV = true := by
  rw [List.all_map]; exact List.all_eq_true.mpr fun _ _ => rfl
/-- some spare name is not among the found ones -/
theorem spare_left (w : Str) (found : List Str) (h : found.length < 26) : ((w :: letL.map spare).filter fun x => decide (x ∉ found)) ≠ [] := by
  intro e
  have sub : ∀ x ∈ letL.map spare, x ∈ found := fun x hx => by
    by_cases h2 : x ∈ found
    · exact h2
    · have z : x ∈ (w :: letL.map spare).filter fun x => decide (x ∉ found) := List.mem_filter.mpr ⟨List.mem_cons_of_mem _ hx, by simp [h2]⟩
      rw [e] at z; cases z
  have le := List.Nodup.length_le_of_subset spare_nd (fun x hx => sub x hx)
  have e26 : (letL.map spare).length = 26 := by decide +kernel
  omega
def spNames : Sp := fun vs H Q _ => ∃ (l ls : Addr) (many N : Int), vs = [.ref l, .int many] ∧ Strm H l ls N ∧ N ≤ 900000 ∧ 0 ≤ many ∧ many ≤ 20 ∧
  ∀ H' q (ns : List Str), (ns.length : Int) = many → ns.Nodup → (∀ x ∈ ns, NmS x) → H q = none → H' q = some (.lst (ns.map V.str)) → Strm H' l ls (N + 5 * many) → But l ls H H' → Q (.ref q) H'
abbrev NN : List Str := ["stream", "many", "found", "k", "word", "spares", "sign", "letter", "one"]
theorem scNames : FnScope NN ["stream", "many"] (defScope sNames) := ⟨rfl, rfl, rfl, by decide +kernel, rfl, by decide +kernel, by decide +kernel⟩
section
variable {P : Program} {w : World} {K : PySem.W.Frag} {mg : Str → Option Value} {base : Heap} {f fD fP fM : Addr} {fd fdD fdP fdM : FuncData}
theorem ok_names (F : Fun K "_law_t_names" "_law_t_names" sNames f fd) (FP : Fun K "_law_pick" "_law_pick" sPick fP fdP) (gP : mg "_law_pick" = some (.ref fP)) (FD : Fun K "_law_draw" "_law_draw" sDraw fD fdD)
    (gD : mg "_law_draw" = some (.ref fD)) (gI : mg "int" = none) (gN : mg "len" = none) (gR : mg "range" = none) : FnOk P w K mg base CX0 3 f fd ["stream", "many"] spNames := by
  have G : FnOk P w K mg base CX0 1 fD fdD ["stream", "many"] spDraw := ok_draw FD gI
  have b := FD.binds (ps := ["stream", "many"]) fun _ _ _ _ _ _ us hl => match us, hl with | [_, _], _ => rfl
  have GP : FnOk P w K mg base CX0 2 fP fdP ["stream", "some"] spPickS := ok_pickS FP FD gD gI gN
  have bP := FP.binds (ps := ["stream", "some"]) fun _ _ _ _ _ _ us hl => match us, hl with | [_, _], _ => rfl
  refine F.ok scNames (fun vs H Q E h => by obtain ⟨l, ls, many, N, e, _⟩ := h; rw [e]; rfl) fun cdv A outer s H vs Q E hr hsp => ?_
  obtain ⟨l, ls, many, N, rfl, hS, hN, h0, h1, hq⟩ := hsp
  have nd := scNames.nd
  refine ⟨_, pss_cons (ps_set (i := 2) nd rfl (Or.inr rfl) (pe_lst pa_nil))
    (pss_cons (ps_for PassesOwn.never rfl (pi_range1 rfl gR (pa_cons (pv 1) pa_nil)) (pg_name (i := 3) nd rfl (Or.inl rfl))
      (pss_cons (ps_set (i := 4) nd rfl (Or.inl rfl) (pe_join pe_str (pe_lc (own := [("sign", 6)]) (tt := tYes) rfl nd (pi_range1 rfl gR (pa_cons (pe_op op_add pe_int (pe_call G (hr.mono (by decide)) rfl gD FD.kp b .nil pass0 (pa_cons (pv 0) (pa_cons pe_int pa_nil)))) pa_nil))
          (blkOk_by (N := NN) (sc := defScope sNames) (by decide +kernel)) (fun _ _ _ _ _ => pg_name (i := 6) nd rfl (Or.inl rfl)) (fun _ _ _ _ _ => pts_nil) (fun _ _ _ _ _ => pe_call GP hr rfl gP FP.kp bP .nil pass0 (pa_cons (pv 0) (pa_cons pe_str pa_nil))))))
      (pss_cons (ps_set (i := 5) nd rfl (Or.inl rfl) (pe_op op_cat (pe_lst (pa_cons (pv 4) pa_nil)) (pe_lc (own := [("letter", 7)]) (tt := tYes) rfl nd (pi_str pe_str) (blkOk_by (N := NN) (sc := defScope sNames) (by decide +kernel))
          (fun _ _ _ _ _ => pg_name (i := 7) nd rfl (Or.inl rfl)) (fun _ _ _ _ _ => pts_nil) (fun _ _ _ _ _ => pe_op op_add_str (pv 7) pe_str))))
      (pss_one (ps_expr (pe_bm PySem.F.plainAttrs_list PySem.F.slot_list_append PySem.F.type_list_append mt_append (pv 2) (pa_cons (pe_ix ix_list (pe_lc (own := [("one", 8)]) (tt := tTest (tOp (rIn K true) (tVar 8) (tVar 2))) rfl nd (pi_list (pv 5)) (blkOk_by (N := NN) (sc := defScope sNames) (by decide +kernel))
          (fun _ _ _ _ _ => pg_name (i := 8) nd rfl (Or.inl rfl)) (fun _ _ _ _ _ => pts_one (pt_cmpR op_notIn_seq (pv 8) (pv 2) rfl)) (fun _ _ _ _ _ => pv 8)) pe_int (fun _ _ => rfl)) pa_nil)))))))
    (pss_one (ps_ret (pv 2)))), ?_⟩
  refine ⟨Nat.zero_le _, fun q nq => ?_⟩
  have aq := hS.apart (Same.refl _) nq
  refine ⟨_, rfl, many, rfl, by omega, by omega, for_range (n := many.toNat) (fun i σ H' => ∃ ns : List Str, H' q = some (.lst (ns.map V.str)) ∧ ns.length = i ∧ ns.Nodup ∧ (∀ x ∈ ns, NmS x) ∧ Strm H' l ls (N + 5 * i) ∧ But l ls H H' ∧
    ∃ s3 s4 s5 s6 s7 s8, σ = [some (.ref l), some (.int many), some (.ref q), s3, s4, s5, s6, s7, s8])
    ⟨[], upd_same, rfl, .nil, fun x hx => by simp at hx, by simpa using hS.same (same_new nq), But.of (same_new nq), _, _, _, _, _, _, rfl⟩ ?_ ?_⟩
  · rintro i σ H1 hi ⟨ns, oq, ln, nn, nok, S1, B1, s3, s4, s5, s6, s7, s8, rfl⟩
    have hi2 : (i : Int) < 20 := by omega
    -- the word
    refine ⟨⟨_, rfl⟩, _, rfl, l, ls, 3, _, rfl, S1, by omega, by decide, by decide, fun H2 r r0 r1 S2 B2 => ?_⟩
    refine ⟨_, _, rfl, rfl, 1 + r, rfl, by omega, by omega, fun D nD => ?_⟩
    have aD := S2.apart (Same.refl _) nD
    refine lc_range (n := (1 + r).toNat) (fun j H' => ∃ cs : List Nat, H' D = some (.lst (cs.map fun c => V.str ⟨#[c]⟩)) ∧ cs.length = j ∧ (∀ c ∈ cs, c ∈ wordL) ∧ Strm H' l ls (N + 5 * i + 1 + j) ∧ But l ls H2 H')
      ⟨[], upd_same, rfl, fun c hc => by simp at hc, by simpa using S2.same (same_new nD), But.of (same_new nD)⟩ ?_ ?_
    · rintro j H3 hj ⟨cs, oD, lc, cok, S3, B3⟩
      refine ⟨rfl, ?_⟩
      refine ⟨_, rfl, l, ls, _, _, rfl, S3, by omega, by decide +kernel, by decide +kernel, fun H4 c hc S4 B4 => ?_⟩
      have oD4 := B4 _ _ aD.1 aD.2 oD
      refine ⟨_, oD4, (by rw [sizeLine_eq, List.length_map]; omega), cs ++ [c], by rw [upd_same]; simp, by simp [lc], ?_, ?_, ?_⟩
      · intro d hd
        rcases List.mem_append.mp hd with h | h
        · exact cok d h
        · obtain rfl : d = c := by simpa using h
          exact hc
      · obtain ⟨cs', g, k, m, S⟩ := S4
        exact Strm.mono ⟨cs', g, k, m, by rw [upd_ne (Ne.symm aD.1)]; exact S.o, by rw [upd_ne (Ne.symm aD.2)]; exact S.c, S.ne, S.g0, S.k0, S.k1, S.m0, S.m1, S.sz⟩ (by omega)
      · intro b o h1 h2 e
        have nb : b ≠ D := ne_of_none e nD
        rw [upd_ne nb]
        exact B4 _ _ h1 h2 (B3 _ _ h1 h2 e)
    · rintro H3 ⟨cs, oD, lc, cok, S3, B3⟩
      have lc3 : 1 ≤ cs.length ∧ cs.length ≤ 3 := by omega
      have em : (cs.map fun c => V.str ⟨#[c]⟩) = (cs.map fun c => (⟨#[c]⟩ : Str)).map V.str := by rw [List.map_map]; rfl
      rw [em] at oD
      have sums : ∀ l : List Nat, ((l.map fun c => (⟨#[c]⟩ : Str)).map (·.length)).sum = l.length := fun l => by
        induction l with
        | nil => rfl
        | cons a l ih => rw [List.map_cons, List.map_cons, List.sum_cons, ih, List.length_cons]; show 1 + _ = _; omega
      refine ⟨_, D, _, rfl, rfl, .inl (SqL.of oD), ?_, ?_⟩
      · rw [sums, List.length_map]; show cs.length + cs.length * 0 ≤ _; omega
      have hw : (Txt.join (Str.ofString "") (cs.map fun c => (⟨#[c]⟩ : Str))).cps.toList = cs := join_cps cs
      generalize Txt.join (Str.ofString "") (cs.map fun c => (⟨#[c]⟩ : Str)) = wd at hw
      have wok : NmS wd := by
        unfold NmS NmOk
        rw [hw]
        exact ⟨⟨lc3.1, by omega, fun c hc => word_sub c (cok c hc)⟩, by omega⟩
      have B13 := B2.trans B3
      have oq3 := B13 _ _ aq.1 aq.2 oq
      -- the spare names
      refine ⟨_, rfl, (by rw [sizeLine_eq]; show 1 ≤ _; omega), fun a1 n1 => ?_⟩
      have k1 := same_new (o := .lst [.str wd]) n1
      have e26 : (Str.ofString "abcdefghijklmnopqrstuvwxyz").cps.size = 26 := by decide +kernel
      have l26 : letL.length = 26 := by decide +kernel
      refine ⟨_, rfl, fun D2 nD2 => ⟨fun j m H' => m = 26 - j ∧ j ≤ 26 ∧ H' D2 = some (.lst ((letL.take j).map fun c => V.str (spare c))) ∧ Same (upd H3 a1 (.lst [.str wd])) H',
        ⟨26, rfl, by decide, upd_same, same_new nD2⟩, ?_⟩⟩
      rintro j m H4 ⟨rfl, hj, oD2, sm4⟩
      by_cases lt : j < 26
      · refine .inr ⟨(by show j < _; rw [e26]; exact lt), fun H' => H' D2 = some (.lst ((letL.take (j + 1)).map fun c => V.str (spare c))) ∧ Same (upd H3 a1 (.lst [.str wd])) H', fun H' h => ⟨26 - (j + 1), by omega, rfl, lt, h⟩, ?_⟩
        rintro v H' ⟨rfl, c, hc, rfl⟩
        have hc2 : letL[j]? = some c := by
          unfold letL
          rw [Array.getElem?_toList]; exact hc
        refine ⟨rfl, ?_⟩
        refine ⟨_, rfl, _, _, rfl, rfl, (by rw [sizeLine_eq]; show 1 + 1 ≤ _; omega), _, oD2, (by rw [sizeLine_eq, List.length_map, List.length_take]; omega), ?_, fun b o e => by rw [upd_ne (ne_of_none e nD2)]; exact sm4 b o e⟩
        rw [upd_same, List.take_succ, hc2]
        simp [spare]
      · have j26 : j = 26 := by omega
        refine .inl ⟨(by show _ ≤ j; rw [e26]; omega), ?_⟩
        have et : letL.take j = letL := List.take_of_length_le (by omega)
        rw [et] at oD2
        refine ⟨a1, D2, _, _, rfl, rfl, sm4 _ _ upd_same, oD2, (by rw [sizeLine_eq, List.length_map, l26]; show 1 + 26 ≤ _; omega), fun p np => ?_⟩
        have esp : [V.str wd] ++ letL.map (fun c => V.str (spare c)) = (wd :: letL.map spare).map V.str := by simp [List.map_map]
        rw [esp]
        have spl : (wd :: letL.map spare).length = 27 := by rw [List.length_cons, List.length_map, l26]
        have spok : ∀ x ∈ (wd :: letL.map spare), NmS x := fun x hx => by
          rcases List.mem_cons.mp hx with h | h
          · rw [h]; exact wok
          · obtain ⟨c, hc, rfl⟩ := List.mem_map.mp h
            exact spare_ok c hc
        have hne := spare_left wd ns (by omega)
        generalize wd :: letL.map spare = sp at spl spok hne
        have k5 := same_new (o := .lst (sp.map V.str)) np
        have k35 := (k1.trans sm4).trans k5
        refine ⟨_, rfl, .inl ⟨rfl, _, SqL.of (k35 _ _ oq3)⟩, _, rfl, p, rfl, ⟨_, SqL.of upd_same⟩, fun D3 nD3 => ?_⟩
        refine lc_list (xs := sp.map V.str) (fun j H' => H' D3 = some (.lst (((sp.take j).filter fun x => decide (x ∉ ns)).map V.str)) ∧ Same (upd H4 p (.lst (sp.map V.str))) H')
          ⟨by rw [upd_same]; rfl, same_new nD3⟩ (fun j H' _ h => SqL.of (h.2 _ _ upd_same)) ?_ ?_
        · rintro j v H6 ev ⟨oD3, sm6⟩
          rw [List.getElem?_map] at ev
          obtain ⟨x, ex, rfl⟩ := Option.map_eq_some_iff.mp ev
          have et2 : sp.take (j + 1) = sp.take j ++ [x] := by rw [List.take_succ, ex]; rfl
          refine ⟨rfl, ?_⟩
          refine ⟨_, rfl, _, rfl, q, ns.map V.str, rfl, .inl (SqL.of (sm6 _ _ (k35 _ _ oq3))), rfl, flat_strs ns, _, rfl, ?_⟩
          rw [inV_strs]
          by_cases hx : x ∈ ns
          · rw [decide_eq_true hx]
            refine iteF ?_
            refine ⟨?_, sm6⟩
            rw [et2, List.filter_append]
            simpa [hx] using oD3
          · rw [decide_eq_false hx]
            refine iteT ?_
            refine ⟨_, rfl, _, oD3, ?_, ?_, fun b o e => by rw [upd_ne (ne_of_none e nD3)]; exact sm6 b o e⟩
            · have z := List.length_filter_le (fun x => decide (x ∉ ns)) (sp.take j)
              rw [List.length_take] at z
              rw [sizeLine_eq, List.length_map]; omega
            · rw [upd_same, et2, List.filter_append]
              simp [hx]
        · rintro H6 ⟨oD3, sm6⟩
          have ef : sp.take (sp.map V.str).length = sp := List.take_of_length_le (by rw [List.length_map]; omega)
          rw [ef] at oD3
          have oq6 := sm6 _ _ (k35 _ _ oq3)
          cases efl : sp.filter fun x => decide (x ∉ ns) with
          | nil => exact absurd efl hne
          | cons y rest =>
            rw [efl] at oD3
            have hy : y ∈ sp.filter fun x => decide (x ∉ ns) := by rw [efl]; exact List.mem_cons_self
            obtain ⟨hy1, hy2⟩ := List.mem_filter.mp hy
            have hy3 : y ∉ ns := by simpa using hy2
            refine ⟨D3, _, 0, .str y, rfl, rfl, SqL.of oD3, atI_nat (j := 0) (by simp), ?_⟩
            refine ⟨q, ns.map V.str, .str y, rfl, rfl, oq6, (by rw [sizeLine_eq, List.length_map]; omega), ns ++ [y], by rw [upd_same]; simp, by simp [ln], ?_, ?_, ?_, ?_, _, _, _, _, _, _, rfl⟩
            · rw [List.nodup_append]
              exact ⟨nn, by simp, fun a ha b hb => by
                obtain rfl : b = y := by simpa using hb
                exact fun z => hy3 (z ▸ ha)⟩
            · intro x hx
              rcases List.mem_append.mp hx with h | h
              · exact nok x h
              · obtain rfl : x = y := by simpa using h
                exact spok _ hy1
            · obtain ⟨cs', g, k, m, S⟩ := (S3.same k35).same sm6
              exact Strm.mono ⟨cs', g, k, m, by rw [upd_ne (Ne.symm aq.1)]; exact S.o, by rw [upd_ne (Ne.symm aq.2)]; exact S.c, S.ne, S.g0, S.k0, S.k1, S.m0, S.m1, S.sz⟩ (by omega)
            · intro b o h1 h2 e
              have nb : b ≠ q := ne_of_none e nq
              rw [upd_ne nb]
              exact sm6 _ _ (k35 _ _ (B13 _ _ h1 h2 (B1 _ _ h1 h2 e)))
  · rintro σ H1 ⟨ns, oq, ln, nn, nok, S1, B1, s3, s4, s5, s6, s7, s8, rfl⟩
    have em : ((many.toNat : Nat) : Int) = many := by omega
    rw [em] at S1
    exact ⟨_, rfl, hq H1 q ns (by omega) nn nok nq oq S1 B1⟩
end
end L2.TB
namespace L2.TB
open PySem PySem.Spec PyProof.Rows
theorem paired_snoc {α β : Type} {F : α → β → Prop} {x : α} {y : β} (h : F x y) : ∀ {xs : List α} {ys : List β}, Paired F xs ys → Paired F (xs ++ [x]) (ys ++ [y])
  | _, _, .nil => .cons h .nil
  | _, _, .cons r t => .cons r (paired_snoc h t)
theorem paired_map {α β γ : Type} {F : α → γ → Prop} {g : β → γ} : ∀ {xs : List α} {ys : List β}, Paired (fun x y => F x (g y)) xs ys → Paired F xs (ys.map g)
  | _, _, .nil => .nil
  | _, _, .cons r t => .cons r (paired_map t)
/-- the pairs of a row: names and ints -/
def dk (ns : List Str) (vs : List Int) : List (Key × V) := (ns.zip vs).map fun p => (Sum.inr p.1, V.int p.2)
theorem merge_new : ∀ (more acc : List (Key × V)), ((acc ++ more).map (·.1)).Nodup → mergeK acc more = acc ++ more
  | [], acc, _ => by simp [mergeK]
  | p :: more, acc, h => by
    have hn : valV acc p.1 = none := by
      cases e : valV acc p.1 with
      | none => rfl
      | some v =>
        exfalso
        have z : (valV acc p.1).isSome = true := by rw [e]; rfl
        rw [← valV_any, List.any_eq_true] at z
        obtain ⟨q, hq, hq2⟩ := z
        have hq3 : q.1 = p.1 := of_decide_eq_true hq2
        rw [List.map_append, List.nodup_append] at h
        exact h.2.2 q.1 (List.mem_map_of_mem hq) p.1 (List.mem_map_of_mem List.mem_cons_self) hq3
    show mergeK (putK acc p.1 p.2) more = _
    rw [putK_new p.2 hn, merge_new more _ (by rw [List.append_assoc]; exact h), List.append_assoc]
    rfl
theorem merge_nd {kvs : List (Key × V)} (h : (kvs.map (·.1)).Nodup) : mergeK [] kvs = kvs := by
  rw [merge_new kvs [] (by simpa using h), List.nil_append]
theorem dk_keys {ns : List Str} {vs : List Int} (h : ns.length = vs.length) : (dk ns vs).map (·.1) = ns.map Sum.inr := by
  unfold dk
  rw [List.map_map]
  have e : ((fun x => x.1) ∘ fun p : Str × Int => ((Sum.inr p.1 : Key), V.int p.2)) = (fun p : Str × Int => (Sum.inr p.1 : Key)) := rfl
  rw [e]
  have e2 : (ns.zip vs).map (fun p : Str × Int => (Sum.inr p.1 : Key)) = ((ns.zip vs).map Prod.fst).map Sum.inr := by rw [List.map_map]; rfl
  rw [e2, List.map_fst_zip (by omega)]
theorem dk_nd {ns : List Str} {vs : List Int} (h : ns.length = vs.length) (nd : ns.Nodup) : ((dk ns vs).map (·.1)).Nodup := by
  rw [dk_keys h]
  exact List.Pairwise.map Sum.inr (fun a b h e => h (Sum.inr.inj e)) nd
/-- rows as they are drawn: at as dicts with the names ns and the ints of tbl -/
def RowsAt (H : Hp) (l ls : Addr) (ns : List Str) : List Addr → List (List Int) → Prop :=
  Paired fun a vs => H a = some (.dK (dk ns vs)) ∧ vs.length = ns.length ∧ a ≠ l ∧ a ≠ ls
theorem RowsAt.but {H H' : Hp} {l ls : Addr} {ns : List Str} {as : List Addr} {tbl : List (List Int)} (r : RowsAt H l ls ns as tbl) (b : But l ls H H') : RowsAt H' l ls ns as tbl :=
  Paired.mapP r fun a vs h => ⟨b _ _ h.2.2.1 h.2.2.2 h.1, h.2⟩
def spRows : Sp := fun vs H Q _ => ∃ (l ls : Addr) (many rows values N : Int), vs = [.ref l, .int many, .int rows, .int values] ∧ Strm H l ls N ∧ N ≤ 500000 ∧ 0 < many ∧ many ≤ 10 ∧ 0 < rows ∧ rows ≤ 20 ∧ 0 < values ∧ values ≤ 100 ∧
  ∀ H' q as ns tbl, (ns : List Str).length ≤ 10 → ns ≠ [] → ns.Nodup → (∀ x ∈ ns, NmS x) → (((tbl : List (List Int)).length : Nat) : Int) ≤ rows → tbl ≠ [] → (∀ u ∈ tbl, ∀ z ∈ u, -1 ≤ z ∧ z + 2 ≤ values) → H q = none → q ≠ l → q ≠ ls → H' q = some (.lst (as.map V.ref)) → RowsAt H' l ls ns as tbl →
    Strm H' l ls (N + 1000) → But l ls H H' → Q (.ref q) H'
abbrev NR : List Str := ["stream", "many", "rows", "values", "names", "found", "k", "name"]
theorem scRows : FnScope NR ["stream", "many", "rows", "values"] (defScope sRows) := ⟨rfl, rfl, rfl, by decide +kernel, rfl, by decide +kernel, by decide +kernel⟩
section
variable {P : Program} {w : World} {K : PySem.W.Frag} {mg : Str → Option Value} {base : Heap} {f fD fP fN : Addr} {fd fdD fdP fdN : FuncData}
theorem ok_rows (F : Fun K "_law_t_rows" "_law_t_rows" sRows f fd) (FN : Fun K "_law_t_names" "_law_t_names" sNames fN fdN) (gNm : mg "_law_t_names" = some (.ref fN)) (FP : Fun K "_law_pick" "_law_pick" sPick fP fdP) (gP : mg "_law_pick" = some (.ref fP)) (FD : Fun K "_law_draw" "_law_draw" sDraw fD fdD)
    (gD : mg "_law_draw" = some (.ref fD)) (gI : mg "int" = none) (gN : mg "len" = none) (gR : mg "range" = none) (gDi : mg "dict" = none) : FnOk P w K mg base CX0 4 f fd ["stream", "many", "rows", "values"] spRows := by
  have G : FnOk P w K mg base CX0 1 fD fdD ["stream", "many"] spDraw := ok_draw FD gI
  have b := FD.binds (ps := ["stream", "many"]) fun _ _ _ _ _ _ us hl => match us, hl with | [_, _], _ => rfl
  have GN : FnOk P w K mg base CX0 3 fN fdN ["stream", "many"] spNames := ok_names FN FP gP FD gD gI gN gR
  have bN := FN.binds (ps := ["stream", "many"]) fun _ _ _ _ _ _ us hl => match us, hl with | [_, _], _ => rfl
  refine F.ok scRows (fun vs H Q E h => by obtain ⟨l, ls, a, b, c, N, e, _⟩ := h; rw [e]; rfl) fun cdv A outer s H vs Q E hr hsp => ?_
  obtain ⟨l, ls, many, rws, vals, N, rfl, hS, hN, m0, m1, w0, w1, v0, v1, hq⟩ := hsp
  have nd := scRows.nd
  refine ⟨_, pss_cons (ps_par (i := 4) (j := 5) rfl nd rfl rfl (by decide) rfl rfl (pa_cons (pe_call GN hr rfl gNm FN.kp bN .nil pass0 (pa_cons (pv 0) (pa_cons (pe_op op_add pe_int (pe_call G (hr.mono (by decide)) rfl gD FD.kp b .nil pass0 (pa_cons (pv 0) (pa_cons (pv 1) pa_nil)))) pa_nil))) (pa_cons (pe_lst pa_nil) pa_nil)) (by rfl))
    (pss_cons (ps_for PassesOwn.never rfl (pi_range1 rfl gR (pa_cons (pe_op op_add pe_int (pe_call G (hr.mono (by decide)) rfl gD FD.kp b .nil pass0 (pa_cons (pv 0) (pa_cons (pv 2) pa_nil)))) pa_nil)) (pg_name (i := 6) nd rfl (Or.inl rfl))
      (pss_one (ps_expr (pe_bm PySem.F.plainAttrs_list PySem.F.slot_list_append PySem.F.type_list_append mt_append (pv 5) (pa_cons (pe_callTy (call_dictP rfl) rfl gDi (by decide +kernel) (pa_cons (pe_lc (own := [("name", 7)]) (tt := tYes) rfl nd (pi_list (pv 4)) (blkOk_by (N := NR) (sc := defScope sRows) (by decide +kernel))
        (fun _ _ _ _ _ => pg_name (i := 7) nd rfl (Or.inl rfl)) (fun _ _ _ _ _ => pts_nil) (fun _ _ _ _ _ => pe_tup (pa_cons (pv 7) (pa_cons (pe_op op_sub (pe_call G (hr.mono (by decide)) rfl gD FD.kp b .nil pass0 (pa_cons (pv 0) (pa_cons (pv 3) pa_nil))) pe_int) pa_nil)))) pa_nil)) pa_nil)))))
    (pss_one (ps_ret (pv 5)))), ?_⟩
  refine ⟨_, rfl, _, rfl, _, rfl, l, ls, many, N, rfl, hS, by omega, by omega, by omega, fun H1 r r0 r1 S1 B1 => ?_⟩
  refine ⟨_, _, rfl, rfl, l, ls, 1 + r, N + 1, rfl, S1, by omega, by omega, by omega, fun H2 c ns lns nds oks nc oc S2 B2 => ?_⟩
  have ac := S1.apart (Same.refl _) nc
  have nl : 1 ≤ ns.length ∧ ns.length ≤ 10 := by omega
  refine ⟨Nat.zero_le _, fun q nq => ?_⟩
  have aq := S2.apart (Same.refl _) nq
  have S2' : Strm H2 l ls (N + 60) := S2.mono (by omega)
  have B12 := B1.trans B2
  have cq : c ≠ q := fun z => by rw [z, nq] at oc; cases oc
  refine ⟨_, _, rfl, ?_⟩
  refine ⟨_, rfl, _, rfl, l, ls, rws, _, rfl, S2'.same (same_new nq), by omega, w0, by omega, fun H3 r' r0' r1' S3 B3 => ?_⟩
  have oc3 := B3 _ _ ac.1 ac.2 (same_new nq _ _ oc)
  have oq3 := B3 _ _ aq.1 aq.2 (upd_same (H := H2) (a := q) (o := .lst []))
  have B03 : But l ls H H3 := (B12.trans (But.of (same_new nq))).trans B3
  refine ⟨_, _, rfl, rfl, 1 + r', rfl, by omega, by omega, for_range (n := (1 + r').toNat) (fun i σ H' => (∃ as tbl, H' q = some (.lst ((as : List Addr).map V.ref)) ∧ RowsAt H' l ls ns as tbl ∧ tbl.length = i ∧ ∀ u ∈ tbl, ∀ z ∈ u, -1 ≤ z ∧ z + 2 ≤ vals) ∧ H' c = some (.lst (ns.map V.str)) ∧ Strm H' l ls (N + 70 + 12 * i) ∧ But l ls H H' ∧
    ∃ s6 s7, σ = [some (.ref l), some (.int many), some (.int rws), some (.int vals), some (.ref c), some (.ref q), s6, s7]) ⟨⟨[], [], oq3, .nil, rfl, fun u hu => by cases hu⟩, oc3, S3.mono (by omega), B03, _, _, rfl⟩ ?_ ?_⟩
  · rintro i σ H4 hi ⟨⟨as, tbl, oq4, R4, lt4, bd4⟩, oc4, S4, B4, s6, s7, rfl⟩
    have hi2 : (i : Int) < 20 := by omega
    refine ⟨_, rfl, .inl ⟨rfl, _, SqL.of oq4⟩, _, rfl, c, rfl, ⟨_, SqL.of oc4⟩, fun D nD => ?_⟩
    have aD := S4.apart (Same.refl _) nD
    have Dq : D ≠ q := fun z => by rw [z, oq4] at nD; cases nD
    refine lc_list (xs := ns.map V.str) (fun j H' => ∃ ps vs, H' D = some (.lst ((ps : List Addr).map V.ref)) ∧ Paired (fun p (kv : Str × Int) => H' p = some (.tup [.str kv.1, .int kv.2]) ∧ p ≠ l ∧ p ≠ ls) ps ((ns.take j).zip vs) ∧ vs.length = j ∧ (∀ z ∈ vs, -1 ≤ z ∧ z + 2 ≤ vals) ∧
      Strm H' l ls (N + 70 + 12 * i + j) ∧ But l ls H4 H') ⟨[], [], upd_same, .nil, rfl, (fun z hz => by cases hz), by simpa using S4.same (same_new nD), But.of (same_new nD)⟩ (fun j H' _ h => SqL.of (h.choose_spec.choose_spec.2.2.2.2.2 _ _ ac.1 ac.2 oc4)) ?_ ?_
    · rintro j v H5 ev ⟨ps, vs, oD, pr, lv, bv, S5, B5⟩
      rw [List.getElem?_map] at ev
      obtain ⟨x, ex, rfl⟩ := Option.map_eq_some_iff.mp ev
      have hj : j < ns.length := (List.getElem?_eq_some_iff.mp ex).1
      have et : ns.take (j + 1) = ns.take j ++ [x] := by rw [List.take_succ, ex]; rfl
      refine ⟨rfl, ?_⟩
      refine ⟨_, rfl, _, rfl, _, rfl, l, ls, vals, _, rfl, S5, by omega, v0, by omega, fun H6 z z0 z1 S6 B6 => ?_⟩
      refine ⟨_, _, rfl, rfl, (by rw [sizeLine_eq]; show 2 ≤ _; omega), fun p np => ?_⟩
      have ap := S6.apart (Same.refl _) np
      have k6 := same_new (o := .tup [.str x, .int (z - 1)]) np
      have oD6 := B6 _ _ aD.1 aD.2 oD
      have pD : p ≠ D := fun y => by rw [y, oD6] at np; cases np
      have lps : ps.length = j := by
        have e := Paired.length pr
        rw [List.length_zip, List.length_take] at e
        omega
      refine ⟨_, k6 _ _ oD6, (by rw [sizeLine_eq, List.length_map]; omega), ps ++ [p], vs ++ [z - 1], by rw [upd_same]; simp, ?_, by simp [lv], (fun y hy => by
        rcases List.mem_append.mp hy with hy | hy
        · exact bv y hy
        · rw [List.mem_singleton] at hy; omega), ?_, ?_⟩
      · rw [et, List.zip_append (by rw [List.length_take]; omega)]
        refine paired_snoc ⟨by rw [upd_ne pD, upd_same], ap⟩ (Paired.mapP pr fun a kv h => ⟨?_, h.2⟩)
        have na : a ≠ D := fun y => by rw [y, oD] at h; cases h.1
        rw [upd_ne na]
        exact k6 _ _ (B6 _ _ h.2.1 h.2.2 h.1)
      · obtain ⟨cs', g, k, m, S⟩ := S6.same k6
        exact Strm.mono ⟨cs', g, k, m, by rw [upd_ne (Ne.symm aD.1)]; exact S.o, by rw [upd_ne (Ne.symm aD.2)]; exact S.c, S.ne, S.g0, S.k0, S.k1, S.m0, S.m1, S.sz⟩ (by omega)
      · intro b' o h1 h2 e
        have nb : b' ≠ D := ne_of_none e nD
        rw [upd_ne nb]
        exact k6 _ _ (B6 _ _ h1 h2 (B5 _ _ h1 h2 e))
    · rintro H5 ⟨ps, vs, oD, pr, lv, bv, S5, B5⟩
      have etk : ns.take (ns.map V.str).length = ns := List.take_of_length_le (by rw [List.length_map]; omega)
      rw [etk] at pr
      have lv2 : vs.length = ns.length := by rw [lv, List.length_map]
      refine ⟨D, ps, dk ns vs, rfl, SqL.of oD, paired_map (Paired.mapP pr fun p kv h => SqT.of h.1), fun p np => ?_⟩
      rw [merge_nd (dk_nd lv2.symm nds)]
      have ap := S5.apart (Same.refl _) np
      have k5 := same_new (o := .dK (dk ns vs)) np
      have oq5 := k5 _ _ (B5 _ _ aq.1 aq.2 oq4)
      have las : as.length = i := by rw [Paired.length R4, lt4]
      have pq : p ≠ q := fun y => by rw [y, B5 _ _ aq.1 aq.2 oq4] at np; cases np
      have B6 : But l ls (upd H5 p (.dK (dk ns vs))) (upd (upd H5 p (.dK (dk ns vs))) q (.lst (as.map V.ref ++ [.ref p]))) → True := fun _ => trivial
      refine ⟨q, as.map V.ref, .ref p, rfl, rfl, oq5, (by rw [sizeLine_eq, List.length_map]; omega), ⟨as ++ [p], tbl ++ [vs], by rw [upd_same]; simp, ?_, by simp [lt4], fun u hu => by
        rcases List.mem_append.mp hu with hu | hu
        · exact bd4 u hu
        · rw [List.mem_singleton] at hu; rw [hu]; exact bv⟩, ?_, ?_, ?_, _, _, rfl⟩
      · refine paired_snoc ⟨by rw [upd_ne pq, upd_same], lv2, ap⟩ (Paired.mapP R4 fun a vs' h => ⟨?_, h.2⟩)
        have na : a ≠ q := fun y => by rw [y, oq4] at h; cases h.1
        rw [upd_ne na]
        exact k5 _ _ (B5 _ _ h.2.2.1 h.2.2.2 h.1)
      · rw [upd_ne cq]
        exact k5 _ _ (B5 _ _ ac.1 ac.2 oc4)
      · obtain ⟨cs', g, k, m, S⟩ := S5.same k5
        have lx : (ns.map V.str).length ≤ 10 := by rw [List.length_map]; omega
        exact Strm.mono ⟨cs', g, k, m, by rw [upd_ne (Ne.symm aq.1)]; exact S.o, by rw [upd_ne (Ne.symm aq.2)]; exact S.c, S.ne, S.g0, S.k0, S.k1, S.m0, S.m1, S.sz⟩ (by omega)
      · intro b' o h1 h2 e
        have nb : b' ≠ q := fun y => by
          have z := B12 _ _ h1 h2 e
          rw [y, nq] at z; cases z
        rw [upd_ne nb]
        exact k5 _ _ (B5 _ _ h1 h2 (B4 _ _ h1 h2 e))
  · rintro σ H4 ⟨⟨as, tbl, oq4, R4, lt4, bd4⟩, oc4, S4, B4, s6, s7, rfl⟩
    have nq0 : H q = none := by
      cases e : H q with
      | none => rfl
      | some o => have z := B12 _ _ aq.1 aq.2 e; rw [nq] at z; cases z
    have nn : ns ≠ [] := fun z => by rw [z] at nl; simp at nl
    have tn : tbl ≠ [] := fun z => by rw [z] at lt4; simp at lt4; omega
    exact ⟨_, rfl, hq H4 q as ns tbl nl.2 nn nds oks (by omega) tn bd4 nq0 aq.1 aq.2 oq4 R4 (S4.mono (by omega)) B4⟩
end
end L2.TB
namespace L2.TB
open PySem
open PySem.Spec PyProof.Rows
/-! for i, x in enumerate(thing), thing a list or a tuple -/
abbrev tupIter (t : Addr) : Obj := { cls := .type "tuple_iterator", data := .fields #[.ref t, .int 0 0] }
abbrev enumRec (q : Addr) : Obj := { cls := .type "enumerate", data := .fields #[.none, .bool false, .ref q, rawInt 0, .none, .none] }
section
variable {P : Program} {w : World}
/-- what enumerate's maker does with a tuple -/
theorem made_enum (t : Addr) (ys : Array Value) : Meets (Builtin.«enumerate.__new__» ⟨[.type "enumerate", .ref t], []⟩) fun _ done z =>
    z.heap.IsTuple t ys ∧ done (.ok (.ret (.ref (z.heap.push (tupIter t)).objs.size))) { z with heap := (z.heap.push (tupIter t)).push (enumRec z.heap.objs.size) } :=
  .of_wp fun _ _ _ _ z hz => by
    obtain ⟨h0, gs, ds, tk, os⟩ := z
    obtain ⟨isT, fin⟩ := hz
    have sub := sub_enumerate
    have step : ∀ {A' : Around} {E' : Value → Shared → Prop} {Q' : Value → Shared → Prop} {P' : Program} {w' : World}, Q' (.ref h0.objs.size) ⟨h0.push (tupIter t), gs, ds, tk, os⟩ → wpAny (model P' w') A' (pyIter (.ref t)) Q' E' ⟨h0, gs, ds, tk, os⟩ :=
      fun more => wpAny_pyIter_tuple (s := ⟨h0, gs, ds, tk, os⟩) isT more
    wp_walk using step
    refine wpAny_stack_any (fun _ => wpAny_pure ?_)
    split
    · rename_i c _ _ _ _ _
      rcases (c == Value.type "enumerate") with _ | _ <;> (wp_walk using step; exact ⟨_, rfl, fin⟩)
    · wp_walk using step
      exact ⟨_, rfl, fin⟩
/-- the call -/
theorem enum_of_tuple {A : Around} {z : Shared} {E Q : Value → Shared → Prop} {t : Addr} {ys : Array Value} (isT : z.heap.IsTuple t ys)
    (more : IsEnum ((z.heap.push (tupIter t)).push (enumRec z.heap.objs.size)) (z.heap.objs.size + 1) z.heap.objs.size 0 .none →
      Q (.ref (z.heap.objs.size + 1)) { z with heap := (z.heap.push (tupIter t)).push (enumRec z.heap.objs.size) }) : wpAny (model P w) A (call (.type "enumerate") [.ref t]) Q E z := by
  refine callType_new F.called_enumerate (by decide) (F.typeCall_enumerate_1 _) (F.newCall_enumerate_1 _) (fun b => F.args_object_init_2 b _) F.entry_enumerate_new (made_enum t ys) ⟨isT, ?_⟩
  have size1 : (z.heap.push (tupIter t)).objs.size = z.heap.objs.size + 1 := Heap.size_push ..
  have rec1 := Heap.get?_push_size (z.heap.push (tupIter t)) (o := enumRec z.heap.objs.size) rfl
  rw [size1] at rec1
  show _ ∧ _
  rw [size1]
  exact ⟨⟨_, rec1, rfl⟩, more rec1⟩
end
/-- the items of the tuple at t, each in a new pair with its number -/
def IteT (K : PySem.W.Frag) (t : Addr) : It where
  go i H := ∃ (ys : List V) (y : V), SqT K H t ys ∧ ys[i]? = some y
  yld i H v H' := ∃ T y, v = .ref T ∧ H T = none ∧ H' = upd H T (.tup [.int (i : Nat), y]) ∧ ∀ ys, SqT K H t ys → ys[i]? = some y
  stop i H := ∃ ys : List V, SqT K H t ys ∧ ys.length ≤ i
/-- three records of three classes stand at three places -/
theorem three {h : Heap} {t q r : Addr} {ys : Array Value} {i : Nat} {c : Int} {old : Value} (isT : h.IsTuple t ys) (isQ : h.IsTupleIter q t i) (isR : IsEnum h r q c old) : t ≠ q ∧ r ≠ t := by
  obtain ⟨ot, gt, ct, _⟩ := isT
  obtain ⟨oq, gq, cq, _⟩ := isQ
  have ct : ot.cls = Value.type "tuple" := ct
  have cq : oq.cls = Value.type "tuple_iterator" := cq
  constructor
  · rintro rfl
    rw [gt] at gq
    injection gq with same
    rw [← same, ct] at cq
    exact absurd cq (by decide)
  · rintro rfl
    have gr := isR
    unfold IsEnum at gr
    rw [gt] at gr
    injection gr with same
    rw [same] at ct
    exact absurd (show Value.type "enumerate" = Value.type "tuple" from ct) (by decide)
theorem two_of {b r q : Addr} {p : Addr → Prop} (hr : p r) (hq : p q) (hb : b ∈ [r, q]) : p b := by
  rcases List.mem_cons.mp hb with rfl | hb
  · exact hr
  · obtain rfl := List.mem_singleton.mp hb
    exact hq
theorem turn_enumT {P : Program} {w : World} {K : PySem.W.Frag} {elts : List Expr} {kk : Nat} {tpos : Pos} (t r q : Addr) :
    Turn P w K (.Tuple elts kk tpos) (IteT K t) [r, q] r (fun i h => r ≠ q ∧ h.IsTupleIter q t i ∧ ∃ old, IsEnum h r q ((i : Nat) : Int) old) := by
  refine ⟨List.mem_cons_self, fun i h st b hb => ?_, fun i h h' st same => ?_, ?_, ?_, fun A i z Q E st more => ?_⟩
  · obtain ⟨_, ⟨oq, gq, _, dq⟩, old, gr⟩ := st
    exact two_of (p := fun b => ∃ o, h.get? b = some o ∧ ∀ v, o.data ≠ .cell v) ⟨_, gr, fun _ e => nomatch e⟩ ⟨oq, gq, fun _ e => by rw [dq] at e; exact nomatch e⟩ hb
  · obtain ⟨ne, gq, old, gr⟩ := st
    exact ⟨ne, gq.at fun o e => same q (List.mem_cons_of_mem _ List.mem_cons_self) o e, old, same r List.mem_cons_self _ gr⟩
  · rintro X rfl rfl rfl calm i pins z σ H E I room ⟨ne, gq, old, gr⟩ ⟨ys, y, isY, nth⟩
    obtain ⟨vs, rel, isT, _⟩ := I.tuple isY
    obtain ⟨v, nthV, relV⟩ := rel.get nth
    have isT : z.heap.IsTuple t vs.toArray := isT
    obtain ⟨tq, rt⟩ := three isT gq gr
    have lr : r < z.heap.objs.size := Heap.lt_size gr
    have lq : q < z.heap.objs.size := gq.elim fun _ e => Heap.lt_size e.1
    have inside : i < vs.toArray.size := by
      have := (List.getElem?_eq_some_iff.mp nthV).1
      simpa using this
    have draws := Draws.tuple (prog := X.prog) (w := X.w) (A := X.A.in1) (I.ok.hd calm) q t tq vs.toArray
    refine wpAny_pyNext_enum_itemC draws gr ⟨gq, isT⟩ inside ne (fun m => two_of (p := fun b => r = b → False) ne rt m rfl) fun v' h1 tk hv out stQ newT _ kept1 => ?_
    obtain rfl : v' = v := by
      have hv : vs.toArray[i]? = some v' := hv
      rw [List.getElem?_toArray, nthV] at hv
      exact (Option.some.inj hv).symm
    refine ⟨_, rfl, wpAny_letOwnedTupleGo_enum (s := { z with heap := h1, toks := tk + 1 }) out fun h2 back same2 => ?_⟩
    have at2 : ∀ b o, b ∉ [r, q] → z.heap.get? b = some o → h2.get? b = some o := fun b o away e =>
      (same2.2 b fun k => away (k ▸ List.mem_cons_self)).trans (kept1 b o (fun k => away (k ▸ List.mem_cons_self)) (fun k => away (k ▸ List.mem_cons_of_mem _ List.mem_cons_self)) e)
    have pair : ObjOk X.prog X.w (upd H z.heap.objs.size (.tup [.int (i : Nat), y])) h2 z.heap.objs.size (.tup [.int (i : Nat), y]) :=
      ⟨show 2 ≤ sizeLine by decide, [.int i tk, v'], .cons ⟨tk, rfl⟩ (.cons relV .nil), _, (same2.2 _ (Nat.ne_of_gt lr)).trans newT, rfl, _, rfl⟩
    refine ⟨.ref z.heap.objs.size, _, I.turnedNew (t' := tk + 1) at2 room (Nat.le_refl _) pair, rfl, ⟨_, y, rfl, I.hok.fresh (Nat.le_refl _), rfl, fun ys' is' => ?_⟩, ⟨ne, ?_, v', ?_⟩, fun b hb => ?_⟩
    · rw [I.tuple_inj is' isY]; exact nth
    · exact stQ.1.at fun o e => (same2.2 q ne.symm).trans e
    · rw [show ((i + 1 : Nat) : Int) = (i : Int) + 1 from by omega]; exact back
    · have lb : b < z.heap.objs.size := two_of (p := fun b => b < z.heap.objs.size) lr lq hb
      rw [upd_ne (Nat.ne_of_lt lb)]
      exact (room b hb).1
  · rintro X rfl rfl rfl calm i pins z σ H E I room ⟨ne, gq, old, gr⟩ ⟨ys, isY, past⟩
    obtain ⟨vs, rel, isT, _⟩ := I.tuple isY
    have isT : z.heap.IsTuple t vs.toArray := isT
    obtain ⟨k0, k1, k2, k3, k4, k5⟩ := room q (List.mem_cons_of_mem _ List.mem_cons_self)
    have isE : z.TypeIs (.ref r) "enumerate" := ⟨_, gr, rfl⟩
    have len := rel.length
    have past : vs.toArray[i]? = none := by rw [List.getElem?_toArray, List.getElem?_eq_none_iff]; omega
    unfold pyNext
    refine wpAny_bind (wpAny_attempt (wpAny_callSpecial?_slot (name := Str.ofString "__next__") isE F.slot_enumerate_next (wpAny_call_entry F.slot_enumerate_next isE F.entry_enumerate_next ?_ (F.args_enumerate_next_1 _))))
    show wpAny _ _ (field (.ref r) 2 >>= _) _ _ z
    refine wpAny_bind (wpAny_field gr rfl (x := .ref q) rfl (wpAny_bind (wpAny_nextOf_tuple_end (I.ok.hd calm) gq isT past fun h1 x but ⟨ox, gx, cx⟩ => ?_)))
    exact wpAny_bind (wpAny_isInstance (T := "StopIteration") (b := true) ⟨ox, gx, cx⟩ isSubtype_stop (wpAny_pure ⟨rfl, I.turned (t' := z.toks) (fun b o away e => but b o away e) k0 k1 k3 k4 k5⟩))
  · obtain ⟨_, _, old, gr⟩ := st
    exact wpAny_pyIter_enum gr more
/-- the reading of enumerate over a list or over a tuple -/
def iEnumS (K : PySem.W.Frag) (ta : TA) : TI := fun σ H R => ta σ H fun vs H1 => ∃ a xs, vs = [.ref a] ∧ ((SqL K H1 a xs ∧ R (Ite K a) H1) ∨ (SqT K H1 a xs ∧ R (IteT K a) H1))
theorem pi_enumS {X : Cx} {e : Expr} {ta : TA} {p pos tpos : Pos} {elts : List Expr} {kk : Nat} (hg : Gl X "enumerate") (hm : X.mg "enumerate" = none) (ha : PA X [e] ta) (hs : starEach [e] X.env = [(false, eval e X.env)] := by rfl) :
    PI X (.Tuple elts kk tpos) (.Call (.Name "enumerate" p) [e] [] pos) (iEnumS X.K ta) := by
  refine PI.mk fun pins z σ H R I reading => Call_ (ld_blt I hg hm boot_enumerate (PyProof.Rows.callWith_type1 (thn (ha.run pos pins z σ H _ I reading) fun us z1 hu => ?_) hs rfl))
  obtain ⟨vs, H1, I1, rel, a, xs, rfl, cases2⟩ := hu
  match us, rel with
  | [u], .cons ru .nil =>
    obtain rfl : u = Value.ref a := ru
    have fresh : ∀ b ∈ [z1.heap.objs.size + 1, z1.heap.objs.size], FpOk X pins H1 b := fun b hb =>
      have far : z1.heap.objs.size ≤ b := two_of (p := fun b => z1.heap.objs.size ≤ b) (Nat.le_succ _) (Nat.le_refl _) hb
      I1.fpOk far (I1.hok.fresh far)
    rcases cases2 with ⟨sq, q⟩ | ⟨sq, q⟩
    · obtain ⟨its, rv, isL, _⟩ := I1.list sq
      exact call_enumerate_list isL.isList fun h' gE gI _ kept => wpAny_pyIter_enum gE ⟨_, _, _, _, H1, rfl, I1.kept (t' := z1.toks) kept, turn_enum a _ _, ⟨⟨.none, gE⟩, gI, Nat.succ_ne_self _⟩, fresh, q⟩
    · obtain ⟨its, rv, isT, _⟩ := I1.tuple sq
      have isT : z1.heap.IsTuple a its.toArray := isT
      refine enum_of_tuple isT fun gE => wpAny_pyIter_enum gE ⟨_, _, _, _, H1, rfl, I1.kept (t' := z1.toks) fun b o e => ?_, turn_enumT a _ _, ⟨Nat.succ_ne_self _, ?_, .none, gE⟩, fresh, q⟩
      · exact Heap.get?_push_of_some _ (Heap.get?_push_of_some _ e)
      · exact ⟨_, Heap.get?_push_of_some _ (Heap.get?_push_size _ rfl), rfl, rfl⟩
end L2.TB
namespace L2.TB
open PySem PySem.Spec PyProof.Rows
/-! the program's looks at what it is passed -/
theorem boot_int' : bootBuiltins "int" = some (.type "int") := by decide +kernel
theorem boot_bool' : bootBuiltins "bool" = some (.type "bool") := by decide +kernel
theorem boot_str' : bootBuiltins "str" = some (.type "str") := by decide +kernel
theorem boot_list' : bootBuiltins "list" = some (.type "list") := by decide +kernel
theorem boot_tuple' : bootBuiltins "tuple" = some (.type "tuple") := by decide +kernel
theorem boot_dict' : bootBuiltins "dict" = some (.type "dict") := by decide +kernel
theorem boot_isi : bootBuiltins "isinstance" = some (.builtin "isinstance") := by decide +kernel
/-- the list or the tuple at a -/
def SqA (K : PySem.W.Frag) (H : Hp) (a : Addr) (xs : List V) : Prop := H a = some (.lst xs) ∨ H a = some (.tup xs)
theorem SqA.seq {K : PySem.W.Frag} {H : Hp} {a : Addr} {xs : List V} (h : SqA K H a xs) : SqL K H a xs ∨ SqT K H a xs := h.imp SqL.of SqT.of
theorem SqA.same {K : PySem.W.Frag} {H H' : Hp} {a : Addr} {xs : List V} (h : SqA K H a xs) (s : Same H H') : SqA K H' a xs := h.imp (s _ _) (s _ _)
theorem kit_two_l {K : PySem.W.Frag} : PySem.W.kitAny K (.type "list") [.type "list", .type "tuple"] = some true := by
  unfold PySem.W.kitAny
  rw [kit_ty (K := K) (a := "list") (b := "list") (r := true) (by decide +kernel)]
theorem kit_two_t {K : PySem.W.Frag} : PySem.W.kitAny K (.type "tuple") [.type "list", .type "tuple"] = some true := by
  unfold PySem.W.kitAny
  rw [kit_ty (K := K) (a := "tuple") (b := "list") (r := false) (by decide +kernel)]
  dsimp only
  unfold PySem.W.kitAny
  rw [kit_ty (K := K) (a := "tuple") (b := "tuple") (r := true) (by decide +kernel)]
def spIsInt : Sp := fun vs H Q _ => ∃ k : Int, vs = [.int k] ∧ Q (.bl true) H
def spIsList (K : PySem.W.Frag) : Sp := fun vs H Q _ => ∃ (a : Addr) (xs : List V), vs = [.ref a] ∧ SqA K H a xs ∧ ∀ H', Same H H' → Q (.bl true) H'
def spIsOne (K : PySem.W.Frag) : Sp := fun vs H Q _ => ∃ (c : Addr) (ns : List Str) (x : Str), vs = [.ref c, .str x] ∧ SqL K H c (ns.map V.str) ∧ Q (.bl (decide (x ∈ ns))) H
/-- no bad one -/
def spFirst (K : PySem.W.Frag) : Sp := fun vs H Q _ => ∃ (c a : Addr) (ns known : List Str), vs = [.ref c, .ref a] ∧ H c = some (.lst (ns.map V.str)) ∧ SqA K H a (known.map V.str) ∧ known.Nodup ∧ (∀ x ∈ known, x ∈ ns) ∧ known.length < 1000 ∧ ∀ H', Same H H' → Q .non H'
theorem scIsInt : FnScope ["thing"] ["thing"] (defScope sIsInt) := ⟨rfl, rfl, rfl, by decide +kernel, rfl, by decide +kernel, by decide +kernel⟩
theorem scIsList : FnScope ["thing"] ["thing"] (defScope sIsList) := ⟨rfl, rfl, rfl, by decide +kernel, rfl, by decide +kernel, by decide +kernel⟩
theorem scIsOne : FnScope ["names", "thing"] ["names", "thing"] (defScope sIsOne) := ⟨rfl, rfl, rfl, by decide +kernel, rfl, by decide +kernel, by decide +kernel⟩
abbrev NF : List Str := ["names", "things", "seen", "index", "thing"]
theorem scFirst : FnScope NF ["names", "things"] (defScope sFirst) := ⟨rfl, rfl, rfl, by decide +kernel, rfl, by decide +kernel, by decide +kernel⟩
section
variable {P : Program} {w : World} {K : PySem.W.Frag} {mg : Str → Option Value} {base : Heap} {f fL fO : Addr} {fd fdL fdO : FuncData}
theorem ok_isInt (F : Fun K "is_integer" "is_integer" sIsInt f fd) (gI : mg "isinstance" = none) (gInt : mg "int" = none) (gB : mg "bool" = none) : FnOk P w K mg base CX0 1 f fd ["thing"] spIsInt := by
  refine F.ok scIsInt (fun vs H Q E h => by obtain ⟨k, e, _⟩ := h; rw [e]; rfl) fun cdv A outer s H vs Q E hr hsp => ?_
  obtain ⟨k, rfl, hq⟩ := hsp
  refine ⟨_, pss_one (ps_ret (pe_and (pe_callB (r := rIsi K) call_isi rfl gI boot_isi (pa_cons (pv 0) (pa_cons (pe_bltn (v := .ty "int") rfl gInt boot_int' rfl) pa_nil)))
    (pe_one (pe_not (pe_callB (r := rIsi K) call_isi rfl gI boot_isi (pa_cons (pv 0) (pa_cons (pe_bltn (v := .ty "bool") rfl gB boot_bool' rfl) pa_nil))))))), ?_⟩
  exact ⟨_, rfl, _, _, _, _, true, rfl, .ty _, .base (.int k), kit_ty (by decide +kernel), true, rfl, _, rfl, _, _, _, _, false, rfl, .ty _, .base (.int k), kit_ty (by decide +kernel), false, rfl, hq⟩
theorem ok_isList (F : Fun K "is_list" "is_list" sIsList f fd) (gI : mg "isinstance" = none) (gL : mg "list" = none) (gT : mg "tuple" = none) : FnOk P w K mg base CX0 1 f fd ["thing"] (spIsList K) := by
  refine F.ok scIsList (fun vs H Q E h => by obtain ⟨a, xs, e, _⟩ := h; rw [e]; rfl) fun cdv A outer s H vs Q E hr hsp => ?_
  obtain ⟨a, xs, rfl, hS, hq⟩ := hsp
  refine ⟨_, pss_one (ps_ret (pe_callB (r := rIsiT K) call_isiT rfl gI boot_isi (pa_cons (pv 0) (pa_cons (pe_tup (pa_cons (pe_bltn (v := .ty "list") rfl gL boot_list' rfl) (pa_cons (pe_bltn (v := .ty "tuple") rfl gT boot_tuple' rfl) pa_nil))) pa_nil)))), ?_⟩
  refine ⟨_, rfl, (by show 2 ≤ sizeLine; decide), fun t nt => ?_⟩
  have kt := same_new (o := .tup [.ty "list", .ty "tuple"]) nt
  rcases hS.same kt with e | e
  · exact ⟨_, _, _, _, _, true, rfl, upd_same, .cons (.ty _) (.cons (.ty _) .nil), .base (.lst e), kit_two_l, hq _ kt⟩
  · exact ⟨_, _, _, _, _, true, rfl, upd_same, .cons (.ty _) (.cons (.ty _) .nil), .base (.tup e), kit_two_t, hq _ kt⟩
theorem ok_isOne (F : Fun K "is_one_of" "is_one_of" sIsOne f fd) (gI : mg "isinstance" = none) (gS : mg "str" = none) : FnOk P w K mg base CX0 1 f fd ["names", "thing"] (spIsOne K) := by
  refine F.ok scIsOne (fun vs H Q E h => by obtain ⟨c, ns, x, e, _⟩ := h; rw [e]; rfl) fun cdv A outer s H vs Q E hr hsp => ?_
  obtain ⟨c, ns, x, rfl, hS, hq⟩ := hsp
  refine ⟨_, pss_one (ps_ret (pe_and (pe_callB (r := rIsi K) call_isi rfl gI boot_isi (pa_cons (pv 1) (pa_cons (pe_bltn (v := .ty "str") rfl gS boot_str' rfl) pa_nil)))
    (pe_one (pe_cmpR op_in_seq (pv 1) (pv 0) rfl)))), ?_⟩
  refine ⟨_, rfl, _, _, _, _, true, rfl, .ty _, .base (.str x), kit_ty (by decide +kernel), true, rfl, _, rfl, _, rfl, c, _, rfl, .inl hS, rfl, flat_strs ns, ?_⟩
  rw [inV_strs]
  exact hq
/-- the dict of what was seen -/
def seenD (xs : List Str) : List (Key × V) := xs.map fun x => (Sum.inr x, V.bl true)
theorem seen_none {xs : List Str} {x : Str} (h : x ∉ xs) : valV (seenD xs) (Sum.inr x) = none := by
  cases e : valV (seenD xs) (Sum.inr x) with
  | none => rfl
  | some v =>
    exfalso
    have z : (valV (seenD xs) (Sum.inr x)).isSome = true := by rw [e]; rfl
    rw [← valV_any, List.any_eq_true] at z
    obtain ⟨q, hq, hq2⟩ := z
    obtain ⟨y, hy, rfl⟩ := List.mem_map.mp hq
    have hq3 : (Sum.inr y : Key) = Sum.inr x := of_decide_eq_true hq2
    exact h (Sum.inr.inj hq3 ▸ hy)
theorem seen_put {xs : List Str} {x : Str} (h : x ∉ xs) : putK (seenD xs) (Sum.inr x) (.bl true) = seenD (xs ++ [x]) := by
  rw [putK_new (.bl true) (seen_none h)]
  simp [seenD]
/-- what the for loop asks of its turns -/
def ForW (J : It) (g : TG) (tb : TS) (D : Ends) (σ : St) (H : Hp) : Prop := ∃ W : Nat → Nat → St → Hp → Prop, (∃ m, W 0 m σ H) ∧ ∀ i m σ H, W i m σ H →
  (J.stop i H ∧ D.nx σ H) ∨ (J.go i H ∧ ∃ N : St → Hp → Prop, (∀ σ' H', N σ' H' → ∃ m', m' < m ∧ W (i + 1) m' σ' H') ∧ ∀ x H', J.yld i H x H' → g x σ H' fun σ2 H2 => tb { D with nx := N, ct := N, bk := D.nx } σ2 H2)
theorem enum_seq {K : PySem.W.Frag} {a : Addr} {xs : List V} {o : HO} {g : TG} {tb : TS} {D : Ends} {σ : St} {H : Hp} (ko : o = .lst xs ∨ o = .tup xs) (Pv : Nat → St → Hp → Prop) (h0 : Pv 0 σ H) (hl : ∀ i σ H, i ≤ xs.length → Pv i σ H → H a = some o)
    (hs : ∀ i x σ H T, xs[i]? = some x → Pv i σ H → H T = none → g (.ref T) σ (upd H T (.tup [.int (i : Nat), x])) fun σ2 H2 => tb { D with nx := Pv (i + 1), ct := Pv (i + 1), bk := D.nx } σ2 H2) (hd : ∀ σ H, Pv xs.length σ H → D.nx σ H) :
    ∃ b ys, [V.ref a] = [V.ref b] ∧ ((SqL K H b ys ∧ ForW (Ite K b) g tb D σ H) ∨ (SqT K H b ys ∧ ForW (IteT K b) g tb D σ H)) := by
  have fin : ∀ J : It, (∀ i H, i < xs.length → H a = some o → J.go i H) → (∀ i H, i = xs.length → H a = some o → J.stop i H) → (∀ i H v H', i < xs.length → H a = some o → J.yld i H v H' → ∃ T x, v = .ref T ∧ H T = none ∧ H' = upd H T (.tup [.int (i : Nat), x]) ∧ xs[i]? = some x) → ForW J g tb D σ H := by
    intro J go stop yld
    refine ⟨fun i m σ H => m = xs.length - i ∧ i ≤ xs.length ∧ Pv i σ H, ⟨_, rfl, Nat.zero_le _, h0⟩, ?_⟩
    rintro i m σ H ⟨rfl, le, p⟩
    have q := hl i σ H le p
    by_cases lt : i < xs.length
    · refine .inr ⟨go i H lt q, Pv (i + 1), fun σ' H' p' => ⟨xs.length - (i + 1), by omega, rfl, lt, p'⟩, fun v H' y => ?_⟩
      obtain ⟨T, x, rfl, nT, rfl, ex⟩ := yld i H v H' lt q y
      exact hs i x σ H T ex p nT
    · obtain rfl : i = xs.length := by omega
      exact .inl ⟨stop _ H rfl q, hd σ H p⟩
  have q0 := hl 0 σ H (Nat.zero_le _) h0
  rcases ko with rfl | rfl
  · exact ⟨a, xs, rfl, .inl ⟨SqL.of q0, fin _ (fun i H lt q => ⟨xs, xs[i], SqL.of q, by simp [lt]⟩) (fun i H e' q => ⟨xs, SqL.of q, by omega⟩)
      (fun i H v H' lt q ⟨T, x, e1, e2, e3, e4⟩ => ⟨T, x, e1, e2, e3, e4 xs (SqL.of q)⟩)⟩⟩
  · exact ⟨a, xs, rfl, .inr ⟨SqT.of q0, fin _ (fun i H lt q => ⟨xs, xs[i], SqT.of q, by simp [lt]⟩) (fun i H e' q => ⟨xs, SqT.of q, by omega⟩)
      (fun i H v H' lt q ⟨T, x, e1, e2, e3, e4⟩ => ⟨T, x, e1, e2, e3, e4 xs (SqT.of q)⟩)⟩⟩
theorem ok_first (F : Fun K "first_bad" "first_bad" sFirst f fd) (FL : Fun K "is_list" "is_list" sIsList fL fdL) (gIL : mg "is_list" = some (.ref fL)) (FO : Fun K "is_one_of" "is_one_of" sIsOne fO fdO) (gIO : mg "is_one_of" = some (.ref fO))
    (gI : mg "isinstance" = none) (gL : mg "list" = none) (gT : mg "tuple" = none) (gS : mg "str" = none) (gE : mg "enumerate" = none) : FnOk P w K mg base CX0 2 f fd ["names", "things"] (spFirst K) := by
  have GL : FnOk P w K mg base CX0 1 fL fdL ["thing"] (spIsList K) := ok_isList FL gI gL gT
  have bL := FL.binds (ps := ["thing"]) fun _ _ _ _ _ _ us hl => match us, hl with | [_], _ => rfl
  have GO : FnOk P w K mg base CX0 1 fO fdO ["names", "thing"] (spIsOne K) := ok_isOne FO gI gS
  have bO := FO.binds (ps := ["names", "thing"]) fun _ _ _ _ _ _ us hl => match us, hl with | [_, _], _ => rfl
  refine F.ok scFirst (fun vs H Q E h => by obtain ⟨c, a, ns, known, e, _⟩ := h; rw [e]; rfl) fun cdv A outer s H vs Q E hr hsp => ?_
  obtain ⟨c, a, ns, known, rfl, hc, hS, nd1, sub, short, hq⟩ := hsp
  have nd := scFirst.nd
  have hu := hu_of hr
  refine ⟨_, pss_cons (ps_if (pt_not (pt_val (pe_call GL hr rfl gIL FL.kp bL .nil pass0 (pa_cons (pv 1) pa_nil)))) (pss_one ps_never) pss_nil)
    (pss_cons (ps_set (i := 2) nd rfl (Or.inl rfl) pe_dnewK)
    (pss_cons (ps_for PassesOwn.never rfl (pi_enumS rfl gE (pa_cons (pv 1) pa_nil)) (pg_tup rfl (pgs_cons (pg_name (i := 3) nd rfl (Or.inl rfl)) (pgs_cons (pg_name (i := 4) nd rfl (Or.inl rfl)) pgs_nil)))
      (pss_cons (ps_if (PW.pt (pw_or (pt_not (pt_val (pe_call GO hr rfl gIO FO.kp bO .nil pass0 (pa_cons (pv 0) (pa_cons (pv 4) pa_nil))))) (pw_or1 (pt_cmp (pc_din hu (pv 4) (pv 2)))))) (pss_one ps_never) pss_nil)
      (pss_one (ps_dput hu (pv 2) (pv 4) pe_bl rfl))))
    (pss_one (ps_ret pe_non)))), ?_⟩
  refine ⟨_, rfl, a, _, rfl, hS, fun H1 k1 => ⟨_, rfl, iteF fun d nd2 => ?_⟩⟩
  have kd := same_new (o := .dK []) nd2
  obtain ⟨o, ho, ko⟩ : ∃ o, H1 a = some o ∧ (o = .lst (known.map V.str) ∨ o = .tup (known.map V.str)) := by
    rcases hS.same k1 with e | e
    · exact ⟨_, e, .inl rfl⟩
    · exact ⟨_, e, .inr rfl⟩
  refine ⟨_, rfl, enum_seq ko (fun i σ H' => H' d = some (.dK (seenD (known.take i))) ∧ Same H1 H' ∧ ∃ s3 s4, σ = [some (.ref c), some (.ref a), some (.ref d), s3, s4])
    ⟨upd_same, kd, _, _, rfl⟩ (fun i σ H' _ h => h.2.1 _ _ ho) ?_ ?_⟩
  · rintro i v σ H2 T ev ⟨od, s2, s3, s4, rfl⟩ nT
    rw [List.getElem?_map] at ev
    obtain ⟨x, ex, rfl⟩ := Option.map_eq_some_iff.mp ev
    have hi : i < known.length := (List.getElem?_eq_some_iff.mp ex).1
    have kT := same_new (o := .tup [.int (i : Nat), .str x]) nT
    refine ⟨T, _, rfl, SqT.of upd_same, rfl, ?_⟩
    have e1 : known.take (i + 1) = known.take i ++ [x] := by rw [List.take_succ, ex]; rfl
    have notin : x ∉ known.take i := fun m => by
      have z := nd1
      rw [← List.take_append_drop (i + 1) known, e1, List.append_assoc, List.nodup_append] at z
      exact z.2.2 x m x (by simp) rfl
    have xin : x ∈ ns := sub x (List.mem_of_getElem? ex)
    refine ⟨_, _, rfl, _, _, rfl, rfl, ?_⟩
    refine ⟨_, rfl, _, rfl, c, ns, x, rfl, SqL.of (kT _ _ (s2 _ _ (k1 _ _ hc))), _, rfl, ?_⟩
    rw [decide_eq_true xin]
    refine iteF ⟨_, rfl, _, rfl, d, _, rfl, DGet.k (k := Sum.inr x) (kT _ _ od), ?_⟩
    rw [seen_none notin]
    refine ⟨_, rfl, iteF ?_⟩
    have small : (seenD (known.take i)).length < sizeLine := by
      rw [sizeLine_eq]
      unfold seenD
      rw [List.length_map, List.length_take]; omega
    refine ⟨_, rfl, _, rfl, d, _, rfl, DPut.k (k := Sum.inr x) (kT _ _ od) small, ?_, ?_, _, _, rfl⟩
    · rw [upd_same, seen_put notin, ← e1]
    · intro b u e
      have nb : b ≠ d := ne_of_none e nd2
      rw [upd_ne nb]
      exact kT _ _ (s2 _ _ e)
  · rintro σ H2 ⟨od, s2, s3, s4, rfl⟩
    exact hq _ (k1.trans s2)
end
end L2.TB
namespace L2.TB
open PySem PySem.Spec PyProof.Rows
/-! the checks, where nothing is wrong -/
def spCkA (K : PySem.W.Frag) : Sp := fun vs H Q _ => ∃ (c : Addr) (ns : List Str) (x : Str), vs = [.ref c, .str x] ∧ SqL K H c (ns.map V.str) ∧ x ∈ ns ∧ Q .non H
def spCkB (K : PySem.W.Frag) : Sp := fun vs H Q _ => ∃ (c a : Addr) (ns known : List Str) (x : Str), vs = [.ref c, .ref a, .str x] ∧ H c = some (.lst (ns.map V.str)) ∧ SqA K H a (known.map V.str) ∧ known.Nodup ∧ (∀ x ∈ known, x ∈ ns) ∧ known.length < 1000 ∧ x ∈ ns ∧ ∀ H', Same H H' → Q .non H'
theorem scCkK : FnScope ["names", "known", "index"] ["names", "known"] (defScope sCkK) := ⟨rfl, rfl, rfl, by decide +kernel, rfl, by decide +kernel, by decide +kernel⟩
theorem scCkA : FnScope ["names", "asked"] ["names", "asked"] (defScope sCkA) := ⟨rfl, rfl, rfl, by decide +kernel, rfl, by decide +kernel, by decide +kernel⟩
theorem scCkB : FnScope ["names", "known", "asked"] ["names", "known", "asked"] (defScope sCkB) := ⟨rfl, rfl, rfl, by decide +kernel, rfl, by decide +kernel, by decide +kernel⟩
/-- what the checks need of the module -/
structure Chk (K : PySem.W.Frag) (mg : Str → Option Value) (aF aL aO aK aA aB : Addr) : Prop where
  F : ∃ fd, Fun K "first_bad" "first_bad" sFirst aF fd
  L : ∃ fd, Fun K "is_list" "is_list" sIsList aL fd
  O : ∃ fd, Fun K "is_one_of" "is_one_of" sIsOne aO fd
  CK : ∃ fd, Fun K "check_known" "check_known" sCkK aK fd
  CA : ∃ fd, Fun K "check_asked" "check_asked" sCkA aA fd
  CB : ∃ fd, Fun K "check_both" "check_both" sCkB aB fd
  gF : mg "first_bad" = some (.ref aF)
  gL : mg "is_list" = some (.ref aL)
  gO : mg "is_one_of" = some (.ref aO)
  gCK : mg "check_known" = some (.ref aK)
  gCA : mg "check_asked" = some (.ref aA)
  gCB : mg "check_both" = some (.ref aB)
  nI : mg "isinstance" = none
  nL : mg "list" = none
  nT : mg "tuple" = none
  nS : mg "str" = none
  nE : mg "enumerate" = none
section
variable {P : Program} {w : World} {K : PySem.W.Frag} {mg : Str → Option Value} {base : Heap} {aF aL aO aK aA aB : Addr} {fd : FuncData}
theorem ok_ckK (C : Chk K mg aF aL aO aK aA aB) (F : Fun K "check_known" "check_known" sCkK aK fd) : FnOk P w K mg base CX0 3 aK fd ["names", "known"] (spFirst K) := by
  obtain ⟨fdF, FF⟩ := C.F
  obtain ⟨fdL, FL⟩ := C.L
  obtain ⟨fdO, FO⟩ := C.O
  have G : FnOk P w K mg base CX0 2 aF fdF ["names", "things"] (spFirst K) := ok_first FF FL C.gL FO C.gO C.nI C.nL C.nT C.nS C.nE
  have b := FF.binds (ps := ["names", "things"]) fun _ _ _ _ _ _ us hl => match us, hl with | [_, _], _ => rfl
  refine F.ok scCkK (fun vs H Q E h => by obtain ⟨c, a, ns, known, e, _⟩ := h; rw [e]; rfl) fun cdv A outer s H vs Q E hr hsp => ?_
  obtain ⟨c, a, ns, known, rfl, hc, hS, nd1, sub, short, hq⟩ := hsp
  have nd := scCkK.nd
  refine ⟨_, pss_cons (ps_set (i := 2) nd rfl (Or.inl rfl) (pe_call G hr rfl C.gF FF.kp b .nil pass0 (pa_cons (pv 0) (pa_cons (pv 1) pa_nil))))
    (pss_one (ps_if (pt_cmp (pc_notN (pv 2))) (pss_one ps_never) pss_nil)), ?_⟩
  refine ⟨_, rfl, _, rfl, c, a, ns, known, rfl, hc, hS, nd1, sub, short, fun H1 k1 => ?_⟩
  exact ⟨_, rfl, _, rfl, iteF (hq H1 k1)⟩
theorem ok_ckA (C : Chk K mg aF aL aO aK aA aB) (F : Fun K "check_asked" "check_asked" sCkA aA fd) : FnOk P w K mg base CX0 2 aA fd ["names", "asked"] (spCkA K) := by
  obtain ⟨fdO, FO⟩ := C.O
  have G : FnOk P w K mg base CX0 1 aO fdO ["names", "thing"] (spIsOne K) := ok_isOne FO C.nI C.nS
  have b := FO.binds (ps := ["names", "thing"]) fun _ _ _ _ _ _ us hl => match us, hl with | [_, _], _ => rfl
  refine F.ok scCkA (fun vs H Q E h => by obtain ⟨c, ns, x, e, _⟩ := h; rw [e]; rfl) fun cdv A outer s H vs Q E hr hsp => ?_
  obtain ⟨c, ns, x, rfl, hc, xin, hq⟩ := hsp
  refine ⟨_, pss_one (ps_if (pt_not (pt_val (pe_call G hr rfl C.gO FO.kp b .nil pass0 (pa_cons (pv 0) (pa_cons (pv 1) pa_nil))))) (pss_one ps_never) pss_nil), ?_⟩
  refine ⟨_, rfl, _, rfl, c, ns, x, rfl, hc, _, rfl, ?_⟩
  rw [decide_eq_true xin]
  exact iteF hq
theorem ok_ckB (C : Chk K mg aF aL aO aK aA aB) (F : Fun K "check_both" "check_both" sCkB aB fd) : FnOk P w K mg base CX0 4 aB fd ["names", "known", "asked"] (spCkB K) := by
  obtain ⟨fdK, FK⟩ := C.CK
  obtain ⟨fdA, FA⟩ := C.CA
  have GK := ok_ckK (P := P) (w := w) (base := base) C FK
  have bK := FK.binds (ps := ["names", "known"]) fun _ _ _ _ _ _ us hl => match us, hl with | [_, _], _ => rfl
  have GA := ok_ckA (P := P) (w := w) (base := base) C FA
  have bA := FA.binds (ps := ["names", "asked"]) fun _ _ _ _ _ _ us hl => match us, hl with | [_, _], _ => rfl
  refine F.ok scCkB (fun vs H Q E h => by obtain ⟨c, a, ns, known, x, e, _⟩ := h; rw [e]; rfl) fun cdv A outer s H vs Q E hr hsp => ?_
  obtain ⟨c, a, ns, known, x, rfl, hc, hS, nd1, sub, short, xin, hq⟩ := hsp
  refine ⟨_, pss_cons (ps_expr (pe_call GK hr rfl C.gCK FK.kp bK .nil pass0 (pa_cons (pv 0) (pa_cons (pv 1) pa_nil))))
    (pss_one (ps_expr (pe_call GA (hr.mono (by decide)) rfl C.gCA FA.kp bA .nil pass0 (pa_cons (pv 0) (pa_cons (pv 2) pa_nil))))), ?_⟩
  refine ⟨_, rfl, _, rfl, c, a, ns, known, rfl, hc, hS, nd1, sub, short, fun H1 k1 => ?_⟩
  exact ⟨_, rfl, _, rfl, c, ns, x, rfl, SqL.of (k1 _ _ hc), xin, hq H1 k1⟩
end
end L2.TB
namespace L2.TB
open PySem PySem.Spec PyProof.Rows
/-! what is walked is a list or a tuple -/
def iSeq (K : PySem.W.Frag) (tl : TE) : TI := fun σ H R => tl σ H fun x H1 => ∃ a xs, x = .ref a ∧ ((SqL K H1 a xs ∧ R (Itl K a) H1) ∨ (SqT K H1 a xs ∧ R (Itt K a) H1))
theorem pi_seq {X : Cx} {tg l : Expr} {tl : TE} (hl : PE X l tl) : PI X tg l (iSeq X.K tl) := by
  refine PI.mk fun pins z σ H R I reading => thn (hl.run pins z σ H _ I reading) fun v z1 ⟨x, H1, I1, rel, a, xs, ex, both⟩ => ?_
  subst ex
  obtain rfl : v = Value.ref a := rel
  have one : ∀ (o : Obj), FpOk X pins H1 z1.heap.objs.size := fun _ => I1.fpOk (Nat.le_refl _) (I1.hok.fresh (Nat.le_refl _))
  have fresh : ∀ b ∈ [z1.heap.objs.size], FpOk X pins H1 b := fun b hb => by
    obtain rfl := List.mem_singleton.mp hb
    exact I1.fpOk (Nat.le_refl _) (I1.hok.fresh (Nat.le_refl _))
  rcases both with ⟨sq, q⟩ | ⟨sq, q⟩
  · obtain ⟨its, rv, isL, _⟩ := I1.list sq
    exact wpAny_pyIter_list isL.isList ⟨_, _, _, _, H1, rfl, I1.kept (t' := z1.toks) (fun b o e => Heap.get?_push_of_some _ e), turn_list a _, ⟨_, Heap.get?_push_size _ rfl, rfl, rfl⟩, fresh, q⟩
  · obtain ⟨its, rv, isT, _⟩ := I1.tuple sq
    exact wpAny_pyIter_tuple (show z1.heap.IsTuple a its.toArray from isT) ⟨_, _, _, _, H1, rfl, I1.kept (t' := z1.toks) (fun b o e => Heap.get?_push_of_some _ e), turn_tuple a _, ⟨_, Heap.get?_push_size _ rfl, rfl, rfl⟩, fresh, q⟩
/-- a for loop over it -/
theorem for_seq {K : PySem.W.Frag} {a : Addr} {xs : List V} {o : HO} {g : TG} {tb : TS} {D : Ends} {σ : St} {H : Hp} (ko : o = .lst xs ∨ o = .tup xs) (Pv : Nat → St → Hp → Prop) (h0 : Pv 0 σ H) (hl : ∀ i σ H, i ≤ xs.length → Pv i σ H → H a = some o)
    (hs : ∀ i x σ H, xs[i]? = some x → Pv i σ H → g x σ H fun σ2 H2 => tb { D with nx := Pv (i + 1), ct := Pv (i + 1), bk := D.nx } σ2 H2) (hd : ∀ σ H, Pv xs.length σ H → D.nx σ H) :
    ∃ b ys, V.ref a = V.ref b ∧ ((SqL K H b ys ∧ ForW (Itl K b) g tb D σ H) ∨ (SqT K H b ys ∧ ForW (Itt K b) g tb D σ H)) := by
  have q0 := hl 0 σ H (Nat.zero_le _) h0
  rcases ko with rfl | rfl
  · exact ⟨a, xs, rfl, .inl ⟨SqL.of q0, for_list Pv h0 (fun i σ H le p => SqL.of (hl i σ H le p)) hs hd⟩⟩
  · exact ⟨a, xs, rfl, .inr ⟨SqT.of q0, for_tup Pv h0 (fun i σ H le p => SqT.of (hl i σ H le p)) hs hd⟩⟩
/-- what a list comprehension asks of its turns -/
def LcW (J : It) (g : TG) (tt : TT) (te : TE) (vs : List Nat) (σ : St) (H1 : Hp) (Q : Addr → Hp → Prop) : Prop := ∀ D, H1 D = none → ∃ W : Nat → Nat → Hp → Prop, (∃ m, W 0 m (upd H1 D (.lst []))) ∧ ∀ i m H, W i m H →
  (J.stop i H ∧ Q D H) ∨ (J.go i H ∧ ∃ Nx : Hp → Prop, (∀ H', Nx H' → ∃ m', m' < m ∧ W (i + 1) m' H') ∧ ∀ x H', J.yld i H x H' → g x (wipe σ vs) H' fun σ2 H2 => wipe σ2 vs = wipe σ vs ∧ tt σ2 H2 fun b H3 =>
    if b = true then te σ2 H3 fun y H4 => ∃ acc, H4 D = some (.lst acc) ∧ acc.length < sizeLine ∧ Nx (upd H4 D (.lst (acc ++ [y]))) else Nx H3)
/-- a turn of a comprehension: keep tells whether x is kept, fv x is what is made of it; nothing that was there is changed -/
def LcTurn (g : TG) (tt : TT) (te : TE) (vs : List Nat) (σ : St) (xs : List V) (keep : V → Bool) (fv : V → V) (H1 : Hp) : Prop :=
  ∀ (i : Nat) (x : V) (H : Hp) (C : V → Hp → Prop) (N : Hp → Prop), xs[i]? = some x → Same H1 H → (keep x = true → ∀ H4, Same H H4 → C (fv x) H4) → (keep x = false → ∀ H4, Same H H4 → N H4) →
    g x (wipe σ vs) H fun σ2 H2 => wipe σ2 vs = wipe σ vs ∧ tt σ2 H2 fun b H3 => if b = true then te σ2 H3 C else N H3
theorem filter_snoc (keep : V → Bool) (fv : V → V) {xs : List V} {i : Nat} {x : V} (ex : xs[i]? = some x) :
    ((xs.take (i + 1)).filter keep).map fv = ((xs.take i).filter keep).map fv ++ (if keep x = true then [fv x] else []) := by
  have e1 : xs.take (i + 1) = xs.take i ++ [x] := by rw [List.take_succ, ex]; rfl
  rw [e1, List.filter_append, List.map_append]
  congr 1
  cases h : keep x <;> simp [h]
theorem lc_seq {K : PySem.W.Frag} {a : Addr} {xs : List V} {o : HO} {g : TG} {tt : TT} {te : TE} {vs : List Nat} {σ : St} {H1 : Hp} {Q : Addr → Hp → Prop} (ko : o = .lst xs ∨ o = .tup xs) (ho : H1 a = some o) (short : xs.length < 1000000) (keep : V → Bool) (fv : V → V)
    (turn : LcTurn g tt te vs σ xs keep fv H1) (fin : ∀ H D, H1 D = none → H D = some (.lst ((xs.filter keep).map fv)) → Same H1 H → Q D H) :
    ∃ b ys, V.ref a = V.ref b ∧ ((SqL K H1 b ys ∧ LcW (Itl K b) g tt te vs σ H1 Q) ∨ (SqT K H1 b ys ∧ LcW (Itt K b) g tt te vs σ H1 Q)) := by
  have go : ∀ D, H1 D = none → ∀ (i : Nat) (x : V) (H : Hp), xs[i]? = some x → (H D = some (.lst (((xs.take i).filter keep).map fv)) ∧ Same H1 H) → g x (wipe σ vs) H fun σ2 H2 => wipe σ2 vs = wipe σ vs ∧ tt σ2 H2 fun b H3 =>
      if b = true then te σ2 H3 fun y H4 => ∃ acc, H4 D = some (.lst acc) ∧ acc.length < sizeLine ∧ ((upd H4 D (.lst (acc ++ [y]))) D = some (.lst (((xs.take (i + 1)).filter keep).map fv)) ∧ Same H1 (upd H4 D (.lst (acc ++ [y])))) else (H3 D = some (.lst (((xs.take (i + 1)).filter keep).map fv)) ∧ Same H1 H3) := by
    rintro D nD i x H ex ⟨oD, s1⟩
    refine turn i x H _ _ ex s1 (fun k H4 s4 => ⟨_, s4 _ _ oD, ?_, ?_, ?_⟩) (fun k H4 s4 => ⟨?_, s1.trans s4⟩)
    · rw [sizeLine_eq, List.length_map]
      have := List.length_filter_le keep (xs.take i)
      rw [List.length_take] at this
      omega
    · rw [upd_same, filter_snoc keep fv ex, if_pos k]
    · intro b u e
      have nb : b ≠ D := ne_of_none e nD
      rw [upd_ne nb]
      exact s4 _ _ (s1 _ _ e)
    · rw [filter_snoc keep fv ex, k]
      simpa using s4 _ _ oD
  have all : xs.take xs.length = xs := List.take_length
  rcases ko with rfl | rfl
  · exact ⟨a, xs, rfl, .inl ⟨SqL.of ho, fun D nD => lc_list (xs := xs) (fun i H => H D = some (.lst (((xs.take i).filter keep).map fv)) ∧ Same H1 H) ⟨upd_same, same_new nD⟩ (fun i H _ p => SqL.of (p.2 _ _ ho)) (fun i x H ex p => go D nD i x H ex p)
      (fun H p => fin H D nD (by rw [all] at p; exact p.1) p.2)⟩⟩
  · exact ⟨a, xs, rfl, .inr ⟨SqT.of ho, fun D nD => lc_tup (xs := xs) (fun i H => H D = some (.lst (((xs.take i).filter keep).map fv)) ∧ Same H1 H) ⟨upd_same, same_new nD⟩ (fun i H _ p => SqT.of (p.2 _ _ ho)) (fun i x H ex p => go D nD i x H ex p)
      (fun H p => fin H D nD (by rw [all] at p; exact p.1) p.2)⟩⟩
end L2.TB
namespace L2.TB
open PySem PySem.Spec PyProof.Rows
/-! the table and its methods -/
def tabF (qa ra : Addr) : List (Str × V) := [("_questions", .ref qa), ("_rows", .ref ra)]
theorem tabF_q (qa ra : Addr) : (tabF qa ra).lookup ("_questions" : Str) = some (V.ref qa) := rfl
theorem tabF_r (qa ra : Addr) : (tabF qa ra).lookup ("_rows" : Str) = some (V.ref ra) := rfl
/-- the rows of the list at ra -/
def TRows (H : Hp) (ra : Addr) (n : Nat) (tbl : List (List Int)) : Prop := ∃ ps : List Addr, H ra = some (.lst (ps.map V.ref)) ∧ Paired (fun p vs => H p = some (.tup (vs.map V.int)) ∧ vs.length = n) ps tbl
structure TabAt (H : Hp) (C a : Addr) (ns : List Str) (tbl : List (List Int)) : Prop where
  ex : ∃ dx qa ra, H a = some (.ins C dx (tabF qa ra)) ∧ H qa = some (.lst (ns.map V.str)) ∧ TRows H ra ns.length tbl
theorem TRows.same {H H' : Hp} {ra : Addr} {n : Nat} {tbl : List (List Int)} (t : TRows H ra n tbl) (s : Same H H') : TRows H' ra n tbl := by
  obtain ⟨ps, o, r⟩ := t
  exact ⟨ps, s _ _ o, Paired.mapP r fun p vs h => ⟨s _ _ h.1, h.2⟩⟩
theorem TabAt.same {H H' : Hp} {C a : Addr} {ns : List Str} {tbl : List (List Int)} (t : TabAt H C a ns tbl) (s : Same H H') : TabAt H' C a ns tbl := by
  obtain ⟨dx, qa, ra, h1, h2, h3⟩ := t.ex
  exact ⟨dx, qa, ra, s _ _ h1, s _ _ h2, h3.same s⟩
structure TabC (K : PySem.W.Frag) (C : Addr) : Prop where
  cl : Cls K C
  nQ : NoAttr K C "_questions"
  nR : NoAttr K C "_rows"
def spQs (K : PySem.W.Frag) (C : Addr) : Sp := fun vs H Q _ => ∃ (a : Addr) (ns : List Str) (tbl : List (List Int)), vs = [.ref a] ∧ TabAt H C a ns tbl ∧ ∀ H' q, H q = none → H' q = some (.lst (ns.map V.str)) → Same H H' → Q (.ref q) H'
def idx (ns : List Str) (x : Str) : Nat := ns.idxOf x
def spPlaces (K : PySem.W.Frag) (C : Addr) : Sp := fun vs H Q _ => ∃ (a b : Addr) (ns known : List Str) (tbl : List (List Int)), vs = [.ref a, .ref b] ∧ TabAt H C a ns tbl ∧ SqA K H b (known.map V.str) ∧ (∀ x ∈ known, x ∈ ns) ∧ known.length < 1000 ∧
  ∀ H' q, H q = none → H' q = some (.lst (known.map fun x => V.int (idx ns x : Nat))) → Same H H' → Q (.ref q) H'
theorem scQs : FnScope ["self"] ["self"] (defScope sQs) := ⟨rfl, rfl, rfl, by decide +kernel, rfl, by decide +kernel, by decide +kernel⟩
abbrev NP : List Str := ["self", "names", "name"]
theorem scPlaces : FnScope NP ["self", "names"] (defScope sPlaces) := ⟨rfl, rfl, rfl, by decide +kernel, rfl, by decide +kernel, by decide +kernel⟩
theorem idx_at {ns : List Str} {x : Str} (h : x ∈ ns) : (ns.map V.str)[idx ns x]? = some (.str x) ∧ ∀ (m : Nat) (z : V), m < idx ns x → (ns.map V.str)[m]? = some z → eqV z (.str x) = false := by
  have lt : idx ns x < ns.length := List.idxOf_lt_length_of_mem h
  refine ⟨?_, fun m z lm ez => ?_⟩
  · rw [List.getElem?_map, List.getElem?_eq_getElem lt]
    have e : ns[idx ns x] = x := List.getElem_idxOf lt
    rw [e]; rfl
  · rw [List.getElem?_map] at ez
    obtain ⟨y, ey, rfl⟩ := Option.map_eq_some_iff.mp ez
    rw [str_inj]
    refine decide_eq_false fun q => ?_
    subst q
    have : idx ns y ≤ m := by
      obtain ⟨hm, em⟩ := List.getElem?_eq_some_iff.mp ey
      by_cases c : m < idx ns y
      · have z := List.not_of_lt_findIdx (p := fun a => a == y) (xs := ns) (i := m) c
        rw [em] at z
        simp at z
      · omega
    omega
section
variable {P : Program} {w : World} {K : PySem.W.Frag} {mg : Str → Option Value} {base : Heap} {f C : Addr} {fd : FuncData}
theorem ok_qs (F : Fun K "questions" "Table.questions" sQs f fd) (T : TabC K C) (gL : mg "list" = none) : FnOk P w K mg base CX0 1 f fd ["self"] (spQs K C) := by
  refine F.ok scQs (fun vs H Q E h => by obtain ⟨a, ns, tbl, e, _⟩ := h; rw [e]; rfl) fun cdv A outer s H vs Q E hr hsp => ?_
  obtain ⟨a, ns, tbl, rfl, ⟨dx, qa, ra, ha, hqa, hra⟩, hq⟩ := hsp
  refine ⟨_, pss_one (ps_ret (pe_callTy call_list_of rfl gL (by decide +kernel) (pa_cons (pe_fld (pv 0) rfl) pa_nil))), ?_⟩
  exact ⟨_, rfl, _, _, _, _, _, rfl, ha, T.cl, T.nQ, tabF_q _ _, _, _, rfl, .inl (SqL.of hqa), fun q nq => hq _ q nq upd_same (same_new nq)⟩
theorem ok_places (F : Fun K "_places" "Table._places" sPlaces f fd) (T : TabC K C) : FnOk P w K mg base CX0 1 f fd ["self", "names"] (spPlaces K C) := by
  refine F.ok scPlaces (fun vs H Q E h => by obtain ⟨a, b, ns, known, tbl, e, _⟩ := h; rw [e]; rfl) fun cdv A outer s H vs Q E hr hsp => ?_
  obtain ⟨a, b, ns, known, tbl, rfl, ⟨dx, qa, ra, ha, hqa, hra⟩, hb, sub, short, hq⟩ := hsp
  have nd := scPlaces.nd
  refine ⟨_, pss_one (ps_ret (pe_lc (own := [("name", 2)]) (tt := tYes) (te := tBM K "list" (rIndex K) (tFld K (tVar 0) "_questions") (tCons (tVar 2) tNil)) rfl nd (pi_seq (pv 1)) (blkOk_by (N := NP) (sc := defScope sPlaces) (by decide +kernel))
    (fun _ _ _ _ _ => pg_name (i := 2) nd rfl (Or.inl rfl)) (fun _ _ _ _ _ => pts_nil) (fun _ _ _ _ _ => pe_bm PySem.F.plainAttrs_list PySem.F.slot_list_index PySem.F.type_list_index mt_index (pe_fld (pv 0) rfl) (pa_cons (pv 2) pa_nil)))), ?_⟩
  obtain ⟨o, ho, ko⟩ : ∃ o, H b = some o ∧ (o = .lst (known.map V.str) ∨ o = .tup (known.map V.str)) := by
    rcases hb with e | e
    · exact ⟨_, e, .inl rfl⟩
    · exact ⟨_, e, .inr rfl⟩
  refine ⟨_, rfl, lc_seq ko ho (by rw [List.length_map]; omega) (fun _ => true) (fun v => match v with | .str x => .int (idx ns x : Nat) | _ => .non) ?_ ?_⟩
  · rintro i v H2 D N ev s2 yes no
    rw [List.getElem?_map] at ev
    obtain ⟨x, ex, rfl⟩ := Option.map_eq_some_iff.mp ev
    have xin : x ∈ ns := sub x (List.mem_of_getElem? ex)
    obtain ⟨i1, i2⟩ := idx_at xin
    refine ⟨rfl, ?_⟩
    refine ⟨_, rfl, _, _, _, _, _, rfl, s2 _ _ ha, T.cl, T.nQ, tabF_q _ _, .inl ⟨rfl, _, SqL.of (s2 _ _ hqa)⟩, _, rfl, ?_⟩
    exact ⟨qa, _, .str x, idx ns x, .str x, rfl, rfl, SqL.of (s2 _ _ hqa), rfl, flat_strs ns, i1, by rw [str_inj]; simp, i2, yes rfl H2 (Same.refl _)⟩
  · intro H2 q nq oq s2
    refine hq H2 q nq ?_ s2
    rw [oq, List.filter_eq_self.mpr (fun _ _ => rfl), List.map_map]
    rfl
end
end L2.TB
namespace L2.TB
open PySem PySem.Spec PyProof.Rows
/-! two rows that part -/
/-- the answer of a row -/
def av (ns : List Str) (vs : List Int) (x : Str) : Int := vs.getD (idx ns x) 0
def keyR (ns known : List Str) (vs : List Int) : List Int := known.map (av ns vs)
def keyK (ks : List Int) : List Key := ks.map Sum.inl
theorem keyK_kV (ks : List Int) : (keyK ks).map kV = ks.map V.int := by
  unfold keyK; rw [List.map_map]; rfl
theorem keyK_inj {a b : List Int} (h : keyK a = keyK b) : a = b := by
  unfold keyK at h
  exact (List.map_inj_right (fun x y e => Sum.inl.inj e)).mp h
/-- known tells asked, over these rows -/
def Tells (ns : List Str) (tbl : List (List Int)) (known : List Str) (x : Str) : Prop := ∀ u ∈ tbl, ∀ v ∈ tbl, keyR ns known u = keyR ns known v → av ns u x = av ns v x
instance (ns tbl known x) : Decidable (Tells ns tbl known x) := by unfold Tells; exact inferInstance
def spParting (K : PySem.W.Frag) (C : Addr) : Sp := fun vs H Q _ => ∃ (a b : Addr) (ns known : List Str) (x : Str) (tbl : List (List Int)), vs = [.ref a, .ref b, .str x] ∧ TabAt H C a ns tbl ∧ SqA K H b (known.map V.str) ∧ (∀ x ∈ known, x ∈ ns) ∧ known.length < 1000 ∧ x ∈ ns ∧ tbl.length < 1000 ∧
  (Tells ns tbl known x → ∀ H', Same H H' → Q .non H') ∧
  (¬ Tells ns tbl known x → ∀ H' t p q u v, H t = none → H' t = some (.tup [.ref p, .ref q]) → u ∈ tbl → v ∈ tbl → H' p = some (.tup (u.map V.int)) → H' q = some (.tup (v.map V.int)) → keyR ns known u = keyR ns known v → av ns u x ≠ av ns v x → Same H H' → Q (.ref t) H')
abbrev NPa : List Str := ["self", "known", "asked", "places", "place", "first", "row", "key", "k"]
theorem scParting : FnScope NPa ["self", "known", "asked"] (defScope sParting) := ⟨rfl, rfl, rfl, by decide +kernel, rfl, by decide +kernel, by decide +kernel⟩
/-- what the dict of first rows knows behind i rows -/
structure First (ns known : List Str) (x : Str) (ps : List Addr) (tbl : List (List Int)) (i : Nat) (kvs : List (List Key × V)) : Prop where
  has : ∀ (j : Nat) (v : List Int), j < i → tbl[j]? = some v → ∃ (j0 : Nat) (u : List Int), tbl[j0]? = some u ∧ ∃ p : Addr, ps[j0]? = some p ∧ valV kvs (keyK (keyR ns known v)) = some (.ref p) ∧ keyR ns known u = keyR ns known v ∧ av ns u x = av ns v x
  from_ : ∀ (k : List Key) (y : V), valV kvs k = some y → ∃ (j : Nat) (u : List Int) (p : Addr), tbl[j]? = some u ∧ ps[j]? = some p ∧ y = .ref p ∧ k = keyK (keyR ns known u)
  len : kvs.length ≤ i
theorem av_at {ns : List Str} {vs : List Int} {x : Str} (h : x ∈ ns) (hl : vs.length = ns.length) : atI (vs.map V.int) ((idx ns x : Nat) : Int) = some (.int (av ns vs x)) := by
  have lt : idx ns x < ns.length := List.idxOf_lt_length_of_mem h
  refine atI_nat ?_
  rw [List.getElem?_map, List.getElem?_eq_getElem (by omega)]
  unfold av
  rw [List.getD_eq_getElem?_getD, List.getElem?_eq_getElem (by omega)]
  rfl
theorem paired_get {α β : Type} {F : α → β → Prop} {as : List α} {bs : List β} (p : Paired F as bs) : ∀ {i : Nat} {a : α}, as[i]? = some a → ∃ b, bs[i]? = some b ∧ F a b := by
  induction p with
  | nil => intro i a h; simp at h
  | cons h t ih =>
    intro i a e
    cases i with
    | zero =>
      obtain rfl := Option.some.inj e
      exact ⟨_, rfl, h⟩
    | succ i => exact ih (i := i) e
section
variable {P : Program} {w : World} {K : PySem.W.Frag} {mg : Str → Option Value} {base : Heap} {f C fP : Addr} {fd fdP : FuncData}
theorem ok_parting (F : Fun K "_parting_rows" "Table._parting_rows" sParting f fd) (FP : Fun K "_places" "Table._places" sPlaces fP fdP) (mP : Meth K C "_places" fP) (T : TabC K C) (gT : mg "tuple" = none) : FnOk P w K mg base CX0 2 f fd ["self", "known", "asked"] (spParting K C) := by
  have G : FnOk P w K mg base CX0 1 fP fdP ["self", "names"] (spPlaces K C) := ok_places FP T
  have b := FP.binds (ps := ["self", "names"]) fun _ _ _ _ _ _ us hl => match us, hl with | [_, _], _ => rfl
  refine F.ok scParting (fun vs H Q E h => by obtain ⟨a, b, ns, known, x, tbl, e, _⟩ := h; rw [e]; rfl) fun cdv A outer s H vs Q E hr hsp => ?_
  obtain ⟨a, bk, ns, known, x, tbl, rfl, hT, hb, sub, short, xin, shortT, yes, no⟩ := hsp
  have nd := scParting.nd
  have hu := hu_of hr
  refine ⟨_, pss_cons (ps_set (i := 3) nd rfl (Or.inl rfl) (pe_meth (pv 0) T.cl mP G hr b .nil pass0 (pa_cons (pv 1) pa_nil)))
    (pss_cons (ps_set (i := 4) nd rfl (Or.inl rfl) (pe_bm PySem.F.plainAttrs_list PySem.F.slot_list_index PySem.F.type_list_index mt_index (pe_fld (pv 0) rfl) (pa_cons (pv 2) pa_nil)))
    (pss_cons (ps_set (i := 5) nd rfl (Or.inl rfl) pe_dnewT)
    (pss_cons (ps_for PassesOwn.never rfl (pi_seq (pe_fld (pv 0) rfl)) (pg_name (i := 6) nd rfl (Or.inr rfl))
      (pss_cons (ps_set (i := 7) nd rfl (Or.inl rfl) (pe_callTy call_tuple_of rfl gT boot_tuple' (pa_cons (pe_lc (own := [("k", 8)]) (tt := tYes) rfl nd (pi_seq (pv 3)) (blkOk_by (N := NPa) (sc := defScope sParting) (by decide +kernel))
          (fun _ _ _ _ _ => pg_name (i := 8) nd rfl (Or.inl rfl)) (fun _ _ _ _ _ => pts_nil) (fun _ _ _ _ _ => pe_ix (r := rIxT K) ix_tup (pv 6) (pv 8) (fun _ _ => rfl))) pa_nil)))
      (pss_one (ps_if (pt_cmp (pc_dnotin hu (pv 7) (pv 5))) (pss_one (ps_dput hu (pv 5) (pv 7) (pv 6) rfl))
        (pss_one (ps_if (pt_cmpR op_ne (pe_ix ix_tup (pe_dget hu (pv 5) (pv 7) (fun _ _ => rfl)) (pv 4) (fun _ _ => rfl)) (pe_ix ix_tup (pv 6) (pv 4) (fun _ _ => rfl)) (nomark _))
          (pss_one (ps_ret (pe_tup (pa_cons (pe_dget hu (pv 5) (pv 7) (fun _ _ => rfl)) (pa_cons (pv 6) pa_nil))))) pss_nil))))))
    (pss_one (ps_ret pe_non))))), ?_⟩
  obtain ⟨dx, qa, ra, ha, hqa, hra⟩ := hT.ex
  refine ⟨_, rfl, a, dx, _, rfl, ha, rfl, _, rfl, a, bk, ns, known, tbl, rfl, hT, hb, sub, short, fun H1 pl npl opl s1 => ?_⟩
  obtain ⟨i1, i2⟩ := idx_at xin
  refine ⟨_, rfl, _, _, _, _, _, rfl, s1 _ _ ha, T.cl, T.nQ, tabF_q _ _, .inl ⟨rfl, _, SqL.of (s1 _ _ hqa)⟩, _, rfl, qa, _, .str x, idx ns x, .str x, rfl, rfl, SqL.of (s1 _ _ hqa), rfl, flat_strs ns, i1, by rw [str_inj]; simp, i2, ?_⟩
  intro d nd1
  have sd := same_new (o := .dT []) nd1
  obtain ⟨ps, ora, prs⟩ := hra.same s1
  have lps : ps.length = tbl.length := Paired.length prs
  refine ⟨_, rfl, _, _, _, _, _, rfl, sd _ _ (s1 _ _ ha), T.cl, T.nR, tabF_r _ _, for_seq (.inl rfl) (fun i σ H' => H' ra = some (.lst (ps.map V.ref)) ∧ Same H1 H' ∧ ∃ kvs s6 s7 s8, σ = [some (.ref a), some (.ref bk), some (.str x), some (.ref pl), some (.int (idx ns x : Nat)), some (.ref d), s6, s7, s8] ∧ H' d = some (.dT kvs) ∧ First ns known x ps tbl i kvs)
    ⟨sd _ _ ora, sd, [], _, _, _, rfl, upd_same, ⟨fun j v z => absurd z (Nat.not_lt_zero _), fun k y e => by simp [valV] at e, Nat.zero_le _⟩⟩ (fun i σ H' _ h => h.1) ?_ ?_⟩
  · rintro i vp σ H2 evp ⟨ora2, s2, kvs, s6, s7, s8, rfl, od, FS⟩
    rw [List.getElem?_map] at evp
    obtain ⟨p, ep, rfl⟩ := Option.map_eq_some_iff.mp evp
    obtain ⟨v, ev, op, lv⟩ := paired_get prs ep
    have op2 := s2 _ _ op
    have vin : v ∈ tbl := List.mem_of_getElem? ev
    have hi : i < tbl.length := (List.getElem?_eq_some_iff.mp ev).1
    -- the key
    refine ⟨_, rfl, lc_seq (.inl rfl) (s2 _ _ opl) (by rw [List.length_map]; omega) (fun _ => true) (fun y => match y with | .int n => .int (v.getD n.toNat 0) | _ => .non) ?_ ?_⟩
    · rintro j y H3 Cn Nn ey s3 yes3 no3
      rw [List.getElem?_map] at ey
      obtain ⟨z, ez, rfl⟩ := Option.map_eq_some_iff.mp ey
      have zin : z ∈ ns := sub z (List.mem_of_getElem? ez)
      refine ⟨rfl, ?_⟩
      exact ⟨_, rfl, _, rfl, p, _, _, _, rfl, rfl, SqT.of (s3 _ _ op2), av_at zin lv, yes3 rfl H3 (Same.refl _)⟩
    · intro H3 l nl ol s3
      have ekey : ((known.map fun x => V.int (idx ns x : Nat)).filter fun _ => true).map (fun y => match y with | V.int n => V.int (v.getD n.toNat 0) | _ => V.non) = (keyK (keyR ns known v)).map kV := by
        rw [keyK_kV, List.filter_eq_self.mpr (fun _ _ => rfl), List.map_map]
        unfold keyR
        rw [List.map_map]
        rfl
      rw [ekey] at ol
      refine ⟨l, _, rfl, .inl ⟨SqL.of ol, fun kt nkt => ?_⟩⟩
      have sk := same_new (o := .tup ((keyK (keyR ns known v)).map kV)) nkt
      have ok3 : upd H3 kt (.tup ((keyK (keyR ns known v)).map kV)) kt = some (.tup ((keyK (keyR ns known v)).map kV)) := upd_same
      generalize upd H3 kt (.tup ((keyK (keyR ns known v)).map kV)) = H4 at sk ok3
      have s24 := s3.trans sk
      have od4 := s24 _ _ od
      have op4 := s24 _ _ op2
      have ndk : ∀ {u o}, H1 u = some o → u ≠ d := fun e => ne_of_none e nd1
      refine ⟨_, rfl, _, rfl, d, _, rfl, DGet.t od4 ok3, _, rfl, ?_⟩
      cases ek : valV kvs (keyK (keyR ns known v)) with
      | none =>
        refine iteT ?_
        refine ⟨_, rfl, _, rfl, _, rfl, d, _, rfl, DPut.t od4 ok3 (by rw [sizeLine_eq]; have := FS.len; omega), ?_, ?_, putK kvs (keyK (keyR ns known v)) (.ref p), _, _, _, rfl, upd_same, ?_⟩
        · rw [upd_ne (ndk ora)]; exact s24 _ _ ora2
        · intro b' u' e
          rw [upd_ne (ndk e)]; exact s24 _ _ (s2 _ _ e)
        · refine ⟨fun j v' hj ev' => ?_, fun k y e => ?_, ?_⟩
          · by_cases hji : j = i
            · subst hji
              rw [ev] at ev'
              obtain rfl := Option.some.inj ev'
              exact ⟨j, v, ev, p, ep, by rw [valV_put, if_pos rfl], rfl, rfl⟩
            · obtain ⟨j0, u, eu, p0, ep0, e0, k0, a0⟩ := FS.has j v' (by omega) ev'
              refine ⟨j0, u, eu, p0, ep0, ?_, k0, a0⟩
              rw [valV_put, if_neg, e0]
              intro z
              rw [z, ek] at e0; cases e0
          · rw [valV_put] at e
            by_cases hk : k = keyK (keyR ns known v)
            · rw [if_pos hk] at e
              obtain rfl := Option.some.inj e
              exact ⟨i, v, p, ev, ep, rfl, hk⟩
            · rw [if_neg hk] at e
              exact FS.from_ k y e
          · rw [putK_new _ ek, List.length_append]
            have := FS.len
            show kvs.length + 1 ≤ _
            omega
      | some y =>
        refine iteF ?_
        obtain ⟨j0, u, p0, eu, ep0, rfl, ek0⟩ := FS.from_ _ _ ek
        have ek1 : keyR ns known u = keyR ns known v := (keyK_inj ek0).symm
        obtain ⟨u', eu', op0, lu⟩ := paired_get prs ep0
        rw [eu] at eu'
        obtain rfl := Option.some.inj eu'
        have op04 := s24 _ _ (s2 _ _ op0)
        have uin : u ∈ tbl := List.mem_of_getElem? eu
        have dg : DGet H4 d (.ref kt) (some (.ref p0)) := ek ▸ DGet.t od4 ok3
        refine ⟨_, rfl, _, rfl, d, _, rfl, dg, _, rfl, p0, _, _, _, rfl, rfl, SqT.of op04, av_at xin lu, _, rfl, _, rfl, p, _, _, _, rfl, rfl, SqT.of op4, av_at xin lv, rfl, _, rfl, ite2 (fun e => ?_) (fun e => ?_)⟩
        · refine ⟨_, rfl, _, rfl, d, _, rfl, dg, _, rfl, (by show 2 ≤ sizeLine; decide), fun t nt => ?_⟩
          have st := same_new (o := .tup [.ref p0, .ref p]) nt
          have s14 : Same H1 H4 := s2.trans s24
          have nt0 : H t = none := (s1.trans s14).free nt
          refine no (fun T => ?_) _ t p0 p u v nt0 upd_same uin vin (st _ _ op04) (st _ _ op4) ek1 ?_ ((s1.trans s14).trans st)
          · rw [T u uin v vin ek1, decide_eq_true rfl] at e
            cases e
          · intro z
            rw [z, decide_eq_true rfl] at e
            cases e
        · refine ⟨s24 _ _ ora2, s2.trans s24, kvs, _, _, _, rfl, od4, ?_⟩
          refine ⟨fun j v' hj ev' => ?_, FS.from_, Nat.le_succ_of_le FS.len⟩
          by_cases hji : j = i
          · subst hji
            rw [ev] at ev'
            obtain rfl := Option.some.inj ev'
            refine ⟨j0, u, eu, p0, ep0, ek, ek1, ?_⟩
            by_cases z : av ns u x = av ns v x
            · exact z
            · have z2 : ¬ V.int (av ns u x) = V.int (av ns v x) := fun y => z (V.int.inj y)
              rw [decide_eq_false z2] at e
              exact absurd rfl e
          · exact FS.has j v' (by omega) ev'
  · rintro σ H2 ⟨ora2, s2, kvs, s6, s7, s8, rfl, od, FS⟩
    refine yes (fun u hu v hv e => ?_) _ (s1.trans s2)
    obtain ⟨j, hj, eu⟩ := List.getElem_of_mem hu
    obtain ⟨j', hj', ev⟩ := List.getElem_of_mem hv
    have lt : ∀ n, n < tbl.length → n < (ps.map V.ref).length := fun n h => by rw [List.length_map]; omega
    obtain ⟨j0, u0, eu0, p0, ep0, w0, k0, a0⟩ := FS.has j u (lt _ hj) (by rw [List.getElem?_eq_getElem hj, eu])
    obtain ⟨j1, u1, eu1, p1, ep1, w1, k1, a1⟩ := FS.has j' v (lt _ hj') (by rw [List.getElem?_eq_getElem hj', ev])
    rw [e, w1] at w0
    have ep : p1 = p0 := V.ref.inj (Option.some.inj w0)
    subst ep
    obtain ⟨x0, ex0, o0, _⟩ := paired_get prs ep0
    obtain ⟨x1, ex1, o1, _⟩ := paired_get prs ep1
    rw [eu0] at ex0
    rw [eu1] at ex1
    obtain rfl := Option.some.inj ex0
    obtain rfl := Option.some.inj ex1
    rw [o0] at o1
    have same : u0.map V.int = u1.map V.int := HO.tup.inj (Option.some.inj o1)
    have same2 : u0 = u1 := (List.map_inj_right (fun x y e => V.int.inj e)).mp same
    rw [← a0, ← a1, same2]
end
end L2.TB
namespace L2.TB
open PySem PySem.Spec PyProof.Rows
/-! what is told -/
/-- the places of the table's methods -/
structure TabM (K : PySem.W.Frag) (C fQ fI fPl fPr : Addr) : Prop extends TabC K C where
  Q : ∃ fd, Fun K "questions" "Table.questions" sQs fQ fd
  I : ∃ fd, Fun K "is_told" "Table.is_told" sIsTold fI fd
  L : ∃ fd, Fun K "_places" "Table._places" sPlaces fPl fd
  R : ∃ fd, Fun K "_parting_rows" "Table._parting_rows" sParting fPr fd
  mQ : Meth K C "questions" fQ
  mI : Meth K C "is_told" fI
  mL : Meth K C "_places" fPl
  mR : Meth K C "_parting_rows" fPr
/-- a table and known ones of it -/
structure Asked (K : PySem.W.Frag) (H : Hp) (C a b : Addr) (ns known : List Str) (tbl : List (List Int)) : Prop where
  t : TabAt H C a ns tbl
  k : SqA K H b (known.map V.str)
  nd : known.Nodup
  sub : ∀ x ∈ known, x ∈ ns
  s1 : ns.length < 1000
  s2 : tbl.length < 1000
  ndn : ns.Nodup
theorem Asked.short {K : PySem.W.Frag} {H : Hp} {C a b : Addr} {ns known : List Str} {tbl : List (List Int)} (h : Asked K H C a b ns known tbl) : known.length < 1000 := by
  have := List.Nodup.length_le_of_subset h.nd (fun x hx => h.sub x hx)
  have := h.s1
  omega
theorem Asked.same {K : PySem.W.Frag} {H H' : Hp} {C a b : Addr} {ns known : List Str} {tbl : List (List Int)} (h : Asked K H C a b ns known tbl) (s : Same H H') : Asked K H' C a b ns known tbl :=
  ⟨h.t.same s, h.k.same s, h.nd, h.sub, h.s1, h.s2, h.ndn⟩
def spIsTold (K : PySem.W.Frag) (C : Addr) : Sp := fun vs H Q _ => ∃ (a b : Addr) (ns known : List Str) (x : Str) (tbl : List (List Int)), vs = [.ref a, .ref b, .str x] ∧ Asked K H C a b ns known tbl ∧ x ∈ ns ∧ ∀ H', Same H H' → Q (.bl (decide (Tells ns tbl known x))) H'
def toldL (ns : List Str) (tbl : List (List Int)) (known : List Str) : List Str := ns.filter fun x => decide (Tells ns tbl known x)
def isStr (f : Str → Bool) : V → Bool
  | .str x => f x
  | _ => false
theorem filter_strs (f : Str → Bool) (xs : List Str) : ((xs.map V.str).filter (isStr f)).map id = (xs.filter f).map V.str := by
  rw [List.map_id, List.filter_map]; rfl
end L2.TB
namespace L2.TB
open PySem PySem.Spec PyProof.Rows
theorem boot_all' : bootBuiltins "all" = some (.builtin "all") := by decide +kernel
/-- a comprehension without a test over anything: ys is what it makes -/
theorem lc_gen {J : It} {g : TG} {tt : TT} {te : TE} {vs : List Nat} {σ : St} {H1 : Hp} {Q : Addr → Hp → Prop} (ys : List V) (short : ys.length < 1000000) (go : ∀ i H, Same H1 H → i < ys.length → J.go i H) (stop : ∀ H, Same H1 H → J.stop ys.length H)
    (turn : ∀ (i : Nat) (x y : V) (H H' : Hp) (C : V → Hp → Prop) (N : Hp → Prop), ys[i]? = some y → Same H1 H → J.yld i H x H' → (∀ H4, Same H H4 → C y H4) → g x (wipe σ vs) H' fun σ2 H2 => wipe σ2 vs = wipe σ vs ∧ tt σ2 H2 fun b H3 => if b = true then te σ2 H3 C else N H3)
    (fin : ∀ H D, H1 D = none → H D = some (.lst ys) → Same H1 H → Q D H) : LcW J g tt te vs σ H1 Q := by
  intro D nD
  refine ⟨fun i m H => m = ys.length - i ∧ i ≤ ys.length ∧ H D = some (.lst (ys.take i)) ∧ Same H1 H, ⟨_, rfl, Nat.zero_le _, upd_same, same_new nD⟩, ?_⟩
  rintro i m H ⟨rfl, le, oD, s1⟩
  by_cases lt : i < ys.length
  · refine .inr ⟨go i H s1 lt, fun H' => H' D = some (.lst (ys.take (i + 1))) ∧ Same H1 H', fun H' h => ⟨ys.length - (i + 1), by omega, rfl, lt, h⟩, fun x H' yl => ?_⟩
    have ey : ys[i]? = some ys[i] := List.getElem?_eq_getElem lt
    refine turn i x ys[i] H H' _ _ ey s1 yl fun H4 s4 => ⟨_, s4 _ _ oD, ?_, ?_, ?_⟩
    · rw [sizeLine_eq, List.length_take]; omega
    · rw [upd_same, List.take_succ, ey]; rfl
    · intro b u e
      rw [upd_ne (ne_of_none e nD)]
      exact s4 _ _ (s1 _ _ e)
  · obtain rfl : i = ys.length := by omega
    rw [List.take_length] at oD
    exact .inl ⟨stop H s1, fin H D nD oD s1⟩
def bools (n : Nat) : List V := List.replicate n (V.bl true)
theorem bools_map (n : Nat) : bools n = (List.replicate n true).map V.bl := by unfold bools; rw [List.map_replicate]
theorem bools_at {n i : Nat} {y : V} (h : (bools n)[i]? = some y) : y = .bl true ∧ i < n := by
  unfold bools at h
  rw [List.getElem?_replicate] at h
  split at h
  · exact ⟨(Option.some.inj h).symm, by assumption⟩
  · cases h
theorem bools_len (n : Nat) : (bools n).length = n := List.length_replicate
theorem all_true (n : Nat) : (List.replicate n true).all id = true := by simp
def spIsName : Sp := fun vs H Q _ => ∃ x : Str, vs = [.str x] ∧ NmOk x ∧ ∀ H', Same H H' → Q (.bl true) H'
abbrev NIn : List Str := ["thing", "sign"]
theorem scIsName : FnScope NIn ["thing"] (defScope sIsName) := ⟨rfl, rfl, rfl, by decide +kernel, rfl, by decide +kernel, by decide +kernel⟩
/-- a dict has just these names, all true -/
def spHasJust : Sp := fun vs H Q _ => ∃ (d c : Addr) (kvs : List (Key × V)) (ns : List Str), vs = [.ref d, .ref c] ∧ H d = some (.dK kvs) ∧ H c = some (.lst (ns.map V.str)) ∧ kvs.map (·.1) = ns.map Sum.inr ∧ ns.length < 1000 ∧ ∀ H', Same H H' → Q (.bl true) H'
abbrev NHj : List Str := ["thing", "names", "name"]
theorem scHasJust : FnScope NHj ["thing", "names"] (defScope sHasJust) := ⟨rfl, rfl, rfl, by decide +kernel, rfl, by decide +kernel, by decide +kernel⟩
section
variable {P : Program} {w : World} {K : PySem.W.Frag} {mg : Str → Option Value} {base : Heap} {f : Addr} {fd : FuncData}
theorem ok_isName (F : Fun K "is_name" "is_name" sIsName f fd) (gI : mg "isinstance" = none) (gS : mg "str" = none) (gN : mg "len" = none) (gA : mg "all" = none) (gL : ∃ t, mg "LONGEST" = some (.int 40 t)) (gSg : ∃ t, mg "SIGNS" = some (.str (Str.ofString "abcdefghijklmnopqrstuvwxyz0123456789.") t)) :
    FnOk P w K mg base CX0 1 f fd ["thing"] spIsName := by
  obtain ⟨tL, gL⟩ := gL
  obtain ⟨tS, gSg⟩ := gSg
  refine F.ok scIsName (fun vs H Q E h => by obtain ⟨x, e, _⟩ := h; rw [e]; rfl) fun cdv A outer s H vs Q E hr hsp => ?_
  obtain ⟨x, rfl, ok, hq⟩ := hsp
  obtain ⟨l1, l2, chars⟩ := ok
  have nd := scIsName.nd
  refine ⟨_, pss_cons (ps_if (PW.pt (pw_or (pt_not (pt_val (pe_callB (r := rIsi K) call_isi rfl gI boot_isi (pa_cons (pv 0) (pa_cons (pe_bltn (v := .ty "str") rfl gS boot_str' rfl) pa_nil)))))
      (pw_or1 (pt_not (pt_chain op_le op_le pe_int (pe_callB call_len_str rfl gN boot_len (pa_cons (pv 0) pa_nil)) (pe_glob (v := .int 40) rfl gL ⟨_, rfl⟩)))))) (pss_one ps_never) pss_nil)
    (pss_one (ps_ret (pe_callB (cr_all rfl) rfl gA boot_all' (pa_cons (pe_lc (own := [("sign", 1)]) (tt := tYes) rfl nd (pi_str (pv 0)) (blkOk_by (N := NIn) (sc := defScope sIsName) (by decide +kernel)) (fun _ _ _ _ _ => pg_name (i := 1) nd rfl (Or.inl rfl)) (fun _ _ _ _ _ => pts_nil)
      (fun _ _ _ _ _ => pe_cmpR op_in_sign (pv 1) (pe_glob (v := .str (Str.ofString "abcdefghijklmnopqrstuvwxyz0123456789.")) rfl gSg ⟨_, rfl⟩) rfl)) pa_nil)))), ?_⟩
  have lz : x.length = x.cps.toList.length := (Array.length_toList (xs := x.cps)).symm
  refine ⟨_, rfl, _, _, _, _, true, rfl, .ty _, .base (.str x), kit_ty (by decide +kernel), _, rfl, iteF ?_⟩
  refine ⟨_, rfl, x, rfl, (by rw [sizeLine_eq]; omega), _, _, rfl, rfl, _, rfl, ?_⟩
  rw [decide_eq_true (by omega : (1 : Int) ≤ (x.length : Nat))]
  refine iteT ⟨_, _, rfl, rfl, _, rfl, ?_⟩
  rw [decide_eq_true (by omega : ((x.length : Nat) : Int) ≤ 40)]
  refine iteF ?_
  refine ⟨_, rfl, x, rfl, lc_gen (bools x.cps.toList.length) (by rw [bools_len]; omega) (fun i H' _ lt => ?_) (fun H' _ => ?_) ?_ ?_⟩
  · rw [bools_len, Array.length_toList] at lt; exact lt
  · rw [bools_len, Array.length_toList]; exact Nat.le_refl _
  · rintro i v y H2 H3 Cn Nn ey s2 ⟨rfl, c, ec, rfl⟩ yes
    obtain ⟨rfl, lt⟩ := bools_at ey
    have cin : c ∈ signsL := chars c (List.mem_of_getElem? (by rw [Array.getElem?_toList]; exact ec))
    refine ⟨rfl, ?_⟩
    refine ⟨_, rfl, c, _, rfl, rfl, ?_⟩
    have z := yes H3 (Same.refl _)
    have e : decide (c ∈ (Str.ofString "abcdefghijklmnopqrstuvwxyz0123456789.").cps.toList) = true := decide_eq_true cin
    rw [e]
    exact z
  · intro H2 D nD oD s2
    rw [bools_map] at oD
    refine ⟨D, _, rfl, SqL.of oD, ?_⟩
    rw [all_true]
    exact hq H2 s2
end
end L2.TB
namespace L2.TB
open PySem PySem.Spec PyProof.Rows
theorem has_key {kvs : List (Key × V)} {ns : List Str} {x : Str} (h : kvs.map (·.1) = ns.map Sum.inr) (xin : x ∈ ns) : ∃ v, valV kvs (Sum.inr x) = some v := by
  have z : (Sum.inr x : Key) ∈ kvs.map (·.1) := by rw [h]; exact List.mem_map_of_mem xin
  obtain ⟨e, he, ee⟩ := List.mem_map.mp z
  have a : (kvs.any fun kv => decide (kv.1 = Sum.inr x)) = true := List.any_eq_true.mpr ⟨e, he, decide_eq_true ee⟩
  rw [valV_any] at a
  exact Option.isSome_iff_exists.mp a
theorem const_map (xs : List Str) : ((xs.map V.str).filter fun _ => true).map (fun _ => V.bl true) = bools xs.length := by
  rw [List.filter_eq_self.mpr (fun _ _ => rfl), List.map_map]
  unfold bools
  induction xs with
  | nil => rfl
  | cons a l ih => rw [List.map_cons, ih, List.length_cons, List.replicate_succ]; rfl
theorem dec_int2 (a b : Int) : decide (V.int a = V.int b) = decide (a = b) := by
  by_cases h : a = b
  · rw [h]; simp
  · rw [decide_eq_false h, decide_eq_false]
    exact fun z => h (V.int.inj z)
/-- dict rows of ints at as -/
def DRows (H : Hp) (ns : List Str) : List Addr → List (List Int) → Prop := Paired fun a vs => H a = some (.dK (dk ns vs)) ∧ vs.length = ns.length
theorem DRows.same {H H' : Hp} {ns : List Str} {as : List Addr} {tbl : List (List Int)} (r : DRows H ns as tbl) (s : Same H H') : DRows H' ns as tbl := Paired.mapP r fun a vs h => ⟨s _ _ h.1, h.2⟩
def spBadRow : Sp := fun vs H Q _ => ∃ (r : Addr) (as : List Addr) (ns : List Str) (tbl : List (List Int)), vs = [.ref r] ∧ H r = some (.lst (as.map V.ref)) ∧ DRows H ns as tbl ∧ tbl ≠ [] ∧ tbl.length < 1000 ∧ ns ≠ [] ∧ ns.Nodup ∧ (∀ x ∈ ns, NmOk x) ∧ ns.length < 1000 ∧ ∀ H', Same H H' → Q .non H'
abbrev NB : List Str := ["rows", "index", "row", "name"]
theorem scBadRow : FnScope NB ["rows"] (defScope sBadRow) := ⟨rfl, rfl, rfl, by decide +kernel, rfl, by decide +kernel, by decide +kernel⟩
theorem lock_off {H H' : Hp} {d : Addr} {u : HO} {od : Obj} (hd : H d = some u) (s : Same (upd H d (.frz od u)) H') : H' d = some (.frz od u) ∧ Same H (upd H' d u) := by
  refine ⟨s _ _ upd_same, fun b o e => ?_⟩
  by_cases hb : b = d
  · rw [hb, upd_same, ← hd, ← hb]; exact e
  · rw [upd_ne hb]
    exact s _ _ (by rw [upd_ne hb]; exact e)
theorem dk_at {ns : List Str} {vs : List Int} {i : Nat} {k : Key} {v : V} (h : (dk ns vs)[i]? = some (k, v)) (nd : ns.Nodup) (hl : ns.length = vs.length) : ∃ x n, k = Sum.inr x ∧ v = .int n ∧ ns[i]? = some x ∧ valV (dk ns vs) (Sum.inr x) = some (.int n) := by
  unfold dk at h ⊢
  rw [List.getElem?_map] at h
  obtain ⟨p, ep, e⟩ := Option.map_eq_some_iff.mp h
  cases e
  have ez : (ns.zip vs)[i]? = some p := ep
  rw [List.getElem?_zip_eq_some] at ez
  refine ⟨p.1, p.2, rfl, rfl, ez.1, ?_⟩
  have nk : (((ns.zip vs).map fun p : Str × Int => ((Sum.inr p.1 : Key), V.int p.2)).map (·.1)).Nodup := dk_nd hl nd
  have mem : ((Sum.inr p.1 : Key), V.int p.2) ∈ (ns.zip vs).map fun p : Str × Int => ((Sum.inr p.1 : Key), V.int p.2) := List.mem_map_of_mem (List.mem_of_getElem? ep)
  generalize (ns.zip vs).map (fun p : Str × Int => ((Sum.inr p.1 : Key), V.int p.2)) = kvs at nk mem
  clear h ez ep
  induction kvs with
  | nil => cases mem
  | cons q kvs ih =>
    unfold valV
    rw [List.find?_cons]
    by_cases hq : q.1 = Sum.inr p.1
    · rw [decide_eq_true hq]
      rcases List.mem_cons.mp mem with z | z
      · rw [← z]; rfl
      · exfalso
        rw [List.map_cons, List.nodup_cons] at nk
        exact nk.1 (hq ▸ List.mem_map_of_mem (f := (·.1)) z)
    · rw [decide_eq_false hq]
      rcases List.mem_cons.mp mem with z | z
      · exact absurd (by rw [← z]) hq
      · rw [List.map_cons, List.nodup_cons] at nk
        exact ih nk.2 z
section
variable {P : Program} {w : World} {K : PySem.W.Frag} {mg : Str → Option Value} {base : Heap} {f fL fI fN fH : Addr} {fd fdL fdI fdN fdH : FuncData}
theorem ok_hasJust (F : Fun K "has_just" "has_just" sHasJust f fd) (gI : mg "isinstance" = none) (gD : mg "dict" = none) (gN : mg "len" = none) (gA : mg "all" = none) : FnOk P w K mg base CX0 1 f fd ["thing", "names"] spHasJust := by
  refine F.ok scHasJust (fun vs H Q E h => by obtain ⟨d, c, kvs, ns, e, _⟩ := h; rw [e]; rfl) fun cdv A outer s H vs Q E hr hsp => ?_
  obtain ⟨d, c, kvs, ns, rfl, hd, hc, hk, short, hq⟩ := hsp
  have nd := scHasJust.nd
  have hu := hu_of hr
  refine ⟨_, pss_one (ps_ret (pe_and (pe_callB (r := rIsi K) call_isi rfl gI boot_isi (pa_cons (pv 0) (pa_cons (pe_bltn (v := .ty "dict") rfl gD boot_dict' rfl) pa_nil))) (pe_and (pe_cmpR op_eq (pe_callB call_lenD rfl gN boot_len (pa_cons (pv 0) pa_nil)) (pe_callB call_len_seq rfl gN boot_len (pa_cons (pv 1) pa_nil)) (nomark _))
    (pe_one (pe_callB (cr_all rfl) rfl gA boot_all' (pa_cons (pe_lc (own := [("name", 2)]) (tt := tYes) rfl nd (pi_seq (pv 1)) (blkOk_by (N := NHj) (sc := defScope sHasJust) (by decide +kernel)) (fun _ _ _ _ _ => pg_name (i := 2) nd rfl (Or.inl rfl)) (fun _ _ _ _ _ => pts_nil)
      (fun _ _ _ _ _ => pe_cmp (pc_din hu (pv 2) (pv 0)))) pa_nil)))))), ?_⟩
  have lk : kvs.length = ns.length := by
    have z := congrArg List.length hk
    rw [List.length_map, List.length_map] at z
    exact z
  refine ⟨_, rfl, _, _, _, _, true, rfl, .ty _, .base (.dK hd), kit_ty (by decide +kernel), _, rfl, iteT ?_⟩
  refine ⟨_, rfl, d, kvs, rfl, hd, _, rfl, c, _, rfl, .inl (SqL.of hc), rfl, _, rfl, ?_⟩
  rw [dec_int2, List.length_map, lk, decide_eq_true rfl]
  refine iteT ⟨_, rfl, lc_seq (.inl rfl) hc (by rw [List.length_map]; omega) (fun _ => true) (fun _ => .bl true) ?_ ?_⟩
  · rintro i v H2 Cn Nn ev s2 yes no
    rw [List.getElem?_map] at ev
    obtain ⟨x, ex, rfl⟩ := Option.map_eq_some_iff.mp ev
    obtain ⟨y, ey⟩ := has_key hk (List.mem_of_getElem? ex)
    refine ⟨rfl, ?_⟩
    refine ⟨_, rfl, _, rfl, d, _, rfl, DGet.k (k := Sum.inr x) (s2 _ _ hd), ?_⟩
    rw [ey]
    exact yes rfl H2 (Same.refl _)
  · intro H2 D nD oD s2
    rw [const_map, bools_map] at oD
    refine ⟨D, _, rfl, SqL.of oD, ?_⟩
    rw [all_true]
    exact hq H2 s2
theorem ok_badRow (F : Fun K "_first_bad_row" "_first_bad_row" sBadRow f fd) (FL : Fun K "is_list" "is_list" sIsList fL fdL) (gIL : mg "is_list" = some (.ref fL)) (FI : Fun K "is_integer" "is_integer" sIsInt fI fdI) (gII : mg "is_integer" = some (.ref fI))
    (FN : Fun K "is_name" "is_name" sIsName fN fdN) (gIN : mg "is_name" = some (.ref fN)) (FH : Fun K "has_just" "has_just" sHasJust fH fdH) (gHJ : mg "has_just" = some (.ref fH))
    (gI : mg "isinstance" = none) (gL : mg "list" = none) (gT : mg "tuple" = none) (gS : mg "str" = none) (gE : mg "enumerate" = none) (gN : mg "len" = none) (gA : mg "all" = none) (gD : mg "dict" = none) (gInt : mg "int" = none) (gB : mg "bool" = none)
    (gLo : ∃ t, mg "LONGEST" = some (.int 40 t)) (gSg : ∃ t, mg "SIGNS" = some (.str (Str.ofString "abcdefghijklmnopqrstuvwxyz0123456789.") t)) : FnOk P w K mg base CX0 2 f fd ["rows"] spBadRow := by
  have GL : FnOk P w K mg base CX0 1 fL fdL ["thing"] (spIsList K) := ok_isList FL gI gL gT
  have bL := FL.binds (ps := ["thing"]) fun _ _ _ _ _ _ us hl => match us, hl with | [_], _ => rfl
  have GI : FnOk P w K mg base CX0 1 fI fdI ["thing"] spIsInt := ok_isInt FI gI gInt gB
  have bI := FI.binds (ps := ["thing"]) fun _ _ _ _ _ _ us hl => match us, hl with | [_], _ => rfl
  have GN : FnOk P w K mg base CX0 1 fN fdN ["thing"] spIsName := ok_isName FN gI gS gN gA gLo gSg
  have bN := FN.binds (ps := ["thing"]) fun _ _ _ _ _ _ us hl => match us, hl with | [_], _ => rfl
  have GH : FnOk P w K mg base CX0 1 fH fdH ["thing", "names"] spHasJust := ok_hasJust FH gI gD gN gA
  have bH := FH.binds (ps := ["thing", "names"]) fun _ _ _ _ _ _ us hl => match us, hl with | [_, _], _ => rfl
  refine F.ok scBadRow (fun vs H Q E h => by obtain ⟨r, as, ns, tbl, e, _⟩ := h; rw [e]; rfl) fun cdv A outer s H vs Q E hr hsp => ?_
  obtain ⟨r, as, ns, tbl, rfl, hrr, rows, tne, tsh, nne, nnd, nok, nsh, hq⟩ := hsp
  have nd := scBadRow.nd
  have hu := hu_of hr
  refine ⟨_, pss_cons (ps_if (PW.pt (pw_or (pt_not (pt_val (pe_call GL hr rfl gIL FL.kp bL .nil pass0 (pa_cons (pv 0) pa_nil)))) (pw_or1 (pt_cmpR op_eq (pe_callB call_len_seq rfl gN boot_len (pa_cons (pv 0) pa_nil)) pe_int (nomark _))))) (pss_one ps_never) pss_nil)
    (pss_cons (ps_for PassesOwn.never rfl (pi_enumS rfl gE (pa_cons (pv 0) pa_nil)) (pg_tup rfl (pgs_cons (pg_name (i := 1) nd rfl (Or.inl rfl)) (pgs_cons (pg_name (i := 2) nd rfl (Or.inr rfl)) pgs_nil)))
      (pss_cons (ps_if (PW.pt (pw_or (pt_not (pt_val (pe_callB (r := rIsi K) call_isi rfl gI boot_isi (pa_cons (pv 2) (pa_cons (pe_bltn (v := .ty "dict") rfl gD boot_dict' rfl) pa_nil)))))
          (pw_or (pt_cmpR op_eq (pe_callB call_lenD rfl gN boot_len (pa_cons (pv 2) pa_nil)) pe_int (nomark _))
          (pw_or1 (pt_not (pt_val (pe_callB (cr_all rfl) rfl gA boot_all' (pa_cons (pe_lock (pe_lc (own := [("name", 3)]) (tt := tYes) rfl nd (pi_keys (pv 2)) (blkOk_by (N := NB) (sc := defScope sBadRow) (by decide +kernel)) (fun _ _ _ _ _ => pg_name (i := 3) nd rfl (Or.inl rfl)) (fun _ _ _ _ _ => pts_nil)
            (fun _ _ _ _ _ => pe_call GI hr rfl gII FI.kp bI .nil pass0 (pa_cons (pe_dget hu (pv 2) (pv 3) (fun _ _ => rfl)) pa_nil)))) pa_nil)))))))) (pss_one ps_never) pss_nil)
      (pss_one (ps_if (PW.pt (pw_or (pt_not (pt_val (pe_callB (cr_all rfl) rfl gA boot_all' (pa_cons (pe_lock (pe_lc (own := [("name", 3)]) (tt := tYes) rfl nd (pi_keys (pv 2)) (blkOk_by (N := NB) (sc := defScope sBadRow) (by decide +kernel)) (fun _ _ _ _ _ => pg_name (i := 3) nd rfl (Or.inl rfl)) (fun _ _ _ _ _ => pts_nil)
            (fun _ _ _ _ _ => pe_call GN hr rfl gIN FN.kp bN .nil pass0 (pa_cons (pv 3) pa_nil)))) pa_nil))))
          (pw_or1 (pt_not (pt_val (pe_call GH hr rfl gHJ FH.kp bH .nil pass0 (pa_cons (pv 2) (pa_cons (pe_callTy (call_listD rfl) rfl gL boot_list' (pa_cons (pe_ix ix_list (pv 0) pe_int (fun _ _ => rfl)) pa_nil)) pa_nil)))))))) (pss_one ps_never) pss_nil))))
    (pss_one (ps_ret pe_non))), ?_⟩
  have las : as.length = tbl.length := Paired.length rows
  have pos : 0 < tbl.length := List.length_pos_iff.mpr tne
  have npos : 0 < ns.length := List.length_pos_iff.mpr nne
  refine ⟨_, rfl, r, _, rfl, .inl hrr, fun H1 k1 => ⟨_, rfl, iteF ?_⟩⟩
  refine ⟨_, rfl, r, _, rfl, .inl (SqL.of (k1 _ _ hrr)), rfl, _, rfl, ?_⟩
  rw [dec_int2, List.length_map, decide_eq_false (by omega : ¬ ((as.length : Nat) : Int) = 0)]
  refine iteF ?_
  refine ⟨_, rfl, enum_seq (.inl rfl) (fun i σ H' => Same H1 H' ∧ ∃ s1 s2 s3, σ = [some (.ref r), s1, s2, s3]) ⟨Same.refl _, _, _, _, rfl⟩ (fun i σ H' _ h => h.1 _ _ (k1 _ _ hrr)) ?_ ?_⟩
  · rintro i v σ H2 T ev ⟨s2, s1', s2', s3', rfl⟩ nT
    rw [List.getElem?_map] at ev
    obtain ⟨a, ea, rfl⟩ := Option.map_eq_some_iff.mp ev
    have sT := (k1.trans s2).trans (same_new (o := .tup [.int (i : Nat), .ref a]) nT)
    refine ⟨T, _, rfl, SqT.of upd_same, rfl, _, _, rfl, _, _, rfl, rfl, ?_⟩
    have s2T := s2.trans (same_new (o := .tup [.int (i : Nat), .ref a]) nT)
    generalize upd H2 T (.tup [.int (i : Nat), .ref a]) = H3 at sT s2T
    obtain ⟨vs, ev2, oa, lv⟩ := paired_get (rows.same sT) ea
    have ldk : (dk ns vs).length = ns.length := by
      unfold dk
      rw [List.length_map, List.length_zip]; omega
    refine ⟨_, rfl, _, _, _, _, true, rfl, .ty _, .base (.dK oa), kit_ty (by decide +kernel), _, rfl, iteF ?_⟩
    refine ⟨_, rfl, a, _, rfl, oa, rfl, _, rfl, ?_⟩
    rw [dec_int2, ldk, decide_eq_false (by omega : ¬ ((ns.length : Nat) : Int) = 0)]
    refine iteF ?_
    refine ⟨a, _, oa, trivial, fun od => ⟨_, rfl, a, od, rfl, .inl ⟨_, upd_same, lc_gen (bools ns.length) (by rw [bools_len]; omega) (fun j H' s lt => ⟨s _ _ upd_same, by rw [ldk]; rw [bools_len] at lt; exact lt⟩) (fun H' s => ⟨s _ _ upd_same, by rw [ldk, bools_len]; exact Nat.le_refl _⟩) ?_ ?_⟩⟩⟩
    · rintro j v y H4 H5 Cn Nn ey s4 ⟨rfl, k, w', ek, rfl⟩ yes
      obtain ⟨rfl, lt⟩ := bools_at ey
      obtain ⟨x, n, rfl, rfl, _, hv⟩ := dk_at ek nnd lv.symm
      refine ⟨rfl, ?_⟩
      exact ⟨_, rfl, _, rfl, a, _, rfl, .inl ⟨_, Sum.inr x, .inr ⟨_, s4 _ _ upd_same⟩, rfl, hv.symm⟩, n, rfl, yes H5 (Same.refl _)⟩
    · intro H4 D nD oD s4
      obtain ⟨b1, s34⟩ := lock_off oa s4
      have Da : D ≠ a := fun z => by rw [z, upd_same] at nD; cases nD
      rw [bools_map] at oD
      refine ⟨b1, D, _, rfl, SqL.of (by rw [upd_ne Da]; exact oD), _, rfl, ?_⟩
      rw [all_true]
      refine iteF ?_
      have oa4 := s34 _ _ oa
      have sH4 := sT.trans s34
      have s14 := s2T.trans s34
      generalize upd H4 a (.dK (dk ns vs)) = H5 at s34 oa4 sH4 s14
      refine ⟨a, _, oa4, trivial, fun od2 => ⟨_, rfl, a, od2, rfl, .inl ⟨_, upd_same, lc_gen (bools ns.length) (by rw [bools_len]; omega) (fun j H' s lt => ⟨s _ _ upd_same, by rw [ldk]; rw [bools_len] at lt; exact lt⟩) (fun H' s => ⟨s _ _ upd_same, by rw [ldk, bools_len]; exact Nat.le_refl _⟩) ?_ ?_⟩⟩⟩
      · rintro j v y H6 H7 Cn Nn ey s6 ⟨rfl, k, w', ek, rfl⟩ yes
        obtain ⟨rfl, lt⟩ := bools_at ey
        obtain ⟨x, n, rfl, rfl, ex, hv⟩ := dk_at ek nnd lv.symm
        refine ⟨rfl, ?_⟩
        exact ⟨_, rfl, x, rfl, nok x (List.mem_of_getElem? ex), fun H' s' => yes H' s'⟩
      · intro H6 D2 nD2 oD2 s6
        obtain ⟨b2, s56⟩ := lock_off oa4 s6
        have Da2 : D2 ≠ a := fun z => by rw [z, upd_same] at nD2; cases nD2
        rw [bools_map] at oD2
        refine ⟨b2, D2, _, rfl, SqL.of (by rw [upd_ne Da2]; exact oD2), _, rfl, ?_⟩
        rw [all_true]
        refine iteF ?_
        have oa6 := s56 _ _ oa4
        have sH6 := sH4.trans s56
        have s16 := s14.trans s56
        generalize upd H6 a (.dK (dk ns vs)) = H7 at oa6 sH6 s16
        obtain ⟨a0, ea0⟩ : ∃ a0, as[0]? = some a0 := ⟨as[0]'(by omega), List.getElem?_eq_getElem _⟩
        obtain ⟨vs0, ev0, oa0, lv0⟩ := paired_get (rows.same sH6) ea0
        have at0' : atI (as.map V.ref) ((0 : Nat) : Int) = some (.ref a0) := atI_nat (by rw [List.getElem?_map, ea0]; rfl)
        refine ⟨_, rfl, _, rfl, _, _, _, _, rfl, rfl, SqL.of (sH6 _ _ hrr), at0', a0, _, rfl, .inl oa0, fun q nq => ?_⟩
        have ekeys : ((dk ns vs0).map fun kv => kV kv.1) = ns.map V.str := by
          have z := congrArg (List.map kV) (dk_keys lv0.symm)
          rw [List.map_map, List.map_map] at z
          exact z
        rw [ekeys]
        have sq := same_new (o := .lst (ns.map V.str)) nq
        exact ⟨a, q, dk ns vs, ns, rfl, sq _ _ oa6, upd_same, dk_keys lv.symm, nsh, fun H' s' => ⟨_, rfl, iteF ⟨(s16.trans sq).trans s', _, _, _, rfl⟩⟩⟩
  · rintro σ H2 ⟨s2, s1', s2', s3', rfl⟩
    exact hq _ (k1.trans s2)
end
end L2.TB
namespace L2.TB
open PySem PySem.Spec PyProof.Rows
abbrev NI : List Str := ["self", "rows", "index", "row", "name"]
theorem scInit : FnScope NI ["self", "rows"] (defScope sInit) := ⟨rfl, rfl, rfl, by decide +kernel, rfl, by decide +kernel, by decide +kernel⟩
def spInit (C : Addr) : Sp := fun vs H Q _ => ∃ (p dx r : Addr) (as : List Addr) (ns : List Str) (tbl : List (List Int)), vs = [.ref p, .ref r] ∧ H p = some (.ins C dx []) ∧ H r = some (.lst (as.map V.ref)) ∧ DRows H ns as tbl ∧ tbl ≠ [] ∧ tbl.length < 1000 ∧ ns ≠ [] ∧ ns.Nodup ∧ (∀ x ∈ ns, NmOk x) ∧ ns.length < 1000 ∧
  ∀ H', TabAt H' C p ns tbl → (∀ b o, b ≠ p → H b = some o → H' b = some o) → Q .non H'
theorem qr_ : ¬ (("_questions" : Str) = "_rows") := by decide +kernel
theorem put_two (qa ra : Addr) : putF "_rows" (.ref ra) (putF "_questions" (.ref qa) []) = tabF qa ra := by
  show (if ("_questions" : Str) = "_rows" then _ else (("_questions" : Str), V.ref qa) :: putF "_rows" (.ref ra) []) = tabF qa ra
  rw [if_neg qr_]
  rfl
abbrev scRow : Scope := { kind := ScopeKind.function, names := [(Str.ofString ".0", NameKind.local), (Str.ofString "row", NameKind.cell), (Str.ofString "tuple", NameKind.globalImplicit), (Str.ofString "self", NameKind.cell)], isGenerator := false, isCoroutine := false }
abbrev rTupOf (K : PySem.W.Frag) : List V → Hp → VK → Prop := fun xs H Q => ∃ p ys, xs = [V.ref p] ∧ ((SqL K H p ys ∧ ∀ l, H l = none → Q (.ref l) (upd H l (.tup ys))) ∨ (SqT K H p ys ∧ Q (.ref p) H))
section
variable {P : Program} {w : World} {K : PySem.W.Frag} {mg : Str → Option Value} {base : Heap} {f C fB : Addr} {fd fdB : FuncData}
theorem ok_init (F : Fun K "__init__" "Table.__init__" sInit f fd) (T : TabC K C) (GB : FnOk P w K mg base CX0 2 fB fdB ["rows"] spBadRow) (FB : Fun K "_first_bad_row" "_first_bad_row" sBadRow fB fdB) (gB : mg "_first_bad_row" = some (.ref fB)) (gL : mg "list" = none) (gT : mg "tuple" = none) : FnOk P w K mg base CX0 3 f fd ["self", "rows"] (spInit C) := by
  have bB := FB.binds (ps := ["rows"]) fun _ _ _ _ _ _ us hl => match us, hl with | [_], _ => rfl
  refine F.ok scInit (fun vs H Q E h => by obtain ⟨p, dx, r, as, ns, tbl, e, _⟩ := h; rw [e]; rfl) fun cdv A outer s H vs Q E hr hsp => ?_
  obtain ⟨p, dx, r, as, ns, tbl, rfl, hp, hrr, rows, tne, tsh, nne, nnd, nok, nsh, hq⟩ := hsp
  have nd := scInit.nd
  have hu := hu_of hr
  refine ⟨_, pss_cons (ps_set (i := 2) nd rfl (Or.inl rfl) (pe_call GB hr rfl gB FB.kp bB .nil pass0 (pa_cons (pv 1) pa_nil)))
    (pss_cons (ps_if (pt_cmp (pc_notN (pv 2))) (pss_one ps_never) pss_nil)
    (pss_cons (ps_fld (pv 0) (pe_callTy (call_listD rfl) rfl gL boot_list' (pa_cons (pe_ix ix_list (pv 1) pe_int (fun _ _ => rfl)) pa_nil)) rfl)
    (pss_one (ps_fld (pv 0) (pe_lc (own := [("row", 3)]) (tt := tYes) (te := tCB (rTupOf K) (tCons (tLc (iList K (tFld K (tVar 0) "_questions")) (gName 4) tYes (tDGet (tVar 3) (tVar 4)) [4]) tNil)) rfl nd (pi_list (pv 1)) (blkOk_by (N := NI) (sc := defScope sInit) (by decide +kernel)) (fun _ _ _ _ _ => pg_name (i := 3) nd rfl (Or.inr rfl)) (fun _ _ _ _ _ => pts_nil)
      (fun _ _ _ _ _ => pe_callTy (r := rTupOf K) call_tuple_of rfl gT boot_tuple' (pa_cons (pe_lc (own := [("name", 4)]) (tt := tYes) (g := gName 4) (wi := iList K (tFld K (tVar 0) "_questions")) (te := tDGet (tVar 3) (tVar 4)) rfl nd (pi_list (pe_fld (pv 0) rfl)) (blkOk_by (N := NI) (sc := scRow) (by decide +kernel)) (fun _ _ _ _ _ => pg_name (i := 4) nd rfl (Or.inl rfl)) (fun _ _ _ _ _ => pts_nil)
        (fun _ _ _ _ _ => pe_dget hu (pv 3) (pv 4) (fun _ _ => rfl))) pa_nil))) rfl)))), ?_⟩
  have las : as.length = tbl.length := Paired.length rows
  have pos : 0 < tbl.length := List.length_pos_iff.mpr tne
  have npos : 0 < ns.length := List.length_pos_iff.mpr nne
  refine ⟨_, rfl, r, as, ns, tbl, rfl, hrr, rows, tne, tsh, nne, nnd, nok, nsh, fun H1 s1 => ?_⟩
  refine ⟨_, rfl, _, rfl, iteF ?_⟩
  obtain ⟨a0, ea0⟩ : ∃ a0, as[0]? = some a0 := ⟨as[0]'(by omega), List.getElem?_eq_getElem _⟩
  obtain ⟨vs0, ev0, oa0, lv0⟩ := paired_get (rows.same s1) ea0
  have at0' : atI (as.map V.ref) ((0 : Nat) : Int) = some (.ref a0) := atI_nat (by rw [List.getElem?_map, ea0]; rfl)
  have ekeys : ((dk ns vs0).map fun kv => kV kv.1) = ns.map V.str := by
    have z := congrArg (List.map kV) (dk_keys lv0.symm)
    rw [List.map_map, List.map_map] at z
    exact z
  refine ⟨_, rfl, _, _, _, _, rfl, rfl, SqL.of (s1 _ _ hrr), at0', a0, _, rfl, .inl oa0, fun qa nqa => ?_⟩
  rw [ekeys]
  have sq := same_new (o := .lst (ns.map V.str)) nqa
  have hp2 := sq _ _ (s1 _ _ hp)
  have oq2 : upd H1 qa (.lst (ns.map V.str)) qa = some (.lst (ns.map V.str)) := upd_same
  have s12 := s1.trans sq
  generalize upd H1 qa (.lst (ns.map V.str)) = H2 at sq hp2 oq2 s12
  refine ⟨_, rfl, p, C, dx, _, rfl, hp2, T.cl, T.nQ, by decide, ?_⟩
  have hpu : upd H2 p (.ins C dx (putF "_questions" (.ref qa) [])) p = some (.ins C dx (putF "_questions" (.ref qa) [])) := upd_same
  have s2p : ∀ b o, b ≠ p → H2 b = some o → upd H2 p (.ins C dx (putF "_questions" (.ref qa) [])) b = some o := fun b o nb e => by rw [upd_ne nb]; exact e
  generalize upd H2 p (.ins C dx (putF "_questions" (.ref qa) [])) = H4 at hpu s2p
  have rp : r ≠ p := ne_of hrr hp (by intro z; cases z)
  have qp : qa ≠ p := ne_of oq2 hp2 (by intro z; cases z)
  have or4 := s2p _ _ rp (s12 _ _ hrr)
  have oq4 := s2p _ _ qp oq2
  have rows4 : DRows H4 ns as tbl := Paired.mapP rows fun a vs h => ⟨s2p _ _ (ne_of h.1 hp (by intro z; cases z)) (s12 _ _ h.1), h.2⟩
  refine ⟨_, rfl, r, rfl, ⟨_, SqL.of or4⟩, fun D nD => ?_⟩
  refine lc_list (xs := as.map V.ref) (fun i H' => ∃ ps, H' D = some (.lst ((ps : List Addr).map V.ref)) ∧ Paired (fun q vs => H' q = some (.tup (vs.map V.int)) ∧ vs.length = ns.length) ps (tbl.take i) ∧ Same H4 H')
    ⟨[], upd_same, .nil, same_new nD⟩ (fun i H' _ h => SqL.of (h.choose_spec.2.2 _ _ or4)) ?_ ?_
  · rintro i v H5 ev ⟨ps, oD, prs, s5⟩
    rw [List.getElem?_map] at ev
    obtain ⟨a, ea, rfl⟩ := Option.map_eq_some_iff.mp ev
    obtain ⟨vs, evs, oa, lv⟩ := paired_get (rows4.same s5) ea
    have hi : i < tbl.length := (List.getElem?_eq_some_iff.mp evs).1
    have lps : ps.length = i := by rw [Paired.length prs, List.length_take]; omega
    refine ⟨rfl, ?_⟩
    refine ⟨_, rfl, p, C, dx, _, _, rfl, s5 _ _ hpu, T.cl, T.nQ, rfl, qa, rfl, ⟨_, SqL.of (s5 _ _ oq4)⟩, lc_gen (vs.map V.int) (by rw [List.length_map]; omega) (fun j H' s lt => ⟨ns.map V.str, _, SqL.of (s _ _ (s5 _ _ oq4)), List.getElem?_eq_getElem (by rw [List.length_map] at lt ⊢; omega)⟩) (fun H' s => ⟨ns.map V.str, SqL.of (s _ _ (s5 _ _ oq4)), by rw [List.length_map, List.length_map]; omega⟩) ?_ ?_⟩
    · rintro j x y H6 H7 Cn Nn ey s6 ⟨rfl, ex⟩ yes
      have ex := ex _ (SqL.of (s6 _ _ (s5 _ _ oq4)))
      rw [List.getElem?_map] at ey ex
      obtain ⟨n, en, rfl⟩ := Option.map_eq_some_iff.mp ey
      obtain ⟨z, ez, rfl⟩ := Option.map_eq_some_iff.mp ex
      have edk : (dk ns vs)[j]? = some (Sum.inr z, V.int n) := by
        unfold dk
        rw [List.getElem?_map, List.getElem?_zip_eq_some.mpr (show ns[j]? = some (z, n).1 ∧ vs[j]? = some (z, n).2 from ⟨ez, en⟩)]
        rfl
      obtain ⟨z', n', e1, e2, _, hv⟩ := dk_at edk nnd lv.symm
      obtain rfl := Sum.inr.inj e1
      obtain rfl := V.int.inj e2
      refine ⟨rfl, ?_⟩
      exact ⟨_, rfl, _, rfl, a, _, rfl, hv ▸ DGet.k (k := Sum.inr z) (s6 _ _ oa), yes H7 (Same.refl _)⟩
    · intro H6 l nl ol s6
      refine ⟨l, _, rfl, .inl ⟨SqL.of ol, fun t nt => ?_⟩⟩
      have st := same_new (o := .tup (vs.map V.int)) nt
      have oD6 := st _ _ (s6 _ _ oD)
      have tD : t ≠ D := fun z => by rw [z, s6 _ _ oD] at nt; cases nt
      refine ⟨_, oD6, (by rw [sizeLine_eq, List.length_map]; omega), ps ++ [t], by rw [upd_same]; simp, ?_, ?_⟩
      · have e1 : tbl.take (i + 1) = tbl.take i ++ [vs] := by rw [List.take_succ, evs]; rfl
        rw [e1]
        refine paired_snoc ⟨by rw [upd_ne tD, upd_same], lv⟩ (Paired.mapP prs fun q vs' h => ⟨?_, h.2⟩)
        rw [upd_ne (ne_of h.1 oD (by intro z; cases z))]
        exact st _ _ (s6 _ _ h.1)
      · intro b u e
        rw [upd_ne (ne_of_none e nD)]
        exact st _ _ (s6 _ _ (s5 _ _ e))
  · rintro H5 ⟨ps, oD, prs, s5⟩
    have et : tbl.take (as.map V.ref).length = tbl := List.take_of_length_le (by rw [List.length_map]; omega)
    rw [et] at prs
    refine ⟨_, rfl, p, C, dx, _, rfl, s5 _ _ hpu, T.cl, T.nR, by show 1 < 1000; decide, ?_⟩
    rw [put_two]
    have Dp : D ≠ p := fun z => by rw [z, hpu] at nD; cases nD
    have frame : ∀ b o, b ≠ p → H b = some o → upd H5 p (.ins C dx (tabF qa D)) b = some o := fun b o nb e => by
      rw [upd_ne nb]
      exact s5 _ _ (s2p _ _ nb (s12 _ _ e))
    refine hq _ ⟨dx, qa, D, upd_same, ?_, ps, ?_, Paired.mapP prs fun q vs h => ⟨?_, h.2⟩⟩ frame
    · rw [upd_ne qp]; exact s5 _ _ oq4
    · rw [upd_ne Dp]; exact oD
    · rw [upd_ne (ne_of h.1 (s5 _ _ hpu) (by intro z; cases z))]; exact h.1
end
end L2.TB
/-! comprehensions whose turns make things anew (from k00's texts) -/
namespace L2.TB
open PySem PySem.Spec PyProof.Rows
theorem lc_made {J : It} {g : TG} {tt : TT} {te : TE} {vs : List Nat} {σ : St} {H1 : Hp} {Q : Addr → Hp → Prop} (n : Nat) (short : n < 1000000) (go : ∀ i H, Same H1 H → i < n → J.go i H) (stop : ∀ H, Same H1 H → J.stop n H) (R : Nat → V → Hp → Prop)
    (stays : ∀ i y H H' D l, R i y H → H D = some (.lst l) → (∀ b o, b ≠ D → H b = some o → H' b = some o) → R i y H')
    (turn : ∀ (i : Nat) (x : V) (H H' : Hp) (C : V → Hp → Prop) (N : Hp → Prop), i < n → Same H1 H → J.yld i H x H' → (∀ y H4, R i y H4 → Same H H4 → C y H4) → g x (wipe σ vs) H' fun σ2 H2 => wipe σ2 vs = wipe σ vs ∧ tt σ2 H2 fun b H3 => if b = true then te σ2 H3 C else N H3)
    (fin : ∀ H D ys, H1 D = none → H D = some (.lst ys) → ys.length = n → (∀ j y, ys[j]? = some y → R j y H) → Same H1 H → Q D H) : LcW J g tt te vs σ H1 Q := by
  intro D nD
  refine ⟨fun i m H => m = n - i ∧ i ≤ n ∧ ∃ ys : List V, H D = some (.lst ys) ∧ ys.length = i ∧ (∀ j y, ys[j]? = some y → R j y H) ∧ Same H1 H, ⟨_, rfl, Nat.zero_le _, [], upd_same, rfl, (fun j y e => by cases e), same_new nD⟩, ?_⟩
  rintro i m H ⟨rfl, le, ys, oD, ly, ry, s1⟩
  by_cases lt : i < n
  · refine .inr ⟨go i H s1 lt, fun H' => ∃ ys : List V, H' D = some (.lst ys) ∧ ys.length = i + 1 ∧ (∀ j y, ys[j]? = some y → R j y H') ∧ Same H1 H', fun H' h => ⟨n - (i + 1), by omega, rfl, lt, h⟩, fun x H' yl => ?_⟩
    refine turn i x H H' _ _ lt s1 yl fun y H4 ry4 s4 => ⟨_, s4 _ _ oD, by rw [sizeLine_eq]; omega, ys ++ [y], upd_same, by simp [ly], fun j z ej => ?_, ?_⟩
    · have keep : ∀ b o, b ≠ D → H4 b = some o → upd H4 D (.lst (ys ++ [y])) b = some o := fun b o nb e => by rw [upd_ne nb]; exact e
      rcases Nat.lt_or_ge j ys.length with h | h
      · rw [List.getElem?_append_left h] at ej
        exact stays _ _ _ _ D _ (stays j z H H4 D _ (ry j z ej) oD fun b o _ e => s4 _ _ e) (s4 _ _ oD) keep
      · rw [List.getElem?_append_right h] at ej
        have e0 : j - ys.length = 0 := by
          have := (List.getElem?_eq_some_iff.mp ej).1
          simp at this
          omega
        rw [e0] at ej
        obtain rfl : y = z := Option.some.inj ej
        have ji : j = i := by omega
        subst ji
        exact stays _ _ _ _ D _ ry4 (s4 _ _ oD) keep
    · intro b u e
      rw [upd_ne (ne_of_none e nD)]
      exact s4 _ _ (s1 _ _ e)
  · obtain rfl : i = n := by omega
    exact .inl ⟨stop H s1, fin H D ys nD oD ly ry s1⟩
theorem addrs_of {H : Hp} {P : Nat → Addr → Prop} : ∀ (ys : List V) (k : Nat), (∀ j y, ys[j]? = some y → ∃ t, y = V.ref t ∧ P (k + j) t) → ∃ as : List Addr, ys = as.map V.ref ∧ ∀ j a, as[j]? = some a → P (k + j) a
  | [], k, _ => ⟨[], rfl, fun j a e => by cases e⟩
  | y :: ys, k, h => by
    obtain ⟨t, rfl, pt⟩ := h 0 y rfl
    obtain ⟨as, e, pa⟩ := addrs_of (H := H) (P := P) ys (k + 1) fun j z ez => by
      have := h (j + 1) z ez
      rw [show k + 1 + j = k + (j + 1) from by omega]
      exact this
    refine ⟨t :: as, by rw [e]; rfl, fun j a ea => ?_⟩
    cases j with
    | zero => obtain rfl : t = a := Option.some.inj ea; exact pt
    | succ j =>
      have := pa j a ea
      rw [show k + (j + 1) = k + 1 + j from by omega]
      exact this
theorem paired_of {α β : Type} {R : α → β → Prop} : ∀ (xs : List α) (ys : List β), xs.length = ys.length → (∀ (i : Nat) (x : α) (y : β), xs[i]? = some x → ys[i]? = some y → R x y) → Paired R xs ys
  | [], [], _, _ => .nil
  | x :: xs, y :: ys, l, h => .cons (h 0 x y rfl rfl) (paired_of xs ys (by simpa using l) fun i a b ea eb => h (i + 1) a b ea eb)
theorem pairs_lc {J : It} {g : TG} {tt : TT} {te : TE} {vs : List Nat} {σ : St} {H1 : Hp} {Q : Addr → Hp → Prop} (kvs : List (Key × V)) (short : kvs.length < 1000) (go : ∀ i H, Same H1 H → i < kvs.length → J.go i H) (stop : ∀ H, Same H1 H → J.stop kvs.length H)
    (turn : ∀ (i : Nat) (v : V) (k : Key) (x : V) (H H' : Hp) (C : V → Hp → Prop) (N : Hp → Prop), kvs[i]? = some (k, x) → Same H1 H → J.yld i H v H' → (∀ t H4, H4 t = some (.tup [kV k, x]) → Same H H4 → C (.ref t) H4) → g v (wipe σ vs) H' fun σ2 H2 => wipe σ2 vs = wipe σ vs ∧ tt σ2 H2 fun b H3 => if b = true then te σ2 H3 C else N H3)
    (fin : ∀ H D ps, H1 D = none → H D = some (.lst ((ps : List Addr).map V.ref)) → Paired (fun p (kv : Key × V) => H p = some (.tup [kV kv.1, kv.2])) ps kvs → Same H1 H → Q D H) : LcW J g tt te vs σ H1 Q := by
  refine lc_made kvs.length (by omega) go stop (fun i y H' => ∃ t k x, y = V.ref t ∧ kvs[i]? = some (k, x) ∧ H' t = some (.tup [kV k, x])) ?_ ?_ ?_
  · rintro i y H2 H3 D l ⟨t, k, x, rfl, ex, ot⟩ oD keep
    exact ⟨t, k, x, rfl, ex, keep _ _ (ne_of ot oD (by intro z; cases z)) ot⟩
  · intro i v H2 H3 C N lt s2 yl yes
    exact turn i v kvs[i].1 kvs[i].2 H2 H3 C N (List.getElem?_eq_getElem lt) s2 yl fun t H4 ot s4 => yes _ _ ⟨t, _, _, rfl, List.getElem?_eq_getElem lt, ot⟩ s4
  · intro H2 D ys nD oD ly ry s2
    obtain ⟨ps, rfl, pa⟩ := addrs_of (H := H2) (P := fun i t => ∃ k x, kvs[i]? = some (k, x) ∧ H2 t = some (.tup [kV k, x])) ys 0 fun j y e => by
      obtain ⟨t, k, x, e1, e2, e3⟩ := ry j y e
      exact ⟨t, e1, k, x, by simpa using e2, e3⟩
    refine fin H2 D ps nD oD (paired_of ps _ (by rw [← ly, List.length_map]) fun i t kv et ekv => ?_) s2
    obtain ⟨k, x, e2, e3⟩ := pa i t et
    rw [Nat.zero_add, ekv] at e2
    cases e2
    exact e3
end L2.TB
/-! is_list, is_one_of, first_bad of things of any kind -/
namespace L2.TB
open PySem PySem.Spec PyProof.Rows
/-- a thing that is no text -/
def NoStr (K : PySem.W.Frag) (H : Hp) (v : V) : Prop := ∃ t : String, TyX K H v (.type t) ∧ kitB t "str" = some false
/-- a thing that is neither a list nor a tuple -/
def NoSeq (K : PySem.W.Frag) (H : Hp) (v : V) : Prop := ∃ t : String, TyX K H v (.type t) ∧ kitB t "list" = some false ∧ kitB t "tuple" = some false
/-- what needs no heap to be told -/
inductive Atom : V → Prop
  | str (x : Str) : Atom (.str x)
  | int (i : Int) : Atom (.int i)
  | bl (b : Bool) : Atom (.bl b)
  | non : Atom .non
def strOf : V → Option Str
  | .str x => some x
  | _ => none
theorem strOf_none {v : V} (h : strOf v = none) (a : Atom v) (K : PySem.W.Frag) (H : Hp) : NoStr K H v := by
  cases a with
  | str x => cases h
  | int i => exact ⟨_, .base (.int i), by decide +kernel⟩
  | bl b => exact ⟨_, .base (.bl b), by decide +kernel⟩
  | non => exact ⟨_, .base .non, by decide +kernel⟩
theorem strOf_some {v : V} {x : Str} (h : strOf v = some x) : v = .str x := by
  cases v <;> first | (cases h; rfl) | cases h
theorem ty_same {K : PySem.W.Frag} {H H' : Hp} {v : V} {t : String} (h : TyX K H v (.type t)) (s : Same H H') : TyX K H' v (.type t) := by
  generalize e : Value.type t = u at h
  cases h with
  | base b =>
    refine .base ?_
    cases b with
    | non => exact .non
    | bl x => exact .bl x
    | int i => exact .int i
    | str x => exact .str x
    | flt x => exact .flt x
    | lst q => exact .lst (s _ _ q)
    | frz q => exact .frz (s _ _ q)
    | tup q => exact .tup (s _ _ q)
    | dK q => exact .dK (s _ _ q)
    | dT q => exact .dT (s _ _ q)
    | ins q => cases e
  | byt b => exact .byt b
  | set q => exact .set (s _ _ q)
  | kList q c => exact .kList q c
  | kTuple q c => exact .kTuple q c
  | kDict q c => exact .kDict q c
  | fTuple q => exact .fTuple (s _ _ q)
  | fDict q => exact .fDict (s _ _ q)
theorem NoStr.same {K : PySem.W.Frag} {H H' : Hp} {v : V} (h : NoStr K H v) (s : Same H H') : NoStr K H' v := let ⟨t, a, b⟩ := h; ⟨t, ty_same a s, b⟩
theorem NoSeq.same {K : PySem.W.Frag} {H H' : Hp} {v : V} (h : NoSeq K H v) (s : Same H H') : NoSeq K H' v := let ⟨t, a, b⟩ := h; ⟨t, ty_same a s, b⟩
/-- the first place at which a thing is no name or stood before -/
def badAt (ns : List Str) : List V → List Str → Nat → Option Nat
  | [], _, _ => none
  | v :: r, seen, i => match strOf v with
    | some x => if x ∈ ns ∧ x ∉ seen then badAt ns r (seen ++ [x]) (i + 1) else some i
    | none => some i
def optV : Option Nat → V
  | none => .non
  | some i => .int (i : Nat)
def spIsListG (K : PySem.W.Frag) : Sp := fun vs H Q _ => ∃ v : V, vs = [v] ∧ (((∃ a xs, v = .ref a ∧ SqA K H a xs) ∧ ∀ H', Same H H' → Q (.bl true) H') ∨ (NoSeq K H v ∧ ∀ H', Same H H' → Q (.bl false) H'))
def spIsOneG (K : PySem.W.Frag) : Sp := fun vs H Q _ => ∃ (c : Addr) (ns : List Str) (v : V), vs = [.ref c, v] ∧ SqL K H c (ns.map V.str) ∧ ((∃ x, v = .str x ∧ Q (.bl (decide (x ∈ ns))) H) ∨ (NoStr K H v ∧ Q (.bl false) H))
/-- what first_bad says of v -/
inductive Bad (K : PySem.W.Frag) (H : Hp) (ns : List Str) : V → Option Nat → Prop
  | no {v : V} (h : NoSeq K H v) : Bad K H ns v (some 0)
  | seq {a : Addr} {xs : List V} (h : SqA K H a xs) (at_ : ∀ x ∈ xs, Atom x) (short : xs.length < 1000) : Bad K H ns (.ref a) (badAt ns xs [] 0)
theorem Bad.same {K : PySem.W.Frag} {H H' : Hp} {ns : List Str} {v : V} {r : Option Nat} (h : Bad K H ns v r) (s : Same H H') : Bad K H' ns v r := by
  cases h with
  | no h => exact .no (h.same s)
  | seq h a l => exact .seq (h.same s) a l
def spFirstG (K : PySem.W.Frag) : Sp := fun vs H Q _ => ∃ (c : Addr) (ns : List Str) (v : V) (r : Option Nat), vs = [.ref c, v] ∧ H c = some (.lst (ns.map V.str)) ∧ Bad K H ns v r ∧ ∀ H', Same H H' → Q (optV r) H'
theorem kit_two_n {K : PySem.W.Frag} {t : String} (h1 : kitB t "list" = some false) (h2 : kitB t "tuple" = some false) : PySem.W.kitAny K (.type t) [.type "list", .type "tuple"] = some false :=
  kitAny_cons (b := false) (kit_ty h1) (fun _ => kitAny_cons (b := false) (kit_ty h2) (fun _ => kitAny_nil) (fun z => by cases z)) (fun z => by cases z)
section
variable {P : Program} {w : World} {K : PySem.W.Frag} {mg : Str → Option Value} {base : Heap} {f fL fO : Addr} {fd fdL fdO : FuncData}
theorem ok_isListG (F : Fun K "is_list" "is_list" sIsList f fd) (gI : mg "isinstance" = none) (gL : mg "list" = none) (gT : mg "tuple" = none) : FnOk P w K mg base CX0 1 f fd ["thing"] (spIsListG K) := by
  refine F.ok scIsList (fun vs H Q E h => by obtain ⟨a, e, _⟩ := h; rw [e]; rfl) fun cdv A outer s H vs Q E hr hsp => ?_
  obtain ⟨v, rfl, hq⟩ := hsp
  refine ⟨_, pss_one (ps_ret (pe_callB (r := rIsiT K) call_isiT rfl gI boot_isi (pa_cons (pv 0) (pa_cons (pe_tup (pa_cons (pe_bltn (v := .ty "list") rfl gL boot_list' rfl) (pa_cons (pe_bltn (v := .ty "tuple") rfl gT boot_tuple' rfl) pa_nil))) pa_nil)))), ?_⟩
  refine ⟨_, rfl, (by show 2 ≤ sizeLine; decide), fun t nt => ?_⟩
  have kt := same_new (o := .tup [.ty "list", .ty "tuple"]) nt
  rcases hq with ⟨⟨a, xs, rfl, hS⟩, hq⟩ | ⟨hN, hq⟩
  · rcases hS.same kt with e | e
    · exact ⟨_, _, _, _, _, true, rfl, upd_same, .cons (.ty _) (.cons (.ty _) .nil), .base (.lst e), kit_two_l, hq _ kt⟩
    · exact ⟨_, _, _, _, _, true, rfl, upd_same, .cons (.ty _) (.cons (.ty _) .nil), .base (.tup e), kit_two_t, hq _ kt⟩
  · obtain ⟨ty, h1, h2, h3⟩ := hN.same kt
    exact ⟨_, _, _, _, _, false, rfl, upd_same, .cons (.ty _) (.cons (.ty _) .nil), h1, kit_two_n h2 h3, hq _ kt⟩
theorem ok_isOneG (F : Fun K "is_one_of" "is_one_of" sIsOne f fd) (gI : mg "isinstance" = none) (gS : mg "str" = none) : FnOk P w K mg base CX0 1 f fd ["names", "thing"] (spIsOneG K) := by
  refine F.ok scIsOne (fun vs H Q E h => by obtain ⟨c, ns, x, e, _⟩ := h; rw [e]; rfl) fun cdv A outer s H vs Q E hr hsp => ?_
  obtain ⟨c, ns, v, rfl, hS, hq⟩ := hsp
  refine ⟨_, pss_one (ps_ret (pe_and (pe_callB (r := rIsi K) call_isi rfl gI boot_isi (pa_cons (pv 1) (pa_cons (pe_bltn (v := .ty "str") rfl gS boot_str' rfl) pa_nil)))
    (pe_one (pe_cmpR op_in_seq (pv 1) (pv 0) rfl)))), ?_⟩
  rcases hq with ⟨x, rfl, hq⟩ | ⟨⟨t, h1, h2⟩, hq⟩
  · refine ⟨_, rfl, _, _, _, _, true, rfl, .ty _, .base (.str x), kit_ty (by decide +kernel), true, rfl, _, rfl, _, rfl, c, _, rfl, .inl hS, rfl, flat_strs ns, ?_⟩
    rw [inV_strs]
    exact hq
  · exact ⟨_, rfl, _, _, _, _, false, rfl, .ty _, h1, kit_ty h2, false, rfl, hq⟩
theorem badAt_step {ns : List Str} {xs : List V} {us : List Str} {i : Nat} {v : V} (hv : xs[i]? = some v) :
    badAt ns (xs.drop i) us i = match strOf v with | some x => if x ∈ ns ∧ x ∉ us then badAt ns (xs.drop (i + 1)) (us ++ [x]) (i + 1) else some i | none => some i := by
  have e : xs.drop i = v :: xs.drop (i + 1) := by
    obtain ⟨h, e⟩ := List.getElem?_eq_some_iff.mp hv
    rw [List.drop_eq_getElem_cons h, e]
  rw [e]
  rfl
theorem ok_firstG (F : Fun K "first_bad" "first_bad" sFirst f fd) (FL : Fun K "is_list" "is_list" sIsList fL fdL) (gIL : mg "is_list" = some (.ref fL)) (FO : Fun K "is_one_of" "is_one_of" sIsOne fO fdO) (gIO : mg "is_one_of" = some (.ref fO))
    (gI : mg "isinstance" = none) (gL : mg "list" = none) (gT : mg "tuple" = none) (gS : mg "str" = none) (gE : mg "enumerate" = none) : FnOk P w K mg base CX0 2 f fd ["names", "things"] (spFirstG K) := by
  have GL : FnOk P w K mg base CX0 1 fL fdL ["thing"] (spIsListG K) := ok_isListG FL gI gL gT
  have bL := FL.binds (ps := ["thing"]) fun _ _ _ _ _ _ us hl => match us, hl with | [_], _ => rfl
  have GO : FnOk P w K mg base CX0 1 fO fdO ["names", "thing"] (spIsOneG K) := ok_isOneG FO gI gS
  have bO := FO.binds (ps := ["names", "thing"]) fun _ _ _ _ _ _ us hl => match us, hl with | [_, _], _ => rfl
  refine F.ok scFirst (fun vs H Q E h => by obtain ⟨c, ns, v, r, e, _⟩ := h; rw [e]; rfl) fun cdv A outer s H vs Q E hr hsp => ?_
  obtain ⟨c, ns, v, r, rfl, hc, hB, hq⟩ := hsp
  have nd := scFirst.nd
  have hu := hu_of hr
  refine ⟨_, pss_cons (ps_if (pt_not (pt_val (pe_call GL hr rfl gIL FL.kp bL .nil pass0 (pa_cons (pv 1) pa_nil)))) (pss_one (ps_ret pe_int)) pss_nil)
    (pss_cons (ps_set (i := 2) nd rfl (Or.inl rfl) pe_dnewK)
    (pss_cons (ps_for PassesOwn.never rfl (pi_enumS rfl gE (pa_cons (pv 1) pa_nil)) (pg_tup rfl (pgs_cons (pg_name (i := 3) nd rfl (Or.inl rfl)) (pgs_cons (pg_name (i := 4) nd rfl (Or.inl rfl)) pgs_nil)))
      (pss_cons (ps_if (PW.pt (pw_or (pt_not (pt_val (pe_call GO hr rfl gIO FO.kp bO .nil pass0 (pa_cons (pv 0) (pa_cons (pv 4) pa_nil))))) (pw_or1 (pt_cmp (pc_din hu (pv 4) (pv 2)))))) (pss_one (ps_ret (pv 3))) pss_nil)
      (pss_one (ps_dput hu (pv 2) (pv 4) pe_bl rfl))))
    (pss_one (ps_ret pe_non)))), ?_⟩
  cases hB with
  | no hN => exact ⟨_, rfl, _, rfl, .inr ⟨hN, fun H1 k1 => ⟨_, rfl, iteT (hq H1 k1)⟩⟩⟩
  | @seq a xs hS hA short =>
  refine ⟨_, rfl, _, rfl, .inl ⟨⟨a, xs, rfl, hS⟩, fun H1 k1 => ⟨_, rfl, iteF fun d nd2 => ?_⟩⟩⟩
  have kd := same_new (o := .dK []) nd2
  obtain ⟨o, ho, ko⟩ : ∃ o, H1 a = some o ∧ (o = .lst xs ∨ o = .tup xs) := by
    rcases hS.same k1 with e | e
    · exact ⟨_, e, .inl rfl⟩
    · exact ⟨_, e, .inr rfl⟩
  refine ⟨_, rfl, enum_seq ko (fun i σ H' => ∃ us : List Str, us.length = i ∧ badAt ns xs [] 0 = badAt ns (xs.drop i) us i ∧ H' d = some (.dK (seenD us)) ∧ Same H1 H' ∧ ∃ s3 s4, σ = [some (.ref c), some (.ref a), some (.ref d), s3, s4])
    ⟨[], rfl, by rw [List.drop_zero], upd_same, kd, _, _, rfl⟩ (fun i σ H' _ ⟨us, h⟩ => h.2.2.2.1 _ _ ho) ?_ ?_⟩
  · rintro i v σ H2 T ev ⟨us, lu, eb, od, s2, s3, s4, rfl⟩ nT
    have hi : i < xs.length := (List.getElem?_eq_some_iff.mp ev).1
    have kT := same_new (o := .tup [.int (i : Nat), v]) nT
    refine ⟨T, _, rfl, SqT.of upd_same, rfl, ?_⟩
    refine ⟨_, _, rfl, _, _, rfl, rfl, ?_⟩
    rw [badAt_step ev] at eb
    refine ⟨_, rfl, _, rfl, c, ns, v, rfl, SqL.of (kT _ _ (s2 _ _ (k1 _ _ hc))), ?_⟩
    cases hs : strOf v with
    | none =>
      rw [hs] at eb
      refine .inr ⟨strOf_none hs (hA v (List.mem_of_getElem? ev)) K _, _, rfl, iteT ?_⟩
      have z := hq _ (k1.trans (s2.trans kT))
      rw [eb] at z
      exact iteT ⟨_, rfl, z⟩
    | some x =>
      obtain rfl := strOf_some hs
      rw [hs] at eb
      refine .inl ⟨x, rfl, _, rfl, ?_⟩
      by_cases xin : x ∈ ns
      · rw [decide_eq_true xin]
        refine iteF ⟨_, rfl, _, rfl, d, _, rfl, DGet.k (k := Sum.inr x) (kT _ _ od), ?_⟩
        by_cases xs' : x ∈ us
        · obtain ⟨v2, e2⟩ := has_key (kvs := seenD us) (ns := us) (by unfold seenD; rw [List.map_map]; rfl) xs'
          rw [e2]
          dsimp only at eb
          rw [if_neg (fun z => z.2 xs')] at eb
          have z := hq _ (k1.trans (s2.trans kT))
          rw [eb] at z
          exact ⟨_, rfl, iteT ⟨_, rfl, z⟩⟩
        · rw [seen_none xs']
          refine ⟨_, rfl, iteF ?_⟩
          dsimp only at eb
          rw [if_pos ⟨xin, xs'⟩] at eb
          have small : (seenD us).length < sizeLine := by
            rw [sizeLine_eq]
            unfold seenD
            rw [List.length_map]; omega
          refine ⟨_, rfl, _, rfl, d, _, rfl, DPut.k (k := Sum.inr x) (kT _ _ od) small, us ++ [x], by rw [List.length_append, lu]; rfl, eb, ?_, ?_, _, _, rfl⟩
          · rw [upd_same, seen_put xs']
          · intro b u e
            have nb : b ≠ d := ne_of_none e nd2
            rw [upd_ne nb]
            exact kT _ _ (s2 _ _ e)
      · rw [decide_eq_false xin]
        dsimp only at eb
        rw [if_neg (fun z => xin z.1)] at eb
        have z := hq _ (k1.trans (s2.trans kT))
        rw [eb] at z
        exact iteT ⟨_, rfl, z⟩
  · rintro σ H2 ⟨us, lu, eb, od, s2, s3, s4, rfl⟩
    rw [List.drop_length] at eb
    have z := hq _ (k1.trans s2)
    rw [eb] at z
    exact z
end
end L2.TB
/-! things frozen: lists and tuples to tuples, dicts anew -/
namespace L2.TB
open PySem PySem.Spec PyProof.Rows
/-- what a frozen thing is -/
inductive Tr
  | one (v : V)
  | tu (l : List Tr)
  | di (kvs : List (Key × V))
inductive FzAt (H : Hp) : Tr → V → Prop
  | one {v : V} (h : Atom v) : FzAt H (.one v) v
  | tu {a : Addr} {us : List V} {ts : List Tr} (h : H a = some (.tup us)) (len : us.length = ts.length) (sh : us.length < 1000) (al : ∀ (i : Nat) (u : V) (t : Tr), us[i]? = some u → ts[i]? = some t → FzAt H t u) : FzAt H (.tu ts) (.ref a)
  | di {a : Addr} {kvs : List (Key × V)} (h : H a = some (.dK kvs)) (at_ : ∀ kv ∈ kvs, Atom kv.2) : FzAt H (.di kvs) (.ref a)
/-- a thing, to this depth, and what it is frozen -/
inductive Thg (H : Hp) : Nat → V → Tr → Prop
  | one {v : V} (h : Atom v) : Thg H 0 v (.one v)
  | seq {n : Nat} {a : Addr} {xs : List V} {ts : List Tr} (h : H a = some (.lst xs) ∨ H a = some (.tup xs)) (len : xs.length = ts.length) (sh : xs.length < 1000) (al : ∀ (i : Nat) (x : V) (t : Tr), xs[i]? = some x → ts[i]? = some t → Thg H n x t) : Thg H (n + 1) (.ref a) (.tu ts)
  | dic {n : Nat} {a : Addr} {kvs : List (Key × V)} (h : H a = some (.dK kvs)) (sh : kvs.length < 1000) (nd : (kvs.map (·.1)).Nodup) (at_ : ∀ kv ∈ kvs, Atom kv.2) : Thg H (n + 1) (.ref a) (.di kvs)
  | up {n : Nat} {v : V} {t : Tr} (h : Thg H n v t) : Thg H (n + 1) v t
theorem FzAt.but {H H' : Hp} {t : Tr} {v : V} (h : FzAt H t v) : ∀ {D : Addr} {l : List V}, H D = some (.lst l) → (∀ b o, b ≠ D → H b = some o → H' b = some o) → FzAt H' t v := by
  induction h with
  | one h => exact fun _ _ => .one h
  | tu h len sh _ ih => exact fun oD s => .tu (s _ _ (fun z => by rw [z, oD] at h; cases h) h) len sh fun i u t e1 e2 => ih i u t e1 e2 oD s
  | di h at_ => exact fun oD s => .di (s _ _ (fun z => by rw [z, oD] at h; cases h) h) at_
theorem FzAt.same {H H' : Hp} {t : Tr} {v : V} (h : FzAt H t v) (s : Same H H') : FzAt H' t v := by
  induction h with
  | one h => exact .one h
  | tu h len sh _ ih => exact .tu (s _ _ h) len sh ih
  | di h at_ => exact .di (s _ _ h) at_
theorem Thg.same {H H' : Hp} {n : Nat} {t : Tr} {v : V} (h : Thg H n v t) (s : Same H H') : Thg H' n v t := by
  induction h with
  | one h => exact .one h
  | seq h len sh _ ih => exact .seq (h.imp (s _ _) (s _ _)) len sh ih
  | dic h sh nd at_ => exact .dic (s _ _ h) sh nd at_
  | up _ ih => exact .up ih
theorem atom_ty {v : V} (a : Atom v) (K : PySem.W.Frag) (H : Hp) : ∃ t : String, TyX K H v (.type t) ∧ kitB t "dict" = some false ∧ kitB t "list" = some false ∧ kitB t "tuple" = some false := by
  cases a with
  | str x => exact ⟨_, .base (.str x), by decide +kernel, by decide +kernel, by decide +kernel⟩
  | int i => exact ⟨_, .base (.int i), by decide +kernel, by decide +kernel, by decide +kernel⟩
  | bl b => exact ⟨_, .base (.bl b), by decide +kernel, by decide +kernel, by decide +kernel⟩
  | non => exact ⟨_, .base .non, by decide +kernel, by decide +kernel, by decide +kernel⟩
/-- a comprehension over a list or a tuple whose turns make things -/
theorem lc_madeSeq {K : PySem.W.Frag} {a : Addr} {xs : List V} {o : HO} {g : TG} {tt : TT} {te : TE} {vs : List Nat} {σ : St} {H1 : Hp} {Q : Addr → Hp → Prop} (ko : o = .lst xs ∨ o = .tup xs) (ho : H1 a = some o) (short : xs.length < 1000000) (R : Nat → V → Hp → Prop)
    (stays : ∀ i y H H' D l, R i y H → H D = some (.lst l) → (∀ b o, b ≠ D → H b = some o → H' b = some o) → R i y H')
    (turn : ∀ (i : Nat) (x : V) (H : Hp) (C : V → Hp → Prop) (N : Hp → Prop), xs[i]? = some x → Same H1 H → (∀ y H4, R i y H4 → Same H H4 → C y H4) → g x (wipe σ vs) H fun σ2 H2 => wipe σ2 vs = wipe σ vs ∧ tt σ2 H2 fun b H3 => if b = true then te σ2 H3 C else N H3)
    (fin : ∀ H D ys, H1 D = none → H D = some (.lst ys) → ys.length = xs.length → (∀ j y, ys[j]? = some y → R j y H) → Same H1 H → Q D H) :
    ∃ b ys, V.ref a = V.ref b ∧ ((SqL K H1 b ys ∧ LcW (Itl K b) g tt te vs σ H1 Q) ∨ (SqT K H1 b ys ∧ LcW (Itt K b) g tt te vs σ H1 Q)) := by
  rcases ko with rfl | rfl
  · refine ⟨a, xs, rfl, .inl ⟨SqL.of ho, lc_made xs.length short (fun i H' k lt => ⟨_, _, SqL.of (k _ _ ho), List.getElem?_eq_getElem lt⟩) (fun H' k => ⟨_, SqL.of (k _ _ ho), Nat.le_refl _⟩) R stays ?_ fin⟩⟩
    rintro i x H2 H3 Cn Nn lt s2 ⟨rfl, ex⟩ yes
    exact turn i x _ Cn Nn (ex _ (SqL.of (s2 _ _ ho))) s2 yes
  · refine ⟨a, xs, rfl, .inr ⟨SqT.of ho, lc_made xs.length short (fun i H' k lt => ⟨_, _, SqT.of (k _ _ ho), List.getElem?_eq_getElem lt⟩) (fun H' k => ⟨_, SqT.of (k _ _ ho), Nat.le_refl _⟩) R stays ?_ fin⟩⟩
    rintro i x H2 H3 Cn Nn lt s2 ⟨rfl, ex⟩ yes
    exact turn i x _ Cn Nn (ex _ (SqT.of (s2 _ _ ho))) s2 yes
theorem valV_at : ∀ {kvs : List (Key × V)} {i : Nat} {k : Key} {x : V}, (kvs.map (·.1)).Nodup → kvs[i]? = some (k, x) → valV kvs k = some x
  | [], i, k, x, _, e => by cases e
  | p :: r, 0, k, x, _, e => by
    obtain rfl : p = (k, x) := by simpa using e
    exact valV_pos rfl
  | p :: r, i + 1, k, x, nd, e => by
    have e2 : r[i]? = some (k, x) := by simpa using e
    rw [List.map_cons, List.nodup_cons] at nd
    have ne : ¬ p.1 = k := fun z => nd.1 (by rw [z]; exact List.mem_map.mpr ⟨_, List.mem_of_getElem? e2, rfl⟩)
    rw [valV_neg ne]
    exact valV_at nd.2 e2
def spFrozen (n : Nat) : Sp := fun vs H Q _ => ∃ (v : V) (t : Tr), vs = [v] ∧ Thg H n v t ∧ ∀ H' u, Same H H' → FzAt H' t u → Q u H'
abbrev NFz : List Str := ["thing", "key", "part"]
theorem scFz : FnScope NFz ["thing"] (defScope sFrozen) := ⟨rfl, rfl, rfl, by decide +kernel, rfl, by decide +kernel, by decide +kernel⟩
/-- two promises of one def -/
theorem fnOr {P : Program} {w : World} {K : PySem.W.Frag} {mg : Str → Option Value} {base : Heap} {CX : CXT} {k : Nat} {f : Addr} {fd : FuncData} {ps : List Str} {sp sp1 sp2 : Sp} (F1 : FnOk P w K mg base CX k f fd ps sp1) (F2 : FnOk P w K mg base CX k f fd ps sp2)
    (h : ∀ vs H Q E, sp vs H Q E → sp1 vs H Q E ∨ sp2 vs H Q E) : FnOk P w K mg base CX k f fd ps sp :=
  ⟨fun vs H Q E q => (h _ _ _ _ q).elim (F1.len vs H Q E) (F2.len vs H Q E), fun A outer s H args us vs Q E hr he hb hv hs => (h _ _ _ _ hs).elim (F1.run A outer s H args us vs Q E hr he hb hv) (F2.run A outer s H args us vs Q E hr he hb hv)⟩
/-- the names that it reads -/
structure FzM (mg : Str → Option Value) : Prop where
  nI : mg "isinstance" = none
  nL : mg "list" = none
  nT : mg "tuple" = none
  nD : mg "dict" = none
section
variable {P : Program} {w : World} {K : PySem.W.Frag} {mg : Str → Option Value} {base : Heap} {f : Addr} {fd : FuncData}
theorem ok_frozenA (F : Fun K "_law_frozen" "_law_frozen" sFrozen f fd) (M : FzM mg) : FnOk P w K mg base CX0 1 f fd ["thing"] (fun vs H Q _ => ∃ v : V, vs = [v] ∧ Atom v ∧ ∀ H', Same H H' → Q v H') := by
  refine F.ok scFz (fun vs H Q E h => by obtain ⟨x, e, _⟩ := h; rw [e]; rfl) fun cdv A outer s H vs Q E hr hsp => ?_
  obtain ⟨v, rfl, hA, hq⟩ := hsp
  refine ⟨_, pss_cons (ps_if (pt_val (pe_callB (r := rIsi K) call_isi rfl M.nI boot_isi (pa_cons (pv 0) (pa_cons (pe_bltn (v := .ty "dict") rfl M.nD boot_dict' rfl) pa_nil)))) pss_never pss_nil)
    (pss_one (ps_ret (pe_ifExp (pt_val (pe_callB (r := rIsiT K) call_isiT rfl M.nI boot_isi (pa_cons (pv 0) (pa_cons (pe_tup (pa_cons (pe_bltn (v := .ty "list") rfl M.nL boot_list' rfl) (pa_cons (pe_bltn (v := .ty "tuple") rfl M.nT boot_tuple' rfl) pa_nil))) pa_nil))))
      (⟨fun _ _ _ _ _ _ h => h.elim⟩ : PE _ _ (fun _ _ _ => False)) (pv 0)))), ?_⟩
  obtain ⟨t, ty, h1, h2, h3⟩ := atom_ty hA K H
  refine ⟨_, rfl, _, _, _, _, false, rfl, .ty _, ty, kit_ty h1, _, rfl, iteF ?_⟩
  refine ⟨_, rfl, (by show 2 ≤ sizeLine; decide), fun t nt => ?_⟩
  have st := same_new (o := .tup [.ty "list", .ty "tuple"]) nt
  exact ⟨_, _, _, _, _, false, rfl, upd_same, .cons (.ty _) (.cons (.ty _) .nil), ty_same ty st, kit_two_n h2 h3, _, rfl, iteF ⟨_, rfl, hq _ st⟩⟩
theorem ok_frozen (F : Fun K "_law_frozen" "_law_frozen" sFrozen f fd) (gF : mg "_law_frozen" = some (.ref f)) (M : FzM mg) : ∀ n : Nat, FnOk P w K mg base CX0 (n + 1) f fd ["thing"] (spFrozen n)
  | 0 => by
    have G := ok_frozenA (P := P) (w := w) (base := base) F M
    refine ⟨fun vs H Q E h => by obtain ⟨v, t, e, _⟩ := h; rw [e]; rfl, fun A outer s H args us vs Q E hr he hb hv hs => G.run A outer s H args us vs Q E hr he hb hv ?_⟩
    obtain ⟨v, t, rfl, th, hq⟩ := hs
    cases th with
    | one h => exact ⟨v, rfl, h, fun H' s => hq _ _ s (.one h)⟩
  | n + 1 => by
    have G := ok_frozen F gF M n
    have b := F.binds (ps := ["thing"]) fun _ _ _ _ _ _ us hl => match us, hl with | [_], _ => rfl
    have nd := scFz.nd
    have GU : FnOk P w K mg base CX0 (n + 2) f fd ["thing"] (spFrozen n) := G.mono (Nat.le_succ _)
    have GS : FnOk P w K mg base CX0 (n + 2) f fd ["thing"] (fun vs H Q _ => ∃ (a : Addr) (xs : List V) (ts : List Tr), vs = [.ref a] ∧ (H a = some (.lst xs) ∨ H a = some (.tup xs)) ∧ xs.length = ts.length ∧ xs.length < 1000 ∧ (∀ (i : Nat) (x : V) (t : Tr), xs[i]? = some x → ts[i]? = some t → Thg H n x t) ∧ ∀ H' u, Same H H' → FzAt H' (.tu ts) u → Q u H') := by
      refine F.ok scFz (fun vs H Q E h => by obtain ⟨a, xs, ts, e, _⟩ := h; rw [e]; rfl) fun cdv A outer s H vs Q E hr hsp => ?_
      obtain ⟨a, xs, ts, rfl, ho, len, sh, al, hq⟩ := hsp
      refine ⟨_, pss_cons (ps_if (pt_val (pe_callB (r := rIsi K) call_isi rfl M.nI boot_isi (pa_cons (pv 0) (pa_cons (pe_bltn (v := .ty "dict") rfl M.nD boot_dict' rfl) pa_nil)))) pss_never pss_nil)
        (pss_one (ps_ret (pe_ifExp (pt_val (pe_callB (r := rIsiT K) call_isiT rfl M.nI boot_isi (pa_cons (pv 0) (pa_cons (pe_tup (pa_cons (pe_bltn (v := .ty "list") rfl M.nL boot_list' rfl) (pa_cons (pe_bltn (v := .ty "tuple") rfl M.nT boot_tuple' rfl) pa_nil))) pa_nil))))
          (pe_callTy (r := rTupOf K) call_tuple_of rfl M.nT boot_tuple' (pa_cons (pe_lc (own := [("part", 2)]) (tt := tYes) (g := gName 2) rfl nd (pi_seq (pv 0)) (blkOk_by (N := NFz) (sc := defScope sFrozen) (by decide +kernel)) (fun _ _ _ _ _ => pg_name (i := 2) nd rfl (Or.inl rfl)) (fun _ _ _ _ _ => pts_nil)
            (fun _ _ _ _ _ => pe_call G hr rfl gF F.kp b .nil pass0 (pa_cons (pv 2) pa_nil))) pa_nil)) (pv 0)))), ?_⟩
      obtain ⟨t, ty, h1, h2⟩ : ∃ t : String, TyX K H (.ref a) (.type t) ∧ kitB t "dict" = some false ∧ PySem.W.kitAny K (.type t) [.type "list", .type "tuple"] = some true := by
        rcases ho with e | e
        · exact ⟨_, .base (.lst e), by decide +kernel, kit_two_l⟩
        · exact ⟨_, .base (.tup e), by decide +kernel, kit_two_t⟩
      refine ⟨_, rfl, _, _, _, _, false, rfl, .ty _, ty, kit_ty h1, _, rfl, iteF ?_⟩
      refine ⟨_, rfl, (by show 2 ≤ sizeLine; decide), fun t nt => ?_⟩
      have st := same_new (o := .tup [.ty "list", .ty "tuple"]) nt
      refine ⟨_, _, _, _, _, true, rfl, upd_same, .cons (.ty _) (.cons (.ty _) .nil), ty_same ty st, h2, _, rfl, iteT ?_⟩
      generalize upd H t (.tup [.ty "list", .ty "tuple"]) = H1 at st
      obtain ⟨o, oa, ko⟩ : ∃ o, H1 a = some o ∧ (o = .lst xs ∨ o = .tup xs) := by
        rcases ho with e | e
        · exact ⟨_, st _ _ e, .inl rfl⟩
        · exact ⟨_, st _ _ e, .inr rfl⟩
      refine ⟨_, rfl, lc_madeSeq ko oa (by omega) (fun i y H' => ∃ t, ts[i]? = some t ∧ FzAt H' t y) ?_ ?_ ?_⟩
      · rintro i y H2 H3 D l ⟨t, et, ft⟩ oD keep
        exact ⟨t, et, ft.but oD keep⟩
      · rintro i x H2 Cn Nn ex s2 yes
        have lt : i < ts.length := by rw [← len]; exact (List.getElem?_eq_some_iff.mp ex).1
        have et : ts[i]? = some ts[i] := List.getElem?_eq_getElem lt
        refine ⟨rfl, ?_⟩
        exact ⟨_, rfl, x, _, rfl, (al i x _ ex et).same (st.trans s2), fun H4 u s4 fu => yes _ _ ⟨_, et, fu⟩ s4⟩
      · intro H2 D ys nD oD ly ry s2
        refine ⟨D, ys, rfl, .inl ⟨SqL.of oD, fun l nl => ?_⟩⟩
        have kl := same_new (o := .tup ys) nl
        refine hq _ _ ((st.trans s2).trans kl) (.tu upd_same (by rw [ly, len]) (by rw [ly]; exact sh) fun i u t eu et => ?_)
        obtain ⟨t2, e2, f2⟩ := ry i u eu
        rw [et] at e2
        cases e2
        exact f2.same kl
    have GD : FnOk P w K mg base CX0 (n + 2) f fd ["thing"] (fun vs H Q _ => ∃ (a : Addr) (kvs : List (Key × V)), vs = [.ref a] ∧ H a = some (.dK kvs) ∧ kvs.length < 1000 ∧ (kvs.map (·.1)).Nodup ∧ (∀ kv ∈ kvs, Atom kv.2) ∧ ∀ H' u, Same H H' → FzAt H' (.di kvs) u → Q u H') := by
      refine F.ok scFz (fun vs H Q E h => by obtain ⟨a, kvs, e, _⟩ := h; rw [e]; rfl) fun cdv A outer s H vs Q E hr hsp => ?_
      obtain ⟨a, kvs, rfl, ho, sh, nk, hA, hq⟩ := hsp
      have hu := hu_of hr
      have GA := ok_frozenA (P := P) (w := w) (base := base) F M
      refine ⟨_, pss_cons (ps_if (pt_val (pe_callB (r := rIsi K) call_isi rfl M.nI boot_isi (pa_cons (pv 0) (pa_cons (pe_bltn (v := .ty "dict") rfl M.nD boot_dict' rfl) pa_nil))))
        (pss_one (ps_ret (pe_callTy (call_dictP rfl) rfl M.nD boot_dict' (pa_cons (pe_lock (pe_lc (own := [("key", 1)]) (tt := tYes) (g := gName 1) rfl nd (pi_keys (pv 0)) (blkOk_by (N := NFz) (sc := defScope sFrozen) (by decide +kernel)) (fun _ _ _ _ _ => pg_name (i := 1) nd rfl (Or.inl rfl)) (fun _ _ _ _ _ => pts_nil)
          (fun _ _ _ _ _ => pe_tup (pa_cons (pv 1) (pa_cons (pe_call GA (hr.mono (by omega)) rfl gF F.kp b .nil pass0 (pa_cons (pe_dget hu (pv 0) (pv 1) (fun _ _ => rfl)) pa_nil)) pa_nil))))) pa_nil)))) pss_nil)
        pss_never, ?_⟩
      refine ⟨_, rfl, _, _, _, _, true, rfl, .ty _, .base (.dK ho), kit_ty (by decide +kernel), _, rfl, iteT ?_⟩
      refine ⟨a, _, ho, trivial, fun od => ⟨_, rfl, a, od, rfl, .inl ⟨_, upd_same, ?_⟩⟩⟩
      have oL : upd H a (.frz od (.dK kvs)) a = some (.frz od (.dK kvs)) := upd_same
      refine pairs_lc kvs sh (fun i H' s lt => ⟨s _ _ oL, lt⟩) (fun H' s => ⟨s _ _ oL, Nat.le_refl _⟩) ?_ ?_
      · rintro i v k x H2 H3 Cn Nn ek s2 ⟨rfl, k2, x2, ek2, rfl⟩ yes
        rw [ek] at ek2
        cases ek2
        refine ⟨rfl, ?_⟩
        have ga : Atom x := hA _ (List.mem_of_getElem? ek)
        have dg : DGet H3 a (kV k) (valV kvs k) := .inl ⟨kvs, k, .inr ⟨od, s2 _ _ oL⟩, rfl, rfl⟩
        rw [valV_at nk ek] at dg
        refine ⟨_, rfl, _, rfl, _, rfl, a, _, rfl, dg, x, rfl, ga, fun H4 s4 => ⟨(by show 2 ≤ sizeLine; decide), fun t nt => ?_⟩⟩
        exact yes t _ upd_same (s4.trans (same_new nt))
      · intro H2 D ps nD oD pr s2
        obtain ⟨b1, s02⟩ := lock_off ho s2
        have ne1 : ∀ {b : Addr} {o : HO}, (∀ u, o ≠ .frz od u) → H2 b = some o → upd H2 a (.dK kvs) b = some o := fun no e => by
          rw [upd_ne (fun z => by rw [z, b1] at e; exact no _ (Option.some.inj e).symm)]; exact e
        refine ⟨b1, D, ps, kvs, rfl, SqL.of (ne1 (fun u z => by cases z) oD), Paired.mapP pr fun p kv e => SqT.of (ne1 (fun u z => by cases z) e), fun p np => ?_⟩
        rw [merge_nd nk]
        exact hq _ _ (s02.trans (same_new np)) (.di upd_same hA)
    refine ⟨fun vs H Q E h => by obtain ⟨v, t, e, _⟩ := h; rw [e]; rfl, fun A outer s H args us vs Q E hr he hb hv hs => ?_⟩
    obtain ⟨v, t, rfl, th, hq⟩ := hs
    cases th with
    | seq h len sh al => exact GS.run A outer s H args us _ Q E hr he hb hv ⟨_, _, _, rfl, h, len, sh, al, hq⟩
    | dic h sh nk at_ => exact GD.run A outer s H args us _ Q E hr he hb hv ⟨_, _, rfl, h, sh, nk, at_, hq⟩
    | up h => exact GU.run A outer s H args us _ Q E hr he hb hv ⟨_, _, rfl, h, hq⟩
end
end L2.TB
/-! the law's look whether two things are the same: texts, numbers, None, dicts, lists and tuples of these -/
namespace L2.TB
open PySem PySem.Spec PyProof.Rows
abbrev NSm : List Str := ["found", "due", "x", "y"]
theorem scSame : FnScope NSm ["found", "due"] (defScope sSame) := ⟨rfl, rfl, rfl, by decide +kernel, rfl, by decide +kernel, by decide +kernel⟩
/-- the names that it reads -/
structure Sm (mg : Str → Option Value) : Prop where
  nI : mg "isinstance" = none
  nL : mg "list" = none
  nT : mg "tuple" = none
  nInt : mg "int" = none
  nB : mg "bool" = none
  nN : mg "len" = none
  nA : mg "all" = none
  nZ : mg "zip" = none
/-- alike, to this depth -/
inductive AlkF (H : Hp) : Nat → V → V → Prop
  | one {v : V} (h : Atom v) : AlkF H 0 v v
  | dic {a b : Addr} {kvs : List (Key × V)} (ha : H a = some (.dK kvs)) (hb : H b = some (.dK kvs)) (nd : (kvs.map (·.1)).Nodup) (at_ : ∀ kv ∈ kvs, Atom kv.2) : AlkF H 0 (.ref a) (.ref b)
  | lst {n : Nat} {a b : Addr} {xs ys : List V} (ha : H a = some (.lst xs)) (hb : H b = some (.lst ys)) (l : xs.length = ys.length) (sh : xs.length < 1000) (al : ∀ (i : Nat) (x y : V), xs[i]? = some x → ys[i]? = some y → AlkF H n x y) : AlkF H (n + 1) (.ref a) (.ref b)
  | tup {n : Nat} {a b : Addr} {xs ys : List V} (ha : H a = some (.tup xs)) (hb : H b = some (.tup ys)) (l : xs.length = ys.length) (sh : xs.length < 1000) (al : ∀ (i : Nat) (x y : V), xs[i]? = some x → ys[i]? = some y → AlkF H n x y) : AlkF H (n + 1) (.ref a) (.ref b)
  | up {n : Nat} {x y : V} (h : AlkF H n x y) : AlkF H (n + 1) x y
theorem AlkF.same {H H' : Hp} (s : Same H H') {n : Nat} {x y : V} (h : AlkF H n x y) : AlkF H' n x y := by
  induction h with
  | one h => exact .one h
  | dic ha hb nd at_ => exact .dic (s _ _ ha) (s _ _ hb) nd at_
  | lst ha hb l sh _ ih => exact .lst (s _ _ ha) (s _ _ hb) l sh ih
  | tup ha hb l sh _ ih => exact .tup (s _ _ ha) (s _ _ hb) l sh ih
  | up _ ih => exact .up ih
theorem kit_three_n {K : PySem.W.Frag} {t : String} (h0 : kitB t "int" = some false) (h1 : kitB t "list" = some false) (h2 : kitB t "tuple" = some false) : PySem.W.kitAny K (.type t) [.type "int", .type "list", .type "tuple"] = some false :=
  kitAny_cons (b := false) (kit_ty h0) (fun _ => kit_two_n h1 h2) (fun z => by cases z)
theorem flat_atom {v : V} (a : Atom v) : flatB v = true := by cases a <;> rfl
def spSameF (n : Nat) : Sp := fun vs H Q _ => ∃ x y : V, vs = [x, y] ∧ AlkF H n x y ∧ ∀ H', Same H H' → Q (.bl true) H'
section
variable {P : Program} {w : World} {K : PySem.W.Frag} {mg : Str → Option Value} {base : Heap} {f : Addr} {fd : FuncData}
theorem same_num (F : Fun K "_law_same" "_law_same" sSame f fd) (M : Sm mg) : FnOk P w K mg base CX0 1 f fd ["found", "due"] (fun vs H Q _ => ∃ v : V, vs = [v, v] ∧ ((∃ i, v = .int i) ∨ ∃ b, v = .bl b) ∧ ∀ H', Same H H' → Q (.bl true) H') := by
  refine F.ok scSame (fun vs H Q E h => by obtain ⟨x, e, _⟩ := h; rw [e]; rfl) fun cdv A outer s H vs Q E hr hsp => ?_
  obtain ⟨v, rfl, hv, hq⟩ := hsp
  refine ⟨_, pss_cons (ps_if (pt_val (pe_callB (r := rIsiT K) call_isiT rfl M.nI boot_isi (pa_cons (pv 1) (pa_cons (pe_tup (pa_cons (pe_bltn (v := .ty "list") rfl M.nL boot_list' rfl) (pa_cons (pe_bltn (v := .ty "tuple") rfl M.nT boot_tuple' rfl) pa_nil))) pa_nil)))) pss_never pss_nil)
    (pss_cons (ps_if (pt_val (pe_callB (r := rIsi K) call_isi rfl M.nI boot_isi (pa_cons (pv 1) (pa_cons (pe_bltn (v := .ty "int") rfl M.nInt boot_int' rfl) pa_nil)))) (pss_one (ps_ret (pe_and (pe_callB (r := rIsi K) call_isi rfl M.nI boot_isi (pa_cons (pv 0) (pa_cons (pe_bltn (v := .ty "int") rfl M.nInt boot_int' rfl) pa_nil))) (pe_and (pe_cmpR op_eq (pe_callB (r := rIsi K) call_isi rfl M.nI boot_isi (pa_cons (pv 0) (pa_cons (pe_bltn (v := .ty "bool") rfl M.nB boot_bool' rfl) pa_nil))) (pe_callB (r := rIsi K) call_isi rfl M.nI boot_isi (pa_cons (pv 1) (pa_cons (pe_bltn (v := .ty "bool") rfl M.nB boot_bool' rfl) pa_nil))) (nomark _)) (pe_one (pe_cmpR op_eq (pv 0) (pv 1) (nomark _))))))) pss_nil) pss_never), ?_⟩
  refine ⟨_, rfl, (by show 2 ≤ sizeLine; decide), fun t nt => ?_⟩
  have st := same_new (o := .tup [.ty "list", .ty "tuple"]) nt
  rcases hv with ⟨k, rfl⟩ | ⟨k, rfl⟩
  · refine ⟨_, _, _, _, _, false, rfl, upd_same, .cons (.ty _) (.cons (.ty _) .nil), .base (.int k), kit_two_n (by decide +kernel) (by decide +kernel), _, rfl, iteF ?_⟩
    refine ⟨_, rfl, _, _, _, _, true, rfl, .ty _, .base (.int k), kit_ty (by decide +kernel), _, rfl, iteT ?_⟩
    refine ⟨_, rfl, _, _, _, _, true, rfl, .ty _, .base (.int k), kit_ty (by decide +kernel), _, rfl, iteT ?_⟩
    refine ⟨_, rfl, _, _, _, _, false, rfl, .ty _, .base (.int k), kit_ty (by decide +kernel), _, rfl, _, _, _, _, false, rfl, .ty _, .base (.int k), kit_ty (by decide +kernel), rfl, _, rfl, iteT ⟨_, rfl, _, rfl, rfl, ?_⟩⟩
    rw [decide_eq_true rfl]
    exact hq _ st
  · refine ⟨_, _, _, _, _, false, rfl, upd_same, .cons (.ty _) (.cons (.ty _) .nil), .base (.bl k), kit_two_n (by decide +kernel) (by decide +kernel), _, rfl, iteF ?_⟩
    refine ⟨_, rfl, _, _, _, _, true, rfl, .ty _, .base (.bl k), kit_ty (by decide +kernel), _, rfl, iteT ?_⟩
    refine ⟨_, rfl, _, _, _, _, true, rfl, .ty _, .base (.bl k), kit_ty (by decide +kernel), _, rfl, iteT ?_⟩
    refine ⟨_, rfl, _, _, _, _, true, rfl, .ty _, .base (.bl k), kit_ty (by decide +kernel), _, rfl, _, _, _, _, true, rfl, .ty _, .base (.bl k), kit_ty (by decide +kernel), rfl, _, rfl, iteT ⟨_, rfl, _, rfl, rfl, ?_⟩⟩
    rw [decide_eq_true rfl]
    exact hq _ st
/-- what is neither a number nor a list: by == -/
theorem same_oth (F : Fun K "_law_same" "_law_same" sSame f fd) (M : Sm mg) {x y : V} {r : R2} {t : String} (h0 : kitB t "int" = some false) (h1 : kitB t "list" = some false) (h2 : kitB t "tuple" = some false) (op : ∀ X : Cx, X.A.units + 1 < cLine → OpR X (compareOp .Eq) r) :
    FnOk P w K mg base CX0 1 f fd ["found", "due"] (fun vs H Q _ => vs = [x, y] ∧ TyX K H x (.type t) ∧ TyX K H y (.type t) ∧ ∀ H', Same H H' → r x y H' Q) := by
  refine F.ok scSame (fun vs H Q E h => by obtain ⟨e, _⟩ := h; rw [e]; rfl) fun cdv A outer s H vs Q E hr hsp => ?_
  obtain ⟨rfl, tx, ty, hq⟩ := hsp
  refine ⟨_, pss_cons (ps_if (pt_val (pe_callB (r := rIsiT K) call_isiT rfl M.nI boot_isi (pa_cons (pv 1) (pa_cons (pe_tup (pa_cons (pe_bltn (v := .ty "list") rfl M.nL boot_list' rfl) (pa_cons (pe_bltn (v := .ty "tuple") rfl M.nT boot_tuple' rfl) pa_nil))) pa_nil)))) pss_never pss_nil)
    (pss_cons (ps_if (pt_val (pe_callB (r := rIsi K) call_isi rfl M.nI boot_isi (pa_cons (pv 1) (pa_cons (pe_bltn (v := .ty "int") rfl M.nInt boot_int' rfl) pa_nil)))) pss_never pss_nil)
    (pss_one (ps_ret (pe_and (pe_cmpR op_isBl (pe_callB (r := rIsiT K) call_isiT rfl M.nI boot_isi (pa_cons (pv 0) (pa_cons (pe_tup (pa_cons (pe_bltn (v := .ty "int") rfl M.nInt boot_int' rfl) (pa_cons (pe_bltn (v := .ty "list") rfl M.nL boot_list' rfl) (pa_cons (pe_bltn (v := .ty "tuple") rfl M.nT boot_tuple' rfl) pa_nil)))) pa_nil))) pe_bl (nomark _)) (pe_one (pe_cmpR (op _ (hu_of hr)) (pv 0) (pv 1) (nomark _))))))), ?_⟩
  refine ⟨_, rfl, (by show 2 ≤ sizeLine; decide), fun t nt => ?_⟩
  have st := same_new (o := .tup [.ty "list", .ty "tuple"]) nt
  refine ⟨_, _, _, _, _, false, rfl, upd_same, .cons (.ty _) (.cons (.ty _) .nil), ty_same ty st, kit_two_n h1 h2, _, rfl, iteF ?_⟩
  refine ⟨_, rfl, _, _, _, _, false, rfl, .ty _, ty_same ty st, kit_ty h0, _, rfl, iteF ?_⟩
  refine ⟨_, rfl, (by show 3 ≤ sizeLine; decide), fun t2 nt2 => ?_⟩
  have st2 := same_new (o := .tup [.ty "int", .ty "list", .ty "tuple"]) nt2
  refine ⟨_, _, _, _, _, false, rfl, upd_same, .cons (.ty _) (.cons (.ty _) (.cons (.ty _) .nil)), ty_same tx (st.trans st2), kit_three_n h0 h1 h2, _, _, rfl, rfl, _, rfl, iteT ⟨_, rfl, _, rfl, ?_⟩⟩
  exact hq _ (st.trans st2)
theorem same_lst (F : Fun K "_law_same" "_law_same" sSame f fd) (gSm : mg "_law_same" = some (.ref f)) (M : Sm mg) {n : Nat} (G : FnOk P w K mg base CX0 (n + 1) f fd ["found", "due"] (spSameF n)) : FnOk P w K mg base CX0 (n + 2) f fd ["found", "due"] (fun vs H Q _ => ∃ (a b : Addr) (xs ys : List V), vs = [.ref a, .ref b] ∧ H a = some (.lst xs) ∧ H b = some (.lst ys) ∧ xs.length = ys.length ∧ xs.length < 1000 ∧
    (∀ (i : Nat) (x y : V), xs[i]? = some x → ys[i]? = some y → AlkF H n x y) ∧ ∀ H', Same H H' → Q (.bl true) H') := by
  have b := F.binds (ps := ["found", "due"]) fun _ _ _ _ _ _ us hl => match us, hl with | [_, _], _ => rfl
  refine F.ok scSame (fun vs H Q E h => by obtain ⟨a, b, xs, ys, e, _⟩ := h; rw [e]; rfl) fun cdv A outer s H vs Q E hr hsp => ?_
  obtain ⟨a, bb, xs, ys, rfl, ha, hb, len, short, al, hq⟩ := hsp
  have nd := scSame.nd
  refine ⟨_, pss_cons (ps_if (pt_val (pe_callB (r := rIsiT K) call_isiT rfl M.nI boot_isi (pa_cons (pv 1) (pa_cons (pe_tup (pa_cons (pe_bltn (v := .ty "list") rfl M.nL boot_list' rfl) (pa_cons (pe_bltn (v := .ty "tuple") rfl M.nT boot_tuple' rfl) pa_nil))) pa_nil))))
      (pss_cons (ps_if (PW.pt (pw_or (pt_cmpR op_ne (pe_callB (r := rIsi K) call_isi rfl M.nI boot_isi (pa_cons (pv 0) (pa_cons (pe_bltn (v := .ty "list") rfl M.nL boot_list' rfl) pa_nil))) (pe_callB (r := rIsi K) call_isi rfl M.nI boot_isi (pa_cons (pv 1) (pa_cons (pe_bltn (v := .ty "list") rfl M.nL boot_list' rfl) pa_nil))) (nomark _)) (pw_or1 (pt_cmpR op_ne (pe_callB (r := rIsi K) call_isi rfl M.nI boot_isi (pa_cons (pv 0) (pa_cons (pe_bltn (v := .ty "tuple") rfl M.nT boot_tuple' rfl) pa_nil))) (pe_callB (r := rIsi K) call_isi rfl M.nI boot_isi (pa_cons (pv 1) (pa_cons (pe_bltn (v := .ty "tuple") rfl M.nT boot_tuple' rfl) pa_nil))) (nomark _))))) pss_never pss_nil)
      (pss_one (ps_ret (pe_and (pe_cmpR op_eq (pe_callB call_len_seq rfl M.nN boot_len (pa_cons (pv 0) pa_nil)) (pe_callB call_len_seq rfl M.nN boot_len (pa_cons (pv 1) pa_nil)) (nomark _))
        (pe_one (pe_callB (cr_all rfl) rfl M.nA boot_all' (pa_cons (pe_lc (own := [("x", 2), ("y", 3)]) (tt := tYes) (g := gTup K 2 (gCons (gName 2) (gCons (gName 3) gNil))) rfl nd (RZ.pi_zipA rfl M.nZ (pa_cons (pv 0) (pa_cons (pv 1) pa_nil))) (blkOk_by (N := NSm) (sc := defScope sSame) (by decide +kernel))
          (fun _ _ _ _ _ => pg_tup rfl (pgs_cons (pg_name (i := 2) nd rfl (Or.inl rfl)) (pgs_cons (pg_name (i := 3) nd rfl (Or.inl rfl)) pgs_nil))) (fun _ _ _ _ _ => pts_nil)
          (fun _ _ _ _ _ => pe_call G hr rfl gSm F.kp b .nil pass0 (pa_cons (pv 2) (pa_cons (pv 3) pa_nil)))) pa_nil))))))) pss_nil) pss_never, ?_⟩
  refine ⟨_, rfl, (by show 2 ≤ sizeLine; decide), fun t nt => ?_⟩
  have st := same_new (o := .tup [.ty "list", .ty "tuple"]) nt
  refine ⟨_, _, _, _, _, true, rfl, upd_same, .cons (.ty _) (.cons (.ty _) .nil), .base (.lst (st _ _ hb)), kit_two_l, _, rfl, iteT ?_⟩
  generalize upd H t (.tup [.ty "list", .ty "tuple"]) = H1 at st
  have ha := st _ _ ha
  have hb := st _ _ hb
  refine ⟨_, rfl, _, _, _, _, true, rfl, .ty _, .base (.lst ha), kit_ty (by decide +kernel), _, rfl, _, _, _, _, true, rfl, .ty _, .base (.lst hb), kit_ty (by decide +kernel), rfl, _, rfl, iteF ?_⟩
  refine ⟨_, rfl, _, _, _, _, false, rfl, .ty _, .base (.lst ha), kit_ty (by decide +kernel), _, rfl, _, _, _, _, false, rfl, .ty _, .base (.lst hb), kit_ty (by decide +kernel), rfl, _, rfl, iteF ?_⟩
  refine ⟨_, rfl, a, _, rfl, .inl (SqL.of ha), _, rfl, bb, _, rfl, .inl (SqL.of hb), rfl, _, rfl, ?_⟩
  rw [dec_int2, decide_eq_true (by omega : ((xs.length : Nat) : Int) = (ys.length : Nat))]
  refine iteT ⟨_, rfl, _, rfl, a, bb, _, _, rfl, .inl ⟨SqL.of ha, SqL.of hb, ?_⟩⟩
  refine lc_gen (bools xs.length) (by rw [bools_len]; omega) (fun i H' s lt => ?_) (fun H' s => ?_) ?_ ?_
  · rw [bools_len] at lt
    exact ⟨_, _, _, _, SqL.of (s _ _ ha), SqL.of (s _ _ hb), List.getElem?_eq_getElem (by omega), List.getElem?_eq_getElem (by omega)⟩
  · exact ⟨_, _, SqL.of (s _ _ ha), SqL.of (s _ _ hb), .inl (by rw [bools_len]; exact Nat.le_refl _)⟩
  · rintro i v y H2 H3 Cn Nn ey s2 ⟨T, u1, u2, rfl, nT, rfl, e1, e2⟩ yes
    obtain ⟨rfl, lt⟩ := bools_at ey
    have e1 := e1 _ (SqL.of (s2 _ _ ha))
    have e2 := e2 _ (SqL.of (s2 _ _ hb))
    have sT := same_new (o := .tup [u1, u2]) nT
    refine ⟨T, _, rfl, SqT.of upd_same, rfl, _, _, rfl, _, _, rfl, rfl, rfl, ?_⟩
    exact ⟨_, rfl, _, rfl, u1, u2, rfl, (al i u1 u2 e1 e2).same ((st.trans s2).trans sT), fun H4 s4 => yes H4 (sT.trans s4)⟩
  · intro H2 D nD oD s2
    rw [bools_map] at oD
    refine ⟨D, _, rfl, SqL.of oD, ?_⟩
    rw [all_true]
    exact hq _ (st.trans s2)
theorem same_tup (F : Fun K "_law_same" "_law_same" sSame f fd) (gSm : mg "_law_same" = some (.ref f)) (M : Sm mg) {n : Nat} (G : FnOk P w K mg base CX0 (n + 1) f fd ["found", "due"] (spSameF n)) : FnOk P w K mg base CX0 (n + 2) f fd ["found", "due"] (fun vs H Q _ => ∃ (a b : Addr) (xs ys : List V), vs = [.ref a, .ref b] ∧ H a = some (.tup xs) ∧ H b = some (.tup ys) ∧ xs.length = ys.length ∧ xs.length < 1000 ∧
    (∀ (i : Nat) (x y : V), xs[i]? = some x → ys[i]? = some y → AlkF H n x y) ∧ ∀ H', Same H H' → Q (.bl true) H') := by
  have b := F.binds (ps := ["found", "due"]) fun _ _ _ _ _ _ us hl => match us, hl with | [_, _], _ => rfl
  refine F.ok scSame (fun vs H Q E h => by obtain ⟨a, b, xs, ys, e, _⟩ := h; rw [e]; rfl) fun cdv A outer s H vs Q E hr hsp => ?_
  obtain ⟨a, bb, xs, ys, rfl, ha, hb, len, short, al, hq⟩ := hsp
  have nd := scSame.nd
  refine ⟨_, pss_cons (ps_if (pt_val (pe_callB (r := rIsiT K) call_isiT rfl M.nI boot_isi (pa_cons (pv 1) (pa_cons (pe_tup (pa_cons (pe_bltn (v := .ty "list") rfl M.nL boot_list' rfl) (pa_cons (pe_bltn (v := .ty "tuple") rfl M.nT boot_tuple' rfl) pa_nil))) pa_nil))))
      (pss_cons (ps_if (PW.pt (pw_or (pt_cmpR op_ne (pe_callB (r := rIsi K) call_isi rfl M.nI boot_isi (pa_cons (pv 0) (pa_cons (pe_bltn (v := .ty "list") rfl M.nL boot_list' rfl) pa_nil))) (pe_callB (r := rIsi K) call_isi rfl M.nI boot_isi (pa_cons (pv 1) (pa_cons (pe_bltn (v := .ty "list") rfl M.nL boot_list' rfl) pa_nil))) (nomark _)) (pw_or1 (pt_cmpR op_ne (pe_callB (r := rIsi K) call_isi rfl M.nI boot_isi (pa_cons (pv 0) (pa_cons (pe_bltn (v := .ty "tuple") rfl M.nT boot_tuple' rfl) pa_nil))) (pe_callB (r := rIsi K) call_isi rfl M.nI boot_isi (pa_cons (pv 1) (pa_cons (pe_bltn (v := .ty "tuple") rfl M.nT boot_tuple' rfl) pa_nil))) (nomark _))))) pss_never pss_nil)
      (pss_one (ps_ret (pe_and (pe_cmpR op_eq (pe_callB call_len_seq rfl M.nN boot_len (pa_cons (pv 0) pa_nil)) (pe_callB call_len_seq rfl M.nN boot_len (pa_cons (pv 1) pa_nil)) (nomark _))
        (pe_one (pe_callB (cr_all rfl) rfl M.nA boot_all' (pa_cons (pe_lc (own := [("x", 2), ("y", 3)]) (tt := tYes) (g := gTup K 2 (gCons (gName 2) (gCons (gName 3) gNil))) rfl nd (RZ.pi_zipA rfl M.nZ (pa_cons (pv 0) (pa_cons (pv 1) pa_nil))) (blkOk_by (N := NSm) (sc := defScope sSame) (by decide +kernel))
          (fun _ _ _ _ _ => pg_tup rfl (pgs_cons (pg_name (i := 2) nd rfl (Or.inl rfl)) (pgs_cons (pg_name (i := 3) nd rfl (Or.inl rfl)) pgs_nil))) (fun _ _ _ _ _ => pts_nil)
          (fun _ _ _ _ _ => pe_call G hr rfl gSm F.kp b .nil pass0 (pa_cons (pv 2) (pa_cons (pv 3) pa_nil)))) pa_nil))))))) pss_nil) pss_never, ?_⟩
  refine ⟨_, rfl, (by show 2 ≤ sizeLine; decide), fun t nt => ?_⟩
  have st := same_new (o := .tup [.ty "list", .ty "tuple"]) nt
  refine ⟨_, _, _, _, _, true, rfl, upd_same, .cons (.ty _) (.cons (.ty _) .nil), .base (.tup (st _ _ hb)), kit_two_t, _, rfl, iteT ?_⟩
  generalize upd H t (.tup [.ty "list", .ty "tuple"]) = H1 at st
  have ha := st _ _ ha
  have hb := st _ _ hb
  refine ⟨_, rfl, _, _, _, _, false, rfl, .ty _, .base (.tup ha), kit_ty (by decide +kernel), _, rfl, _, _, _, _, false, rfl, .ty _, .base (.tup hb), kit_ty (by decide +kernel), rfl, _, rfl, iteF ?_⟩
  refine ⟨_, rfl, _, _, _, _, true, rfl, .ty _, .base (.tup ha), kit_ty (by decide +kernel), _, rfl, _, _, _, _, true, rfl, .ty _, .base (.tup hb), kit_ty (by decide +kernel), rfl, _, rfl, iteF ?_⟩
  refine ⟨_, rfl, a, _, rfl, .inr (SqT.of ha), _, rfl, bb, _, rfl, .inr (SqT.of hb), rfl, _, rfl, ?_⟩
  rw [dec_int2, decide_eq_true (by omega : ((xs.length : Nat) : Int) = (ys.length : Nat))]
  refine iteT ⟨_, rfl, _, rfl, a, bb, _, _, rfl, .inr ⟨SqT.of ha, SqT.of hb, ?_⟩⟩
  refine lc_gen (bools xs.length) (by rw [bools_len]; omega) (fun i H' s lt => ?_) (fun H' s => ?_) ?_ ?_
  · rw [bools_len] at lt
    exact ⟨_, _, _, _, SqT.of (s _ _ ha), SqT.of (s _ _ hb), List.getElem?_eq_getElem (by omega), List.getElem?_eq_getElem (by omega)⟩
  · exact ⟨_, _, SqT.of (s _ _ ha), SqT.of (s _ _ hb), .inl (by rw [bools_len]; exact Nat.le_refl _)⟩
  · rintro i v y H2 H3 Cn Nn ey s2 ⟨T, u1, u2, rfl, nT, rfl, e1, e2⟩ yes
    obtain ⟨rfl, lt⟩ := bools_at ey
    have e1 := e1 _ (SqT.of (s2 _ _ ha))
    have e2 := e2 _ (SqT.of (s2 _ _ hb))
    have sT := same_new (o := .tup [u1, u2]) nT
    refine ⟨T, _, rfl, SqT.of upd_same, rfl, _, _, rfl, _, _, rfl, rfl, rfl, ?_⟩
    exact ⟨_, rfl, _, rfl, u1, u2, rfl, (al i u1 u2 e1 e2).same ((st.trans s2).trans sT), fun H4 s4 => yes H4 (sT.trans s4)⟩
  · intro H2 D nD oD s2
    rw [bools_map] at oD
    refine ⟨D, _, rfl, SqL.of oD, ?_⟩
    rw [all_true]
    exact hq _ (st.trans s2)
theorem ok_sameF (F : Fun K "_law_same" "_law_same" sSame f fd) (gSm : mg "_law_same" = some (.ref f)) (M : Sm mg) : ∀ n : Nat, FnOk P w K mg base CX0 (n + 1) f fd ["found", "due"] (spSameF n)
  | 0 => by
    refine ⟨fun vs H Q E h => by obtain ⟨x, y, e, _⟩ := h; rw [e]; rfl, fun A outer s H args us vs Q E hr he hb hv hs => ?_⟩
    obtain ⟨x, y, rfl, al, hq⟩ := hs
    cases al with
    | one h =>
      cases h with
      | int i => exact (same_num F M).run A outer s H args us _ Q E hr he hb hv ⟨_, rfl, .inl ⟨i, rfl⟩, hq⟩
      | bl i => exact (same_num F M).run A outer s H args us _ Q E hr he hb hv ⟨_, rfl, .inr ⟨i, rfl⟩, hq⟩
      | str z => exact (same_oth F M (x := .str z) (y := .str z) (r := rEq) (t := "str") (by decide +kernel) (by decide +kernel) (by decide +kernel) fun X _ => op_eq).run A outer s H args us _ Q E hr he hb hv ⟨rfl, .base (.str z), .base (.str z), fun H' s => ⟨rfl, by rw [decide_eq_true rfl]; exact hq _ s⟩⟩
      | non => exact (same_oth F M (x := .non) (y := .non) (r := rEq) (t := "NoneType") (by decide +kernel) (by decide +kernel) (by decide +kernel) fun X _ => op_eq).run A outer s H args us _ Q E hr he hb hv ⟨rfl, .base .non, .base .non, fun H' s => ⟨rfl, by rw [decide_eq_true rfl]; exact hq _ s⟩⟩
    | @dic a b kvs ha hb' nd at_ =>
      have all : ∀ p ∈ kvs, valV kvs p.1 = some p.2 ∧ flatB p.2 = true := fun p hp => by
        obtain ⟨i, hi⟩ := List.mem_iff_getElem?.mp hp
        exact ⟨valV_at nd hi, flat_atom (at_ p hp)⟩
      exact (same_oth F M (x := .ref a) (y := .ref b) (r := rEqDA) (t := "dict") (by decide +kernel) (by decide +kernel) (by decide +kernel) fun X hu => op_eq_dictA (by omega)).run A outer s H args us _ Q E hr he hb hv
        ⟨rfl, .base (.dK ha), .base (.dK hb'), fun H' s => ⟨a, b, kvs, kvs, rfl, rfl, s _ _ ha, s _ _ hb', rfl, all, hq _ s⟩⟩
  | n + 1 => by
    have G := ok_sameF F gSm M n
    have GU : FnOk P w K mg base CX0 (n + 2) f fd ["found", "due"] (spSameF n) := G.mono (Nat.le_succ _)
    refine ⟨fun vs H Q E h => by obtain ⟨x, y, e, _⟩ := h; rw [e]; rfl, fun A outer s H args us vs Q E hr he hb hv hs => ?_⟩
    obtain ⟨x, y, rfl, al, hq⟩ := hs
    cases al with
    | lst ha hb' l sh al => exact (same_lst F gSm M G).run A outer s H args us _ Q E hr he hb hv ⟨_, _, _, _, rfl, ha, hb', l, sh, al, hq⟩
    | tup ha hb' l sh al => exact (same_tup F gSm M G).run A outer s H args us _ Q E hr he hb hv ⟨_, _, _, _, rfl, ha, hb', l, sh, al, hq⟩
    | up h => exact GU.run A outer s H args us _ Q E hr he hb hv ⟨_, _, rfl, h, hq⟩
end
end L2.TB
/-! the checks, both ways: they let through, or an error of their class flies -/
namespace L2.TB
open PySem PySem.Spec PyProof.Rows
structure ErrF (P : Program) (w : World) (K : PySem.W.Frag) (mg : Str → Option Value) (base : Heap) (x : Str) (C : Addr) (fld : Str) : Prop where
  g : mg x = some (.ref C)
  ex : ∃ (fI : Addr) (fd : FuncData) (y : Str), ErrC K C fI fld ∧ FnOk P w K mg base CX0 1 fI fd ["self", y] (spErr K fld) ∧ Binds K fd ["self", y] []
def tRaise (K : PySem.W.Frag) (C : Addr) (fld : Str) (te : TE) (W : WX) : TS := fun _ σ H => tMkO C (spErr K fld) [] (tCons te tNil) σ H fun cls d H' => W cls d σ H'
theorem ps_raiseE {X : Cx} {W : WX} {x fld : Str} {C : Addr} {e : Expr} {te : TE} {p pos pos2 : Pos} (hc : X.calm = true) (tk : Takes X W) (E : ErrF X.prog X.w X.K X.mg X.base x C fld) (hr : Room 2 X.A) (hg : Gl X x) (he : PE X e te)
    (hdb : (x == ("__debug__" : Str)) = false := by decide) (hs : starEach [e] X.env = (false, eval e X.env) :: starEach [] X.env := by rfl) : PS X (.Raise (some (.Call (.Name x p) [e] [] pos)) none pos2) (tRaise X.K C fld te W) := by
  obtain ⟨fI, fd, y, EC, G, b⟩ := E.ex
  exact ps_raise hc tk (pmk_err EC G b hr hg E.g he hdb hs)
theorem Flies.up {P : Program} {w : World} {K : PySem.W.Frag} {mg : Str → Option Value} {base : Heap} {x fld : Str} {C : Addr} {v : V} {H1 : Hp} {Q : XK} (E : ErrF P w K mg base x C fld) (h : Flies C fld v H1 Q) :
    [v].length ≤ 1000 ∧ ∀ a, H1 a = none → spErr K fld (.ref a :: ([v] ++ [])) (upd H1 a (exo a C none))
      (fun v H2 => v = .non ∧ ∃ (d : Addr) (fs : List (Str × V)), H2 a = some (exo a C (some d)) ∧ H2 d = some (exd d fs) ∧ H1 d = none ∧ Q (.ref C) (some d) (upd (del H2 a) d (.xd fs))) (fun _ _ _ => False) := by
  obtain ⟨fI, fd, y, EC, _⟩ := E.ex
  exact Flies.mk EC h
/-- what is asked is no question -/
def BadAsk (K : PySem.W.Frag) (H : Hp) (ns : List Str) (v : V) : Prop := (∃ x, v = .str x ∧ x ∉ ns) ∨ NoStr K H v
theorem BadAsk.same {K : PySem.W.Frag} {H H' : Hp} {ns : List Str} {v : V} (h : BadAsk K H ns v) (s : Same H H') : BadAsk K H' ns v := h.imp id fun h => h.same s
def spCkKX (K : PySem.W.Frag) (CK : Addr) : Sp := fun vs H Q E => ∃ (c : Addr) (ns : List Str) (v : V) (r : Option Nat), vs = [.ref c, v] ∧ H c = some (.lst (ns.map V.str)) ∧ Bad K H ns v r ∧ (r = none → ∀ H', Same H H' → Q .non H') ∧ ∀ i : Nat, r = some i → Flies CK "index" (.int i) H E
def spCkAX (K : PySem.W.Frag) (CQ : Addr) : Sp := fun vs H Q E => ∃ (c : Addr) (ns : List Str) (v : V), vs = [.ref c, v] ∧ SqL K H c (ns.map V.str) ∧ ((∃ x, v = .str x ∧ x ∈ ns ∧ Q .non H) ∨ (BadAsk K H ns v ∧ Flies CQ "name" v H E))
def spCkBX (K : PySem.W.Frag) (CK CQ : Addr) : Sp := fun vs H Q E => ∃ (c : Addr) (ns : List Str) (v x : V) (r : Option Nat), vs = [.ref c, v, x] ∧ H c = some (.lst (ns.map V.str)) ∧ Bad K H ns v r ∧
  ((∃ i : Nat, r = some i ∧ Flies CK "index" (.int i) H E) ∨ (r = none ∧ ((∃ y, x = .str y ∧ y ∈ ns ∧ ∀ H', Same H H' → Q .non H') ∨ (BadAsk K H ns x ∧ Flies CQ "name" x H E))))
section
variable {P : Program} {w : World} {K : PySem.W.Frag} {mg : Str → Option Value} {base : Heap} {f CK CQ aF aL aO aK aA aB : Addr} {fd fdK fdA : FuncData}
theorem ok_ckKX (C : Chk K mg aF aL aO aK aA aB) (EK : ErrF P w K mg base "BadKnown" CK "index") (F : Fun K "check_known" "check_known" sCkK f fd) : FnOk P w K mg base (L2.CX P w) 3 f fd ["names", "known"] (spCkKX K CK) := by
  obtain ⟨fdF, FF⟩ := C.F
  obtain ⟨fdL, FL⟩ := C.L
  obtain ⟨fdO, FO⟩ := C.O
  have G : FnOk P w K mg base CX0 2 aF fdF ["names", "things"] (spFirstG K) := ok_firstG FF FL C.gL FO C.gO C.nI C.nL C.nT C.nS C.nE
  have b := FF.binds (ps := ["names", "things"]) fun _ _ _ _ _ _ us hl => match us, hl with | [_, _], _ => rfl
  refine F.okX scCkK (fun vs H Q E h => by obtain ⟨c, ns, v, r, e, _⟩ := h; rw [e]; rfl) fun cdv A outer s H vs Q E hr hsp => ?_
  obtain ⟨c, ns, v, r, rfl, hc, hB, hq, hf⟩ := hsp
  have nd := scCkK.nd
  refine ⟨_, pss_cons (ps_set (i := 2) nd rfl (Or.inl rfl) (pe_call G hr rfl C.gF FF.kp b .nil pass0 (pa_cons (pv 0) (pa_cons (pv 1) pa_nil))))
    (pss_one (ps_if (pt_cmp (pc_notN (pv 2))) (pss_one (ps_raiseE rfl (takes_of rfl rfl rfl rfl) EK hr rfl (pv 2))) pss_nil)), ?_⟩
  refine ⟨_, rfl, _, rfl, c, ns, v, r, rfl, hc, hB, fun H1 k1 => ?_⟩
  cases r with
  | none => exact ⟨_, rfl, _, rfl, iteF (hq rfl H1 k1)⟩
  | some i => exact ⟨_, rfl, _, rfl, iteT ⟨_, rfl, ((hf i rfl).same k1).up EK⟩⟩
theorem ok_ckAX (C : Chk K mg aF aL aO aK aA aB) (EQ : ErrF P w K mg base "NoQuestion" CQ "name") (F : Fun K "check_asked" "check_asked" sCkA f fd) : FnOk P w K mg base (L2.CX P w) 3 f fd ["names", "asked"] (spCkAX K CQ) := by
  obtain ⟨fdO, FO⟩ := C.O
  have G : FnOk P w K mg base CX0 1 aO fdO ["names", "thing"] (spIsOneG K) := ok_isOneG FO C.nI C.nS
  have b := FO.binds (ps := ["names", "thing"]) fun _ _ _ _ _ _ us hl => match us, hl with | [_, _], _ => rfl
  refine F.okX scCkA (fun vs H Q E h => by obtain ⟨c, ns, x, e, _⟩ := h; rw [e]; rfl) fun cdv A outer s H vs Q E hr hsp => ?_
  obtain ⟨c, ns, v, rfl, hc, hq⟩ := hsp
  refine ⟨_, pss_one (ps_if (pt_not (pt_val (pe_call G (hr.mono (by decide)) rfl C.gO FO.kp b .nil pass0 (pa_cons (pv 0) (pa_cons (pv 1) pa_nil))))) (pss_one (ps_raiseE rfl (takes_of rfl rfl rfl rfl) EQ hr rfl (pv 1))) pss_nil), ?_⟩
  refine ⟨_, rfl, _, rfl, c, ns, v, rfl, hc, ?_⟩
  rcases hq with ⟨x, rfl, xin, hq⟩ | ⟨⟨x, rfl, xin⟩ | hN, hf⟩
  · exact .inl ⟨x, rfl, _, rfl, by rw [decide_eq_true xin]; exact iteF hq⟩
  · exact .inl ⟨x, rfl, _, rfl, by rw [decide_eq_false xin]; exact iteT ⟨_, rfl, hf.up EQ⟩⟩
  · exact .inr ⟨hN, _, rfl, iteT ⟨_, rfl, hf.up EQ⟩⟩
theorem ok_ckBX (C : Chk K mg aF aL aO aK aA aB) (EK : ErrF P w K mg base "BadKnown" CK "index") (EQ : ErrF P w K mg base "NoQuestion" CQ "name") (F : Fun K "check_both" "check_both" sCkB f fd) : FnOk P w K mg base (L2.CX P w) 4 f fd ["names", "known", "asked"] (spCkBX K CK CQ) := by
  obtain ⟨fdK, FK⟩ := C.CK
  obtain ⟨fdA, FA⟩ := C.CA
  have GK : FnOk P w K mg base (L2.CX P w) 3 aK fdK ["names", "known"] (spCkKX K CK) := ok_ckKX C EK FK
  have GA : FnOk P w K mg base (L2.CX P w) 3 aA fdA ["names", "asked"] (spCkAX K CQ) := ok_ckAX C EQ FA
  have bK := FK.binds (ps := ["names", "known"]) fun _ _ _ _ _ _ us hl => match us, hl with | [_, _], _ => rfl
  have bA := FA.binds (ps := ["names", "asked"]) fun _ _ _ _ _ _ us hl => match us, hl with | [_, _], _ => rfl
  refine F.okX scCkB (fun vs H Q E h => by obtain ⟨c, ns, v, x, r, e, _⟩ := h; rw [e]; rfl) fun cdv A outer s H vs Q E hr hsp => ?_
  obtain ⟨c, ns, v, x, r, rfl, hc, hB, hq⟩ := hsp
  refine ⟨_, pss_cons (ps_expr (pe_callS GK hr rfl C.gCK FK.kp bK (fun σ => passAt (takes_of rfl rfl rfl rfl) σ) (pa_cons (pv 0) (pa_cons (pv 1) pa_nil))))
    (pss_one (ps_expr (pe_callS GA hr rfl C.gCA FA.kp bA (fun σ => passAt (takes_of rfl rfl rfl rfl) σ) (pa_cons (pv 0) (pa_cons (pv 2) pa_nil))))), ?_⟩
  refine ⟨_, rfl, _, rfl, c, ns, v, r, rfl, hc, hB, fun er H1 k1 => ?_, fun i er => ?_⟩
  · rcases hq with ⟨i, e2, _⟩ | ⟨_, hq⟩
    · rw [er] at e2; cases e2
    · refine ⟨_, rfl, _, rfl, c, ns, x, rfl, SqL.of (k1 _ _ hc), ?_⟩
      rcases hq with ⟨y, rfl, yin, hq⟩ | ⟨hb, hf⟩
      · exact .inl ⟨y, rfl, yin, hq H1 k1⟩
      · exact .inr ⟨hb.same k1, hf.same k1⟩
  · rcases hq with ⟨j, e2, hf⟩ | ⟨e2, _⟩
    · rw [er] at e2; cases e2; exact hf
    · rw [er] at e2; cases e2
end
end L2.TB
/-! is_name of anything; check_hands, both ways -/
namespace L2.TB
open PySem PySem.Spec PyProof.Rows
/-- what flies out of a locked walk finds the thing unlocked -/
theorem takes_unlock {X : Cx} {W : WX} (tk : Takes X W) {d : Addr} {u : HO} (hn : ∀ o' u', X.H_0 d ≠ some (.frz o' u')) : Takes X (fun cls dd σ H' => ∃ od, H' d = some (.frz od u) ∧ W cls dd σ (upd H' d u)) :=
  fun z s' ⟨a, B, sI, pins, σ, H, cls, dd, e, I, nb, up, sky, na, os, ag, od, hd, w⟩ => tk z s' ⟨a, B, sI, pins, σ, _, cls, dd, e, I.unlock hd hn, nb, up, sky, by rw [upd_ne (fun q => by rw [q, hd] at na; cases na)]; exact na, os, ag, w⟩
theorem Flies.unlock {P : Program} {w : World} {K : PySem.W.Frag} {mg : Str → Option Value} {base : Heap} {x fld : Str} {C d : Addr} {u : HO} {od : Obj} {v : V} {H H3 : Hp} {Q : XK} (E : ErrF P w K mg base x C fld) (h : Flies C fld v H Q) (hd : H d = some u) (s : Same (upd H d (.frz od u)) H3) :
    [v].length ≤ 1000 ∧ ∀ a, H3 a = none → spErr K fld (.ref a :: ([v] ++ [])) (upd H3 a (exo a C none))
      (fun v H2 => v = .non ∧ ∃ (d' : Addr) (fs : List (Str × V)), H2 a = some (exo a C (some d')) ∧ H2 d' = some (exd d' fs) ∧ H3 d' = none ∧ (∃ od, (upd (del H2 a) d' (.xd fs)) d = some (.frz od u) ∧ Q (.ref C) (some d') (upd (upd (del H2 a) d' (.xd fs)) d u))) (fun _ _ _ => False) := by
  obtain ⟨fI, fd, y, EC, _⟩ := E.ex
  refine mk_rs (Q := fun cls dd H' => ∃ od, H' d = some (.frz od u) ∧ Q cls dd (upd H' d u)) EC fun dd nd => ?_
  have b1 := s _ _ (upd_same (H := H) (a := d) (o := .frz od u))
  have ne : d ≠ dd := fun z => by rw [z, nd] at b1; cases b1
  have s2 : Same (upd H d (.frz od u)) (upd H3 dd (.xd [(fld, v)])) := s.trans (same_new nd)
  obtain ⟨b2, s3⟩ := lock_off hd s2
  refine ⟨od, b2, h dd _ s3 ?_ ?_⟩
  · cases q : H dd with
    | none => rfl
    | some o =>
      have z := s _ _ (show upd H d (.frz od u) dd = some o by rw [upd_ne (Ne.symm ne)]; exact q)
      rw [nd] at z; cases z
  · rw [upd_ne (Ne.symm ne), upd_same]
def nmB (x : Str) : Bool := decide (1 ≤ x.cps.toList.length) && (decide (x.cps.toList.length ≤ 40) && x.cps.toList.all fun c => decide (c ∈ signsL))
theorem nmB_ok {x : Str} (h : NmOk x) : nmB x = true := by
  obtain ⟨h1, h2, h3⟩ := h
  unfold nmB
  rw [decide_eq_true h1, decide_eq_true h2, List.all_eq_true.mpr fun c hc => decide_eq_true (h3 c hc)]
  rfl
def spIsNameG (K : PySem.W.Frag) : Sp := fun vs H Q _ => ∃ v : V, vs = [v] ∧ ((∃ x, v = .str x ∧ x.cps.toList.length < 1000 ∧ ∀ H', Same H H' → Q (.bl (nmB x)) H') ∨ (NoStr K H v ∧ Q (.bl false) H))
section
variable {P : Program} {w : World} {K : PySem.W.Frag} {mg : Str → Option Value} {base : Heap} {f : Addr} {fd : FuncData}
theorem ok_isNameG (F : Fun K "is_name" "is_name" sIsName f fd) (gI : mg "isinstance" = none) (gS : mg "str" = none) (gN : mg "len" = none) (gA : mg "all" = none) (gL : ∃ t, mg "LONGEST" = some (.int 40 t)) (gSg : ∃ t, mg "SIGNS" = some (.str (Str.ofString "abcdefghijklmnopqrstuvwxyz0123456789.") t)) :
    FnOk P w K mg base CX0 1 f fd ["thing"] (spIsNameG K) := by
  obtain ⟨tL, gL⟩ := gL
  obtain ⟨tS, gSg⟩ := gSg
  refine F.ok scIsName (fun vs H Q E h => by obtain ⟨x, e, _⟩ := h; rw [e]; rfl) fun cdv A outer s H vs Q E hr hsp => ?_
  obtain ⟨v, rfl, hq⟩ := hsp
  have nd := scIsName.nd
  refine ⟨_, pss_cons (ps_if (PW.pt (pw_or (pt_not (pt_val (pe_callB (r := rIsi K) call_isi rfl gI boot_isi (pa_cons (pv 0) (pa_cons (pe_bltn (v := .ty "str") rfl gS boot_str' rfl) pa_nil)))))
      (pw_or1 (pt_not (pt_chain op_le op_le pe_int (pe_callB call_len_str rfl gN boot_len (pa_cons (pv 0) pa_nil)) (pe_glob (v := .int 40) rfl gL ⟨_, rfl⟩)))))) (pss_one (ps_ret pe_bl)) pss_nil)
    (pss_one (ps_ret (pe_callB (cr_all rfl) rfl gA boot_all' (pa_cons (pe_lc (own := [("sign", 1)]) (tt := tYes) rfl nd (pi_str (pv 0)) (blkOk_by (N := NIn) (sc := defScope sIsName) (by decide +kernel)) (fun _ _ _ _ _ => pg_name (i := 1) nd rfl (Or.inl rfl)) (fun _ _ _ _ _ => pts_nil)
      (fun _ _ _ _ _ => pe_cmpR op_in_sign (pv 1) (pe_glob (v := .str (Str.ofString "abcdefghijklmnopqrstuvwxyz0123456789.")) rfl gSg ⟨_, rfl⟩) rfl)) pa_nil)))), ?_⟩
  rcases hq with ⟨x, rfl, short, hq⟩ | ⟨⟨t, h1, h2⟩, hq⟩
  · have lz : x.length = x.cps.toList.length := (Array.length_toList (xs := x.cps)).symm
    refine ⟨_, rfl, _, _, _, _, true, rfl, .ty _, .base (.str x), kit_ty (by decide +kernel), _, rfl, iteF ?_⟩
    refine ⟨_, rfl, x, rfl, (by rw [sizeLine_eq]; omega), _, _, rfl, rfl, _, rfl, ?_⟩
    by_cases l1 : 1 ≤ x.cps.toList.length
    · rw [decide_eq_true (by omega : (1 : Int) ≤ (x.length : Nat))]
      refine iteT ⟨_, _, rfl, rfl, _, rfl, ?_⟩
      by_cases l2 : x.cps.toList.length ≤ 40
      · rw [decide_eq_true (by omega : ((x.length : Nat) : Int) ≤ 40)]
        refine iteF ?_
        refine ⟨_, rfl, x, rfl, lc_gen ((x.cps.toList.map fun c => decide (c ∈ signsL)).map V.bl) (by rw [List.length_map, List.length_map]; omega) (fun i H' _ lt => ?_) (fun H' _ => ?_) ?_ ?_⟩
        · rw [List.length_map, List.length_map, Array.length_toList] at lt; exact lt
        · rw [List.length_map, List.length_map, Array.length_toList]; exact Nat.le_refl _
        · rintro i v y H2 H3 Cn Nn ey s2 ⟨rfl, c, ec, rfl⟩ yes
          rw [List.getElem?_map, List.getElem?_map, Array.getElem?_toList, ec] at ey
          obtain rfl := (Option.some.inj ey)
          refine ⟨rfl, ?_⟩
          exact ⟨_, rfl, c, _, rfl, rfl, yes H3 (Same.refl _)⟩
        · intro H2 D nD oD s2
          refine ⟨D, _, rfl, SqL.of oD, ?_⟩
          have e : nmB x = (x.cps.toList.map fun c => decide (c ∈ signsL)).all id := by
            unfold nmB
            rw [decide_eq_true l1, decide_eq_true l2, List.all_map]
            rfl
          rw [← e]
          exact hq H2 s2
      · rw [decide_eq_false (by omega : ¬ ((x.length : Nat) : Int) ≤ 40)]
        have z := hq _ (Same.refl _)
        have e : nmB x = false := by unfold nmB; rw [decide_eq_false l2, Bool.false_and, Bool.and_false]
        rw [e] at z
        exact iteT z
    · rw [decide_eq_false (by omega : ¬ (1 : Int) ≤ (x.length : Nat))]
      have z := hq _ (Same.refl _)
      have e : nmB x = false := by unfold nmB; rw [decide_eq_false l1, Bool.false_and]
      rw [e] at z
      exact iteF ⟨_, rfl, iteT z⟩
  · exact ⟨_, rfl, _, _, _, _, false, rfl, .ty _, h1, kit_ty h2, _, rfl, iteT (iteT hq)⟩
end
end L2.TB
/-! a refused call, as _law_tried tells it -/
namespace L2.TB
open PySem PySem.Spec PyProof.Rows LamX
theorem tried_by {cs : List Clz} {c : Clz} {n : Nat} {v : V} {tr : Tr} {H : Hp} {Q : VK} (hc : c ∈ cs) (th : Thg H n v tr) (h : ∀ H' u, Same H H' → FzAt H' (.tu [.one (.str c.tag), tr]) u → Q u H') :
    ∀ E : XK, (∀ cls d H', EchT cs (spFrozen (n + 1)) Q cls d H' → E cls d H') → Flies c.C c.fld v H E := by
  intro E hE d H' s nd hd
  refine hE _ _ _ ⟨c, d, _, v, hc, rfl, rfl, hd, by simp [List.lookup], fun t nt => ?_⟩
  have st := same_new (o := .tup [.str c.tag, v]) nt
  refine ⟨.ref t, .tu [.one (.str c.tag), tr], rfl, .seq (.inr upd_same) rfl (by show 2 < 1000; omega) (fun i x y e1 e2 => ?_), fun H2 u s2 fu => h H2 u ((s.trans st).trans s2) fu⟩
  match i, e1, e2 with
  | 0, e1, e2 =>
    obtain rfl := Option.some.inj e1
    obtain rfl := Option.some.inj e2
    have z : ∀ m, Thg (upd H' t (.tup [.str c.tag, v])) m (.str c.tag) (.one (.str c.tag)) := fun m => by
      induction m with
      | zero => exact .one (.str _)
      | succ m ih => exact .up ih
    exact z n
  | 1, e1, e2 =>
    obtain rfl := Option.some.inj e1
    obtain rfl := Option.some.inj e2
    exact th.same (s.trans st)
  | i + 2, e1, e2 => cases e1
/-- what a def with lambdas knows of _law_tried and of its own code -/
structure Trd (P : Program) (w : World) (K : PySem.W.Frag) (mg : Str → Option Value) (A : ErrA) : Prop where
  O : ClzOk K mg (clz4 A)
  T : ∃ g fd, mg "_law_tried" = some (.ref g) ∧ Fun K "_law_tried" "_law_tried" sTried g fd
  Z : ∃ fz fdz, mg "_law_frozen" = some (.ref fz) ∧ Fun K "_law_frozen" "_law_frozen" sFrozen fz fdz
  M : FzM mg
/-- _law_tried(lambda: body) -/
theorem pe_tried {X : Cx} {EA : ErrA} (R : Trd X.prog X.w X.K X.mg EA) (n : Nat) {T : List (Addr × Str)} {c Pt : Addr} {k : Nat} {params : Arguments} {body : Expr} {scope : Scope} {t : XK → TE} {p lpos pos : Pos} (hg : Gl X "_law_tried")
    (TB : TabB X.base X.mg c Pt) (hcode : X.env.code = .ref c) (hmT : (Pt, X.env.qual ++ "<lambda>") ∈ T) (hu : ∀ p ∈ T, p.1 = Pt → p.2 = X.env.qual ++ "<lambda>") (hr : Room (k + 2) X.A) (hn : n + 1 ≤ k) (L : LamS X.env.scope scope) (hdef : defaultsOf params X.env = ([], []))
    (hbind : ∀ (q : Str) (cl : List (Str × Addr)) (pm cv ctv : Value), bindArgs (PySem.W.kla_fn "<lambda>" q params body scope cl pm cv ctv) ⟨[], []⟩ = pure [])
    (hbody : ∀ (A : Around) (outer : List Env) (s : Shared) (H : Hp) (E : XK) (f c' : Addr), Room k (A.deeper (lamEnv X scope s.heap.objs.size f c')) → PE (lamCx X A outer s H E scope f c') body (t E)) :
    PE X (.Call (.Name "_law_tried" p) [.Lambda params body scope lpos] [] pos) (tLam T (TTr (clz4 EA) (spFrozen n)) t) := by
  obtain ⟨g, fd, gT, FT⟩ := R.T
  obtain ⟨fz, fdz, gZ, FZ⟩ := R.Z
  have bT := FT.binds (ps := ["ask"]) fun _ _ _ _ _ _ us hl => match us, hl with | [_], _ => rfl
  have kp := FT.kp
  obtain ⟨oc, od, kV, doc, pm, an, cdv, ct, osl, rfl, lk, hcd⟩ := FT.ex
  have GZ : FnOk X.prog X.w X.K X.mg X.base CX0 (n + 1) fz fdz ["thing"] (spFrozen n) := ok_frozen FZ gZ R.M n
  exact pe_lamcall (Ng := NTd) (a := "ask") hg gT kp lk hcd bT scTd rfl (.inl rfl) (tried_gives (k := n + 1) R.O (hr.mono (by omega)) GZ FZ gZ) TB hcode hmT hu hr L hdef hbind hbody
end L2.TB
/-! refused calls gathered in a list -/
namespace L2.TB
open PySem PySem.Spec PyProof.Rows LamX
theorem FzAt.ext {H H' : Hp} {t : Tr} {v : V} (h : FzAt H t v) (s : ExtN H H') : FzAt H' t v := by
  induction h with
  | one h => exact .one h
  | tu h len sh _ ih => exact .tu (s _ _ h (fun _ z => by cases z)) len sh ih
  | di h at_ => exact .di (s _ _ h (fun _ z => by cases z)) at_
/-- all but the list at q and the tables stays -/
def GrowQ (q : Addr) (H H' : Hp) : Prop := ∀ b o, b ≠ q → H b = some o → (∀ ps, o ≠ .tbl ps) → H' b = some o
theorem GrowQ.trans {q : Addr} {H H1 H2 : Hp} (a : GrowQ q H H1) (b : GrowQ q H1 H2) : GrowQ q H H2 := fun c o n e no => b c o n (a c o n e no) no
theorem GrowQ.of {q : Addr} {H H' : Hp} (s : ExtN H H') : GrowQ q H H' := fun b o _ e no => s b o e no
/-- the list at q holds m of what is frozen tr -/
def FoundAt (H : Hp) (q : Addr) (tr : Tr) (m : Nat) : Prop := ∃ us : List V, H q = some (.lst us) ∧ us.length = m ∧ ∀ u ∈ us, FzAt H tr u
theorem Tabs.list {T : List (Addr × Str)} {H : Hp} {q : Addr} {us vs : List V} (t : Tabs T H) (hq : H q = some (.lst us)) : Tabs T (upd H q (.lst vs)) := fun p hp => by
  obtain ⟨ps, h1, h2, h3⟩ := t p hp
  refine ⟨ps, by rw [upd_ne (fun z => by rw [z, hq] at h1; cases h1)]; exact h1, h2, fun pos cv hc => ?_⟩
  obtain ⟨c, e1, e2⟩ := h3 pos cv hc
  refine ⟨c, e1, ?_⟩
  have ne : c ≠ q := fun z => by
    rw [z, hq] at e2
    have e3 := Option.some.inj e2
    unfold CodeO at e3
    cases e3
  rw [upd_ne ne]
  exact e2
section
variable {K : PySem.W.Frag} {cs : List Clz} {n m j : Nat} {T : List (Addr × Str)} {t : XK → TE} {D : Ends} {σ : L2.St} {H : Hp} {q : Addr} {tr : Tr} {c : Clz} {v : V}
/-- found.append(_law_tried(lambda: ..)) -/
theorem app_read (hσ : σ[j]? = some (some (.ref q))) (FA : FoundAt H q (.tu [.one (.str c.tag), tr]) m) (hm : m < 100) (TH : Tabs T H) (hc : c ∈ cs) (th : ∀ H1, ExtN H H1 → Thg H1 n v tr)
    (call : ∀ (H1 : Hp) (E : XK) (R : VK), ExtN H H1 → Tabs T H1 → Flies c.C c.fld v H1 E → t E σ H1 R) (next : ∀ H', GrowQ q H H' → Tabs T H' → FoundAt H' q (.tu [.one (.str c.tag), tr]) (m + 1) → D.nx σ H') :
    tDrop (tBM K "list" rAppend (tVar j) (tCons (tLam T (TTr cs (spFrozen (n + 1))) t) tNil)) D σ H := by
  obtain ⟨us, hq, lu, fu⟩ := FA
  refine ⟨_, hσ, .inl ⟨rfl, _, SqL.of hq⟩, TH, fun H1 eN T1 E R hE => call H1 E R eN T1 (tried_by hc (th H1 eN) (fun H2 u s2 f2 => ?_) E hE)⟩
  have q1 : H1 q = some (.lst us) := eN _ _ hq (fun _ z => by cases z)
  have q2 : H2 q = some (.lst us) := s2 _ _ q1
  refine ⟨q, us, u, rfl, rfl, q2, by rw [sizeLine_eq]; omega, next _ (fun b o nb e no => by rw [upd_ne nb]; exact s2 _ _ (eN _ _ e no)) (Tabs.list (T1.ext s2) q2) ⟨us ++ [u], upd_same, by simp [lu], fun x hx => ?_⟩⟩
  have keep : ∀ b o, b ≠ q → H2 b = some o → upd H2 q (.lst (us ++ [u])) b = some o := fun b o nb e => by rw [upd_ne nb]; exact e
  rcases List.mem_append.mp hx with hx | hx
  · exact (((fu x hx).ext eN).same s2).but q2 keep
  · obtain rfl : x = u := by simpa using hx
    exact f2.but q2 keep
/-- found = [_law_tried(lambda: ..)] -/
theorem set_read {i : Nat} (TH : Tabs T H) (hc : c ∈ cs) (th : ∀ H1, ExtN H H1 → Thg H1 n v tr)
    (call : ∀ (H1 : Hp) (E : XK) (R : VK), ExtN H H1 → Tabs T H1 → Flies c.C c.fld v H1 E → t E σ H1 R) (next : ∀ H' q, (∀ o, H q = some o → ∃ ps, o = .tbl ps) → ExtN H H' → Tabs T H' → FoundAt H' q (.tu [.one (.str c.tag), tr]) 1 → gName i (.ref q) σ H' D.nx) :
    tAsg (tLst (tCons (tLam T (TTr cs (spFrozen (n + 1))) t) tNil)) (gName i) D σ H := by
  refine ⟨TH, fun H1 eN T1 E R hE => call H1 E R eN T1 (tried_by hc (th H1 eN) (fun H2 u s2 f2 => ?_) E hE)⟩
  refine ⟨(by show 1 ≤ sizeLine; decide), fun q nq => ?_⟩
  have st := same_new (o := .lst [u]) nq
  have e2 : ExtN H (upd H2 q (.lst [u])) := eN.trans (ExtN.of (s2.trans st))
  refine next _ q ?_ e2 (T1.ext (s2.trans st)) ⟨[u], upd_same, rfl, fun x hx => ?_⟩
  · intro o e
    by_cases no : ∀ ps, o ≠ .tbl ps
    · rw [s2 _ _ (eN _ _ e no)] at nq; cases nq
    · exact Classical.byContradiction fun z => no fun ps y => z ⟨ps, y⟩
  · obtain rfl : x = u := by simpa using hx
    exact f2.same st
end
end L2.TB
namespace L2.TB
open PySem PySem.Spec PyProof.Rows
/-! for x, y in zip(xs, ys), xs a list, ys a tuple of as many -/
section
/-- what the maker leaves, one cell after the other -/
abbrev mk1 (h : Heap) (l : Addr) : Heap := h.push { cls := .type "list_iterator", data := .fields #[.ref l, .int 0 0] }
abbrev mk2 (h : Heap) (l t : Addr) : Heap := (mk1 h l).push { cls := .type "tuple_iterator", data := .fields #[.ref t, .int 0 0] }
abbrev mk3 (h : Heap) (l t : Addr) : Heap := (mk2 h l t).push { cls := .type "tuple", data := .seq #[.ref h.objs.size, .ref (mk1 h l).objs.size] }
abbrev mk4 (h : Heap) (l t : Addr) : Heap := (mk3 h l t).push { cls := .type "tuple", data := .seq #[.none, .none] }
abbrev mk5 (h : Heap) (l t : Addr) : Heap := (mk4 h l t).push { cls := .type "zip", data := .fields #[.none, .bool false, .bool false, .ref (mk2 h l t).objs.size, .ref (mk3 h l t).objs.size] }
theorem made_zip (l t : Addr) (as bs : Array Value) : Meets (Builtin.«zip.__new__» ⟨[.type "zip", .ref l, .ref t], []⟩) fun _ done z =>
    z.heap.IsList l as ∧ z.heap.IsTuple t bs ∧ done (.ok (.ret (.ref (mk4 z.heap l t).objs.size))) { z with heap := mk5 z.heap l t } :=
  .of_wp fun _ _ _ _ z hz => by
    obtain ⟨h0, gs, ds, tk, os⟩ := z
    obtain ⟨isL, isT, fin⟩ := hz
    have sub := sub_zip
    have isL0 : Heap.IsList (Shared.heap ⟨h0, gs, ds, tk, os⟩) l as := isL
    have isT1 : Heap.IsTuple (Shared.heap ⟨mk1 h0 l, gs, ds, tk, os⟩) t bs := Heap.IsTuple.push isT _
    wp_walk using wpAny_pyIter_list isL0, wpAny_pyIter_tuple isT1
    exact ⟨_, rfl, fin⟩
theorem zip_mixed {P : Program} {w : World} {A : Around} {z : Shared} {E Q : Value → Shared → Prop} {l t : Addr} {as bs : Array Value} (isL : z.heap.IsList l as) (isT : z.heap.IsTuple t bs)
    (more : ∀ h', IsZip h' (z.heap.objs.size + 4) (z.heap.objs.size + 2) (z.heap.objs.size + 3) .none → IsTupOf2 h' (z.heap.objs.size + 2) (.ref z.heap.objs.size) (.ref (z.heap.objs.size + 1)) →
      IsTupOf2 h' (z.heap.objs.size + 3) .none .none → h'.IsListIter z.heap.objs.size l 0 → h'.IsTupleIter (z.heap.objs.size + 1) t 0 → (∀ c o, z.heap.get? c = some o → h'.get? c = some o) → Q (.ref (z.heap.objs.size + 4)) { z with heap := h' }) :
    wpAny (model P w) A (call (.type "zip") [.ref l, .ref t]) Q E z := by
  refine callType_new F.called_zip (by decide) (F.typeCall_zip_2 _ _) (F.newCall_zip_2 _ _) (fun o => F.args_object_init_3 o _ _) F.entry_zip_new (made_zip l t as bs) ⟨isL, isT, ?_⟩
  have s1 : (mk1 z.heap l).objs.size = z.heap.objs.size + 1 := Heap.size_push ..
  have s2 : (mk2 z.heap l t).objs.size = z.heap.objs.size + 2 := by rw [Heap.size_push, s1]
  have s3 : (mk3 z.heap l t).objs.size = z.heap.objs.size + 3 := by rw [Heap.size_push, s2]
  have s4 : (mk4 z.heap l t).objs.size = z.heap.objs.size + 4 := by rw [Heap.size_push, s3]
  have e5 : (mk5 z.heap l t).get? (mk4 z.heap l t).objs.size = some { cls := .type "zip", data := .fields #[.none, .bool false, .bool false, .ref (mk2 z.heap l t).objs.size, .ref (mk3 z.heap l t).objs.size] } := Heap.get?_push_size _ rfl
  have up5 : ∀ {c : Addr} {o : Obj}, (mk4 z.heap l t).get? c = some o → (mk5 z.heap l t).get? c = some o := fun e => Heap.get?_push_of_some _ e
  have up4 : ∀ {c : Addr} {o : Obj}, (mk3 z.heap l t).get? c = some o → (mk5 z.heap l t).get? c = some o := fun e => up5 (Heap.get?_push_of_some _ e)
  have up3 : ∀ {c : Addr} {o : Obj}, (mk2 z.heap l t).get? c = some o → (mk5 z.heap l t).get? c = some o := fun e => up4 (Heap.get?_push_of_some _ e)
  have up2 : ∀ {c : Addr} {o : Obj}, (mk1 z.heap l).get? c = some o → (mk5 z.heap l t).get? c = some o := fun e => up3 (Heap.get?_push_of_some _ e)
  have e4 : (mk5 z.heap l t).get? (mk3 z.heap l t).objs.size = some { cls := .type "tuple", data := .seq #[.none, .none] } := up5 (Heap.get?_push_size _ rfl)
  have e3 : (mk5 z.heap l t).get? (mk2 z.heap l t).objs.size = some { cls := .type "tuple", data := .seq #[.ref z.heap.objs.size, .ref (mk1 z.heap l).objs.size] } := up4 (Heap.get?_push_size _ rfl)
  have e2 : (mk5 z.heap l t).get? (mk1 z.heap l).objs.size = some { cls := .type "tuple_iterator", data := .fields #[.ref t, .int 0 0] } := up3 (Heap.get?_push_size _ rfl)
  have e1 : (mk5 z.heap l t).get? z.heap.objs.size = some { cls := .type "list_iterator", data := .fields #[.ref l, .int 0 0] } := up2 (Heap.get?_push_size _ rfl)
  show _ ∧ _
  rw [s2, s3, s4] at e5
  rw [s3] at e4
  rw [s1, s2] at e3
  rw [s1] at e2
  rw [s4]
  exact ⟨⟨_, e5, rfl⟩, more _ e5 e3 e4 ⟨_, e1, rfl, rfl⟩ ⟨_, e2, rfl, rfl⟩ fun c o e => up2 (Heap.get?_push_of_some _ e)⟩
end
/-- the items of the list at a and of the tuple at b, in new pairs -/
def ItzM (K : PySem.W.Frag) (a b : Addr) : It where
  go i H := ∃ (xs ys : List V) (x y : V), SqL K H a xs ∧ SqT K H b ys ∧ xs[i]? = some x ∧ ys[i]? = some y
  yld i H v H' := ∃ T x y, v = .ref T ∧ H T = none ∧ H' = upd H T (.tup [x, y]) ∧ (∀ xs, SqL K H a xs → xs[i]? = some x) ∧ ∀ ys, SqT K H b ys → ys[i]? = some y
  stop i H := ∃ xs ys : List V, SqL K H a xs ∧ SqT K H b ys ∧ xs.length = i ∧ ys.length = i
theorem five {p : Addr → Prop} {z u v i j b : Addr} (h : b ∈ [z, u, v, i, j]) (h1 : p z) (h2 : p u) (h3 : p v) (h4 : p i) (h5 : p j) : p b := by
  simp only [List.mem_cons, List.not_mem_nil, or_false] at h
  rcases h with rfl | rfl | rfl | rfl | rfl <;> assumption
theorem turn_zipM {P : Program} {w : World} {K : PySem.W.Frag} {elts : List Expr} {kk : Nat} {tpos : Pos} {a b z u v i1 i2 : Addr} (S : ZipSep2 z u v i1 i2 [i1, a] [i2, b]) :
    Turn P w K (.Tuple elts kk tpos) (ItzM K a b) [z, u, v, i1, i2] z (fun i h => IsZip h z u v .none ∧ IsTupOf2 h u (.ref i1) (.ref i2) ∧ (∃ x y, IsTupOf2 h v x y) ∧ h.IsListIter i1 a i ∧ h.IsTupleIter i2 b i) := by
  have list_ne : ∀ {h : Heap} {i : Nat} {as : Array Value}, h.IsListIter i1 a i → h.IsList a as → a ≠ i1 := by
    rintro h i as ⟨o, eo, co, _⟩ isL rfl
    obtain ⟨o', eo', co', _⟩ := isL
    rw [eo] at eo'
    cases eo'
    rw [co] at co'
    exact absurd co' (by decide)
  have tup_ne : ∀ {h : Heap} {i : Nat} {bs : Array Value}, h.IsTupleIter i2 b i → h.IsTuple b bs → b ≠ i2 := by
    rintro h i bs ⟨o, eo, co, _⟩ isT rfl
    obtain ⟨o', eo', co', _⟩ := isT
    rw [eo] at eo'
    cases eo'
    have co' : o.cls = Value.type "tuple" := co'
    rw [co] at co'
    exact absurd co' (by decide)
  refine ⟨List.mem_cons_self, fun i h st c hc => ?_, fun i h h' st same => ?_, ?_, ?_, fun A i s Q E st more => wpAny_pyIter_zip st.1 more⟩
  · obtain ⟨gz, gu, ⟨x, y, gv⟩, ⟨o1, e1, _, d1⟩, ⟨o2, e2, _, d2⟩⟩ := st
    exact five (p := fun c => ∃ o, h.get? c = some o ∧ ∀ v, o.data ≠ .cell v) hc ⟨_, gz, fun _ e => nomatch e⟩ ⟨_, gu, fun _ e => nomatch e⟩ ⟨_, gv, fun _ e => nomatch e⟩ ⟨o1, e1, fun _ e => by rw [d1] at e; exact nomatch e⟩ ⟨o2, e2, fun _ e => by rw [d2] at e; exact nomatch e⟩
  · obtain ⟨gz, gu, ⟨x, y, gv⟩, h1, h2⟩ := st
    exact ⟨same z (by simp) _ gz, same u (by simp) _ gu, ⟨x, y, same v (by simp) _ gv⟩, h1.at fun o e => same i1 (by simp) o e, h2.at fun o e => same i2 (by simp) o e⟩
  · rintro X rfl rfl rfl calm i pins s σ H E I room ⟨gz, gu, ⟨x0, y0, gv⟩, g1, g2⟩ ⟨xs, ys, x, y, isX, isY, nx, ny⟩
    obtain ⟨us, rel1, p1, _⟩ := I.list isX
    obtain ⟨vs, rel2, p2, _⟩ := I.tuple isY
    obtain ⟨c, nc, rc⟩ := rel1.get nx
    obtain ⟨d, ny', rd⟩ := rel2.get ny
    have isL : s.heap.IsList a us.toArray := p1.isList
    have isT : s.heap.IsTuple b vs.toArray := p2
    have D1 := Draws.list (prog := X.prog) (w := X.w) (A := X.A.in1) (I.ok.hd calm) i1 a (list_ne g1 isL) us.toArray
    have D2 := Draws.tuple (prog := X.prog) (w := X.w) (A := X.A.in1) (I.ok.hd calm) i2 b (tup_ne g2 isT) vs.toArray
    have in1 : i < us.toArray.size := by
      have := (List.getElem?_eq_some_iff.mp nc).1
      simpa using this
    have in2 : i < vs.toArray.size := by
      have := (List.getElem?_eq_some_iff.mp ny').1
      simpa using this
    have lz : z < s.heap.objs.size := Heap.lt_size gz
    refine wpAny_pyNext_zipD2_item S D1 D2 gz gu gv ⟨g1, isL⟩ ⟨g2, isT⟩ in1 in2 fun c' d' h1 tk ec ed gz' gv' st1 st2 newT _ kept => ?_
    obtain rfl : c' = c := by
      have ec : us.toArray[i]? = some c' := ec
      rw [List.getElem?_toArray, nc] at ec
      exact (Option.some.inj ec).symm
    obtain rfl : d' = d := by
      have ed : vs.toArray[i]? = some d' := ed
      rw [List.getElem?_toArray, ny'] at ed
      exact (Option.some.inj ed).symm
    refine ⟨_, rfl, wpAny_letOwnedTupleGo_zip (s := { s with heap := h1, toks := tk }) gz' fun h2 back same2 => ?_⟩
    have far : ∀ q o, q ∉ [z, u, v, i1, i2] → s.heap.get? q = some o → h2.get? q = some o := fun q o away e =>
      (same2.2 q fun k => away (by simp [k])).trans (kept q o (fun k => away (by simp [k])) (fun k => away (by simp [k])) (fun k => away (by simp [k])) (fun k => away (by simp [k])) e)
    have pair : ObjOk X.prog X.w (upd H s.heap.objs.size (.tup [x, y])) h2 s.heap.objs.size (.tup [x, y]) :=
      ⟨show 2 ≤ sizeLine by decide, [c', d'], .cons rc (.cons rd .nil), _, (same2.2 _ (Nat.ne_of_gt lz)).trans newT, rfl, _, rfl⟩
    refine ⟨.ref s.heap.objs.size, _, I.turnedNew (t' := tk) (ch := [z, u, v, i1, i2]) far room (Nat.le_refl _) pair, rfl, ⟨_, x, y, rfl, I.hok.fresh (Nat.le_refl _), rfl, fun l is' => ?_, fun l is' => ?_⟩, ⟨back, ?_, ⟨c', d', ?_⟩, ?_, ?_⟩, fun q hq => ?_⟩
    · rw [I.list_inj is' isX]; exact nx
    · rw [I.tuple_inj is' isY]; exact ny
    · exact (same2.2 _ S.TIz).trans (kept _ _ S.TIz S.TITO S.TIi1 S.TIi2 gu)
    · exact (same2.2 _ S.TOz).trans gv'
    · exact st1.1.at fun o e => (same2.2 _ fun k => S.zi1 k.symm).trans e
    · exact st2.1.at fun o e => (same2.2 _ fun k => S.zi2 k.symm).trans e
    · have lq : q < s.heap.objs.size := by
        obtain ⟨_, e1, _⟩ := g1
        obtain ⟨_, e2, _⟩ := g2
        exact five (p := fun q => q < s.heap.objs.size) hq lz (Heap.lt_size gu) (Heap.lt_size gv) (Heap.lt_size e1) (Heap.lt_size e2)
      rw [upd_ne (Nat.ne_of_lt lq)]
      exact (room q hq).1
  · rintro X rfl rfl rfl calm i pins s σ H E I room ⟨gz, gu, ⟨x0, y0, gv⟩, g1, g2⟩ ⟨xs, ys, isX, isY, l1, l2⟩
    obtain ⟨us, rel1, p1, _⟩ := I.list isX
    obtain ⟨vs, rel2, p2, _⟩ := I.tuple isY
    have isL : s.heap.IsList a us.toArray := p1.isList
    have isT : s.heap.IsTuple b vs.toArray := p2
    have D1 := Draws.list (prog := X.prog) (w := X.w) (A := X.A.in1) (I.ok.hd calm) i1 a (list_ne g1 isL) us.toArray
    have D2 := Draws.tuple (prog := X.prog) (w := X.w) (A := X.A.in1) (I.ok.hd calm) i2 b (tup_ne g2 isT) vs.toArray
    have n1 : i = us.toArray.size := by rw [List.size_toArray, ← rel1.length, l1]
    have n2 : i = vs.toArray.size := by rw [List.size_toArray, ← rel2.length, l2]
    refine wpAny_pyNext_zipD2_end S D1 D2 gz gu gv ⟨g1, isL⟩ ⟨g2, isT⟩ (by omega) (by omega) (.inl n1) fun h1 tk kept => ⟨rfl, ?_⟩
    exact I.turnedL (t' := tk) (ch := [z, u, v, i1, i2]) (fun c o away e => kept c o (fun k => away (by simp [k])) (fun k => away (by simp [k])) (fun k => away (by simp [k])) (fun k => away (by simp [k])) e) room
theorem sep_of (n a b : Nat) (la : a < n) (lb : b < n) : ZipSep2 (n + 4) (n + 2) (n + 3) n (n + 1) [n, a] [n + 1, b] := by
  have h1 : ¬ (n + 4 = a) := by omega
  have h2 : ¬ (n + 4 = b) := by omega
  have h3 : ¬ (n + 3 = a) := by omega
  have h4 : ¬ (n + 3 = b) := by omega
  have h5 : ¬ (n = b) := by omega
  have h6 : ¬ (n + 1 = a) := by omega
  constructor <;> simp [h1, h2, h3, h4, h5, h6]
/-- the reading of zip over a list and a tuple -/
def iZipM (K : PySem.W.Frag) (ta : TA) : TI := fun σ H R => ta σ H fun vs H1 => ∃ a b xs ys, vs = [.ref a, .ref b] ∧ SqL K H1 a xs ∧ SqT K H1 b ys ∧ R (ItzM K a b) H1
theorem pi_zipM {X : Cx} {e e2 : Expr} {ta : TA} {p pos tpos : Pos} {elts : List Expr} {kk : Nat} (hg : Gl X "zip") (hm : X.mg "zip" = none) (ha : PA X [e, e2] ta)
    (hs : starEach [e, e2] X.env = (false, eval e X.env) :: starEach [e2] X.env := by rfl) (hpl : (backTo pos (starEach [e2] X.env)).any (·.1) = false := by rfl) :
    PI X (.Tuple elts kk tpos) (.Call (.Name "zip" p) [e, e2] [] pos) (iZipM X.K ta) := by
  refine ⟨fun pins z σ H R I reading => Call_ (ld_blt I hg hm PyProof.Rows.boot_zip (PyProof.Rows.callWith_type1 (thn (ha.run pos pins z σ H _ I reading) fun us z1 got => ?_) hs hpl))⟩
  obtain ⟨vs, H1, I1, rel, a, b, xs, ys, rfl, isX, isY, q⟩ := got
  match us, rel with
  | [c, d], .cons rc (.cons rd .nil) =>
    obtain rfl : c = Value.ref a := rc
    obtain rfl : d = Value.ref b := rd
    obtain ⟨us, rel1, p1, _⟩ := I1.list isX
    obtain ⟨vs, rel2, p2, _⟩ := I1.tuple isY
    have isL : z1.heap.IsList a us.toArray := p1.isList
    have isT : z1.heap.IsTuple b vs.toArray := p2
    have la : a < z1.heap.objs.size := p1.lt
    have lb : b < z1.heap.objs.size := by
      obtain ⟨o, e, _⟩ := isT
      exact Heap.lt_size e
    refine zip_mixed isL isT fun h' gz gu gv g1 g2 kept => wpAny_pyIter_zip gz ?_
    have fresh : ∀ c ∈ [z1.heap.objs.size + 4, z1.heap.objs.size + 2, z1.heap.objs.size + 3, z1.heap.objs.size, z1.heap.objs.size + 1], FpOk X pins H1 c := fun c hc =>
      have far : z1.heap.objs.size ≤ c := five (p := fun c => z1.heap.objs.size ≤ c) hc (by omega) (by omega) (by omega) (by omega) (by omega)
      I1.fpOk far (I1.hok.fresh far)
    refine ⟨_, _, _, _, H1, rfl, I1.kept (t' := z1.toks) kept, turn_zipM (a := a) (b := b) (z := z1.heap.objs.size + 4) (u := z1.heap.objs.size + 2) (v := z1.heap.objs.size + 3) (i1 := z1.heap.objs.size) (i2 := z1.heap.objs.size + 1) ?_, ⟨gz, gu, ⟨_, _, gv⟩, g1, g2⟩, fresh, q⟩
    exact sep_of _ a b la lb
end L2.TB
namespace L2.TB
open PySem PySem.Spec PyProof.Rows
/-- a new key comes last -/
theorem put_last {acc : List (Key × V)} {k : Key} {v : V} (h : k ∉ acc.map (·.1)) : putK acc k v = acc ++ [(k, v)] := by
  have nd : ∀ acc : List (Key × V), k ∉ acc.map (·.1) → putK acc k v = acc ++ [(k, v)] := by
    intro acc h
    have no : (acc.any fun e => decide (e.1 = k)) = false := by
      cases q : acc.any fun e => decide (e.1 = k) with
      | false => rfl
      | true =>
        obtain ⟨e, he, ee⟩ := List.any_eq_true.mp q
        exact absurd (of_decide_eq_true ee ▸ List.mem_map_of_mem (f := (·.1)) he) h
    unfold putK
    rw [no]
    rfl
  exact nd acc h
/-- what a dict comprehension asks of its turns -/
def DcW (J : It) (g : TG) (tt : TT) (tk tv : TE) (vs : List Nat) (σ : St) (H1 : Hp) (Q : Addr → Hp → Prop) : Prop := ∀ D, H1 D = none → ∃ W : Nat → Nat → Hp → Prop, (∃ m, W 0 m (upd H1 D (.dK []))) ∧ ∀ i m H, W i m H →
  (J.stop i H ∧ Q D H) ∨ (J.go i H ∧ ∃ Nx : Hp → Prop, (∀ H', Nx H' → ∃ m', m' < m ∧ W (i + 1) m' H') ∧ ∀ x H', J.yld i H x H' → g x (wipe σ vs) H' fun σ2 H2 => wipe σ2 vs = wipe σ vs ∧ tt σ2 H2 fun b H3 =>
    if b = true then tk σ2 H3 fun y H4 => tv σ2 H4 fun z H5 => ∃ kvs k, y = kV k ∧ H5 D = some (.dK kvs) ∧ kvs.length < sizeLine ∧ Nx (upd H5 D (.dK (putK kvs k z))) else Nx H3)
/-- unlike keys: kvs is what it makes -/
theorem dc_gen {J : It} {g : TG} {tt : TT} {tk tv : TE} {vs : List Nat} {σ : St} {H1 : Hp} {Q : Addr → Hp → Prop} (kvs : List (Key × V)) (short : kvs.length < 1000000) (unlike : (kvs.map (·.1)).Nodup) (go : ∀ i H, Same H1 H → i < kvs.length → J.go i H) (stop : ∀ H, Same H1 H → J.stop kvs.length H)
    (turn : ∀ (i : Nat) (x : V) (k : Key) (v : V) (H H' : Hp) (C : V → V → Hp → Prop) (N : Hp → Prop), kvs[i]? = some (k, v) → Same H1 H → J.yld i H x H' → (∀ H5, Same H H5 → C (kV k) v H5) →
      g x (wipe σ vs) H' fun σ2 H2 => wipe σ2 vs = wipe σ vs ∧ tt σ2 H2 fun b H3 => if b = true then tk σ2 H3 fun y H4 => tv σ2 H4 fun z H5 => C y z H5 else N H3)
    (fin : ∀ H D, H1 D = none → H D = some (.dK kvs) → Same H1 H → Q D H) : DcW J g tt tk tv vs σ H1 Q := by
  intro D nD
  refine ⟨fun i m H => m = kvs.length - i ∧ i ≤ kvs.length ∧ H D = some (.dK (kvs.take i)) ∧ Same H1 H, ⟨_, rfl, Nat.zero_le _, upd_same, same_new nD⟩, ?_⟩
  rintro i m H ⟨rfl, le, oD, s1⟩
  by_cases lt : i < kvs.length
  · refine .inr ⟨go i H s1 lt, fun H' => H' D = some (.dK (kvs.take (i + 1))) ∧ Same H1 H', fun H' h => ⟨kvs.length - (i + 1), by omega, rfl, lt, h⟩, fun x H' yl => ?_⟩
    obtain ⟨k, v⟩ : Key × V := kvs[i]
    have ey : kvs[i]? = some (kvs[i].1, kvs[i].2) := List.getElem?_eq_getElem lt
    have et : kvs.take (i + 1) = kvs.take i ++ [(kvs[i].1, kvs[i].2)] := by rw [List.take_succ, ey]; rfl
    refine turn i x _ _ H H' (fun y z H5 => ∃ acc k, y = kV k ∧ H5 D = some (.dK acc) ∧ acc.length < sizeLine ∧ (upd H5 D (.dK (putK acc k z))) D = some (.dK (kvs.take (i + 1))) ∧ Same H1 (upd H5 D (.dK (putK acc k z)))) _ ey s1 yl fun H5 s5 => ⟨_, _, rfl, s5 _ _ oD, ?_, ?_, ?_⟩
    · rw [sizeLine_eq, List.length_take]; omega
    · rw [upd_same, put_last, et]
      have sp : ((kvs.take (i + 1)).map (·.1)).Nodup := (unlike.sublist ((List.take_sublist _ _).map _))
      rw [et, List.map_append, List.nodup_append] at sp
      exact fun hin => sp.2.2 _ hin _ (by simp) rfl
    · intro b u e
      rw [upd_ne (ne_of_none e nD)]
      exact s5 _ _ (s1 _ _ e)
  · obtain rfl : i = kvs.length := by omega
    rw [List.take_length] at oD
    exact .inl ⟨stop H s1, fin H D nD oD s1⟩
/-! the table's rows as dicts -/
def spDictOf (C : Addr) : Sp := fun vs H Q _ => ∃ (a p : Addr) (ns : List Str) (tbl : List (List Int)) (us : List Int), vs = [.ref a, .ref p] ∧ TabAt H C a ns tbl ∧ ns.Nodup ∧ ns.length < 1000 ∧ H p = some (.tup (us.map V.int)) ∧ us.length = ns.length ∧ ∀ H' d, H d = none → H' d = some (.dK (dk ns us)) → Same H H' → Q (.ref d) H'
def spRowsM (C : Addr) : Sp := fun vs H Q _ => ∃ (a : Addr) (ns : List Str) (tbl : List (List Int)), vs = [.ref a] ∧ TabAt H C a ns tbl ∧ ns.Nodup ∧ ns.length < 1000 ∧ tbl.length < 1000 ∧
  ∀ H' q as, H q = none → H' q = some (.lst ((as : List Addr).map V.ref)) → DRows H' ns as tbl → (∀ t ∈ as, H t = none) → Same H H' → Q (.ref q) H'
abbrev NDo : List Str := ["self", "row", "name", "answer"]
theorem scDictOf : FnScope NDo ["self", "row"] (defScope sDictOf) := ⟨rfl, rfl, rfl, by decide +kernel, rfl, by decide +kernel, by decide +kernel⟩
abbrev NRm : List Str := ["self", "row"]
theorem scRowsM : FnScope NRm ["self"] (defScope sRowsM) := ⟨rfl, rfl, rfl, by decide +kernel, rfl, by decide +kernel, by decide +kernel⟩
section
variable {P : Program} {w : World} {K : PySem.W.Frag} {mg : Str → Option Value} {base : Heap} {f C fD : Addr} {fd fdD : FuncData}
theorem ok_dictOf (F : Fun K "_dict_of" "Table._dict_of" sDictOf f fd) (T : TabC K C) (gZ : mg "zip" = none) : FnOk P w K mg base CX0 1 f fd ["self", "row"] (spDictOf C) := by
  refine F.ok scDictOf (fun vs H Q E h => by obtain ⟨a, p, ns, tbl, us, e, _⟩ := h; rw [e]; rfl) fun cdv A outer s H vs Q E hr hsp => ?_
  obtain ⟨a, p, ns, tbl, us, rfl, tab, nnd, nsh, hp, lu, hq⟩ := hsp
  obtain ⟨dx, qa, ra, ha, hqa, hra⟩ := tab.ex
  have nd := scDictOf.nd
  refine ⟨_, pss_one (ps_ret (pe_dc (own := [("name", 2), ("answer", 3)]) (tt := tYes) (g := gTup K 2 (gCons (gName 2) (gCons (gName 3) gNil))) (tk := tVar 2) (tv := tVar 3) rfl nd (pi_zipM rfl gZ (pa_cons (pe_fld (pv 0) rfl) (pa_cons (pv 1) pa_nil))) (blkOk_by (N := NDo) (sc := defScope sDictOf) (by decide +kernel))
    (fun _ _ _ _ _ => pg_tup rfl (pgs_cons (pg_name (i := 2) nd rfl (Or.inl rfl)) (pgs_cons (pg_name (i := 3) nd rfl (Or.inl rfl)) pgs_nil))) (fun _ _ _ _ _ => pts_nil) (fun _ _ _ _ _ => pv 2) (fun _ _ _ _ _ => pv 3))), ?_⟩
  have ldk : (dk ns us).length = ns.length := by
    unfold dk
    rw [List.length_map, List.length_zip]; omega
  refine ⟨_, rfl, a, C, dx, _, _, rfl, ha, T.cl, T.nQ, rfl, _, rfl, qa, p, ns.map V.str, us.map V.int, rfl, SqL.of hqa, SqT.of hp, ?_⟩
  refine dc_gen (Q := fun D H' => Q (.ref D) H') (dk ns us) (by omega) (dk_nd lu.symm nnd) (fun i H' k lt => ?_) (fun H' k => ⟨_, _, SqL.of (k _ _ hqa), SqT.of (k _ _ hp), by rw [List.length_map, ldk], by rw [List.length_map, ldk, lu]⟩) ?_ fun H' D nD oD k => hq H' D nD oD k
  · rw [ldk] at lt
    exact ⟨_, _, _, _, SqL.of (k _ _ hqa), SqT.of (k _ _ hp), List.getElem?_eq_getElem (by rw [List.length_map]; exact lt), List.getElem?_eq_getElem (by rw [List.length_map]; omega)⟩
  · rintro i x k v H2 H3 Cn Nn ekv s2 ⟨t, x1, x2, rfl, nt, rfl, g1, g2⟩ yes
    have e1 := g1 _ (SqL.of (s2 _ _ hqa))
    have e2 := g2 _ (SqT.of (s2 _ _ hp))
    obtain ⟨y, n, rfl, rfl, ey, _⟩ := dk_at ekv nnd lu.symm
    rw [List.getElem?_map, ey] at e1
    obtain rfl : V.str y = x1 := Option.some.inj e1
    have ex : x2 = V.int n := by
      unfold dk at ekv
      rw [List.getElem?_map] at ekv
      obtain ⟨z, ez, e⟩ := Option.map_eq_some_iff.mp ekv
      have ez : (ns.zip us)[i]? = some z := ez
      rw [List.getElem?_zip_eq_some] at ez
      have en : z.2 = n := V.int.inj (congrArg Prod.snd e)
      rw [List.getElem?_map, ez.2, Option.map_some, en] at e2
      exact (Option.some.inj e2).symm
    subst ex
    have st := same_new (o := .tup [V.str y, V.int n]) nt
    refine ⟨t, _, rfl, SqT.of upd_same, rfl, _, _, rfl, _, _, rfl, rfl, rfl, ?_⟩
    exact ⟨_, rfl, _, rfl, yes _ st⟩
theorem ok_rowsM (F : Fun K "rows" "Table.rows" sRowsM f fd) (T : TabC K C) (FD : Fun K "_dict_of" "Table._dict_of" sDictOf fD fdD) (mD : Meth K C "_dict_of" fD) (gZ : mg "zip" = none) : FnOk P w K mg base CX0 2 f fd ["self"] (spRowsM C) := by
  have GD : FnOk P w K mg base CX0 1 fD fdD ["self", "row"] (spDictOf C) := ok_dictOf FD T gZ
  have bD := FD.binds (ps := ["self", "row"]) fun _ _ _ _ _ _ us hl => match us, hl with | [_, _], _ => rfl
  refine F.ok scRowsM (fun vs H Q E h => by obtain ⟨a, ns, tbl, e, _⟩ := h; rw [e]; rfl) fun cdv A outer s H vs Q E hr hsp => ?_
  obtain ⟨a, ns, tbl, rfl, tab, nnd, nsh, tsh, hq⟩ := hsp
  obtain ⟨dx, qa, ra, ha, hqa, hra⟩ := id tab.ex
  obtain ⟨ps, hps, prs⟩ := hra
  have nd := scRowsM.nd
  have lp : ps.length = tbl.length := Paired.length prs
  refine ⟨_, pss_one (ps_ret (pe_lc (own := [("row", 1)]) (tt := tYes) rfl nd (pi_list (pe_fld (pv 0) rfl)) (blkOk_by (N := NRm) (sc := defScope sRowsM) (by decide +kernel)) (fun _ _ _ _ _ => pg_name (i := 1) nd rfl (Or.inl rfl)) (fun _ _ _ _ _ => pts_nil)
    (fun _ _ _ _ _ => pe_meth (pv 0) T.cl mD GD hr bD .nil pass0 (pa_cons (pv 1) pa_nil)))), ?_⟩
  refine ⟨_, rfl, a, C, dx, _, _, rfl, ha, T.cl, T.nR, rfl, ra, rfl, ⟨_, SqL.of hps⟩, ?_⟩
  refine lc_made (Q := fun D H' => Q (.ref D) H') tbl.length (by omega) (fun i H' k lt => ⟨_, _, SqL.of (k _ _ hps), List.getElem?_eq_getElem (by rw [List.length_map]; omega)⟩) (fun H' k => ⟨_, SqL.of (k _ _ hps), by rw [List.length_map]; omega⟩)
    (fun i y H' => ∃ t us, y = V.ref t ∧ tbl[i]? = some us ∧ H' t = some (.dK (dk ns us)) ∧ us.length = ns.length ∧ H t = none) ?_ ?_ ?_
  · rintro i y H2 H3 D l ⟨t, us, rfl, eu, ot, lu, nt⟩ oD keep
    exact ⟨t, us, rfl, eu, keep _ _ (ne_of ot oD (by intro z; cases z)) ot, lu, nt⟩
  · rintro i x H2 H3 Cn Nn lt s2 ⟨rfl, ex⟩ yes
    have ex := ex _ (SqL.of (s2 _ _ hps))
    rw [List.getElem?_map] at ex
    obtain ⟨p, ep, rfl⟩ := Option.map_eq_some_iff.mp ex
    obtain ⟨us, eu, op, lu⟩ := paired_get prs ep
    refine ⟨rfl, ?_⟩
    exact ⟨_, rfl, a, dx, _, rfl, s2 _ _ ha, rfl, _, rfl, a, p, ns, tbl, us, rfl, tab.same s2, nnd, nsh, s2 _ _ op, lu, fun H4 d nd od s4 => yes _ _ ⟨d, us, rfl, eu, od, lu, s2.free nd⟩ s4⟩
  · intro H2 D ys nD oD ly ry s2
    obtain ⟨as, rfl, pa⟩ := addrs_of (H := H2) (P := fun i t => (∃ us, tbl[i]? = some us ∧ H2 t = some (.dK (dk ns us)) ∧ us.length = ns.length) ∧ H t = none) ys 0 fun j y e => by
      obtain ⟨t, us, e1, e2, e3, e4, e5⟩ := ry j y e
      exact ⟨t, e1, ⟨us, by simpa using e2, e3, e4⟩, e5⟩
    refine hq H2 D as nD oD (paired_of as tbl (by rw [← ly, List.length_map]) fun i t us et eu => ?_) (fun t ht => ?_) s2
    rotate_left
    · obtain ⟨i, hi, e⟩ := List.getElem_of_mem ht
      exact (pa i t (by rw [List.getElem?_eq_getElem hi, e])).2
    obtain ⟨⟨us', e2, e3, e4⟩, _⟩ := pa i t et
    rw [Nat.zero_add, eu] at e2
    cases e2
    exact ⟨e3, e4⟩
end
end L2.TB
/-! d.setdefault(k, x), called at once -/
namespace L2.TB
open PySem PySem.Spec PyProof.Rows
/-- the dict, the key and what is laid where the key is new -/
def tSetd (td tk tx : TE) : TE := fun σ H Q => td σ H fun x H1 => ∃ p, x = .ref p ∧ IsD H1 p ∧ tk σ H1 fun y H2 => tx σ H2 fun z H3 => rSetd (.ref p) [y, z] H3 Q
section
variable {X : Cx} {do_ ek ex : Expr} {pA pC : Pos} {td tk tx : TE}
theorem pe_setd (hd : PE X do_ td) (hk : PE X ek tk) (hx : PE X ex tx) (look : M2 X do_ "setdefault" pA ek ex pC) : PE X (.Call (.Attribute do_ "setdefault" pA) [ek, ex] [] pC) (tSetd td tk tx) := by
  refine ⟨fun pins s σ H Q I h => ?_⟩
  have od := hd.run pins s σ H _ I h
  refine wpAny_Call_method look.base look.few look.line F.plainAttrs_dict F.slot_dict_setdefault F.type_dict_setdefault (thn od ?_)
  rintro ud sD ⟨vd, HD, ID, relD, p, rfl, isD, after⟩
  obtain rfl : ud = Value.ref p := relD
  have at_ := isD_at ID isD
  refine ⟨at_.1, at_.2.1, ?_⟩
  rw [look.trees]
  refine Calls.callWith_builtin rfl (Calls.evalArgs_plain (Calls.spliced_cons (thn (hk.run pins sD σ HD _ ID after) ?_)))
  rintro uk sK ⟨vk, HK, IK, relK, after⟩
  refine Calls.spliced_cons (thn (hx.run pins sK σ HK _ IK after) ?_)
  rintro ux sX ⟨vx, HX, IX, relX, p', kvs, k, v, ep, evs, atp, shortP, yes, no⟩
  cases ep
  cases evs
  refine Calls.spliced_nil ?_
  obtain ⟨szP, nosys, pairs, relP, isP⟩ := dk_of IX.hok atp
  have few : pairs.length ≤ sizeLine := relP.length ▸ szP
  refine call_meetsIn F.slot_dict_setdefault isP.typeIs F.entry_dict_setdefault (F.args_dict_setdefault_3 _ _ _) (kt_meets_setdefault (mixKind X.prog X.w) p (kV_is relK) nosys ux) ⟨pairs, isP, few, ?_, ?_⟩
  · intro u stands
    have both := relP.val k
    rw [stands] at both
    cases q : valV kvs k with
    | none => rw [q] at both; exact both.elim
    | some x => rw [q] at both; exact ⟨x, HX, IX.tok _, both, yes x q⟩
  · intro fresh h2 is2 but2
    have both := relP.val k
    rw [fresh] at both
    cases q : valV kvs k with
    | some x => rw [q] at both; exact both.elim
    | none =>
      have fits : (putK kvs k vx).length ≤ sizeLine := by
        have z := length_putK kvs k vx
        omega
      have there : ∃ o, h2.get? p = some o := by
        obtain ⟨o, _, _, e, _⟩ := is2
        exact ⟨o, e⟩
      exact ⟨vx, _, d_write (t' := sX.toks + 1) IX (by rw [atp]; exact True.intro) but2 there (dk_new fits nosys (relP.put k relX) is2), relX, no q⟩
end
end L2.TB
/-! dict comprehensions whose values are made in the turns; rows parted by what they say to a question -/
namespace L2.TB
open PySem PySem.Spec PyProof.Rows
theorem map_snoc {α β : Type} (f : α → β) {l : List α} {x : α} : (l ++ [x]).map f = l.map f ++ [f x] := by rw [List.map_append]; rfl
theorem dc_made {J : It} {g : TG} {tt : TT} {tk tv : TE} {vs : List Nat} {σ : St} {H1 : Hp} {Q : Addr → Hp → Prop} (ks : List Key) (short : ks.length < 1000000) (unlike : ks.Nodup) (go : ∀ i H, Same H1 H → i < ks.length → J.go i H) (stop : ∀ H, Same H1 H → J.stop ks.length H)
    (R : Nat → V → Hp → Prop) (stays : ∀ i y H H' D l, R i y H → H D = some (.dK l) → (∀ b o, b ≠ D → H b = some o → H' b = some o) → R i y H')
    (turn : ∀ (i : Nat) (x : V) (k : Key) (H H' : Hp) (C : V → V → Hp → Prop) (N : Hp → Prop), ks[i]? = some k → Same H1 H → J.yld i H x H' → (∀ v H5, R i v H5 → Same H H5 → C (kV k) v H5) →
      g x (wipe σ vs) H' fun σ2 H2 => wipe σ2 vs = wipe σ vs ∧ tt σ2 H2 fun b H3 => if b = true then tk σ2 H3 fun y H4 => tv σ2 H4 fun z H5 => C y z H5 else N H3)
    (fin : ∀ H D kvs, H1 D = none → H D = some (.dK kvs) → kvs.map (·.1) = ks → (∀ j k y, kvs[j]? = some (k, y) → R j y H) → Same H1 H → Q D H) : DcW J g tt tk tv vs σ H1 Q := by
  intro D nD
  refine ⟨fun i m H => m = ks.length - i ∧ i ≤ ks.length ∧ (∃ acc : List (Key × V), H D = some (.dK acc) ∧ acc.map (·.1) = ks.take i ∧ ∀ j k y, acc[j]? = some (k, y) → R j y H) ∧ Same H1 H,
    ⟨_, rfl, Nat.zero_le _, ⟨[], upd_same, by simp, fun j k y e => by simp at e⟩, same_new nD⟩, ?_⟩
  rintro i m H ⟨rfl, le, ⟨acc, oD, ea, hR⟩, s1⟩
  have la : acc.length = i := by
    have z := congrArg List.length ea
    rw [List.length_map, List.length_take] at z
    omega
  by_cases lt : i < ks.length
  · refine .inr ⟨go i H s1 lt, fun H' => (∃ acc : List (Key × V), H' D = some (.dK acc) ∧ acc.map (·.1) = ks.take (i + 1) ∧ ∀ j k y, acc[j]? = some (k, y) → R j y H') ∧ Same H1 H', fun H' h => ⟨ks.length - (i + 1), by omega, rfl, lt, h⟩, fun x H' yl => ?_⟩
    have ek : ks[i]? = some ks[i] := List.getElem?_eq_getElem lt
    have et : ks.take (i + 1) = ks.take i ++ [ks[i]] := by rw [List.take_succ, ek]; rfl
    have sp : (ks.take (i + 1)).Nodup := unlike.sublist (List.take_sublist _ _)
    rw [et, List.nodup_append] at sp
    have out : ks[i] ∉ acc.map (·.1) := fun z => sp.2.2 _ (by rw [← ea]; exact z) _ (by simp) rfl
    refine turn i x ks[i] H H' _ _ ek s1 yl fun v H5 hv s5 => ⟨acc, ks[i], rfl, s5 _ _ oD, by rw [sizeLine_eq]; omega, ⟨acc ++ [(ks[i], v)], ?_, ?_, ?_⟩, ?_⟩
    · rw [upd_same, put_last out]
    · rw [map_snoc, ea, et]
    · have keep : ∀ b o, b ≠ D → H5 b = some o → upd H5 D (.dK (putK acc ks[i] v)) b = some o := fun b o nb e => by rw [upd_ne nb]; exact e
      intro j k y e
      by_cases hj : j < acc.length
      · rw [List.getElem?_append_left hj] at e
        have a1 : R j y H5 := stays j y H H5 D acc (hR j k y e) oD fun b o _ e => s5 _ _ e
        exact stays j y H5 _ D acc a1 (s5 _ _ oD) keep
      · rw [List.getElem?_append_right (by omega)] at e
        have : j - acc.length = 0 := by
          rcases Nat.eq_zero_or_pos (j - acc.length) with z | z
          · exact z
          · rw [List.getElem?_eq_none (by simp; omega)] at e; cases e
        rw [this] at e
        cases e
        have : j = i := by omega
        rw [this]
        exact stays i v H5 _ D acc hv (s5 _ _ oD) keep
    · intro b u e
      rw [upd_ne (ne_of_none e nD)]
      exact s5 _ _ (s1 _ _ e)
  · obtain rfl : i = ks.length := by omega
    rw [List.take_length] at ea
    exact .inl ⟨stop H s1, fin H D acc nD oD ea hR s1⟩
/-! the parting itself -/
/-- what stands in a list, each once, in the order of its first place -/
def onceZ (l : List Int) : List Int := l.foldl (fun acc v => if v ∈ acc then acc else acc ++ [v]) []
theorem once_snoc (l : List Int) (v : Int) : onceZ (l ++ [v]) = if v ∈ onceZ l then onceZ l else onceZ l ++ [v] := by
  unfold onceZ
  rw [List.foldl_append]
  rfl
theorem rev_ind {α : Type} {P : List α → Prop} (h0 : P []) (hs : ∀ l x, P l → P (l ++ [x])) (l : List α) : P l := by
  have z : ∀ r : List α, P r.reverse := fun r => by
    induction r with
    | nil => exact h0
    | cons x r ih => rw [List.reverse_cons]; exact hs _ _ ih
  have := z l.reverse
  rw [List.reverse_reverse] at this
  exact this
theorem once_mem (l : List Int) : ∀ v, v ∈ onceZ l ↔ v ∈ l := by
  induction l using rev_ind with
  | h0 => intro v; simp [onceZ]
  | hs l x ih =>
    intro v
    rw [once_snoc]
    by_cases h : x ∈ onceZ l
    · rw [if_pos h, ih v, List.mem_append]
      refine ⟨.inl, fun z => z.elim id fun z => ?_⟩
      have : v = x := by simpa using z
      rw [this]; exact (ih x).mp h
    · rw [if_neg h, List.mem_append, List.mem_append, ih v]
theorem once_nd (l : List Int) : (onceZ l).Nodup := by
  induction l using rev_ind with
  | h0 => exact List.nodup_nil
  | hs l x ih =>
    rw [once_snoc]
    by_cases h : x ∈ onceZ l
    · rw [if_pos h]; exact ih
    · rw [if_neg h, List.nodup_append]
      exact ⟨ih, by simp, fun a ha b hb e => h (by have : b = x := by simpa using hb
                                                   rw [← this, ← e]; exact ha)⟩
theorem once_len (l : List Int) : (onceZ l).length ≤ l.length := by
  induction l using rev_ind with
  | h0 => exact Nat.le_refl _
  | hs l x ih =>
    rw [once_snoc, List.length_append]
    split
    · omega
    · rw [List.length_append]; simp; omega
/-- the parts of some rows by what each says: answers in the order in which they come first -/
def answersOf (f : Nat → Int) (part : List Nat) : List Int := onceZ (part.map f)
def partOf (f : Nat → Int) (part : List Nat) (v : Int) : List Nat := part.filter fun i => decide (f i = v)
theorem part_snoc (f : Nat → Int) (p : List Nat) (i : Nat) (v : Int) : partOf f (p ++ [i]) v = if f i = v then partOf f p v ++ [i] else partOf f p v := by
  unfold partOf
  rw [List.filter_append]
  by_cases h : f i = v
  · rw [if_pos h]; simp [h]
  · rw [if_neg h]; simp [h]
theorem part_none {f : Nat → Int} {p : List Nat} {v : Int} (h : v ∉ answersOf f p) : partOf f p v = [] := by
  unfold partOf
  refine List.filter_eq_nil_iff.mpr fun i hi e => h ?_
  unfold answersOf
  rw [once_mem]
  exact List.mem_map.mpr ⟨i, hi, of_decide_eq_true e⟩
theorem part_some {f : Nat → Int} {p : List Nat} {v : Int} (h : v ∈ answersOf f p) : partOf f p v ≠ [] := by
  unfold answersOf at h
  rw [once_mem] at h
  obtain ⟨i, hi, e⟩ := List.mem_map.mp h
  intro z
  have : i ∈ partOf f p v := List.mem_filter.mpr ⟨hi, decide_eq_true e⟩
  rw [z] at this
  cases this
end L2.TB
namespace L2.TB
open PySem PySem.Spec PyProof.Rows
/-! the law's own look at pairs of rows -/
theorem ints_shape : ∀ ks : List Int, PyData.canLayAll0 (ks.map PyData.int) = true ∧ PyData.depthAll (ks.map PyData.int) = 0
  | [] => ⟨by simp [PyData.canLayAll0], by simp [PyData.depthAll]⟩
  | b :: bs => by
    obtain ⟨h1, h2⟩ := ints_shape bs
    exact ⟨by simp [PyData.canLayAll0, PyData.canLay0, h1], by simp [PyData.depthAll, PyData.depth, h2]⟩
theorem tup_shaped (ks : List Int) : SeqAt.shaped (.tuple (ks.map PyData.int)) = true := by
  obtain ⟨h1, h2⟩ := ints_shape ks
  unfold SeqAt.shaped
  simp [PyData.canLay0, PyData.depth, h1, h2]
theorem tup_eqvAll : ∀ a b : List Int, PyData.eqvAll (a.map PyData.int) (b.map PyData.int) = decide (a = b)
  | [], [] => by simp [PyData.eqvAll]
  | [], _ :: _ => by simp [PyData.eqvAll]
  | _ :: _, [] => by simp [PyData.eqvAll]
  | x :: a, y :: b => by
    rw [List.map_cons, List.map_cons, PyData.eqvAll, tup_eqvAll a b, PyData.eqv]
    by_cases h1 : x = y
    · by_cases h2 : a = b <;> simp [h1, h2]
    · simp [h1]
theorem tup_eqv (a b : List Int) : PyData.eqv (.tuple (a.map PyData.int)) (.tuple (b.map PyData.int)) = decide (a = b) := by rw [PyData.eqv, tup_eqvAll]
theorem dk_av {ns : List Str} {vs : List Int} {x : Str} (nd : ns.Nodup) (hl : vs.length = ns.length) (xin : x ∈ ns) : valV (dk ns vs) (Sum.inr x) = some (.int (av ns vs x)) := by
  have lt : idx ns x < ns.length := List.idxOf_lt_length_of_mem xin
  have e1 : ns[idx ns x]? = some x := by
    rw [List.getElem?_eq_getElem lt]
    exact congrArg some (List.getElem_idxOf lt)
  have e2 : vs[idx ns x]? = some (av ns vs x) := by
    unfold av
    rw [List.getD_eq_getElem?_getD, List.getElem?_eq_getElem (by omega)]
    rfl
  have edk : (dk ns vs)[idx ns x]? = some (Sum.inr x, V.int (av ns vs x)) := by
    unfold dk
    rw [List.getElem?_map, List.getElem?_zip_eq_some.mpr (show ns[idx ns x]? = some (x, av ns vs x).1 ∧ vs[idx ns x]? = some (x, av ns vs x).2 from ⟨e1, e2⟩)]
    rfl
  obtain ⟨z', n', q1, q2, _, hv⟩ := dk_at edk nd hl.symm
  obtain rfl := Sum.inr.inj q1
  obtain rfl := V.int.inj q2
  exact hv
theorem rd_same {H H' : Hp} {d : Addr} {u : HO} (h : Rd H d u) (s : Same H H') : Rd H' d u := h.imp (s _ _) fun ⟨o, e⟩ => ⟨o, s _ _ e⟩
theorem dget_r {H : Hp} {a : Addr} {kvs : List (Key × V)} {k : Key} (e : Rd H a (.dK kvs)) : DGet H a (kV k) (valV kvs k) := .inl ⟨kvs, k, e, rfl, rfl⟩
/-- rows that are read, one of them perhaps being walked -/
def RRows (H : Hp) (ns : List Str) : List Addr → List (List Int) → Prop := Paired fun a vs => Rd H a (.dK (dk ns vs)) ∧ vs.length = ns.length
theorem RRows.same {H H' : Hp} {ns : List Str} {as : List Addr} {tbl : List (List Int)} (r : RRows H ns as tbl) (s : Same H H') : RRows H' ns as tbl := Paired.mapP r fun a vs h => ⟨rd_same h.1 s, h.2⟩
theorem DRows.rd {H : Hp} {ns : List Str} {as : List Addr} {tbl : List (List Int)} (r : DRows H ns as tbl) : RRows H ns as tbl := Paired.mapP r fun a vs h => ⟨.inl h.1, h.2⟩
end L2.TB
/-! a search: its fields; rows parted -/
namespace L2.TB
open PySem PySem.Spec PyProof.Rows
def seaF (rL : Addr) (x of wt : V) (bs : Addr) : List (Str × V) := [("_rows", .ref rL), ("_asked", x), ("_of", of), ("_weights", wt), ("_bests", .ref bs)]
structure SeaC (K : PySem.W.Frag) (C : Addr) : Prop where
  cl : Cls K C
  nR : NoAttr K C "_rows"
  nA : NoAttr K C "_asked"
  nO : NoAttr K C "_of"
  nW : NoAttr K C "_weights"
  nB : NoAttr K C "_bests"
abbrev NSi : List Str := ["self", "table", "asked", "of", "weights"]
theorem scSi : FnScope NSi NSi (defScope sSInit) := ⟨rfl, rfl, rfl, by decide +kernel, rfl, by decide +kernel, by decide +kernel⟩
def spSInit (CT C : Addr) : Sp := fun vs H Q _ => ∃ (p dx t : Addr) (x of wt : V) (ns : List Str) (tbl : List (List Int)), vs = [.ref p, .ref t, x, of, wt] ∧ H p = some (.ins C dx []) ∧ TabAt H CT t ns tbl ∧ ns.Nodup ∧ ns.length < 1000 ∧ tbl.length < 1000 ∧
  ∀ H' rL bs as, H rL = none → H bs = none → H' p = some (.ins C dx (seaF rL x of wt bs)) → H' rL = some (.lst ((as : List Addr).map V.ref)) → DRows H' ns as tbl → H' bs = some (.dT []) → (∀ b o, b ≠ p → H b = some o → H' b = some o) → Q .non H'
/-- a search over the rows of tbl; what is known of the best stands elsewhere, at bs -/
structure SeaAt (H : Hp) (C a : Addr) (ns : List Str) (tbl : List (List Int)) (x : Str) (of : List Str) (bs : Addr) : Prop where
  ex : ∃ dx rL oL as, H a = some (.ins C dx (seaF rL (.str x) (.ref oL) .non bs)) ∧ H rL = some (.lst ((as : List Addr).map V.ref)) ∧ DRows H ns as tbl ∧ H oL = some (.lst (of.map V.str))
  nd : ns.Nodup
  xin : x ∈ ns
  sub : ∀ y ∈ of, y ∈ ns
  sh : tbl.length < 1000
  so : of.length < 1000
/-- a dict of what is known of the best, whatever -/
def IsT (H : Hp) (bs : Addr) : Prop := ∃ kvs, H bs = some (.dT kvs)
/-- all stays but what is at bs -/
def ButB (bs : Addr) (H H' : Hp) : Prop := ∀ b o, b ≠ bs → H b = some o → H' b = some o
theorem ButB.refl {bs : Addr} {H : Hp} : ButB bs H H := fun _ _ _ e => e
theorem ButB.trans {bs : Addr} {H H1 H2 : Hp} (a : ButB bs H H1) (b : ButB bs H1 H2) : ButB bs H H2 := fun c o n e => b c o n (a c o n e)
theorem ButB.of {bs : Addr} {H H' : Hp} (s : Same H H') : ButB bs H H' := fun b o _ e => s b o e
theorem DRows.but {bs : Addr} {H H' : Hp} {ns : List Str} {as : List Addr} {tbl : List (List Int)} (r : DRows H ns as tbl) (t : IsT H bs) (s : ButB bs H H') : DRows H' ns as tbl :=
  Paired.mapP r fun a vs h => ⟨s _ _ (fun z => by obtain ⟨kvs, e⟩ := t; rw [z, e] at h; cases h.1) h.1, h.2⟩
theorem SeaAt.but {H H' : Hp} {C a bs : Addr} {ns : List Str} {tbl : List (List Int)} {x : Str} {of : List Str} (h : SeaAt H C a ns tbl x of bs) (t : IsT H bs) (s : ButB bs H H') : SeaAt H' C a ns tbl x of bs := by
  obtain ⟨⟨dx, rL, oL, as, h1, h2, h3, h4⟩, n1, n2, n3, n4, n5⟩ := h
  have ne : ∀ {b : Addr} {o : HO}, (∀ kvs, o ≠ .dT kvs) → H b = some o → b ≠ bs := fun no e z => by
    obtain ⟨kvs, et⟩ := t
    rw [z, et] at e
    exact no _ (Option.some.inj e).symm
  exact ⟨⟨dx, rL, oL, as, s _ _ (ne (fun _ z => by cases z) h1) h1, s _ _ (ne (fun _ z => by cases z) h2) h2, h3.but t s, s _ _ (ne (fun _ z => by cases z) h4) h4⟩, n1, n2, n3, n4, n5⟩
theorem SeaAt.same {H H' : Hp} {C a bs : Addr} {ns : List Str} {tbl : List (List Int)} {x : Str} {of : List Str} (h : SeaAt H C a ns tbl x of bs) (s : Same H H') : SeaAt H' C a ns tbl x of bs := by
  obtain ⟨⟨dx, rL, oL, as, h1, h2, h3, h4⟩, n1, n2, n3, n4, n5⟩ := h
  exact ⟨⟨dx, rL, oL, as, s _ _ h1, s _ _ h2, h3.same s, s _ _ h4⟩, n1, n2, n3, n4, n5⟩
/-- what row i says to q -/
def says (ns : List Str) (tbl : List (List Int)) (q : Str) (i : Nat) : Int := av ns (tbl.getD i []) q
def natV (i : Nat) : V := .int (i : Int)
/-- a part of the rows: their numbers -/
def PartAt (H : Hp) (a : Addr) (n : Nat) (part : List Nat) : Prop := H a = some (.tup (part.map natV)) ∧ part.length < 1000 ∧ ∀ i ∈ part, i < n
theorem PartAt.same {H H' : Hp} {a : Addr} {n : Nat} {part : List Nat} (h : PartAt H a n part) (s : Same H H') : PartAt H' a n part := ⟨s _ _ h.1, h.2⟩
/-- the parts, by answers, in a dict -/
def PartsAt (H : Hp) (d : Addr) (f : Nat → Int) (part : List Nat) : Prop := ∃ kvs, H d = some (.dK kvs) ∧ kvs.map (·.1) = (answersOf f part).map Sum.inl ∧ ∀ v ∈ answersOf f part, ∃ t, valV kvs (Sum.inl v) = some (.ref t) ∧ H t = some (.tup ((partOf f part v).map natV))
def spPartsOf (C : Addr) : Sp := fun vs H Q _ => ∃ (a pa bs : Addr) (ns : List Str) (tbl : List (List Int)) (x q : Str) (of : List Str) (part : List Nat), vs = [.ref a, .ref pa, .str q] ∧ SeaAt H C a ns tbl x of bs ∧ PartAt H pa tbl.length part ∧ q ∈ ns ∧
  ∀ H' d, Same H H' → H d = none → PartsAt H' d (says ns tbl q) part → Q (.ref d) H'
def spWhole (C : Addr) : Sp := fun vs H Q _ => ∃ (a bs : Addr) (ns : List Str) (tbl : List (List Int)) (x : Str) (of : List Str), vs = [.ref a] ∧ SeaAt H C a ns tbl x of bs ∧ ∀ H' p, Same H H' → PartAt H' p tbl.length (List.range tbl.length) → Q (.ref p) H'
theorem scWh : FnScope ["self"] ["self"] (defScope sWhole) := ⟨rfl, rfl, rfl, by decide +kernel, rfl, by decide +kernel, by decide +kernel⟩
section
variable {P : Program} {w : World} {K : PySem.W.Frag} {mg : Str → Option Value} {base : Heap} {f C CT fR : Addr} {fd fdR : FuncData}
theorem ok_sinit (F : Fun K "__init__" "Search.__init__" sSInit f fd) (S : SeaC K C) (T : TabC K CT) (FR : Fun K "rows" "Table.rows" sRowsM fR fdR) (mR : Meth K CT "rows" fR) (GR : FnOk P w K mg base CX0 2 fR fdR ["self"] (spRowsM CT)) : FnOk P w K mg base CX0 3 f fd NSi (spSInit CT C) := by
  have b := FR.binds (ps := ["self"]) fun _ _ _ _ _ _ us hl => match us, hl with | [_], _ => rfl
  refine F.ok scSi (fun vs H Q E h => by obtain ⟨p, dx, t, x, of, wt, ns, tbl, e, _⟩ := h; rw [e]; rfl) fun cdv A outer s H vs Q E hr hsp => ?_
  obtain ⟨p, dx, t, x, of, wt, ns, tbl, rfl, hp, tab, nd, nsh, tsh, hq⟩ := hsp
  refine ⟨_, pss_cons (ps_fld (pv 0) (pe_meth0 (pv 1) T.cl mR GR hr b .nil pass0 rfl) rfl) (pss_cons (ps_fld (pv 0) (pv 2) rfl) (pss_cons (ps_fld (pv 0) (pv 3) rfl) (pss_cons (ps_fld (pv 0) (pv 4) rfl) (pss_one (ps_fld (pv 0) pe_dnewT rfl))))), ?_⟩
  obtain ⟨dx2, qa, ra, ha, hqa, hra⟩ := id tab.ex
  refine ⟨_, rfl, t, dx2, _, rfl, ha, rfl, ?_⟩
  unfold tNil
  show spRowsM CT _ _ _ _
  refine ⟨t, ns, tbl, rfl, tab, nd, nsh, tsh, fun H1 rL as nrL orL R1 fresh s1 => ?_⟩
  refine ⟨_, rfl, p, C, dx, _, rfl, s1 _ _ hp, S.cl, S.nR, (by show 0 < 1000; omega), ?_⟩
  refine ⟨_, rfl, _, rfl, p, C, dx, _, rfl, upd_same, S.cl, S.nA, (by show 1 < 1000; omega), ?_⟩
  refine ⟨_, rfl, _, rfl, p, C, dx, _, rfl, upd_same, S.cl, S.nO, (by show 2 < 1000; omega), ?_⟩
  refine ⟨_, rfl, _, rfl, p, C, dx, _, rfl, upd_same, S.cl, S.nW, (by show 3 < 1000; omega), ?_⟩
  rw [upd_upd, upd_upd, upd_upd]
  intro bs nb
  have nbp : bs ≠ p := fun z => by rw [z, upd_same] at nb; cases nb
  have nb1 : H1 bs = none := by rw [upd_ne nbp] at nb; exact nb
  refine ⟨_, rfl, p, C, dx, _, rfl, by rw [upd_ne nbp.symm, upd_same], S.cl, S.nB, (by show 4 < 1000; omega), ?_⟩
  have keep : ∀ {b : Addr} {o : HO} {u v : HO}, b ≠ p → H1 b = some o → upd (upd (upd H1 p u) bs (.dT [])) p v b = some o := fun nbp2 e => by
    rw [upd_ne nbp2, upd_ne (ne_of_none e nb1), upd_ne nbp2]; exact e
  have np : ∀ {b : Addr} {o : HO}, H1 b = some o → (∀ C dx fs, o ≠ .ins C dx fs) → b ≠ p := fun e no z => by
    rw [z, s1 _ _ hp] at e; exact no _ _ _ (Option.some.inj e).symm
  refine hq _ rL bs as nrL (s1.free nb1) upd_same (keep (np orL fun _ _ _ z => by cases z) orL) (Paired.mapP R1 fun a vs h => ⟨keep (np h.1 fun _ _ _ z => by cases z) h.1, h.2⟩) (by rw [upd_ne nbp, upd_same]) fun b o nbp2 e => keep nbp2 (s1 _ _ e)
theorem ok_whole (F : Fun K "whole" "Search.whole" sWhole f fd) (S : SeaC K C) (gT : mg "tuple" = none) (gR : mg "range" = none) (gN : mg "len" = none) : FnOk P w K mg base CX0 1 f fd ["self"] (spWhole C) := by
  refine F.ok scWh (fun vs H Q E h => by obtain ⟨a, bs, ns, tbl, x, of, e, _⟩ := h; rw [e]; rfl) fun cdv A outer s H vs Q E hr hsp => ?_
  obtain ⟨a, bs, ns, tbl, x, of, rfl, sea, hq⟩ := hsp
  obtain ⟨dx, rL, oL, as, h1, h2, h3, h4⟩ := sea.ex
  have la : as.length = tbl.length := Paired.length h3
  have sh := sea.sh
  refine ⟨_, pss_one (ps_ret (pe_tupRg rfl rfl gT (prg_1 rfl gR (pe_callB (r := _) call_len rfl gN boot_len (pa_cons (pe_fld (pv 0) rfl) pa_nil))))), ?_⟩
  refine ⟨_, rfl, a, C, dx, _, _, rfl, h1, S.cl, S.nR, rfl, ?_⟩
  refine ⟨_, tbl.length, rfl, .inl ⟨_, SqL.of h2, by rw [List.length_map, la]⟩, _, rfl, RgOk.of_le (by omega) (by omega) (by omega) (by omega), fun q nq => ?_⟩
  have e : rgV 0 (tbl.length : Int) = (List.range tbl.length).map natV := by
    unfold rgV
    have : ((tbl.length : Int) - 0).toNat = tbl.length := by omega
    rw [this]
    refine List.map_congr_left fun i _ => ?_
    show V.int (0 + (i : Int)) = V.int (i : Int)
    rw [Int.zero_add]
  rw [e]
  exact hq _ q (same_new nq) ⟨upd_same, by rw [List.length_range]; exact sh, fun i hi => List.mem_range.mp hi⟩
end
end L2.TB
/-! parts_of -/
namespace L2.TB
open PySem PySem.Spec PyProof.Rows
abbrev NPo : List Str := ["self", "part", "question", "lists", "index", "answer"]
theorem scPo : FnScope NPo ["self", "part", "question"] (defScope sPartsOf) := ⟨rfl, rfl, rfl, by decide +kernel, rfl, by decide +kernel, by decide +kernel⟩
/-- the lists behind the rows p -/
structure LotsAt (H1 H : Hp) (D : Addr) (f : Nat → Int) (p : List Nat) (kvs : List (Key × V)) : Prop where
  d : H D = some (.dK kvs)
  ks : kvs.map (·.1) = (answersOf f p).map Sum.inl
  at_ : ∀ v ∈ answersOf f p, ∃ t, valV kvs (Sum.inl v) = some (.ref t) ∧ H t = some (.lst ((partOf f p v).map natV)) ∧ H1 t = none ∧ t ≠ D
theorem ans_snoc (f : Nat → Int) (p : List Nat) (i : Nat) : answersOf f (p ++ [i]) = if f i ∈ answersOf f p then answersOf f p else answersOf f p ++ [f i] := by
  unfold answersOf
  rw [List.map_append]
  exact once_snoc _ _
theorem ans_len (f : Nat → Int) (p : List Nat) : (answersOf f p).length ≤ p.length := by
  have z := once_len (p.map f)
  rw [List.length_map] at z
  exact z
theorem val_none_of {kvs : List (Key × V)} {k : Key} (h : k ∉ kvs.map (·.1)) : valV kvs k = none := by
  induction kvs with
  | nil => rfl
  | cons e r ih =>
    rw [List.map_cons, List.mem_cons, not_or] at h
    rw [valV_neg (fun z => h.1 z.symm)]
    exact ih h.2
theorem natV_inj {l r : List Nat} (h : l.map natV = r.map natV) : l = r := by
  induction l generalizing r with
  | nil => cases r with
    | nil => rfl
    | cons _ _ => cases h
  | cons a l ih => cases r with
    | nil => cases h
    | cons b r =>
      rw [List.map_cons, List.map_cons, List.cons.injEq] at h
      have e : (a : Int) = (b : Int) := V.int.inj h.1
      rw [ih h.2, Int.ofNat.inj e]
/-- lists of unlike answers stand apart -/
theorem lots_apart {H1 H : Hp} {D : Addr} {f : Nat → Int} {p : List Nat} {kvs : List (Key × V)} (L : LotsAt H1 H D f p kvs) {u v : Int} {t s : Addr} (hu : u ∈ answersOf f p) (hv : v ∈ answersOf f p) (et : H t = some (.lst ((partOf f p u).map natV))) (es : H s = some (.lst ((partOf f p v).map natV))) (ne : u ≠ v) : t ≠ s := by
  rintro rfl
  rw [et] at es
  have e := natV_inj (HO.lst.inj (Option.some.inj es))
  have z := part_some hu
  cases q : partOf f p u with
  | nil => exact z q
  | cons i r =>
    have m1 : i ∈ partOf f p u := by rw [q]; simp
    have m2 : i ∈ partOf f p v := by rw [← e]; exact m1
    exact ne ((of_decide_eq_true (List.mem_filter.mp m1).2).symm.trans (of_decide_eq_true (List.mem_filter.mp m2).2))
section
variable {P : Program} {w : World} {K : PySem.W.Frag} {mg : Str → Option Value} {base : Heap} {f C : Addr} {fd : FuncData}
theorem ok_partsOf (F : Fun K "parts_of" "Search.parts_of" sPartsOf f fd) (S : SeaC K C) (gT : mg "tuple" = none) : FnOk P w K mg base CX0 1 f fd ["self", "part", "question"] (spPartsOf C) := by
  refine F.ok scPo (fun vs H Q E h => by obtain ⟨a, pa, bs, ns, tbl, x, q, of, part, e, _⟩ := h; rw [e]; rfl) fun cdv A outer s H vs Q E hr hsp => ?_
  obtain ⟨a, pa, bs, ns, tbl, x, q, of, part, rfl, sea, ⟨hpa, shp, below⟩, qin, hq⟩ := hsp
  obtain ⟨dx, rL, oL, as, h1, h2, h3, h4⟩ := sea.ex
  have la : as.length = tbl.length := Paired.length h3
  have nd := scPo.nd
  have nd_ := sea.nd
  have hu := hu_of hr
  let g := says ns tbl q
  refine ⟨_, pss_cons (ps_set (i := 3) nd rfl (Or.inr rfl) pe_dnewK)
    (pss_cons (ps_for PassesOwn.never rfl (pi_seq (pv 1)) (pg_name (i := 4) nd rfl (Or.inl rfl))
      (pss_one (ps_expr (pe_bm PySem.F.plainAttrs_list PySem.F.slot_list_append PySem.F.type_list_append mt_append
        (pe_setd (pv 3) (pe_dget hu (pe_ix (r := rIxL K) ix_list (pe_fld (pv 0) rfl) (pv 4) (fun _ _ => rfl)) (pv 2) (fun _ _ => rfl)) (pe_lst pa_nil) ⟨rfl, rfl, rfl, rfl⟩) (pa_cons (pv 4) pa_nil)))))
    (pss_one (ps_ret (pe_lock (pe_dc (own := [("answer", 5)]) (tt := tYes) (g := gName 5) (tk := tVar 5) (tv := tCB (rTupOf K) (tCons (tDGet (tVar 3) (tVar 5)) tNil)) rfl nd (pi_keys (pv 3)) (blkOk_by (N := NPo) (sc := defScope sPartsOf) (by decide +kernel))
      (fun _ _ _ _ _ => pg_name (i := 5) nd rfl (Or.inl rfl)) (fun _ _ _ _ _ => pts_nil) (fun _ _ _ _ _ => pv 5)
      (fun _ _ _ _ _ => pe_callTy (r := rTupOf K) call_tuple_of rfl gT boot_tuple' (pa_cons (pe_dget hu (pv 3) (pv 5) (fun _ _ => rfl)) pa_nil))))))), ?_⟩
  intro D nD
  refine ⟨_, rfl, for_seq (.inr rfl) (fun i σ H' => Same H H' ∧ (∃ kvs, LotsAt H H' D g (part.take i) kvs) ∧ ∃ s4, σ = [some (.ref a), some (.ref pa), some (.str q), some (.ref D), s4, none]) ⟨same_new nD, ⟨[], upd_same, by simp [answersOf, onceZ], fun v hv => by simp [answersOf, onceZ] at hv⟩, _, rfl⟩ (fun i σ H' _ h => h.1 _ _ hpa) ?_ ?_⟩
  · rintro i y σ H2 ey ⟨s2, ⟨kvs, L⟩, s4, rfl⟩
    rw [List.getElem?_map] at ey
    obtain ⟨r, er, rfl⟩ := Option.map_eq_some_iff.mp ey
    have lt : i < part.length := (List.getElem?_eq_some_iff.mp er).1
    have rin : r < tbl.length := below r (List.mem_of_getElem? er)
    obtain ⟨t, et⟩ : ∃ t, as[r]? = some t := ⟨as[r]'(by omega), List.getElem?_eq_getElem _⟩
    obtain ⟨vs, ev, ot, lv⟩ := paired_get (h3.same s2) et
    have at0 : atI (as.map V.ref) ((r : Nat) : Int) = some (.ref t) := atI_nat (by rw [List.getElem?_map, et]; rfl)
    have eg : g r = av ns vs q := by
      show av ns (tbl.getD r []) q = _
      rw [List.getD_eq_getElem?_getD, ev]
      rfl
    have gv : DGet H2 t (.str q) (some (.int (g r))) := by
      have z := DGet.k (k := Sum.inr q) ot
      rw [dk_av nd_ lv qin, ← eg] at z
      exact z
    have lk : kvs.length < 1000 := by
      have z := congrArg List.length L.ks
      rw [List.length_map, List.length_map] at z
      have := ans_len g (part.take i)
      rw [List.length_take] at this
      omega
    have ep : part.take (i + 1) = part.take i ++ [r] := by rw [List.take_succ, er]; rfl
    refine ⟨.ref D, rfl, D, rfl, .inl ⟨kvs, .inl L.d⟩, ?_⟩
    refine ⟨_, rfl, a, C, dx, _, _, rfl, s2 _ _ h1, S.cl, S.nR, rfl, _, rfl, rL, _, _, _, rfl, rfl, SqL.of (s2 _ _ h2), at0, ?_⟩
    refine ⟨_, rfl, t, _, rfl, gv, ?_⟩
    refine ⟨(by show 0 ≤ sizeLine; omega), fun n nn => ?_⟩
    have sn := same_new (o := .lst []) nn
    have nD2 : n ≠ D := fun z => by rw [z, L.d] at nn; cases nn
    have stepA := ans_snoc g (part.take i) r
    rw [← ep] at stepA
    refine ⟨D, kvs, Sum.inl (g r), .ref n, rfl, rfl, sn _ _ L.d, by rw [sizeLine_eq]; omega, fun u hu2 => ?_, fun hn => ?_⟩
    · -- the answer has come before
      have old : g r ∈ answersOf g (part.take i) := by
        refine Classical.byContradiction fun z => ?_
        have : Sum.inl (g r) ∉ kvs.map (·.1) := by
          rw [L.ks]
          intro m
          obtain ⟨v, hv, e⟩ := List.mem_map.mp m
          exact z (by rw [← Sum.inl.inj e]; exact hv)
        rw [val_none_of this] at hu2
        cases hu2
      obtain ⟨l, el, ol, nl, lD⟩ := L.at_ _ old
      rw [el] at hu2
      obtain rfl : V.ref l = u := Option.some.inj hu2
      have ln : l ≠ n := ne_of_none ol nn
      refine ⟨.inl ⟨rfl, _, SqL.of (sn _ _ ol)⟩, _, rfl, l, _, _, rfl, rfl, sn _ _ ol, ?_, ?_, ⟨kvs, ?_, ?_, fun v hv => ?_⟩, _, rfl⟩
      · have z := List.length_filter_le (fun i => decide (g i = g r)) (part.take i)
        rw [List.length_map, sizeLine_eq]
        show (List.filter _ _).length < _
        rw [List.length_take] at z
        omega
      · exact fun b o e => by
          rw [upd_ne (ne_of_none e nl)]
          exact sn _ _ (s2 _ _ e)
      · rw [upd_ne lD.symm]; exact sn _ _ L.d
      · rw [L.ks, stepA, if_pos old]
      · rw [stepA, if_pos old] at hv
        by_cases hvr : v = g r
        · subst hvr
          refine ⟨l, el, ?_, nl, lD⟩
          rw [upd_same, ep, part_snoc, if_pos rfl, map_snoc]
        · obtain ⟨m, em, om, nm, mD⟩ := L.at_ v hv
          refine ⟨m, em, ?_, nm, mD⟩
          rw [upd_ne (lots_apart L hv old om ol hvr), ep, part_snoc, if_neg (fun z => hvr z.symm)]
          exact sn _ _ om
    · -- a new answer
      have new : g r ∉ answersOf g (part.take i) := by
        intro z
        obtain ⟨l, el, _⟩ := L.at_ _ z
        rw [hn] at el
        cases el
      have out : Sum.inl (g r) ∉ kvs.map (·.1) := by
        rw [L.ks]
        intro m
        obtain ⟨v, hv, e⟩ := List.mem_map.mp m
        exact new (by rw [← Sum.inl.inj e]; exact hv)
      have nH : H n = none := s2.free nn
      refine ⟨.inl ⟨rfl, [], SqL.of (by rw [upd_ne nD2, upd_same])⟩, _, rfl, n, [], _, rfl, rfl, by rw [upd_ne nD2, upd_same], by rw [sizeLine_eq]; simp, ?_, ⟨putK kvs (Sum.inl (g r)) (.ref n), ?_, ?_, fun v hv => ?_⟩, _, rfl⟩
      · exact fun b o e => by
          rw [upd_ne (ne_of_none e nH), upd_ne (ne_of_none e nD)]
          exact sn _ _ (s2 _ _ e)
      · rw [upd_ne nD2.symm, upd_same]
      · rw [put_last out, map_snoc, L.ks, stepA, if_neg new, map_snoc]
      · rw [stepA, if_neg new, List.mem_append] at hv
        by_cases hvr : v = g r
        · subst hvr
          refine ⟨n, by rw [valV_put, if_pos rfl], ?_, nH, nD2⟩
          rw [upd_same, ep, part_snoc, if_pos rfl, part_none new]
          rfl
        · have hv2 : v ∈ answersOf g (part.take i) := hv.elim id fun z => absurd (by simpa using z) hvr
          obtain ⟨m, em, om, nm, mD⟩ := L.at_ v hv2
          refine ⟨m, by rw [valV_put, if_neg (fun z => hvr (Sum.inl.inj z))]; exact em, ?_, nm, mD⟩
          rw [upd_ne (ne_of_none om nn), upd_ne mD, ep, part_snoc, if_neg (fun z => hvr z.symm)]
          exact sn _ _ om
  · rintro σ H2 ⟨s2, ⟨kvs, L⟩, s4, rfl⟩
    rw [List.length_map, List.take_length] at L
    have lk : kvs.length < 1000 := by
      have z := congrArg List.length L.ks
      rw [List.length_map, List.length_map] at z
      have := ans_len g part
      omega
    have ndA : (answersOf g part).Nodup := once_nd _
    have ndK : (kvs.map (·.1)).Nodup := by
      rw [L.ks]
      exact ndA.map _ fun a b n e => n (Sum.inl.inj e)
    refine ⟨D, _, L.d, trivial, fun od => ⟨_, rfl, D, od, rfl, .inl ⟨kvs, upd_same, ?_⟩⟩⟩
    have oL : upd H2 D (.frz od (.dK kvs)) D = some (.frz od (.dK kvs)) := upd_same
    refine dc_made (kvs.map (·.1)) (by rw [List.length_map]; omega) ndK (fun i H' s lt => ⟨s _ _ oL, by rw [List.length_map] at lt; exact lt⟩) (fun H' s => ⟨s _ _ oL, by rw [List.length_map]; exact Nat.le_refl _⟩)
      (fun i y H' => ∃ t v, y = V.ref t ∧ (answersOf g part)[i]? = some v ∧ H' t = some (.tup ((partOf g part v).map natV))) ?_ ?_ ?_
    · rintro i y H3 H4 d l ⟨t, v, rfl, e1, e2⟩ od2 keep
      exact ⟨t, v, rfl, e1, keep _ _ (ne_of e2 od2 (by intro z; cases z)) e2⟩
    · rintro i x k H3 H4 Cn Nn ek s3 ⟨rfl, k2, x2, ek2, rfl⟩ yes
      rw [List.getElem?_map, ek2] at ek
      obtain rfl : k2 = k := Option.some.inj ek
      have eA : ((answersOf g part).map Sum.inl)[i]? = some k2 := by
        rw [← L.ks, List.getElem?_map, ek2]
        rfl
      rw [List.getElem?_map] at eA
      obtain ⟨v, ev, rfl⟩ := Option.map_eq_some_iff.mp eA
      obtain ⟨t, et, ot, nt, tD⟩ := L.at_ v (List.mem_of_getElem? ev)
      refine ⟨rfl, ?_⟩
      refine ⟨_, rfl, _, rfl, _, rfl, D, _, rfl, .inl ⟨kvs, Sum.inl v, .inr ⟨od, s3 _ _ oL⟩, rfl, et.symm⟩, t, _, rfl, .inl ⟨SqL.of (s3 _ _ (by rw [upd_ne tD]; exact ot)), fun l nl => ?_⟩⟩
      exact yes _ _ ⟨l, v, rfl, ev, upd_same⟩ (same_new nl)
    · intro H3 d kvs2 nd2 od2 ek2 hR s3
      obtain ⟨b1, s02⟩ := lock_off L.d s3
      have dD : d ≠ D := fun z => by rw [z, upd_same] at nd2; cases nd2
      have nd3 : H2 d = none := by rw [upd_ne dD] at nd2; exact nd2
      have ek3 : kvs2.map (·.1) = (answersOf g part).map Sum.inl := ek2.trans L.ks
      refine ⟨b1, hq _ d (s2.trans s02) (s2.free nd3) ⟨kvs2, by rw [upd_ne dD]; exact od2, ek3, fun v hv => ?_⟩⟩
      obtain ⟨j, hj, ej⟩ := List.getElem_of_mem hv
      have ev : (answersOf g part)[j]? = some v := by rw [List.getElem?_eq_getElem hj, ej]
      have e1 : (kvs2.map (·.1))[j]? = some (Sum.inl v) := by rw [ek3, List.getElem?_map, ev]; rfl
      rw [List.getElem?_map] at e1
      obtain ⟨⟨k, y⟩, e2, e3⟩ := Option.map_eq_some_iff.mp e1
      obtain rfl : k = Sum.inl v := e3
      obtain ⟨t, v2, rfl, e4, e5⟩ := hR j _ _ e2
      rw [ev] at e4
      obtain rfl := Option.some.inj e4
      refine ⟨t, valV_at (by rw [ek2]; exact ndK) e2, ?_⟩
      rw [upd_ne (fun z => by rw [z, b1] at e5; cases e5)]
      exact e5
end
end L2.TB
/-! the best that can be done with a part of the rows -/
namespace L2.TB
open PySem PySem.Spec PyProof.Rows
def maxZ : List Int → Int
  | [] => 0
  | a :: l => l.foldl (fun b c => if b < c then c else b) a
theorem maxZ_le : ∀ (l : List Int) (a : Int), a ≤ l.foldl (fun b c => if b < c then c else b) a ∧ (∀ y ∈ l, y ≤ l.foldl (fun b c => if b < c then c else b) a) ∧ (l.foldl (fun b c => if b < c then c else b) a = a ∨ l.foldl (fun b c => if b < c then c else b) a ∈ l)
  | [], a => ⟨Int.le_refl _, fun y h => by simp at h, .inl rfl⟩
  | c :: l, a => by
    rw [List.foldl_cons]
    obtain ⟨h1, h2, h3⟩ := maxZ_le l (if a < c then c else a)
    have st : a ≤ (if a < c then c else a) ∧ c ≤ (if a < c then c else a) := by split <;> omega
    refine ⟨Int.le_trans st.1 h1, fun y hy => ?_, ?_⟩
    · rcases List.mem_cons.mp hy with e | hy
      · rw [e]; exact Int.le_trans st.2 h1
      · exact h2 y hy
    · rcases h3 with h3 | h3
      · by_cases q : a < c
        · rw [if_pos q] at h3; right; rw [if_pos q, h3]; simp
        · rw [if_neg q] at h3; left; rw [if_neg q]; exact h3
      · right; exact List.mem_cons_of_mem _ h3
theorem maxZ_of {l : List Int} {m : Int} (hm : m ∈ l) (le : ∀ y ∈ l, y ≤ m) : maxZ l = m := by
  cases l with
  | nil => cases hm
  | cons a l =>
    obtain ⟨h1, h2, h3⟩ := maxZ_le l a
    have up : maxZ (a :: l) ≤ m := by
      rcases h3 with h | h
      · show List.foldl _ _ _ ≤ _
        rw [h]; exact le a (by simp)
      · exact le _ (List.mem_cons_of_mem _ h)
    have dn : m ≤ maxZ (a :: l) := by
      rcases List.mem_cons.mp hm with rfl | h
      · exact h1
      · exact h2 m h
    omega
/-- one more than the most, where all can be done -/
def costOf (cs : List (Option Int)) : Option Int := if none ∈ cs then none else some (1 + maxZ (cs.filterMap id))
def better (best : Option Int × Option Str) (q : Str) : Option Int → Option Int × Option Str
  | none => best
  | some c => match best.1 with
    | none => (some c, some q)
    | some b => if c < b then (some c, some q) else best
def stepQ (c : List Nat → Option Int) (sy : Str → Nat → Int) (part : List Nat) (best : Option Int × Option Str) (q : Str) : Option Int × Option Str :=
  if 1 < (answersOf (sy q) part).length then better best q (costOf ((answersOf (sy q) part).map fun v => c (partOf (sy q) part v))) else best
def bestN (sy : Str → Nat → Int) (x : Str) (of : List Str) : Nat → List Nat → Option Int × Option Str
  | 0, _ => (none, none)
  | n + 1, part => if (answersOf (sy x) part).length = 1 then (some 0, none) else of.foldl (stepQ (fun p => (bestN sy x of n p).1) sy part) (none, none)
def bestS (sy : Str → Nat → Int) (x : Str) (of : List Str) (part : List Nat) : Option Int × Option Str := bestN sy x of part.length part
theorem fold_same {α β : Type} {f g : α → β → α} : ∀ (l : List β) (a : α), (∀ a b, b ∈ l → f a b = g a b) → l.foldl f a = l.foldl g a
  | [], _, _ => rfl
  | b :: l, a, h => by
    rw [List.foldl_cons, List.foldl_cons, h a b (by simp)]
    exact fold_same l _ fun a b hb => h a b (List.mem_cons_of_mem _ hb)
theorem part_lt {f : Nat → Int} {part : List Nat} {v : Int} (h1 : 1 < (answersOf f part).length) (hv : v ∈ answersOf f part) : (partOf f part v).length < part.length := by
  obtain ⟨u, hu, ne⟩ : ∃ u ∈ answersOf f part, u ≠ v := by
    refine Classical.byContradiction fun z => ?_
    have all : ∀ u ∈ answersOf f part, u = v := fun u hu => Classical.byContradiction fun q => z ⟨u, hu, q⟩
    have nd : (answersOf f part).Nodup := once_nd _
    match q : answersOf f part, h1, nd, all with
    | [], h1, _, _ => simp at h1
    | [_], h1, _, _ => simp at h1
    | a :: b :: l, _, nd, all =>
      have e1 := all a (by simp)
      have e2 := all b (by simp)
      rw [List.nodup_cons] at nd
      exact nd.1 (by rw [e1, ← e2]; simp)
  have z := part_some hu
  obtain ⟨i, hi⟩ : ∃ i, i ∈ partOf f part u := by
    cases q : partOf f part u with
    | nil => exact absurd q z
    | cons i r => exact ⟨i, by simp⟩
  obtain ⟨ip, ei⟩ := List.mem_filter.mp hi
  have out : i ∉ partOf f part v := fun h => ne ((of_decide_eq_true ei).symm.trans (of_decide_eq_true (List.mem_filter.mp h).2))
  have le : (partOf f part v).length ≤ part.length := List.length_filter_le _ _
  rcases Nat.lt_or_eq_of_le le with h | h
  · exact h
  · exact absurd (by
      have e : partOf f part v = part := (List.filter_sublist (l := part) (p := fun i => decide (f i = v))).eq_of_length h
      rw [e]; exact ip) out
theorem bestN_nil (sy : Str → Nat → Int) (x : Str) (of : List Str) : ∀ n, bestN sy x of n [] = (none, none)
  | 0 => rfl
  | n + 1 => by
    have e : ∀ q, (answersOf (sy q) []).length = 0 := fun q => rfl
    have f : ∀ l : List Str, l.foldl (stepQ (fun p => (bestN sy x of n p).1) sy []) (none, none) = (none, none) := fun l => by
      induction l with
      | nil => rfl
      | cons q l ih =>
        rw [List.foldl_cons]
        have : stepQ (fun p => (bestN sy x of n p).1) sy [] (none, none) q = (none, none) := by
          unfold stepQ
          rw [if_neg (by rw [e q]; omega)]
        rw [this, ih]
    show (if (answersOf (sy x) []).length = 1 then _ else _) = _
    rw [if_neg (by rw [e x]; omega), f]
theorem step_same {c d : List Nat → Option Int} {sy : Str → Nat → Int} {part : List Nat} (h : ∀ p : List Nat, p.length < part.length → c p = d p) (b : Option Int × Option Str) (q : Str) : stepQ c sy part b q = stepQ d sy part b q := by
  unfold stepQ
  by_cases z : 1 < (answersOf (sy q) part).length
  · rw [if_pos z, if_pos z]
    congr 2
    exact List.map_congr_left fun v hv => h _ (part_lt z hv)
  · rw [if_neg z, if_neg z]
theorem bestN_eq (sy : Str → Nat → Int) (x : Str) (of : List Str) : ∀ (n m : Nat) (part : List Nat), part.length ≤ n → part.length ≤ m → bestN sy x of n part = bestN sy x of m part
  | 0, m, part, h, _ => by
    obtain rfl : part = [] := List.length_eq_zero_iff.mp (by omega)
    rw [bestN_nil, bestN_nil]
  | n + 1, 0, part, _, h => by
    obtain rfl : part = [] := List.length_eq_zero_iff.mp (by omega)
    rw [bestN_nil, bestN_nil]
  | n + 1, m + 1, part, h1, h2 => by
    show (if _ then _ else _) = (if _ then _ else _)
    by_cases z : (answersOf (sy x) part).length = 1
    · rw [if_pos z, if_pos z]
    · rw [if_neg z, if_neg z]
      exact fold_same _ _ fun b q _ => step_same (fun p hp => by rw [bestN_eq sy x of n m p (by omega) (by omega)]) b q
theorem bestS_eq (sy : Str → Nat → Int) (x : Str) (of : List Str) (part : List Nat) : bestS sy x of part = if (answersOf (sy x) part).length = 1 then (some 0, none) else of.foldl (stepQ (fun p => (bestS sy x of p).1) sy part) (none, none) := by
  have e : bestS sy x of part = bestN sy x of (part.length + 1) part := bestN_eq _ _ _ _ _ _ (Nat.le_refl _) (Nat.le_succ _)
  rw [e]
  show (if _ then _ else _) = _
  by_cases z : (answersOf (sy x) part).length = 1
  · rw [if_pos z, if_pos z]
  · rw [if_neg z, if_neg z]
    exact fold_same _ _ fun b q _ => step_same (fun p hp => by rw [bestN_eq sy x of part.length p.length p (by omega) (Nat.le_refl _)]; rfl) b q
/-! the parts of some rows: so many at most -/
def subsL : List Nat → List (List Nat)
  | [] => [[]]
  | a :: l => subsL l ++ (subsL l).map (a :: ·)
theorem subsL_mem : ∀ {l p : List Nat}, p.Sublist l → p ∈ subsL l := by
  intro l
  induction l with
  | nil => intro p h; rw [List.sublist_nil.mp h]; simp [subsL]
  | cons a l ih =>
    intro p h
    rw [subsL, List.mem_append]
    cases h with
    | cons _ h => exact .inl (ih h)
    | cons_cons _ h => exact .inr (List.mem_map.mpr ⟨_, ih h, rfl⟩)
theorem subsL_len : ∀ l : List Nat, (subsL l).length = 2 ^ l.length
  | [] => rfl
  | a :: l => by
    rw [subsL, List.length_append, List.length_map, subsL_len l, List.length_cons, Nat.pow_succ]
    omega
theorem nodup_le {α : Type} [DecidableEq α] : ∀ {l r : List α}, l.Nodup → (∀ x ∈ l, x ∈ r) → l.length ≤ r.length
  | [], _, _, _ => Nat.zero_le _
  | a :: l, r, nd, sub => by
    rw [List.nodup_cons] at nd
    have ih := nodup_le (l := l) (r := r.erase a) nd.2 fun x hx => (List.mem_erase_of_ne (fun z => nd.1 (by rw [← z]; exact hx))).mpr (sub x (List.mem_cons_of_mem _ hx))
    have e := List.length_erase_of_mem (sub a (by simp))
    have : 0 < r.length := List.length_pos_iff.mpr fun z => by have := sub a (by simp); rw [z] at this; cases this
    rw [List.length_cons]
    omega
end L2.TB
/-! what is known of the best; _cost_of -/
namespace L2.TB
open PySem PySem.Spec PyProof.Rows
def optZ : Option Int → V
  | none => .non
  | some z => .int z
def optS : Option Str → V
  | none => .non
  | some z => .str z
def keyP (part : List Nat) : List Key := part.map fun i => (Sum.inl (Int.ofNat i) : Key)
theorem keyP_kV (part : List Nat) : (keyP part).map kV = part.map natV := by
  unfold keyP
  rw [List.map_map]
  rfl
theorem keyP_inj {p q : List Nat} (h : keyP p = keyP q) : p = q := by
  refine natV_inj ?_
  rw [← keyP_kV, ← keyP_kV, h]
/-- what is known of the best is right -/
structure Memo (H : Hp) (bs : Addr) (sy : Str → Nat → Int) (x : Str) (of : List Str) (m : Nat) (kvs : List (List Key × V)) : Prop where
  at_ : H bs = some (.dT kvs)
  nd : (kvs.map (·.1)).Nodup
  of_ : ∀ k v, (k, v) ∈ kvs → ∃ (p : List Nat) (t : Addr), k = keyP p ∧ p.Sublist (List.range m) ∧ v = .ref t ∧ H t = some (.tup [optZ (bestS sy x of p).1, optS (bestS sy x of p).2])
def MemoAt (H : Hp) (bs : Addr) (sy : Str → Nat → Int) (x : Str) (of : List Str) (m : Nat) : Prop := ∃ kvs, Memo H bs sy x of m kvs
section
variable {H H' : Hp} {bs d : Addr} {sy : Str → Nat → Int} {x : Str} {of : List Str} {m : Nat} {kvs : List (List Key × V)} {part : List Nat} {v : V}
theorem Memo.few (M : Memo H bs sy x of m kvs) (hm : m ≤ 10) : kvs.length ≤ 1024 := by
  have z := nodup_le (l := kvs.map (·.1)) (r := (subsL (List.range m)).map keyP) M.nd fun k hk => by
    obtain ⟨⟨k2, v2⟩, h, rfl⟩ := List.mem_map.mp hk
    obtain ⟨p, t, e, s, _⟩ := M.of_ _ _ h
    exact List.mem_map.mpr ⟨p, subsL_mem s, e.symm⟩
  rw [List.length_map, List.length_map, subsL_len, List.length_range] at z
  exact Nat.le_trans z (Nat.pow_le_pow_right (n := 2) (by omega) hm)
theorem MemoAt.isT (M : MemoAt H bs sy x of m) : IsT H bs := by
  obtain ⟨kvs, M⟩ := M
  exact ⟨kvs, M.at_⟩
/-- what stands elsewhere may grow, and change where it is neither a tuple nor this -/
theorem MemoAt.keep (M : MemoAt H bs sy x of m) (h : ∀ b o, H b = some o → (b = bs ∨ ∃ l, o = .tup l) → H' b = some o) : MemoAt H' bs sy x of m := by
  obtain ⟨kvs, M⟩ := M
  refine ⟨kvs, h _ _ M.at_ (.inl rfl), M.nd, fun k v hk => ?_⟩
  obtain ⟨p, t, e1, e2, e3, e4⟩ := M.of_ k v hk
  exact ⟨p, t, e1, e2, e3, h _ _ e4 (.inr ⟨_, rfl⟩)⟩
theorem MemoAt.same (M : MemoAt H bs sy x of m) (s : Same H H') : MemoAt H' bs sy x of m := M.keep fun b o e _ => s b o e
theorem MemoAt.lock (M : MemoAt H bs sy x of m) {o u : HO} (hd : H d = some o) (n1 : ∀ l, o ≠ .dT l) (n2 : ∀ l, o ≠ .tup l) : MemoAt (upd H d u) bs sy x of m := M.keep fun b q e h => by
  rw [upd_ne]
  · exact e
  · rintro rfl
    rw [hd] at e
    obtain rfl := Option.some.inj e
    rcases h with rfl | ⟨l, rfl⟩
    · obtain ⟨kvs, M⟩ := M
      rw [M.at_] at hd
      exact n1 _ (Option.some.inj hd).symm
    · exact n2 _ rfl
theorem mem_of_val {κ : Type} [DecidableEq κ] : ∀ {kvs : List (κ × V)} {k : κ} {v : V}, valV kvs k = some v → (k, v) ∈ kvs
  | [], _, _, h => by simp [valV] at h
  | (j, y) :: r, k, v, h => by
    by_cases e : j = k
    · subst e
      have : valV ((j, y) :: r) j = some y := valV_pos rfl
      rw [this] at h
      obtain rfl := Option.some.inj h
      simp
    · rw [valV_neg e] at h
      exact List.mem_cons_of_mem _ (mem_of_val h)
theorem val_none_not {κ : Type} [DecidableEq κ] : ∀ {kvs : List (κ × V)} {k : κ}, valV kvs k = none → k ∉ kvs.map (·.1)
  | [], _, _ => by simp
  | (j, y) :: r, k, h => by
    intro z
    by_cases e : j = k
    · subst e
      have : valV ((j, y) :: r) j = some y := valV_pos rfl
      rw [this] at h
      cases h
    · rw [valV_neg e] at h
      rcases List.mem_cons.mp z with z | z
      · exact e z.symm
      · exact val_none_not h z
theorem put_new {κ : Type} [DecidableEq κ] {acc : List (κ × V)} {k : κ} {v : V} (h : k ∉ acc.map (·.1)) : putK acc k v = acc ++ [(k, v)] := by
  have no : ¬ ((acc.any fun e => decide (e.1 = k)) = true) := fun q => by
    obtain ⟨e, he, ee⟩ := List.any_eq_true.mp q
    exact h (of_decide_eq_true ee ▸ List.mem_map_of_mem (f := (·.1)) he)
  unfold putK
  rw [if_neg no]
theorem Memo.got (M : Memo H bs sy x of m kvs) (h : valV kvs (keyP part) = some v) : ∃ t, v = .ref t ∧ H t = some (.tup [optZ (bestS sy x of part).1, optS (bestS sy x of part).2]) := by
  obtain ⟨p, t, e1, _, e3, e4⟩ := M.of_ _ _ (mem_of_val h)
  rw [keyP_inj e1]
  exact ⟨t, e3, e4⟩
theorem put_mem {κ : Type} [DecidableEq κ] {kvs : List (κ × V)} {k j : κ} {y z : V} (h : (j, z) ∈ putK kvs k y) : (j, z) ∈ kvs ∨ (j = k ∧ z = y) := by
  unfold putK at h
  split at h
  · obtain ⟨e, he, q⟩ := List.mem_map.mp h
    by_cases c : e.1 = k
    · rw [if_pos c] at q
      cases q
      exact .inr ⟨c, rfl⟩
    · rw [if_neg c] at q
      rw [← q]
      exact .inl he
  · rcases List.mem_append.mp h with h | h
    · exact .inl h
    · have q : (j, z) = (k, y) := by simpa using h
      cases q
      exact .inr ⟨rfl, rfl⟩
theorem put_nd {κ : Type} [DecidableEq κ] {kvs : List (κ × V)} {k : κ} {y : V} (nd : (kvs.map (·.1)).Nodup) : ((putK kvs k y).map (·.1)).Nodup := by
  cases q : valV kvs k with
  | none =>
    have out := val_none_not q
    rw [put_new out, map_snoc, List.nodup_append]
    exact ⟨nd, by simp, fun a ha b hb e => out (by have : b = k := by simpa using hb
                                                   rw [← this, ← e]; exact ha)⟩
  | some v =>
    have yes : (kvs.any fun kv => decide (kv.1 = k)) = true := List.any_eq_true.mpr ⟨_, mem_of_val q, decide_eq_true rfl⟩
    have e : (putK kvs k y).map (·.1) = kvs.map (·.1) := by
      unfold putK
      rw [if_pos yes, List.map_map]
      refine List.map_congr_left fun a _ => ?_
      show (if a.1 = k then (a.1, y) else a).1 = a.1
      split <;> rfl
    rw [e]
    exact nd
theorem Memo.same (M : Memo H bs sy x of m kvs) (s : Same H H') : Memo H' bs sy x of m kvs := ⟨s _ _ M.at_, M.nd, fun k v hk => by
  obtain ⟨p, t, e1, e2, e3, e4⟩ := M.of_ k v hk
  exact ⟨p, t, e1, e2, e3, s _ _ e4⟩⟩
/-- one more is known -/
theorem Memo.put (M : Memo H bs sy x of m kvs) (sub : part.Sublist (List.range m)) {t : Addr} (ht : H t = some (.tup [optZ (bestS sy x of part).1, optS (bestS sy x of part).2])) : Memo (upd H bs (.dT (putK kvs (keyP part) (.ref t)))) bs sy x of m (putK kvs (keyP part) (.ref t)) := by
  have nb : ∀ {t : Addr} {l : List V}, H t = some (.tup l) → t ≠ bs := fun e z => by rw [z, M.at_] at e; cases e
  refine ⟨upd_same, put_nd M.nd, fun k v hk => ?_⟩
  rcases put_mem hk with hk | ⟨rfl, rfl⟩
  · obtain ⟨p, s, e1, e2, e3, e4⟩ := M.of_ k v hk
    exact ⟨p, s, e1, e2, e3, by rw [upd_ne (nb e4)]; exact e4⟩
  · exact ⟨part, t, rfl, sub, rfl, by rw [upd_ne (nb ht)]; exact ht⟩
end
abbrev NCo : List Str := ["self", "part", "costs", "index"]
theorem scCo : FnScope NCo ["self", "part", "costs"] (defScope sCostOf) := ⟨rfl, rfl, rfl, by decide +kernel, rfl, by decide +kernel, by decide +kernel⟩
def spCostOf (C : Addr) : Sp := fun vs H Q _ => ∃ (a c bs : Addr) (pt : V) (ns : List Str) (tbl : List (List Int)) (x : Str) (of : List Str) (cs : List (Option Int)), vs = [.ref a, pt, .ref c] ∧ SeaAt H C a ns tbl x of bs ∧ H c = some (.lst (cs.map optZ)) ∧ 0 < cs.length ∧ Q (optZ (costOf cs)) H
section
variable {P : Program} {w : World} {K : PySem.W.Frag} {mg : Str → Option Value} {base : Heap} {f C : Addr} {fd : FuncData}
theorem all_some : ∀ {cs : List (Option Int)}, none ∉ cs → cs.map optZ = (cs.filterMap id).map V.int
  | [], _ => rfl
  | none :: cs, h => absurd (by simp) h
  | some z :: cs, h => by
    show V.int z :: cs.map optZ = V.int z :: (cs.filterMap id).map V.int
    rw [all_some fun q => h (List.mem_cons_of_mem _ q)]
theorem inV_none : ∀ cs : List (Option Int), inV .non (cs.map optZ) = decide (none ∈ cs)
  | [] => rfl
  | none :: cs => by
    rw [decide_eq_true (by simp)]
    rfl
  | some z :: cs => by
    show (eqV .non (.int z) || inV .non (cs.map optZ)) = _
    rw [inV_none cs]
    by_cases h : none ∈ cs
    · rw [decide_eq_true h, decide_eq_true (List.mem_cons_of_mem _ h)]; rfl
    · rw [decide_eq_false h, decide_eq_false (by simpa using h)]; rfl
theorem flat_opt : ∀ cs : List (Option Int), (cs.map optZ).all flatV = true
  | [] => rfl
  | none :: cs => flat_opt cs
  | some _ :: cs => flat_opt cs
theorem ok_costOf (F : Fun K "_cost_of" "Search._cost_of" sCostOf f fd) (S : SeaC K C) (gM : mg "max" = none) : FnOk P w K mg base CX0 1 f fd ["self", "part", "costs"] (spCostOf C) := by
  refine F.ok scCo (fun vs H Q E h => by obtain ⟨a, c, bs, pt, ns, tbl, x, of, cs, e, _⟩ := h; rw [e]; rfl) fun cdv A outer s H vs Q E hr hsp => ?_
  obtain ⟨a, c, bs, pt, ns, tbl, x, of, cs, rfl, sea, hc, pos, hq⟩ := hsp
  obtain ⟨dx, rL, oL, as, h1, h2, h3, h4⟩ := sea.ex
  refine ⟨_, pss_cons (ps_if (pt_cmpR op_in_seq pe_non (pv 2) rfl) (pss_one (ps_ret pe_non)) pss_nil)
    (pss_cons (ps_if (pt_cmp (pc_isN (pe_fld (pv 0) rfl))) (pss_one (ps_ret (pe_op op_add pe_int (pe_callB (r := rMax K) (cr_max rfl) rfl gM boot_max (pa_cons (pv 2) pa_nil))))) pss_nil) pss_never), ?_⟩
  have ndn := inV_none cs
  refine ⟨_, rfl, c, _, rfl, .inl (SqL.of hc), rfl, flat_opt cs, _, rfl, ?_⟩
  rw [if_neg Bool.false_ne_true, ndn]
  by_cases h : none ∈ cs
  · rw [decide_eq_true h]
    refine iteT ?_
    have e : costOf cs = none := by unfold costOf; rw [if_pos h]
    rw [e] at hq
    exact hq
  · rw [decide_eq_false h]
    refine iteF ?_
    have e : costOf cs = some (1 + maxZ (cs.filterMap id)) := by unfold costOf; rw [if_neg h]
    rw [e] at hq
    have ea := all_some h
    rw [ea] at hc
    have ln : (cs.filterMap id).length = cs.length := by
      have z := congrArg List.length ea
      rw [List.length_map, List.length_map] at z
      exact z.symm
    refine ⟨_, rfl, a, C, dx, _, _, rfl, h1, S.cl, S.nW, rfl, _, rfl, iteT ?_⟩
    refine ⟨_, rfl, c, _, rfl, SqL.of hc, by omega, fun m hm le => ?_⟩
    refine ⟨1, m, rfl, rfl, ?_⟩
    rw [maxZ_of hm le] at hq
    exact hq
end
end L2.TB
/-! _best_question, where the cost of lesser parts is known -/
namespace L2.TB
open PySem PySem.Spec PyProof.Rows
def spCost (C : Addr) (n : Nat) : Sp := fun vs H Q _ => ∃ (a pa bs : Addr) (ns : List Str) (tbl : List (List Int)) (x : Str) (of : List Str) (part : List Nat), vs = [.ref a, .ref pa] ∧ SeaAt H C a ns tbl x of bs ∧ MemoAt H bs (says ns tbl) x of tbl.length ∧ H pa = some (.tup (part.map natV)) ∧ part.Sublist (List.range tbl.length) ∧ 0 < part.length ∧ part.length ≤ n ∧ tbl.length ≤ 10 ∧
  ∀ H', ButB bs H H' → MemoAt H' bs (says ns tbl) x of tbl.length → Q (optZ (bestS (says ns tbl) x of part).1) H'
def foldQ (sy : Str → Nat → Int) (x : Str) (of : List Str) (part : List Nat) (l : List Str) : Option Int × Option Str := l.foldl (stepQ (fun p => (bestS sy x of p).1) sy part) (none, none)
def spBestQ (C : Addr) (n : Nat) : Sp := fun vs H Q _ => ∃ (a pa bs : Addr) (ns : List Str) (tbl : List (List Int)) (x : Str) (of : List Str) (part : List Nat), vs = [.ref a, .ref pa] ∧ SeaAt H C a ns tbl x of bs ∧ MemoAt H bs (says ns tbl) x of tbl.length ∧ H pa = some (.tup (part.map natV)) ∧ part.Sublist (List.range tbl.length) ∧ part.length ≤ n + 1 ∧ tbl.length ≤ 10 ∧
  ∀ H' t, ButB bs H H' → MemoAt H' bs (says ns tbl) x of tbl.length → H' t = some (.tup [optZ (foldQ (says ns tbl) x of part of).1, optS (foldQ (says ns tbl) x of part of).2]) → Q (.ref t) H'
abbrev NBq : List Str := ["self", "part", "best", "question", "parts", "cost", "answer"]
theorem scBq : FnScope NBq ["self", "part"] (defScope sBestQ) := ⟨rfl, rfl, rfl, by decide +kernel, rfl, by decide +kernel, by decide +kernel⟩
theorem fold_snoc (sy : Str → Nat → Int) (x : Str) (of : List Str) (part : List Nat) (l : List Str) (q : Str) : foldQ sy x of part (l ++ [q]) = stepQ (fun p => (bestS sy x of p).1) sy part (foldQ sy x of part l) q := by
  unfold foldQ
  rw [List.foldl_append]
  rfl
theorem range_below {part : List Nat} {m : Nat} (h : part.Sublist (List.range m)) : part.length ≤ m ∧ ∀ i ∈ part, i < m := by
  refine ⟨?_, fun i hi => List.mem_range.mp (h.subset hi)⟩
  have z := h.length_le
  rw [List.length_range] at z
  exact z
section
variable {P : Program} {w : World} {K : PySem.W.Frag} {mg : Str → Option Value} {base : Heap} {f C fP fO fC : Addr} {fd fdP fdO fdC : FuncData} {n k : Nat}
theorem ok_bestQ (F : Fun K "_best_question" "Search._best_question" sBestQ f fd) (S : SeaC K C) (FP : Fun K "parts_of" "Search.parts_of" sPartsOf fP fdP) (mP : Meth K C "parts_of" fP) (GP : FnOk P w K mg base CX0 1 fP fdP ["self", "part", "question"] (spPartsOf C))
    (FO : Fun K "_cost_of" "Search._cost_of" sCostOf fO fdO) (mO : Meth K C "_cost_of" fO) (GO : FnOk P w K mg base CX0 1 fO fdO ["self", "part", "costs"] (spCostOf C)) (FC : Fun K "cost" "Search.cost" sCost fC fdC) (mC : Meth K C "cost" fC) (hk : 1 ≤ k) (GC : FnOk P w K mg base CX0 k fC fdC ["self", "part"] (spCost C n)) (gN : mg "len" = none) :
    FnOk P w K mg base CX0 (k + 1) f fd ["self", "part"] (spBestQ C n) := by
  have bP := FP.binds (ps := ["self", "part", "question"]) fun _ _ _ _ _ _ us hl => match us, hl with | [_, _, _], _ => rfl
  have bO := FO.binds (ps := ["self", "part", "costs"]) fun _ _ _ _ _ _ us hl => match us, hl with | [_, _, _], _ => rfl
  have bC := FC.binds (ps := ["self", "part"]) fun _ _ _ _ _ _ us hl => match us, hl with | [_, _], _ => rfl
  refine F.ok scBq (fun vs H Q E h => by obtain ⟨a, pa, bs, ns, tbl, x, of, part, e, _⟩ := h; rw [e]; rfl) fun cdv A outer s H vs Q E hr hsp => ?_
  obtain ⟨a, pa, bs, ns, tbl, x, of, part, rfl, sea, memo, hpa, sub, lp, few, hq⟩ := hsp
  obtain ⟨dx, rL, oL, as, h1, h2, h3, h4⟩ := sea.ex
  obtain ⟨lm, below⟩ := range_below sub
  have nd := scBq.nd
  have hu := hu_of (hr.mono hk)
  refine ⟨_, pss_cons (ps_set (i := 2) nd rfl (Or.inl rfl) (pe_tup (pa_cons pe_non (pa_cons pe_non pa_nil))))
    (pss_cons (ps_for PassesOwn.never rfl (pi_seq (pe_fld (pv 0) rfl)) (pg_name (i := 3) nd rfl (Or.inl rfl))
      (pss_cons (ps_set (i := 4) nd rfl (Or.inr rfl) (pe_meth (pv 0) S.cl mP GP (hr.mono hk) bP .nil pass0 (pa_cons (pv 1) (pa_cons (pv 3) pa_nil))))
      (pss_one (ps_if (pt_cmp (pc_gt (pe_callB call_lenD rfl gN boot_len (pa_cons (pv 4) pa_nil)) pe_int))
        (pss_cons (ps_set (i := 5) nd rfl (Or.inl rfl) (pe_meth (pv 0) S.cl mO GO (hr.mono hk) bO .nil pass0 (pa_cons (pv 1) (pa_cons (pe_lock (pe_lc (own := [("answer", 6)]) (tt := tYes) (g := gName 6) rfl nd (pi_keys (pv 4)) (blkOk_by (N := NBq) (sc := defScope sBestQ) (by decide +kernel))
            (fun _ _ _ _ _ => pg_name (i := 6) nd rfl (Or.inl rfl)) (fun _ _ _ _ _ => pts_nil) (fun _ _ _ _ _ => pe_meth (pv 0) S.cl mC GC hr bC .nil pass0 (pa_cons (pe_dget hu (pv 4) (pv 6) (fun _ _ => rfl)) pa_nil)))) pa_nil))))
        (pss_one (ps_if (pw_and (pt_cmp (pc_notN (pv 5))) (pw_and1 (pw_or (pt_cmp (pc_isN (pe_ix (r := rIxT K) ix_tup (pv 2) pe_int (fun _ _ => rfl)))) (pw_or1 (pt_cmp (pc_lt (pv 5) (pe_ix (r := rIxT K) ix_tup (pv 2) pe_int (fun _ _ => rfl)))))).pt)).pt
          (pss_one (ps_set (i := 2) nd rfl (Or.inl rfl) (pe_tup (pa_cons (pv 5) (pa_cons (pv 3) pa_nil))))) pss_nil)))
        pss_nil))))
    (pss_one (ps_ret (pv 2)))), ?_⟩
  have isT := memo.isT
  have nB : ∀ {b : Addr} {o : HO}, (∀ l, o ≠ .dT l) → H b = some o → b ≠ bs := fun no e z => by
    obtain ⟨kvs, et⟩ := isT
    rw [z, et] at e
    exact no _ (Option.some.inj e).symm
  have naB := nB (fun _ z => by cases z) h1
  have npB := nB (fun _ z => by cases z) hpa
  have noB := nB (fun _ z => by cases z) h4
  refine ⟨(by show 2 ≤ sizeLine; decide), fun t0 nt0 => ?_⟩
  have sd := same_new (o := .tup [.non, .non]) nt0
  refine ⟨_, rfl, a, C, dx, _, _, rfl, sd _ _ h1, S.cl, S.nO, rfl, for_seq (.inl rfl) (fun i σ H' => H' oL = some (.lst (of.map V.str)) ∧ ButB bs H H' ∧ MemoAt H' bs (says ns tbl) x of tbl.length ∧ ∃ bt s3 s4 s5, σ = [some (.ref a), some (.ref pa), some (.ref bt), s3, s4, s5, none] ∧ H' bt = some (.tup [optZ (foldQ (says ns tbl) x of part (of.take i)).1, optS (foldQ (says ns tbl) x of part (of.take i)).2]))
    ⟨sd _ _ h4, .of sd, memo.same sd, t0, _, _, _, rfl, upd_same⟩ (fun i σ H' _ h => h.1) ?_ ?_⟩
  · rintro i y σ H2 ey ⟨oO, B2, M2, bt, s3, s4, s5, rfl, ob⟩
    rw [List.getElem?_map] at ey
    obtain ⟨q, eq_, rfl⟩ := Option.map_eq_some_iff.mp ey
    have qin : q ∈ ns := sea.sub q (List.mem_of_getElem? eq_)
    have sea2 := sea.but isT B2
    have ha2 := B2 _ _ naB h1
    have ep : of.take (i + 1) = of.take i ++ [q] := by rw [List.take_succ, eq_]; rfl
    have fs := fold_snoc (says ns tbl) x of part (of.take i) q
    rw [← ep] at fs
    refine ⟨_, rfl, a, dx, _, rfl, ha2, rfl, _, rfl, _, rfl, a, pa, bs, ns, tbl, x, q, of, part, rfl, sea2, ⟨B2 _ _ npB hpa, by omega, below⟩, qin, fun H3 d k3 nd3 P3 => ?_⟩
    obtain ⟨kvs, od, ek, ev⟩ := P3
    have lk : kvs.length = (answersOf (says ns tbl q) part).length := by
      have z := congrArg List.length ek
      rw [List.length_map, List.length_map] at z
      exact z
    have M3 := M2.same k3
    have B3 := B2.trans (.of k3)
    have la3 := ans_len (says ns tbl q) part
    refine ⟨_, rfl, d, kvs, rfl, od, _, _, rfl, rfl, ?_⟩
    by_cases big : 1 < (answersOf (says ns tbl q) part).length
    · refine ⟨true, congrArg V.bl (decide_eq_true (by show (1 : Int) < ((kvs.length : Nat) : Int); omega)), iteT ?_⟩
      have isT3 := M3.isT
      have n3 : ∀ {b : Addr} {o : HO}, (∀ l, o ≠ .dT l) → H3 b = some o → b ≠ bs := fun no e z => by
        obtain ⟨l, et⟩ := isT3
        rw [z, et] at e
        exact no _ (Option.some.inj e).symm
      have dB := n3 (fun _ z => by cases z) od
      refine ⟨_, rfl, a, dx, _, rfl, B3 _ _ naB h1, rfl, _, rfl, d, _, od, trivial, fun odj => ⟨_, rfl, d, odj, rfl, .inl ⟨kvs, upd_same, fun D nD => ?_⟩⟩⟩
      have memoL : MemoAt (upd H3 d (.frz odj (.dK kvs))) bs (says ns tbl) x of tbl.length := M3.lock od (fun _ z => by cases z) (fun _ z => by cases z)
      have B0L : ButB bs H2 (upd H3 d (.frz odj (.dK kvs))) := fun b o nb e => by rw [upd_ne (ne_of_none e nd3)]; exact k3 _ _ e
      have oLd : upd H3 d (.frz odj (.dK kvs)) d = some (.frz odj (.dK kvs)) := upd_same
      refine lc_it walk_keys (fun j H' => H' D = some (.lst (((answersOf (says ns tbl q) part).take j).map fun v => optZ (bestS (says ns tbl) x of (partOf (says ns tbl q) part v)).1)) ∧ ButB bs (upd H3 d (.frz odj (.dK kvs))) H' ∧ MemoAt H' bs (says ns tbl) x of tbl.length)
        ⟨upd_same, .of (same_new nD), memoL.same (same_new nD)⟩ (fun j H' _ h => h.2.1 _ _ dB oLd) ?_ ?_
      · rintro j y H4 H5 lj ⟨oD, B4, M4⟩ ⟨rfl, k0, v0, ekv, rfl⟩
        have eA : ((answersOf (says ns tbl q) part).map Sum.inl)[j]? = some k0 := by
          rw [← ek, List.getElem?_map, ekv]
          rfl
        rw [List.getElem?_map] at eA
        obtain ⟨v, evj, rfl⟩ := Option.map_eq_some_iff.mp eA
        have vin := List.mem_of_getElem? evj
        obtain ⟨t, et, ot⟩ := ev v vin
        have tB := n3 (fun _ z => by cases z) ot
        have td : t ≠ d := fun z => by rw [z, od] at ot; cases ot
        have ot4 := B4 _ _ tB (by rw [upd_ne td]; exact ot)
        have B24 := B0L.trans B4
        have ltp := part_lt big vin
        refine ⟨rfl, ?_⟩
        refine ⟨_, rfl, a, dx, _, rfl, B24 _ _ naB ha2, rfl, _, rfl, _, rfl, d, _, rfl, .inl ⟨kvs, Sum.inl v, .inr ⟨odj, B4 _ _ dB oLd⟩, rfl, et.symm⟩, ?_⟩
        refine ⟨a, t, bs, ns, tbl, x, of, partOf (says ns tbl q) part v, rfl, sea2.but M2.isT B24, M4, ot4, (List.filter_sublist).trans sub, List.length_pos_iff.mpr (part_some vin), by omega, few, fun H6 B6 M6 => ?_⟩
        have nDb : D ≠ bs := fun z => by
          obtain ⟨l, et⟩ := memoL.isT
          rw [z, et] at nD
          cases nD
        have oD6 := B6 _ _ nDb oD
        refine ⟨_, oD6, ?_, ?_, ?_, ?_⟩
        · rw [List.length_map, List.length_take, sizeLine_eq]; omega
        · rw [upd_same, List.take_succ, evj, List.map_append]
          rfl
        · exact fun b o nb e => by
            rw [upd_ne (ne_of_none e nD)]
            exact B6 _ _ nb (B4 _ _ nb e)
        · exact M6.lock oD6 (fun _ z => by cases z) (fun _ z => by cases z)
      · rintro H6 ⟨oD, B6, M6⟩
        rw [lk, List.take_length] at oD
        have od6 := B6 _ _ dB oLd
        have M7 : MemoAt (upd H6 d (.dK kvs)) bs (says ns tbl) x of tbl.length := M6.lock od6 (fun _ z => by cases z) (fun _ z => by cases z)
        have B37 : ButB bs H3 (upd H6 d (.dK kvs)) := fun b o nb e => by
          by_cases hb : b = d
          · rw [hb] at e ⊢
            rw [upd_same, ← od, e]
          · rw [upd_ne hb]
            exact B6 _ _ nb (by rw [upd_ne hb]; exact e)
        have B7 := B3.trans B37
        have Dd : D ≠ d := fun z => by rw [z, upd_same] at nD; cases nD
        have ob7 : upd H6 d (.dK kvs) bt = _ := (ButB.trans (.of k3) B37) _ _ (fun z => by obtain ⟨l, et⟩ := M2.isT; rw [z, et] at ob; cases ob) ob
        have oO7 := (ButB.trans (.of k3) B37) _ _ noB oO
        have oD7 : upd H6 d (.dK kvs) D = some (.lst (((answersOf (says ns tbl q) part).map fun v => (bestS (says ns tbl) x of (partOf (says ns tbl q) part v)).1).map optZ)) := by
          rw [upd_ne Dd, oD, List.map_map]
          rfl
        refine ⟨od6, ?_⟩
        have pos : 0 < ((answersOf (says ns tbl q) part).map fun v => (bestS (says ns tbl) x of (partOf (says ns tbl q) part v)).1).length := by rw [List.length_map]; omega
        refine ⟨a, D, bs, _, ns, tbl, x, of, _, rfl, sea.but isT B7, oD7, pos, ?_⟩
        have st : foldQ (says ns tbl) x of part (of.take (i + 1)) = better (foldQ (says ns tbl) x of part (of.take i)) q (costOf ((answersOf (says ns tbl q) part).map fun v => (bestS (says ns tbl) x of (partOf (says ns tbl q) part v)).1)) := by
          rw [fs]
          unfold stepQ
          rw [if_pos big]
        rw [st]
        generalize costOf ((answersOf (says ns tbl q) part).map fun v => (bestS (says ns tbl) x of (partOf (says ns tbl q) part v)).1) = c
        generalize foldQ (says ns tbl) x of part (of.take i) = b at ob7
        obtain ⟨b1, b2⟩ := b
        cases c with
        | none => exact ⟨_, rfl, _, rfl, iteF (iteF ⟨oO7, B7, M7, bt, _, _, _, rfl, ob7⟩)⟩
        | some z =>
          refine ⟨_, rfl, _, rfl, iteT ?_⟩
          cases b1 with
          | none =>
            refine ⟨_, rfl, bt, _, 0, _, rfl, rfl, SqT.of ob7, rfl, _, rfl, iteT (iteT ?_)⟩
            refine ⟨_, rfl, _, rfl, (by show 2 ≤ sizeLine; decide), fun t2 nt2 => ?_⟩
            have sd2 := same_new (o := .tup [.int z, .str q]) nt2
            exact ⟨sd2 _ _ oO7, B7.trans (.of sd2), M7.same sd2, t2, _, _, _, rfl, upd_same⟩
          | some y =>
            refine ⟨_, rfl, bt, _, 0, _, rfl, rfl, SqT.of ob7, rfl, _, rfl, iteF ?_⟩
            refine ⟨_, rfl, _, rfl, bt, _, 0, _, rfl, rfl, SqT.of ob7, rfl, _, _, rfl, rfl, ?_⟩
            by_cases lt : z < y
            · refine ⟨true, congrArg V.bl (decide_eq_true lt), iteT ?_⟩
              have eb : better (some y, b2) q (some z) = (some z, some q) := by
                show (if z < y then _ else _) = _
                rw [if_pos lt]
              rw [eb]
              refine ⟨_, rfl, _, rfl, (by show 2 ≤ sizeLine; decide), fun t2 nt2 => ?_⟩
              have sd2 := same_new (o := .tup [.int z, .str q]) nt2
              exact ⟨sd2 _ _ oO7, B7.trans (.of sd2), M7.same sd2, t2, _, _, _, rfl, upd_same⟩
            · have eb : better (some y, b2) q (some z) = (some y, b2) := by
                show (if z < y then _ else _) = _
                rw [if_neg lt]
              rw [eb]
              exact ⟨false, congrArg V.bl (decide_eq_false lt), iteF ⟨oO7, B7, M7, bt, _, _, _, rfl, ob7⟩⟩
    · have st : foldQ (says ns tbl) x of part (of.take (i + 1)) = foldQ (says ns tbl) x of part (of.take i) := by
        rw [fs]
        unfold stepQ
        rw [if_neg big]
      rw [st]
      exact ⟨false, congrArg V.bl (decide_eq_false (by show ¬ (1 : Int) < ((kvs.length : Nat) : Int); omega)), iteF ⟨k3 _ _ oO, B3, M3, bt, _, _, _, rfl, k3 _ _ ob⟩⟩
  · rintro σ H2 ⟨oO, B2, M2, bt, s3, s4, s5, rfl, ob⟩
    rw [List.length_map, List.take_length] at ob
    exact ⟨_, rfl, hq H2 bt B2 M2 ob⟩
end
end L2.TB
/-! _best, cost, by the size of the part -/
namespace L2.TB
open PySem PySem.Spec PyProof.Rows
def spBest (C : Addr) (n : Nat) : Sp := fun vs H Q _ => ∃ (a pa bs : Addr) (ns : List Str) (tbl : List (List Int)) (x : Str) (of : List Str) (part : List Nat), vs = [.ref a, .ref pa] ∧ SeaAt H C a ns tbl x of bs ∧ MemoAt H bs (says ns tbl) x of tbl.length ∧ H pa = some (.tup (part.map natV)) ∧ part.Sublist (List.range tbl.length) ∧ 0 < part.length ∧ part.length ≤ n ∧ tbl.length ≤ 10 ∧
  ∀ H' t, ButB bs H H' → MemoAt H' bs (says ns tbl) x of tbl.length → H' t = some (.tup [optZ (bestS (says ns tbl) x of part).1, optS (bestS (says ns tbl) x of part).2]) → Q (.ref t) H'
theorem scBe : FnScope ["self", "part"] ["self", "part"] (defScope sBest) := ⟨rfl, rfl, rfl, by decide +kernel, rfl, by decide +kernel, by decide +kernel⟩
theorem scCt : FnScope ["self", "part"] ["self", "part"] (defScope sCost) := ⟨rfl, rfl, rfl, by decide +kernel, rfl, by decide +kernel, by decide +kernel⟩
section
variable {P : Program} {w : World} {K : PySem.W.Frag} {mg : Str → Option Value} {base : Heap} {f C fP fQ fB : Addr} {fd fdP fdQ fdB : FuncData} {n k : Nat}
theorem ok_best (F : Fun K "_best" "Search._best" sBest f fd) (S : SeaC K C) (FP : Fun K "parts_of" "Search.parts_of" sPartsOf fP fdP) (mP : Meth K C "parts_of" fP) (GP : FnOk P w K mg base CX0 1 fP fdP ["self", "part", "question"] (spPartsOf C))
    (FQ : Fun K "_best_question" "Search._best_question" sBestQ fQ fdQ) (mQ : Meth K C "_best_question" fQ) (GQ : FnOk P w K mg base CX0 (k + 1) fQ fdQ ["self", "part"] (spBestQ C n)) (gN : mg "len" = none) :
    FnOk P w K mg base CX0 (k + 2) f fd ["self", "part"] (spBest C (n + 1)) := by
  have bP := FP.binds (ps := ["self", "part", "question"]) fun _ _ _ _ _ _ us hl => match us, hl with | [_, _, _], _ => rfl
  have bQ := FQ.binds (ps := ["self", "part"]) fun _ _ _ _ _ _ us hl => match us, hl with | [_, _], _ => rfl
  refine F.ok scBe (fun vs H Q E h => by obtain ⟨a, pa, bs, ns, tbl, x, of, part, e, _⟩ := h; rw [e]; rfl) fun cdv A outer s H vs Q E hr hsp => ?_
  obtain ⟨a, pa, bs, ns, tbl, x, of, part, rfl, sea, memo, hpa, sub, pos, lp, few, hq⟩ := hsp
  obtain ⟨dx, rL, oL, as, h1, h2, h3, h4⟩ := sea.ex
  obtain ⟨lm, below⟩ := range_below sub
  have nd := scBe.nd
  have hu := hu_of (hr.mono (show 1 ≤ k + 1 by omega))
  refine ⟨_, pss_cons (ps_if (pt_cmp (pc_dnotin hu (pv 1) (pe_fld (pv 0) rfl)))
      (pss_one (ps_if (pt_cmpR op_eq (pe_callB call_lenD rfl gN boot_len (pa_cons (pe_meth (pv 0) S.cl mP GP (hr.mono (by omega)) bP .nil pass0 (pa_cons (pv 1) (pa_cons (pe_fld (pv 0) rfl) pa_nil))) pa_nil)) pe_int (nomark _))
        (pss_one (ps_dput hu (pe_fld (pv 0) rfl) (pv 1) (pe_tup (pa_cons pe_int (pa_cons pe_non pa_nil))) rfl))
        (pss_one (ps_dput hu (pe_fld (pv 0) rfl) (pv 1) (pe_meth (pv 0) S.cl mQ GQ hr bQ .nil pass0 (pa_cons (pv 1) pa_nil)) rfl)))) pss_nil)
    (pss_one (ps_ret (pe_dget hu (pe_fld (pv 0) rfl) (pv 1) (fun _ _ => rfl)))), ?_⟩
  have isT := memo.isT
  have nB : ∀ {b : Addr} {o : HO}, (∀ l, o ≠ .dT l) → H b = some o → b ≠ bs := fun no e z => by
    obtain ⟨kvs, et⟩ := isT
    rw [z, et] at e
    exact no _ (Option.some.inj e).symm
  have naB := nB (fun _ z => by cases z) h1
  have npB := nB (fun _ z => by cases z) hpa
  have kp : H pa = some (.tup ((keyP part).map kV)) := by rw [keyP_kV]; exact hpa
  -- the end: what is known is told
  have fin : ∀ (H1 : Hp) (kvs : List (List Key × V)) (v : V), ButB bs H H1 → Memo H1 bs (says ns tbl) x of tbl.length kvs → valV kvs (keyP part) = some v →
      tRet (tDGet (tFld K (tVar 0) "_bests") (tVar 1)) { nx := fun _ H' => Q .non H', rt := Q } [some (.ref a), some (.ref pa)] H1 := fun H1 kvs v B M hv => by
    obtain ⟨t, rfl, ht⟩ := M.got hv
    refine ⟨_, rfl, a, C, dx, _, _, rfl, B _ _ naB h1, S.cl, S.nB, rfl, _, rfl, bs, _, rfl, ?_, hq H1 t B ⟨kvs, M⟩ ht⟩
    rw [← hv]
    exact DGet.t M.at_ (B _ _ npB kp)
  obtain ⟨kvs, M⟩ := id memo
  have lk := M.few few
  refine ⟨_, rfl, _, rfl, a, C, dx, _, _, rfl, h1, S.cl, S.nB, rfl, bs, _, rfl, DGet.t M.at_ kp, _, rfl, ?_⟩
  cases ev : valV kvs (keyP part) with
  | some v => exact iteF (fin H kvs v ButB.refl M ev)
  | none =>
    refine iteT ?_
    refine ⟨_, rfl, a, dx, _, rfl, h1, rfl, _, rfl, _, rfl, a, C, dx, _, _, rfl, h1, S.cl, S.nA, rfl, a, pa, bs, ns, tbl, x, x, of, part, rfl, sea, ⟨hpa, by omega, below⟩, sea.xin, fun H3 d k3 nd3 P3 => ?_⟩
    obtain ⟨ks, od, ek, _⟩ := P3
    have lks : ks.length = (answersOf (says ns tbl x) part).length := by
      have z := congrArg List.length ek
      rw [List.length_map, List.length_map] at z
      exact z
    have eb := bestS_eq (says ns tbl) x of part
    have M3 := M.same k3
    refine ⟨d, ks, rfl, od, rfl, ?_⟩
    by_cases one : (answersOf (says ns tbl x) part).length = 1
    · rw [if_pos one] at eb
      refine ⟨true, congrArg V.bl (decide_eq_true (by rw [lks, one]; rfl)), iteT ?_⟩
      refine ⟨(by show 2 ≤ sizeLine; decide), fun t nt => ?_⟩
      have sd := same_new (o := .tup [.int 0, .non]) nt
      have M4 := M3.same sd
      refine ⟨_, rfl, a, C, dx, _, _, rfl, sd _ _ (k3 _ _ h1), S.cl, S.nB, rfl, _, rfl, bs, _, rfl, DPut.t M4.at_ (sd _ _ (k3 _ _ kp)) (by rw [sizeLine_eq]; omega), ?_⟩
      refine fin _ _ (.ref t) (fun b o nb e => ?_) (M4.put sub (part := part) (t := t) ?_) (by rw [valV_put, if_pos rfl])
      · rw [upd_ne nb]; exact sd _ _ (k3 _ _ e)
      · rw [eb]; exact upd_same
    · rw [if_neg one] at eb
      refine ⟨false, congrArg V.bl (decide_eq_false (fun z => one (by rw [lks] at z; exact Int.ofNat.inj (V.int.inj z)))), iteF ?_⟩
      refine ⟨_, rfl, a, dx, _, rfl, k3 _ _ h1, rfl, _, rfl, a, pa, bs, ns, tbl, x, of, part, rfl, sea.same k3, memo.same k3, k3 _ _ hpa, sub, lp, few, fun H4 t B4 MA4 ht => ?_⟩
      obtain ⟨kvs4, M4⟩ := MA4
      have lk4 := M4.few few
      have B04 := (ButB.of k3).trans B4
      refine ⟨_, rfl, a, C, dx, _, _, rfl, B04 _ _ naB h1, S.cl, S.nB, rfl, _, rfl, bs, _, rfl, DPut.t M4.at_ (B04 _ _ npB kp) (by rw [sizeLine_eq]; omega), ?_⟩
      refine fin _ _ (.ref t) (fun b o nb e => ?_) (M4.put sub (part := part) (t := t) ?_) (by rw [valV_put, if_pos rfl])
      · rw [upd_ne nb]; exact B04 _ _ nb e
      · rw [eb]; exact ht
theorem ok_cost1 (F : Fun K "cost" "Search.cost" sCost f fd) (S : SeaC K C) (FB : Fun K "_best" "Search._best" sBest fB fdB) (mB : Meth K C "_best" fB) (GB : FnOk P w K mg base CX0 k fB fdB ["self", "part"] (spBest C n)) : FnOk P w K mg base CX0 (k + 1) f fd ["self", "part"] (spCost C n) := by
  have bB := FB.binds (ps := ["self", "part"]) fun _ _ _ _ _ _ us hl => match us, hl with | [_, _], _ => rfl
  refine F.ok scCt (fun vs H Q E h => by obtain ⟨a, pa, bs, ns, tbl, x, of, part, e, _⟩ := h; rw [e]; rfl) fun cdv A outer s H vs Q E hr hsp => ?_
  obtain ⟨a, pa, bs, ns, tbl, x, of, part, rfl, sea, memo, hpa, sub, pos, lp, few, hq⟩ := hsp
  obtain ⟨dx, rL, oL, as, h1, h2, h3, h4⟩ := sea.ex
  refine ⟨_, pss_one (ps_ret (pe_ix (r := rIxT K) ix_tup (pe_meth (pv 0) S.cl mB GB hr bB .nil pass0 (pa_cons (pv 1) pa_nil)) pe_int (fun _ _ => rfl))), ?_⟩
  exact ⟨_, rfl, a, dx, _, rfl, h1, rfl, _, rfl, a, pa, bs, ns, tbl, x, of, part, rfl, sea, memo, hpa, sub, pos, lp, few, fun H' t B M ht => ⟨t, _, 0, _, rfl, rfl, SqT.of ht, rfl, hq H' B M⟩⟩
/-- what the methods of a search are -/
structure SeaM (K : PySem.W.Frag) (mg : Str → Option Value) (C fP fO fQ fB fC : Addr) : Prop where
  c : SeaC K C
  P : ∃ fd, Fun K "parts_of" "Search.parts_of" sPartsOf fP fd
  mP : Meth K C "parts_of" fP
  O : ∃ fd, Fun K "_cost_of" "Search._cost_of" sCostOf fO fd
  mO : Meth K C "_cost_of" fO
  Q : ∃ fd, Fun K "_best_question" "Search._best_question" sBestQ fQ fd
  mQ : Meth K C "_best_question" fQ
  B : ∃ fd, Fun K "_best" "Search._best" sBest fB fd
  mB : Meth K C "_best" fB
  Ct : ∃ fd, Fun K "cost" "Search.cost" sCost fC fd
  mC : Meth K C "cost" fC
  nT : mg "tuple" = none
  nM : mg "max" = none
  nN : mg "len" = none
theorem ok_cost {fP fO fQ fB fC : Addr} (M : SeaM K mg C fP fO fQ fB fC) : ∀ (n : Nat) {fd : FuncData}, Fun K "cost" "Search.cost" sCost fC fd → FnOk P w K mg base CX0 (3 * n + 1) fC fd ["self", "part"] (spCost C n)
  | 0, fd, _ => ⟨fun vs H Q E h => by obtain ⟨a, pa, bs, ns, tbl, x, of, part, e, _⟩ := h; rw [e]; rfl, fun A outer s H args us vs Q E hr he hb hv hs => by
      obtain ⟨a, pa, bs, ns, tbl, x, of, part, _, _, _, _, _, h1, h2, _⟩ := hs
      omega⟩
  | n + 1, fd, F => by
    have GC := ok_cost M n F
    obtain ⟨fdP, FP⟩ := M.P
    obtain ⟨fdO, FO⟩ := M.O
    obtain ⟨fdQ, FQ⟩ := M.Q
    obtain ⟨fdB, FB⟩ := M.B
    have GP : FnOk P w K mg base CX0 1 fP fdP ["self", "part", "question"] (spPartsOf C) := ok_partsOf FP M.c M.nT
    have GO : FnOk P w K mg base CX0 1 fO fdO ["self", "part", "costs"] (spCostOf C) := ok_costOf FO M.c M.nM
    have GQ := ok_bestQ (P := P) (w := w) (base := base) FQ M.c FP M.mP GP FO M.mO GO F M.mC (by omega) GC M.nN
    have GB := ok_best (P := P) (w := w) (base := base) FB M.c FP M.mP GP FQ M.mQ GQ M.nN
    exact (ok_cost1 F M.c FB M.mB GB).mono (by omega)
end
end L2.TB
/-! things: None, numbers, texts; lists, tuples, dicts of things; is_hard; what a hold is -/
namespace L2.TB
open PySem PySem.Spec PyProof.Rows
inductive Hd
  | at_ (v : V)
  | sq (isT : Bool) (l : List Hd)
  | di (kvs : List (Str × Hd))
def seqO (isT : Bool) (us : List V) : HO := if isT = true then .tup us else .lst us
/-- v is the thing t, each address of which is as A says -/
inductive HdAt (A : Addr → Prop) (H : Hp) : Hd → V → Prop
  | at_ {v : V} (h : Atom v) : HdAt A H (.at_ v) v
  | sq {a : Addr} {isT : Bool} {us : List V} {l : List Hd} (ok : A a) (h : H a = some (seqO isT us)) (len : us.length = l.length) (al : ∀ (i : Nat) (u : V) (t : Hd), us[i]? = some u → l[i]? = some t → HdAt A H t u) : HdAt A H (.sq isT l) (.ref a)
  | di {a : Addr} {es : List (Key × V)} {kvs : List (Str × Hd)} (ok : A a) (h : H a = some (.dK es)) (ks : es.map (·.1) = kvs.map fun e => Sum.inr e.1) (nd : (kvs.map (·.1)).Nodup) (al : ∀ (i : Nat) (k : Key) (u : V) (x : Str) (t : Hd), es[i]? = some (k, u) → kvs[i]? = some (x, t) → HdAt A H t u) : HdAt A H (.di kvs) (.ref a)
theorem seqO_dT (isT : Bool) (us : List V) (l : List (List Key × V)) : seqO isT us ≠ .dT l := by
  unfold seqO
  split <;> (intro z; cases z)
theorem HdAt.keep {A A' : Addr → Prop} {H H' : Hp} {t : Hd} {v : V} (h : HdAt A H t v) (hA : ∀ b, A b → A' b) (s : ∀ b o, A b → H b = some o → (∀ l, o ≠ .dT l) → H' b = some o) : HdAt A' H' t v := by
  induction h with
  | at_ h => exact .at_ h
  | sq ok h len _ ih => exact .sq (hA _ ok) (s _ _ ok h (seqO_dT _ _)) len ih
  | di ok h ks nd _ ih => exact .di (hA _ ok) (s _ _ ok h (fun _ z => by cases z)) ks nd ih
theorem HdAt.same {A : Addr → Prop} {H H' : Hp} {t : Hd} {v : V} (h : HdAt A H t v) (s : Same H H') : HdAt A H' t v := h.keep (fun _ z => z) fun b o _ e _ => s b o e
theorem HdAt.but {A : Addr → Prop} {H H' : Hp} {bs : Addr} {t : Hd} {v : V} (h : HdAt A H t v) (T : IsT H bs) (s : ButB bs H H') : HdAt A H' t v := h.keep (fun _ z => z) fun b o _ e n => s b o (fun z => by
  obtain ⟨l, et⟩ := T
  rw [z, et] at e
  exact n _ (Option.some.inj e).symm) e
/-- not told by d questions -/
def hardP (c : Option Int) (d : Nat) : Bool := match c with
  | none => true
  | some z => decide ((d : Int) ≤ z)
def spIsHard (C : Addr) (n : Nat) : Sp := fun vs H Q _ => ∃ (a pa bs : Addr) (ns : List Str) (tbl : List (List Int)) (x : Str) (of : List Str) (part : List Nat) (d : Nat), vs = [.ref a, .ref pa, .int d] ∧ SeaAt H C a ns tbl x of bs ∧ MemoAt H bs (says ns tbl) x of tbl.length ∧ H pa = some (.tup (part.map natV)) ∧ part.Sublist (List.range tbl.length) ∧ 0 < part.length ∧ part.length ≤ n ∧ tbl.length ≤ 10 ∧
  ∀ H', ButB bs H H' → MemoAt H' bs (says ns tbl) x of tbl.length → Q (.bl (hardP (bestS (says ns tbl) x of part).1 d)) H'
abbrev NIh : List Str := ["self", "part", "depth", "cost"]
theorem scIh : FnScope NIh ["self", "part", "depth"] (defScope sIsHard) := ⟨rfl, rfl, rfl, by decide +kernel, rfl, by decide +kernel, by decide +kernel⟩
section
variable {P : Program} {w : World} {K : PySem.W.Frag} {mg : Str → Option Value} {base : Heap} {f C fC : Addr} {fd fdC : FuncData} {n k : Nat}
theorem ok_isHard (F : Fun K "is_hard" "Search.is_hard" sIsHard f fd) (S : SeaC K C) (FC : Fun K "cost" "Search.cost" sCost fC fdC) (mC : Meth K C "cost" fC) (GC : FnOk P w K mg base CX0 k fC fdC ["self", "part"] (spCost C n)) : FnOk P w K mg base CX0 (k + 1) f fd ["self", "part", "depth"] (spIsHard C n) := by
  have bC := FC.binds (ps := ["self", "part"]) fun _ _ _ _ _ _ us hl => match us, hl with | [_, _], _ => rfl
  refine F.ok scIh (fun vs H Q E h => by obtain ⟨a, pa, bs, ns, tbl, x, of, part, d, e, _⟩ := h; rw [e]; rfl) fun cdv A outer s H vs Q E hr hsp => ?_
  obtain ⟨a, pa, bs, ns, tbl, x, of, part, d, rfl, sea, memo, hpa, sub, pos, lp, few, hq⟩ := hsp
  obtain ⟨dx, rL, oL, as, h1, h2, h3, h4⟩ := sea.ex
  have nd := scIh.nd
  refine ⟨_, pss_cons (ps_set (i := 3) nd rfl (Or.inl rfl) (pe_meth (pv 0) S.cl mC GC hr bC .nil pass0 (pa_cons (pv 1) pa_nil)))
    (pss_one (ps_ret (pe_or (pe_cmp (pc_isN (pv 3))) (pe_one (pe_cmp (pc_ge (pv 3) (pv 2))))))), ?_⟩
  refine ⟨_, rfl, a, dx, _, rfl, h1, rfl, _, rfl, a, pa, bs, ns, tbl, x, of, part, rfl, sea, memo, hpa, sub, pos, lp, few, fun H' B M => ?_⟩
  have z := hq H' B M
  generalize (bestS (says ns tbl) x of part).1 = c at z
  cases c with
  | none => exact ⟨_, rfl, _, rfl, iteT z⟩
  | some y =>
    refine ⟨_, rfl, _, rfl, iteF ?_⟩
    exact ⟨_, rfl, _, rfl, _, _, rfl, rfl, z⟩
end
/-- what hold tells of a part that is hard -/
def firstHard (sy : Str → Nat → Int) (x : Str) (of : List Str) (part : List Nat) (d : Nat) (q : Str) : Int := ((answersOf (sy q) part).filter fun v => hardP (bestS sy x of (partOf (sy q) part v)).1 d).headD 0
def holdT (sy : Str → Nat → Int) (x : Str) (of : List Str) : Nat → List Nat → Hd
  | 0, _ => .sq true []
  | d + 1, part => .di (of.map fun q => (q, .sq true [.at_ (.int (firstHard sy x of part d q)), holdT sy x of d (partOf (sy q) part (firstHard sy x of part d q))]))
/-- a question of one answer parts nothing -/
theorem ans_one {f : Nat → Int} {part : List Nat} (h : ¬ 1 < (answersOf f part).length) {v : Int} (hv : v ∈ answersOf f part) : partOf f part v = part := by
  refine (List.filter_eq_self.mpr fun i hi => decide_eq_true ?_)
  have hi2 : f i ∈ answersOf f part := by
    unfold answersOf
    rw [once_mem]
    exact List.mem_map.mpr ⟨i, hi, rfl⟩
  match q : answersOf f part, h, hv, hi2 with
  | [], _, hv, _ => simp at hv
  | [u], _, hv, hi2 =>
    have e1 : v = u := by simpa using hv
    have e2 : f i = u := by simpa using hi2
    rw [e1, e2]
  | a :: b :: l, h, _, _ => simp at h
theorem ans_pos {f : Nat → Int} {part : List Nat} (h : 0 < part.length) : ∃ v, v ∈ answersOf f part := by
  cases part with
  | nil => simp at h
  | cons i r => exact ⟨f i, by unfold answersOf; rw [once_mem]; simp⟩
end L2.TB
/-! when a part is hard -/
namespace L2.TB
open PySem PySem.Spec PyProof.Rows
theorem hard_less {c : Option Int} {d : Nat} (h : hardP c (d + 1) = true) : hardP c d = true := by
  cases c with
  | none => rfl
  | some z => exact decide_eq_true (by have := of_decide_eq_true h; omega)
theorem hard_better (b : Option Int × Option Str) (q : Str) (c : Option Int) (d : Nat) : hardP (better b q c).1 d = (hardP b.1 d && hardP c d) := by
  obtain ⟨b1, b2⟩ := b
  cases c with
  | none =>
    show hardP b1 d = (hardP b1 d && true)
    rw [Bool.and_true]
  | some z =>
    cases b1 with
    | none => rfl
    | some y =>
      show hardP (if z < y then (some z, some q) else (some y, b2)).1 d = (decide ((d : Int) ≤ y) && decide ((d : Int) ≤ z))
      by_cases h : z < y
      · rw [if_pos h]
        show decide _ = _
        by_cases h2 : (d : Int) ≤ z
        · rw [decide_eq_true h2, decide_eq_true (show (d : Int) ≤ y by omega)]; rfl
        · rw [decide_eq_false h2, Bool.and_false]
      · rw [if_neg h]
        show decide _ = _
        by_cases h2 : (d : Int) ≤ y
        · rw [decide_eq_true h2, decide_eq_true (show (d : Int) ≤ z by omega)]; rfl
        · rw [decide_eq_false h2]; rfl
theorem some_mem {cs : List (Option Int)} {z : Int} : z ∈ cs.filterMap id ↔ some z ∈ cs := by
  rw [List.mem_filterMap]
  exact ⟨fun ⟨a, h, e⟩ => by have e : a = some z := e; rw [← e]; exact h, fun h => ⟨_, h, rfl⟩⟩
theorem hard_cost {cs : List (Option Int)} (pos : cs ≠ []) (d : Nat) : hardP (costOf cs) (d + 1) = true ↔ ∃ c ∈ cs, hardP c d = true := by
  unfold costOf
  by_cases h : none ∈ cs
  · rw [if_pos h]
    exact ⟨fun _ => ⟨none, h, rfl⟩, fun _ => rfl⟩
  · rw [if_neg h]
    have ne : cs.filterMap id ≠ [] := by
      obtain ⟨c, hc⟩ : ∃ c, c ∈ cs := List.exists_mem_of_ne_nil _ pos
      cases c with
      | none => exact absurd hc h
      | some z => exact List.ne_nil_of_mem (some_mem.mpr hc)
    obtain ⟨hm, hle⟩ : maxZ (cs.filterMap id) ∈ cs.filterMap id ∧ ∀ y ∈ cs.filterMap id, y ≤ maxZ (cs.filterMap id) := by
      cases q : cs.filterMap id with
      | nil => exact absurd q ne
      | cons a l =>
        obtain ⟨h1, h2, h3⟩ := maxZ_le l a
        refine ⟨?_, fun y hy => ?_⟩
        · rcases h3 with h3 | h3
          · show List.foldl _ _ _ ∈ _
            rw [h3]; simp
          · exact List.mem_cons_of_mem _ h3
        · rcases List.mem_cons.mp hy with e | hy
          · rw [e]; exact h1
          · exact h2 y hy
    constructor
    · intro z
      have z : ((d + 1 : Nat) : Int) ≤ 1 + maxZ (cs.filterMap id) := of_decide_eq_true z
      exact ⟨some _, some_mem.mp hm, decide_eq_true (by omega)⟩
    · rintro ⟨c, hc, hh⟩
      cases c with
      | none => exact absurd hc h
      | some y =>
        have := hle y (some_mem.mpr hc)
        have hh : (d : Int) ≤ y := of_decide_eq_true hh
        exact decide_eq_true (by omega)
section
variable {sy : Str → Nat → Int} {x : Str} {of : List Str}
theorem hard_fold {part : List Nat} (d : Nat) : ∀ (l : List Str), hardP (foldQ sy x of part l).1 (d + 1) = true ↔ ∀ q ∈ l, 1 < (answersOf (sy q) part).length → ∃ v ∈ answersOf (sy q) part, hardP (bestS sy x of (partOf (sy q) part v)).1 d = true := by
  intro l
  induction l using rev_ind with
  | h0 => exact ⟨fun _ q h => (by cases h), fun _ => rfl⟩
  | hs l q ih =>
    rw [fold_snoc]
    unfold stepQ
    by_cases big : 1 < (answersOf (sy q) part).length
    · rw [if_pos big, hard_better, Bool.and_eq_true, ih, hard_cost (by intro z; rw [List.map_eq_nil_iff] at z; rw [z] at big; simp at big)]
      constructor
      · rintro ⟨h1, h2⟩ r hr hb
        rcases List.mem_append.mp hr with hr | hr
        · exact h1 r hr hb
        · obtain rfl : r = q := by simpa using hr
          obtain ⟨c, hc, hh⟩ := h2
          obtain ⟨v, hv, rfl⟩ := List.mem_map.mp hc
          exact ⟨v, hv, hh⟩
      · intro h
        refine ⟨fun r hr hb => h r (List.mem_append_left _ hr) hb, ?_⟩
        obtain ⟨v, hv, hh⟩ := h q (by simp) big
        exact ⟨_, List.mem_map.mpr ⟨v, hv, rfl⟩, hh⟩
    · rw [if_neg big, ih]
      constructor
      · intro h r hr hb
        rcases List.mem_append.mp hr with hr | hr
        · exact h r hr hb
        · obtain rfl : r = q := by simpa using hr
          exact absurd hb big
      · intro h r hr hb
        exact h r (List.mem_append_left _ hr) hb
/-- hard for one more: answers differ, and each question leaves a part that is hard -/
theorem hard_step {part : List Nat} (pos : 0 < part.length) (d : Nat) : hardP (bestS sy x of part).1 (d + 1) = true ↔ (answersOf (sy x) part).length ≠ 1 ∧ ∀ q ∈ of, ∃ v ∈ answersOf (sy q) part, hardP (bestS sy x of (partOf (sy q) part v)).1 d = true := by
  have eb := bestS_eq sy x of part
  by_cases one : (answersOf (sy x) part).length = 1
  · rw [eb, if_pos one]
    constructor
    · intro h
      have h : ((d + 1 : Nat) : Int) ≤ 0 := of_decide_eq_true h
      omega
    · exact fun h => absurd one h.1
  · have e2 : (bestS sy x of part).1 = (foldQ sy x of part of).1 := by
      rw [eb, if_neg one]
      rfl
    constructor
    · intro h
      refine ⟨one, fun q hq => ?_⟩
      by_cases big : 1 < (answersOf (sy q) part).length
      · rw [e2] at h
        exact (hard_fold d of).mp h q hq big
      · obtain ⟨v, hv⟩ := ans_pos (f := sy q) pos
        exact ⟨v, hv, by rw [ans_one big hv]; exact hard_less h⟩
    · rintro ⟨_, h⟩
      rw [e2]
      exact (hard_fold d of).mpr fun q hq _ => h q hq
theorem cost_pos : ∀ (n : Nat) (part : List Nat), part.length ≤ n → ∀ z, (bestS sy x of part).1 = some z → 0 ≤ z
  | 0, part, h, z, e => by
    obtain rfl : part = [] := List.length_eq_zero_iff.mp (by omega)
    cases e
  | n + 1, part, h, z, e => by
    rw [bestS_eq] at e
    by_cases one : (answersOf (sy x) part).length = 1
    · rw [if_pos one] at e
      cases e
      omega
    · rw [if_neg one] at e
      have key : ∀ (l : List Str) (b : Option Int × Option Str), (∀ y, b.1 = some y → 0 ≤ y) → ∀ y, (l.foldl (stepQ (fun p => (bestS sy x of p).1) sy part) b).1 = some y → 0 ≤ y := fun l => by
        induction l with
        | nil => exact fun b hb y hy => hb y hy
        | cons q l ih =>
          intro b hb y hy
          rw [List.foldl_cons] at hy
          refine ih _ (fun y2 h2 => ?_) y hy
          unfold stepQ at h2
          by_cases big : 1 < (answersOf (sy q) part).length
          · rw [if_pos big] at h2
            have hc : ∀ u, costOf ((answersOf (sy q) part).map fun v => (bestS sy x of (partOf (sy q) part v)).1) = some u → 0 ≤ u := fun u hu => by
              unfold costOf at hu
              split at hu
              · cases hu
              · have nn : ∀ l : List Int, (∀ y ∈ l, 0 ≤ y) → 0 ≤ maxZ l := fun l hl => by
                  cases l with
                  | nil => exact Int.le_refl _
                  | cons a l => exact Int.le_trans (hl a (by simp)) (maxZ_le l a).1
                have := nn _ fun y hy => by
                  obtain ⟨v, hv, ev⟩ := List.mem_map.mp (some_mem.mp hy)
                  have ltp := part_lt big hv
                  exact cost_pos n (partOf (sy q) part v) (by omega) y ev
                have e3 := Option.some.inj hu
                omega
            obtain ⟨b1, b2⟩ := b
            cases q2 : costOf ((answersOf (sy q) part).map fun v => (bestS sy x of (partOf (sy q) part v)).1) with
            | none =>
              rw [q2] at h2
              exact hb y2 h2
            | some u =>
              rw [q2] at h2
              have hu := hc u q2
              cases b1 with
              | none =>
                cases h2
                exact hu
              | some t =>
                have h2 : (if u < t then (some u, some q) else (some t, b2)).1 = some y2 := h2
                split at h2
                · cases h2; exact hu
                · exact hb y2 h2
          · rw [if_neg big] at h2
            exact hb y2 h2
      exact key of _ (fun y hy => by cases hy) z e
theorem hard_zero (part : List Nat) : hardP (bestS sy x of part).1 0 = true := by
  cases q : (bestS sy x of part).1 with
  | none => rfl
  | some z =>
    have := cost_pos _ part (Nat.le_refl _) z q
    exact decide_eq_true (by omega)
/-- the first hard answer -/
theorem first_hard {part : List Nat} {d : Nat} {q : Str} (h : ∃ v ∈ answersOf (sy q) part, hardP (bestS sy x of (partOf (sy q) part v)).1 d = true) :
    firstHard sy x of part d q ∈ answersOf (sy q) part ∧ hardP (bestS sy x of (partOf (sy q) part (firstHard sy x of part d q))).1 d = true ∧ ((answersOf (sy q) part).filter fun v => hardP (bestS sy x of (partOf (sy q) part v)).1 d)[0]? = some (firstHard sy x of part d q) := by
  obtain ⟨v, hv, hh⟩ := h
  have hm : v ∈ (answersOf (sy q) part).filter fun v => hardP (bestS sy x of (partOf (sy q) part v)).1 d := List.mem_filter.mpr ⟨hv, hh⟩
  unfold firstHard
  cases e : (answersOf (sy q) part).filter fun v => hardP (bestS sy x of (partOf (sy q) part v)).1 d with
  | nil => rw [e] at hm; cases hm
  | cons u r =>
    have hu : u ∈ (answersOf (sy q) part).filter fun v => hardP (bestS sy x of (partOf (sy q) part v)).1 d := by rw [e]; simp
    obtain ⟨h1, h2⟩ := List.mem_filter.mp hu
    exact ⟨h1, h2, rfl⟩
end
end L2.TB
/-! the method hold -/
namespace L2.TB
open PySem PySem.Spec PyProof.Rows
def spHold (C : Addr) (d : Nat) : Sp := fun vs H Q _ => ∃ (a pa bs : Addr) (ns : List Str) (tbl : List (List Int)) (x : Str) (of : List Str) (part : List Nat), vs = [.ref a, .ref pa, .int d] ∧ SeaAt H C a ns tbl x of bs ∧ MemoAt H bs (says ns tbl) x of tbl.length ∧ H pa = some (.tup (part.map natV)) ∧ part.Sublist (List.range tbl.length) ∧ 0 < part.length ∧ tbl.length ≤ 10 ∧ of.Nodup ∧
  hardP (bestS (says ns tbl) x of part).1 d = true ∧ ∀ H' v, ButB bs H H' → MemoAt H' bs (says ns tbl) x of tbl.length → HdAt (fun b => H b = none) H' (holdT (says ns tbl) x of d part) v → Q v H'
abbrev NHo : List Str := ["self", "part", "depth", "out", "question", "parts", "answer", "one"]
theorem scHo : FnScope NHo ["self", "part", "depth"] (defScope sHoldM) := ⟨rfl, rfl, rfl, by decide +kernel, rfl, by decide +kernel, by decide +kernel⟩
theorem ButB.free {bs : Addr} {H H' : Hp} {b : Addr} (s : ButB bs H H') (T : IsT H' bs) (h : H' b = none) : H b = none := by
  cases q : H b with
  | none => rfl
  | some o =>
    by_cases e : b = bs
    · obtain ⟨l, et⟩ := T
      rw [← e, h] at et
      cases et
    · rw [s b o e q] at h
      cases h
theorem filter_take_snoc {α : Type} (p : α → Bool) {l : List α} {j : Nat} {v : α} (h : l[j]? = some v) : (l.take (j + 1)).filter p = (l.take j).filter p ++ (if p v = true then [v] else []) := by
  rw [List.take_succ, h, List.filter_append]
  congr 1
  show [v].filter p = _
  by_cases q : p v = true
  · rw [if_pos q]; simp [q]
  · rw [if_neg q]; simp [q]
/-- one entry of what hold tells -/
def entT (sy : Str → Nat → Int) (x : Str) (of : List Str) (d : Nat) (part : List Nat) (q : Str) : Hd := .sq true [.at_ (.int (firstHard sy x of part d q)), holdT sy x of d (partOf (sy q) part (firstHard sy x of part d q))]
section
variable {P : Program} {w : World} {K : PySem.W.Frag} {mg : Str → Option Value} {base : Heap} {f C fP fH : Addr} {fd fdP fdH : FuncData} {k : Nat}
theorem ok_hold0 (F : Fun K "hold" "Search.hold" sHoldM f fd) : FnOk P w K mg base CX0 1 f fd ["self", "part", "depth"] (spHold C 0) := by
  refine F.ok scHo (fun vs H Q E h => by obtain ⟨a, pa, bs, ns, tbl, x, of, part, e, _⟩ := h; rw [e]; rfl) fun cdv A outer s H vs Q E hr hsp => ?_
  obtain ⟨a, pa, bs, ns, tbl, x, of, part, rfl, sea, memo, hpa, sub, pos, few, nof, hard, hq⟩ := hsp
  refine ⟨_, pss_cons (ps_if (pt_cmpR op_eq (pv 2) pe_int (nomark _)) (pss_one (ps_ret (pe_tup pa_nil))) pss_nil) pss_never, ?_⟩
  refine ⟨_, rfl, rfl, true, rfl, iteT ⟨(by show 0 ≤ sizeLine; omega), fun t nt => ?_⟩⟩
  have sd := same_new (o := .tup []) nt
  exact hq _ _ (.of sd) (memo.same sd) (.sq (isT := true) nt upd_same rfl fun i u t e _ => by simp at e)
theorem ok_holdS {d : Nat} (F : Fun K "hold" "Search.hold" sHoldM f fd) (mF : Meth K C "hold" f) (S : SeaC K C) (FP : Fun K "parts_of" "Search.parts_of" sPartsOf fP fdP) (mP : Meth K C "parts_of" fP) (GP : FnOk P w K mg base CX0 1 fP fdP ["self", "part", "question"] (spPartsOf C))
    (FH : Fun K "is_hard" "Search.is_hard" sIsHard fH fdH) (mH : Meth K C "is_hard" fH) (GH : FnOk P w K mg base CX0 k fH fdH ["self", "part", "depth"] (spIsHard C 10)) (hk : 1 ≤ k) (GR : FnOk P w K mg base CX0 k f fd ["self", "part", "depth"] (spHold C d)) : FnOk P w K mg base CX0 (k + 1) f fd ["self", "part", "depth"] (spHold C (d + 1)) := by
  have bP := FP.binds (ps := ["self", "part", "question"]) fun _ _ _ _ _ _ us hl => match us, hl with | [_, _, _], _ => rfl
  have bH := FH.binds (ps := ["self", "part", "depth"]) fun _ _ _ _ _ _ us hl => match us, hl with | [_, _, _], _ => rfl
  have bR := F.binds (ps := ["self", "part", "depth"]) fun _ _ _ _ _ _ us hl => match us, hl with | [_, _, _], _ => rfl
  refine F.ok scHo (fun vs H Q E h => by obtain ⟨a, pa, bs, ns, tbl, x, of, part, e, _⟩ := h; rw [e]; rfl) fun cdv A outer s H vs Q E hr hsp => ?_
  obtain ⟨a, pa, bs, ns, tbl, x, of, part, rfl, sea, memo, hpa, sub, pos, few, nof, hard, hq⟩ := hsp
  obtain ⟨dx, rL, oL, as, h1, h2, h3, h4⟩ := sea.ex
  obtain ⟨lm, below⟩ := range_below sub
  have nd := scHo.nd
  have hu := hu_of (hr.mono hk)
  obtain ⟨_, hardQ⟩ := (hard_step pos d).mp hard
  refine ⟨_, pss_cons (ps_if (pt_cmpR op_eq (pv 2) pe_int (nomark _)) (pss_one (ps_ret (pe_tup pa_nil))) pss_nil)
    (pss_cons (ps_set (i := 3) nd rfl (Or.inl rfl) pe_dnewK)
    (pss_cons (ps_for PassesOwn.never rfl (pi_seq (pe_fld (pv 0) rfl)) (pg_name (i := 4) nd rfl (Or.inl rfl))
      (pss_cons (ps_set (i := 5) nd rfl (Or.inr rfl) (pe_meth (pv 0) S.cl mP GP (hr.mono hk) bP .nil pass0 (pa_cons (pv 1) (pa_cons (pv 4) pa_nil))))
      (pss_cons (ps_set (i := 6) nd rfl (Or.inl rfl) (pe_ix (r := rIxL K) ix_list (pe_lock (pe_lc (own := [("one", 7)]) (g := gName 7) rfl nd (pi_keys (pv 5)) (blkOk_by (N := NHo) (sc := defScope sHoldM) (by decide +kernel))
            (fun _ _ _ _ _ => pg_name (i := 7) nd rfl (Or.inl rfl)) (fun _ _ _ _ _ => pts_one (pt_val (pe_meth (pv 0) S.cl mH GH hr bH .nil pass0 (pa_cons (pe_dget hu (pv 5) (pv 7) (fun _ _ => rfl)) (pa_cons (pe_op op_sub (pv 2) pe_int) pa_nil))))) (fun _ _ _ _ _ => pv 7))) pe_int (fun _ _ => rfl)))
      (pss_one (ps_dput hu (pv 3) (pv 4) (pe_tup (pa_cons (pv 6) (pa_cons (pe_meth (pv 0) S.cl mF GR hr bR .nil pass0 (pa_cons (pe_dget hu (pv 5) (pv 6) (fun _ _ => rfl)) (pa_cons (pe_op op_sub (pv 2) pe_int) pa_nil))) pa_nil))) rfl)))))
    (pss_one (ps_ret (pv 3))))), ?_⟩
  have isT := memo.isT
  have nB : ∀ {b : Addr} {o : HO}, (∀ l, o ≠ .dT l) → H b = some o → b ≠ bs := fun no e z => by
    obtain ⟨kvs, et⟩ := isT
    rw [z, et] at e
    exact no _ (Option.some.inj e).symm
  have naB := nB (fun _ z => by cases z) h1
  have npB := nB (fun _ z => by cases z) hpa
  have noB := nB (fun _ z => by cases z) h4
  have e1 : V.int (((d + 1 : Nat) : Int) - 1) = V.int (d : Int) := congrArg V.int (by omega)
  refine ⟨_, rfl, rfl, false, congrArg V.bl (decide_eq_false (fun z => by have z := V.int.inj z; omega)), iteF ?_⟩
  intro D nD
  have sD := same_new (o := .dK []) nD
  have DB : D ≠ bs := fun z => by obtain ⟨l, et⟩ := isT; rw [← z, nD] at et; cases et
  have h0 : ∀ (j : Nat) (k : Key) (u : V) (q : Str), ([] : List (Key × V))[j]? = some (k, u) → of[j]? = some q → HdAt (fun b => H b = none ∧ b ≠ D) (upd H D (.dK [])) (entT (says ns tbl) x of d part q) u := fun j k u q e _ => by simp at e
  refine ⟨_, rfl, a, C, dx, _, _, rfl, sD _ _ h1, S.cl, S.nO, rfl, for_seq (.inl rfl) (fun i σ H' => H' oL = some (.lst (of.map V.str)) ∧ ButB bs H H' ∧ MemoAt H' bs (says ns tbl) x of tbl.length ∧ (∃ s4 s5 s6, σ = [some (.ref a), some (.ref pa), some (.int (d + 1 : Nat)), some (.ref D), s4, s5, s6, none]) ∧
      ∃ acc : List (Key × V), H' D = some (.dK acc) ∧ acc.map (·.1) = (of.take i).map Sum.inr ∧ ∀ j k u q, acc[j]? = some (k, u) → of[j]? = some q → HdAt (fun b => H b = none ∧ b ≠ D) H' (entT (says ns tbl) x of d part q) u)
    ⟨sD _ _ h4, .of sD, memo.same sD, ⟨_, _, _, rfl⟩, [], upd_same, by simp, h0⟩ (fun i σ H' _ h => h.1) ?_ ?_⟩
  · rintro i y σ H2 ey ⟨oO, B2, M2, ⟨s4, s5, s6, rfl⟩, acc, oD, ea, hacc⟩
    rw [List.getElem?_map] at ey
    obtain ⟨q, eq_, rfl⟩ := Option.map_eq_some_iff.mp ey
    have qof := List.mem_of_getElem? eq_
    have qin : q ∈ ns := sea.sub q qof
    have sea2 := sea.but isT B2
    have ha2 := B2 _ _ naB h1
    obtain ⟨z1, z2, z3⟩ := first_hard (hardQ q qof)
    refine ⟨_, rfl, a, dx, _, rfl, ha2, rfl, _, rfl, _, rfl, a, pa, bs, ns, tbl, x, q, of, part, rfl, sea2, ⟨B2 _ _ npB hpa, by omega, below⟩, qin, fun H3 e k3 nd3 P3 => ?_⟩
    obtain ⟨kvs, od, ek, ev⟩ := P3
    have lk : kvs.length = (answersOf (says ns tbl q) part).length := by
      have z := congrArg List.length ek
      rw [List.length_map, List.length_map] at z
      exact z
    have M3 := M2.same k3
    have B3 := B2.trans (.of k3)
    have la3 := ans_len (says ns tbl q) part
    have isT3 := M3.isT
    have n3 : ∀ {b : Addr} {o : HO}, (∀ l, o ≠ .dT l) → H3 b = some o → b ≠ bs := fun no e z => by
      obtain ⟨l, et⟩ := isT3
      rw [z, et] at e
      exact no _ (Option.some.inj e).symm
    have dB := n3 (fun _ z => by cases z) od
    refine ⟨e, _, od, trivial, fun odj => ⟨_, rfl, e, odj, rfl, .inl ⟨kvs, upd_same, fun L nL => ?_⟩⟩⟩
    have memoL : MemoAt (upd H3 e (.frz odj (.dK kvs))) bs (says ns tbl) x of tbl.length := M3.lock od (fun _ z => by cases z) (fun _ z => by cases z)
    have B0L : ButB bs H2 (upd H3 e (.frz odj (.dK kvs))) := fun b o nb e => by rw [upd_ne (ne_of_none e nd3)]; exact k3 _ _ e
    have oLd : upd H3 e (.frz odj (.dK kvs)) e = some (.frz odj (.dK kvs)) := upd_same
    have LB : L ≠ bs := fun z => by
      obtain ⟨l, et⟩ := memoL.isT
      rw [← z, nL] at et
      cases et
    refine lc_it walk_keys (fun j H' => H' L = some (.lst ((((answersOf (says ns tbl q) part).take j).filter fun v => hardP (bestS (says ns tbl) x of (partOf (says ns tbl q) part v)).1 d).map V.int)) ∧ ButB bs (upd H3 e (.frz odj (.dK kvs))) H' ∧ MemoAt H' bs (says ns tbl) x of tbl.length)
      ⟨upd_same, .of (same_new nL), memoL.same (same_new nL)⟩ (fun j H' _ h => h.2.1 _ _ dB oLd) ?_ ?_
    · rintro j y H4 H5 lj ⟨oL4, B4, M4⟩ ⟨rfl, k0, v0, ekv, rfl⟩
      have eA : ((answersOf (says ns tbl q) part).map Sum.inl)[j]? = some k0 := by
        rw [← ek, List.getElem?_map, ekv]
        rfl
      rw [List.getElem?_map] at eA
      obtain ⟨v, evj, rfl⟩ := Option.map_eq_some_iff.mp eA
      have vin := List.mem_of_getElem? evj
      obtain ⟨t, et, ot⟩ := ev v vin
      have tB := n3 (fun _ z => by cases z) ot
      have td : t ≠ e := fun z => by rw [z, od] at ot; cases ot
      have ot4 := B4 _ _ tB (by rw [upd_ne td]; exact ot)
      have B24 := B0L.trans B4
      have lf : (partOf (says ns tbl q) part v).length ≤ part.length := List.length_filter_le _ _
      refine ⟨rfl, ?_⟩
      refine ⟨_, rfl, a, dx, _, rfl, B24 _ _ naB ha2, rfl, _, rfl, _, rfl, e, _, rfl, .inl ⟨kvs, Sum.inl v, .inr ⟨odj, B4 _ _ dB oLd⟩, rfl, et.symm⟩, _, rfl, _, _, rfl, rfl, ?_⟩
      refine ⟨a, t, bs, ns, tbl, x, of, partOf (says ns tbl q) part v, d, congrArg (fun z => [V.ref a, V.ref t, z]) e1, sea2.but M2.isT B24, M4, ot4, (List.filter_sublist).trans sub, List.length_pos_iff.mpr (part_some vin), by omega, few, fun H6 B6 M6 => ?_⟩
      have oL6 := B6 _ _ LB oL4
      have es := filter_take_snoc (fun v => hardP (bestS (says ns tbl) x of (partOf (says ns tbl q) part v)).1 d) evj
      refine ⟨_, rfl, ?_⟩
      by_cases hh : hardP (bestS (says ns tbl) x of (partOf (says ns tbl q) part v)).1 d = true
      · rw [if_pos hh] at es
        rw [hh]
        refine iteT ⟨_, rfl, _, oL6, ?_, ?_, ?_, ?_⟩
        · have := List.length_filter_le (fun v => hardP (bestS (says ns tbl) x of (partOf (says ns tbl q) part v)).1 d) ((answersOf (says ns tbl q) part).take j)
          rw [List.length_take] at this
          rw [List.length_map, sizeLine_eq]
          omega
        · rw [upd_same, es, List.map_append]
          rfl
        · exact fun b o nb e => by
            rw [upd_ne (ne_of_none e nL)]
            exact B6 _ _ nb (B4 _ _ nb e)
        · exact M6.lock oL6 (fun _ z => by cases z) (fun _ z => by cases z)
      · rw [if_neg hh, List.append_nil] at es
        rw [Bool.eq_false_iff.mpr hh]
        exact iteF ⟨by rw [es]; exact oL6, B4.trans B6, M6⟩
    · rintro H6 ⟨oL6, B6, M6⟩
      rw [lk, List.take_length] at oL6
      have od6 := B6 _ _ dB oLd
      have M7 : MemoAt (upd H6 e (.dK kvs)) bs (says ns tbl) x of tbl.length := M6.lock od6 (fun _ z => by cases z) (fun _ z => by cases z)
      have B37 : ButB bs H3 (upd H6 e (.dK kvs)) := fun b o nb eb => by
        by_cases hb : b = e
        · rw [hb] at eb ⊢
          rw [upd_same, ← od, eb]
        · rw [upd_ne hb]
          exact B6 _ _ nb (by rw [upd_ne hb]; exact eb)
      have Le : L ≠ e := fun z => by rw [z, upd_same] at nL; cases nL
      have B27 : ButB bs H2 (upd H6 e (.dK kvs)) := (ButB.of k3).trans B37
      have oL7 : upd H6 e (.dK kvs) L = some (.lst (((answersOf (says ns tbl q) part).filter fun v => hardP (bestS (says ns tbl) x of (partOf (says ns tbl q) part v)).1 d).map V.int)) := by rw [upd_ne Le]; exact oL6
      obtain ⟨t, et, ot⟩ := ev _ z1
      have tB := n3 (fun _ z => by cases z) ot
      have a0 : atI (((answersOf (says ns tbl q) part).filter fun v => hardP (bestS (says ns tbl) x of (partOf (says ns tbl q) part v)).1 d).map V.int) ((0 : Nat) : Int) = some (.int (firstHard (says ns tbl) x of part d q)) := atI_nat (by rw [List.getElem?_map, z3]; rfl)
      refine ⟨od6, L, _, 0, _, rfl, rfl, SqL.of oL7, a0, ?_⟩
      have ot7 := B37 _ _ tB ot
      have lf : (partOf (says ns tbl q) part (firstHard (says ns tbl) x of part d q)).length ≤ part.length := List.length_filter_le _ _
      refine ⟨_, rfl, _, rfl, a, dx, _, rfl, B27 _ _ naB ha2, rfl, _, rfl, _, rfl, e, _, rfl, .inl ⟨kvs, Sum.inl _, .inl upd_same, rfl, et.symm⟩, _, rfl, _, _, rfl, rfl, ?_⟩
      refine ⟨a, t, bs, ns, tbl, x, of, partOf (says ns tbl q) part (firstHard (says ns tbl) x of part d q), congrArg (fun z => [V.ref a, V.ref t, z]) e1, sea2.but M2.isT B27, M7, ot7, (List.filter_sublist).trans sub, List.length_pos_iff.mpr (part_some z1), few, nof, z2, fun H8 v B8 M8 hv => ?_⟩
      refine ⟨(by show 2 ≤ sizeLine; decide), fun t8 nt8 => ?_⟩
      have B28 := B27.trans B8
      have oD8 := B28 _ _ DB oD
      have Dt8 : D ≠ t8 := ne_of_none oD8 nt8
      have lacc : acc.length ≤ i := by
        have z := congrArg List.length ea
        rw [List.length_map, List.length_map, List.length_take] at z
        omega
      have li : i < of.length := (List.getElem?_eq_some_iff.mp eq_).1
      have so := sea.so
      have oD9 : upd H8 t8 (.tup [.int (firstHard (says ns tbl) x of part d q), v]) D = some (.dK acc) := by rw [upd_ne Dt8]; exact oD8
      refine ⟨_, rfl, _, rfl, D, _, rfl, DPut.k (k := Sum.inr q) oD9 (by rw [sizeLine_eq]; omega), ?_⟩
      have out : Sum.inr q ∉ acc.map (·.1) := by
        rw [ea]
        intro m
        obtain ⟨r, hr, e3⟩ := List.mem_map.mp m
        obtain rfl : r = q := Sum.inr.inj e3
        obtain ⟨j, hj, ej⟩ := List.getElem_of_mem hr
        rw [List.length_take] at hj
        rw [List.getElem_take] at ej
        have ji : j = i := (List.getElem_inj (h₀ := by omega) (h₁ := li) nof).mp (by rw [ej]; exact (List.getElem?_eq_some_iff.mp eq_).2.symm)
        omega
      have ep : of.take (i + 1) = of.take i ++ [q] := by rw [List.take_succ, eq_]; rfl
      have free8 : ∀ {b : Addr}, H8 b = none → H b = none := fun h => (B2.trans B28).free M8.isT h
      have free7 : ∀ {b : Addr}, upd H6 e (.dK kvs) b = none → H b = none := fun h => (B2.trans B27).free M7.isT h
      refine ⟨?_, fun b o nb eb => ?_, (M8.same (same_new nt8)).lock oD9 (fun _ z => by cases z) (fun _ z => by cases z), ⟨_, _, _, rfl⟩, putK acc (Sum.inr q) (.ref t8), upd_same, ?_, ?_⟩
      · have oO8 := B28 _ _ noB oO
        rw [upd_ne (fun z => by rw [z, oD8] at oO8; cases oO8), upd_ne (ne_of_none oO8 nt8)]
        exact oO8
      · have e8 := (B2.trans B28) _ _ nb eb
        rw [upd_ne (ne_of_none eb nD), upd_ne (ne_of_none e8 nt8)]
        exact e8
      · rw [put_new out, map_snoc, ea, ep, map_snoc]
      · intro j k u r ej er
        rw [put_new out] at ej
        by_cases hj : j < acc.length
        · rw [List.getElem?_append_left hj] at ej
          refine (hacc j k u r ej er).keep (fun _ z => z) fun b o hb eb no => ?_
          have e8 := B28 _ _ (fun z => by obtain ⟨l, et⟩ := M2.isT; rw [z, et] at eb; exact no _ (Option.some.inj eb).symm) eb
          rw [upd_ne hb.2, upd_ne (ne_of_none e8 nt8)]
          exact e8
        · have la : acc.length = i := by
            have z := congrArg List.length ea
            rw [List.length_map, List.length_map, List.length_take] at z
            omega
          rw [List.getElem?_append_right (by omega)] at ej
          have j0 : j - acc.length = 0 := by
            rcases Nat.eq_zero_or_pos (j - acc.length) with z | z
            · exact z
            · rw [List.getElem?_eq_none (by simp; omega)] at ej; cases ej
          rw [j0] at ej
          cases ej
          have ji : j = i := by omega
          rw [ji, eq_] at er
          cases er
          refine .sq (isT := true) (us := [.int _, v]) ⟨free8 nt8, Dt8.symm⟩ (by rw [upd_ne Dt8.symm, upd_same]; rfl) rfl fun m y t2 e3 e4 => ?_
          match m, e3, e4 with
          | 0, e3, e4 =>
            cases e3
            cases e4
            exact .at_ (.int _)
          | 1, e3, e4 =>
            cases e3
            cases e4
            refine hv.keep (fun b hb => ⟨free7 hb, fun z => by rw [z, B27 _ _ DB oD] at hb; cases hb⟩) fun b o hb eb _ => ?_
            rw [upd_ne (fun z => by rw [z, B27 _ _ DB oD] at hb; cases hb), upd_ne (ne_of_none eb nt8)]
            exact eb
          | m + 2, e3, e4 => cases e3
  · rintro σ H2 ⟨oO, B2, M2, ⟨s4, s5, s6, rfl⟩, acc, oD, ea, hacc⟩
    rw [List.length_map, List.take_length] at ea
    refine ⟨_, rfl, hq H2 _ B2 M2 (.di (es := acc) nD oD ?_ ?_ ?_)⟩
    · rw [ea, List.map_map]
      rfl
    · rw [List.map_map]
      show (of.map fun q => q).Nodup
      rw [List.map_id']
      exact nof
    · intro i k u y t eu et
      rw [List.getElem?_map] at et
      obtain ⟨q, eq_, e2⟩ := Option.map_eq_some_iff.mp et
      cases e2
      exact (hacc i k u _ eu eq_).keep (fun _ z => z.1) fun _ _ _ e _ => e
end
end L2.TB
/-! asked_files: the questions that may be put, or an error -/
namespace L2.TB
open PySem PySem.Spec PyProof.Rows
def spAskF (K : PySem.W.Frag) (CT CQ CK : Addr) : Sp := fun vs H Q E => ∃ (t : Addr) (x o : V) (ns : List Str) (tbl : List (List Int)), vs = [.ref t, x, o] ∧ TabAt H CT t ns tbl ∧ ns.length < 1000 ∧
  ((BadAsk K H ns x ∧ Flies CQ "name" x H E) ∨ ∃ y, x = .str y ∧ y ∈ ns ∧
    ((o = .non ∧ ∀ H' q, H q = none → Same H H' → H' q = some (.lst ((ns.filter fun z => decide (z ≠ y)).map V.str)) → Q (.ref q) H') ∨ (∃ i : Nat, o ≠ .non ∧ Bad K H ns o (some i) ∧ Flies CK "index" (.int i) H E) ∨
      (∃ (b : Addr) (xs : List V), o = .ref b ∧ SqA K H b xs ∧ Bad K H ns o none ∧ ∀ H' q, H q = none → Same H H' → H' q = some (.lst xs) → Q (.ref q) H')))
abbrev NAf : List Str := ["field", "asked", "of", "names", "name"]
theorem scAf : FnScope NAf ["field", "asked", "of"] (defScope sAskF) := ⟨rfl, rfl, rfl, by decide +kernel, rfl, by decide +kernel, by decide +kernel⟩
section
variable {P : Program} {w : World} {K : PySem.W.Frag} {mg : Str → Option Value} {base : Heap} {f CT CQ CK fQ aF aL aO aK aA aB : Addr} {fd fdQ : FuncData}
theorem ok_askF (F : Fun K "asked_files" "asked_files" sAskF f fd) (T : TabC K CT) (FQ : Fun K "questions" "Table.questions" sQs fQ fdQ) (mQ : Meth K CT "questions" fQ) (Ck : Chk K mg aF aL aO aK aA aB) (EK : ErrF P w K mg base "BadKnown" CK "index") (EQ : ErrF P w K mg base "NoQuestion" CQ "name") (gL : mg "list" = none) :
    FnOk P w K mg base (L2.CX P w) 4 f fd ["field", "asked", "of"] (spAskF K CT CQ CK) := by
  obtain ⟨fdK, FK⟩ := Ck.CK
  obtain ⟨fdA, FA⟩ := Ck.CA
  have GK : FnOk P w K mg base (L2.CX P w) 3 aK fdK ["names", "known"] (spCkKX K CK) := ok_ckKX Ck EK FK
  have GA : FnOk P w K mg base (L2.CX P w) 3 aA fdA ["names", "asked"] (spCkAX K CQ) := ok_ckAX Ck EQ FA
  have GQ : FnOk P w K mg base CX0 1 fQ fdQ ["self"] (spQs K CT) := ok_qs FQ T gL
  have bQ := FQ.binds (ps := ["self"]) fun _ _ _ _ _ _ us hl => match us, hl with | [_], _ => rfl
  have bK := FK.binds (ps := ["names", "known"]) fun _ _ _ _ _ _ us hl => match us, hl with | [_, _], _ => rfl
  have bA := FA.binds (ps := ["names", "asked"]) fun _ _ _ _ _ _ us hl => match us, hl with | [_, _], _ => rfl
  refine F.okX scAf (fun vs H Q E h => by obtain ⟨t, x, o, ns, tbl, e, _⟩ := h; rw [e]; rfl) fun cdv A outer s H vs Q E hr hsp => ?_
  obtain ⟨t, x, o, ns, tbl, rfl, tab, sh, hc⟩ := hsp
  have nd := scAf.nd
  refine ⟨_, pss_cons (ps_set (i := 3) nd rfl (Or.inl rfl) (pe_meth0 (pv 0) T.cl mQ GQ (hr.mono (by decide)) bQ .nil pass0 rfl))
    (pss_cons (ps_expr (pe_callS GA hr rfl Ck.gCA FA.kp bA (fun σ => passAt (takes_of rfl rfl rfl rfl) σ) (pa_cons (pv 3) (pa_cons (pv 1) pa_nil))))
    (pss_cons (ps_if (pt_cmp (pc_isN (pv 2))) (pss_one (ps_ret (pe_lc (own := [("name", 4)]) (g := gName 4) rfl nd (pi_seq (pv 3)) (blkOk_by (N := NAf) (sc := defScope sAskF) (by decide +kernel)) (fun _ _ _ _ _ => pg_name (i := 4) nd rfl (Or.inl rfl)) (fun _ _ _ _ _ => pts_one (pt_cmpR op_ne (pv 4) (pv 1) (nomark _))) (fun _ _ _ _ _ => pv 4)))) pss_nil)
    (pss_cons (ps_expr (pe_callS GK hr rfl Ck.gCK FK.kp bK (fun σ => passAt (takes_of rfl rfl rfl rfl) σ) (pa_cons (pv 3) (pa_cons (pv 2) pa_nil))))
    (pss_one (ps_ret (pe_callTy call_list_of rfl gL boot_list' (pa_cons (pv 2) pa_nil))))))), ?_⟩
  obtain ⟨dx, qa, ra, ha, hqa, hra⟩ := id tab.ex
  refine ⟨_, rfl, t, dx, _, rfl, ha, rfl, ?_⟩
  unfold tNil
  show spQs K CT _ _ _ _
  refine ⟨t, ns, tbl, rfl, tab, fun H1 q nq oq k1 => ?_⟩
  refine ⟨_, rfl, _, rfl, q, ns, x, rfl, SqL.of oq, ?_⟩
  rcases hc with ⟨bad, fl⟩ | ⟨y, rfl, yin, hc⟩
  · exact .inr ⟨bad.same k1, fl.same k1⟩
  · refine .inl ⟨y, rfl, yin, ?_⟩
    rcases hc with ⟨rfl, hq⟩ | ⟨i, on, bad, fl⟩ | ⟨b, xs, rfl, hb, good, hq⟩
    · refine ⟨_, rfl, _, rfl, iteT ?_⟩
      refine ⟨_, rfl, lc_seq (.inl rfl) oq (by rw [List.length_map]; omega) (isStr fun z => decide (z ≠ y)) id ?_ ?_⟩
      · intro i v H2 Cn Nn ev s2 yes no
        rw [List.getElem?_map] at ev
        obtain ⟨z, ez, rfl⟩ := Option.map_eq_some_iff.mp ev
        refine ⟨rfl, _, rfl, _, rfl, rfl, ?_⟩
        by_cases h : z = y
        · exact ⟨false, congrArg V.bl (by rw [h]; simp), iteF (no (decide_eq_false fun c => c h) H2 (Same.refl _))⟩
        · exact ⟨true, congrArg V.bl (by rw [decide_eq_false (fun c => h (V.str.inj c))]; rfl), iteT ⟨_, rfl, yes (decide_eq_true h) H2 (Same.refl _)⟩⟩
      · intro H2 l nl ol s2
        rw [filter_strs] at ol
        exact hq H2 l (k1.free nl) (k1.trans s2) ol
    · refine ⟨_, rfl, false, congrArg V.bl (decide_eq_false on), iteF ?_⟩
      exact ⟨_, rfl, _, rfl, q, ns, o, some i, rfl, oq, bad.same k1, (fun e => (by cases e)), fun j ej => (by cases ej; exact fl.same k1)⟩
    · refine ⟨_, rfl, _, rfl, iteF ?_⟩
      refine ⟨_, rfl, _, rfl, q, ns, .ref b, none, rfl, oq, good.same k1, (fun _ H2 k2 => ?_), fun j ej => (by cases ej)⟩
      exact ⟨_, rfl, b, xs, rfl, (hb.same (k1.trans k2)).imp SqL.of SqT.of, fun l nl => hq _ l ((k1.trans k2).free nl) ((k1.trans k2).trans (same_new nl)) upd_same⟩
end
end L2.TB
/-! is_integer and is_count of anything -/
namespace L2.TB
open PySem PySem.Spec PyProof.Rows
/-- no whole number -/
inductive NoInt (K : PySem.W.Frag) (H : Hp) : V → Prop
  | bl (b : Bool) : NoInt K H (.bl b)
  | ty {v : V} {t : String} (h : TyX K H v (.type t)) (k : kitB t "int" = some false) : NoInt K H v
theorem NoInt.same {K : PySem.W.Frag} {H H' : Hp} {v : V} (h : NoInt K H v) (s : Same H H') : NoInt K H' v := by
  cases h with
  | bl b => exact .bl b
  | ty h k => exact .ty (ty_same h s) k
def spIsIntG (K : PySem.W.Frag) : Sp := fun vs H Q _ => ∃ v : V, vs = [v] ∧ ((∃ k, v = .int k ∧ Q (.bl true) H) ∨ (NoInt K H v ∧ Q (.bl false) H))
def spIsCountG (K : PySem.W.Frag) : Sp := fun vs H Q _ => ∃ v : V, vs = [v] ∧ ((∃ k : Int, v = .int k ∧ Q (.bl (decide (0 ≤ k))) H) ∨ (NoInt K H v ∧ Q (.bl false) H))
theorem scIsCount : FnScope ["thing"] ["thing"] (defScope sIsCount) := ⟨rfl, rfl, rfl, by decide +kernel, rfl, by decide +kernel, by decide +kernel⟩
/-- no count -/
def BadCnt (K : PySem.W.Frag) (H : Hp) (v : V) : Prop := (∃ k : Int, v = .int k ∧ k < 0) ∨ NoInt K H v
theorem BadCnt.same {K : PySem.W.Frag} {H H' : Hp} {v : V} (h : BadCnt K H v) (s : Same H H') : BadCnt K H' v := h.imp id fun h => h.same s
section
variable {P : Program} {w : World} {K : PySem.W.Frag} {mg : Str → Option Value} {base : Heap} {f fCt fI' C CH CQ CN CB fQ fI fPl fPr aF aL aO aK aA aB : Addr} {fd fdCt fdI : FuncData}
theorem ok_isIntG (F : Fun K "is_integer" "is_integer" sIsInt f fd) (gI : mg "isinstance" = none) (gInt : mg "int" = none) (gB : mg "bool" = none) : FnOk P w K mg base CX0 1 f fd ["thing"] (spIsIntG K) := by
  refine F.ok scIsInt (fun vs H Q E h => by obtain ⟨k, e, _⟩ := h; rw [e]; rfl) fun cdv A outer s H vs Q E hr hsp => ?_
  obtain ⟨v, rfl, hq⟩ := hsp
  refine ⟨_, pss_one (ps_ret (pe_and (pe_callB (r := rIsi K) call_isi rfl gI boot_isi (pa_cons (pv 0) (pa_cons (pe_bltn (v := .ty "int") rfl gInt boot_int' rfl) pa_nil)))
    (pe_one (pe_not (pe_callB (r := rIsi K) call_isi rfl gI boot_isi (pa_cons (pv 0) (pa_cons (pe_bltn (v := .ty "bool") rfl gB boot_bool' rfl) pa_nil))))))), ?_⟩
  rcases hq with ⟨k, rfl, hq⟩ | ⟨hn, hq⟩
  · exact ⟨_, rfl, _, _, _, _, true, rfl, .ty _, .base (.int k), kit_ty (by decide +kernel), true, rfl, iteT ⟨_, rfl, _, _, _, _, false, rfl, .ty _, .base (.int k), kit_ty (by decide +kernel), false, rfl, hq⟩⟩
  · cases hn with
    | bl b => exact ⟨_, rfl, _, _, _, _, true, rfl, .ty _, .base (.bl b), kit_ty (by decide +kernel), true, rfl, iteT ⟨_, rfl, _, _, _, _, true, rfl, .ty _, .base (.bl b), kit_ty (by decide +kernel), true, rfl, hq⟩⟩
    | ty h k => exact ⟨_, rfl, _, _, _, _, false, rfl, .ty _, h, kit_ty k, false, rfl, iteF hq⟩
theorem ok_isCountG (F : Fun K "is_count" "is_count" sIsCount f fd) (FI : Fun K "is_integer" "is_integer" sIsInt fI fdI) (gI : mg "is_integer" = some (.ref fI)) (nI : mg "isinstance" = none) (nInt : mg "int" = none) (nB : mg "bool" = none) : FnOk P w K mg base CX0 2 f fd ["thing"] (spIsCountG K) := by
  have GI : FnOk P w K mg base CX0 1 fI fdI ["thing"] (spIsIntG K) := ok_isIntG FI nI nInt nB
  have bI := FI.binds (ps := ["thing"]) fun _ _ _ _ _ _ us hl => match us, hl with | [_], _ => rfl
  refine F.ok scIsCount (fun vs H Q E h => by obtain ⟨k, e, _⟩ := h; rw [e]; rfl) fun cdv A outer s H vs Q E hr hsp => ?_
  obtain ⟨v, rfl, hq⟩ := hsp
  refine ⟨_, pss_one (ps_ret (pe_and (pe_call GI hr rfl gI FI.kp bI .nil pass0 (pa_cons (pv 0) pa_nil)) (pe_one (pe_cmpR op_ge (pv 0) pe_int (nomark _))))), ?_⟩
  rcases hq with ⟨k, rfl, hq⟩ | ⟨hn, hq⟩
  · exact ⟨_, rfl, _, rfl, .inl ⟨k, rfl, _, rfl, iteT ⟨_, rfl, _, _, rfl, rfl, hq⟩⟩⟩
  · exact ⟨_, rfl, _, rfl, .inr ⟨hn, _, rfl, iteF hq⟩⟩
end
end L2.TB
/-! a search made anew; hold -/
namespace L2.TB
open PySem PySem.Spec PyProof.Rows
theorem sea_new {C x dx rL bs q : Addr} {as : List Addr} {H1 H3 : Hp} {ns : List Str} {tbl : List (List Int)} {y : Str} {of : List Str} (nx : H1 x = none) (ndx : H1 dx = none) (nbs : upd (upd H1 dx (.own x)) x (.ins C dx []) bs = none)
    (o1 : H3 x = some (.ins C dx (seaF rL (.str y) (.ref q) .non bs))) (o2 : H3 rL = some (.lst (as.map V.ref))) (o3 : DRows H3 ns as tbl) (o4 : H3 bs = some (.dT [])) (keep : ∀ b o, b ≠ x → upd (upd H1 dx (.own x)) x (.ins C dx []) b = some o → H3 b = some o)
    (oq : H1 q = some (.lst (of.map V.str))) (nd : ns.Nodup) (yin : y ∈ ns) (sub : ∀ z ∈ of, z ∈ ns) (st : tbl.length < 1000) (so : of.length < 1000) : Same H1 H3 ∧ SeaAt H3 C x ns tbl y of bs ∧ MemoAt H3 bs (says ns tbl) y of tbl.length ∧ H1 bs = none := by
  have k : Same H1 H3 := fun b o e => keep b o (ne_of_none e nx) (by rw [upd_ne (ne_of_none e nx), upd_ne (ne_of_none e ndx)]; exact e)
  have bx : bs ≠ x := fun z => by rw [z, upd_same] at nbs; cases nbs
  have bd : bs ≠ dx := fun z => by rw [upd_ne bx, z, upd_same] at nbs; cases nbs
  refine ⟨k, ⟨⟨dx, rL, q, as, o1, o2, o3, k _ _ oq⟩, nd, yin, sub, st, so⟩, ⟨[], o4, by simp, fun k v h => by cases h⟩, ?_⟩
  rw [upd_ne bx, upd_ne bd] at nbs
  exact nbs
/-- hold, for three at most -/
def spHoldA (C : Addr) : Sp := fun vs H Q E => ∃ d, d ≤ 3 ∧ spHold C d vs H Q E
/-- what the functions know of Search and of the table -/
structure SeaP (P : Program) (w : World) (K : PySem.W.Frag) (mg : Str → Option Value) (base : Heap) (CT C CQ CK CN : Addr) : Prop where
  gS : mg "Search" = some (.ref C)
  c : SeaC K C
  mkr : ∃ fI fd, Mk K C fI ∧ FnOk P w K mg base CX0 3 fI fd NSi (spSInit CT C) ∧ Binds K fd NSi []
  wh : ∃ f fd, Meth K C "whole" f ∧ FnOk P w K mg base CX0 1 f fd ["self"] (spWhole C) ∧ Binds K fd ["self"] []
  hard : ∃ f fd, Meth K C "is_hard" f ∧ FnOk P w K mg base CX0 32 f fd ["self", "part", "depth"] (spIsHard C 10) ∧ Binds K fd ["self", "part", "depth"] []
  hold : ∃ f fd, Meth K C "hold" f ∧ FnOk P w K mg base CX0 36 f fd ["self", "part", "depth"] (spHoldA C) ∧ Binds K fd ["self", "part", "depth"] []
  af : ∃ f fd, mg "asked_files" = some (.ref f) ∧ PySem.W.keepIn K (.ref f) = true ∧ FnOk P w K mg base (L2.CX P w) 4 f fd ["field", "asked", "of"] (spAskF K CT CQ CK) ∧ Binds K fd ["field", "asked", "of"] []
  ct : ∃ f fd, mg "is_count" = some (.ref f) ∧ PySem.W.keepIn K (.ref f) = true ∧ FnOk P w K mg base CX0 2 f fd ["thing"] (spIsCountG K) ∧ Binds K fd ["thing"] []
  EN : ErrF P w K mg base "BadNumber" CN "thing"
abbrev FunF (K : PySem.W.Frag) (x : Str) (st : Stmt) (f : Addr) (fd : FuncData) : Prop := FunD K x x (defArgs st) (defBody st) (defScope st) [.non] [] f fd
/-- names that may be put: a list or a tuple of some, each once -/
structure OfAt (K : PySem.W.Frag) (H : Hp) (ns : List Str) (o : V) (of : List Str) : Prop where
  ex : ∃ b, o = .ref b ∧ SqA K H b (of.map V.str)
  good : Bad K H ns o none
  sub : ∀ z ∈ of, z ∈ ns
  nd : of.Nodup
  sh : of.length < 1000
def spHoldF (K : PySem.W.Frag) (CT CQ CK CN : Addr) : Sp := fun vs H Q E => ∃ (t : Addr) (x n o : V) (ns : List Str) (tbl : List (List Int)), vs = [.ref t, x, n, o] ∧ TabAt H CT t ns tbl ∧ ns.Nodup ∧ ns.length < 1000 ∧ 0 < tbl.length ∧ tbl.length ≤ 10 ∧
  ((BadAsk K H ns x ∧ Flies CQ "name" x H E) ∨ ∃ y, x = .str y ∧ y ∈ ns ∧ ((∃ i : Nat, o ≠ .non ∧ Bad K H ns o (some i) ∧ Flies CK "index" (.int i) H E) ∨ ∃ of, OfAt K H ns o of ∧
    ((BadCnt K H n ∧ Flies CN "thing" n H E) ∨ ∃ d : Nat, d ≤ 3 ∧ n = .int d ∧ (hardP (bestS (says ns tbl) y of (List.range tbl.length)).1 d = false → ∀ H', Same H H' → Q .non H') ∧
      (hardP (bestS (says ns tbl) y of (List.range tbl.length)).1 d = true → ∀ H' v, Same H H' → HdAt (fun b => H b = none) H' (holdT (says ns tbl) y of d (List.range tbl.length)) v → Q v H'))))
abbrev NHf : List Str := ["table", "asked", "n", "of", "search", "part"]
theorem scHf : FnScope NHf ["table", "asked", "n", "of"] (defScope sHoldF) := ⟨rfl, rfl, rfl, by decide +kernel, rfl, by decide +kernel, by decide +kernel⟩
section
variable {P : Program} {w : World} {K : PySem.W.Frag} {mg : Str → Option Value} {base : Heap} {f CT C CQ CK CN : Addr} {fd : FuncData}
theorem ok_holdF (F : FunF K "hold" sHoldF f fd) (S : SeaP P w K mg base CT C CQ CK CN) : FnOk P w K mg base (L2.CX P w) 38 f fd ["table", "asked", "n", "of"] (spHoldF K CT CQ CK CN) := by
  obtain ⟨fI, fdI, Mk, GI, bI⟩ := S.mkr
  obtain ⟨fW, fdW, mW, GW, bW⟩ := S.wh
  obtain ⟨fH, fdH, mH, GH, bH⟩ := S.hard
  obtain ⟨fO, fdO, mO, GO, bO⟩ := S.hold
  obtain ⟨fA, fdA, gA, kA, GA, bA⟩ := S.af
  obtain ⟨fC, fdC, gC, kC, GC, bC⟩ := S.ct
  refine FunD.ok F scHf (fun vs H Q E h => by obtain ⟨t, x, n, o, ns, tbl, e, _⟩ := h; rw [e]; rfl) fun cdv A outer s H vs Q E hr hsp => ?_
  obtain ⟨t, x, n, o, ns, tbl, rfl, tab, nnd, nsh, pos, few, hc⟩ := hsp
  have nd := scHf.nd
  refine ⟨_, pss_cons (ps_set (i := 4) nd rfl (Or.inl rfl) (pe_make Mk GI (hr.mono (by decide)) rfl S.gS bI .nil pass0 (pa_cons (pv 0) (pa_cons (pv 1) (pa_cons (pe_callS GA (hr.mono (by decide)) rfl gA kA bA (fun σ => passAt (takes_of rfl rfl rfl rfl) σ) (pa_cons (pv 0) (pa_cons (pv 1) (pa_cons (pv 3) pa_nil)))) (pa_cons pe_non pa_nil))))))
    (pss_cons (ps_if (pt_not (pt_val (pe_call GC (hr.mono (by decide)) rfl gC kC bC .nil pass0 (pa_cons (pv 2) pa_nil)))) (pss_one (ps_raiseE rfl (takes_of rfl rfl rfl rfl) S.EN (hr.mono (by decide)) rfl (pv 2))) pss_nil)
    (pss_cons (ps_set (i := 5) nd rfl (Or.inl rfl) (pe_meth0 (pv 4) S.c.cl mW GW (hr.mono (by decide)) bW .nil pass0 rfl))
    (pss_cons (ps_if (pt_not (pt_val (pe_meth (pv 4) S.c.cl mH GH (hr.mono (by decide)) bH .nil pass0 (pa_cons (pv 5) (pa_cons (pv 2) pa_nil))))) (pss_one (ps_ret pe_non)) pss_nil)
    (pss_one (ps_ret (pe_meth (pv 4) S.c.cl mO GO (hr.mono (by decide)) bO .nil pass0 (pa_cons (pv 5) (pa_cons (pv 2) pa_nil)))))))), ?_⟩
  refine ⟨_, rfl, _, rfl, _, rfl, _, rfl, _, rfl, t, x, o, ns, tbl, rfl, tab, nsh, ?_⟩
  rcases hc with ⟨bad, fl⟩ | ⟨y, rfl, yin, hc⟩
  · exact .inl ⟨bad, fl⟩
  · refine .inr ⟨y, rfl, yin, ?_⟩
    rcases hc with ⟨i, on, bad, fl⟩ | ⟨of, O, hc⟩
    · exact .inr (.inl ⟨i, on, bad, fl⟩)
    · obtain ⟨b, rfl, hb⟩ := O.ex
      refine .inr (.inr ⟨b, _, rfl, hb, O.good, fun H1 q nq k1 oq => ?_⟩)
      intro a dx na ndx ne
      refine ⟨a, dx, t, _, _, _, ns, tbl, rfl, upd_same, ?_, nnd, nsh, by omega, fun H3 rL bs as nrL nbs o1 o2 o3 o4 keep => ⟨rfl, ?_⟩⟩
      · exact (tab.same k1).same fun b o e => by rw [upd_ne (ne_of_none e na), upd_ne (ne_of_none e ndx)]; exact e
      obtain ⟨k13, sea, memo, nbs1⟩ := sea_new na ndx nbs o1 o2 o3 o4 keep oq nnd yin O.sub (by omega) O.sh
      have k03 := k1.trans k13
      have nbs0 : H bs = none := k1.free nbs1
      have fromB : ∀ {H' : Hp}, ButB bs H3 H' → Same H H' := fun B b o e => B _ _ (ne_of_none e nbs0) (k03 _ _ e)
      obtain ⟨dx', rL', oL', as', h1, _, _, _⟩ := id sea.ex
      rcases hc with ⟨bad, fl⟩ | ⟨d, dl, rfl, no, yes⟩
      · refine ⟨_, rfl, n, rfl, ?_⟩
        have fl3 := fl.same k03
        rcases bad with ⟨k, rfl, neg⟩ | bad
        · exact .inl ⟨k, rfl, _, rfl, by rw [decide_eq_false (by omega)]; exact iteT ⟨_, rfl, fl3.up S.EN⟩⟩
        · exact .inr ⟨bad.same k03, _, rfl, iteT ⟨_, rfl, fl3.up S.EN⟩⟩
      · refine ⟨_, rfl, .int d, rfl, .inl ⟨d, rfl, _, rfl, ?_⟩⟩
        rw [decide_eq_true (show (0 : Int) ≤ (d : Int) by omega)]
        refine iteF ?_
        refine ⟨_, rfl, a, dx', _, rfl, h1, rfl, ?_⟩
        unfold tNil
        show spWhole C _ _ _ _
        refine ⟨a, bs, ns, tbl, y, of, rfl, sea, fun H4 p k34 pt => ?_⟩
        have sea4 := sea.same k34
        have memo4 := memo.same k34
        refine ⟨_, rfl, a, dx', _, rfl, k34 _ _ h1, rfl, _, rfl, _, rfl, a, p, bs, ns, tbl, y, of, List.range tbl.length, d, rfl, sea4, memo4, pt.1, List.Sublist.refl _, by rw [List.length_range]; exact pos, by rw [List.length_range]; exact few, few, fun H5 B45 M5 => ?_⟩
        have B35 := (ButB.of k34).trans B45
        refine ⟨_, rfl, ?_⟩
        cases hh : hardP (bestS (says ns tbl) y of (List.range tbl.length)).1 d with
        | false => exact iteT (no hh H5 (fromB B35))
        | true =>
          refine iteF ?_
          have nbp : p ≠ bs := fun z => by have e := pt.1; obtain ⟨l, et⟩ := memo4.isT; rw [z, et] at e; cases e
          have nba : a ≠ bs := fun z => by have e := k34 _ _ h1; obtain ⟨l, et⟩ := memo4.isT; rw [z, et] at e; cases e
          refine ⟨_, rfl, a, dx', _, rfl, B45 _ _ nba (k34 _ _ h1), rfl, _, rfl, _, rfl, d, dl, a, p, bs, ns, tbl, y, of, List.range tbl.length, rfl, sea4.but memo4.isT B45, M5, B45 _ _ nbp pt.1, List.Sublist.refl _, by rw [List.length_range]; exact pos, few, O.nd, hh, fun H6 v B56 M6 hv => ?_⟩
          exact yes hh H6 v (fromB (B35.trans B56)) (hv.keep (fun b hb => k03.free ((ButB.of k34).trans B45 |>.free M5.isT hb)) fun b o _ e _ => e)
end
end L2.TB
/-! looks at a thing; what a hold has to be -/
namespace L2.TB
open PySem PySem.Spec PyProof.Rows
theorem seq_sqA {K : PySem.W.Frag} {H : Hp} {a : Addr} {b : Bool} {us : List V} (h : H a = some (seqO b us)) : SqA K H a us := by
  cases b with
  | true => exact .inr h
  | false => exact .inl h
def isSqT : Hd → Bool
  | .sq _ _ => true
  | _ => false
def isPairT : Hd → Bool
  | .sq _ l => decide (l.length = 2)
  | _ => false
def isIntT : Hd → Option Int
  | .at_ (.int z) => some z
  | _ => none
theorem hd_list {A : Addr → Prop} {K : PySem.W.Frag} {H : Hp} {t : Hd} {v : V} (h : HdAt A H t v) : (isSqT t = true ∧ ∃ a xs, v = .ref a ∧ SqA K H a xs) ∨ (isSqT t = false ∧ NoSeq K H v) := by
  cases h with
  | at_ h =>
    obtain ⟨t, e, _, h2, h3⟩ := atom_ty h K H
    exact .inr ⟨rfl, t, e, h2, h3⟩
  | sq ok h len al => exact .inl ⟨rfl, _, _, rfl, seq_sqA h⟩
  | di ok h ks nd al => exact .inr ⟨rfl, _, .base (.dK h), by decide +kernel, by decide +kernel⟩
theorem hd_int {A : Addr → Prop} {K : PySem.W.Frag} {H : Hp} {t : Hd} {v : V} (h : HdAt A H t v) : (∃ z, isIntT t = some z ∧ v = .int z) ∨ (isIntT t = none ∧ NoInt K H v) := by
  cases h with
  | at_ h =>
    cases h with
    | int i => exact .inl ⟨i, rfl, rfl⟩
    | bl b => exact .inr ⟨rfl, .bl b⟩
    | str x => exact .inr ⟨rfl, .ty (.base (.str x)) (by decide +kernel)⟩
    | non => exact .inr ⟨rfl, .ty (.base .non) (by decide +kernel)⟩
  | @sq a isT us l ok h len al =>
    cases isT with
    | true => exact .inr ⟨rfl, .ty (.base (.tup h)) (by decide +kernel)⟩
    | false => exact .inr ⟨rfl, .ty (.base (.lst h)) (by decide +kernel)⟩
  | di ok h ks nd al => exact .inr ⟨rfl, .ty (.base (.dK h)) (by decide +kernel)⟩
/-- whether it is a dict, and which -/
theorem hd_dict {A : Addr → Prop} {K : PySem.W.Frag} {H : Hp} {t : Hd} {v : V} (h : HdAt A H t v) : (∃ kvs a es, t = .di kvs ∧ v = .ref a ∧ A a ∧ H a = some (.dK es) ∧ (es.map (·.1) = kvs.map fun e => Sum.inr e.1) ∧ (kvs.map (·.1)).Nodup ∧ ∀ (i : Nat) (k : Key) (u : V) (x : Str) (t : Hd), es[i]? = some (k, u) → kvs[i]? = some (x, t) → HdAt A H t u) ∨
    ((∀ kvs, t ≠ .di kvs) ∧ ∃ ty : String, TyX K H v (.type ty) ∧ kitB ty "dict" = some false) := by
  cases h with
  | at_ h =>
    obtain ⟨t, e, h1, _, _⟩ := atom_ty h K H
    exact .inr ⟨fun _ z => (by cases z), t, e, h1⟩
  | @sq a isT us l ok h len al =>
    cases isT with
    | true => exact .inr ⟨fun _ z => (by cases z), _, .base (.tup h), by decide +kernel⟩
    | false => exact .inr ⟨fun _ z => (by cases z), _, .base (.lst h), by decide +kernel⟩
  | @di a es kvs ok h ks nd al => exact .inl ⟨kvs, a, es, rfl, rfl, ok, h, ks, nd, al⟩
def lookT : List (Str × Hd) → Str → Option Hd
  | [], _ => none
  | (x, t) :: r, q => if x = q then some t else lookT r q
theorem look_at {A : Addr → Prop} {H : Hp} : ∀ {es : List (Key × V)} {kvs : List (Str × Hd)} (q : Str), (es.map (·.1) = kvs.map fun e => Sum.inr e.1) → (∀ (i : Nat) (k : Key) (u : V) (x : Str) (t : Hd), es[i]? = some (k, u) → kvs[i]? = some (x, t) → HdAt A H t u) →
    (lookT kvs q = none ∧ valV es (Sum.inr q) = none) ∨ ∃ t u, lookT kvs q = some t ∧ valV es (Sum.inr q) = some u ∧ HdAt A H t u
  | [], [], q, _, _ => .inl ⟨rfl, rfl⟩
  | [], _ :: _, _, h, _ => by cases h
  | _ :: _, [], _, h, _ => by cases h
  | (k, u) :: es, (x, t) :: kvs, q, h, al => by
    rw [List.map_cons, List.map_cons, List.cons.injEq] at h
    obtain rfl : k = Sum.inr x := h.1
    by_cases e : x = q
    · subst e
      exact .inr ⟨t, u, by unfold lookT; rw [if_pos rfl], valV_pos rfl, al 0 _ _ _ _ rfl rfl⟩
    · rcases look_at q h.2 (fun i k u x t e1 e2 => al (i + 1) k u x t (by simpa using e1) (by simpa using e2)) with ⟨h1, h2⟩ | ⟨t2, u2, h1, h2, h3⟩
      · exact .inl ⟨by unfold lookT; rw [if_neg e]; exact h1, by rw [valV_neg (fun z => e (Sum.inr.inj z))]; exact h2⟩
      · exact .inr ⟨t2, u2, by unfold lookT; rw [if_neg e]; exact h1, by rw [valV_neg (fun z => e (Sum.inr.inj z))]; exact h2, h3⟩
/-- what stands beneath a question: the answer and the rest -/
def pairT (t : Option Hd) : Option (Int × Hd) := match t with
  | some (.sq _ [.at_ (.int z), u]) => some (z, u)
  | _ => none
def holdsB (sy : Str → Nat → Int) (x : Str) (of : List Str) : Nat → List Nat → Hd → Bool
  | 0, _, t => match t with
    | .sq _ l => decide (l.length = 0)
    | _ => false
  | d + 1, part, t => match t with
    | .di kvs => decide ((answersOf (sy x) part).length ≠ 1) && (decide (kvs.length = of.length) && of.all fun q => match pairT (lookT kvs q) with
        | some p => decide (p.1 ∈ answersOf (sy q) part) && holdsB sy x of d (partOf (sy q) part p.1) p.2
        | none => false)
    | _ => false
def spPairH (A : Addr → Prop) : Sp := fun vs H Q _ => ∃ v t, vs = [v] ∧ HdAt A H t v ∧ ∀ H', Same H H' → Q (.bl (isPairT t)) H'
theorem scPr : FnScope ["thing"] ["thing"] (defScope sIsPair) := ⟨rfl, rfl, rfl, by decide +kernel, rfl, by decide +kernel, by decide +kernel⟩
section
variable {P : Program} {w : World} {K : PySem.W.Frag} {mg : Str → Option Value} {base : Heap} {f fL : Addr} {fd fdL : FuncData} {A : Addr → Prop}
theorem ok_isPair (F : Fun K "is_pair" "is_pair" sIsPair f fd) (FL : Fun K "is_list" "is_list" sIsList fL fdL) (gL : mg "is_list" = some (.ref fL)) (nI : mg "isinstance" = none) (nL : mg "list" = none) (nT : mg "tuple" = none) (nN : mg "len" = none) : FnOk P w K mg base CX0 2 f fd ["thing"] (spPairH A) := by
  have GL : FnOk P w K mg base CX0 1 fL fdL ["thing"] (spIsListG K) := ok_isListG FL nI nL nT
  have bL := FL.binds (ps := ["thing"]) fun _ _ _ _ _ _ us hl => match us, hl with | [_], _ => rfl
  refine F.ok scPr (fun vs H Q E h => by obtain ⟨v, t, e, _⟩ := h; rw [e]; rfl) fun cdv A outer s H vs Q E hr hsp => ?_
  obtain ⟨v, t, rfl, th, hq⟩ := hsp
  refine ⟨_, pss_one (ps_ret (pe_and (pe_call GL hr rfl gL FL.kp bL .nil pass0 (pa_cons (pv 0) pa_nil)) (pe_one (pe_cmpR op_eq (pe_callB call_len_seq rfl nN boot_len (pa_cons (pv 0) pa_nil)) pe_int (nomark _))))), ?_⟩
  rcases hd_list (K := K) th with ⟨yes, hv⟩ | ⟨no, hv⟩
  · refine ⟨_, rfl, v, rfl, .inl ⟨hv, fun H1 k1 => ⟨_, rfl, iteT ?_⟩⟩⟩
    cases th with
    | at_ h => cases yes
    | di ok h ks nd al => cases yes
    | @sq a isT us l ok h len al =>
      refine ⟨_, rfl, a, us, rfl, (seq_sqA (k1 _ _ h)).seq, rfl, ?_⟩
      have z := hq H1 k1
      have e : isPairT (.sq isT l) = decide (V.int (us.length : Nat) = V.int 2) := by
        show decide (l.length = 2) = _
        rw [← len]
        by_cases c : us.length = 2
        · rw [c]; rfl
        · rw [decide_eq_false c]
          exact (decide_eq_false (fun q => c (by have q := V.int.inj q; omega))).symm
      rw [e] at z
      exact z
  · refine ⟨_, rfl, v, rfl, .inr ⟨hv, fun H1 k1 => ⟨_, rfl, iteF ?_⟩⟩⟩
    have z := hq H1 k1
    have e : isPairT t = false := by
      cases t with
      | sq b l => cases no
      | at_ v => rfl
      | di l => rfl
    rw [e] at z
    exact z
end
end L2.TB
/-! what is_hold has still to look at -/
namespace L2.TB
open PySem PySem.Spec PyProof.Rows
abbrev Itm : Type := Hd × List Nat × Nat
/-- one thing to be looked at: the things stand in Hb from the beginning -/
def ItAt (Hb H : Hp) (m : Nat) (r : Addr) (it : Itm) : Prop := ∃ v p, H r = some (.tup [v, .ref p, .int (it.2.2 : Nat)]) ∧ HdAt (fun _ => True) Hb it.1 v ∧ PartAt H p m it.2.1
theorem ItAt.but {Hb H H' : Hp} {l : Addr} {m : Nat} {r : Addr} {it : Itm} (h : ItAt Hb H m r it) (T : ∃ xs, H l = some (.lst xs)) (s : ButB l H H') : ItAt Hb H' m r it := by
  obtain ⟨xs, el⟩ := T
  obtain ⟨v, p, h1, h2, h3, h4⟩ := h
  exact ⟨v, p, s _ _ (fun z => by rw [z, el] at h1; cases h1) h1, h2, s _ _ (fun z => by rw [z, el] at h3; cases h3) h3, h4⟩
theorem paired_split {α β : Type} {F : α → β → Prop} : ∀ {bs : List β} {b : β} {as : List α}, Paired F as (bs ++ [b]) → ∃ as' a, as = as' ++ [a] ∧ Paired F as' bs ∧ F a b
  | [], b, _, .cons h .nil => ⟨[], _, rfl, .nil, h⟩
  | c :: bs, b, _, .cons h t => by
    obtain ⟨as', a, e, p, q⟩ := paired_split t
    exact ⟨_ :: as', a, by rw [e]; rfl, .cons h p, q⟩
theorem paired_join {α β : Type} {F : α → β → Prop} {as : List α} {bs : List β} {a : α} {b : β} (h : Paired F as bs) (q : F a b) : Paired F (as ++ [a]) (bs ++ [b]) := by
  induction h with
  | nil => exact .cons q .nil
  | cons h _ ih => exact .cons h ih
def wtD (n : Nat) : Nat → Nat
  | 0 => 1
  | d + 1 => 1 + n * wtD n d
def wtL (n : Nat) : List Itm → Nat
  | [] => 0
  | it :: l => wtD n it.2.2 + wtL n l
theorem wtL_app (n : Nat) : ∀ l r : List Itm, wtL n (l ++ r) = wtL n l + wtL n r
  | [], r => by show wtL n r = 0 + _; omega
  | it :: l, r => by
    show wtD n it.2.2 + wtL n (l ++ r) = wtD n it.2.2 + wtL n l + wtL n r
    rw [wtL_app n l r]
    omega
theorem wtL_all (n d : Nat) : ∀ l : List Itm, (∀ it ∈ l, it.2.2 = d) → wtL n l = l.length * wtD n d
  | [], _ => by show 0 = 0 * _; omega
  | it :: l, h => by
    show wtD n it.2.2 + wtL n l = (l.length + 1) * wtD n d
    rw [wtL_all n d l fun i hi => h i (List.mem_cons_of_mem _ hi), h it (by simp), Nat.succ_mul]
    omega
theorem wtD_pos (n : Nat) : ∀ d, 0 < wtD n d
  | 0 => Nat.one_pos
  | d + 1 => by show 0 < 1 + _; omega
section
variable (sy : Str → Nat → Int) (x : Str) (of : List Str)
def holdI (it : Itm) : Bool := holdsB sy x of it.2.2 it.2.1 it.1
/-- what a question leaves to be looked at -/
def childT (d : Nat) (part : List Nat) (kvs : List (Str × Hd)) (q : Str) : Option Itm := match pairT (lookT kvs q) with
  | some p => if p.1 ∈ answersOf (sy q) part then some (p.2, partOf (sy q) part p.1, d) else none
  | none => none
def okQ (d : Nat) (part : List Nat) (kvs : List (Str × Hd)) (q : Str) : Bool := match childT sy d part kvs q with
  | some c => holdI sy x of c
  | none => false
theorem holdsB_di (d : Nat) (part : List Nat) (kvs : List (Str × Hd)) : holdsB sy x of (d + 1) part (.di kvs) = (decide ((answersOf (sy x) part).length ≠ 1) && (decide (kvs.length = of.length) && of.all (okQ sy x of d part kvs))) := by
  have e : ∀ q, (match pairT (lookT kvs q) with
        | some p => decide (p.1 ∈ answersOf (sy q) part) && holdsB sy x of d (partOf (sy q) part p.1) p.2
        | none => false) = okQ sy x of d part kvs q := fun q => by
    unfold okQ childT
    cases pairT (lookT kvs q) with
    | none => rfl
    | some p =>
      show (decide (p.1 ∈ answersOf (sy q) part) && _) = (match (if p.1 ∈ answersOf (sy q) part then some (p.2, partOf (sy q) part p.1, d) else none) with
        | some c => holdI sy x of c
        | none => false)
      by_cases h : p.1 ∈ answersOf (sy q) part
      · rw [if_pos h, decide_eq_true h]; rfl
      · rw [if_neg h, decide_eq_false h]; rfl
  have f : of.all (okQ sy x of d part kvs) = of.all fun q => match pairT (lookT kvs q) with
        | some p => decide (p.1 ∈ answersOf (sy q) part) && holdsB sy x of d (partOf (sy q) part p.1) p.2
        | none => false := by
    congr 1
    funext q
    exact (e q).symm
  rw [f]
  rfl
theorem child_all {d : Nat} {part : List Nat} {kvs : List (Str × Hd)} : ∀ (l : List Str) (cs : List Itm), l.map (childT sy d part kvs) = cs.map some → l.all (okQ sy x of d part kvs) = cs.all (holdI sy x of)
  | [], [], _ => rfl
  | [], _ :: _, h => by cases h
  | _ :: _, [], h => by cases h
  | q :: l, c :: cs, h => by
    rw [List.map_cons, List.map_cons, List.cons.injEq] at h
    rw [List.all_cons, List.all_cons, child_all l cs h.2]
    congr 1
    unfold okQ
    rw [h.1]
theorem child_d {d : Nat} {part : List Nat} {kvs : List (Str × Hd)} {q : Str} {c : Itm} (h : childT sy d part kvs q = some c) : c.2.2 = d := by
  unfold childT at h
  split at h
  · split at h
    · cases h; rfl
    · cases h
  · cases h
theorem child_ds {d : Nat} {part : List Nat} {kvs : List (Str × Hd)} {l : List Str} {cs : List Itm} (h : l.map (childT sy d part kvs) = cs.map some) : ∀ c ∈ cs, c.2.2 = d := fun c hc => by
  have m : some c ∈ cs.map some := List.mem_map.mpr ⟨c, hc, rfl⟩
  rw [← h] at m
  obtain ⟨q, _, e⟩ := List.mem_map.mp m
  exact child_d sy e
end
theorem wtL_len (n : Nat) : ∀ l : List Itm, l.length ≤ wtL n l
  | [] => Nat.le_refl _
  | it :: l => by
    have := wtL_len n l
    have := wtD_pos n it.2.2
    show l.length + 1 ≤ wtD n it.2.2 + wtL n l
    omega
/-- a, b = pair, a list or a tuple -/
theorem pair_or {K : PySem.W.Frag} {H : Hp} {a : Addr} {b : Bool} {u1 u2 : V} {g1 g2 : TG} {σ : St} {Q : St → Hp → Prop} (h : H a = some (seqO b [u1, u2])) (hq : gCons g1 (gCons g2 gNil) [u1, u2] σ H Q) :
    gTup K 2 (gCons g1 (gCons g2 gNil)) (.ref a) σ H Q ∨ gUnl K 2 (gCons g1 (gCons g2 gNil)) (.ref a) σ H Q := by
  rcases (seq_sqA (K := K) h).seq with h | h
  · exact .inr ⟨a, _, rfl, h, rfl, hq⟩
  · exact .inl ⟨a, _, rfl, h, rfl, hq⟩
/-- pairs among things -/
theorem pair_get {A : Addr → Prop} {H : Hp} {t : Hd} {v : V} (h : HdAt A H t v) (hp : isPairT t = true) : ∃ (a : Addr) (b : Bool) (u1 u2 : V) (t1 t2 : Hd), v = .ref a ∧ t = .sq b [t1, t2] ∧ H a = some (seqO b [u1, u2]) ∧ HdAt A H t1 u1 ∧ HdAt A H t2 u2 := by
  cases h with
  | at_ h => cases hp
  | di ok h ks nd al => cases hp
  | @sq a isT us l ok h len al =>
    have l2 : l.length = 2 := of_decide_eq_true hp
    match l, us, len, l2, al, h with
    | [t1, t2], [u1, u2], _, _, al, h => exact ⟨a, isT, u1, u2, t1, t2, rfl, rfl, h, al 0 _ _ rfl rfl, al 1 _ _ rfl rfl⟩
theorem pairT_not {t : Hd} (h : isPairT t = false) : pairT (some t) = none := by
  cases t with
  | at_ v => rfl
  | di l => rfl
  | sq b l =>
    have l2 : ¬ l.length = 2 := of_decide_eq_false h
    match l, l2 with
    | [], _ => rfl
    | [t1], _ => cases t1 with
      | at_ v => cases v <;> rfl
      | sq _ _ => rfl
      | di _ => rfl
    | [t1, t2], l2 => exact absurd rfl l2
    | t1 :: t2 :: t3 :: r, _ => cases t1 with
      | at_ v => cases v <;> rfl
      | sq _ _ => rfl
      | di _ => rfl
theorem pairT_int {b : Bool} {t1 t2 : Hd} : pairT (some (.sq b [t1, t2])) = (isIntT t1).map fun z => (z, t2) := by
  cases t1 with
  | at_ v => cases v <;> rfl
  | sq _ _ => rfl
  | di _ => rfl
end L2.TB
/-! is_hold -/
namespace L2.TB
open PySem PySem.Spec PyProof.Rows
theorem pg_or {X : Cx} {e : Expr} {t1 t2 : TG} (h1 : PG X e t1) (h2 : PG X e t2) : PG X e (fun v σ H Q => t1 v σ H Q ∨ t2 v σ H Q) := ⟨fun pins s σ H v u Q I r h => h.elim (h1.run pins s σ H v u Q I r) (h2.run pins s σ H v u Q I r)⟩
theorem wtD_few {n d : Nat} (hn : n ≤ 10) (hd : d ≤ 3) : wtD n d ≤ 1111 := by
  have mono : ∀ d, wtD n d ≤ wtD 10 d := fun d => by
    induction d with
    | zero => exact Nat.le_refl _
    | succ d ih =>
      show 1 + n * wtD n d ≤ 1 + 10 * wtD 10 d
      have := Nat.mul_le_mul hn ih
      omega
  refine Nat.le_trans (mono d) ?_
  match d, hd with
  | 0, _ => decide
  | 1, _ => decide
  | 2, _ => decide
  | 3, _ => decide
/-- the questions that may be put: all others, or some of them -/
def OfIs (K : PySem.W.Frag) (H : Hp) (ns : List Str) (y : Str) (o : V) (of : List Str) : Prop := OfAt K H ns o of ∨ (o = .non ∧ of = ns.filter fun z => decide (z ≠ y))
def spIsHoldF (K : PySem.W.Frag) (CT CQ CK CN : Addr) : Sp := fun vs H Q E => ∃ (t : Addr) (x n th o : V) (ns : List Str) (tbl : List (List Int)), vs = [.ref t, x, n, th, o] ∧ TabAt H CT t ns tbl ∧ ns.Nodup ∧ ns.length ≤ 10 ∧ 0 < tbl.length ∧ tbl.length ≤ 10 ∧
  ((BadAsk K H ns x ∧ Flies CQ "name" x H E) ∨ ∃ y, x = .str y ∧ y ∈ ns ∧ ((∃ i : Nat, o ≠ .non ∧ Bad K H ns o (some i) ∧ Flies CK "index" (.int i) H E) ∨ ∃ of, OfIs K H ns y o of ∧
    ((BadCnt K H n ∧ Flies CN "thing" n H E) ∨ ∃ (d : Nat) (tv : Hd), d ≤ 3 ∧ of.Nodup ∧ n = .int d ∧ HdAt (fun _ => True) H tv th ∧ ∀ H', Same H H' → Q (.bl (holdsB (says ns tbl) y of d (List.range tbl.length) tv)) H')))
abbrev NIs : List Str := ["table", "asked", "n", "thing", "of", "names", "search", "left", "one", "part", "depth", "name", "answer", "below", "parts"]
theorem scIs : FnScope NIs ["table", "asked", "n", "thing", "of"] (defScope sIsHold) := ⟨rfl, rfl, rfl, by decide +kernel, rfl, by decide +kernel, by decide +kernel⟩
/-- what is_hold calls besides -/
structure HoldP (P : Program) (w : World) (K : PySem.W.Frag) (mg : Str → Option Value) (base : Heap) (C : Addr) : Prop where
  po : ∃ f fd, Meth K C "parts_of" f ∧ FnOk P w K mg base CX0 1 f fd ["self", "part", "question"] (spPartsOf C) ∧ Binds K fd ["self", "part", "question"] []
  li : ∃ f fd, mg "is_list" = some (.ref f) ∧ PySem.W.keepIn K (.ref f) = true ∧ FnOk P w K mg base CX0 1 f fd ["thing"] (spIsListG K) ∧ Binds K fd ["thing"] []
  pr : ∃ f fd, mg "is_pair" = some (.ref f) ∧ PySem.W.keepIn K (.ref f) = true ∧ (∀ A, FnOk P w K mg base CX0 2 f fd ["thing"] (spPairH A)) ∧ Binds K fd ["thing"] []
  it : ∃ f fd, mg "is_integer" = some (.ref f) ∧ PySem.W.keepIn K (.ref f) = true ∧ FnOk P w K mg base CX0 1 f fd ["thing"] (spIsIntG K) ∧ Binds K fd ["thing"] []
  nI : mg "isinstance" = none
  nD : mg "dict" = none
  nN : mg "len" = none
section
variable {P : Program} {w : World} {K : PySem.W.Frag} {mg : Str → Option Value} {base : Heap} {f CT C CQ CK CN : Addr} {fd : FuncData}
theorem ok_isHoldF (F : FunF K "is_hold" sIsHold f fd) (S : SeaP P w K mg base CT C CQ CK CN) (U : HoldP P w K mg base C) : FnOk P w K mg base (L2.CX P w) 6 f fd ["table", "asked", "n", "thing", "of"] (spIsHoldF K CT CQ CK CN) := by
  obtain ⟨fI, fdI, Mk, GI, bI⟩ := S.mkr
  obtain ⟨fW, fdW, mW, GW, bW⟩ := S.wh
  obtain ⟨fA, fdA, gA, kA, GA, bA⟩ := S.af
  obtain ⟨fC, fdC, gC, kC, GC, bC⟩ := S.ct
  obtain ⟨fP, fdP, mP, GP, bP⟩ := U.po
  obtain ⟨fL, fdL, gL, kL, GL, bL⟩ := U.li
  obtain ⟨fR, fdR, gR, kR, GR, bR⟩ := U.pr
  obtain ⟨fT, fdT, gT, kT, GT, bT⟩ := U.it
  refine FunD.ok F scIs (fun vs H Q E h => by obtain ⟨t, x, n, th, o, ns, tbl, e, _⟩ := h; rw [e]; rfl) fun cdv A outer s H vs Q E hr hsp => ?_
  obtain ⟨t, x, n, th, o, ns, tbl, rfl, tab, nnd, nsh, pos, few, hc⟩ := hsp
  have nd := scIs.nd
  have hu := hu_of (hr.mono (show 1 ≤ 5 by decide))
  refine ⟨_, pss_cons (ps_set (i := 5) nd rfl (Or.inl rfl) (pe_callS GA (hr.mono (by decide)) rfl gA kA bA (fun σ => passAt (takes_of rfl rfl rfl rfl) σ) (pa_cons (pv 0) (pa_cons (pv 1) (pa_cons (pv 4) pa_nil)))))
    (pss_cons (ps_if (pt_not (pt_val (pe_call GC (hr.mono (by decide)) rfl gC kC bC .nil pass0 (pa_cons (pv 2) pa_nil)))) (pss_one (ps_raiseE rfl (takes_of rfl rfl rfl rfl) S.EN (hr.mono (by decide)) rfl (pv 2))) pss_nil)
    (pss_cons (ps_set (i := 6) nd rfl (Or.inl rfl) (pe_make Mk GI (hr.mono (by decide)) rfl S.gS bI .nil pass0 (pa_cons (pv 0) (pa_cons (pv 1) (pa_cons (pv 5) (pa_cons pe_non pa_nil))))))
    (pss_cons (ps_set (i := 7) nd rfl (Or.inl rfl) (pe_lst (pa_cons (pe_tup (pa_cons (pv 3) (pa_cons (pe_meth0 (pv 6) S.c.cl mW GW (hr.mono (by decide)) bW .nil pass0 rfl) (pa_cons (pv 2) pa_nil)))) pa_nil)))
    (pss_cons (ps_while (passes_of rfl) (pt_truth (pv 7) (fun _ => rfl))
      (pss_cons (ps_asg (pe_bm0 PySem.F.plainAttrs_list PySem.F.slot_list_pop PySem.F.type_list_pop mt_pop (pv 7)) (pg_tup rfl (pgs_cons (pg_name (i := 8) nd rfl (Or.inl rfl)) (pgs_cons (pg_name (i := 9) nd rfl (Or.inl rfl)) (pgs_cons (pg_name (i := 10) nd rfl (Or.inl rfl)) pgs_nil)))))
      (pss_one (ps_if (pt_cmpR op_eq (pv 10) pe_int (nomark _))
        (pss_one (ps_if (PW.pt (pw_or (pt_not (pt_val (pe_call GL (hr.mono (by decide)) rfl gL kL bL .nil pass0 (pa_cons (pv 8) pa_nil)))) (pw_or1 (pt_cmpR op_ne (pe_callB call_len_seq rfl U.nN boot_len (pa_cons (pv 8) pa_nil)) pe_int (nomark _))))) (pss_one (ps_ret pe_bl)) pss_nil))
        (pss_one (ps_if (PW.pt (pw_or (pt_cmpR op_eq (pe_callB call_lenD rfl U.nN boot_len (pa_cons (pe_meth (pv 6) S.c.cl mP GP (hr.mono (by decide)) bP .nil pass0 (pa_cons (pv 9) (pa_cons (pv 1) pa_nil))) pa_nil)) pe_int (nomark _))
            (pw_or (pt_not (pt_val (pe_callB (r := rIsi K) call_isi rfl U.nI boot_isi (pa_cons (pv 8) (pa_cons (pe_bltn (v := .ty "dict") rfl U.nD boot_dict' rfl) pa_nil)))))
              (pw_or1 (pt_cmpR op_ne (pe_callB call_lenD rfl U.nN boot_len (pa_cons (pv 8) pa_nil)) (pe_callB call_len rfl U.nN boot_len (pa_cons (pv 5) pa_nil)) (nomark _))))))
          (pss_one (ps_ret pe_bl))
          (pss_one (ps_for (passes_of rfl) rfl (pi_seq (pv 5)) (pg_name (i := 11) nd rfl (Or.inl rfl))
            (pss_cons (ps_if (PW.pt (pw_or (pt_cmp (pc_dnotin hu (pv 11) (pv 8))) (pw_or (pt_not (pt_val (pe_call (GR (fun _ => True)) (hr.mono (by decide)) rfl gR kR bR .nil pass0 (pa_cons (pe_dget hu (pv 8) (pv 11) (fun _ _ => rfl)) pa_nil))))
                (pw_or1 (pt_not (pt_val (pe_call GT (hr.mono (by decide)) rfl gT kT bT .nil pass0 (pa_cons (pe_ix (r := rIx K) ix_seq (pe_dget hu (pv 8) (pv 11) (fun _ _ => rfl)) pe_int (fun _ _ => rfl)) pa_nil))))))))
              (pss_one (ps_ret pe_bl)) pss_nil)
            (pss_cons (ps_asg (pe_dget hu (pv 8) (pv 11) (fun _ _ => rfl)) (pg_or (pg_tup rfl (pgs_cons (pg_name (i := 12) nd rfl (Or.inl rfl)) (pgs_cons (pg_name (i := 13) nd rfl (Or.inl rfl)) pgs_nil))) (pg_unl rfl (pgs_cons (pg_name (i := 12) nd rfl (Or.inl rfl)) (pgs_cons (pg_name (i := 13) nd rfl (Or.inl rfl)) pgs_nil)))))
            (pss_cons (ps_set (i := 14) nd rfl (Or.inl rfl) (pe_meth (pv 6) S.c.cl mP GP (hr.mono (by decide)) bP .nil pass0 (pa_cons (pv 9) (pa_cons (pv 11) pa_nil))))
            (pss_cons (ps_if (pt_cmp (pc_dnotin hu (pv 12) (pv 14))) (pss_one (ps_ret pe_bl)) pss_nil)
            (pss_one (ps_expr (pe_bm PySem.F.plainAttrs_list PySem.F.slot_list_append PySem.F.type_list_append mt_append (pv 7) (pa_cons (pe_tup (pa_cons (pv 13) (pa_cons (pe_dget hu (pv 14) (pv 12) (fun _ _ => rfl)) (pa_cons (pe_op op_sub (pv 10) pe_int) pa_nil)))) pa_nil))))))))))))))))
    (pss_one (ps_ret pe_bl)))))), ?_⟩
  refine ⟨_, rfl, _, rfl, _, rfl, t, x, o, ns, tbl, rfl, tab, by omega, ?_⟩
  rcases hc with ⟨bad, fl⟩ | ⟨y, rfl, yin, hc⟩
  · exact .inl ⟨bad, fl⟩
  refine .inr ⟨y, rfl, yin, ?_⟩
  rcases hc with ⟨i, on, bad, fl⟩ | ⟨of, O, hc⟩
  · exact .inr (.inl ⟨i, on, bad, fl⟩)
  have ofsub : ∀ z ∈ of, z ∈ ns := by
    rcases O with O | ⟨_, rfl⟩
    · exact O.sub
    · exact fun z hz => (List.mem_filter.mp hz).1
  have ofsh : of.length < 1000 := by
    rcases O with O | ⟨_, rfl⟩
    · exact O.sh
    · have := List.length_filter_le (fun z => decide (z ≠ y)) ns
      omega
  have pick : ∀ G : Hp → Addr → Prop, (∀ H1 q, H q = none → Same H H1 → H1 q = some (.lst (of.map V.str)) → G H1 q) → (o = .non ∧ ∀ H' q, H q = none → Same H H' → H' q = some (.lst ((ns.filter fun z => decide (z ≠ y)).map V.str)) → G H' q) ∨ (∃ i : Nat, o ≠ .non ∧ Bad K H ns o (some i) ∧ Flies CK "index" (.int i) H E) ∨
      (∃ (b : Addr) (xs : List V), o = .ref b ∧ SqA K H b xs ∧ Bad K H ns o none ∧ ∀ H' q, H q = none → Same H H' → H' q = some (.lst xs) → G H' q) := fun G h => by
    rcases O with O | ⟨eo, rfl⟩
    · obtain ⟨b, eo, hb⟩ := O.ex
      exact .inr (.inr ⟨b, _, eo, hb, O.good, fun H' q n k e => h H' q n k e⟩)
    · exact .inl ⟨eo, fun H' q n k e => h H' q n k e⟩
  refine pick _ fun H1 q nq k1 oq => ?_
  rcases hc with ⟨bad, fl⟩ | ⟨d, tv, dl, nof, rfl, hth, hq⟩
  · refine ⟨_, rfl, n, rfl, ?_⟩
    have fl1 := fl.same k1
    rcases bad with ⟨k, rfl, neg⟩ | bad
    · exact .inl ⟨k, rfl, _, rfl, by rw [decide_eq_false (by omega)]; exact iteT ⟨_, rfl, fl1.up S.EN⟩⟩
    · exact .inr ⟨bad.same k1, _, rfl, iteT ⟨_, rfl, fl1.up S.EN⟩⟩
  refine ⟨_, rfl, .int d, rfl, .inl ⟨d, rfl, _, rfl, ?_⟩⟩
  rw [decide_eq_true (show (0 : Int) ≤ (d : Int) by omega)]
  refine iteF ?_
  refine ⟨_, rfl, _, rfl, _, rfl, ?_⟩
  intro a dx na ndx ne
  refine ⟨a, dx, t, _, _, _, ns, tbl, rfl, upd_same, (tab.same k1).same fun b o e => (by rw [upd_ne (ne_of_none e na), upd_ne (ne_of_none e ndx)]; exact e), nnd, by omega, by omega, fun H3 rL bs as nrL nbs o1 o2 o3 o4 keep => ⟨rfl, ?_⟩⟩
  obtain ⟨k13, sea, memo, nbs1⟩ := sea_new na ndx nbs o1 o2 o3 o4 keep oq nnd yin ofsub (by omega) ofsh
  obtain ⟨dx', rL', oL', as', h1, _, _, _⟩ := id sea.ex
  refine ⟨_, rfl, _, rfl, a, dx', _, rfl, h1, rfl, ?_⟩
  unfold tNil
  show spWhole C _ _ _ _
  refine ⟨a, bs, ns, tbl, y, of, rfl, sea, fun H4 p k34 pt => ?_⟩
  have k04 := (k1.trans k13).trans k34
  have sea4 := sea.same k34
  have h14 := k34 _ _ h1
  have oq4 := k34 _ _ (k13 _ _ oq)
  have th4 := hth.same k04
  refine ⟨_, rfl, (by show 3 ≤ sizeLine; decide), fun r nr => ⟨(by show 1 ≤ sizeLine; decide), fun l nl => ?_⟩⟩
  have kr := same_new (o := .tup [th, .ref p, .int (d : Nat)]) nr
  have kl := same_new (o := .lst [.ref r]) nl
  have nl4 : H4 l = none := kr.free nl
  have lof : of.length ≤ 10 := Nat.le_trans (nodup_le nof ofsub) nsh
  have w0 : wtD of.length d ≤ 1111 := wtD_few lof dl
  refine ⟨fun m σ H' => ∃ (items : List Itm) (rs : List Addr), m = wtL of.length items ∧ m ≤ 1111 ∧ H' l = some (.lst (rs.map V.ref)) ∧ Paired (ItAt H4 H' tbl.length) rs items ∧ Same H4 H' ∧ holdsB (says ns tbl) y of d (List.range tbl.length) tv = items.all (holdI (says ns tbl) y of) ∧
      ∃ s8 s9 s10 s11 s12 s13 s14, σ = [some (.ref t), some (.str y), some (.int (d : Nat)), some th, some o, some (.ref q), some (.ref a), some (.ref l), s8, s9, s10, s11, s12, s13, s14],
    ⟨_, [(tv, List.range tbl.length, d)], [r], rfl, ?_, upd_same, .cons ⟨th, p, kl _ _ upd_same, th4, (pt.same kr).same kl⟩ .nil, kr.trans kl, ?_, _, _, _, _, _, _, _, rfl⟩, ?_⟩
  · show wtD of.length d + 0 ≤ 1111
    omega
  · show _ = (holdI _ _ _ _ && true)
    rw [Bool.and_true]
    rfl
  rintro m σ H5 ⟨items, rs, rfl, small, ol, pr, k45, eall, s8, s9, s10, s11, s12, s13, s14, rfl⟩
  refine ⟨_, rfl, !(rs.map V.ref).isEmpty, .inl ⟨_, SqL.of ol, rfl⟩, ?_⟩
  rcases List.eq_nil_or_concat items with rfl | ⟨init, it, ei⟩
  · cases pr
    have z := hq H5 (k04.trans k45)
    rw [eall] at z
    exact iteF z
  rw [List.concat_eq_append] at ei
  subst ei
  obtain ⟨rs', r0, rfl, pr', hit⟩ := paired_split pr
  have e1 : (!((rs' ++ [r0]).map V.ref).isEmpty) = true := by simp
  rw [e1]
  refine iteT ⟨_, fun _ _ h => h, ?_⟩
  have e2 : ((rs' ++ [r0]).map V.ref)[((rs' ++ [r0]).map V.ref).length - 1]? = some (V.ref r0) := by simp
  have e3 : ((rs' ++ [r0]).map V.ref).dropLast = rs'.map V.ref := by simp
  refine ⟨_, rfl, .inl ⟨rfl, _, SqL.of ol⟩, l, _, .ref r0, rfl, rfl, ol, e2, ?_⟩
  rw [e3]
  have T5 : ∃ xs, H5 l = some (.lst xs) := ⟨_, ol⟩
  have B56 : ButB l H5 (upd H5 l (.lst (rs'.map V.ref))) := fun b o nb e => by rw [upd_ne nb]; exact e
  have k46 : Same H4 (upd H5 l (.lst (rs'.map V.ref))) := fun b o e => by rw [upd_ne (ne_of_none e nl4)]; exact k45 _ _ e
  have pr6 := Paired.mapP pr' fun r it h => h.but T5 B56
  have hit6 := hit.but T5 B56
  have ol6 : upd H5 l (.lst (rs'.map V.ref)) l = some (.lst (rs'.map V.ref)) := upd_same
  generalize upd H5 l (.lst (rs'.map V.ref)) = H6 at B56 k46 pr6 hit6 ol6
  obtain ⟨tv1, part, dd⟩ := it
  obtain ⟨v, p0, i1, i2, i3⟩ := hit6
  refine ⟨r0, _, rfl, SqT.of i1, rfl, _, _, rfl, _, _, rfl, _, _, rfl, rfl, ?_⟩
  have hall : holdsB (says ns tbl) y of d (List.range tbl.length) tv = (init.all (holdI (says ns tbl) y of) && holdsB (says ns tbl) y of dd part tv1) := by
    rw [eall, List.all_append]
    show (_ && (_ && true)) = _
    rw [Bool.and_true]
    rfl
  have wt6 : wtL of.length (init ++ [(tv1, part, dd)]) = wtL of.length init + wtD of.length dd := by
    rw [wtL_app]
    rfl
  -- what is wrong is told
  have wrong : ∀ H', Same H4 H' → holdsB (says ns tbl) y of dd part tv1 = false → Q (.bl false) H' := fun H' k e => by
    have z := hq H' (k04.trans k)
    rw [hall, e, Bool.and_false] at z
    exact z
  cases dd with
  | zero =>
    refine ⟨_, rfl, rfl, true, rfl, iteT ?_⟩
    have i6 := i2.same k46
    rcases hd_list (K := K) i6 with ⟨yes, hv⟩ | ⟨no, hv⟩
    · refine ⟨_, rfl, v, rfl, .inl ⟨hv, fun H7 k67 => ⟨_, rfl, iteF ?_⟩⟩⟩
      have k47 := k46.trans k67
      cases i6 with
      | at_ h => cases yes
      | di ok h ks nd al => cases yes
      | @sq b isT us tl ok h len al =>
        refine ⟨_, rfl, b, us, rfl, (seq_sqA (k67 _ _ h)).seq, rfl, ?_⟩
        by_cases z : tl.length = 0
        · refine ⟨false, congrArg V.bl (by rw [decide_eq_true (congrArg V.int (by rw [len, z]; rfl))]; rfl), iteF ?_⟩
          refine ⟨wtL of.length init, by rw [wt6]; have := wtD_pos of.length 0; omega, init, rs', rfl, by omega, k67 _ _ ol6, Paired.mapP pr6 fun r it h => h.but ⟨_, ol6⟩ (.of k67), k47, ?_, _, _, _, _, _, _, _, rfl⟩
          rw [hall]
          show (_ && decide (tl.length = 0)) = _
          rw [decide_eq_true z, Bool.and_true]
        · refine ⟨true, congrArg V.bl (by rw [decide_eq_false (fun q => z (by have q := V.int.inj q; omega))]; rfl), iteT (wrong H7 k47 ?_)⟩
          show decide (tl.length = 0) = false
          exact decide_eq_false z
    · refine ⟨_, rfl, v, rfl, .inr ⟨hv, fun H7 k67 => ⟨_, rfl, iteT (iteT (wrong H7 (k46.trans k67) ?_))⟩⟩⟩
      cases tv1 with
      | at_ v => rfl
      | di l => rfl
      | sq b l => cases no
  | succ d1 =>
    refine ⟨_, rfl, rfl, false, congrArg V.bl (decide_eq_false (fun z => by have z : ((d1 + 1 : Nat) : Int) = 0 := V.int.inj z; omega)), iteF ?_⟩
    have sea6 := sea4.same k46
    refine ⟨_, rfl, a, dx', _, rfl, k46 _ _ h14, rfl, _, rfl, _, rfl, a, p0, bs, ns, tbl, y, y, of, part, rfl, sea6, i3, yin, fun H7 e k67 ne7 P7 => ?_⟩
    obtain ⟨ks, oe, ek, _⟩ := P7
    have lks : ks.length = (answersOf (says ns tbl y) part).length := by
      have z := congrArg List.length ek
      rw [List.length_map, List.length_map] at z
      exact z
    have k47 := k46.trans k67
    refine ⟨e, ks, rfl, oe, rfl, ?_⟩
    by_cases one : (answersOf (says ns tbl y) part).length = 1
    · refine ⟨true, congrArg V.bl (decide_eq_true (by rw [lks, one]; rfl)), iteT (iteT (wrong H7 k47 ?_))⟩
      cases tv1 with
      | at_ v => rfl
      | sq b l => rfl
      | di kvs =>
        rw [holdsB_di, decide_eq_false (fun c => c one)]
        rfl
    refine ⟨false, congrArg V.bl (decide_eq_false (fun z => one (by rw [lks] at z; have z := V.int.inj z; omega))), iteF ?_⟩
    rcases hd_dict (K := K) i2 with ⟨kvs, b, es, rfl, rfl, _, hes, kes, nkv, al⟩ | ⟨nod, ty, hty, kty⟩
    rotate_left
    · refine ⟨_, rfl, _, _, _, _, false, rfl, .ty _, ty_same hty k47, kit_ty kty, _, rfl, iteT (iteT (wrong H7 k47 ?_))⟩
      cases tv1 with
      | at_ v => rfl
      | sq b l => rfl
      | di kvs => exact absurd rfl (nod kvs)
    refine ⟨_, rfl, _, _, _, _, true, rfl, .ty _, .base (.dK (k47 _ _ hes)), kit_ty (by decide +kernel), _, rfl, iteF ?_⟩
    have les : es.length = kvs.length := by
      have z := congrArg List.length kes
      rw [List.length_map, List.length_map] at z
      exact z
    have oq7 := k47 _ _ oq4
    refine ⟨_, rfl, b, es, rfl, k47 _ _ hes, _, rfl, _, of.length, rfl, .inl ⟨_, SqL.of oq7, by rw [List.length_map]⟩, rfl, ?_⟩
    by_cases ln : kvs.length = of.length
    rotate_left
    · refine ⟨true, congrArg V.bl (by rw [decide_eq_false (fun q => ln (by rw [← les]; have q := V.int.inj q; omega))]; rfl), iteT (wrong H7 k47 ?_)⟩
      rw [holdsB_di, decide_eq_false ln, Bool.false_and, Bool.and_false]
    refine ⟨false, congrArg V.bl (by rw [decide_eq_true (congrArg V.int (by rw [les, ln]))]; rfl), iteF ?_⟩
    have cur : holdsB (says ns tbl) y of (d1 + 1) part (.di kvs) = of.all (okQ (says ns tbl) y of d1 part kvs) := by
      rw [holdsB_di, decide_eq_true one, decide_eq_true ln, Bool.true_and, Bool.true_and]
    refine ⟨_, rfl, for_seq (.inl rfl) (fun i σ H' => Same H4 H' ∧ PartAt H' p0 tbl.length part ∧ (∃ s11 s12 s13 s14, σ = [some (.ref t), some (.str y), some (.int (d : Nat)), some th, some o, some (.ref q), some (.ref a), some (.ref l), some (.ref b), some (.ref p0), some (.int (d1 + 1 : Nat)), s11, s12, s13, s14]) ∧
        ∃ (cs : List Itm) (rsx : List Addr), H' l = some (.lst (rsx.map V.ref)) ∧ Paired (ItAt H4 H' tbl.length) rsx (init ++ cs) ∧ (of.take i).map (childT (says ns tbl) d1 part kvs) = cs.map some)
      ⟨k47, i3.same k67, ⟨_, _, _, _, rfl⟩, [], rs', k67 _ _ ol6, by rw [List.append_nil]; exact Paired.mapP pr6 fun r it h => h.but ⟨_, ol6⟩ (.of k67), rfl⟩ (fun i σ H' _ h => h.1 _ _ oq4) ?_ ?_⟩
    rotate_left
    · rintro σ H8 ⟨k48, pt8, ⟨s11, s12, s13, s14, rfl⟩, cs, rsx, ol8, pr8, ecs⟩
      rw [List.length_map, List.take_length] at ecs
      have lcs : cs.length = of.length := by
        have z := congrArg List.length ecs
        rw [List.length_map, List.length_map] at z
        exact z.symm
      have wcs : wtL of.length (init ++ cs) = wtL of.length init + of.length * wtD of.length d1 := by
        rw [wtL_app, wtL_all _ d1 cs (child_ds _ ecs), lcs]
      have w1 : wtD of.length (d1 + 1) = 1 + of.length * wtD of.length d1 := rfl
      refine ⟨wtL of.length (init ++ cs), by rw [wt6, wcs, w1]; omega, init ++ cs, rsx, rfl, ?_, ol8, pr8, k48, ?_, _, _, _, _, _, _, _, rfl⟩
      · rw [wt6, w1] at small
        rw [wcs]
        omega
      · rw [hall, cur, List.all_append, child_all _ _ _ _ _ ecs]
    rintro i yv σ H8 ey ⟨k48, pt8, ⟨s11, s12, s13, s14, rfl⟩, cs, rsx, ol8, pr8, ecs⟩
    rw [List.getElem?_map] at ey
    obtain ⟨r, er, rfl⟩ := Option.map_eq_some_iff.mp ey
    have rof := List.mem_of_getElem? er
    have rin := ofsub r rof
    have wrongQ : ∀ H', Same H4 H' → okQ (says ns tbl) y of d1 part kvs r = false → Q (.bl false) H' := fun H' k e => wrong H' k (by rw [cur]; exact List.all_eq_false.mpr ⟨r, rof, by rw [e]; simp⟩)
    have hes8 := k48 _ _ hes
    rcases look_at r kes al with ⟨lk, vn⟩ | ⟨t2, u2, lk, vn, h2⟩
    · refine ⟨_, rfl, _, rfl, b, _, rfl, DGet.k (k := Sum.inr r) hes8, _, rfl, ?_⟩
      rw [vn]
      refine iteT (iteT (wrongQ H8 k48 ?_))
      unfold okQ childT
      rw [lk]
      rfl
    have dg : ∀ {H' : Hp}, Same H4 H' → DGet H' b (.str r) (some u2) := fun k => by
      have z := DGet.k (k := Sum.inr r) (k _ _ hes)
      rw [vn] at z
      exact z
    refine ⟨_, rfl, _, rfl, b, _, rfl, dg k48, _, rfl, iteF ?_⟩
    refine ⟨_, rfl, _, rfl, b, _, rfl, dg k48, u2, t2, rfl, h2.same k48, fun H9 k89 => ⟨_, rfl, ?_⟩⟩
    have k49 := k48.trans k89
    cases hp : isPairT t2 with
    | false =>
      refine iteT (iteT (wrongQ H9 k49 ?_))
      unfold okQ childT
      rw [lk, pairT_not hp]
    | true =>
    refine iteF ?_
    obtain ⟨a2, b2, v1, v2, t3, t4, rfl, rfl, ha2, g1, g2⟩ := pair_get h2 hp
    have ha9 := k49 _ _ ha2
    have six : ∀ {G : VK}, G v1 H9 → rIx K (.ref a2) (.int 0) H9 G := fun g => by
      rcases (seq_sqA (K := K) ha9).seq with h | h
      · exact .inl ⟨a2, _, 0, _, rfl, rfl, h, rfl, g⟩
      · exact .inr (.inl ⟨a2, _, 0, _, rfl, rfl, h, rfl, g⟩)
    refine ⟨_, rfl, _, rfl, b, _, rfl, dg k49, six ?_⟩
    have okr : okQ (says ns tbl) y of d1 part kvs r = match (match (isIntT t3).map fun z => (z, t4) with
        | some p => if p.1 ∈ answersOf (says ns tbl r) part then some (p.2, partOf (says ns tbl r) part p.1, d1) else none
        | none => none : Option Itm) with
      | some c => holdI (says ns tbl) y of c
      | none => false := by
      unfold okQ childT
      rw [lk, pairT_int] <;> rfl
    rcases hd_int (K := K) g1 with ⟨z, ez, rfl⟩ | ⟨ez, nz⟩
    rotate_left
    · refine ⟨_, rfl, .inr ⟨nz.same k49, _, rfl, iteT (wrongQ H9 k49 ?_)⟩⟩
      rw [okr, ez]
      rfl
    refine ⟨_, rfl, .inl ⟨z, rfl, _, rfl, iteF ?_⟩⟩
    refine ⟨_, rfl, _, rfl, b, _, rfl, dg k49, pair_or ha9 ⟨_, _, rfl, _, _, rfl, rfl, ?_⟩⟩
    refine ⟨_, rfl, a, dx', _, rfl, k49 _ _ h14, rfl, _, rfl, _, rfl, a, p0, bs, ns, tbl, y, r, of, part, rfl, sea4.same k49, pt8.same k89, rin, fun H10 e2 k910 ne10 P10 => ?_⟩
    obtain ⟨ks2, oe2, ek2, ev2⟩ := P10
    have k410 := k49.trans k910
    have k810 := k89.trans k910
    refine ⟨_, rfl, _, rfl, e2, _, rfl, DGet.k (k := Sum.inl z) oe2, _, rfl, ?_⟩
    by_cases zin : z ∈ answersOf (says ns tbl r) part
    rotate_left
    · rw [val_none_of (by
        rw [ek2]
        intro m
        obtain ⟨v, hv, e⟩ := List.mem_map.mp m
        exact zin (by rw [← Sum.inl.inj e]; exact hv))]
      refine iteT (wrongQ H10 k410 ?_)
      rw [okr, ez]
      show (match (if z ∈ answersOf (says ns tbl r) part then some (t4, partOf (says ns tbl r) part z, d1) else none : Option Itm) with
        | some c => holdI (says ns tbl) y of c
        | none => false) = false
      rw [if_neg zin]
    obtain ⟨t5, et5, ot5⟩ := ev2 z zin
    rw [et5]
    refine iteF ?_
    have ol10 := k810 _ _ ol8
    have dg2 : DGet H10 e2 (.int z) (some (.ref t5)) := by
      have q := DGet.k (k := Sum.inl z) oe2
      rw [et5] at q
      exact q
    refine ⟨_, rfl, .inl ⟨rfl, _, SqL.of ol10⟩, _, rfl, _, rfl, _, rfl, e2, _, rfl, dg2, _, rfl, _, _, rfl, rfl, (by show 3 ≤ sizeLine; decide), fun t6 nt6 => ?_⟩
    have e1d : V.int (((d1 + 1 : Nat) : Int) - 1) = V.int (d1 : Int) := congrArg V.int (by omega)
    have k6 := same_new (o := .tup [v2, .ref t5, .int (((d1 + 1 : Nat) : Int) - 1)]) nt6
    have lrs : rsx.length = init.length + cs.length := by
      rw [Paired.length pr8, List.length_append]
    have lcs : cs.length = i := by
      have q := congrArg List.length ecs
      rw [List.length_map, List.length_map, List.length_take] at q
      have := (List.getElem?_eq_some_iff.mp er).1
      omega
    have li : i < of.length := (List.getElem?_eq_some_iff.mp er).1
    have linit := wtL_len of.length init
    refine ⟨l, _, _, rfl, rfl, k6 _ _ ol10, ?_, ?_⟩
    · rw [wt6] at small
      rw [List.length_map, sizeLine_eq]
      omega
    have lt6 : t6 ≠ l := fun q => by rw [q, ol10] at nt6; cases nt6
    have B8 : ∀ {u : HO}, ButB l H8 (upd (upd H10 t6 (.tup [v2, .ref t5, .int (((d1 + 1 : Nat) : Int) - 1)])) l u) := fun b o nb e => by
      rw [upd_ne nb]
      exact k6 _ _ (k810 _ _ e)
    have keep : ∀ {b : Addr} {o u : HO}, (∀ xs, o ≠ .lst xs) → H10 b = some o → upd (upd H10 t6 (.tup [v2, .ref t5, .int (((d1 + 1 : Nat) : Int) - 1)])) l u b = some o := fun no e => by
      rw [upd_ne (fun q => by rw [q, ol10] at e; exact no _ (Option.some.inj e).symm)]
      exact k6 _ _ e
    refine ⟨fun b o e => ?_, ⟨keep (fun _ z => by cases z) (k810 _ _ pt8.1), pt8.2⟩, ⟨_, _, _, _, rfl⟩, cs ++ [(t4, partOf (says ns tbl r) part z, d1)], rsx ++ [t6], ?_, ?_, ?_⟩
    · rw [upd_ne (ne_of_none e nl4)]
      exact k6 _ _ (k410 _ _ e)
    · rw [upd_same, map_snoc]
    · rw [← List.append_assoc]
      refine paired_join (Paired.mapP pr8 fun r it h => h.but ⟨_, ol8⟩ B8) ⟨v2, t5, ?_, g2, keep (fun _ z => by cases z) ot5, ?_, fun i hi => pt8.2.2 i (List.mem_filter.mp hi).1⟩
      · rw [upd_ne lt6, upd_same]
        show some (HO.tup [v2, V.ref t5, V.int (((d1 + 1 : Nat) : Int) - 1)]) = some (HO.tup [v2, V.ref t5, V.int (d1 : Int)])
        rw [e1d]
      · exact Nat.lt_of_le_of_lt (List.length_filter_le _ _) pt8.2.1
    · have ep : of.take (i + 1) = of.take i ++ [r] := by rw [List.take_succ, er]; rfl
      rw [ep, map_snoc, map_snoc, ecs]
      congr 2
      unfold childT
      rw [lk, pairT_int, ez]
      show (if z ∈ answersOf (says ns tbl r) part then some (t4, partOf (says ns tbl r) part z, d1) else none) = _
      rw [if_pos zin]
end
end L2.TB
/-! len(set(numbers)), with repeats -/
namespace L2.TB
open PySem PySem.Spec PyProof.Rows
theorem range_getD (ns : List Int) : (List.range ns.length).map (fun i => ns.getD i 0) = ns := by
  refine List.ext_getElem? fun i => ?_
  rw [List.getElem?_map]
  by_cases h : i < ns.length
  · rw [List.getElem?_range h, List.getElem?_eq_getElem h]
    show some (ns.getD i 0) = _
    rw [List.getD_eq_getElem?_getD, List.getElem?_eq_getElem h]
    rfl
  · rw [List.getElem?_eq_none (by rw [List.length_range]; omega), List.getElem?_eq_none (by omega)]
    rfl
theorem met_once (ns : List Int) : firstMet (fun i => ns.getD i 0) ns.length = onceZ ns := by
  unfold firstMet
  rw [range_getD]
  unfold onceZ
  refine fold_same _ _ fun a b _ => ?_
  unfold step_dedup
  by_cases h : b ∈ a
  · rw [if_pos h]; simp [h]
  · rw [if_neg h]; simp [h]
def tOnceN (K : PySem.W.Frag) (te : TE) : TE := fun σ H Q => te σ H fun x H' => ∃ (p : Addr) (zs : List Int), x = .ref p ∧ SqL K H' p (zs.map V.int) ∧ zs.length ≤ 4000 ∧ Q (.int ((onceZ zs).length : Nat)) H'
theorem pe_onceN {X : Cx} {inner : Expr} {te : TE} {pL pS qL qS : Pos} (calm : X.calm = true) (gl : Gl X "len") (nl : X.mg "len" = none) (gs : Gl X "set") (ns : X.mg "set" = none) (hin : PE X inner te)
    (plain : starEach [inner] X.env = (false, eval inner X.env) :: starEach [] X.env := by rfl) : PE X (.Call (.Name "len" pL) [.Call (.Name "set" pS) [inner] [] qS] [] qL) (tOnceN X.K te) := by
  refine ⟨fun pins st σ H Q inv reading => ?_⟩
  have gone := hin.run pins st σ H _ inv reading
  refine Call_ (ld_blt inv gl nl boot_len (PyProof.Rows.callWith_builtin1 (PyProof.Rows.args_cons ?_ rfl) rfl rfl))
  refine Call_ (ld_blt inv gs ns boot_set (PyProof.Rows.callWith_type1 (PyProof.Rows.args_cons (thn gone ?_) plain) plain rfl))
  rintro u st2 ⟨y, H2, inv2, same, p, zs, rfl, at_, few, done⟩
  cases same
  refine PyProof.Rows.args_nil ?_
  obtain ⟨items, vals, isL, _⟩ := inv2.list at_
  have size : items.toArray.size = zs.length := by
    rw [List.size_toArray, ← vals.length, List.length_map]
  refine call_set_list (inv2.ok.hd calm) isL.isList (ns := zs) (by simpa using vals.ints) (by rw [size]; unfold scanBound; omega) fun h2 tk made kept => ?_
  rw [size, met_once] at made
  refine PyProof.Rows.args_nil ?_
  obtain ⟨ob, es, ep, tb, e1, e2, e3, _, _, _, e4, e5⟩ := made
  have le := once_len zs
  have inv3 : Inv X pins σ H2 { st2 with heap := h2, toks := tk } := inv2.kept fun b o e => kept b o (Heap.lt_size e) e
  exact call_len_set e1 e2 e3 e4 (by rw [e5]; omega) ⟨.int ((onceZ zs).length : Nat), H2, inv3.tok _, ⟨_, by rw [e5]⟩, done⟩
end L2.TB
/-! == with the empty list; _law_same of truths -/
namespace L2.TB
open PySem PySem.Spec PyProof.Rows
def rEqE (K : PySem.W.Frag) : R2 := fun x y H Q => ∃ (p q : Addr) (zs : List V), x = .ref p ∧ y = .ref q ∧ SqL K H p zs ∧ SqL K H q [] ∧ Q (.bl zs.isEmpty) H
theorem op_eqE {X : Cx} (room : X.A.units < cLine) : OpR X (compareOp .Eq) (rEqE X.K) := by
  rintro pins s σ H x y v u Q I rx ry ⟨p, q, zs, rfl, rfl, atp, atq, yes⟩
  cases (show v = Value.ref p from rx)
  cases (show u = Value.ref q from ry)
  obtain ⟨us, valP, plP, _⟩ := I.list atp
  obtain ⟨ws, valQ, plQ, _⟩ := I.list atq
  obtain rfl : ws = [] := by cases valQ; rfl
  have isP := plP.isList
  have isQ : s.heap.IsList q ([] : List Value).toArray := plQ.isList
  cases zs with
  | nil =>
    obtain rfl : us = [] := by cases valP; rfl
    have z := SeqAt.RcAt.lists (A := X.A) (e := fun _ => true) isP isQ rfl room (fun j l _ => absurd (show j < 0 from l) (by omega))
    exact z _ _ _ _ ⟨.bl true, H, I, rfl, yes⟩
  | cons z zs =>
    obtain ⟨u, us', rfl⟩ : ∃ u us', us = u :: us' := by
      cases valP with
      | cons r rr => exact ⟨_, _, rfl⟩
    have z := SeqAt.RcAt.lists_lengths (A := X.A) isP isQ (by simp) room
    exact z _ _ _ _ ⟨.bl false, H, I, rfl, yes⟩
theorem kit_none2 {K : PySem.W.Frag} {t : String} (h1 : kitB t "list" = some false) (h2 : kitB t "tuple" = some false) : PySem.W.kitAny K (.type t) [.type "list", .type "tuple"] = some false := by
  unfold PySem.W.kitAny
  rw [kit_ty (K := K) h1]
  dsimp only
  unfold PySem.W.kitAny
  rw [kit_ty (K := K) h2]
  rfl
def spSameB : Sp := fun vs H Q _ => ∃ x y : Bool, vs = [.bl x, .bl y] ∧ ∀ H', Same H H' → Q (.bl (decide (x = y))) H'
section
variable {P : Program} {w : World} {K : PySem.W.Frag} {mg : Str → Option Value} {base : Heap} {f : Addr} {fd : FuncData}
theorem ok_sameB (F : Fun K "_law_same" "_law_same" sSame f fd) (nI : mg "isinstance" = none) (nL : mg "list" = none) (nT : mg "tuple" = none) (nInt : mg "int" = none) (nB : mg "bool" = none) : FnOk P w K mg base CX0 1 f fd ["found", "due"] spSameB := by
  refine F.ok scSame (fun vs H Q E h => by obtain ⟨x, y, e, _⟩ := h; rw [e]; rfl) fun cdv A outer s H vs Q E hr hsp => ?_
  obtain ⟨x, y, rfl, hq⟩ := hsp
  refine ⟨_, pss_cons (ps_if (pt_val (pe_callB (r := rIsiT K) call_isiT rfl nI boot_isi (pa_cons (pv 1) (pa_cons (pe_tup (pa_cons (pe_bltn (v := .ty "list") rfl nL boot_list' rfl) (pa_cons (pe_bltn (v := .ty "tuple") rfl nT boot_tuple' rfl) pa_nil))) pa_nil)))) (pss_cons ps_never (pss_one ps_never)) pss_nil)
    (pss_cons (ps_if (pt_val (pe_callB (r := rIsi K) call_isi rfl nI boot_isi (pa_cons (pv 1) (pa_cons (pe_bltn (v := .ty "int") rfl nInt boot_int' rfl) pa_nil))))
      (pss_one (ps_ret (pe_and (pe_callB (r := rIsi K) call_isi rfl nI boot_isi (pa_cons (pv 0) (pa_cons (pe_bltn (v := .ty "int") rfl nInt boot_int' rfl) pa_nil)))
        (pe_and (pe_cmpR op_eq (pe_callB (r := rIsi K) call_isi rfl nI boot_isi (pa_cons (pv 0) (pa_cons (pe_bltn (v := .ty "bool") rfl nB boot_bool' rfl) pa_nil))) (pe_callB (r := rIsi K) call_isi rfl nI boot_isi (pa_cons (pv 1) (pa_cons (pe_bltn (v := .ty "bool") rfl nB boot_bool' rfl) pa_nil))) (nomark _))
        (pe_one (pe_cmpR op_eq (pv 0) (pv 1) (nomark _))))))) pss_nil)
    (pss_one ps_never)), ?_⟩
  refine ⟨_, rfl, (by show 2 ≤ sizeLine; decide), fun t nt => ?_⟩
  have st := same_new (o := .tup [.ty "list", .ty "tuple"]) nt
  refine ⟨_, _, _, _, _, false, rfl, upd_same, .cons (.ty _) (.cons (.ty _) .nil), .base (.bl y), kit_none2 (by decide +kernel) (by decide +kernel), _, rfl, iteF ?_⟩
  refine ⟨_, rfl, _, _, _, _, true, rfl, .ty _, .base (.bl y), kit_ty (by decide +kernel), _, rfl, iteT ?_⟩
  refine ⟨_, rfl, _, _, _, _, true, rfl, .ty _, .base (.bl x), kit_ty (by decide +kernel), _, rfl, iteT ?_⟩
  refine ⟨_, rfl, _, _, _, _, true, rfl, .ty _, .base (.bl x), kit_ty (by decide +kernel), _, rfl, _, _, _, _, true, rfl, .ty _, .base (.bl y), kit_ty (by decide +kernel), rfl, _, rfl, iteT ⟨_, rfl, _, rfl, rfl, ?_⟩⟩
  have e : decide (V.bl x = V.bl y) = decide (x = y) := by cases x <;> cases y <;> rfl
  rw [e]
  exact hq _ st
end
end L2.TB
/-! _law_holds -/
namespace L2.TB
open PySem PySem.Spec PyProof.Rows
theorem two_ty {A : Addr → Prop} {K : PySem.W.Frag} {H : Hp} {t : Hd} {v : V} (h : HdAt A H t v) : ∃ ty : String, TyX K H v (.type ty) ∧ PySem.W.kitAny K (.type ty) [.type "list", .type "tuple"] = some (isSqT t) := by
  cases h with
  | at_ h =>
    obtain ⟨t, e, _, h2, h3⟩ := atom_ty h K H
    exact ⟨t, e, kit_two_n h2 h3⟩
  | @sq a isT us l ok h len al =>
    cases isT with
    | true => exact ⟨_, .base (.tup h), kit_two_t⟩
    | false => exact ⟨_, .base (.lst h), kit_two_l⟩
  | di ok h ks nd al => exact ⟨_, .base (.dK h), kit_two_n (by decide +kernel) (by decide +kernel)⟩
/-- no truth stands for an answer, to this depth -/
def noTr : Nat → Hd → Prop
  | 0, _ => True
  | d + 1, t => ∀ kvs, t = .di kvs → ∀ q b t1 t2, lookT kvs q = some (.sq b [t1, t2]) → (∀ k, t1 ≠ .at_ (.bl k)) ∧ noTr d t2
/-- the rows of some numbers, in a list -/
def RowsOf (H : Hp) (r : Addr) (as : List Addr) (part : List Nat) : Prop := H r = some (.lst (part.map fun i => V.ref (as.getD i 0)))
def spHoldsL (d : Nat) : Sp := fun vs H Q _ => ∃ (r oL : Addr) (as : List Addr) (ns : List Str) (tbl : List (List Int)) (x : Str) (of : List Str) (part : List Nat) (t : Hd) (v : V), vs = [.ref r, .str x, .ref oL, .int d, v] ∧ RowsOf H r as part ∧ DRows H ns as tbl ∧ ns.Nodup ∧ (∀ i ∈ part, i < tbl.length) ∧ part.length < 1000 ∧ x ∈ ns ∧
  H oL = some (.lst (of.map V.str)) ∧ (∀ q ∈ of, q ∈ ns) ∧ of.length < 1000 ∧ HdAt (fun _ => True) H t v ∧ noTr d t ∧ ∀ H', Same H H' → Q (.bl (holdsB (says ns tbl) x of d part t)) H'
abbrev NHl : List Str := ["rows", "asked", "of", "n", "thing", "name", "pair", "rest", "row"]
theorem scHl : FnScope NHl ["rows", "asked", "of", "n", "thing"] (defScope sHolds) := ⟨rfl, rfl, rfl, by decide +kernel, rfl, by decide +kernel, by decide +kernel⟩
section
variable {P : Program} {w : World} {K : PySem.W.Frag} {mg : Str → Option Value} {base : Heap} {f fS : Addr} {fd fdS : FuncData}
theorem ok_holdsL0 (F : Fun K "_law_holds" "_law_holds" sHolds f fd) (nI : mg "isinstance" = none) (nL : mg "list" = none) (nT : mg "tuple" = none) (nN : mg "len" = none) : FnOk P w K mg base CX0 1 f fd ["rows", "asked", "of", "n", "thing"] (spHoldsL 0) := by
  refine F.ok scHl (fun vs H Q E h => by obtain ⟨r, oL, as, ns, tbl, x, of, part, t, v, e, _⟩ := h; rw [e]; rfl) fun cdv A outer s H vs Q E hr hsp => ?_
  obtain ⟨r, oL, as, ns, tbl, x, of, part, t, v, rfl, hrw, hd, nd0, below, lp, xin, hoL, sub, lo, th, ntr, hq⟩ := hsp
  refine ⟨_, pss_cons (ps_if (pt_cmpR op_eq (pv 3) pe_int (nomark _)) (pss_one (ps_ret (pe_and (pe_callB (r := rIsiT K) call_isiT rfl nI boot_isi (pa_cons (pv 4) (pa_cons (pe_tup (pa_cons (pe_bltn (v := .ty "list") rfl nL boot_list' rfl) (pa_cons (pe_bltn (v := .ty "tuple") rfl nT boot_tuple' rfl) pa_nil))) pa_nil)))
      (pe_one (pe_cmpR op_eq (pe_callB call_len_seq rfl nN boot_len (pa_cons (pv 4) pa_nil)) pe_int (nomark _)))))) pss_nil) pss_never, ?_⟩
  refine ⟨_, rfl, rfl, true, rfl, iteT ?_⟩
  refine ⟨_, rfl, (by show 2 ≤ sizeLine; decide), fun tt ntt => ?_⟩
  have kt := same_new (o := .tup [.ty "list", .ty "tuple"]) ntt
  have th2 := th.same kt
  obtain ⟨ty, hty, kty⟩ := two_ty (K := K) th2
  refine ⟨_, _, _, _, _, isSqT t, rfl, upd_same, .cons (.ty _) (.cons (.ty _) .nil), hty, kty, _, rfl, ?_⟩
  have z := hq _ kt
  cases th2 with
  | at_ h => exact iteF z
  | di ok h ks nd al => exact iteF z
  | @sq b isT us tl ok h len al =>
    refine iteT ⟨_, rfl, b, us, rfl, (seq_sqA h).seq, rfl, ?_⟩
    have e : holdsB (says ns tbl) x of 0 part (.sq isT tl) = decide (V.int (us.length : Nat) = V.int 0) := by
      show decide (tl.length = 0) = _
      by_cases c : tl.length = 0
      · rw [len, c]; rfl
      · rw [decide_eq_false c]
        exact (decide_eq_false (fun q => c (by have q := V.int.inj q; omega))).symm
    rw [e] at z
    exact z
theorem ok_holdsLS {d : Nat} (F : Fun K "_law_holds" "_law_holds" sHolds f fd) (gF : mg "_law_holds" = some (.ref f)) (FS : Fun K "_law_same" "_law_same" sSame fS fdS) (gS : mg "_law_same" = some (.ref fS)) (nI : mg "isinstance" = none) (nL : mg "list" = none) (nT : mg "tuple" = none) (nN : mg "len" = none) (nS : mg "set" = none) (nD : mg "dict" = none) (nInt : mg "int" = none) (nB : mg "bool" = none)
    (GR : FnOk P w K mg base CX0 (d + 1) f fd ["rows", "asked", "of", "n", "thing"] (spHoldsL d)) : FnOk P w K mg base CX0 (d + 2) f fd ["rows", "asked", "of", "n", "thing"] (spHoldsL (d + 1)) := by
  have GS : FnOk P w K mg base CX0 1 fS fdS ["found", "due"] spSameB := ok_sameB FS nI nL nT nInt nB
  have bS := FS.binds (ps := ["found", "due"]) fun _ _ _ _ _ _ us hl => match us, hl with | [_, _], _ => rfl
  have bR := F.binds (ps := ["rows", "asked", "of", "n", "thing"]) fun _ _ _ _ _ _ us hl => match us, hl with | [_, _, _, _, _], _ => rfl
  refine F.ok scHl (fun vs H Q E h => by obtain ⟨r, oL, as, ns, tbl, x, of, part, t, v, e, _⟩ := h; rw [e]; rfl) fun cdv A outer s H vs Q E hr hsp => ?_
  obtain ⟨r, oL, as, ns, tbl, x, of, part, t, v, rfl, hrw, hd, nd0, below, lp, xin, hoL, sub, lo, th, ntr, hq⟩ := hsp
  have nd := scHl.nd
  have hu := hu_of (hr.mono (show 1 ≤ d + 1 by omega))
  have room : ∀ {X : Cx}, X.A.units + 1 < cLine → X.A.units < cLine := fun h => by omega
  refine ⟨_, pss_cons (ps_if (pt_cmpR op_eq (pv 3) pe_int (nomark _)) (pss_one (ps_ret (pe_and (pe_callB (r := rIsiT K) call_isiT rfl nI boot_isi (pa_cons (pv 4) (pa_cons (pe_tup (pa_cons (pe_bltn (v := .ty "list") rfl nL boot_list' rfl) (pa_cons (pe_bltn (v := .ty "tuple") rfl nT boot_tuple' rfl) pa_nil))) pa_nil)))
      (pe_one (pe_cmpR op_eq (pe_callB call_len_seq rfl nN boot_len (pa_cons (pv 4) pa_nil)) pe_int (nomark _)))))) pss_nil)
    (pss_cons (ps_if (PW.pt (pw_or (pt_cmpR op_eq (pe_onceN rfl rfl nN rfl nS (pe_lc (own := [("row", 8)]) (g := gName 8) (tt := tYes) rfl nd (pi_list (pv 0)) (blkOk_by (N := NHl) (sc := defScope sHolds) (by decide +kernel)) (fun _ _ _ _ _ => pg_name (i := 8) nd rfl (Or.inl rfl)) (fun _ _ _ _ _ => pts_nil) (fun _ _ _ _ _ => pe_dget hu (pv 8) (pv 1) (fun _ _ => rfl)))) pe_int (nomark _))
        (pw_or (pt_not (pt_val (pe_callB (r := rIsi K) call_isi rfl nI boot_isi (pa_cons (pv 4) (pa_cons (pe_bltn (v := .ty "dict") rfl nD boot_dict' rfl) pa_nil)))))
          (pw_or1 (pt_cmpR op_ne (pe_callB call_lenD rfl nN boot_len (pa_cons (pv 4) pa_nil)) (pe_callB call_len rfl nN boot_len (pa_cons (pv 2) pa_nil)) (nomark _))))))
      (pss_one (ps_ret pe_bl)) pss_nil)
    (pss_cons (ps_for PassesOwn.never rfl (pi_seq (pv 2)) (pg_name (i := 5) nd rfl (Or.inr rfl))
      (pss_cons (ps_set (i := 6) nd rfl (Or.inr rfl) (pe_dget1 hu (pv 4) (pv 5) ⟨rfl, rfl, rfl, rfl⟩))
      (pss_cons (ps_if (PW.pt (pw_or (pt_not (pt_val (pe_callB (r := rIsiT K) call_isiT rfl nI boot_isi (pa_cons (pv 6) (pa_cons (pe_tup (pa_cons (pe_bltn (v := .ty "list") rfl nL boot_list' rfl) (pa_cons (pe_bltn (v := .ty "tuple") rfl nT boot_tuple' rfl) pa_nil))) pa_nil)))))
          (pw_or (pt_cmpR op_ne (pe_callB call_len_seq rfl nN boot_len (pa_cons (pv 6) pa_nil)) pe_int (nomark _))
            (pw_or1 (pt_not (pt_val (pe_call GS (hr.mono (by omega)) rfl gS FS.kp bS .nil pass0 (pa_cons (pe_callB (r := rIsi K) call_isi rfl nI boot_isi (pa_cons (pe_ix (r := rIx K) ix_seq (pv 6) pe_int (fun _ _ => rfl)) (pa_cons (pe_bltn (v := .ty "int") rfl nInt boot_int' rfl) pa_nil))) (pa_cons pe_bl pa_nil)))))))))
          (pss_one (ps_ret pe_bl)) pss_nil)
      (pss_cons (ps_setLc (i := 7) (own := [("row", 8)]) (g := gName 8) (te := tVar 8) (tt := tTest (tOp rEq (tDGet (tVar 8) (tVar 5)) (tOp (rIx K) (tVar 6) (tC (.int 0))))) rfl nd rfl rfl (sw_true rfl rfl rfl rfl) (pi_list (pv 0)) (blkOk_by (N := NHl) (sc := defScope sHolds) (by decide +kernel)) (fun _ _ _ _ _ => pg_name (i := 8) nd rfl (Or.inl rfl)) (fun _ _ _ _ _ => pts_one (pt_cmpR op_eq (pe_dget hu (pv 8) (pv 5) (fun _ _ => rfl)) (pe_ix (r := rIx K) ix_seq (pv 6) pe_int (fun _ _ => rfl)) (nomark _))) (fun _ _ _ _ _ => pv 8))
      (pss_one (ps_if (PW.pt (pw_or (pt_val (pe_callB (r := rIsi K) call_isi rfl nI boot_isi (pa_cons (pe_ix (r := rIx K) ix_seq (pv 6) pe_int (fun _ _ => rfl)) (pa_cons (pe_bltn (v := .ty "bool") rfl nB boot_bool' rfl) pa_nil))))
          (pw_or (pt_cmpR (r := rEqE K) (op_eqE (room hu)) (pv 7) (pe_lst pa_nil) rfl)
            (pw_or1 (pt_not (pt_val (pe_call GR hr rfl gF F.kp bR .nil pass0 (pa_cons (pv 7) (pa_cons (pv 1) (pa_cons (pv 2) (pa_cons (pe_op op_sub (pv 3) pe_int) (pa_cons (pe_ix (r := rIx K) ix_seq (pv 6) pe_int (fun _ _ => rfl)) pa_nil)))))))))))) (pss_one (ps_ret pe_bl)) pss_nil))))))
    (pss_one (ps_ret pe_bl)))), ?_⟩
  refine ⟨_, rfl, rfl, false, congrArg V.bl (decide_eq_false (fun z => by have z : ((d + 1 : Nat) : Int) = 0 := V.int.inj z; omega)), iteF ?_⟩
  have la : as.length = tbl.length := Paired.length hd
  -- what a row says
  have row : ∀ (H' : Hp) (j i : Nat) (q : Str), Same H H' → part[j]? = some i → q ∈ ns → ∃ t, as.getD i 0 = t ∧ DGet H' t (.str q) (some (.int (says ns tbl q i))) := fun H' j i q k ej qin => by
    have hi := below i (List.mem_of_getElem? ej)
    refine ⟨_, rfl, ?_⟩
    have et : as[i]? = some (as.getD i 0) := by
      rw [List.getD_eq_getElem?_getD, List.getElem?_eq_getElem (by omega)]
      rfl
    obtain ⟨vs, ev, ot, lv⟩ := paired_get (hd.same k) et
    have z := DGet.k (k := Sum.inr q) ot
    rw [dk_av nd0 lv qin] at z
    have e : says ns tbl q i = av ns vs q := by
      show av ns (tbl.getD i []) q = _
      rw [List.getD_eq_getElem?_getD, ev]
      rfl
    rw [e]
    exact z
  refine ⟨_, rfl, r, rfl, ⟨_, SqL.of hrw⟩, fun D nD => lc_it walk_list (fun j H' => H' D = some (.lst ((part.take j).map fun i => V.int (says ns tbl x i))) ∧ Same H H') ⟨upd_same, same_new nD⟩ (fun j H' _ h => SqL.of (h.2 _ _ hrw)) ?_ ?_⟩
  · rintro j y H4 H5 lj ⟨oD, k4⟩ ⟨rfl, ey⟩
    rw [List.getElem?_map] at ey
    obtain ⟨i, ei, rfl⟩ := Option.map_eq_some_iff.mp ey
    obtain ⟨t1, e1, dg⟩ := row _ _ _ _ k4 ei xin
    rw [e1]
    refine ⟨rfl, ?_⟩
    refine ⟨_, rfl, _, rfl, t1, _, rfl, dg, _, oD, ?_, ?_, ?_⟩
    · rw [List.length_map, List.length_take, sizeLine_eq]; omega
    · rw [upd_same, List.take_succ, ei, List.map_append]
      rfl
    · exact fun b o e => by
        rw [upd_ne (ne_of_none e nD)]
        exact k4 _ _ e
  rintro H1 ⟨oD, k1⟩
  rw [List.length_map, List.take_length] at oD
  refine ⟨D, part.map (says ns tbl x), rfl, SqL.of (by rw [List.map_map]; exact oD), by rw [List.length_map]; omega, rfl, ?_⟩
  have wrong : ∀ H', Same H H' → holdsB (says ns tbl) x of (d + 1) part t = false → Q (.bl false) H' := fun H' k e => by
    have z := hq H' k
    rw [e] at z
    exact z
  by_cases one : (answersOf (says ns tbl x) part).length = 1
  · refine ⟨true, congrArg V.bl (decide_eq_true (congrArg (fun n : Nat => V.int (n : Int)) one)), iteT (iteT (wrong H1 k1 ?_))⟩
    cases t with
    | at_ v => rfl
    | sq b l => rfl
    | di kvs =>
      rw [holdsB_di, decide_eq_false (fun c => c one)]
      rfl
  refine ⟨false, congrArg V.bl (decide_eq_false (fun z => one (by have z := V.int.inj z; exact Int.ofNat.inj z))), iteF ?_⟩
  rcases hd_dict (K := K) th with ⟨kvs, b, es, rfl, rfl, _, hes, kes, nkv, al⟩ | ⟨nod, ty, hty, kty⟩
  rotate_left
  · refine ⟨_, rfl, _, _, _, _, false, rfl, .ty _, ty_same hty k1, kit_ty kty, _, rfl, iteT (iteT (wrong H1 k1 ?_))⟩
    cases t with
    | at_ v => rfl
    | sq b l => rfl
    | di kvs => exact absurd rfl (nod kvs)
  refine ⟨_, rfl, _, _, _, _, true, rfl, .ty _, .base (.dK (k1 _ _ hes)), kit_ty (by decide +kernel), _, rfl, iteF ?_⟩
  have les : es.length = kvs.length := by
    have z := congrArg List.length kes
    rw [List.length_map, List.length_map] at z
    exact z
  refine ⟨_, rfl, b, es, rfl, k1 _ _ hes, _, rfl, _, of.length, rfl, .inl ⟨_, SqL.of (k1 _ _ hoL), by rw [List.length_map]⟩, rfl, ?_⟩
  by_cases ln : kvs.length = of.length
  rotate_left
  · refine ⟨true, congrArg V.bl (by rw [decide_eq_false (fun q => ln (by rw [← les]; have q := V.int.inj q; omega))]; rfl), iteT (wrong H1 k1 ?_)⟩
    rw [holdsB_di, decide_eq_false ln, Bool.false_and, Bool.and_false]
  refine ⟨false, congrArg V.bl (by rw [decide_eq_true (congrArg V.int (by rw [les, ln]))]; rfl), iteF ?_⟩
  have cur : holdsB (says ns tbl) x of (d + 1) part (.di kvs) = of.all (okQ (says ns tbl) x of d part kvs) := by
    rw [holdsB_di, decide_eq_true one, decide_eq_true ln, Bool.true_and, Bool.true_and]
  refine ⟨_, rfl, for_seq (.inl rfl) (fun i σ H' => Same H H' ∧ (∃ s5 s6 s7, σ = [some (.ref r), some (.str x), some (.ref oL), some (.int (d + 1 : Nat)), some (.ref b), s5, s6, s7, none]) ∧ (of.take i).all (okQ (says ns tbl) x of d part kvs) = true)
    ⟨k1, ⟨_, _, _, rfl⟩, rfl⟩ (fun i σ H' _ h => h.1 _ _ hoL) ?_ ?_⟩
  rotate_left
  · rintro σ H8 ⟨k8, ⟨s5, s6, s7, rfl⟩, all⟩
    rw [List.length_map, List.take_length] at all
    have z := hq H8 k8
    rw [cur, all] at z
    exact z
  rintro i yv σ H8 ey ⟨k8, ⟨s5, s6, s7, rfl⟩, all⟩
  rw [List.getElem?_map] at ey
  obtain ⟨q, eq_, rfl⟩ := Option.map_eq_some_iff.mp ey
  have qof := List.mem_of_getElem? eq_
  have qin := sub q qof
  have ep : of.take (i + 1) = of.take i ++ [q] := by rw [List.take_succ, eq_]; rfl
  have wrongQ : ∀ H', Same H H' → okQ (says ns tbl) x of d part kvs q = false → Q (.bl false) H' := fun H' k e => wrong H' k (by rw [cur]; exact List.all_eq_false.mpr ⟨q, qof, by rw [e]; simp⟩)
  have hes8 := k8 _ _ hes
  rcases look_at q kes al with ⟨lk, vn⟩ | ⟨t2, u2, lk, vn, h2⟩
  · refine ⟨_, rfl, b, rfl, .inl ⟨es, .inl hes8⟩, _, rfl, none, by have z := DGet.k (k := Sum.inr q) hes8; rw [vn] at z; exact z, ?_⟩
    refine ⟨_, rfl, (by show 2 ≤ sizeLine; decide), fun tt ntt => ?_⟩
    have kt := same_new (o := .tup [.ty "list", .ty "tuple"]) ntt
    refine ⟨_, _, _, _, _, false, rfl, upd_same, .cons (.ty _) (.cons (.ty _) .nil), .base .non, kit_two_n (by decide +kernel) (by decide +kernel), _, rfl, iteT (iteT (wrongQ _ (k8.trans kt) ?_))⟩
    unfold okQ childT
    rw [lk]
    rfl
  refine ⟨_, rfl, b, rfl, .inl ⟨es, .inl hes8⟩, _, rfl, some u2, by have z := DGet.k (k := Sum.inr q) hes8; rw [vn] at z; exact z, ?_⟩
  refine ⟨_, rfl, (by show 2 ≤ sizeLine; decide), fun tt ntt => ?_⟩
  have kt := same_new (o := .tup [.ty "list", .ty "tuple"]) ntt
  have k9 := k8.trans kt
  obtain ⟨ty2, hty2, kty2⟩ := two_ty (K := K) (h2.same k9)
  refine ⟨_, _, _, _, _, isSqT t2, rfl, upd_same, .cons (.ty _) (.cons (.ty _) .nil), hty2, kty2, _, rfl, ?_⟩
  generalize upd H8 tt (.tup [.ty "list", .ty "tuple"]) = H9 at kt k9
  cases hs : isSqT t2 with
  | false =>
    refine iteT (iteT (wrongQ H9 k9 ?_))
    unfold okQ childT
    rw [lk, pairT_not (by
      cases t2 with
      | sq b l => cases hs
      | at_ v => rfl
      | di l => rfl)]
  | true =>
  refine iteF ?_
  cases hp : isPairT t2 with
  | false =>
    cases h2 with
    | at_ h => cases hs
    | di ok h ks nd al => cases hs
    | @sq a2 isT us tl ok h len al2 =>
      refine ⟨_, rfl, a2, us, rfl, (seq_sqA (k9 _ _ h)).seq, rfl, true, congrArg V.bl (by rw [decide_eq_false (fun z => of_decide_eq_false hp (by have z := V.int.inj z; omega))]; rfl), iteT (iteT (wrongQ H9 k9 ?_))⟩
      unfold okQ childT
      rw [lk, pairT_not hp]
  | true =>
  obtain ⟨a2, b2, v1, v2, t3, t4, rfl, rfl, ha2, g1, g2⟩ := pair_get h2 hp
  refine ⟨_, rfl, a2, _, rfl, (seq_sqA (k9 _ _ ha2)).seq, rfl, false, rfl, iteF ?_⟩
  obtain ⟨nob, ntr4⟩ := ntr kvs rfl q b2 t3 t4 lk
  have six : ∀ {H' : Hp} {G : VK}, Same H H' → G v1 H' → rIx K (.ref a2) (.int 0) H' G := fun k g => by
    rcases (seq_sqA (K := K) (k _ _ ha2)).seq with h | h
    · exact .inl ⟨a2, _, 0, _, rfl, rfl, h, rfl, g⟩
    · exact .inr (.inl ⟨a2, _, 0, _, rfl, rfl, h, rfl, g⟩)
  have six1 : ∀ {H' : Hp} {G : VK}, Same H H' → G v2 H' → rIx K (.ref a2) (.int 1) H' G := fun k g => by
    rcases (seq_sqA (K := K) (k _ _ ha2)).seq with h | h
    · exact .inl ⟨a2, _, 1, _, rfl, rfl, h, rfl, g⟩
    · exact .inr (.inl ⟨a2, _, 1, _, rfl, rfl, h, rfl, g⟩)
  have okr : okQ (says ns tbl) x of d part kvs q = match (match (isIntT t3).map fun z => (z, t4) with
      | some p => if p.1 ∈ answersOf (says ns tbl q) part then some (p.2, partOf (says ns tbl q) part p.1, d) else none
      | none => none : Option Itm) with
    | some c => holdI (says ns tbl) x of c
    | none => false := by
    unfold okQ childT
    rw [lk, pairT_int] <;> rfl
  refine ⟨_, rfl, six k9 ?_⟩
  rcases hd_int (K := K) g1 with ⟨z, ez, rfl⟩ | ⟨ez, nz⟩
  rotate_left
  · cases nz with
    | bl k =>
      cases g1 with
      | at_ h => exact absurd rfl (nob k)
    | ty hz kz =>
      refine ⟨_, _, _, _, false, rfl, .ty _, ty_same hz k9, kit_ty kz, false, true, rfl, fun H10 k10 => ⟨_, rfl, iteT (wrongQ H10 (k9.trans k10) ?_)⟩⟩
      rw [okr, ez]
      rfl
  refine ⟨_, _, _, _, true, rfl, .ty _, .base (.int z), kit_ty (by decide +kernel), true, true, rfl, fun H10 k10 => ⟨_, rfl, iteF ?_⟩⟩
  have k10' := k9.trans k10
  refine ⟨_, rfl, r, rfl, ⟨_, SqL.of (k10' _ _ hrw)⟩, fun D2 nD2 => lc_it walk_list (fun j H' => H' D2 = some (.lst (((part.take j).filter fun i => decide (says ns tbl q i = z)).map fun i => V.ref (as.getD i 0))) ∧ Same H10 H') ⟨upd_same, same_new nD2⟩ (fun j H' _ h => SqL.of (h.2 _ _ (k10' _ _ hrw))) ?_ ?_⟩
  · rintro j y H4 H5 lj ⟨oD2, k4⟩ ⟨rfl, ey⟩
    rw [List.getElem?_map] at ey
    obtain ⟨i2, ei, rfl⟩ := Option.map_eq_some_iff.mp ey
    obtain ⟨t1, e1, dg⟩ := row _ _ _ _ (k10'.trans k4) ei qin
    have esn := filter_take_snoc (fun i => decide (says ns tbl q i = z)) ei
    rw [e1]
    refine ⟨rfl, ?_⟩
    refine ⟨_, rfl, _, rfl, t1, _, rfl, dg, _, rfl, six (k10'.trans k4) ⟨rfl, ?_⟩⟩
    by_cases h : says ns tbl q i2 = z
    · rw [if_pos (decide_eq_true h)] at esn
      refine ⟨true, congrArg V.bl (decide_eq_true (congrArg V.int h)), iteT ⟨_, rfl, _, oD2, ?_, ?_, ?_⟩⟩
      · have := List.length_filter_le (fun i => decide (says ns tbl q i = z)) (part.take j)
        rw [List.length_take] at this
        rw [List.length_map, sizeLine_eq]
        omega
      · rw [upd_same, esn, List.map_append]
        show _ = some (HO.lst (_ ++ [V.ref (as.getD i2 0)]))
        rw [e1]
      · exact fun b o e => by
          rw [upd_ne (ne_of_none e nD2)]
          exact k4 _ _ e
    · rw [if_neg (by rw [decide_eq_false h]; exact Bool.false_ne_true), List.append_nil] at esn
      exact ⟨false, congrArg V.bl (decide_eq_false fun c => h (V.int.inj c)), iteF ⟨by rw [esn]; exact oD2, k4⟩⟩
  rintro H11 ⟨oD2, k11⟩
  rw [List.length_map, List.take_length] at oD2
  have k12 := k10'.trans k11
  refine ⟨_, rfl, six k12 ⟨_, _, _, _, false, rfl, .ty _, .base (.int z), kit_ty (by decide +kernel), _, rfl, iteF ?_⟩⟩
  refine ⟨_, rfl, (by show 0 ≤ sizeLine; omega), fun q2 nq2 => ?_⟩
  have kq := same_new (o := .lst []) nq2
  have k13 := k12.trans kq
  refine ⟨D2, q2, _, rfl, rfl, SqL.of (kq _ _ oD2), SqL.of upd_same, ?_⟩
  generalize upd H11 q2 (.lst []) = H12 at kq k13
  by_cases zin : z ∈ answersOf (says ns tbl q) part
  rotate_left
  · have e0 : (part.filter fun i => decide (says ns tbl q i = z)) = [] := part_none zin
    refine ⟨true, congrArg V.bl (by rw [e0]; rfl), iteT (iteT (wrongQ H12 k13 ?_))⟩
    rw [okr, ez]
    show (match (if z ∈ answersOf (says ns tbl q) part then some (t4, partOf (says ns tbl q) part z, d) else none : Option Itm) with
      | some c => holdI (says ns tbl) x of c
      | none => false) = false
    rw [if_neg zin]
  have ne0 := part_some zin
  refine ⟨false, congrArg V.bl (by
    show ((partOf (says ns tbl q) part z).map fun i => V.ref (as.getD i 0)).isEmpty = false
    cases c : partOf (says ns tbl q) part z with
    | nil => exact absurd c ne0
    | cons a l => rfl), iteF ?_⟩
  have okz : okQ (says ns tbl) x of d part kvs q = holdsB (says ns tbl) x of d (partOf (says ns tbl q) part z) t4 := by
    rw [okr, ez]
    show (match (if z ∈ answersOf (says ns tbl q) part then some (t4, partOf (says ns tbl q) part z, d) else none : Option Itm) with
      | some c => holdI (says ns tbl) x of c
      | none => false) = _
    rw [if_pos zin]
    rfl
  have e1d : V.int (((d + 1 : Nat) : Int) - 1) = V.int (d : Int) := congrArg V.int (by omega)
  refine ⟨_, rfl, _, rfl, _, rfl, _, rfl, _, _, rfl, rfl, _, rfl, six1 k13 ?_⟩
  refine ⟨D2, oL, as, ns, tbl, x, of, partOf (says ns tbl q) part z, t4, v2, congrArg (fun n => [V.ref D2, V.str x, V.ref oL, n, v2]) e1d, kq _ _ oD2, hd.same k13, nd0, fun i hi => below i (List.mem_filter.mp hi).1, Nat.lt_of_le_of_lt (List.length_filter_le _ _) lp, xin, k13 _ _ hoL, sub, lo, g2.same k13, ntr4, fun H14 k14 => ⟨_, rfl, ?_⟩⟩
  cases hh : holdsB (says ns tbl) x of d (partOf (says ns tbl q) part z) t4 with
  | false => exact iteT (wrongQ H14 (k13.trans k14) (by rw [okz, hh]))
  | true =>
    refine iteF ⟨k13.trans k14, ⟨_, _, _, rfl⟩, ?_⟩
    rw [ep, List.all_append, all, Bool.true_and]
    show (okQ (says ns tbl) x of d part kvs q && true) = true
    rw [okz, hh]
    rfl
theorem ok_holdsL (F : Fun K "_law_holds" "_law_holds" sHolds f fd) (gF : mg "_law_holds" = some (.ref f)) (FS : Fun K "_law_same" "_law_same" sSame fS fdS) (gS : mg "_law_same" = some (.ref fS)) (nI : mg "isinstance" = none) (nL : mg "list" = none) (nT : mg "tuple" = none) (nN : mg "len" = none) (nS : mg "set" = none) (nD : mg "dict" = none) (nInt : mg "int" = none) (nB : mg "bool" = none) :
    ∀ d : Nat, FnOk P w K mg base CX0 (d + 1) f fd ["rows", "asked", "of", "n", "thing"] (spHoldsL d)
  | 0 => ok_holdsL0 F nI nL nT nN
  | d + 1 => ok_holdsLS F gF FS gS nI nL nT nN nS nD nInt nB (ok_holdsL F gF FS gS nI nL nT nN nS nD nInt nB d)
end
end L2.TB
/-! what hold tells is a hold -/
namespace L2.TB
open PySem PySem.Spec PyProof.Rows
theorem look_map (g : Str → Hd) : ∀ {l : List Str} {q : Str}, q ∈ l → lookT (l.map fun q => (q, g q)) q = some (g q)
  | a :: l, q, h => by
    show (if a = q then some (g a) else lookT (l.map fun q => (q, g q)) q) = _
    by_cases e : a = q
    · rw [if_pos e, e]
    · rw [if_neg e]
      rcases List.mem_cons.mp h with z | z
      · exact absurd z.symm e
      · exact look_map g z
theorem look_map_in (g : Str → Hd) : ∀ {l : List Str} {q : Str} {t : Hd}, lookT (l.map fun q => (q, g q)) q = some t → t = g q
  | [], _, _, h => by cases h
  | a :: l, q, t, h => by
    have h : (if a = q then some (g a) else lookT (l.map fun q => (q, g q)) q) = some t := h
    by_cases e : a = q
    · rw [if_pos e] at h
      rw [← Option.some.inj h, e]
    · rw [if_neg e] at h
      exact look_map_in g h
section
variable {sy : Str → Nat → Int} {x : Str} {of : List Str}
theorem hold_holds : ∀ (d : Nat) {part : List Nat}, 0 < part.length → hardP (bestS sy x of part).1 d = true → holdsB sy x of d part (holdT sy x of d part) = true
  | 0, part, _, _ => rfl
  | d + 1, part, pos, h => by
    obtain ⟨one, hard⟩ := (hard_step pos d).mp h
    show holdsB sy x of (d + 1) part (.di (of.map fun q => (q, entT sy x of d part q))) = true
    rw [holdsB_di, decide_eq_true one, decide_eq_true (by rw [List.length_map]), Bool.true_and, Bool.true_and]
    refine List.all_eq_true.mpr fun q hq => ?_
    obtain ⟨z1, z2, _⟩ := first_hard (hard q hq)
    unfold okQ childT
    rw [look_map _ hq]
    show (match (if firstHard sy x of part d q ∈ answersOf (sy q) part then some (holdT sy x of d (partOf (sy q) part (firstHard sy x of part d q)), partOf (sy q) part (firstHard sy x of part d q), d) else none : Option Itm) with
      | some c => holdI sy x of c
      | none => false) = true
    rw [if_pos z1]
    exact hold_holds d (List.length_pos_iff.mpr (part_some z1)) z2
theorem hold_noTr : ∀ (d e : Nat) (part : List Nat), noTr e (holdT sy x of d part)
  | _, 0, _ => trivial
  | 0, e + 1, _ => fun kvs h => by cases h
  | d + 1, e + 1, part => fun kvs h q b t1 t2 hl => by
    have h : Hd.di (of.map fun q => (q, entT sy x of d part q)) = .di kvs := h
    obtain rfl := Hd.di.inj h
    have z := look_map_in _ hl
    have z : Hd.sq b [t1, t2] = .sq true [.at_ (.int (firstHard sy x of part d q)), holdT sy x of d (partOf (sy q) part (firstHard sy x of part d q))] := z
    injection z with z1 z2
    injection z2 with z3 z4
    injection z4 with z5 z6
    subst z3 z5
    exact ⟨fun k c => (by cases c), hold_noTr d e _⟩
end
end L2.TB
/-! check_weights; fewest, refused -/
namespace L2.TB
open PySem PySem.Spec PyProof.Rows
/-- the first that is no weight -/
def badW : List V → Nat → Option Nat
  | [], _ => none
  | .int k :: r, i => if 0 < k then badW r (i + 1) else some i
  | _ :: _, i => some i
/-- what is wrong with weights of m rows -/
inductive BadWt (K : PySem.W.Frag) (H : Hp) (m : Nat) : V → Option Nat → Prop
  | no {v : V} (h : NoSeq K H v) : BadWt K H m v (some 0)
  | seq {a : Addr} {xs : List V} (h : SqA K H a xs) (at_ : ∀ x ∈ xs, Atom x) (short : xs.length < 1000) : BadWt K H m (.ref a) ((badW xs 0).or (if xs.length = m then none else some xs.length))
theorem BadWt.same {K : PySem.W.Frag} {H H' : Hp} {m : Nat} {v : V} {r : Option Nat} (h : BadWt K H m v r) (s : Same H H') : BadWt K H' m v r := by
  cases h with
  | no h => exact .no (h.same s)
  | seq h a l => exact .seq (h.same s) a l
def spCkW (K : PySem.W.Frag) (CW : Addr) : Sp := fun vs H Q E => ∃ (v : V) (m : Nat) (r : Option Nat), vs = [v, .int m] ∧ BadWt K H m v r ∧ (r = none → ∀ H', Same H H' → Q .non H') ∧ ∀ i : Nat, r = some i → Flies CW "index" (.int i) H E
abbrev NCw : List Str := ["weights", "many", "index", "weight"]
theorem scCw : FnScope NCw ["weights", "many"] (defScope sCkW) := ⟨rfl, rfl, rfl, by decide +kernel, rfl, by decide +kernel, by decide +kernel⟩
section
variable {P : Program} {w : World} {K : PySem.W.Frag} {mg : Str → Option Value} {base : Heap} {f fL fC CW : Addr} {fd fdL fdC : FuncData}
theorem atom_noInt {v : V} (h : Atom v) (n : ∀ k, v ≠ .int k) (K : PySem.W.Frag) (H : Hp) : NoInt K H v := by
  cases h with
  | int k => exact absurd rfl (n k)
  | bl b => exact .bl b
  | str x => exact .ty (.base (.str x)) (by decide +kernel)
  | non => exact .ty (.base .non) (by decide +kernel)
theorem badW_step {v : V} {xs : List V} {i : Nat} (h : xs[i]? = some v) : badW (xs.drop i) i = badW (v :: xs.drop (i + 1)) i := by
  have lt : i < xs.length := (List.getElem?_eq_some_iff.mp h).1
  rw [List.drop_eq_getElem_cons lt, (List.getElem?_eq_some_iff.mp h).2]
theorem ok_ckW (F : Fun K "check_weights" "check_weights" sCkW f fd) (GL : FnOk P w K mg base CX0 1 fL fdL ["thing"] (spIsListG K)) (gL : mg "is_list" = some (.ref fL)) (FL : Fun K "is_list" "is_list" sIsList fL fdL) (GC : FnOk P w K mg base CX0 2 fC fdC ["thing"] (spIsCountG K)) (gC : mg "is_count" = some (.ref fC)) (FC : Fun K "is_count" "is_count" sIsCount fC fdC)
    (EW : ErrF P w K mg base "BadWeight" CW "index") (nE : mg "enumerate" = none) (nN : mg "len" = none) : FnOk P w K mg base (L2.CX P w) 4 f fd ["weights", "many"] (spCkW K CW) := by
  have bL := FL.binds (ps := ["thing"]) fun _ _ _ _ _ _ us hl => match us, hl with | [_], _ => rfl
  have bC := FC.binds (ps := ["thing"]) fun _ _ _ _ _ _ us hl => match us, hl with | [_], _ => rfl
  refine F.okX scCw (fun vs H Q E h => by obtain ⟨v, m, r, e, _⟩ := h; rw [e]; rfl) fun cdv A outer s H vs Q E hr hsp => ?_
  obtain ⟨v, m, r, rfl, hB, hq, hf⟩ := hsp
  have nd := scCw.nd
  refine ⟨_, pss_cons (ps_if (pt_not (pt_val (pe_call GL (hr.mono (by decide)) rfl gL FL.kp bL .nil pass0 (pa_cons (pv 0) pa_nil)))) (pss_one (ps_raiseE rfl (takes_of rfl rfl rfl rfl) EW (hr.mono (by decide)) rfl pe_int)) pss_nil)
    (pss_cons (ps_for (passes_of rfl) rfl (pi_enumS rfl nE (pa_cons (pv 0) pa_nil)) (pg_tup rfl (pgs_cons (pg_name (i := 2) nd rfl (Or.inl rfl)) (pgs_cons (pg_name (i := 3) nd rfl (Or.inl rfl)) pgs_nil)))
      (pss_one (ps_if (PW.pt (pw_or (pt_not (pt_val (pe_call GC (hr.mono (by decide)) rfl gC FC.kp bC .nil pass0 (pa_cons (pv 3) pa_nil)))) (pw_or1 (pt_cmpR op_eq (pv 3) pe_int (nomark _))))) (pss_one (ps_raiseE rfl (takes_of rfl rfl rfl rfl) EW (hr.mono (by decide)) rfl (pv 2))) pss_nil)))
    (pss_one (ps_if (pt_cmpR op_ne (pe_callB call_len_seq rfl nN boot_len (pa_cons (pv 0) pa_nil)) (pv 1) (nomark _)) (pss_one (ps_raiseE rfl (takes_of rfl rfl rfl rfl) EW (hr.mono (by decide)) rfl (pe_callB call_len_seq rfl nN boot_len (pa_cons (pv 0) pa_nil)))) pss_nil))), ?_⟩
  cases hB with
  | no hN => exact ⟨_, rfl, _, rfl, .inr ⟨hN, fun H1 k1 => ⟨_, rfl, iteT (((hf 0 rfl).same k1).up EW)⟩⟩⟩
  | @seq a xs hS hA short =>
  refine ⟨_, rfl, _, rfl, .inl ⟨⟨a, xs, rfl, hS⟩, fun H1 k1 => ⟨_, rfl, iteF ?_⟩⟩⟩
  obtain ⟨o, ho, ko⟩ : ∃ o, H1 a = some o ∧ (o = .lst xs ∨ o = .tup xs) := by
    rcases hS.same k1 with e | e
    · exact ⟨_, e, .inl rfl⟩
    · exact ⟨_, e, .inr rfl⟩
  refine ⟨_, rfl, enum_seq ko (fun i σ H' => badW xs 0 = badW (xs.drop i) i ∧ Same H1 H' ∧ ∃ s2 s3, σ = [some (.ref a), some (.int (m : Nat)), s2, s3])
    ⟨by rw [List.drop_zero], Same.refl _, _, _, rfl⟩ (fun i σ H' _ h => h.2.1 _ _ ho) ?_ ?_⟩
  · rintro i v σ H2 T ev ⟨eb, s2, s3, s4, rfl⟩ nT
    have kT := same_new (o := .tup [.int (i : Nat), v]) nT
    have k2 := (k1.trans s2).trans kT
    have hv := hA v (List.mem_of_getElem? ev)
    rw [badW_step ev] at eb
    refine ⟨T, _, rfl, SqT.of upd_same, rfl, ?_⟩
    refine ⟨_, _, rfl, _, _, rfl, rfl, ?_⟩
    have bad : badW (v :: xs.drop (i + 1)) i = some i → Flies CW "index" (.int i) (upd H2 T (.tup [.int (i : Nat), v])) E := fun e => by
      refine (hf i ?_).same k2
      rw [eb, e]
      rfl
    by_cases hk : ∃ k, v = .int k
    · obtain ⟨k, rfl⟩ := hk
      refine ⟨_, rfl, _, rfl, .inl ⟨k, rfl, _, rfl, ?_⟩⟩
      by_cases p0 : 0 < k
      · rw [decide_eq_true (show (0 : Int) ≤ k by omega)]
        refine iteF ⟨_, rfl, rfl, false, congrArg V.bl (decide_eq_false fun z => by have z := V.int.inj z; omega), iteF ?_⟩
        refine ⟨?_, s2.trans kT, _, _, rfl⟩
        rw [eb]
        show (if 0 < k then _ else _) = _
        rw [if_pos p0]
      · have fl := bad (by show (if 0 < k then _ else _) = _; rw [if_neg p0])
        by_cases z0 : k = 0
        · subst z0
          rw [decide_eq_true (show (0 : Int) ≤ 0 by omega)]
          exact iteF ⟨_, rfl, rfl, true, rfl, iteT ⟨_, rfl, fl.up EW⟩⟩
        · rw [decide_eq_false (show ¬ (0 : Int) ≤ k by omega)]
          exact iteT (iteT ⟨_, rfl, fl.up EW⟩)
    · have fl := bad (by
        cases hv with
        | int k => exact absurd ⟨k, rfl⟩ hk
        | bl b => rfl
        | str x => rfl
        | non => rfl)
      exact ⟨_, rfl, _, rfl, .inr ⟨atom_noInt hv (fun k z => hk ⟨k, z⟩) K _, _, rfl, iteT (iteT ⟨_, rfl, fl.up EW⟩)⟩⟩
  · rintro σ H2 ⟨eb, s2, s3, s4, rfl⟩
    rw [List.drop_length] at eb
    have k2 := k1.trans s2
    have hs2 := (hS.same k2).seq
    have eb2 : badW xs 0 = none := eb
    refine ⟨_, rfl, a, xs, rfl, hs2, _, rfl, rfl, ?_⟩
    by_cases lm : xs.length = m
    · refine ⟨false, congrArg V.bl (by rw [decide_eq_true (congrArg (fun n : Nat => V.int (n : Int)) lm)]; rfl), iteF (hq ?_ H2 k2)⟩
      rw [eb2, if_pos lm]
      rfl
    · refine ⟨true, congrArg V.bl (by rw [decide_eq_false (fun z : V.int (xs.length : Int) = V.int (m : Int) => lm (Int.ofNat.inj (V.int.inj z)))]; rfl), iteT ?_⟩
      exact ⟨_, rfl, a, xs, rfl, hs2, ((hf xs.length (by rw [eb2, if_neg lm]; rfl)).same k2).up EW⟩
end
end L2.TB
/-! len(table); fewest and mean_fewest, refused -/
namespace L2.TB
open PySem PySem.Spec PyProof.Rows
section
variable {X : Cx} {CX : CXT} {k : Nat} {f C : Addr} {fd : FuncData} {ps : List Str} {sp : Sp} {E : XK}
theorem rel_ref {v : V} {c : Addr} {u : Value} (e : v = .ref c) (r : RelV v u) : u = .ref c := by
  subst e
  exact r
/-- the method tells a whole number that is small -/
def rLenI (C : Addr) (sp : Sp) (E : XK) : List V → Hp → VK → Prop := fun xs H Q => ∃ a dx fs, xs = [.ref a] ∧ H a = some (.ins C dx fs) ∧ sp [.ref a] H (fun v H' => ∃ n : Int, v = .int n ∧ (0 ≤ n ∧ n < 2 ^ 63) ∧ Q (.int n) H') E
theorem call_lenI (F : FnOk X.prog X.w X.K X.mg X.base CX k f fd ps sp) (hr : Room (k + 1) X.A) (hm : Meth X.K C "__len__" f) (hb : Binds X.K fd ps []) (hx : Passes CX X E) : CallR X (.builtin "len") (rLenI C sp E) := by
  intro pins s σ H xs us Q I r h
  obtain ⟨a, dx, fs, rfl, ha, hsp⟩ := h
  obtain ⟨u, rfl, rx⟩ := vals1 r
  have eu := rel_ref rfl rx
  subst eu
  obtain ⟨mA, JA, _⟩ := ins_get I.hok ha
  obtain ⟨od, LA, _⟩ := JA.look
  obtain ⟨m, hF⟩ := I.fr
  refine PySem.W.len_K hF I.ok.mod.kin LA hm.at_ hm.fn ?_
  have e0 : Env0 X.prog X.w X.K X.mg X.base X.A.in1 X.stack s H := by
    have z := I.env0
    exact ⟨z.frames, z.mod, z.bs, z.bsz, z.funs, z.frf, z.hok, z.bare⟩
  have many := F.len _ _ _ _ hsp
  have two : Vals [V.ref a] [Value.ref a] := .cons rfl .nil
  have ok := F.run X.A.in1 X.stack s H ⟨[.ref a], []⟩ [.ref a] [.ref a] _ E hr.in1 e0 (by simpa using hb s [.ref a] I.kIn (by simpa using many)) two hsp
  refine wpAny_call (codeAny_mono ok fun q s' got => ?_)
  cases q with
  | error e => exact hx pins σ H s e s' I got
  | ok fl =>
    cases fl with
    | next => exact got.elim
    | brk => exact got.elim
    | cont => exact got.elim
    | ret v =>
      obtain ⟨t, H', I', rt, n, et, lim, qq⟩ := I.after got
      subst et
      obtain ⟨tk, ev⟩ := rt
      subst ev
      exact ⟨lim, .int n, H', I'.tok _, ⟨_, rfl⟩, qq⟩
end
def spLen (C : Addr) : Sp := fun vs H Q _ => ∃ (a : Addr) (ns : List Str) (tbl : List (List Int)), vs = [.ref a] ∧ TabAt H C a ns tbl ∧ tbl.length < 1000 ∧ Q (.int tbl.length) H
theorem scLen : FnScope ["self"] ["self"] (defScope sLenM) := ⟨rfl, rfl, rfl, by decide +kernel, rfl, by decide +kernel, by decide +kernel⟩
/-- what begins with asked_files, refused -/
def RefA (K : PySem.W.Frag) (CT CQ CK : Addr) (H : Hp) (E : XK) (t : Addr) (x o : V) : Prop := ∃ (ns : List Str) (tbl : List (List Int)), TabAt H CT t ns tbl ∧ ns.length < 1000 ∧ tbl.length < 1000 ∧
  ((BadAsk K H ns x ∧ Flies CQ "name" x H E) ∨ ∃ y, x = .str y ∧ y ∈ ns ∧ ∃ i : Nat, o ≠ .non ∧ Bad K H ns o (some i) ∧ Flies CK "index" (.int i) H E)
def spFewX (K : PySem.W.Frag) (CT CQ CK : Addr) : Sp := fun vs H Q E => ∃ (t : Addr) (x o : V), vs = [.ref t, x, o] ∧ RefA K CT CQ CK H E t x o
def spMeanX (K : PySem.W.Frag) (CT CQ CK CW : Addr) : Sp := fun vs H Q E => ∃ (t : Addr) (wv x o : V) (ns : List Str) (tbl : List (List Int)) (r : Option Nat), vs = [.ref t, wv, x, o] ∧ TabAt H CT t ns tbl ∧ tbl.length < 1000 ∧ BadWt K H tbl.length wv r ∧
  ((∃ i : Nat, r = some i ∧ Flies CW "index" (.int i) H E) ∨ (r = none ∧ RefA K CT CQ CK H E t x o))
abbrev NFw : List Str := ["table", "asked", "of", "search", "part"]
theorem scFw : FnScope NFw ["table", "asked", "of"] (defScope sFewest) := ⟨rfl, rfl, rfl, by decide +kernel, rfl, by decide +kernel, by decide +kernel⟩
abbrev NMw : List Str := ["table", "weights", "asked", "of", "search", "part", "cost", "weight", "common"]
theorem scMw : FnScope NMw ["table", "weights", "asked", "of"] (defScope sMeanF) := ⟨rfl, rfl, rfl, by decide +kernel, rfl, by decide +kernel, by decide +kernel⟩
section
variable {P : Program} {w : World} {K : PySem.W.Frag} {mg : Str → Option Value} {base : Heap} {f C CT CQ CK CN CW fN fW : Addr} {fd fdN fdW : FuncData}
theorem ok_len (F : Fun K "__len__" "Table.__len__" sLenM f fd) (T : TabC K C) (gN : mg "len" = none) : FnOk P w K mg base CX0 1 f fd ["self"] (spLen C) := by
  refine F.ok scLen (fun vs H Q E h => by obtain ⟨a, ns, tbl, e, _⟩ := h; rw [e]; rfl) fun cdv A outer s H vs Q E hr hsp => ?_
  obtain ⟨a, ns, tbl, rfl, tab, tsh, hq⟩ := hsp
  obtain ⟨dx, qa, ra, ha, hqa, ps, hps, prs⟩ := tab.ex
  refine ⟨_, pss_one (ps_ret (pe_callB call_len_seq rfl gN boot_len (pa_cons (pe_fld (pv 0) rfl) pa_nil))), ?_⟩
  refine ⟨_, rfl, a, C, dx, _, _, rfl, ha, T.cl, T.nR, rfl, ra, _, rfl, .inl (SqL.of hps), ?_⟩
  rw [List.length_map, Paired.length prs]
  exact hq
theorem ok_fewX (F : FunF K "fewest" sFewest f fd) (S : SeaP P w K mg base CT C CQ CK CN) : FnOk P w K mg base (L2.CX P w) 6 f fd ["table", "asked", "of"] (spFewX K CT CQ CK) := by
  obtain ⟨fI, fdI, Mk, GI, bI⟩ := S.mkr
  obtain ⟨fA, fdA, gA, kA, GA, bA⟩ := S.af
  refine FunD.ok F scFw (fun vs H Q E h => by obtain ⟨t, x, o, e, _⟩ := h; rw [e]; rfl) fun cdv A outer s H vs Q E hr hsp => ?_
  obtain ⟨t, x, o, rfl, ns, tbl, tab, nsh, _, hc⟩ := hsp
  have nd := scFw.nd
  refine ⟨_, pss_cons (ps_set (i := 3) nd rfl (Or.inl rfl) (pe_make Mk GI (hr.mono (by decide)) rfl S.gS bI .nil pass0 (pa_cons (pv 0) (pa_cons (pv 1) (pa_cons (pe_callS GA (hr.mono (by decide)) rfl gA kA bA (fun σ => passAt (takes_of rfl rfl rfl rfl) σ) (pa_cons (pv 0) (pa_cons (pv 1) (pa_cons (pv 2) pa_nil)))) (pa_cons pe_non pa_nil)))))) pss_never, ?_⟩
  refine ⟨_, rfl, _, rfl, _, rfl, _, rfl, _, rfl, t, x, o, ns, tbl, rfl, tab, nsh, ?_⟩
  rcases hc with ⟨bad, fl⟩ | ⟨y, rfl, yin, i, on, bad, fl⟩
  · exact .inl ⟨bad, fl⟩
  · exact .inr ⟨y, rfl, yin, .inr (.inl ⟨i, on, bad, fl⟩)⟩
theorem ok_meanX (F : FunF K "mean_fewest" sMeanF f fd) (S : SeaP P w K mg base CT C CQ CK CN) (T : TabC K CT) (FN : Fun K "__len__" "Table.__len__" sLenM fN fdN) (mN : Meth K CT "__len__" fN) (FW : Fun K "check_weights" "check_weights" sCkW fW fdW) (gW : mg "check_weights" = some (.ref fW))
    (GW : FnOk P w K mg base (L2.CX P w) 4 fW fdW ["weights", "many"] (spCkW K CW)) (nN : mg "len" = none) (nL : mg "list" = none) : FnOk P w K mg base (L2.CX P w) 6 f fd ["table", "weights", "asked", "of"] (spMeanX K CT CQ CK CW) := by
  obtain ⟨fI, fdI, Mk, GI, bI⟩ := S.mkr
  obtain ⟨fA, fdA, gA, kA, GA, bA⟩ := S.af
  have GN : FnOk P w K mg base CX0 1 fN fdN ["self"] (spLen CT) := ok_len FN T nN
  have bN := FN.binds (ps := ["self"]) fun _ _ _ _ _ _ us hl => match us, hl with | [_], _ => rfl
  have bW := FW.binds (ps := ["weights", "many"]) fun _ _ _ _ _ _ us hl => match us, hl with | [_, _], _ => rfl
  refine FunD.ok F scMw (fun vs H Q E h => by obtain ⟨t, wv, x, o, ns, tbl, r, e, _⟩ := h; rw [e]; rfl) fun cdv A outer s H vs Q E hr hsp => ?_
  obtain ⟨t, wv, x, o, ns, tbl, r, rfl, tab, tsh, bw, hc⟩ := hsp
  have nd := scMw.nd
  refine ⟨_, pss_cons (ps_expr (pe_callS GW (hr.mono (by decide)) rfl gW FW.kp bW (fun σ => passAt (takes_of rfl rfl rfl rfl) σ) (pa_cons (pv 1) (pa_cons (pe_callB (call_lenI GN (hr.mono (by decide)) mN bN pass0) rfl nN boot_len (pa_cons (pv 0) pa_nil)) pa_nil))))
    (pss_cons (ps_set (i := 4) nd rfl (Or.inl rfl) (pe_make Mk GI (hr.mono (by decide)) rfl S.gS bI .nil pass0 (pa_cons (pv 0) (pa_cons (pv 2) (pa_cons (pe_callS GA (hr.mono (by decide)) rfl gA kA bA (fun σ => passAt (takes_of rfl rfl rfl rfl) σ) (pa_cons (pv 0) (pa_cons (pv 2) (pa_cons (pv 3) pa_nil)))) (pa_cons (pe_callTy call_list_of rfl nL boot_list' (pa_cons (pv 1) pa_nil)) pa_nil)))))) pss_never), ?_⟩
  obtain ⟨dx, qa, ra, ha, hqa, hra⟩ := id tab.ex
  refine ⟨_, rfl, _, rfl, t, dx, _, rfl, ha, t, ns, tbl, rfl, tab, tsh, _, rfl, ⟨by omega, by omega⟩, wv, tbl.length, r, rfl, bw, fun er H1 k1 => ?_, fun i er => ?_⟩
  · rcases hc with ⟨i, e2, _⟩ | ⟨_, ns2, tbl2, tab2, nsh, _, hc⟩
    · rw [er] at e2; cases e2
    refine ⟨_, rfl, _, rfl, _, rfl, _, rfl, _, rfl, t, x, o, ns2, tbl2, rfl, tab2.same k1, nsh, ?_⟩
    rcases hc with ⟨bad, fl⟩ | ⟨y, rfl, yin, i, on, bad, fl⟩
    · exact .inl ⟨bad.same k1, fl.same k1⟩
    · exact .inr ⟨y, rfl, yin, .inr (.inl ⟨i, on, bad.same k1, fl.same k1⟩)⟩
  · rcases hc with ⟨j, e2, fl⟩ | ⟨e2, _⟩
    · rw [er] at e2
      cases e2
      exact fl
    · rw [er] at e2; cases e2
end
end L2.TB
/-! the methods of a search put together -/
namespace L2.TB
open PySem PySem.Spec PyProof.Rows
section
variable {P : Program} {w : World} {K : PySem.W.Frag} {mg : Str → Option Value} {base : Heap} {C fP fO fQ fB fC fH fM : Addr} {fdH fdM : FuncData}
theorem ok_hard10 (M : SeaM K mg C fP fO fQ fB fC) (FH : Fun K "is_hard" "Search.is_hard" sIsHard fH fdH) : FnOk P w K mg base CX0 32 fH fdH ["self", "part", "depth"] (spIsHard C 10) := by
  obtain ⟨fdC, FC⟩ := M.Ct
  exact ok_isHard FH M.c FC M.mC (ok_cost M 10 FC)
theorem ok_holdD (M : SeaM K mg C fP fO fQ fB fC) (FH : Fun K "is_hard" "Search.is_hard" sIsHard fH fdH) (mH : Meth K C "is_hard" fH) (FM : Fun K "hold" "Search.hold" sHoldM fM fdM) (mM : Meth K C "hold" fM) : ∀ d : Nat, FnOk P w K mg base CX0 (32 + d) fM fdM ["self", "part", "depth"] (spHold C d)
  | 0 => (ok_hold0 FM).mono (by omega)
  | d + 1 => by
    obtain ⟨fdP, FP⟩ := M.P
    have GP : FnOk P w K mg base CX0 1 fP fdP ["self", "part", "question"] (spPartsOf C) := ok_partsOf FP M.c M.nT
    exact ok_holdS (k := 32 + d) FM mM M.c FP M.mP GP FH mH ((ok_hard10 M FH).mono (Nat.le_add_right 32 d)) (Nat.le_trans (by decide) (Nat.le_add_right 32 d)) (ok_holdD M FH mH FM mM d)
theorem ok_holdA (M : SeaM K mg C fP fO fQ fB fC) (FH : Fun K "is_hard" "Search.is_hard" sIsHard fH fdH) (mH : Meth K C "is_hard" fH) (FM : Fun K "hold" "Search.hold" sHoldM fM fdM) (mM : Meth K C "hold" fM) : FnOk P w K mg base CX0 36 fM fdM ["self", "part", "depth"] (spHoldA C) :=
  ⟨fun vs H Q E h => by obtain ⟨d, _, a, pa, bs, ns, tbl, x, of, part, e, _⟩ := h; rw [e]; rfl, fun A outer s H args us vs Q E hr he hb hv hs => by
    obtain ⟨d, hd, hs⟩ := hs
    exact (ok_holdD M FH mH FM mM d).run A outer s H args us vs Q E (hr.mono (by omega)) he hb hv hs⟩
theorem ok_seaP {CT CQ CK CN fI fW fA fCt fR fQs aF aL aO aK aA aB fIn : Addr} {fdI fdW fdA fdCt fdR fdQs fdIn : FuncData} (M : SeaM K mg C fP fO fQ fB fC) (gS : mg "Search" = some (.ref C)) (Mk : Mk K C fI) (FI : Fun K "__init__" "Search.__init__" sSInit fI fdI) (T : TabC K CT)
    (FR : Fun K "rows" "Table.rows" sRowsM fR fdR) (mR : Meth K CT "rows" fR) (GR : FnOk P w K mg base CX0 2 fR fdR ["self"] (spRowsM CT)) (FW : Fun K "whole" "Search.whole" sWhole fW fdW) (mW : Meth K C "whole" fW) (FH : Fun K "is_hard" "Search.is_hard" sIsHard fH fdH) (mH : Meth K C "is_hard" fH) (FM : Fun K "hold" "Search.hold" sHoldM fM fdM) (mM : Meth K C "hold" fM)
    (FA : Fun K "asked_files" "asked_files" sAskF fA fdA) (gA : mg "asked_files" = some (.ref fA)) (FQs : Fun K "questions" "Table.questions" sQs fQs fdQs) (mQs : Meth K CT "questions" fQs) (Ck : Chk K mg aF aL aO aK aA aB) (EK : ErrF P w K mg base "BadKnown" CK "index") (EQ : ErrF P w K mg base "NoQuestion" CQ "name") (EN : ErrF P w K mg base "BadNumber" CN "thing")
    (FCt : Fun K "is_count" "is_count" sIsCount fCt fdCt) (gCt : mg "is_count" = some (.ref fCt)) (FIn : Fun K "is_integer" "is_integer" sIsInt fIn fdIn) (gIn : mg "is_integer" = some (.ref fIn)) (nI : mg "isinstance" = none) (nInt : mg "int" = none) (nB : mg "bool" = none) (nL : mg "list" = none) (nR : mg "range" = none) : SeaP P w K mg base CT C CQ CK CN where
  gS := gS
  c := M.c
  mkr := ⟨fI, fdI, Mk, ok_sinit FI M.c T FR mR GR, FI.binds (ps := NSi) fun _ _ _ _ _ _ us hl => match us, hl with | [_, _, _, _, _], _ => rfl⟩
  wh := ⟨fW, fdW, mW, ok_whole FW M.c M.nT nR M.nN, FW.binds (ps := ["self"]) fun _ _ _ _ _ _ us hl => match us, hl with | [_], _ => rfl⟩
  hard := ⟨fH, fdH, mH, ok_hard10 M FH, FH.binds (ps := ["self", "part", "depth"]) fun _ _ _ _ _ _ us hl => match us, hl with | [_, _, _], _ => rfl⟩
  hold := ⟨fM, fdM, mM, ok_holdA M FH mH FM mM, FM.binds (ps := ["self", "part", "depth"]) fun _ _ _ _ _ _ us hl => match us, hl with | [_, _, _], _ => rfl⟩
  af := ⟨fA, fdA, gA, FA.kp, ok_askF FA T FQs mQs Ck EK EQ nL, FA.binds (ps := ["field", "asked", "of"]) fun _ _ _ _ _ _ us hl => match us, hl with | [_, _, _], _ => rfl⟩
  ct := ⟨fCt, fdCt, gCt, FCt.kp, ok_isCountG FCt FIn gIn nI nInt nB, FCt.binds (ps := ["thing"]) fun _ _ _ _ _ _ us hl => match us, hl with | [_], _ => rfl⟩
  EN := EN
end
end L2.TB
namespace L2.TB
open PySem PySem.Spec PyProof.Rows
/-! set(xs), xs a list of whole numbers -/
section
variable {P : Program} {w : World} {A : Around} {E : Value → Shared → Prop} {s : Shared}
abbrev bare (w : World) : Obj := { cls := .type "set", dict := none, data := .set #[] 0 (.fresh 0 0 (!w.params.followText "set-order")) }
theorem set_of_list {l : Addr} {xs : Array Value} (ns : List Int) {Q : Value → Shared → Prop} (calm : A.handled = none) (isL : s.heap.IsList l xs) (allI : IntsAre xs.toList ns) (room : ns.length + 1 < scanBound)
    (fin : ∀ (h' : Heap) (tk c : Nat), SetR w h' s.heap.objs.size (fun j => decide (j ∈ ns)) c → c ≤ ns.length → (∀ b o, s.heap.get? b = some o → h'.get? b = some o) → Q (.ref s.heap.objs.size) { s with heap := h', toks := tk }) :
    wpAny (model P w) A (call (.type "set") [.ref l]) Q E s := by
  have many : xs.size = ns.length := by
    rw [← Array.length_toList]
    exact IntsAre.length allI
  obtain ⟨c, tl, hmro⟩ := F.called_set.mro
  have hmade := F.called_set.made
  have hsub := F.called_set.sub
  refine wpAny_call (codeAny_of_tree (show wpAny _ _ (callAny (.type "set") _) _ _ _ from wpAny_pure ⟨Code.quiet_builtin _ (by decide +kernel), codeAny_builtin F.entry_type_call ?_⟩))
  rw [Around.under_plain (weight_type_call_type "set" [.ref l] []) rfl]
  have h1 := F.called_set.notType
  have h2 := F.called_set.canCreate
  have hct := F.typeCall_set_1 (.ref l)
  repeat (any_goals (first | assumption | wp_step))
  refine codeAny_mono (code_set_led1 (.ref l) (E := E) (Q₁ := fun obj s1 => obj = .ref s.heap.objs.size ∧ s1 = { s with heap := s.heap.push (bare w) }) ⟨rfl, rfl⟩) fun r s1 hr => ?_
  cases r with
  | error e => exact hr
  | ok fl =>
    cases fl with
    | ret obj =>
      obtain ⟨rfl, rfl⟩ := hr
      have newAt : (s.heap.push (bare w)).get? s.heap.objs.size = some (bare w) := Heap.get?_push_size _ rfl
      have isSet : Shared.TypeIs { s with heap := s.heap.push (bare w) } (.ref s.heap.objs.size) "set" := ⟨_, newAt, rfl⟩
      have hli := F.called_set.init.lookup
      have hbi := F.called_set.init.bind (.ref s.heap.objs.size)
      repeat (any_goals (first | assumption | wp_step))
      refine codeAny_mono (codeAny_call_builtin (R := wants (fun r s2 => r = .none ∧ ∃ h' tk c, s2 = { s with heap := h', toks := tk } ∧ SetR w h' s.heap.objs.size (fun j => decide (j ∈ ns)) c ∧ c ≤ ns.length ∧ (∀ b o, s.heap.get? b = some o → h'.get? b = some o)) E)
        F.called_set.init.plain F.entry_set_init (check_set_init_1 isSet ?_)) fun r2 s2 hr2 => ?_
      · obtain ⟨ol, gl, cl, nl, dl⟩ := isL
        obtain ⟨oc, odt, oda, osl⟩ := ol
        simp only at cl dl
        subst cl; subst dl
        have gl1 : (s.heap.push (bare w)).get? l = some { cls := .type "list", dict := odt, data := .seq xs nl, slots := osl } := Heap.get?_push_of_some _ gl
        have isL1 : (s.heap.push (bare w)).IsList l xs := ⟨_, gl1, rfl, nl, rfl⟩
        have n1 := F.sub_list_set
        have n2 := F.sub_list_frozenset
        have n3 : (Value.type "list" == Value.type "dict") = false := by decide
        have old : l < s.heap.objs.size := Heap.lt_size gl
        have size1 : (s.heap.push (bare w)).objs.size = s.heap.objs.size + 1 := Heap.size_push ..
        unfold Builtin.«set.__init__» noKeywords Builtin.Frozenset.updateFrom
        generalize named : pyIter = walk
        wp_walk
        subst named
        refine wpAny_pyIter_list isL1 (wpAny_bind (wpAny_runValue ?_))
        have far : l ≠ (s.heap.push (bare w)).objs.size := by rw [size1]; exact Nat.ne_of_lt (Nat.lt_succ_of_lt old)
        have out : s.heap.objs.size ∉ [(s.heap.push (bare w)).objs.size, l] := by
          rw [size1]
          intro z
          rcases List.mem_cons.mp z with e | e
          · exact absurd e (Nat.ne_of_lt (Nat.lt_succ_self _))
          · exact absurd (List.mem_singleton.mp e) (Nat.ne_of_gt old)
        have vals : ∀ (i : Nat) (v : Value), xs[i]? = some v → ∃ k t, ns[i]? = some k ∧ v = .int k t := fun i v ev => by
          have lt : i < ns.length := by rw [← many]; exact (Array.getElem?_eq_some_iff.mp ev).1
          obtain ⟨t, e⟩ := PyProof.Rows.IntsAre.int_at allI i v (by rw [Array.getElem?_toList]; exact ev)
          exact ⟨ns[i], t, List.getElem?_eq_getElem lt, by rw [e, List.getD_eq_getElem?_getD, List.getElem?_eq_getElem lt]; rfl⟩
        have calm3 : A.in1.in1.in1.handled = none := by simp [calm]
        refine set_update_ints ((Walks.list calm3 _ l far xs).toS) s.heap.objs.size out ns many room vals (xs.size - 0) 0 _ (by omega) (Nat.zero_le _) ⟨⟨_, Heap.get?_push_size _ rfl, rfl, rfl⟩, isL1.push _⟩ ⟨0, Nat.le_refl 0, setR_new_at (Heap.get?_push_of_some _ newAt)⟩ ?_
        rintro ⟨h', g2, d', tk', os'⟩ c' moved le R'
        have e1 : g2 = s.gens := moved.gens
        have e2 : d' = s.drawn := moved.drawn
        have e3 : os' = s.os := moved.os
        subst e1 e2 e3
        rw [many] at le
        show wpAny _ _ _ _ _ _
        refine wpAny_pure (show wpAny _ _ (ret Value.none) _ _ _ from wpAny_pure ⟨rfl, h', tk', c', rfl, R', le, fun b o e => ?_⟩)
        have lb : b < s.heap.objs.size := Heap.lt_size e
        refine moved.heap b o (fun z => ?_) (Heap.get?_push_of_some _ (Heap.get?_push_of_some _ e))
        rcases List.mem_cons.mp z with q | q
        · exact absurd q (Nat.ne_of_lt lb)
        · rw [size1] at q
          exact absurd (List.mem_singleton.mp q) (Nat.ne_of_lt (Nat.lt_succ_of_lt lb))
      · cases r2 with
        | error e => exact hr2
        | ok f2 =>
          cases f2 with
          | ret r =>
            obtain ⟨rfl, h', tk, c', rfl, R', le, kept⟩ := hr2
            repeat (any_goals (first | assumption | wp_step))
            exact fin _ _ _ R' le kept
          | _ => exact hr2.elim
    | _ => exact hr.elim
end
/-- set(xs) -/
def rSetL (K : PySem.W.Frag) (w : World) : List V → Hp → VK → Prop := fun vs H Q => ∃ (l : Addr) (ns : List Int), vs = [V.ref l] ∧ SqL K H l (ns.map V.int) ∧ ns.length < 4000 ∧ ∀ p c, H p = none → c ≤ ns.length → Q (.ref p) (upd H p (SetO w p (fun j => decide (j ∈ ns)) c))
theorem ints_of : ∀ {ns : List Int} {us : List Value}, Vals (ns.map V.int) us → IntsAre us ns
  | [], _, .nil => .nil
  | n :: ns, _, .cons r t => by
    obtain ⟨tk, rfl⟩ := r
    exact .cons n tk (ints_of t)
theorem cr_setL {X : Cx} (calm : X.calm = true) : CallR X (.type "set") (rSetL X.K X.w) := by
  intro pins s σ H vs us Q I r h
  obtain ⟨l, ns, rfl, sq, short, q⟩ := h
  rw [Vals.ref1 r]
  obtain ⟨its, rv, pl, _⟩ := I.list sq
  have free : H s.heap.objs.size = none := I.hok.fresh (Nat.le_refl _)
  refine set_of_list (P := X.prog) (w := X.w) ns (I.ok.hd calm) pl.isList (ints_of rv) (by show ns.length + 1 < 4096; omega) fun h' tk c R le kept => ?_
  exact ⟨.ref s.heap.objs.size, _, I.laid (t' := tk) kept (Nat.le_refl _) (setO_new R), rfl, q _ c free le⟩
end L2.TB
/-! _law_can, where sorted(set(numbers)) has its rule -/
namespace L2.TB
open PySem PySem.Spec PyProof.Rows
theorem boot_anyB : bootBuiltins "any" = some (.builtin "any") := by decide +kernel
/-- sorted(set(numbers)) -/
def tSortSet (K : PySem.W.Frag) (te : TE) : TE := fun σ H Q => te σ H fun x H' => ∃ (p : Addr) (zs : List Int), x = .ref p ∧ SqL K H' p (zs.map V.int) ∧ zs.length < 64 ∧
  ∀ (ys : List Int) (q : Addr), ys.Pairwise (· < ·) → (∀ k, k ∈ ys ↔ k ∈ zs) → H' q = none → ∀ H'', Same H' H'' → H'' q = some (.lst (ys.map V.int)) → Q (.ref q) H''
def SortRule : Prop := ∀ (X : Cx) (inner : Expr) (te : TE) (pL pS qL qS : Pos), X.calm = true → Gl X "sorted" → X.mg "sorted" = none → Gl X "set" → X.mg "set" = none → PE X inner te → starEach [inner] X.env = (false, eval inner X.env) :: starEach [] X.env → PE X (.Call (.Name "sorted" pL) [.Call (.Name "set" pS) [inner] [] qS] [] qL) (tSortSet X.K te)
def spCanL (d : Nat) : Sp := fun vs H Q _ => ∃ (r oL : Addr) (as : List Addr) (ns : List Str) (tbl : List (List Int)) (x : Str) (of : List Str) (part : List Nat), vs = [.ref r, .str x, .ref oL, .int d] ∧ RowsOf H r as part ∧ DRows H ns as tbl ∧ ns.Nodup ∧ (∀ i ∈ part, i < tbl.length) ∧ 0 < part.length ∧ part.length < 64 ∧ x ∈ ns ∧
  H oL = some (.lst (of.map V.str)) ∧ (∀ q ∈ of, q ∈ ns) ∧ of.length < 1000 ∧ ∀ H', Same H H' → Q (.bl (hardP (bestS (says ns tbl) x of part).1 d)) H'
abbrev NCn : List Str := ["rows", "asked", "of", "n", "name", "parts", "answer", "row", "part"]
theorem scCn : FnScope NCn ["rows", "asked", "of", "n"] (defScope sCan) := ⟨rfl, rfl, rfl, by decide +kernel, rfl, by decide +kernel, by decide +kernel⟩
section
variable {P : Program} {w : World} {K : PySem.W.Frag} {mg : Str → Option Value} {base : Heap} {f : Addr} {fd : FuncData}
theorem ok_canS {d : Nat} (rule : SortRule) (F : Fun K "_law_can" "_law_can" sCan f fd) (gF : mg "_law_can" = some (.ref f)) (nN : mg "len" = none) (nS : mg "set" = none) (nSo : mg "sorted" = none) (nA : mg "any" = none)
    (GR : FnOk P w K mg base CX0 (d + 1) f fd ["rows", "asked", "of", "n"] (spCanL d)) : FnOk P w K mg base CX0 (d + 2) f fd ["rows", "asked", "of", "n"] (spCanL (d + 1)) := by
  have bR := F.binds (ps := ["rows", "asked", "of", "n"]) fun _ _ _ _ _ _ us hl => match us, hl with | [_, _, _, _], _ => rfl
  refine F.ok scCn (fun vs H Q E h => by obtain ⟨r, oL, as, ns, tbl, x, of, part, e, _⟩ := h; rw [e]; rfl) fun cdv A outer s H vs Q E hr hsp => ?_
  obtain ⟨r, oL, as, ns, tbl, x, of, part, rfl, hrw, hd, nd0, below, pos, lp, xin, hoL, sub, lo, hq⟩ := hsp
  have nd := scCn.nd
  have hu := hu_of (hr.mono (show 1 ≤ d + 1 by omega))
  refine ⟨_, pss_cons (ps_if (pt_cmpR op_eq (pv 3) pe_int (nomark _)) (pss_one (ps_ret pe_bl)) pss_nil)
    (pss_cons (ps_if (pt_cmpR op_eq (pe_onceN rfl rfl nN rfl nS (pe_lc (own := [("row", 7)]) (g := gName 7) (tt := tYes) rfl nd (pi_list (pv 0)) (blkOk_by (N := NCn) (sc := defScope sCan) (by decide +kernel)) (fun _ _ _ _ _ => pg_name (i := 7) nd rfl (Or.inl rfl)) (fun _ _ _ _ _ => pts_nil) (fun _ _ _ _ _ => pe_dget hu (pv 7) (pv 1) (fun _ _ => rfl)))) pe_int (nomark _)) (pss_one (ps_ret pe_bl)) pss_nil)
    (pss_cons (ps_for PassesOwn.never rfl (pi_seq (pv 2)) (pg_name (i := 4) nd rfl (Or.inr rfl))
      (pss_cons (ps_set (i := 5) nd rfl (Or.inl rfl) (pe_lst pa_nil))
      (pss_cons (ps_for PassesOwn.never rfl (pi_list (rule _ _ _ _ _ _ _ rfl rfl nSo rfl nS (pe_lc (own := [("row", 7)]) (g := gName 7) (tt := tYes) rfl nd (pi_list (pv 0)) (blkOk_by (N := NCn) (sc := defScope sCan) (by decide +kernel)) (fun _ _ _ _ _ => pg_name (i := 7) nd rfl (Or.inl rfl)) (fun _ _ _ _ _ => pts_nil) (fun _ _ _ _ _ => pe_dget hu (pv 7) (pv 4) (fun _ _ => rfl))) rfl)) (pg_name (i := 6) nd rfl (Or.inr rfl))
        (pss_one (ps_expr (pe_bm PySem.F.plainAttrs_list PySem.F.slot_list_append PySem.F.type_list_append mt_append (pv 5) (pa_cons (pe_lc (own := [("row", 7)]) (g := gName 7) rfl nd (pi_list (pv 0)) (blkOk_by (N := NCn) (sc := defScope sCan) (by decide +kernel)) (fun _ _ _ _ _ => pg_name (i := 7) nd rfl (Or.inl rfl)) (fun _ _ _ _ _ => pts_one (pt_cmpR op_eq (pe_dget hu (pv 7) (pv 4) (fun _ _ => rfl)) (pv 6) (nomark _))) (fun _ _ _ _ _ => pv 7)) pa_nil)))))
      (pss_one (ps_if (pt_not (pt_val (pe_callB (cr_any rfl) rfl nA boot_anyB (pa_cons (pe_lc (own := [("part", 8)]) (g := gName 8) (tt := tYes) rfl nd (pi_list (pv 5)) (blkOk_by (N := NCn) (sc := defScope sCan) (by decide +kernel)) (fun _ _ _ _ _ => pg_name (i := 8) nd rfl (Or.inl rfl)) (fun _ _ _ _ _ => pts_nil)
          (fun _ _ _ _ _ => pe_call GR hr rfl gF F.kp bR .nil pass0 (pa_cons (pv 8) (pa_cons (pv 1) (pa_cons (pv 2) (pa_cons (pe_op op_sub (pv 3) pe_int) pa_nil)))))) pa_nil)))) (pss_one (ps_ret pe_bl)) pss_nil))))
    )
    (pss_one (ps_ret pe_bl)))), ?_⟩
  refine ⟨_, rfl, rfl, false, congrArg V.bl (decide_eq_false (fun z => by have z : ((d + 1 : Nat) : Int) = 0 := V.int.inj z; omega)), iteF ?_⟩
  have la : as.length = tbl.length := Paired.length hd
  have row : ∀ (H' : Hp) (j i : Nat) (q : Str), Same H H' → part[j]? = some i → q ∈ ns → ∃ t, as.getD i 0 = t ∧ DGet H' t (.str q) (some (.int (says ns tbl q i))) := fun H' j i q k ej qin => by
    have hi := below i (List.mem_of_getElem? ej)
    refine ⟨_, rfl, ?_⟩
    have et : as[i]? = some (as.getD i 0) := by
      rw [List.getD_eq_getElem?_getD, List.getElem?_eq_getElem (by omega)]
      rfl
    obtain ⟨vs, ev, ot, lv⟩ := paired_get (hd.same k) et
    have z := DGet.k (k := Sum.inr q) ot
    rw [dk_av nd0 lv qin] at z
    have e : says ns tbl q i = av ns vs q := by
      show av ns (tbl.getD i []) q = _
      rw [List.getD_eq_getElem?_getD, ev]
      rfl
    rw [e]
    exact z
  refine ⟨_, rfl, r, rfl, ⟨_, SqL.of hrw⟩, fun D nD => lc_it walk_list (fun j H' => H' D = some (.lst ((part.take j).map fun i => V.int (says ns tbl x i))) ∧ Same H H') ⟨upd_same, same_new nD⟩ (fun j H' _ h => SqL.of (h.2 _ _ hrw)) ?_ ?_⟩
  · rintro j y H4 H5 lj ⟨oD, k4⟩ ⟨rfl, ey⟩
    rw [List.getElem?_map] at ey
    obtain ⟨i, ei, rfl⟩ := Option.map_eq_some_iff.mp ey
    obtain ⟨t1, e1, dg⟩ := row _ _ _ _ k4 ei xin
    rw [e1]
    refine ⟨rfl, ?_⟩
    refine ⟨_, rfl, _, rfl, t1, _, rfl, dg, _, oD, ?_, ?_, ?_⟩
    · rw [List.length_map, List.length_take, sizeLine_eq]; omega
    · rw [upd_same, List.take_succ, ei, List.map_append]
      rfl
    · exact fun b o e => by
        rw [upd_ne (ne_of_none e nD)]
        exact k4 _ _ e
  rintro H1 ⟨oD, k1⟩
  rw [List.length_map, List.take_length] at oD
  refine ⟨D, part.map (says ns tbl x), rfl, SqL.of (by rw [List.map_map]; exact oD), by rw [List.length_map]; omega, rfl, ?_⟩
  have e1d : V.int (((d + 1 : Nat) : Int) - 1) = V.int (d : Int) := congrArg V.int (by omega)
  have step := hard_step (sy := says ns tbl) (x := x) (of := of) pos d
  have wrong : ∀ H', Same H H' → ¬ hardP (bestS (says ns tbl) x of part).1 (d + 1) = true → Q (.bl false) H' := fun H' k e => by
    have z := hq H' k
    rw [Bool.eq_false_iff.mpr e] at z
    exact z
  by_cases one : (answersOf (says ns tbl x) part).length = 1
  · exact ⟨true, congrArg V.bl (decide_eq_true (congrArg (fun n : Nat => V.int (n : Int)) one)), iteT (wrong H1 k1 fun z => (step.mp z).1 one)⟩
  refine ⟨false, congrArg V.bl (decide_eq_false (fun z => one (by have z := V.int.inj z; exact Int.ofNat.inj z))), iteF ?_⟩
  refine ⟨_, rfl, for_seq (.inl rfl) (fun i σ H' => Same H H' ∧ (∃ s4 s5 s6, σ = [some (.ref r), some (.str x), some (.ref oL), some (.int (d + 1 : Nat)), s4, s5, s6, none, none]) ∧ ∀ q ∈ of.take i, ∃ v ∈ answersOf (says ns tbl q) part, hardP (bestS (says ns tbl) x of (partOf (says ns tbl q) part v)).1 d = true)
    ⟨k1, ⟨_, _, _, rfl⟩, fun q hq => by simp at hq⟩ (fun i σ H' _ h => h.1 _ _ hoL) ?_ ?_⟩
  rotate_left
  · rintro σ H8 ⟨k8, ⟨s4, s5, s6, rfl⟩, all⟩
    rw [List.length_map, List.take_length] at all
    have z := hq H8 k8
    rw [step.mpr ⟨one, all⟩] at z
    exact z
  rintro i yv σ H8 ey ⟨k8, ⟨s4, s5, s6, rfl⟩, all⟩
  rw [List.getElem?_map] at ey
  obtain ⟨q, eq_, rfl⟩ := Option.map_eq_some_iff.mp ey
  have qof := List.mem_of_getElem? eq_
  have qin := sub q qof
  have ep : of.take (i + 1) = of.take i ++ [q] := by rw [List.take_succ, eq_]; rfl
  refine ⟨(by show 0 ≤ sizeLine; omega), fun pl npl => ?_⟩
  have kp := same_new (o := .lst []) npl
  have k9 := k8.trans kp
  have npl0 : H pl = none := k8.free npl
  refine ⟨_, rfl, r, rfl, ⟨_, SqL.of (k9 _ _ hrw)⟩, fun D2 nD2 => lc_it walk_list (fun j H' => H' D2 = some (.lst ((part.take j).map fun i => V.int (says ns tbl q i))) ∧ Same (upd H8 pl (.lst [])) H') ⟨upd_same, same_new nD2⟩ (fun j H' _ h => SqL.of (h.2 _ _ (k9 _ _ hrw))) ?_ ?_⟩
  · rintro j y H4 H5 lj ⟨oD2, k4⟩ ⟨rfl, ey⟩
    rw [List.getElem?_map] at ey
    obtain ⟨i2, ei, rfl⟩ := Option.map_eq_some_iff.mp ey
    obtain ⟨t1, e1, dg⟩ := row _ _ _ _ (k9.trans k4) ei qin
    rw [e1]
    refine ⟨rfl, ?_⟩
    refine ⟨_, rfl, _, rfl, t1, _, rfl, dg, _, oD2, ?_, ?_, ?_⟩
    · rw [List.length_map, List.length_take, sizeLine_eq]; omega
    · rw [upd_same, List.take_succ, ei, List.map_append]
      rfl
    · exact fun b o e => by
        rw [upd_ne (ne_of_none e nD2)]
        exact k4 _ _ e
  rintro H9 ⟨oD2, k89⟩
  rw [List.length_map, List.take_length] at oD2
  refine ⟨D2, part.map (says ns tbl q), rfl, SqL.of (by rw [List.map_map]; exact oD2), by rw [List.length_map]; exact lp, fun ys sl sorted mem nsl H10 k910 osl => ?_⟩
  have npl8 := npl
  have mem' : ∀ v, v ∈ ys ↔ v ∈ answersOf (says ns tbl q) part := fun v => by
    rw [mem]
    unfold answersOf
    rw [once_mem]
  have ylen : ys.length < 64 := by
    have z := nodup_le (l := ys) (r := part.map (says ns tbl q)) (sorted.imp fun h => by omega) fun v hv => (mem v).mp hv
    rw [List.length_map] at z
    omega
  have slpl : sl ≠ pl := fun z => by
    have e := k89 _ _ (upd_same (H := H8) (a := pl) (o := .lst []))
    rw [← z, nsl] at e
    cases e
  have opl0 := k910 _ _ (k89 _ _ (upd_same (H := H8) (a := pl) (o := .lst [])))
  refine ⟨sl, rfl, ⟨_, SqL.of osl⟩, for_it walk_list (fun j σ H' => Same H8 H' ∧ H' sl = some (.lst (ys.map V.int)) ∧ (∃ s6, σ = [some (.ref r), some (.str x), some (.ref oL), some (.int (d + 1 : Nat)), some (.str q), some (.ref pl), s6, none, none]) ∧
      ∃ rs : List Addr, H' pl = some (.lst (rs.map V.ref)) ∧ Paired (fun a v => a ≠ pl ∧ RowsOf H' a as (partOf (says ns tbl q) part v)) rs (ys.take j))
    ⟨(kp.trans k89).trans k910, osl, ⟨_, rfl⟩, [], opl0, .nil⟩ (fun j σ H' _ h => SqL.of h.2.1) ?_ ?_⟩
  · rintro j y σ H11 H12 lj ⟨k811, osl', ⟨s6', rfl⟩, rs, opl, prs⟩ ⟨rfl, ey⟩
    rw [List.getElem?_map] at ey
    obtain ⟨v, ev, rfl⟩ := Option.map_eq_some_iff.mp ey
    have k11 := k8.trans k811
    refine ⟨_, rfl, .inl ⟨rfl, _, SqL.of opl⟩, _, rfl, r, rfl, ⟨_, SqL.of (k11 _ _ hrw)⟩, fun D3 nD3 => lc_it walk_list (fun m H' => H' D3 = some (.lst (((part.take m).filter fun i => decide (says ns tbl q i = v)).map fun i => V.ref (as.getD i 0))) ∧ Same H12 H') ⟨upd_same, same_new nD3⟩ (fun m H' _ h => SqL.of (h.2 _ _ (k11 _ _ hrw))) ?_ ?_⟩
    · rintro m y H4 H5 lm ⟨oD3, k4⟩ ⟨rfl, ey⟩
      rw [List.getElem?_map] at ey
      obtain ⟨i2, ei, rfl⟩ := Option.map_eq_some_iff.mp ey
      obtain ⟨t1, e1, dg⟩ := row _ _ _ _ (k11.trans k4) ei qin
      have esn := filter_take_snoc (fun i => decide (says ns tbl q i = v)) ei
      rw [e1]
      refine ⟨rfl, ?_⟩
      refine ⟨_, rfl, _, rfl, t1, _, rfl, dg, _, rfl, rfl, ?_⟩
      by_cases h : says ns tbl q i2 = v
      · rw [if_pos (decide_eq_true h)] at esn
        refine ⟨true, congrArg V.bl (decide_eq_true (congrArg V.int h)), iteT ⟨_, rfl, _, oD3, ?_, ?_, ?_⟩⟩
        · have := List.length_filter_le (fun i => decide (says ns tbl q i = v)) (part.take m)
          rw [List.length_take] at this
          rw [List.length_map, sizeLine_eq]
          omega
        · rw [upd_same, esn, List.map_append]
          show _ = some (HO.lst (_ ++ [V.ref (as.getD i2 0)]))
          rw [e1]
        · exact fun b o e => by
            rw [upd_ne (ne_of_none e nD3)]
            exact k4 _ _ e
      · rw [if_neg (by rw [decide_eq_false h]; exact Bool.false_ne_true), List.append_nil] at esn
        exact ⟨false, congrArg V.bl (decide_eq_false fun c => h (V.int.inj c)), iteF ⟨by rw [esn]; exact oD3, k4⟩⟩
    rintro H13 ⟨oD3, k13⟩
    rw [List.length_map, List.take_length] at oD3
    have D3pl : D3 ≠ pl := fun z => by rw [z, opl] at nD3; cases nD3
    have lrs : rs.length = j := by
      have z := Paired.length prs
      rw [List.length_take] at z
      rw [List.length_map] at lj
      omega
    rw [List.length_map] at lj
    refine ⟨pl, _, _, rfl, rfl, k13 _ _ opl, by rw [List.length_map, sizeLine_eq]; omega, fun b o e => ?_, ?_, ⟨_, rfl⟩, rs ++ [D3], ?_, ?_⟩
    · rw [upd_ne (ne_of_none e npl8)]
      exact k13 _ _ (k811 _ _ e)
    · rw [upd_ne slpl]
      exact k13 _ _ osl'
    · rw [upd_same, map_snoc]
    · have ey2 : ys.take (j + 1) = ys.take j ++ [v] := by rw [List.take_succ, ev]; rfl
      rw [ey2]
      refine paired_join (Paired.mapP prs fun a v h => ⟨h.1, ?_⟩) ⟨D3pl, ?_⟩
      · unfold RowsOf
        rw [upd_ne h.1]
        exact k13 _ _ h.2
      · unfold RowsOf
        rw [upd_ne D3pl]
        exact oD3
  rintro σ H11 ⟨k811, osl', ⟨s6', rfl⟩, rs, opl, prs⟩
  rw [List.length_map, List.take_length] at prs
  have k11 := k8.trans k811
  have lrs : rs.length = ys.length := Paired.length prs
  refine ⟨_, rfl, pl, rfl, ⟨_, SqL.of opl⟩, fun D4 nD4 => lc_it walk_list (fun m H' => H' D4 = some (.lst ((ys.take m).map fun v => V.bl (hardP (bestS (says ns tbl) x of (partOf (says ns tbl q) part v)).1 d))) ∧ Same H11 H') ⟨upd_same, same_new nD4⟩ (fun m H' _ h => SqL.of (h.2 _ _ opl)) ?_ ?_⟩
  · rintro m y H4 H5 lm ⟨oD4, k4⟩ ⟨rfl, ey⟩
    rw [List.getElem?_map] at ey
    obtain ⟨a, ea, rfl⟩ := Option.map_eq_some_iff.mp ey
    obtain ⟨v, ev, _, ra⟩ := paired_get prs ea
    have vin := (mem' v).mp (List.mem_of_getElem? ev)
    have k14 := k11.trans k4
    refine ⟨rfl, ?_⟩
    refine ⟨_, rfl, _, rfl, _, rfl, _, rfl, _, _, rfl, rfl, ?_⟩
    refine ⟨a, oL, as, ns, tbl, x, of, partOf (says ns tbl q) part v, congrArg (fun n => [V.ref a, V.str x, V.ref oL, n]) e1d, k4 _ _ ra, hd.same k14, nd0, fun i hi => below i (List.mem_filter.mp hi).1, List.length_pos_iff.mpr (part_some vin), Nat.lt_of_le_of_lt (List.length_filter_le _ _) lp, xin, k14 _ _ hoL, sub, lo, fun H15 k15 => ⟨_, k15 _ _ oD4, ?_, ?_, ?_⟩⟩
    · rw [List.length_map, List.length_take, sizeLine_eq]; omega
    · rw [upd_same, List.take_succ, ev, List.map_append]
      rfl
    · exact fun b o e => by
        rw [upd_ne (ne_of_none e nD4)]
        exact k15 _ _ (k4 _ _ e)
  rintro H16 ⟨oD4, k16⟩
  rw [List.length_map, lrs, List.take_length] at oD4
  have k17 := k11.trans k16
  refine ⟨D4, ys.map fun v => hardP (bestS (says ns tbl) x of (partOf (says ns tbl q) part v)).1 d, rfl, SqL.of (by rw [List.map_map]; exact oD4), _, rfl, ?_⟩
  have anyE : ((ys.map fun v => hardP (bestS (says ns tbl) x of (partOf (says ns tbl q) part v)).1 d).any id = true) ↔ ∃ v ∈ answersOf (says ns tbl q) part, hardP (bestS (says ns tbl) x of (partOf (says ns tbl q) part v)).1 d = true := by
    rw [List.any_eq_true]
    constructor
    · rintro ⟨b, hb, e⟩
      obtain ⟨v, hv, rfl⟩ := List.mem_map.mp hb
      exact ⟨v, (mem' v).mp hv, e⟩
    · rintro ⟨v, hv, e⟩
      exact ⟨_, List.mem_map.mpr ⟨v, (mem' v).mpr hv, rfl⟩, e⟩
  cases hb : (ys.map fun v => hardP (bestS (says ns tbl) x of (partOf (says ns tbl q) part v)).1 d).any id with
  | false =>
    refine iteT (wrong H16 k17 fun z => ?_)
    have y := anyE.mpr ((step.mp z).2 q qof)
    rw [hb] at y
    cases y
  | true =>
    refine iteF ⟨k17, ⟨_, _, _, rfl⟩, fun q2 h2 => ?_⟩
    rw [ep] at h2
    rcases List.mem_append.mp h2 with h2 | h2
    · exact all q2 h2
    · obtain rfl : q2 = q := by simpa using h2
      exact anyE.mp hb
theorem ok_can0 (F : Fun K "_law_can" "_law_can" sCan f fd) : FnOk P w K mg base CX0 1 f fd ["rows", "asked", "of", "n"] (spCanL 0) := by
  refine F.ok scCn (fun vs H Q E h => by obtain ⟨r, oL, as, ns, tbl, x, of, part, e, _⟩ := h; rw [e]; rfl) fun cdv A outer s H vs Q E hr hsp => ?_
  obtain ⟨r, oL, as, ns, tbl, x, of, part, rfl, hrw, hd, nd0, below, pos, lp, xin, hoL, sub, lo, hq⟩ := hsp
  refine ⟨_, pss_cons (ps_if (pt_cmpR op_eq (pv 3) pe_int (nomark _)) (pss_one (ps_ret pe_bl)) pss_nil) pss_never, ?_⟩
  have z := hq H (Same.refl _)
  rw [hard_zero] at z
  exact ⟨_, rfl, rfl, true, rfl, iteT z⟩
theorem ok_can (rule : SortRule) (F : Fun K "_law_can" "_law_can" sCan f fd) (gF : mg "_law_can" = some (.ref f)) (nN : mg "len" = none) (nS : mg "set" = none) (nSo : mg "sorted" = none) (nA : mg "any" = none) : ∀ d : Nat, FnOk P w K mg base CX0 (d + 1) f fd ["rows", "asked", "of", "n"] (spCanL d)
  | 0 => ok_can0 F
  | d + 1 => ok_canS rule F gF nN nS nSo nA (ok_can rule F gF nN nS nSo nA d)
end
end L2.TB
/-! sorted(set(numbers)): the rule that _law_can asks -/
namespace L2.TB
open PySem PySem.Spec PyProof.Rows
theorem boot_srt : bootBuiltins "sorted" = some (.builtin "sorted") := by decide +kernel
theorem boot_set2 : bootBuiltins "set" = some (.type "set") := by decide +kernel
theorem pe_less {X : Cx} {e : Expr} {t : TE} (h : PE X e t) : PE X e (fun σ H Q => ∃ Q0 : VK, t σ H Q0 ∧ ∀ x H1, Q0 x H1 → Q x H1) := by
  refine ⟨fun pins s σ H Q I q => ?_⟩
  obtain ⟨Q0, q0, w⟩ := q
  exact thn (h.run pins s σ H Q0 I q0) fun u s1 ⟨x, H1, I1, r1, q1⟩ => ⟨x, H1, I1, r1, w x H1 q1⟩
theorem sortRule : SortRule := by
  intro X inner te pL pS qL qS calm gl nm gs ns hin plain
  have h := pe_callB (pos := qL) (p := pL) (cr_sortedSet calm) gl nm boot_srt (pa_cons (pe_callTy (pos := qS) (p := pS) (cr_setL calm) gs ns boot_set2 (pa_cons (pe_less hin) pa_nil plain) (he := plain)) pa_nil)
  refine ⟨fun pins st σ H Q inv rd => h.run pins st σ H Q inv ⟨_, rd, ?_⟩⟩
  rintro x H' ⟨p, zs, rfl, sq, few, go⟩
  refine ⟨p, zs, rfl, sq, by omega, fun q c nq hc => ?_⟩
  refine ⟨q, _, c, rfl, upd_same, by omega, fun ys r sorted mem len nr => ?_⟩
  refine go ys r sorted (fun k => ?_) (Same.free (same_new nq) nr) _ ((same_new nq).trans (same_new nr)) upd_same
  rw [mem]
  exact decide_eq_true_iff
end L2.TB
/-! dicts made anew of a dict's entries -/
namespace L2.TB
open PySem PySem.Spec PyProof.Rows
/-- d != {} -/
def rNeNil : R2 := fun x y H Q => ∃ a b ks, x = .ref a ∧ y = .ref b ∧ H a = some (.dK ks) ∧ H b = some (.dK []) ∧ Q (.bl (!ks.isEmpty)) H
theorem op_neNil {X : Cx} (hu : X.A.units < cLine) : OpR X (compareOp .NotEq) rNeNil := by
  intro pins s σ H x y v u Q I rx ry h
  obtain ⟨a, b, ks, rfl, rfl, ea, eb, q⟩ := h
  obtain rfl : v = Value.ref a := rx
  obtain rfl : u = Value.ref b := ry
  obtain ⟨_, ya, va, ra, da⟩ := (show ObjOk X.prog X.w H s.heap a (.dK ks) from I.hok a _ ea)
  obtain ⟨_, yb, vb, rb, db⟩ := (show ObjOk X.prog X.w H s.heap b (.dK []) from I.hok b _ eb)
  have la : ks.length = va.length := ra.length
  have lb : 0 = vb.length := rb.length
  refine PySem.W.keq_ne (knd := mixKind X.prog X.w) (r := true) ya yb da db hu (fun e => ?_) (fin_bl I q ?_)
  · have e0 : ks = [] := List.eq_nil_of_length_eq_zero (by omega)
    subst e0
    exact hits_all rb ra (fun p hp => by cases hp)
  · cases ks with
    | nil => rw [List.length_nil] at la; rw [← la, ← lb]; rfl
    | cons p r =>
      rw [List.length_cons] at la
      have ne : (va.length == vb.length) = false := by rw [← la, ← lb]; simp
      rw [ne]; rfl
theorem pair_filter {α β : Type} {F : α → β → Prop} {p : α → Bool} {r : β → Bool} (h : ∀ a b, F a b → p a = r b) {as : List α} {bs : List β} (P : Paired F as bs) : Paired F (as.filter p) (bs.filter r) := by
  induction P with
  | nil => exact .nil
  | @cons a b as bs q _ ih =>
    rw [List.filter_cons, List.filter_cons, h a b q]
    by_cases z : r b = true
    · rw [if_pos z, if_pos z]; exact .cons q ih
    · rw [if_neg z, if_neg z]; exact ih
theorem pair_map {α β α' β' : Type} {F : α → β → Prop} {G : α' → β' → Prop} {f : α → α'} {g : β → β'} (h : ∀ a b, F a b → G (f a) (g b)) {as : List α} {bs : List β} (P : Paired F as bs) : Paired G (as.map f) (bs.map g) := by
  induction P with
  | nil => exact .nil
  | cons q _ ih => exact .cons (h _ _ q) ih
/-- the entries of a dict that is a thing -/
def DiP (A : Addr → Prop) (H : Hp) (es : List (Key × V)) (kvs : List (Str × Hd)) : Prop := Paired (fun (e : Key × V) (kv : Str × Hd) => e.1 = Sum.inr kv.1 ∧ HdAt A H kv.2 e.2) es kvs
theorem DiP.keys {A : Addr → Prop} {H : Hp} {es : List (Key × V)} {kvs : List (Str × Hd)} (h : DiP A H es kvs) : es.map (·.1) = kvs.map fun e => Sum.inr e.1 := by
  unfold DiP at h
  induction h with
  | nil => rfl
  | cons q _ ih => rw [List.map_cons, List.map_cons, ih, q.1]
theorem DiP.len {A : Addr → Prop} {H : Hp} {es : List (Key × V)} {kvs : List (Str × Hd)} (h : DiP A H es kvs) : es.length = kvs.length := Paired.length h
theorem DiP.at_ {A : Addr → Prop} {H : Hp} {es : List (Key × V)} {kvs : List (Str × Hd)} (h : DiP A H es kvs) (nd : (kvs.map (·.1)).Nodup) {a : Addr} (ok : A a) (o : H a = some (.dK es)) : HdAt A H (.di kvs) (.ref a) :=
  .di ok o h.keys nd fun i k u x t e1 e2 => by
    obtain ⟨y, ey, z⟩ := paired_get h e1
    rw [e2] at ey
    obtain rfl := Option.some.inj ey
    exact z.2
theorem DiP.of {A : Addr → Prop} {H : Hp} {es : List (Key × V)} {kvs : List (Str × Hd)} (ks : es.map (·.1) = kvs.map fun e => Sum.inr e.1) (al : ∀ (i : Nat) (k : Key) (u : V) (x : Str) (t : Hd), es[i]? = some (k, u) → kvs[i]? = some (x, t) → HdAt A H t u) : DiP A H es kvs := by
  have l : es.length = kvs.length := by
    have z := congrArg List.length ks
    rw [List.length_map, List.length_map] at z
    exact z
  refine paired_of es kvs l fun i e kv e1 e2 => ⟨?_, al i e.1 e.2 kv.1 kv.2 e1 e2⟩
  have z := congrArg (fun l => l[i]?) ks
  simp only [List.getElem?_map, e1, e2, Option.map_some] at z
  exact Option.some.inj z
theorem DiP.nodK {A : Addr → Prop} {H : Hp} {es : List (Key × V)} {kvs : List (Str × Hd)} (h : DiP A H es kvs) (nd : (kvs.map (·.1)).Nodup) : (es.map (·.1)).Nodup := by
  rw [h.keys]
  have e : (kvs.map fun e => (Sum.inr e.1 : Key)) = (kvs.map (·.1)).map Sum.inr := by rw [List.map_map]; rfl
  rw [e]
  exact List.Pairwise.map Sum.inr (fun a b h e => h (Sum.inr.inj e)) nd
theorem DiP.keep {A A' : Addr → Prop} {H H' : Hp} {es : List (Key × V)} {kvs : List (Str × Hd)} (h : DiP A H es kvs) (hA : ∀ b, A b → A' b) (s : ∀ b o, A b → H b = some o → (∀ l, o ≠ .dT l) → H' b = some o) : DiP A' H' es kvs := Paired.mapP h fun _ _ z => ⟨z.1, z.2.keep hA s⟩
def rDk (K : PySem.W.Frag) : List V → Hp → VK → Prop := fun vs H Q => ∃ (l : Addr) (ts : List Addr) (es : List (Key × V)), vs = [.ref l] ∧ SqL K H l (ts.map V.ref) ∧ Paired (fun t e => SqT K H t [kV e.1, e.2]) ts es ∧ ∀ d, H d = none → Q (.ref d) (upd H d (.dK (mergeK [] es)))
theorem call_dk {X : Cx} (hc : X.calm = true) : CallR X (.type "dict") (rDk X.K) := call_dictP hc
/-- pairs made by a walk, some left out -/
theorem lc_pairsK {J : It} {g : TG} {tt : TT} {te : TE} {vs : List Nat} {σ : St} {H1 : Hp} {Q : Addr → Hp → Prop} (opts : List (Option (Key × V))) (short : opts.length < 1000000) (go : ∀ i H, Same H1 H → i < opts.length → J.go i H) (stop : ∀ H, Same H1 H → J.stop opts.length H)
    (turn : ∀ (i : Nat) (v : V) (o : Option (Key × V)) (H H' : Hp) (C : V → Hp → Prop) (N : Hp → Prop), opts[i]? = some o → Same H1 H → J.yld i H v H' → (∀ x, o = some x → ∀ t H4, Same H H4 → H4 t = some (.tup [kV x.1, x.2]) → C (.ref t) H4) → (o = none → ∀ H4, Same H H4 → N H4) →
      g v (wipe σ vs) H' fun σ2 H2 => wipe σ2 vs = wipe σ vs ∧ tt σ2 H2 fun b H3 => if b = true then te σ2 H3 C else N H3)
    (fin : ∀ H D ps, H1 D = none → H D = some (.lst ((ps : List Addr).map V.ref)) → Paired (fun p (x : Key × V) => H p = some (.tup [kV x.1, x.2])) ps (opts.filterMap id) → Same H1 H → Q D H) : LcW J g tt te vs σ H1 Q := by
  intro D nD
  refine ⟨fun i m H => m = opts.length - i ∧ i ≤ opts.length ∧ (∃ ps : List Addr, H D = some (.lst (ps.map V.ref)) ∧ Paired (fun p (x : Key × V) => H p = some (.tup [kV x.1, x.2])) ps ((opts.take i).filterMap id)) ∧ Same H1 H, ⟨_, rfl, Nat.zero_le _, ⟨[], upd_same, .nil⟩, same_new nD⟩, ?_⟩
  rintro i m H ⟨rfl, le, ⟨ps, oD, pr⟩, s1⟩
  by_cases lt : i < opts.length
  · refine .inr ⟨go i H s1 lt, fun H' => (∃ ps : List Addr, H' D = some (.lst (ps.map V.ref)) ∧ Paired (fun p (x : Key × V) => H' p = some (.tup [kV x.1, x.2])) ps ((opts.take (i + 1)).filterMap id)) ∧ Same H1 H', fun H' h => ⟨opts.length - (i + 1), by omega, rfl, lt, h⟩, fun v H' yl => ?_⟩
    have eo : opts[i]? = some opts[i] := List.getElem?_eq_getElem lt
    have et : opts.take (i + 1) = opts.take i ++ [opts[i]] := by rw [List.take_succ, eo]; rfl
    refine turn i v opts[i] H H' _ _ eo s1 yl (fun x ex t H4 s4 ot => ⟨_, s4 _ _ oD, ?_, ⟨ps ++ [t], by rw [upd_same]; simp, ?_⟩, ?_⟩) (fun no H4 s4 => ⟨⟨ps, s4 _ _ oD, ?_⟩, s1.trans s4⟩)
    · have l1 := Paired.length pr
      have l2 := List.length_filterMap_le id (opts.take i)
      rw [List.length_take] at l2
      rw [sizeLine_eq, List.length_map]
      omega
    · have tD : t ≠ D := fun z => by rw [z, s4 _ _ oD] at ot; cases ot
      rw [et, List.filterMap_append, ex]
      refine paired_snoc (by rw [upd_ne tD]; exact ot) (Paired.mapP pr fun p x h => ?_)
      rw [upd_ne (ne_of h oD (by intro z; cases z))]
      exact s4 _ _ h
    · intro b u e
      rw [upd_ne (ne_of_none e nD)]
      exact s4 _ _ (s1 _ _ e)
    · rw [et, List.filterMap_append, no]
      simpa using Paired.mapP pr fun p x h => s4 _ _ h
  · obtain rfl : i = opts.length := by omega
    rw [List.take_length] at pr
    exact .inl ⟨stop H s1, fin H D ps nD oD pr s1⟩
/-- dict([.. for one in d ..]) -/
theorem dict_walkK {K : PySem.W.Frag} {td : TE} {g : TG} {tt : TT} {te : TE} {vs : List Nat} {σ : St} {H : Hp} {Q : VK} {d : Addr} {es : List (Key × V)} (hd : H d = some (.dK es)) (rd : ∀ od R, R (.ref d) (upd H d (.frz od (.dK es))) → td σ (upd H d (.frz od (.dK es))) R) (opts : List (Option (Key × V))) (lo : opts.length = es.length) (short : es.length < 1000)
    (turn : ∀ (i : Nat) (e : Key × V) (o : Option (Key × V)) (od : Obj) (H' : Hp) (C : V → Hp → Prop) (N : Hp → Prop), es[i]? = some e → opts[i]? = some o → Same (upd H d (.frz od (.dK es))) H' → (∀ x, o = some x → ∀ t H4, Same H' H4 → H4 t = some (.tup [kV x.1, x.2]) → C (.ref t) H4) → (o = none → ∀ H4, Same H' H4 → N H4) →
      g (kV e.1) (wipe σ vs) H' fun σ2 H2 => wipe σ2 vs = wipe σ vs ∧ tt σ2 H2 fun b H3 => if b = true then te σ2 H3 C else N H3)
    (nd : ((opts.filterMap id).map (·.1)).Nodup)
    (fin : ∀ H' p, H p = none → H' p = some (.dK (opts.filterMap id)) → Same H H' → Q (.ref p) H') :
    tCB (rDk K) (tCons (tLockE (tLc (iKeys td) g tt te vs)) tNil) σ H Q := by
  refine ⟨d, _, hd, trivial, fun od => ?_⟩
  have oL : upd H d (.frz od (.dK es)) d = some (.frz od (.dK es)) := upd_same
  refine rd od _ ⟨d, od, rfl, .inl ⟨es, upd_same, lc_pairsK opts (by omega) (fun i H' k lt => ⟨k _ _ oL, by omega⟩) (fun H' k => ⟨k _ _ oL, by omega⟩) ?_ ?_⟩⟩
  · rintro i v o H2 H3 C N eo s2 ⟨rfl, k2, x2, ek2, rfl⟩ yes no
    exact turn i (k2, x2) o od _ C N ek2 eo s2 yes no
  · intro H2 D ps nD oD pr s2
    obtain ⟨b1, s34⟩ := lock_off hd s2
    have Dd : D ≠ d := fun z => by rw [z, upd_same] at nD; cases nD
    have pr2 : Paired (fun p (x : Key × V) => SqT K (upd H2 d (.dK es)) p [kV x.1, x.2]) ps (opts.filterMap id) := Paired.mapP pr fun p x h => SqT.of (by
      rw [upd_ne (ne_of h b1 (by intro z; cases z))]; exact h)
    refine ⟨b1, D, ps, opts.filterMap id, rfl, SqL.of (by rw [upd_ne Dd]; exact oD), pr2, fun p np => ?_⟩
    rw [merge_nd nd]
    exact fin _ p (s34.free np) upd_same (s34.trans (same_new np))
/-- nothing in it stands a truth for an answer -/
def Thi (q : Addr) (H : Hp) (v : V) : Prop := ∃ t, HdAt (fun b => b ≠ q) H t v ∧ ∀ e, noTr e t
theorem Thi.but {q : Addr} {H H' : Hp} {v : V} (h : Thi q H v) (s : ∀ b o, b ≠ q → H b = some o → H' b = some o) : Thi q H' v := by
  obtain ⟨t, a, b⟩ := h
  exact ⟨t, a.keep (fun _ z => z) fun b o n e _ => s b o n e, b⟩
def GoodE (t : Hd) : Prop := ∀ b t1 t2, t = .sq b [t1, t2] → (∀ k, t1 ≠ .at_ (.bl k)) ∧ ∀ e, noTr e t2
theorem noTr_at (v : V) : ∀ e, noTr e (.at_ v)
  | 0 => trivial
  | _ + 1 => fun _ h => by cases h
theorem noTr_sq (b : Bool) (l : List Hd) : ∀ e, noTr e (.sq b l)
  | 0 => trivial
  | _ + 1 => fun _ h => by cases h
theorem look_mem : ∀ {kvs : List (Str × Hd)} {q : Str} {t : Hd}, lookT kvs q = some t → (q, t) ∈ kvs
  | (x, t0) :: r, q, t, h => by
    have h : (if x = q then some t0 else lookT r q) = some t := h
    by_cases z : x = q
    · rw [if_pos z] at h
      rw [← Option.some.inj h, ← z]
      exact List.mem_cons_self
    · rw [if_neg z] at h
      exact List.mem_cons_of_mem _ (look_mem h)
theorem noTr_di {kvs : List (Str × Hd)} (h : ∀ x t, (x, t) ∈ kvs → GoodE t) : ∀ e, noTr e (.di kvs)
  | 0 => trivial
  | e + 1 => fun kvs' h' q b t1 t2 hl => by
    obtain rfl := Hd.di.inj h'
    obtain ⟨a, c⟩ := h _ _ (look_mem hl) b t1 t2 rfl
    exact ⟨a, c e⟩
end L2.TB
/-! _law_bent: what is near a hold -/
namespace L2.TB
open PySem PySem.Spec PyProof.Rows
abbrev NBt : List Str := ["stream", "thing", "found", "name", "answer", "inner", "odd", "one"]
theorem scBt : FnScope NBt ["stream", "thing"] (defScope sBent) := ⟨rfl, rfl, rfl, by decide +kernel, rfl, by decide +kernel, by decide +kernel⟩
def ButQ (q : Addr) (H H' : Hp) : Prop := ∀ b o, b ≠ q → H b = some o → H' b = some o
theorem ButQ.trans {q : Addr} {H H1 H2 : Hp} (a : ButQ q H H1) (b : ButQ q H1 H2) : ButQ q H H2 := fun c o n e => b c o n (a c o n e)
theorem ButQ.of {q : Addr} {H H' : Hp} (s : Same H H') : ButQ q H H' := fun b o _ e => s b o e
/-- the dict at d, and what was found so far at q -/
structure BentS (H : Hp) (d q : Addr) (es : List (Key × V)) (kvs : List (Str × Hd)) (bs : List V) : Prop where
  dq : d ≠ q
  od : H d = some (.dK es)
  p : DiP (fun b => b ≠ q) H es kvs
  oq : H q = some (.lst bs)
  b : ∀ b ∈ bs, Thi q H b
theorem BentS.same {H H' : Hp} {d q : Addr} {es : List (Key × V)} {kvs : List (Str × Hd)} {bs : List V} (h : BentS H d q es kvs bs) (s : Same H H') : BentS H' d q es kvs bs := ⟨h.dq, s _ _ h.od, h.p.keep (fun _ z => z) fun b o _ e _ => s b o e, s _ _ h.oq, fun b hb => (h.b b hb).but fun c o _ e => s c o e⟩
theorem BentS.app {H : Hp} {d q : Addr} {es : List (Key × V)} {kvs : List (Str × Hd)} {bs : List V} {v : V} (h : BentS H d q es kvs bs) (nv : Thi q H v) : BentS (upd H q (.lst (bs ++ [v]))) d q es kvs (bs ++ [v]) := by
  have s : ButQ q H (upd H q (.lst (bs ++ [v]))) := fun b o n e => by rw [upd_ne n]; exact e
  refine ⟨h.dq, s _ _ h.dq h.od, h.p.keep (fun _ z => z) fun b o n e _ => s b o n e, upd_same, fun b hb => ?_⟩
  rcases List.mem_append.mp hb with hb | hb
  · exact (h.b b hb).but s
  · rw [List.mem_singleton] at hb
    rw [hb]
    exact nv.but s
section
variable {K : PySem.W.Frag} {g : TG} {tt : TT} {te : TE} {vs : List Nat} {σ : St} {H : Hp} {D : Ends} {d q : Addr} {es : List (Key × V)} {kvs : List (Str × Hd)} {bs : List V}
/-- found.append(dict([.. for one in thing ..])) -/
theorem app_dictK (B : BentS H d q es kvs bs) (few : bs.length < 1000) (s1 : σ[1]? = some (some (.ref d))) (s2 : σ[2]? = some (some (.ref q))) (opts : List (Option (Key × V))) (lo : opts.length = es.length) (short : es.length < 1000)
    (turn : ∀ (i : Nat) (e : Key × V) (o : Option (Key × V)) (od : Obj) (H' : Hp) (C : V → Hp → Prop) (N : Hp → Prop), es[i]? = some e → opts[i]? = some o → Same (upd H d (.frz od (.dK es))) H' → (∀ x, o = some x → ∀ t H4, Same H' H4 → H4 t = some (.tup [kV x.1, x.2]) → C (.ref t) H4) → (o = none → ∀ H4, Same H' H4 → N H4) →
      g (kV e.1) (wipe σ vs) H' fun σ2 H2 => wipe σ2 vs = wipe σ vs ∧ tt σ2 H2 fun b H3 => if b = true then te σ2 H3 C else N H3)
    (nd : ((opts.filterMap id).map (·.1)).Nodup)
    (no : ∀ H' p, Same H H' → p ≠ q → H' p = some (.dK (opts.filterMap id)) → BentS H' d q es kvs bs → Thi q H' (.ref p))
    (next : ∀ H' b, BentS H' d q es kvs (bs ++ [b]) → ButQ q H H' → D.nx σ H') :
    tDrop (tBM K "list" rAppend (tVar 2) (tCons (tCB (rDk K) (tCons (tLockE (tLc (iKeys (tVar 1)) g tt te vs)) tNil)) tNil)) D σ H := by
  refine ⟨_, s2, .inl ⟨rfl, _, SqL.of B.oq⟩, ?_⟩
  refine dict_walkK B.od (fun od R r => ⟨_, s1, r⟩) opts lo short turn nd fun H' p np op s => ?_
  have B' := B.same s
  have pq : p ≠ q := fun z => by rw [z, B.oq] at np; cases np
  refine ⟨q, bs, .ref p, rfl, rfl, B'.oq, by rw [sizeLine_eq]; omega, next _ (.ref p) (B'.app (no H' p s pq op B')) fun b o n e => ?_⟩
  rw [upd_ne n]
  exact s _ _ e
end
theorem opt_filtK (k : Key) : ∀ es : List (Key × V), (es.map fun e => if e.1 = k then none else some e).filterMap id = es.filter fun e => !decide (e.1 = k)
  | [] => rfl
  | e :: es => by
    rw [List.map_cons, List.filter_cons]
    by_cases z : e.1 = k
    · rw [if_pos z, decide_eq_true z, List.filterMap_cons]
      exact opt_filtK k es
    · rw [if_neg z, decide_eq_false z, List.filterMap_cons]
      show e :: List.filterMap id _ = _
      rw [opt_filtK k es]
      rfl
theorem opt_someK (f : Key × V → Key × V) : ∀ es : List (Key × V), (es.map fun e => some (f e)).filterMap id = es.map f
  | [] => rfl
  | e :: es => by
    rw [List.map_cons, List.map_cons, List.filterMap_cons]
    show f e :: List.filterMap id _ = _
    rw [opt_someK f es]
/-- each entry is an answer with what is below -/
def HoldK (kvs : List (Str × Hd)) : Prop := ∀ x t, (x, t) ∈ kvs → ∃ z t', t = .sq true [.at_ (.int z), t'] ∧ ∀ e, noTr e t'
theorem HoldK.good {kvs : List (Str × Hd)} (h : HoldK kvs) : ∀ x t, (x, t) ∈ kvs → GoodE t := fun x t hx b t1 t2 e => by
  obtain ⟨z, t', rfl, n⟩ := h x t hx
  injection e with e1 e2
  injection e2 with e3 e4
  injection e4 with e5 e6
  subst e3 e5
  exact ⟨fun k c => (by cases c), n⟩
section
variable {P : Program} {w : World} {K : PySem.W.Frag} {mg : Str → Option Value} {base : Heap} {f : Addr} {cdv : Value} {A : Around} {outer : List Env} {s : Shared} {H : Hp} {E : XK}
def bentIf : List Stmt := match (defBody sBent).getD 1 (.Pass ⟨0, 0, 0, 0⟩) with
  | .If _ b _ _ => b
  | _ => []
/-- all but one -/
theorem bt_2 (hr : Room 3 (A.deeper (envOfC "_law_bent" (defScope sBent) s.heap.objs.size f cdv))) (nD : mg "dict" = none) :
    ∃ t, PS (cxOf CX0 P w K mg base NBt "_law_bent" (defScope sBent) f cdv A outer s H E).nox (bentIf.getD 2 (.Pass ⟨0, 0, 0, 0⟩)) t ∧ ∀ (D : Ends) (H0 : Hp) (d q : Addr) (es : List (Key × V)) (kvs : List (Str × Hd)) (bs : List V) (x : Str) (o0 o4 o5 o6 o7 : Option V),
      BentS H0 d q es kvs bs → bs.length < 1000 → (kvs.map (·.1)).Nodup → kvs.length < 900 → HoldK kvs → (∀ H' b, BentS H' d q es kvs (bs ++ [b]) → ButQ q H0 H' → D.nx [o0, some (.ref d), some (.ref q), some (.str x), o4, o5, o6, o7] H') → t D [o0, some (.ref d), some (.ref q), some (.str x), o4, o5, o6, o7] H0 := by
  have nd := scBt.nd
  have hu := hu_of (hr.mono (show 1 ≤ 3 by decide))
  refine ⟨_, ps_expr (pe_bm PySem.F.plainAttrs_list PySem.F.slot_list_append PySem.F.type_list_append mt_append (pv 2) (pa_cons (pe_callTy (r := rDk K) (call_dk rfl) rfl nD boot_dict' (pa_cons (pe_lock (pe_lc (own := [("one", 7)]) (g := gName 7) rfl nd (pi_keys (pv 1)) (blkOk_by (N := NBt) (sc := defScope sBent) (by decide +kernel)) (fun _ _ _ _ _ => pg_name (i := 7) nd rfl (Or.inl rfl))
    (fun _ _ _ _ _ => pts_one (pt_cmpR op_ne (pv 7) (pv 3) (nomark _))) (fun _ _ _ _ _ => pe_tup (pa_cons (pv 7) (pa_cons (pe_dget hu (pv 1) (pv 7) (fun _ _ => rfl)) pa_nil))))) pa_nil)) pa_nil)), ?_⟩
  intro D H0 d q es kvs bs x o0 o4 o5 o6 o7 B few kn ksh hk next
  have le : es.length = kvs.length := B.p.len
  have en := B.p.nodK kn
  refine app_dictK B few rfl rfl (es.map fun e => if e.1 = Sum.inr x then none else some e) (by rw [List.length_map]) (by omega) ?_ ?_ ?_ next
  · intro i e o od H' C N ee eo s' yes no
    rw [List.getElem?_map, ee] at eo
    obtain rfl : (if e.1 = Sum.inr x then none else some e) = o := Option.some.inj eo
    obtain ⟨kv, ekv, ek, _⟩ := paired_get B.p ee
    have dg : DGet H' d (kV e.1) (valV es e.1) := .inl ⟨es, e.1, .inr ⟨od, s' _ _ upd_same⟩, rfl, rfl⟩
    rw [valV_at (k := e.1) (x := e.2) en ee] at dg
    refine ⟨rfl, _, rfl, _, rfl, (by rw [ek]; rfl), ?_⟩
    by_cases z : e.1 = Sum.inr x
    · rw [if_pos z] at no
      exact ⟨false, congrArg V.bl (by rw [z]; show (!decide (V.str x = V.str x)) = false; simp), iteF (no rfl H' (Same.refl _))⟩
    · rw [if_neg z] at yes
      refine ⟨true, congrArg V.bl ?_, iteT ⟨_, rfl, _, rfl, _, rfl, d, _, rfl, dg, (by show 2 ≤ sizeLine; decide), fun t nt => yes e rfl t _ (same_new nt) upd_same⟩⟩
      rw [ek]
      show (!decide (V.str kv.1 = V.str x)) = true
      rw [decide_eq_false (fun c => z (by rw [ek, V.str.inj c]))]
      rfl
  · rw [opt_filtK]
    exact List.Nodup.sublist (List.Sublist.map _ List.filter_sublist) en
  · intro H' p s' pq op B'
    rw [opt_filtK] at op
    have P' : DiP (fun b => b ≠ q) H' (es.filter fun e => !decide (e.1 = Sum.inr x)) (kvs.filter fun kv => !decide (kv.1 = x)) := pair_filter (fun a b h => by
      rw [h.1]
      by_cases z : b.1 = x
      · rw [z]; simp
      · rw [decide_eq_false z, decide_eq_false fun c => z (Sum.inr.inj c)]) B'.p
    exact ⟨_, P'.at_ (List.Nodup.sublist (List.Sublist.map _ List.filter_sublist) kn) pq op, noTr_di fun y t hy => hk.good y t (List.mem_filter.mp hy).1⟩
/-- one entry otherwise -/
theorem bt_5 (hr : Room 3 (A.deeper (envOfC "_law_bent" (defScope sBent) s.heap.objs.size f cdv))) (nD : mg "dict" = none) {b1 : Stmt} (hb : b1 = match bentIf.getD 4 (.Pass ⟨0, 0, 0, 0⟩) with
      | .For _ _ b _ _ => b.getD 0 (.Pass ⟨0, 0, 0, 0⟩)
      | _ => .Pass ⟨0, 0, 0, 0⟩) :
    ∃ t, PS (cxOf CX0 P w K mg base NBt "_law_bent" (defScope sBent) f cdv A outer s H E).nox b1 t ∧ ∀ (D : Ends) (H0 : Hp) (d q : Addr) (es : List (Key × V)) (kvs : List (Str × Hd)) (bs : List V) (x : Str) (v : V) (tv : Hd) (o0 o4 o5 o7 : Option V),
      BentS H0 d q es kvs bs → bs.length < 1000 → (kvs.map (·.1)).Nodup → kvs.length < 900 → HoldK kvs → HdAt (fun b => b ≠ q) H0 tv v → GoodE tv → (∀ H' b, BentS H' d q es kvs (bs ++ [b]) → ButQ q H0 H' → D.nx [o0, some (.ref d), some (.ref q), some (.str x), o4, o5, some v, o7] H') → t D [o0, some (.ref d), some (.ref q), some (.str x), o4, o5, some v, o7] H0 := by
  subst hb
  have nd := scBt.nd
  have hu := hu_of (hr.mono (show 1 ≤ 3 by decide))
  refine ⟨_, ps_expr (pe_bm PySem.F.plainAttrs_list PySem.F.slot_list_append PySem.F.type_list_append mt_append (pv 2) (pa_cons (pe_callTy (r := rDk K) (call_dk rfl) rfl nD boot_dict' (pa_cons (pe_lock (pe_lc (own := [("one", 7)]) (g := gName 7) (tt := tYes) rfl nd (pi_keys (pv 1)) (blkOk_by (N := NBt) (sc := defScope sBent) (by decide +kernel)) (fun _ _ _ _ _ => pg_name (i := 7) nd rfl (Or.inl rfl))
    (fun _ _ _ _ _ => pts_nil) (fun _ _ _ _ _ => pe_tup (pa_cons (pv 7) (pa_cons (pe_ifExp (pt_cmpR op_eq (pv 7) (pv 3) (nomark _)) (pv 6) (pe_dget hu (pv 1) (pv 7) (fun _ _ => rfl))) pa_nil))))) pa_nil)) pa_nil)), ?_⟩
  intro D H0 d q es kvs bs x v tv o0 o4 o5 o7 B few kn ksh hk hv gv next
  have le : es.length = kvs.length := B.p.len
  have en := B.p.nodK kn
  have keyE : ∀ (l : List (Key × V)), (l.map fun e => if e.1 = Sum.inr x then (e.1, v) else e).map (·.1) = l.map (·.1) := fun l => by
    rw [List.map_map]
    refine List.map_congr_left fun e _ => ?_
    show (if e.1 = Sum.inr x then (e.1, v) else e).1 = e.1
    split <;> rfl
  have keyK : (kvs.map fun kv => if kv.1 = x then (kv.1, tv) else kv).map (·.1) = kvs.map (·.1) := by
    rw [List.map_map]
    refine List.map_congr_left fun e _ => ?_
    show (if e.1 = x then (e.1, tv) else e).1 = e.1
    split <;> rfl
  refine app_dictK B few rfl rfl (es.map fun e => some (if e.1 = Sum.inr x then (e.1, v) else e)) (by rw [List.length_map]) (by omega) ?_ ?_ ?_ next
  · intro i e o od H' C N ee eo s' yes no
    rw [List.getElem?_map, ee] at eo
    obtain rfl : some (if e.1 = Sum.inr x then (e.1, v) else e) = o := Option.some.inj eo
    obtain ⟨kv, ekv, ek, _⟩ := paired_get B.p ee
    have dg : DGet H' d (kV e.1) (valV es e.1) := .inl ⟨es, e.1, .inr ⟨od, s' _ _ upd_same⟩, rfl, rfl⟩
    rw [valV_at (k := e.1) (x := e.2) en ee] at dg
    have yes := yes _ rfl
    refine ⟨rfl, ?_⟩
    refine ⟨_, rfl, _, rfl, _, rfl, (by rw [ek]; rfl), ?_⟩
    by_cases z : e.1 = Sum.inr x
    · rw [if_pos z] at yes
      exact ⟨true, congrArg V.bl (by rw [z]; exact decide_eq_true rfl), iteT ⟨_, rfl, (by show 2 ≤ sizeLine; decide), fun t nt => yes t _ (same_new nt) upd_same⟩⟩
    · rw [if_neg z] at yes
      refine ⟨false, congrArg V.bl ?_, iteF ⟨_, rfl, _, rfl, d, _, rfl, dg, (by show 2 ≤ sizeLine; decide), fun t nt => yes t _ (same_new nt) upd_same⟩⟩
      rw [ek]
      exact decide_eq_false (fun c => z (by rw [ek, V.str.inj c]))
  · rw [opt_someK, keyE]
    exact en
  · intro H' p s' pq op B'
    rw [opt_someK] at op
    have hv' := hv.keep (fun _ z => z) fun b o _ e _ => s' b o e
    have P' : DiP (fun b => b ≠ q) H' (es.map fun e => if e.1 = Sum.inr x then (e.1, v) else e) (kvs.map fun kv => if kv.1 = x then (kv.1, tv) else kv) := pair_map (fun a b h => by
      by_cases z : b.1 = x
      · rw [if_pos z, if_pos (by rw [h.1, z])]
        exact ⟨h.1, hv'⟩
      · rw [if_neg z, if_neg (fun c => z (by rw [h.1] at c; exact Sum.inr.inj c))]
        exact h) B'.p
    refine ⟨_, P'.at_ (by rw [keyK]; exact kn) pq op, noTr_di fun y t hy => ?_⟩
    obtain ⟨kv, hkv, e⟩ := List.mem_map.mp hy
    by_cases z : kv.1 = x
    · rw [if_pos z] at e
      obtain rfl : tv = t := congrArg Prod.snd e
      exact gv
    · rw [if_neg z] at e
      rw [e] at hkv
      exact hk.good y t hkv
end
end L2.TB
/-! _law_bent whole -/
namespace L2.TB
open PySem PySem.Spec PyProof.Rows
def mr : Str := "more"
section
variable {K : PySem.W.Frag} {σ : St} {H : Hp} {Q : VK}
/-- dict(list(thing.items()) + [("more", (0, ()))]) -/
theorem more_dict {d : Addr} {es : List (Key × V)} (s1 : σ[1]? = some (some (.ref d))) (od : H d = some (.dK es)) (en : (es.map (·.1)).Nodup) (no : (Sum.inr mr : Key) ∉ es.map (·.1)) (sh : es.length < 1000)
    (fin : ∀ H' g t1 t0, H g = none → H t1 = none → H t0 = none → Same H H' → H' t0 = some (.tup []) → H' t1 = some (.tup [.int 0, .ref t0]) → H' g = some (.dK (es ++ [(Sum.inr mr, .ref t1)])) → Q (.ref g) H') :
    tCB (rDk K) (tCons (tOp rCat (LiI.tListItems (tVar 1)) (tLst (tCons (tTup (tCons (tC (.str "more")) (tCons (tTup (tCons (tC (.int 0)) (tCons (tTup tNil) tNil))) tNil))) tNil))) tNil) σ H Q := by
  refine ⟨_, s1, d, _, rfl, od, fun H3 q3 ts3 s3 n3 _ _ o3 pr3 => ?_⟩
  have s3 : Same H H3 := s3
  refine ⟨(by show 0 ≤ sizeLine; omega), fun t0 n0 => ⟨(by show 2 ≤ sizeLine; decide), fun t1 n1 => ⟨(by show 2 ≤ sizeLine; decide), fun t nt => ⟨(by show 1 ≤ sizeLine; decide), fun p np => ?_⟩⟩⟩⟩
  have k0 := same_new (o := .tup []) n0
  have o0 : upd H3 t0 (.tup []) t0 = some (.tup []) := upd_same
  generalize upd H3 t0 (.tup []) = Ha at k0 o0 n1 nt np ⊢
  have k1 := same_new (o := .tup [.int 0, .ref t0]) n1
  have o1 : upd Ha t1 (.tup [.int 0, .ref t0]) t1 = some (.tup [.int 0, .ref t0]) := upd_same
  generalize upd Ha t1 (.tup [.int 0, .ref t0]) = Hb at k1 o1 nt np ⊢
  have k2 := same_new (o := .tup [.str "more", .ref t1]) nt
  have o2 : upd Hb t (.tup [.str "more", .ref t1]) t = some (.tup [.str "more", .ref t1]) := upd_same
  generalize upd Hb t (.tup [.str "more", .ref t1]) = Hc at k2 o2 np ⊢
  have k4 := same_new (o := .lst [.ref t]) np
  have o4 : upd Hc p (.lst [.ref t]) p = some (.lst [.ref t]) := upd_same
  generalize upd Hc p (.lst [.ref t]) = Hd_ at k4 o4 ⊢
  have k3d := ((k0.trans k1).trans k2).trans k4
  have l3 : ts3.length = es.length := Paired.length pr3
  refine ⟨q3, p, _, _, rfl, rfl, k3d _ _ o3, o4, (by rw [sizeLine_eq, List.length_map]; show _ + 1 ≤ _; omega), fun p5 np5 => ?_⟩
  have k5 := same_new (o := .lst (ts3.map V.ref ++ [V.ref t])) np5
  have o5 : upd Hd_ p5 (.lst (ts3.map V.ref ++ [V.ref t])) p5 = some (.lst (ts3.map V.ref ++ [V.ref t])) := upd_same
  generalize upd Hd_ p5 (.lst (ts3.map V.ref ++ [V.ref t])) = He_ at k5 o5 ⊢
  have k36 := k3d.trans k5
  have nk : ((es ++ [((Sum.inr mr : Key), V.ref t1)]).map (·.1)).Nodup := by
    rw [List.map_append, List.nodup_append]
    refine ⟨en, by simp, fun a ha b hb e => ?_⟩
    obtain rfl : b = Sum.inr mr := List.mem_singleton.mp (show b ∈ [(Sum.inr mr : Key)] from hb)
    exact no (e ▸ ha)
  have p1 : Paired (fun t (e : Key × V) => SqT K He_ t [kV e.1, e.2]) ts3 es := Paired.mapP pr3 fun b x h => SqT.of (k36 _ _ h)
  have p2 : Paired (fun t (e : Key × V) => SqT K He_ t [kV e.1, e.2]) (ts3 ++ [t]) (es ++ [(Sum.inr mr, V.ref t1)]) := paired_snoc (F := fun t (e : Key × V) => SqT K He_ t [kV e.1, e.2]) (SqT.of ((k4.trans k5) _ _ o2)) p1
  refine ⟨p5, ts3 ++ [t], es ++ [(Sum.inr mr, V.ref t1)], rfl, SqL.of (by rw [List.map_append]; exact o5), p2, fun pd npd => ?_⟩
  rw [merge_nd nk]
  have k7 := same_new (o := .dK (es ++ [(Sum.inr mr, V.ref t1)])) npd
  have k07 := (s3.trans k36).trans k7
  exact fin _ pd t1 t0 ((s3.trans k36).free npd) ((s3.trans k0).free n1) (s3.free n0) k07 ((((((k1.trans k2).trans k4).trans k5).trans k7)) _ _ o0) (((((k2.trans k4).trans k5).trans k7)) _ _ o1) upd_same
end
/-- what hold tells: None, (), or a dict, apart from the spring -/
def Told (l ls : Addr) (H : Hp) (v : V) : Prop := v = .non ∨ (∃ a, v = .ref a ∧ a ≠ l ∧ a ≠ ls ∧ H a = some (.tup [])) ∨
  ∃ d es kvs, v = .ref d ∧ d ≠ l ∧ d ≠ ls ∧ H d = some (.dK es) ∧ DiP (fun b => b ≠ l ∧ b ≠ ls) H es kvs ∧ (kvs.map (·.1)).Nodup ∧ kvs.length < 900 ∧ mr ∉ kvs.map (·.1) ∧ HoldK kvs
def spBent : Sp := fun vs H Q _ => ∃ (l ls : Addr) (v : V) (N : Int), vs = [.ref l, v] ∧ Strm H l ls N ∧ N ≤ 900000 ∧ Told l ls H v ∧
  ∀ H' q bs, H q = none → H' q = some (.lst bs) → bs.length ≤ 20 → (∀ b ∈ bs, Thi q H' b) → Strm H' l ls (N + 1) → But l ls H H' → Q (.ref q) H'
theorem Strm.butQ {H H' : Hp} {l ls q : Addr} {N : Int} (h : Strm H l ls N) (n1 : q ≠ l) (n2 : q ≠ ls) (s : ButQ q H H') : Strm H' l ls N := by
  obtain ⟨cs, g, k, m, S⟩ := h
  exact ⟨cs, g, k, m, s _ _ (Ne.symm n1) S.o, s _ _ (Ne.symm n2) S.c, S.ne, S.g0, S.k0, S.k1, S.m0, S.m1, S.sz⟩
theorem thi_at {q : Addr} {H : Hp} {v : V} (a : Atom v) : Thi q H v := ⟨.at_ v, .at_ a, noTr_at v⟩
theorem hd_pair {A : Addr → Prop} {H : Hp} {a : Addr} {b : Bool} {u v : V} {tu tv : Hd} (ok : A a) (o : H a = some (seqO b [u, v])) (hu : HdAt A H tu u) (hv : HdAt A H tv v) : HdAt A H (.sq b [tu, tv]) (.ref a) :=
  .sq ok o rfl fun i x t e1 e2 => match i, e1, e2 with
    | 0, e1, e2 => by cases e1; cases e2; exact hu
    | 1, e1, e2 => by cases e1; cases e2; exact hv
    | _ + 2, e1, _ => by cases e1
theorem good_pair {b : Bool} {t1 t2 : Hd} (h1 : ∀ k, t1 ≠ .at_ (.bl k)) (h2 : ∀ e, noTr e t2) : GoodE (.sq b [t1, t2]) := fun b' u1 u2 e => by
  injection e with e1 e2
  injection e2 with e3 e4
  injection e4 with e5 e6
  subst e3 e5
  exact ⟨h1, h2⟩
end L2.TB
/-! lists of odd things: what is displayed, each with what is known of it -/
namespace L2.TB
open PySem PySem.Spec PyProof.Rows LamX
/-- e gives a thing of which R holds, wherever I holds; what stood stays -/
def Gives (te : TE) (σ : L2.St) (I : Hp → Prop) (R : V → Hp → Prop) : Prop := ∀ (H : Hp) (Q : VK), I H → (∀ v H', Same H H' → R v H' → Q v H') → te σ H Q
def GivesA (ta : TA) (σ : L2.St) (I : Hp → Prop) (R : V → Hp → Prop) (n : Nat) : Prop := ∀ (H : Hp) (Q : List V → Hp → Prop), I H → (∀ vs H', Same H H' → vs.length = n → (∀ v ∈ vs, R v H') → Q vs H') → ta σ H Q
section
variable {σ : L2.St} {I : Hp → Prop} {R R' : V → Hp → Prop} {te : TE} {ta : TA} {n : Nat}
theorem gvA_nil : GivesA tNil σ I R 0 := fun H Q _ h => h [] H (Same.refl _) rfl (fun _ z => by cases z)
theorem gvA_cons (sI : ∀ H H', Same H H' → I H → I H') (sR : ∀ v H H', Same H H' → R v H → R v H') (h : Gives te σ I R) (r : GivesA ta σ I R n) : GivesA (tCons te ta) σ I R (n + 1) := fun H Q i k =>
  h H _ i fun v H1 s1 q1 => r H1 _ (sI _ _ s1 i) fun vs H2 s2 l q2 => k (v :: vs) H2 (s1.trans s2) (by rw [List.length_cons, l]) (fun x hx => by
    rcases List.mem_cons.mp hx with rfl | hx
    · exact sR _ _ _ s2 q1
    · exact q2 x hx)
theorem gv_lst {H : Hp} {Q : VK} (sR : ∀ v H H', Same H H' → R v H → R v H') (hn : n ≤ 1000) (h : GivesA ta σ I R n) (i : I H) (k : ∀ L xs H', Same H H' → H' L = some (.lst xs) → xs.length = n → (∀ x ∈ xs, R x H') → Q (.ref L) H') : tLst ta σ H Q :=
  h H _ i fun vs H1 s1 l q1 => ⟨by rw [sizeLine_eq]; omega, fun p np => k p vs _ (s1.trans (same_new np)) upd_same l (fun x hx => sR _ _ _ (same_new np) (q1 x hx))⟩
theorem gv_lstN {K : PySem.W.Frag} {H : Hp} {Q : VK} (sR : ∀ v H H', Same H H' → R v H → R v H') (hn : n ≤ 1000) (h : GivesA ta σ I R n) (i : I H) (k : ∀ L xs H1, Same H H1 → H1 L = none → xs.length = n → (∀ x ∈ xs, R x H1) → Q (.ref L) (upd H1 L (.lst xs))) : tLst ta σ H Q :=
  h H _ i fun vs H1 s1 l q1 => ⟨by rw [sizeLine_eq]; omega, fun p np => k p vs H1 s1 np l q1⟩
/-- a thing that is no object -/
theorem gv_c {v : V} (h : ∀ H, I H → R v H) : Gives (tC v) σ I R := fun H Q i k => k _ _ (Same.refl _) (h H i)
/-- one new object -/
theorem gv_new (sI : ∀ H H', Same H H' → I H → I H') (o : HO) (h : ∀ (H : Hp) (Q : VK), I H → (∀ p, H p = none → Q (.ref p) (upd H p o)) → te σ H Q) (r : ∀ H p, I H → H p = some o → R (.ref p) H) : Gives te σ I R := fun H Q i k =>
  h H Q i fun p np => k _ _ (same_new np) (r _ _ (sI _ _ (same_new np) i) upd_same)
/-- (e, i) -/
theorem gv_pair {i : Int} (sI : ∀ H H', Same H H' → I H → I H') (sR : ∀ v H H', Same H H' → R' v H → R' v H') (h : Gives te σ I R') (r : ∀ H t v, I H → R' v H → H t = some (.tup [v, .int i]) → R (.ref t) H) : Gives (tTup (tCons te (tCons (tC (.int i)) tNil))) σ I R := fun H Q j k =>
  h H _ j fun v H1 s1 q1 => ⟨(by show 2 ≤ sizeLine; decide), fun p np => k _ _ (s1.trans (same_new np)) (r _ _ _ (sI _ _ (s1.trans (same_new np)) j) (sR _ _ _ (same_new np) q1) upd_same)⟩
/-- a walk over a list that is displayed -/
theorem odd_for {K : PySem.W.Frag} {T : List (Addr × Str)} {Sh : L2.St → Prop} {g : TG} {tb : TS} {D : Ends} {H : Hp} (hn : n ≤ 1000) (sR : ∀ v H H', Same H H' → R v H → R v H') (h : GivesA ta σ I R n) (i : I H) (TH : Tabs T H) (sh : Sh σ)
    (turn : ∀ (C : L2.St → Hp → Prop) (HL : Hp) (x : V) (σ' : L2.St) (H' : Hp), Same H HL → R x HL → ExtN HL H' → Tabs T H' → Sh σ' → (∀ σ2 H2, ExtN H' H2 → Tabs T H2 → Sh σ2 → C σ2 H2) → g x σ' H' fun σ2 H2 => tb { D with nx := C, ct := C, bk := D.nx } σ2 H2)
    (fin : ∀ σ' H', ExtN H H' → Tabs T H' → Sh σ' → D.nx σ' H') : tFor (iList K (tLst ta)) g tb D σ H := by
  unfold tFor iList
  refine gv_lst (R := R) sR hn h i fun L xs HL k oL lx all => ?_
  refine ⟨L, rfl, ⟨_, SqL.of oL⟩, for_list (xs := xs) (fun i σ H' => ExtN HL H' ∧ Tabs T H' ∧ Sh σ) ⟨ExtN.refl _, TH.ext k, sh⟩ (fun i σ H' _ h => SqL.of (h.1 _ _ oL (fun _ z => by cases z))) ?_ ?_⟩
  · rintro i x σ H' ex ⟨e, TH, hs⟩
    exact turn _ HL x σ H' k (all x (List.mem_of_getElem? ex)) e TH hs fun σ2 H2 e2 T2 s2 => ⟨e.trans e2, T2, s2⟩
  · rintro σ H' ⟨e, TH, hs⟩
    exact fin σ H' ((ExtN.of k).trans e) TH hs
theorem gv_mono (h : Gives te σ I R') (r : ∀ v H, R' v H → R v H) : Gives te σ I R := fun H Q i k => h H Q i fun v H' s q => k v H' s (r v H' q)
end
end L2.TB
/-! _law_bent: the def -/
namespace L2.TB
open PySem PySem.Spec PyProof.Rows
theorem HdAt.keep2 {A A' : Addr → Prop} {H H' : Hp} {t : Hd} {v : V} (h : HdAt A H t v) (s : ∀ b o, A b → H b = some o → A' b ∧ ((∀ l, o ≠ .dT l) → H' b = some o)) : HdAt A' H' t v := by
  induction h with
  | at_ h => exact .at_ h
  | sq ok h len _ ih => exact .sq (s _ _ ok h).1 ((s _ _ ok h).2 (seqO_dT _ _)) len ih
  | di ok h ks nd _ ih => exact .di (s _ _ ok h).1 ((s _ _ ok h).2 (fun _ z => by cases z)) ks nd ih
/-- as Thi, apart from the spring, too -/
def Thi3 (q l ls : Addr) (H : Hp) (v : V) : Prop := ∃ t, HdAt (fun b => b ≠ q ∧ b ≠ l ∧ b ≠ ls) H t v ∧ ∀ e, noTr e t
theorem Thi3.but {q l ls : Addr} {H H' : Hp} {v : V} (h : Thi3 q l ls H v) (s : But l ls H H') : Thi q H' v := by
  obtain ⟨t, a, b⟩ := h
  exact ⟨t, a.keep (fun _ z => z.1) fun b o n e _ => s b o n.2.1 n.2.2 e, b⟩
theorem Thi3.same {q l ls : Addr} {H H' : Hp} {v : V} (h : Thi3 q l ls H v) (s : Same H H') : Thi3 q l ls H' v := by
  obtain ⟨t, a, b⟩ := h
  exact ⟨t, a.same s, b⟩
def OddB (q : Addr) (v : V) (H : Hp) : Prop := ∃ tv, HdAt (fun b => b ≠ q) H tv v ∧ GoodE tv
theorem hd_int_eq {A : Addr → Prop} {H : Hp} {z : Int} {v : V} (h : HdAt A H (.at_ (.int z)) v) : v = .int z := by cases h; rfl
/-- an entry of a hold, taken apart -/
theorem entry_at {A : Addr → Prop} {H : Hp} {z : Int} {t : Hd} {v : V} (h : HdAt A H (.sq true [.at_ (.int z), t]) v) : ∃ a u, v = .ref a ∧ H a = some (.tup [.int z, u]) ∧ HdAt A H t u := by
  cases h with
  | @sq a _ us _ ok h len al =>
    match us, len with
    | [u0, u1], _ =>
      obtain rfl := hd_int_eq (al 0 u0 _ rfl rfl)
      exact ⟨a, u1, rfl, h, al 1 u1 _ rfl rfl⟩
section
variable {P : Program} {w : World} {K : PySem.W.Frag} {mg : Str → Option Value} {base : Heap} {f : Addr} {cdv : Value} {A : Around} {outer : List Env} {s : Shared} {H : Hp} {E : XK}
/-- the walk over odd entries -/
theorem bt_4 (hr : Room 3 (A.deeper (envOfC "_law_bent" (defScope sBent) s.heap.objs.size f cdv))) (nD : mg "dict" = none) :
    ∃ t, PS (cxOf CX0 P w K mg base NBt "_law_bent" (defScope sBent) f cdv A outer s H E).nox (bentIf.getD 4 (.Pass ⟨0, 0, 0, 0⟩)) t ∧ ∀ (D : Ends) (H0 : Hp) (d q : Addr) (es : List (Key × V)) (kvs : List (Str × Hd)) (bs : List V) (x : Str) (z : Int) (u : V) (tu : Hd) (o0 o6 o7 : Option V),
      BentS H0 d q es kvs bs → bs.length < 900 → (kvs.map (·.1)).Nodup → kvs.length < 900 → HoldK kvs → HdAt (fun b => b ≠ q) H0 tu u → (∀ e, noTr e tu) →
      (∀ H' bs' o6, BentS H' d q es kvs bs' → bs'.length = bs.length + 6 → ButQ q H0 H' → D.nx [o0, some (.ref d), some (.ref q), some (.str x), some (.int z), some u, o6, o7] H') → t D [o0, some (.ref d), some (.ref q), some (.str x), some (.int z), some u, o6, o7] H0 := by
  obtain ⟨t5, p5, r5⟩ := bt_5 (P := P) (w := w) (K := K) (base := base) (outer := outer) (H := H) (E := E) hr nD rfl
  have nd := scBt.nd
  refine ⟨_, ps_for PassesOwn.never rfl (pi_list (pe_lst (pa_cons (pe_tup (pa_cons (pe_op op_add (pv 4) pe_int) (pa_cons (pv 5) pa_nil))) (pa_cons (pe_tup (pa_cons pe_non (pa_cons (pv 5) pa_nil))) (pa_cons (pe_tup (pa_cons (pv 4) (pa_cons pe_non pa_nil))) (pa_cons (pe_lst (pa_cons (pv 4) (pa_cons (pv 5) pa_nil)))
    (pa_cons (pe_tup (pa_cons (pv 4) pa_nil)) (pa_cons (pe_tup (pa_cons (pv 4) (pa_cons (pe_lst pa_nil) pa_nil))) pa_nil)))))))) (pg_name (i := 6) nd rfl (Or.inr rfl)) (pss_one p5), ?_⟩
  intro D H0 d q es kvs bs x z u tu o0 o6 o7 B few kn ksh hk hu0 nt0 fin
  have sI : ∀ H H' : Hp, Same H H' → (BentS H d q es kvs bs ∧ HdAt (fun b => b ≠ q) H tu u) → (BentS H' d q es kvs bs ∧ HdAt (fun b => b ≠ q) H' tu u) := fun _ _ s i => ⟨i.1.same s, i.2.same s⟩
  have sR : ∀ v H H', Same H H' → OddB q v H → OddB q v H' := fun v H H' s ⟨tv, a, b⟩ => ⟨tv, a.same s, b⟩
  have nq : ∀ {H : Hp} {p : Addr}, (BentS H d q es kvs bs ∧ HdAt (fun b => b ≠ q) H tu u) → H p = none → p ≠ q := fun i n e => by rw [e, i.1.oq] at n; cases n
  unfold tFor iList
  refine gv_lstN (K := K) (I := fun H => BentS H d q es kvs bs ∧ HdAt (fun b => b ≠ q) H tu u) (R := OddB q) (n := 6) sR (by omega) ?_ ⟨B, hu0⟩ ?_
  · exact (gvA_cons sI sR (fun H Q i k => ⟨_, rfl, _, _, rfl, rfl, _, rfl, (by show 2 ≤ sizeLine; decide), fun p np => k _ _ (same_new np) ⟨.sq true [.at_ (.int (z + 1)), tu], hd_pair (nq i np) upd_same (.at_ (.int _)) (i.2.same (same_new np)), good_pair (fun k c => by cases c) nt0⟩⟩)
      (gvA_cons sI sR (fun H Q i k => ⟨_, rfl, (by show 2 ≤ sizeLine; decide), fun p np => k _ _ (same_new np) ⟨.sq true [.at_ .non, tu], hd_pair (nq i np) upd_same (.at_ .non) (i.2.same (same_new np)), good_pair (fun k c => by cases c) nt0⟩⟩)
      (gvA_cons sI sR (fun H Q i k => ⟨_, rfl, (by show 2 ≤ sizeLine; decide), fun p np => k _ _ (same_new np) ⟨.sq true [.at_ (.int z), .at_ .non], hd_pair (nq i np) upd_same (.at_ (.int _)) (.at_ .non), good_pair (fun k c => by cases c) (noTr_at _)⟩⟩)
      (gvA_cons sI sR (fun H Q i k => ⟨_, rfl, _, rfl, (by show 2 ≤ sizeLine; decide), fun p np => k _ _ (same_new np) ⟨.sq false [.at_ (.int z), tu], hd_pair (nq i np) upd_same (.at_ (.int _)) (i.2.same (same_new np)), good_pair (fun k c => by cases c) nt0⟩⟩)
      (gvA_cons sI sR (fun H Q i k => ⟨_, rfl, (by show 1 ≤ sizeLine; decide), fun p np => k _ _ (same_new np) ⟨.sq true [.at_ (.int z)], .sq (nq i np) upd_same rfl (fun j a t e1 e2 => match j, e1, e2 with
        | 0, e1, e2 => by cases e1; cases e2; exact .at_ (.int _)
        | _ + 1, e1, _ => by cases e1), fun b t1 t2 e => by injection e with e1 e2; injection e2 with e3 e4; cases e4⟩⟩)
      (gvA_cons sI sR (fun H Q i k => ⟨_, rfl, (by show 0 ≤ sizeLine; omega), fun e ne => ⟨(by show 2 ≤ sizeLine; decide), fun p np => k _ _ ((same_new ne).trans (same_new np)) ⟨.sq true [.at_ (.int z), .sq false []], hd_pair (nq (sI _ _ (same_new ne) i) np) upd_same (.at_ (.int _))
        (.sq (nq i ne) (same_new np _ _ upd_same) rfl (fun j a t e1 e2 => by cases e1)), good_pair (fun k c => by cases c) (noTr_sq _ _)⟩⟩⟩)
      gvA_nil))))))
  · intro L xs H1 k01 nL lx all
    have B1 := B.same k01
    have kL := same_new (o := .lst xs) nL
    have Lq : L ≠ q := fun e => by rw [e, B1.oq] at nL; cases nL
    refine ⟨L, rfl, ⟨_, SqL.of upd_same⟩, for_list (xs := xs) (fun i σ H' => i ≤ 6 ∧ ∃ bs', BentS H' d q es kvs bs' ∧ bs'.length = bs.length + i ∧ ButQ q (upd H1 L (.lst xs)) H' ∧ ∃ o6, σ = [o0, some (.ref d), some (.ref q), some (.str x), some (.int z), some u, o6, o7])
      ⟨by omega, bs, B1.same kL, rfl, .of (Same.refl _), _, rfl⟩ (fun i σ H' _ h => SqL.of (by obtain ⟨_, bs', B', l', s', _⟩ := h; exact s' _ _ Lq upd_same)) ?_ ?_⟩
    · rintro i y σ H' ey ⟨hi, bs', B', l', s', o6, rfl⟩
      have lt := (List.getElem?_eq_some_iff.mp ey).1
      obtain ⟨tv, hv, gv⟩ := all y (List.mem_of_getElem? ey)
      have hv' := (hv.same kL).keep (A' := fun b => b ≠ q) (fun _ z => z) fun b o n e _ => s' b o n e
      exact r5 _ _ d q es kvs bs' x y tv o0 _ _ o7 B' (by omega) kn ksh hk hv' gv fun H2 b B2 s2 => ⟨by omega, bs' ++ [b], B2, by rw [List.length_append, l']; show _ + 1 = _; omega, s'.trans s2, _, rfl⟩
    · rintro σ H' ⟨hi, bs', B', l', s', o6, rfl⟩
      exact fin H' bs' o6 B' (by rw [l', lx]) ((ButQ.of (k01.trans kL)).trans s')
end
end L2.TB
/-! _law_bent: the whole def -/
namespace L2.TB
open PySem PySem.Spec PyProof.Rows
theorem ButQ.upd (q : Addr) (H : Hp) (o : HO) : ButQ q H (upd H q o) := fun b u n e => by rw [upd_ne n]; exact e
section
variable {P : Program} {w : World} {K : PySem.W.Frag} {mg : Str → Option Value} {base : Heap} {f fP fD : Addr} {fd fdP fdD : FuncData}
theorem ok_bent (F : Fun K "_law_bent" "_law_bent" sBent f fd) (FP : Fun K "_law_pick" "_law_pick" sPick fP fdP) (gP : mg "_law_pick" = some (.ref fP)) (FD : Fun K "_law_draw" "_law_draw" sDraw fD fdD)
    (gD : mg "_law_draw" = some (.ref fD)) (gI : mg "int" = none) (gN : mg "len" = none) (nI : mg "isinstance" = none) (nD : mg "dict" = none) (nL : mg "list" = none) : FnOk P w K mg base CX0 4 f fd ["stream", "thing"] spBent := by
  have GP : FnOk P w K mg base CX0 2 fP fdP ["stream", "some"] (spPick K) := ok_pick FP FD gD gI gN
  have bP := FP.binds (ps := ["stream", "some"]) fun _ _ _ _ _ _ us hl => match us, hl with | [_, _], _ => rfl
  refine F.ok scBt (fun vs H Q E h => by obtain ⟨l, ls, v, N, e, _⟩ := h; rw [e]; rfl) fun cdv A outer s H vs Q E hr hsp => ?_
  obtain ⟨l, ls, v, N, rfl, hS, hN, T, hq⟩ := hsp
  have nd := scBt.nd
  have hu := hu_of (hr.mono (show 1 ≤ 3 by decide))
  have hu0 : (A.deeper (envOfC "_law_bent" (defScope sBent) s.heap.objs.size f cdv)).units < cLine := by omega
  obtain ⟨t2, p2, r2⟩ := bt_2 (P := P) (w := w) (K := K) (base := base) (outer := outer) (H := H) (E := E) hr nD
  obtain ⟨t4, p4, r4⟩ := bt_4 (P := P) (w := w) (K := K) (base := base) (outer := outer) (H := H) (E := E) hr nD
  refine ⟨_, PSs.nox (st := defBody sBent) (pss_cons (ps_set (i := 2) nd rfl (Or.inl rfl) (pe_lst (pa_cons pe_non (pa_cons pe_int (pa_cons (pe_tup pa_nil) (pa_cons (pe_lst pa_nil) (pa_cons pe_dnewK (pa_cons pe_str (pa_cons (pv 1) pa_nil)))))))))
    (pss_cons (ps_if (PW.pt (pw_and (pt_val (pe_callB (r := rIsi K) call_isi rfl nI boot_isi (pa_cons (pv 1) (pa_cons (pe_bltn (v := .ty "dict") rfl nD boot_dict' rfl) pa_nil)))) (pw_and1 (pt_cmpR (r := rNeNil) (op_neNil hu0) (pv 1) pe_dnewK (nomark _)))))
      (pss_cons (ps_set (i := 3) nd rfl (Or.inr rfl) (pe_call GP (hr.mono (by decide)) rfl gP FP.kp bP .nil pass0 (pa_cons (pv 0) (pa_cons (pe_callTy (call_listD rfl) rfl nL boot_list' (pa_cons (pv 1) pa_nil)) pa_nil))))
      (pss_cons (ps_asg (pe_dget hu (pv 1) (pv 3) (fun _ _ => rfl)) (pg_tup rfl (pgs_cons (pg_name (i := 4) nd rfl (Or.inl rfl)) (pgs_cons (pg_name (i := 5) nd rfl (Or.inl rfl)) pgs_nil))))
      (pss_cons p2
      (pss_cons (ps_expr (pe_bm PySem.F.plainAttrs_list PySem.F.slot_list_append PySem.F.type_list_append mt_append (pv 2) (pa_cons (pe_callTy (r := rDk K) (call_dk rfl) rfl nD boot_dict' (pa_cons (pe_op op_cat (LiI.pe_listItems rfl (pv 1) rfl nL boot_list') (pe_lst (pa_cons (pe_tup (pa_cons pe_str (pa_cons (pe_tup (pa_cons pe_int (pa_cons (pe_tup pa_nil) pa_nil))) pa_nil))) pa_nil))) pa_nil)) pa_nil)))
      (pss_one p4))))) pss_nil)
    (pss_one (ps_ret (pv 2))))), ?_⟩
  refine ⟨(by show 0 ≤ sizeLine; omega), fun t0 n0 => ⟨(by show 0 ≤ sizeLine; omega), fun e0 ne0 => fun d0 nd0 => ⟨_, rfl, (by show 7 ≤ sizeLine; decide), fun q nq => ?_⟩⟩⟩
  have k0 := same_new (o := .tup []) n0
  have a0 : upd H t0 (.tup []) t0 = some (.tup []) := upd_same
  generalize upd H t0 (.tup []) = Ha at k0 a0 ne0 nd0 nq ⊢
  have k1 := same_new (o := .lst []) ne0
  have a1 : upd Ha e0 (.lst []) e0 = some (.lst []) := upd_same
  generalize upd Ha e0 (.lst []) = Hb at k1 a1 nd0 nq ⊢
  have k2 := same_new (o := .dK []) nd0
  have a2 : upd Hb d0 (.dK []) d0 = some (.dK []) := upd_same
  generalize upd Hb d0 (.dK []) = Hc at k2 a2 nq ⊢
  have k3 := same_new (o := .lst [.non, .int 5, .ref t0, .ref e0, .ref d0, .str "a", v]) nq
  have oq : upd Hc q (.lst [.non, .int 5, .ref t0, .ref e0, .ref d0, .str "a", v]) q = some (.lst [.non, .int 5, .ref t0, .ref e0, .ref d0, .str "a", v]) := upd_same
  have kc := (k0.trans k1).trans k2
  have nqH : H q = none := kc.free nq
  have aq := hS.apart kc nq
  have at0 := hS.apart (Same.refl _) n0
  have ae0 := hS.apart k0 ne0
  have ad0 := hS.apart (k0.trans k1) nd0
  have t0q : t0 ≠ q := fun z => by rw [← z, k2 _ _ (k1 _ _ a0)] at nq; cases nq
  have e0q : e0 ≠ q := fun z => by rw [← z, k2 _ _ a1] at nq; cases nq
  have d0q : d0 ≠ q := fun z => by rw [← z, a2] at nq; cases nq
  have b0 := k3 _ _ (k2 _ _ (k1 _ _ a0))
  have b1 := k3 _ _ (k2 _ _ a1)
  have b2 := k3 _ _ a2
  have k4 := kc.trans k3
  generalize upd Hc q (.lst [.non, .int 5, .ref t0, .ref e0, .ref d0, .str "a", v]) = H1 at k4 oq b0 b1 b2 ⊢
  have lift : ∀ {t : Hd} {u : V}, HdAt (fun b => b ≠ l ∧ b ≠ ls) H t u → HdAt (fun b => b ≠ q ∧ b ≠ l ∧ b ≠ ls) H1 t u := fun h => h.keep2 fun b o a e => ⟨⟨ne_of_none e nqH, a.1, a.2⟩, fun _ => k4 _ _ e⟩
  have thv : Thi3 q l ls H1 v := by
    rcases T with rfl | ⟨a, rfl, n1, n2, oa⟩ | ⟨d, es, kvs, rfl, n1, n2, od, p, kn, ksh, nm, hk⟩
    · exact ⟨.at_ .non, .at_ .non, noTr_at _⟩
    · exact ⟨.sq true [], .sq ⟨ne_of_none oa nqH, n1, n2⟩ (k4 _ _ oa) rfl (fun i u t e _ => by cases e), noTr_sq _ _⟩
    · exact ⟨.di kvs, lift (p.at_ kn ⟨n1, n2⟩ od), noTr_di hk.good⟩
  have all : ∀ b ∈ [V.non, .int 5, .ref t0, .ref e0, .ref d0, .str "a", v], Thi3 q l ls H1 b := fun b hb => by
    simp only [List.mem_cons, List.not_mem_nil, or_false] at hb
    rcases hb with rfl | rfl | rfl | rfl | rfl | rfl | rfl
    · exact ⟨.at_ .non, .at_ .non, noTr_at _⟩
    · exact ⟨.at_ (.int 5), .at_ (.int _), noTr_at _⟩
    · exact ⟨.sq true [], .sq ⟨t0q, at0.1, at0.2⟩ b0 rfl (fun i u t e _ => by cases e), noTr_sq _ _⟩
    · exact ⟨.sq false [], .sq ⟨e0q, ae0.1, ae0.2⟩ b1 rfl (fun i u t e _ => by cases e), noTr_sq _ _⟩
    · exact ⟨.di [], .di ⟨d0q, ad0.1, ad0.2⟩ b2 rfl .nil (fun i k u x t e _ => by cases e), noTr_di fun x t h => by cases h⟩
    · exact ⟨.at_ (.str "a"), .at_ (.str _), noTr_at _⟩
    · exact thv
  have plain : ∀ H', Same H1 H' → Q (.ref q) H' := fun H' k => hq H' q _ nqH (k _ _ oq) (by show 7 ≤ 20; omega) (fun b hb => ((all b hb).same k).but (.refl _ _ _)) ((hS.same (k4.trans k)).mono (by omega)) (.of (k4.trans k))
  rcases T with rfl | ⟨a, rfl, n1, n2, oa⟩ | ⟨d, es, kvs, rfl, n1, n2, od, p, kn, ksh, nm, hk⟩
  · exact ⟨_, rfl, _, _, _, _, false, rfl, .ty _, .base .non, kit_ty (by decide +kernel), _, rfl, iteF (iteF ⟨_, rfl, plain _ (.refl _)⟩)⟩
  · exact ⟨_, rfl, _, _, _, _, false, rfl, .ty _, .base (.tup (k4 _ _ oa)), kit_ty (by decide +kernel), _, rfl, iteF (iteF ⟨_, rfl, plain _ (.refl _)⟩)⟩
  refine ⟨_, rfl, _, _, _, _, true, rfl, .ty _, .base (.dK (k4 _ _ od)), kit_ty (by decide +kernel), _, rfl, iteT ?_⟩
  refine ⟨_, rfl, fun m nm_ => ?_⟩
  have km := same_new (o := .dK []) nm_
  have om : upd H1 m (.dK []) m = some (.dK []) := upd_same
  refine ⟨d, m, es, rfl, rfl, km _ _ (k4 _ _ od), om, _, rfl, ?_⟩
  have plain2 := plain _ km
  generalize upd H1 m (.dK []) = H2 at km om plain2 ⊢
  have k5 := k4.trans km
  cases es with
  | nil => exact iteF ⟨_, rfl, plain2⟩
  | cons e1 er =>
  refine iteT ?_
  have p2' : DiP (fun b => b ≠ q ∧ b ≠ l ∧ b ≠ ls) H2 (e1 :: er) kvs := Paired.mapP p fun _ _ z => ⟨z.1, (lift z.2).same km⟩
  have lk : (e1 :: er).length = kvs.length := p.len
  refine ⟨_, rfl, _, rfl, d, e1 :: er, rfl, .inl (k5 _ _ od), fun c nc => ?_⟩
  have kc2 := same_new (o := .lst ((e1 :: er).map fun kv => kV kv.1)) nc
  have oc : upd H2 c (.lst ((e1 :: er).map fun kv => kV kv.1)) c = some (.lst ((e1 :: er).map fun kv => kV kv.1)) := upd_same
  have ac := hS.apart k5 nc
  generalize upd H2 c (.lst ((e1 :: er).map fun kv => kV kv.1)) = H3 at kc2 oc ⊢
  have k6 := k5.trans kc2
  refine ⟨l, ls, c, _, N, rfl, hS.same k6, by omega, ac.1, ac.2, oc, by simp, by rw [List.length_map]; omega, fun H4 x hx S4 B4 => ?_⟩
  obtain ⟨en, hen, rfl⟩ := List.mem_map.mp hx
  obtain ⟨i, hi, ei⟩ := List.getElem_of_mem hen
  have ee : (e1 :: er)[i]? = some en := by rw [List.getElem?_eq_getElem hi, ei]
  have B : BentS H4 d q (e1 :: er) kvs [V.non, .int 5, .ref t0, .ref e0, .ref d0, .str "a", .ref d] :=
    ⟨ne_of_none od nqH, B4 _ _ n1 n2 (k6 _ _ od), p2'.keep (fun _ z => z.1) fun b o n e _ => B4 _ _ n.2.1 n.2.2 (kc2 _ _ e), B4 _ _ aq.1 aq.2 (kc2 _ _ (km _ _ oq)), fun b hb => ((all b hb).same (km.trans kc2)).but B4⟩
  obtain ⟨kv, ekv, ek, hkv⟩ := paired_get B.p ee
  have kn2 := p.nodK kn
  have dg : DGet H4 d (kV en.1) (valV (e1 :: er) en.1) := .inl ⟨_, en.1, .inl B.od, rfl, rfl⟩
  rw [valV_at (k := en.1) (x := en.2) kn2 ee] at dg
  obtain ⟨z, t', et, nt'⟩ := hk kv.1 kv.2 (List.mem_of_getElem? ekv)
  rw [et] at hkv
  obtain ⟨a, u, eu, oa, hu1⟩ := entry_at hkv
  rw [eu] at dg
  have ekV : kV en.1 = .str kv.1 := by rw [ek]; rfl
  rw [ekV] at dg ⊢
  refine ⟨_, rfl, _, rfl, d, _, rfl, dg, a, _, rfl, SqT.of oa, rfl, _, _, rfl, _, _, rfl, rfl, ?_⟩
  refine r2 _ _ d q _ kvs _ kv.1 _ _ _ _ _ B (by show 7 < 1000; omega) kn ksh hk fun H5 b5 B5 s5 => ?_
  refine ⟨_, rfl, .inl ⟨rfl, _, SqL.of B5.oq⟩, more_dict rfl B5.od kn2 ?_ (by omega) fun H6 g t1 t0' ng nt1 nt0 k56 ot0 ot1 og => ?_⟩
  · rw [p.keys]
    intro hm
    obtain ⟨y, hy, e⟩ := List.mem_map.mp hm
    exact nm (List.mem_map.mpr ⟨y, hy, Sum.inr.inj e⟩)
  have B6 := B5.same k56
  have fq : ∀ {b : Addr}, H5 b = none → b ≠ q := fun n e => by rw [e, B5.oq] at n; cases n
  have thM : Thi q H6 (.ref g) := ⟨.di (kvs ++ [(mr, .sq true [.at_ (.int 0), .sq true []])]), by
    have P6 : DiP (fun b => b ≠ q) H6 ((e1 :: er) ++ [(Sum.inr mr, .ref t1)]) (kvs ++ [(mr, .sq true [.at_ (.int 0), .sq true []])]) := paired_join B6.p ⟨rfl, hd_pair (fq nt1) ot1 (.at_ (.int 0)) (.sq (fq nt0) ot0 rfl (fun i u t e _ => by cases e))⟩
    refine P6.at_ ?_ (fq ng) og
    rw [List.map_append, List.nodup_append]
    refine ⟨kn, by simp, fun a ha b hb e => ?_⟩
    obtain rfl : b = mr := List.mem_singleton.mp (show b ∈ [mr] from hb)
    exact nm (e ▸ ha), noTr_di fun x t h => by
    rcases List.mem_append.mp h with h | h
    · exact hk.good x t h
    · obtain rfl : t = .sq true [.at_ (.int 0), .sq true []] := congrArg Prod.snd (List.mem_singleton.mp h)
      exact good_pair (fun k c => by cases c) (noTr_sq _ _)⟩
  refine ⟨q, _, .ref g, rfl, rfl, B6.oq, (by show 8 + 1 ≤ sizeLine; decide), ?_⟩
  have B7 := B6.app thM
  have s46 : ButQ q H4 _ := s5.trans (ButQ.of k56)
  have s47 := s46.trans (ButQ.upd q H6 (.lst ([V.non, .int 5, .ref t0, .ref e0, .ref d0, .str "a", .ref d] ++ [b5] ++ [V.ref g])))
  refine r4 _ _ d q _ kvs _ kv.1 z u t' _ _ _ B7 (by show 9 < 900; omega) kn ksh hk ((hu1.keep (fun _ z => z) fun b o n e _ => s47 b o n e)) nt' fun H8 bs' o6 B8 l8 s78 => ?_
  have s48 := s47.trans s78
  refine ⟨_, rfl, hq H8 q bs' nqH B8.oq ?_ B8.b (S4.butQ aq.1 aq.2 s48) fun b o h1 h2 e => ?_⟩
  · rw [l8]; show 9 + 6 ≤ 20; omega
  · exact s48 _ _ (ne_of_none e nqH) (B4 _ _ h1 h2 (k6 _ _ e))
end
end L2.TB
/-! what the refused part asks of things, and how it compares -/
namespace L2.TB
open PySem PySem.Spec PyProof.Rows LamX
theorem ty_ext {K : PySem.W.Frag} {H H' : Hp} {v : V} {t : String} (h : TyX K H v (.type t)) (s : ExtN H H') : TyX K H' v (.type t) := by
  have k : ∀ {b : Addr} {o : HO}, H b = some o → (∀ ps, o ≠ .tbl ps) → H' b = some o := fun e n => s _ _ e n
  generalize e : Value.type t = u at h
  cases h with
  | base b =>
    refine .base ?_
    cases b with
    | non => exact .non
    | bl x => exact .bl x
    | int i => exact .int i
    | str x => exact .str x
    | flt x => exact .flt x
    | lst q => exact .lst (k q fun _ z => by cases z)
    | frz q => exact .frz (k q fun _ z => by cases z)
    | tup q => exact .tup (k q fun _ z => by cases z)
    | dK q => exact .dK (k q fun _ z => by cases z)
    | dT q => exact .dT (k q fun _ z => by cases z)
    | ins q => cases e
  | byt b => exact .byt b
  | set q => exact .set (k q fun _ z => by cases z)
  | kList q c => exact .kList q c
  | kTuple q c => exact .kTuple q c
  | kDict q c => exact .kDict q c
  | fTuple q => exact .fTuple (k q fun _ z => by cases z)
  | fDict q => exact .fDict (k q fun _ z => by cases z)
theorem Bad.ext {K : PySem.W.Frag} {H H' : Hp} {ns : List Str} {v : V} {r : Option Nat} (h : Bad K H ns v r) (s : ExtN H H') : Bad K H' ns v r := by
  cases h with
  | no h => exact .no (let ⟨t, a, b⟩ := h; ⟨t, ty_ext a s, b⟩)
  | seq h a l => exact .seq (h.imp (fun e => s _ _ e (fun _ z => by cases z)) (fun e => s _ _ e (fun _ z => by cases z))) a l
theorem TabAt.ext {H H' : Hp} {C a : Addr} {ns : List Str} {tbl : List (List Int)} (t : TabAt H C a ns tbl) (s : ExtN H H') : TabAt H' C a ns tbl := by
  obtain ⟨dx, qa, ra, h1, h2, ps, o, r⟩ := t.ex
  exact ⟨dx, qa, ra, s _ _ h1 (fun _ z => by cases z), s _ _ h2 (fun _ z => by cases z), ps, s _ _ o (fun _ z => by cases z), Paired.mapP r fun p vs h => ⟨s _ _ h.1 (fun _ z => by cases z), h.2⟩⟩
/-- nothing stands at q but a table -/
def Fresh (H : Hp) (q : Addr) : Prop := ∀ o, H q = some o → ∃ ps, o = .tbl ps
theorem grow_on {H0 H1 H2 : Hp} {q : Addr} (f : Fresh H0 q) (e : ExtN H0 H1) (g : GrowQ q H1 H2) : ExtN H0 H2 := fun b o h no => g b o (fun z => by
  rw [z] at h
  obtain ⟨ps, y⟩ := f o h
  exact no ps y) (e b o h no) no
theorem fz_dp {K : PySem.W.Frag} {H : Hp} {s : Str} {i : Int} {u : V} (h : FzAt H (.tu [.one (.str s), .one (.int i)]) u) : Dp K H u (.tuple [.str s, .int i]) := by
  generalize e : Tr.tu [.one (.str s), .one (.int i)] = t at h
  cases h with
  | one h => cases e
  | di h a => cases e
  | @tu a us ts h len sh al =>
    cases e
    match us, len with
    | [x, y], _ =>
      have h0 := al 0 x _ rfl rfl
      have h1 := al 1 y _ rfl rfl
      cases h0
      cases h1
      exact .tup (SqT.of h) (.cons (.str s) (.cons (.int i) .nil))
theorem found_dp {K : PySem.W.Frag} {H : Hp} {s : Str} {i : Int} : ∀ us : List V, (∀ u ∈ us, FzAt H (.tu [.one (.str s), .one (.int i)]) u) → DpAll K H us (List.replicate us.length (.tuple [.str s, .int i]))
  | [], _ => .nil
  | u :: us, h => .cons (fz_dp (h u (by simp))) (found_dp us fun x hx => h x (by simp [hx]))
theorem pair_shape {s : Str} {i : Int} (hs : PyData.strOk s = true) : ∀ n : Nat, PyData.canLayAll0 (List.replicate n (PyData.tuple [.str s, .int i])) = true ∧ PyData.depthAll (List.replicate n (PyData.tuple [.str s, .int i])) ≤ 2
  | 0 => ⟨by simp [PyData.canLayAll0], by simp [PyData.depthAll]⟩
  | n + 1 => by
    obtain ⟨h1, h2⟩ := pair_shape hs (i := i) n
    rw [List.replicate_succ]
    exact ⟨by simp [PyData.canLayAll0, PyData.canLay0, hs, h1], by simp [PyData.depthAll, PyData.depth]; omega⟩
theorem pairs_shaped {s : Str} {i : Int} (hs : PyData.strOk s = true) (n : Nat) : SeqAt.shaped (.list (List.replicate n (PyData.tuple [.str s, .int i]))) = true := by
  obtain ⟨h1, h2⟩ := pair_shape hs (i := i) n
  unfold SeqAt.shaped
  rw [Bool.and_eq_true]
  refine ⟨by simp [PyData.canLay0, h1], decide_eq_true ?_⟩
  simp only [PyData.depth]
  omega
theorem badAt_five (full : List Str) : ∀ (xs us : List Str) (n : Nat), (∀ x ∈ xs, x ∈ full) → (us ++ xs).Nodup → badAt full (xs.map V.str ++ [.int 5]) us n = some (n + xs.length)
  | [], us, n, _, _ => by simp [badAt, strOf]
  | x :: xs, us, n, h, nd => by
    have nx : x ∉ us := fun m => by
      rw [List.nodup_append] at nd
      exact nd.2.2 x m x (by simp) rfl
    have e : us ++ x :: xs = (us ++ [x]) ++ xs := by simp
    rw [e] at nd
    have ih := badAt_five full xs (us ++ [x]) (n + 1) (fun z hz => h z (by simp [hz])) nd
    show (if x ∈ full ∧ x ∉ us then badAt full (xs.map V.str ++ [.int 5]) (us ++ [x]) (n + 1) else some n) = _
    rw [if_pos ⟨h x (by simp), nx⟩, ih]
    simp
    omega
/-- how deep a frozen thing is -/
inductive TrD : Nat → Tr → Prop
  | one (v : V) : TrD 0 (.one v)
  | di {kvs : List (Key × V)} (nd : (kvs.map (·.1)).Nodup) : TrD 0 (.di kvs)
  | tu {n : Nat} {ts : List Tr} (h : ∀ (i : Nat) (t : Tr), ts[i]? = some t → TrD n t) : TrD (n + 1) (.tu ts)
  | up {n : Nat} {t : Tr} (h : TrD n t) : TrD (n + 1) t
theorem fz_alk {H : Hp} {n : Nat} {t : Tr} (d : TrD n t) : ∀ {u v : V}, FzAt H t u → FzAt H t v → AlkF H n u v := by
  induction d with
  | one v0 =>
    intro u v hu hv
    cases hu with
    | one h => cases hv with
      | one h' => exact .one h
  | di nd =>
    intro u v hu hv
    cases hu with
    | di h a => cases hv with
      | di h' a' => exact .dic h h' nd a
  | @tu n ts _ ih =>
    intro u v hu hv
    cases hu with
    | @tu a us _ h len sh al => cases hv with
      | @tu b us' _ h' len' sh' al' =>
        refine .tup h h' (by rw [len, len']) sh fun i x y ex ey => ?_
        have lt : i < ts.length := by rw [← len]; exact (List.getElem?_eq_some_iff.mp ex).1
        have et : ts[i]? = some ts[i] := List.getElem?_eq_getElem lt
        exact ih i _ et (al i x _ ex et) (al' i y _ ey et)
  | up _ ih => exact fun hu hv => .up (ih hu hv)
theorem badAt_all (full : List Str) : ∀ (xs us : List Str) (n : Nat), (∀ x ∈ xs, x ∈ full) → (us ++ xs).Nodup → badAt full (xs.map V.str) us n = none
  | [], us, n, _, _ => rfl
  | x :: xs, us, n, h, nd => by
    have nx : x ∉ us := fun m => by
      rw [List.nodup_append] at nd
      exact nd.2.2 x m x (by simp) rfl
    have e : us ++ x :: xs = (us ++ [x]) ++ xs := by simp
    rw [e] at nd
    show (if x ∈ full ∧ x ∉ us then badAt full (xs.map V.str) (us ++ [x]) (n + 1) else some n) = _
    rw [if_pos ⟨h x (by simp), nx⟩]
    exact badAt_all full xs (us ++ [x]) (n + 1) (fun z hz => h z (by simp [hz])) nd
theorem BadAsk.ext {K : PySem.W.Frag} {H H' : Hp} {ns : List Str} {v : V} (h : BadAsk K H ns v) (s : ExtN H H') : BadAsk K H' ns v := h.imp id fun ⟨t, a, b⟩ => ⟨t, ty_ext a s, b⟩
theorem no_one : ¬ NmOk "no one" := fun h => by
  have z := h.2.2 32 (by decide +kernel)
  revert z
  decide +kernel
theorem Thg.ext {H H' : Hp} {n : Nat} {t : Tr} {v : V} (h : Thg H n v t) (s : ExtN H H') : Thg H' n v t := by
  induction h with
  | one h => exact .one h
  | seq h len sh _ ih => exact .seq (h.imp (fun e => s _ _ e (fun _ z => by cases z)) (fun e => s _ _ e (fun _ z => by cases z))) len sh ih
  | dic h sh nd at_ => exact .dic (s _ _ h (fun _ z => by cases z)) sh nd at_
  | up _ ih => exact .up ih
theorem pair1_shaped {s : Str} {i : Int} (hs : PyData.strOk s = true) : SeqAt.shaped (.tuple [.str s, .int i]) = true := by
  have h : PyData.canLay0 (.tuple [.str s, .int i]) = true := by simp [PyData.canLay0, PyData.canLayAll0, hs]
  show (PyData.canLay0 _ && decide _) = true
  rw [Bool.and_eq_true]
  refine ⟨h, decide_eq_true ?_⟩
  simp [PyData.depth, PyData.depthAll]
theorem NoSeq.ext {K : PySem.W.Frag} {H H' : Hp} {v : V} (h : NoSeq K H v) (s : ExtN H H') : NoSeq K H' v := let ⟨t, a, b⟩ := h; ⟨t, ty_ext a s, b⟩
theorem NoInt.ext {K : PySem.W.Frag} {H H' : Hp} {v : V} (h : NoInt K H v) (s : ExtN H H') : NoInt K H' v := by
  cases h with
  | bl b => exact .bl b
  | ty h k => exact .ty (ty_ext h s) k
theorem BadCnt.ext {K : PySem.W.Frag} {H H' : Hp} {v : V} (h : BadCnt K H v) (s : ExtN H H') : BadCnt K H' v := h.imp id fun h => h.ext s
theorem BadWt.ext {K : PySem.W.Frag} {H H' : Hp} {m : Nat} {v : V} {r : Option Nat} (h : BadWt K H m v r) (s : ExtN H H') : BadWt K H' m v r := by
  cases h with
  | no h => exact .no (h.ext s)
  | seq h a l => exact .seq (h.imp (fun e => s _ _ e (fun _ z => by cases z)) (fun e => s _ _ e (fun _ z => by cases z))) a l
theorem badAt_more (full : List Str) (y : Str) (ny : y ∉ full) : ∀ (xs us : List Str) (n : Nat), (∀ x ∈ xs, x ∈ full) → (us ++ xs).Nodup → badAt full (xs.map V.str ++ [.str y]) us n = some (n + xs.length)
  | [], us, n, _, _ => by
    show (if y ∈ full ∧ y ∉ us then badAt full [] (us ++ [y]) (n + 1) else some n) = _
    rw [if_neg (fun z => ny z.1)]
    rfl
  | x :: xs, us, n, h, nd => by
    have nx : x ∉ us := fun m => by
      rw [List.nodup_append] at nd
      exact nd.2.2 x m x (by simp) rfl
    have e : us ++ x :: xs = (us ++ [x]) ++ xs := by simp
    rw [e] at nd
    have ih := badAt_more full y ny xs (us ++ [x]) (n + 1) (fun z hz => h z (by simp [hz])) nd
    show (if x ∈ full ∧ x ∉ us then badAt full (xs.map V.str ++ [.str y]) (us ++ [x]) (n + 1) else some n) = _
    rw [if_pos ⟨h x (by simp), nx⟩, ih]
    simp
    omega
section
variable {K : PySem.W.Frag} {H H' : Hp} {q t p : Addr} {n : Nat} {i : Int} {s : Str} {us : List V}
/-- two lists of one pair, often -/
theorem rep_dp (hs : PyData.strOk s = true) (hq : H q = some (.lst us)) (lu : us.length = n) (fu : ∀ u ∈ us, FzAt H (.tu [.one (.str s), .one (.int i)]) u) (ht : H t = some (.tup [.str s, .int i])) (hp : H p = some (.lst (List.replicate n (V.ref t)))) :
    Dp K H (.ref q) (.list (List.replicate n (.tuple [.str s, .int i]))) ∧ Dp K H (.ref p) (.list (List.replicate n (.tuple [.str s, .int i]))) ∧ SeqAt.shaped (.list (List.replicate n (PyData.tuple [.str s, .int i]))) = true ∧
      PyData.eqv (.list (List.replicate n (PyData.tuple [.str s, .int i]))) (.list (List.replicate n (PyData.tuple [.str s, .int i]))) = true := by
  have d1 := Dp.lst (K := K) (SqL.of hq) (found_dp us fu)
  rw [lu] at d1
  have ot : ∀ u ∈ List.replicate n (V.ref t), FzAt H (.tu [.one (.str s), .one (.int i)]) u := fun u hu => by
    obtain rfl := List.eq_of_mem_replicate hu
    refine .tu ht rfl (by show 2 < 1000; omega) fun j x y e1 e2 => ?_
    match j, e1, e2 with
    | 0, e1, e2 =>
      obtain rfl := Option.some.inj e1
      obtain rfl := Option.some.inj e2
      exact .one (.str _)
    | 1, e1, e2 =>
      obtain rfl := Option.some.inj e1
      obtain rfl := Option.some.inj e2
      exact .one (.int _)
    | j + 2, e1, e2 => cases e1
  have d2 := Dp.lst (K := K) (SqL.of hp) (found_dp _ ot)
  rw [List.length_replicate] at d2
  exact ⟨d1, d2, pairs_shaped hs n, SeqAt.eqv_refl _ (Bool.and_eq_true_iff.mp (pairs_shaped hs n)).1⟩
/-- frozen alike, often -/
theorem rep_alk {tr : Tr} {u : V} (td : TrD 1 tr) (hq : H q = some (.lst us)) (lu : us.length = n) (few : n < 100) (fu : ∀ u ∈ us, FzAt H (.tu [.one (.str s), tr]) u) (hu : FzAt H tr u) (ht : H t = some (.tup [.str s, u])) (hp : H p = some (.lst (List.replicate n (V.ref t)))) : AlkF H 3 (.ref q) (.ref p) := by
  have td2 : TrD 2 (.tu [.one (.str s), tr]) := .tu fun i t e => by
    match i, e with
    | 0, e => obtain rfl := Option.some.inj e; exact .up (.one _)
    | 1, e => obtain rfl := Option.some.inj e; exact td
    | i + 2, e => cases e
  have ot : FzAt H (.tu [.one (.str s), tr]) (.ref t) := by
    refine .tu ht rfl (by show 2 < 1000; omega) fun j x y e1 e2 => ?_
    match j, e1, e2 with
    | 0, e1, e2 =>
      obtain rfl := Option.some.inj e1
      obtain rfl := Option.some.inj e2
      exact .one (.str _)
    | 1, e1, e2 =>
      obtain rfl := Option.some.inj e1
      obtain rfl := Option.some.inj e2
      exact hu
    | j + 2, e1, e2 => cases e1
  refine .lst hq hp (by rw [lu, List.length_replicate]) (by rw [lu]; omega) fun i x y ex ey => ?_
  obtain rfl := List.eq_of_mem_replicate (List.mem_of_getElem? ey)
  exact fz_alk td2 (fu x (List.mem_of_getElem? ex)) ot
end
section
variable {K : PySem.W.Frag} {cs : List Clz} {T : List (Addr × Str)} {t : XK → TE} {te : TE} {σ : L2.St} {H : Hp} {c : Clz} {i : Int} {B : Bool → Hp → Prop} {Q : VK}
/-- _law_tried(lambda: ..) != (word, i) -/
theorem ne_read (hs : PyData.strOk c.tag = true) (TH : Tabs T H) (hc : c ∈ cs) (hte : ∀ H2 (Q : VK), Q (.int i) H2 → te σ H2 Q)
    (call : ∀ (H1 : Hp) (E : XK) (R : VK), ExtN H H1 → Tabs T H1 → Flies c.C c.fld (.int i) H1 E → t E σ H1 R) (next : ∀ H', ExtN H H' → Tabs T H' → B false H') :
    tTest (tOp (rNeD K) (tLam T (TTr cs (spFrozen 1)) t) (tTup (tCons (tC (.str c.tag)) (tCons te tNil)))) σ H B := by
  refine ⟨TH, fun H1 eN T1 E R hE => call H1 E R eN T1 (tried_by hc (n := 0) (tr := .one (.int i)) (.one (.int i)) (fun H2 u s2 f2 => ?_) E hE)⟩
  refine hte _ _ ⟨(by show 2 ≤ sizeLine; decide), fun p np => ?_⟩
  have sp := same_new (o := .tup [.str c.tag, .int i]) np
  have d1 := fz_dp (K := K) (f2.same sp)
  have d2 : Dp K (upd H2 p (.tup [.str c.tag, .int i])) (.ref p) (.tuple [.str c.tag, .int i]) := .tup (SqT.of upd_same) (.cons (.str _) (.cons (.int _) .nil))
  refine ⟨_, _, d1, d2, pair1_shaped hs, pair1_shaped hs, ?_⟩
  have e : PyData.eqv (.tuple [.str c.tag, .int i]) (.tuple [.str c.tag, .int i]) = true := SeqAt.eqv_refl _ (Bool.and_eq_true_iff.mp (pair1_shaped hs)).1
  refine ⟨_, rfl, ?_⟩
  show B (!PyData.eqv (.tuple [.str c.tag, .int i]) (.tuple [.str c.tag, .int i])) _
  rw [e]
  exact next _ (eN.trans (ExtN.of (s2.trans sp))) (T1.ext (s2.trans sp))
/-- _law_tried(lambda: ..) == (word, i) -/
theorem eq_read (hs : PyData.strOk c.tag = true) (TH : Tabs T H) (hc : c ∈ cs) (hte : ∀ H2 (Q : VK), Q (.int i) H2 → te σ H2 Q)
    (call : ∀ (H1 : Hp) (E : XK) (R : VK), ExtN H H1 → Tabs T H1 → Flies c.C c.fld (.int i) H1 E → t E σ H1 R) (next : ∀ H', ExtN H H' → Tabs T H' → Q (.bl true) H') :
    tOp (rEqD K) (tLam T (TTr cs (spFrozen 1)) t) (tTup (tCons (tC (.str c.tag)) (tCons te tNil))) σ H Q := by
  refine ⟨TH, fun H1 eN T1 E R hE => call H1 E R eN T1 (tried_by hc (n := 0) (tr := .one (.int i)) (.one (.int i)) (fun H2 u s2 f2 => ?_) E hE)⟩
  refine hte _ _ ⟨(by show 2 ≤ sizeLine; decide), fun p np => ?_⟩
  have sp := same_new (o := .tup [.str c.tag, .int i]) np
  have d1 := fz_dp (K := K) (f2.same sp)
  have d2 : Dp K (upd H2 p (.tup [.str c.tag, .int i])) (.ref p) (.tuple [.str c.tag, .int i]) := .tup (SqT.of upd_same) (.cons (.str _) (.cons (.int _) .nil))
  refine ⟨_, _, d1, d2, pair1_shaped hs, pair1_shaped hs, ?_⟩
  have e : PyData.eqv (.tuple [.str c.tag, .int i]) (.tuple [.str c.tag, .int i]) = true := SeqAt.eqv_refl _ (Bool.and_eq_true_iff.mp (pair1_shaped hs)).1
  rw [e]
  exact next _ (eN.trans (ExtN.of (s2.trans sp))) (T1.ext (s2.trans sp))
end
end L2.TB
/-! _law_refused_right: the first two walks -/
namespace L2.TB
open PySem PySem.Spec PyProof.Rows LamX
abbrev NRr : List Str := ["table", "asked", "names", "odd", "found", "due", "many"]
theorem scRr : FnScope NRr ["table", "asked", "names"] (defScope sRefR) := ⟨rfl, rfl, rfl, by decide +kernel, rfl, by decide +kernel, by decide +kernel⟩
/-- what refuses -/
structure RefF (P : Program) (w : World) (K : PySem.W.Frag) (mg : Str → Option Value) (base : Heap) (CT : Addr) (EA : ErrA) : Prop where
  R : Trd P w K mg EA
  hold : ∃ f fd, mg "hold" = some (.ref f) ∧ PySem.W.keepIn K (.ref f) = true ∧ FnOk P w K mg base (L2.CX P w) 38 f fd ["table", "asked", "n", "of"] (spHoldF K CT EA.CQ EA.CK EA.CN) ∧ Binds K fd ["table", "asked", "n", "of"] []
  isH : ∃ f fd, mg "is_hold" = some (.ref f) ∧ PySem.W.keepIn K (.ref f) = true ∧ FnOk P w K mg base (L2.CX P w) 6 f fd ["table", "asked", "n", "thing", "of"] (spIsHoldF K CT EA.CQ EA.CK EA.CN) ∧ Binds K fd ["table", "asked", "n", "thing", "of"] [] ∧ ∃ ds, Vals [V.non] ds ∧ Binds K fd ["table", "asked", "n", "thing", "of"] ds
  few : ∃ f fd, mg "fewest" = some (.ref f) ∧ PySem.W.keepIn K (.ref f) = true ∧ FnOk P w K mg base (L2.CX P w) 6 f fd ["table", "asked", "of"] (spFewX K CT EA.CQ EA.CK) ∧ Binds K fd ["table", "asked", "of"] []
  mean : ∃ f fd, mg "mean_fewest" = some (.ref f) ∧ PySem.W.keepIn K (.ref f) = true ∧ FnOk P w K mg base (L2.CX P w) 6 f fd ["table", "weights", "asked", "of"] (spMeanX K CT EA.CQ EA.CK EA.CX) ∧ Binds K fd ["table", "weights", "asked", "of"] [] ∧ ∃ ds, Vals [V.non] ds ∧ Binds K fd ["table", "weights", "asked", "of"] ds
  len : ∃ f fd, Meth K CT "__len__" f ∧ FnOk P w K mg base CX0 1 f fd ["self"] (spLen CT) ∧ Binds K fd ["self"] []
  nN : mg "len" = none
theorem flat_one (v : V) : ∀ n : Nat, (List.replicate n [v]).flatten = List.replicate n v
  | 0 => rfl
  | n + 1 => by
    rw [List.replicate_succ, List.replicate_succ, List.flatten_cons, flat_one v n]
    rfl
theorem badW_ones : ∀ n i : Nat, badW (List.replicate n (V.int 1)) i = none
  | 0, _ => rfl
  | n + 1, i => by
    rw [List.replicate_succ]
    show (if (0 : Int) < 1 then badW (List.replicate n (V.int 1)) (i + 1) else some i) = none
    rw [if_pos (by decide)]
    exact badW_ones n (i + 1)
theorem BadWt.ones {K : PySem.W.Frag} {H : Hp} {m n : Nat} {p : Addr} (o : H p = some (.lst (List.replicate n [V.int 1]).flatten)) (few : n < 1000) : BadWt K H m (.ref p) (if n = m then none else some n) := by
  rw [flat_one] at o
  have z := BadWt.seq (K := K) (m := m) (.inl o) (fun x hx => by rw [List.eq_of_mem_replicate hx]; exact .int 1) (by rw [List.length_replicate]; exact few)
  rw [badW_ones, List.length_replicate] at z
  exact z
theorem BadWt.onesN {K : PySem.W.Frag} {H : Hp} {m n : Nat} {p : Addr} (e : n = m) (o : H p = some (.lst (List.replicate n [V.int 1]).flatten)) (few : n < 1000) : BadWt K H m (.ref p) none := by
  have z := BadWt.ones (K := K) (m := m) o few
  rw [if_pos e] at z
  exact z
/-- the table and its names -/
structure TbR (H : Hp) (CT a nm : Addr) (ns : List Str) (tbl : List (List Int)) (y : Str) : Prop where
  t : TabAt H CT a ns tbl
  o : H nm = some (.lst (ns.map V.str))
  nd : ns.Nodup
  sh : ns.length ≤ 10
  pos : 0 < tbl.length
  few : tbl.length ≤ 10
  ok : ∀ x ∈ ns, NmOk x
  yin : y ∈ ns
theorem TbR.ext {H H' : Hp} {CT a nm : Addr} {ns : List Str} {tbl : List (List Int)} {y : Str} (h : TbR H CT a nm ns tbl y) (s : ExtN H H') : TbR H' CT a nm ns tbl y := ⟨h.t.ext s, s _ _ h.o (fun _ z => by cases z), h.nd, h.sh, h.pos, h.few, h.ok, h.yin⟩
theorem TbR.same {H H' : Hp} {CT a nm : Addr} {ns : List Str} {tbl : List (List Int)} {y : Str} (h : TbR H CT a nm ns tbl y) (s : Same H H') : TbR H' CT a nm ns tbl y := h.ext (.of s)
def bodyR (i : Nat) : List Stmt := match (defBody sRefR).getD i (.Pass ⟨0, 0, 0, 0⟩) with
  | .For _ _ b _ _ => b
  | _ => []
section
variable {P : Program} {w : World} {K : PySem.W.Frag} {mg : Str → Option Value} {base : Heap} {f CT c Pt fS : Addr} {EA : ErrA} {fdS : FuncData} {T : List (Addr × Str)} {A : Around} {outer : List Env} {s : Shared} {H : Hp} {E : XK}
theorem rr_t1 (R : Trd P w K mg EA) (FS : Fun K "_law_same" "_law_same" sSame fS fdS) (gS : mg "_law_same" = some (.ref fS)) (M : Sm mg) (hr : Room 40 (A.deeper (envOfC "_law_refused_right" (defScope sRefR) s.heap.objs.size f (.ref c)))) :
    ∃ t, PSs (cxOf CX0 P w K mg base NRr "_law_refused_right" (defScope sRefR) f (.ref c) A outer s H E).nox ((bodyR 0).drop 2) t ∧ ∀ (D : Ends) (H0 : Hp) (v : V) (tr : Tr) (q : Addr) (s0 s1 s2 s5 s6 : Option V), FoundAt H0 q (.tu [.one (.str "number"), tr]) 2 → Thg H0 1 v tr → TrD 1 tr →
      (∀ H', Same H0 H' → D.nx [s0, s1, s2, some v, some (.ref q), s5, s6] H') → t D [s0, s1, s2, some v, some (.ref q), s5, s6] H0 := by
  obtain ⟨fz, fdz, gZ, FZ⟩ := R.Z
  have GZ : FnOk P w K mg base CX0 2 fz fdz ["thing"] (spFrozen 1) := ok_frozen FZ gZ R.M 1
  have bZ := FZ.binds (ps := ["thing"]) fun _ _ _ _ _ _ us hl => match us, hl with | [_], _ => rfl
  have GS : FnOk P w K mg base CX0 4 fS fdS ["found", "due"] (spSameF 3) := ok_sameF FS gS M 3
  have bS := FS.binds (ps := ["found", "due"]) fun _ _ _ _ _ _ us hl => match us, hl with | [_, _], _ => rfl
  refine ⟨_, pss_one (ps_if (pt_not (pt_val (pe_call GS (hr.mono (by decide)) rfl gS FS.kp bS .nil pass0 (pa_cons (pv 4) (pa_cons (pe_op op_rep (pe_lst (pa_cons (pe_tup (pa_cons pe_str (pa_cons (pe_call GZ (hr.mono (by decide)) rfl gZ FZ.kp bZ .nil pass0 (pa_cons (pv 3) pa_nil)) pa_nil))) pa_nil)) pe_int) pa_nil))))) (pss_one ps_never) pss_nil), ?_⟩
  intro D H0 v tr q s0 s1 s2 s5 s6 F th td fin
  obtain ⟨us, hq, lu, fu⟩ := F
  refine ⟨_, rfl, _, rfl, v, tr, rfl, th, fun H1 u k1 fz1 => ⟨(by show 2 ≤ sizeLine; decide), fun t nt => ⟨(by show 1 ≤ sizeLine; decide), fun p np => ?_⟩⟩⟩
  have st := same_new (o := .tup [.str "number", u]) nt
  have sp := same_new (o := .lst [.ref t]) np
  refine ⟨p, 2, [.ref t], rfl, rfl, upd_same, by decide, by decide, (by show 1 * 2 ≤ sizeLine; rw [sizeLine_eq]; omega), fun p2 np2 => ?_⟩
  have sn := same_new (o := .lst (List.replicate (Int.toNat 2) [V.ref t]).flatten) np2
  have all := ((k1.trans st).trans sp).trans sn
  have ol : upd (upd (upd H1 t (.tup [.str "number", u])) p (.lst [.ref t])) p2 (.lst (List.replicate (Int.toNat 2) [V.ref t]).flatten) p2 = some (.lst (List.replicate 2 (V.ref t))) := upd_same
  refine ⟨.ref q, .ref p2, rfl, rep_alk td (all _ _ hq) lu (by omega) (fun x hx => (fu x hx).same all) (fz1.same ((st.trans sp).trans sn)) ((sp.trans sn) _ _ upd_same) ol, fun H' s' => ⟨_, rfl, iteF (fin _ (all.trans s'))⟩⟩
theorem rr_t2 (R : Trd P w K mg EA) (FS : Fun K "_law_same" "_law_same" sSame fS fdS) (gS : mg "_law_same" = some (.ref fS)) (M : Sm mg) (hr : Room 40 (A.deeper (envOfC "_law_refused_right" (defScope sRefR) s.heap.objs.size f (.ref c)))) :
    ∃ t, PSs (cxOf CX0 P w K mg base NRr "_law_refused_right" (defScope sRefR) f (.ref c) A outer s H E).nox ((bodyR 1).drop 4) t ∧ ∀ (D : Ends) (H0 : Hp) (v : V) (tr : Tr) (q : Addr) (s0 s1 s2 s5 s6 : Option V), FoundAt H0 q (.tu [.one (.str "question"), tr]) 4 → Thg H0 1 v tr → TrD 1 tr →
      (∀ H', Same H0 H' → D.nx [s0, s1, s2, some v, some (.ref q), s5, s6] H') → t D [s0, s1, s2, some v, some (.ref q), s5, s6] H0 := by
  obtain ⟨fz, fdz, gZ, FZ⟩ := R.Z
  have GZ : FnOk P w K mg base CX0 2 fz fdz ["thing"] (spFrozen 1) := ok_frozen FZ gZ R.M 1
  have bZ := FZ.binds (ps := ["thing"]) fun _ _ _ _ _ _ us hl => match us, hl with | [_], _ => rfl
  have GS : FnOk P w K mg base CX0 4 fS fdS ["found", "due"] (spSameF 3) := ok_sameF FS gS M 3
  have bS := FS.binds (ps := ["found", "due"]) fun _ _ _ _ _ _ us hl => match us, hl with | [_, _], _ => rfl
  refine ⟨_, pss_one (ps_if (pt_not (pt_val (pe_call GS (hr.mono (by decide)) rfl gS FS.kp bS .nil pass0 (pa_cons (pv 4) (pa_cons (pe_op op_rep (pe_lst (pa_cons (pe_tup (pa_cons pe_str (pa_cons (pe_call GZ (hr.mono (by decide)) rfl gZ FZ.kp bZ .nil pass0 (pa_cons (pv 3) pa_nil)) pa_nil))) pa_nil)) pe_int) pa_nil))))) (pss_one ps_never) pss_nil), ?_⟩
  intro D H0 v tr q s0 s1 s2 s5 s6 F th td fin
  obtain ⟨us, hq, lu, fu⟩ := F
  refine ⟨_, rfl, _, rfl, v, tr, rfl, th, fun H1 u k1 fz1 => ⟨(by show 2 ≤ sizeLine; decide), fun t nt => ⟨(by show 1 ≤ sizeLine; decide), fun p np => ?_⟩⟩⟩
  have st := same_new (o := .tup [.str "question", u]) nt
  have sp := same_new (o := .lst [.ref t]) np
  refine ⟨p, 4, [.ref t], rfl, rfl, upd_same, by decide, by decide, (by show 1 * 4 ≤ sizeLine; rw [sizeLine_eq]; omega), fun p2 np2 => ?_⟩
  have sn := same_new (o := .lst (List.replicate (Int.toNat 4) [V.ref t]).flatten) np2
  have all := ((k1.trans st).trans sp).trans sn
  have ol : upd (upd (upd H1 t (.tup [.str "question", u])) p (.lst [.ref t])) p2 (.lst (List.replicate (Int.toNat 4) [V.ref t]).flatten) p2 = some (.lst (List.replicate 4 (V.ref t))) := upd_same
  refine ⟨.ref q, .ref p2, rfl, rep_alk td (all _ _ hq) lu (by omega) (fun x hx => (fu x hx).same all) (fz1.same ((st.trans sp).trans sn)) ((sp.trans sn) _ _ upd_same) ol, fun H' s' => ⟨_, rfl, iteF (fin _ (all.trans s'))⟩⟩
/-- the first walk's two calls -/
theorem rr_1 (F : RefF P w K mg base CT EA) (TB : TabB base mg c Pt) (hm : (Pt, (envOfC "_law_refused_right" (defScope sRefR) s.heap.objs.size f (.ref c)).qual ++ "<lambda>") ∈ T) (hu : ∀ p ∈ T, p.1 = Pt → p.2 = (envOfC "_law_refused_right" (defScope sRefR) s.heap.objs.size f (.ref c)).qual ++ "<lambda>")
    (hr : Room 40 (A.deeper (envOfC "_law_refused_right" (defScope sRefR) s.heap.objs.size f (.ref c)))) {rest : List Stmt} {u : TS} (hrest : PSs (cxOf CX0 P w K mg base NRr "_law_refused_right" (defScope sRefR) f (.ref c) A outer s H E).nox rest u) :
    ∃ t, PSs (cxOf CX0 P w K mg base NRr "_law_refused_right" (defScope sRefR) f (.ref c) A outer s H E).nox ((bodyR 0).take 2 ++ rest) t ∧ ∀ (D : Ends) (H0 : Hp) (a nm : Addr) (ns : List Str) (tbl : List (List Int)) (y : Str) (v : V) (tr : Tr) (s4 s5 s6 : Option V),
      TbR H0 CT a nm ns tbl y → BadCnt K H0 v → (∀ H1, ExtN H0 H1 → Thg H1 1 v tr) → Tabs T H0 →
      (∀ H' q, Fresh H0 q → ExtN H0 H' → Tabs T H' → FoundAt H' q (.tu [.one (.str "number"), tr]) 2 → u D [some (.ref a), some (.str y), some (.ref nm), some v, some (.ref q), s5, s6] H') →
      t D [some (.ref a), some (.str y), some (.ref nm), some v, s4, s5, s6] H0 := by
  obtain ⟨fH, fdH, gH, kH, GH, bH⟩ := F.hold
  obtain ⟨fI, fdI, gI, kI, GI, bI, dI, rI, bI4⟩ := F.isH
  obtain ⟨fF, fdF, gF, kF, GF, bF⟩ := F.few
  obtain ⟨fM, fdM, gM, kM, GM, bM, dM, rM, bM3⟩ := F.mean
  obtain ⟨fL, fdL, mL, GL, bL⟩ := F.len
  have nd := scRr.nd
  refine ⟨_, pss_cons (ps_asg (pe_lst (pa_cons (pe_tried F.R 2 rfl TB rfl hm hu hr (by decide) (lamS_by (by show lamSB (defScope sRefR) _ = true; decide +kernel)) rfl (fun _ _ _ _ _ => rfl) (fun A outer s H E f c' hr => pe_callS GH (hr.mono (by decide)) rfl gH kH bH (fun σ => passAt (takes_of rfl rfl rfl rfl) σ) (pa_cons (pv 0) (pa_cons (pv 1) (pa_cons (pv 3) (pa_cons (pe_lst pa_nil) pa_nil)))))) pa_nil)) (pg_name (i := 4) nd rfl (Or.inl rfl)))
    (pss_cons (ps_expr (pe_bm PySem.F.plainAttrs_list PySem.F.slot_list_append PySem.F.type_list_append mt_append (pv 4) (pa_cons (pe_tried F.R 2 rfl TB rfl hm hu hr (by decide) (lamS_by (by show lamSB (defScope sRefR) _ = true; decide +kernel)) rfl (fun _ _ _ _ _ => rfl) (fun A outer s H E f c' hr => pe_callSD GI (hr.mono (by decide)) rfl gI kI bI4 rI (fun σ => passAt (takes_of rfl rfl rfl rfl) σ) (pa_cons (pv 0) (pa_cons (pv 1) (pa_cons (pv 3) (pa_cons pe_non pa_nil)))))) pa_nil))) hrest), ?_⟩
  intro D H0 a nm ns tbl y v tr s4 s5 s6 B hB th T0 fin
  have hc : (⟨"BadNumber", EA.CN, "number", "thing"⟩ : Clz) ∈ clz4 EA := by simp [clz4]
  have nsl : ns.length < 1000 := by have := B.sh; omega
  refine set_read (c := ⟨"BadNumber", EA.CN, "number", "thing"⟩) (v := v) (tr := tr) T0 hc th (fun H1 E R e1 T1 hf => ⟨_, rfl, _, rfl, _, rfl, (by show 0 ≤ sizeLine; omega), fun l nl => ?_⟩) fun H1 q fq e1 T1 F1 => ?_
  · have kl := same_new (o := .lst []) nl
    exact ⟨a, .str y, v, .ref l, ns, tbl, rfl, (B.t.ext e1).same kl, B.nd, nsl, B.pos, B.few, .inr ⟨y, rfl, B.yin, .inr ⟨[], ⟨⟨l, rfl, .inl upd_same⟩, .seq (xs := []) (.inl upd_same) (fun _ h => by cases h) (by show 0 < 1000; omega), fun _ h => (by cases h), .nil, (by show 0 < 1000; omega)⟩, .inl ⟨(hB.ext e1).same kl, hf.same kl⟩⟩⟩⟩
  refine app_read (c := ⟨"BadNumber", EA.CN, "number", "thing"⟩) (v := v) (tr := tr) rfl F1 (by omega) T1 hc (fun H3 e3 => th H3 (e1.trans e3)) (fun H3 E R e3 T3 hf => ⟨_, rfl, _, rfl, _, rfl, a, .str y, v, .non, .non, ns, tbl, rfl, B.t.ext (e1.trans e3), B.nd, B.sh, B.pos, B.few, .inr ⟨y, rfl, B.yin, .inr ⟨_, .inr ⟨rfl, rfl⟩, .inl ⟨hB.ext (e1.trans e3), hf⟩⟩⟩⟩) fun H2 g2 T2 F2 => ?_
  exact fin H2 q fq (grow_on fq e1 g2) T2 F2
/-- the second walk's four calls -/
theorem rr_2 (F : RefF P w K mg base CT EA) (TB : TabB base mg c Pt) (hm : (Pt, (envOfC "_law_refused_right" (defScope sRefR) s.heap.objs.size f (.ref c)).qual ++ "<lambda>") ∈ T) (hu : ∀ p ∈ T, p.1 = Pt → p.2 = (envOfC "_law_refused_right" (defScope sRefR) s.heap.objs.size f (.ref c)).qual ++ "<lambda>")
    (hr : Room 40 (A.deeper (envOfC "_law_refused_right" (defScope sRefR) s.heap.objs.size f (.ref c)))) {rest : List Stmt} {u : TS} (hrest : PSs (cxOf CX0 P w K mg base NRr "_law_refused_right" (defScope sRefR) f (.ref c) A outer s H E).nox rest u) :
    ∃ t, PSs (cxOf CX0 P w K mg base NRr "_law_refused_right" (defScope sRefR) f (.ref c) A outer s H E).nox ((bodyR 1).take 4 ++ rest) t ∧ ∀ (D : Ends) (H0 : Hp) (a nm : Addr) (ns : List Str) (tbl : List (List Int)) (y : Str) (v : V) (tr : Tr) (s4 s5 s6 : Option V),
      TbR H0 CT a nm ns tbl y → BadAsk K H0 ns v → (∀ H1, ExtN H0 H1 → Thg H1 1 v tr) → Tabs T H0 →
      (∀ H' q, Fresh H0 q → ExtN H0 H' → Tabs T H' → FoundAt H' q (.tu [.one (.str "question"), tr]) 4 → u D [some (.ref a), some (.str y), some (.ref nm), some v, some (.ref q), s5, s6] H') →
      t D [some (.ref a), some (.str y), some (.ref nm), some v, s4, s5, s6] H0 := by
  obtain ⟨fH, fdH, gH, kH, GH, bH⟩ := F.hold
  obtain ⟨fI, fdI, gI, kI, GI, bI, dI, rI, bI4⟩ := F.isH
  obtain ⟨fF, fdF, gF, kF, GF, bF⟩ := F.few
  obtain ⟨fM, fdM, gM, kM, GM, bM, dM, rM, bM3⟩ := F.mean
  obtain ⟨fL, fdL, mL, GL, bL⟩ := F.len
  have nd := scRr.nd
  refine ⟨_, pss_cons (ps_asg (pe_lst (pa_cons (pe_tried F.R 2 rfl TB rfl hm hu hr (by decide) (lamS_by (by show lamSB (defScope sRefR) _ = true; decide +kernel)) rfl (fun _ _ _ _ _ => rfl) (fun A outer s H E f c' hr => pe_callS GH (hr.mono (by decide)) rfl gH kH bH (fun σ => passAt (takes_of rfl rfl rfl rfl) σ) (pa_cons (pv 0) (pa_cons (pv 3) (pa_cons pe_non (pa_cons pe_int pa_nil)))))) pa_nil)) (pg_name (i := 4) nd rfl (Or.inl rfl)))
    (pss_cons (ps_expr (pe_bm PySem.F.plainAttrs_list PySem.F.slot_list_append PySem.F.type_list_append mt_append (pv 4) (pa_cons (pe_tried F.R 2 rfl TB rfl hm hu hr (by decide) (lamS_by (by show lamSB (defScope sRefR) _ = true; decide +kernel)) rfl (fun _ _ _ _ _ => rfl) (fun A outer s H E f c' hr => pe_callS GI (hr.mono (by decide)) rfl gI kI bI (fun σ => passAt (takes_of rfl rfl rfl rfl) σ) (pa_cons (pv 0) (pa_cons (pv 3) (pa_cons pe_non (pa_cons pe_non (pa_cons pe_int pa_nil))))))) pa_nil)))
    (pss_cons (ps_expr (pe_bm PySem.F.plainAttrs_list PySem.F.slot_list_append PySem.F.type_list_append mt_append (pv 4) (pa_cons (pe_tried F.R 2 rfl TB rfl hm hu hr (by decide) (lamS_by (by show lamSB (defScope sRefR) _ = true; decide +kernel)) rfl (fun _ _ _ _ _ => rfl) (fun A outer s H E f c' hr => pe_callS GF (hr.mono (by decide)) rfl gF kF bF (fun σ => passAt (takes_of rfl rfl rfl rfl) σ) (pa_cons (pv 0) (pa_cons (pv 3) (pa_cons pe_int pa_nil))))) pa_nil)))
    (pss_cons (ps_expr (pe_bm PySem.F.plainAttrs_list PySem.F.slot_list_append PySem.F.type_list_append mt_append (pv 4) (pa_cons (pe_tried F.R 2 rfl TB rfl hm hu hr (by decide) (lamS_by (by show lamSB (defScope sRefR) _ = true; decide +kernel)) rfl (fun _ _ _ _ _ => rfl) (fun A outer s H E f c' hr => pe_callS GM (hr.mono (by decide)) rfl gM kM bM (fun σ => passAt (takes_of rfl rfl rfl rfl) σ) (pa_cons (pv 0) (pa_cons (pe_op op_rep (pe_lst (pa_cons pe_int pa_nil)) (pe_callB (call_lenI GL (hr.mono (by decide)) mL bL pass0) rfl F.nN boot_len (pa_cons (pv 0) pa_nil))) (pa_cons (pv 3) (pa_cons pe_int pa_nil)))))) pa_nil))) hrest))), ?_⟩
  intro D H0 a nm ns tbl y v tr s4 s5 s6 B hB th T0 fin
  have hc : (⟨"NoQuestion", EA.CQ, "question", "name"⟩ : Clz) ∈ clz4 EA := by simp [clz4]
  have nsl : ns.length < 1000 := by have := B.sh; omega
  have few := B.few
  refine set_read (c := ⟨"NoQuestion", EA.CQ, "question", "name"⟩) (v := v) (tr := tr) T0 hc th (fun H1 E R e1 T1 hf => ⟨_, rfl, _, rfl, a, v, .non, .int 5, ns, tbl, rfl, B.t.ext e1, B.nd, nsl, B.pos, B.few, .inl ⟨hB.ext e1, hf⟩⟩) fun H1 q fq e1 T1 F1 => ?_
  refine app_read (c := ⟨"NoQuestion", EA.CQ, "question", "name"⟩) (v := v) (tr := tr) rfl F1 (by omega) T1 hc (fun H3 e3 => th H3 (e1.trans e3)) (fun H3 E R e3 T3 hf => ⟨_, rfl, _, rfl, a, v, .non, .non, .int 5, ns, tbl, rfl, B.t.ext (e1.trans e3), B.nd, B.sh, B.pos, B.few, .inl ⟨hB.ext (e1.trans e3), hf⟩⟩) fun H2 g2 T2 F2 => ?_
  have e2 := grow_on fq e1 g2
  refine app_read (c := ⟨"NoQuestion", EA.CQ, "question", "name"⟩) (v := v) (tr := tr) rfl F2 (by omega) T2 hc (fun H3 e3 => th H3 (e2.trans e3)) (fun H3 E R e3 T3 hf => ⟨_, rfl, _, rfl, a, v, .int 5, rfl, ns, tbl, B.t.ext (e2.trans e3), nsl, by omega, .inl ⟨hB.ext (e2.trans e3), hf⟩⟩) fun H3 g3 T3 F3 => ?_
  have e3 := grow_on fq e2 g3
  refine app_read (c := ⟨"NoQuestion", EA.CQ, "question", "name"⟩) (v := v) (tr := tr) rfl F3 (by omega) T3 hc (fun H4 e4 => th H4 (e3.trans e4)) (fun H4 E R e4 T4 hf => ?_) fun H4 g4 T4 F4 => ?_
  · have tab4 := B.t.ext (e3.trans e4)
    obtain ⟨dx, qa, ra, ha, _, _⟩ := id tab4.ex
    refine ⟨_, rfl, (by show 1 ≤ sizeLine; decide), fun l nl => ?_⟩
    have kl := same_new (o := .lst [.int 1]) nl
    refine ⟨_, rfl, a, dx, _, rfl, kl _ _ ha, a, ns, tbl, rfl, tab4.same kl, by omega, _, rfl, ⟨by omega, by omega⟩, l, (tbl.length : Nat), [.int 1], rfl, rfl, upd_same, by omega, by omega, ?_, fun p np => ?_⟩
    · show 1 * _ ≤ sizeLine
      rw [sizeLine_eq]; omega
    · have kp := same_new (o := .lst (List.replicate ((tbl.length : Nat) : Int).toNat [V.int 1]).flatten) np
      have kk := kl.trans kp
      refine ⟨_, rfl, a, .ref p, v, .int 5, ns, tbl, none, rfl, tab4.same kk, by omega, ?_, .inr ⟨rfl, ns, tbl, tab4.same kk, nsl, by omega, .inl ⟨(hB.ext (e3.trans e4)).same kk, hf.same kk⟩⟩⟩
      exact BadWt.onesN (n := ((tbl.length : Nat) : Int).toNat) (by omega) upd_same (by omega)
  exact fin H4 q fq (grow_on fq e3 g4) T4 F4
end
end L2.TB
/-! _law_refused_right: the first two walks whole -/
namespace L2.TB
open PySem PySem.Spec PyProof.Rows LamX
/-- no count, and how it is frozen -/
def NumAt (K : PySem.W.Frag) (v : V) (H : Hp) : Prop := BadCnt K H v ∧ ∃ tr, Thg H 1 v tr ∧ TrD 1 tr
def AskAt (K : PySem.W.Frag) (ns : List Str) (v : V) (H : Hp) : Prop := BadAsk K H ns v ∧ ∃ tr, Thg H 1 v tr ∧ TrD 1 tr
theorem thg_l1 {H : Hp} {p : Addr} {v : V} (a : Atom v) (o : H p = some (.lst [v])) : ∃ tr, Thg H 1 (.ref p) tr ∧ TrD 1 tr := by
  refine ⟨.tu [.one v], .seq (.inl o) rfl (by show 1 < 1000; omega) (fun i x t e1 e2 => ?_), .tu fun i t e => ?_⟩
  · match i, e1, e2 with
    | 0, e1, e2 =>
      obtain rfl := Option.some.inj e1
      obtain rfl := Option.some.inj e2
      exact .one a
    | i + 1, e1, e2 => cases e1
  · match i, e with
    | 0, e => obtain rfl := Option.some.inj e; exact .one _
    | i + 1, e => cases e
theorem thg_a {H : Hp} {v : V} (a : Atom v) : ∃ tr, Thg H 1 v tr ∧ TrD 1 tr := ⟨.one v, .up (.one a), .up (.one v)⟩
theorem thg_d0 {H : Hp} {p : Addr} (o : H p = some (.dK [])) : ∃ tr, Thg H 1 (.ref p) tr ∧ TrD 1 tr := ⟨.di [], .dic o (by show 0 < 1000; omega) .nil (fun _ h => by cases h), .up (.di .nil)⟩
section
variable {P : Program} {w : World} {K : PySem.W.Frag} {mg : Str → Option Value} {base : Heap} {f CT c Pt fS : Addr} {EA : ErrA} {fdS : FuncData} {T : List (Addr × Str)} {A : Around} {outer : List Env} {s : Shared} {H : Hp} {E : XK}
theorem rr_w1 (F : RefF P w K mg base CT EA) (FS : Fun K "_law_same" "_law_same" sSame fS fdS) (gS : mg "_law_same" = some (.ref fS)) (M : Sm mg) (TB : TabB base mg c Pt) (hm : (Pt, (envOfC "_law_refused_right" (defScope sRefR) s.heap.objs.size f (.ref c)).qual ++ "<lambda>") ∈ T) (hu : ∀ p ∈ T, p.1 = Pt → p.2 = (envOfC "_law_refused_right" (defScope sRefR) s.heap.objs.size f (.ref c)).qual ++ "<lambda>")
    (hr : Room 40 (A.deeper (envOfC "_law_refused_right" (defScope sRefR) s.heap.objs.size f (.ref c)))) :
    ∃ t, PS (cxOf CX0 P w K mg base NRr "_law_refused_right" (defScope sRefR) f (.ref c) A outer s H E).nox ((defBody sRefR).getD 0 (.Pass ⟨0, 0, 0, 0⟩)) t ∧ ∀ (D : Ends) (H0 : Hp) (a nm : Addr) (ns : List Str) (tbl : List (List Int)) (y : Str) (s3 s4 s5 s6 : Option V), TbR H0 CT a nm ns tbl y → Tabs T H0 →
      (∀ H' s3 s4, ExtN H0 H' → Tabs T H' → D.nx [some (.ref a), some (.str y), some (.ref nm), s3, s4, s5, s6] H') → t D [some (.ref a), some (.str y), some (.ref nm), s3, s4, s5, s6] H0 := by
  obtain ⟨t2, p2, r2⟩ := rr_t1 (P := P) (w := w) (K := K) (mg := mg) (base := base) (outer := outer) (H := H) (E := E) F.R FS gS M hr
  obtain ⟨t1, p1, r1⟩ := rr_1 F TB hm hu hr p2
  have nd := scRr.nd
  refine ⟨_, ps_for PassesOwn.never rfl (pi_list (pe_lst (pa_cons pe_non (pa_cons (pe_un un_neg pe_int) (pa_cons pe_bl (pa_cons pe_str (pa_cons (pe_lst (pa_cons pe_int pa_nil)) (pa_cons pe_dnewK pa_nil)))))))) (pg_name (i := 3) nd rfl (Or.inr rfl)) p1, ?_⟩
  intro D H0 a nm ns tbl y s3 s4 s5 s6 B T0 fin
  have sI : ∀ H H' : Hp, Same H H' → (fun _ : Hp => True) H → (fun _ : Hp => True) H' := fun _ _ _ _ => trivial
  have sR : ∀ v H H', Same H H' → NumAt K v H → NumAt K v H' := fun v H H' s ⟨b, tr, th, td⟩ => ⟨b.same s, tr, th.same s, td⟩
  refine odd_for (n := 6) (I := fun _ => True) (R := NumAt K) (Sh := fun σ => ∃ s3 s4, σ = [some (.ref a), some (.str y), some (.ref nm), s3, s4, s5, s6]) (by omega) sR ?_ trivial T0 ⟨_, _, rfl⟩ ?_ ?_
  · exact (gvA_cons sI sR (gv_c fun H _ => ⟨.inr (.ty (.base .non) (by decide +kernel)), thg_a .non⟩)
      (gvA_cons sI sR (fun H Q i k => ⟨_, rfl, k _ _ (Same.refl _) ⟨.inl ⟨-1, rfl, by decide⟩, thg_a (.int _)⟩⟩)
      (gvA_cons sI sR (gv_c fun H _ => ⟨.inr (.bl true), thg_a (.bl _)⟩)
      (gvA_cons sI sR (gv_c fun H _ => ⟨.inr (.ty (.base (.str _)) (by decide +kernel)), thg_a (.str _)⟩)
      (gvA_cons sI sR (gv_new sI (.lst [.int 1]) (fun H Q _ h => ⟨(by show 1 ≤ sizeLine; decide), h⟩) (fun H p _ o => ⟨.inr (.ty (.base (.lst o)) (by decide +kernel)), thg_l1 (.int _) o⟩))
      (gvA_cons sI sR (gv_new sI (.dK []) (fun H Q _ h => h) (fun H p _ o => ⟨.inr (.ty (.base (.dK o)) (by decide +kernel)), thg_d0 o⟩))
      gvA_nil))))))
  · rintro C' HL x σ' H' k0L ⟨hb, tr, th, td⟩ e TH ⟨s3, s4, rfl⟩ next
    have e0 := (ExtN.of k0L).trans e
    exact r1 _ _ a nm ns tbl y x tr s4 s5 s6 (B.ext e0) (hb.ext e) (fun H1 e1 => th.ext (e.trans e1)) TH
      (fun H2 q fq e2 T2 F2 => r2 _ _ x tr q _ _ _ _ _ F2 (th.ext (e.trans e2)) td (fun H3 s3' => next _ _ (e2.trans (ExtN.of s3')) (T2.ext s3') ⟨_, _, rfl⟩))
  · rintro σ' H' e TH ⟨s3, s4, rfl⟩
    exact fin H' _ _ e TH
theorem rr_w2 (F : RefF P w K mg base CT EA) (FS : Fun K "_law_same" "_law_same" sSame fS fdS) (gS : mg "_law_same" = some (.ref fS)) (M : Sm mg) (TB : TabB base mg c Pt) (hm : (Pt, (envOfC "_law_refused_right" (defScope sRefR) s.heap.objs.size f (.ref c)).qual ++ "<lambda>") ∈ T) (hu : ∀ p ∈ T, p.1 = Pt → p.2 = (envOfC "_law_refused_right" (defScope sRefR) s.heap.objs.size f (.ref c)).qual ++ "<lambda>")
    (hr : Room 40 (A.deeper (envOfC "_law_refused_right" (defScope sRefR) s.heap.objs.size f (.ref c)))) :
    ∃ t, PS (cxOf CX0 P w K mg base NRr "_law_refused_right" (defScope sRefR) f (.ref c) A outer s H E).nox ((defBody sRefR).getD 1 (.Pass ⟨0, 0, 0, 0⟩)) t ∧ ∀ (D : Ends) (H0 : Hp) (a nm : Addr) (ns : List Str) (tbl : List (List Int)) (y : Str) (s3 s4 s5 s6 : Option V), TbR H0 CT a nm ns tbl y → Tabs T H0 →
      (∀ H' s3 s4, ExtN H0 H' → Tabs T H' → D.nx [some (.ref a), some (.str y), some (.ref nm), s3, s4, s5, s6] H') → t D [some (.ref a), some (.str y), some (.ref nm), s3, s4, s5, s6] H0 := by
  obtain ⟨t2, p2, r2⟩ := rr_t2 (P := P) (w := w) (K := K) (mg := mg) (base := base) (outer := outer) (H := H) (E := E) F.R FS gS M hr
  obtain ⟨t1, p1, r1⟩ := rr_2 F TB hm hu hr p2
  have nd := scRr.nd
  refine ⟨_, ps_for PassesOwn.never rfl (pi_list (pe_lst (pa_cons pe_non (pa_cons pe_int (pa_cons pe_str (pa_cons (pe_lst (pa_cons (pv 1) pa_nil)) pa_nil)))))) (pg_name (i := 3) nd rfl (Or.inr rfl)) p1, ?_⟩
  intro D H0 a nm ns tbl y s3 s4 s5 s6 B T0 fin
  have sI : ∀ H H' : Hp, Same H H' → (fun _ : Hp => True) H → (fun _ : Hp => True) H' := fun _ _ _ _ => trivial
  have sR : ∀ v H H', Same H H' → AskAt K ns v H → AskAt K ns v H' := fun v H H' s ⟨b, tr, th, td⟩ => ⟨b.same s, tr, th.same s, td⟩
  refine odd_for (n := 4) (I := fun _ => True) (R := AskAt K ns) (Sh := fun σ => ∃ s3 s4, σ = [some (.ref a), some (.str y), some (.ref nm), s3, s4, s5, s6]) (by omega) sR ?_ trivial T0 ⟨_, _, rfl⟩ ?_ ?_
  · exact (gvA_cons sI sR (gv_c fun H _ => ⟨.inr ⟨_, .base .non, by decide +kernel⟩, thg_a .non⟩)
      (gvA_cons sI sR (gv_c fun H _ => ⟨.inr ⟨_, .base (.int 5), by decide +kernel⟩, thg_a (.int _)⟩)
      (gvA_cons sI sR (gv_c fun H _ => ⟨.inl ⟨_, rfl, fun m => no_one (B.ok _ m)⟩, thg_a (.str _)⟩)
      (gvA_cons sI sR (gv_new sI (.lst [.str y]) (fun H Q _ h => ⟨_, rfl, (by show 1 ≤ sizeLine; decide), h⟩) (fun H p _ o => ⟨.inr ⟨_, .base (.lst o), by decide +kernel⟩, thg_l1 (.str _) o⟩))
      gvA_nil))))
  · rintro C' HL x σ' H' k0L ⟨hb, tr, th, td⟩ e TH ⟨s3, s4, rfl⟩ next
    have e0 := (ExtN.of k0L).trans e
    exact r1 _ _ a nm ns tbl y x tr s4 s5 s6 (B.ext e0) (hb.ext e) (fun H1 e1 => th.ext (e.trans e1)) TH
      (fun H2 q fq e2 T2 F2 => r2 _ _ x tr q _ _ _ _ _ F2 (th.ext (e.trans e2)) td (fun H3 s3' => next _ _ (e2.trans (ExtN.of s3')) (T2.ext s3') ⟨_, _, rfl⟩))
  · rintro σ' H' e TH ⟨s3, s4, rfl⟩
    exact fin H' _ _ e TH
end
end L2.TB
/-! _law_refused_right: the third walk -/
namespace L2.TB
open PySem PySem.Spec PyProof.Rows LamX
/-- a pair of what is no list of questions, and where it is wrong -/
def KnoAt (K : PySem.W.Frag) (ns : List Str) (v : V) (H : Hp) : Prop := ∃ t x, ∃ i : Nat, v = .ref t ∧ H t = some (.tup [x, .int i]) ∧ Bad K H ns x (some i) ∧ x ≠ .non
section
variable {P : Program} {w : World} {K : PySem.W.Frag} {mg : Str → Option Value} {base : Heap} {f CT c Pt fS : Addr} {EA : ErrA} {fdS : FuncData} {T : List (Addr × Str)} {A : Around} {outer : List Env} {s : Shared} {H : Hp} {E : XK}
/-- found != [("known", due)] * 3 -/
theorem rr_t3 (hr : Room 40 (A.deeper (envOfC "_law_refused_right" (defScope sRefR) s.heap.objs.size f (.ref c)))) :
    ∃ t, PSs (cxOf CX0 P w K mg base NRr "_law_refused_right" (defScope sRefR) f (.ref c) A outer s H E).nox ((bodyR 2).drop 3) t ∧ ∀ (D : Ends) (H0 : Hp) (i : Nat) (q : Addr) (s0 s1 s2 s3 s6 : Option V), FoundAt H0 q (.tu [.one (.str "known"), .one (.int i)]) 3 →
      (∀ H', Same H0 H' → D.nx [s0, s1, s2, s3, some (.ref q), some (.int i), s6] H') → t D [s0, s1, s2, s3, some (.ref q), some (.int i), s6] H0 := by
  have hu64 := hr.units
  refine ⟨_, pss_one (ps_if (pt_cmpR (r := rNeD K) (op_neD hu64) (pv 4) (pe_op op_rep (pe_lst (pa_cons (pe_tup (pa_cons pe_str (pa_cons (pv 5) pa_nil))) pa_nil)) pe_int) (nomark _)) (pss_one ps_never) pss_nil), ?_⟩
  intro D H0 i q s0 s1 s2 s3 s6 F fin
  obtain ⟨us, hq, lu, fu⟩ := F
  refine ⟨_, rfl, _, rfl, (by show 2 ≤ sizeLine; decide), fun t nt => ⟨(by show 1 ≤ sizeLine; decide), fun p np => ?_⟩⟩
  have st := same_new (o := .tup [.str "known", .int (i : Nat)]) nt
  have sp := same_new (o := .lst [.ref t]) np
  refine ⟨p, 3, [.ref t], rfl, rfl, upd_same, by decide, by decide, (by show 1 * 3 ≤ sizeLine; rw [sizeLine_eq]; omega), fun p2 np2 => ?_⟩
  have sn := same_new (o := .lst (List.replicate (Int.toNat 3) [V.ref t]).flatten) np2
  have all := (st.trans sp).trans sn
  obtain ⟨d1, d2, sh, eq⟩ := rep_dp (K := K) (s := "known") (i := (i : Nat)) (n := 3) (by decide +kernel) (all _ _ hq) lu (fun u hu => (fu u hu).same all) ((sp.trans sn) _ _ upd_same) (show _ = some (HO.lst (List.replicate 3 (V.ref t))) from upd_same)
  refine ⟨_, _, d1, d2, sh, sh, ?_⟩
  refine ⟨_, rfl, ?_⟩
  rw [eq]
  exact iteF (fin _ all)
/-- the third walk's three calls -/
theorem rr_3 (F : RefF P w K mg base CT EA) (TB : TabB base mg c Pt) (hm : (Pt, (envOfC "_law_refused_right" (defScope sRefR) s.heap.objs.size f (.ref c)).qual ++ "<lambda>") ∈ T) (hu : ∀ p ∈ T, p.1 = Pt → p.2 = (envOfC "_law_refused_right" (defScope sRefR) s.heap.objs.size f (.ref c)).qual ++ "<lambda>")
    (hr : Room 40 (A.deeper (envOfC "_law_refused_right" (defScope sRefR) s.heap.objs.size f (.ref c)))) {rest : List Stmt} {u : TS} (hrest : PSs (cxOf CX0 P w K mg base NRr "_law_refused_right" (defScope sRefR) f (.ref c) A outer s H E).nox rest u) :
    ∃ t, PSs (cxOf CX0 P w K mg base NRr "_law_refused_right" (defScope sRefR) f (.ref c) A outer s H E).nox ((bodyR 2).take 3 ++ rest) t ∧ ∀ (D : Ends) (H0 : Hp) (a nm : Addr) (ns : List Str) (tbl : List (List Int)) (y : Str) (v : V) (i : Nat) (s4 s5 s6 : Option V),
      TbR H0 CT a nm ns tbl y → Bad K H0 ns v (some i) → v ≠ .non → Tabs T H0 →
      (∀ H' q, Fresh H0 q → ExtN H0 H' → Tabs T H' → FoundAt H' q (.tu [.one (.str "known"), .one (.int i)]) 3 → u D [some (.ref a), some (.str y), some (.ref nm), some v, some (.ref q), s5, s6] H') →
      t D [some (.ref a), some (.str y), some (.ref nm), some v, s4, s5, s6] H0 := by
  obtain ⟨fH, fdH, gH, kH, GH, bH⟩ := F.hold
  obtain ⟨fI, fdI, gI, kI, GI, bI, dI, rI, bI4⟩ := F.isH
  obtain ⟨fF, fdF, gF, kF, GF, bF⟩ := F.few
  obtain ⟨fM, fdM, gM, kM, GM, bM, dM, rM, bM3⟩ := F.mean
  obtain ⟨fL, fdL, mL, GL, bL⟩ := F.len
  have nd := scRr.nd
  refine ⟨_, pss_cons (ps_asg (pe_lst (pa_cons (pe_tried F.R 2 rfl TB rfl hm hu hr (by decide) (lamS_by (by show lamSB (defScope sRefR) _ = true; decide +kernel)) rfl (fun _ _ _ _ _ => rfl) (fun A outer s H E f c' hr => pe_callS GH (hr.mono (by decide)) rfl gH kH bH (fun σ => passAt (takes_of rfl rfl rfl rfl) σ) (pa_cons (pv 0) (pa_cons (pv 1) (pa_cons pe_non (pa_cons (pv 3) pa_nil)))))) pa_nil)) (pg_name (i := 4) nd rfl (Or.inl rfl)))
    (pss_cons (ps_expr (pe_bm PySem.F.plainAttrs_list PySem.F.slot_list_append PySem.F.type_list_append mt_append (pv 4) (pa_cons (pe_tried F.R 2 rfl TB rfl hm hu hr (by decide) (lamS_by (by show lamSB (defScope sRefR) _ = true; decide +kernel)) rfl (fun _ _ _ _ _ => rfl) (fun A outer s H E f c' hr => pe_callS GF (hr.mono (by decide)) rfl gF kF bF (fun σ => passAt (takes_of rfl rfl rfl rfl) σ) (pa_cons (pv 0) (pa_cons (pv 1) (pa_cons (pv 3) pa_nil))))) pa_nil)))
    (pss_cons (ps_expr (pe_bm PySem.F.plainAttrs_list PySem.F.slot_list_append PySem.F.type_list_append mt_append (pv 4) (pa_cons (pe_tried F.R 2 rfl TB rfl hm hu hr (by decide) (lamS_by (by show lamSB (defScope sRefR) _ = true; decide +kernel)) rfl (fun _ _ _ _ _ => rfl) (fun A outer s H E f c' hr => pe_callS GI (hr.mono (by decide)) rfl gI kI bI (fun σ => passAt (takes_of rfl rfl rfl rfl) σ) (pa_cons (pv 0) (pa_cons (pv 1) (pa_cons pe_non (pa_cons pe_non (pa_cons (pv 3) pa_nil))))))) pa_nil))) hrest)), ?_⟩
  intro D H0 a nm ns tbl y v i s4 s5 s6 B hB on T0 fin
  have hc : (⟨"BadKnown", EA.CK, "known", "index"⟩ : Clz) ∈ clz4 EA := by simp [clz4]
  have th : ∀ H1 : Hp, Thg H1 1 (.int (i : Nat)) (.one (.int (i : Nat))) := fun H1 => .up (.one (.int _))
  have nsl : ns.length < 1000 := by have := B.sh; omega
  have few := B.few
  refine set_read (c := ⟨"BadKnown", EA.CK, "known", "index"⟩) (v := .int (i : Nat)) (tr := .one (.int (i : Nat))) T0 hc (fun H1 _ => th H1) (fun H1 E R e1 T1 hf => ⟨_, rfl, _, rfl, _, rfl, a, .str y, .non, v, ns, tbl, rfl, B.t.ext e1, B.nd, nsl, B.pos, B.few, .inr ⟨y, rfl, B.yin, .inl ⟨i, on, hB.ext e1, hf⟩⟩⟩) fun H1 q fq e1 T1 F1 => ?_
  refine app_read (c := ⟨"BadKnown", EA.CK, "known", "index"⟩) (v := .int (i : Nat)) (tr := .one (.int (i : Nat))) rfl F1 (by omega) T1 hc (fun H3 e3 => th H3) (fun H3 E R e3 T3 hf => ⟨_, rfl, _, rfl, _, rfl, a, .str y, v, rfl, ns, tbl, B.t.ext (e1.trans e3), nsl, by omega, .inr ⟨y, rfl, B.yin, i, on, hB.ext (e1.trans e3), hf⟩⟩) fun H2 g2 T2 F2 => ?_
  have e2 := grow_on fq e1 g2
  refine app_read (c := ⟨"BadKnown", EA.CK, "known", "index"⟩) (v := .int (i : Nat)) (tr := .one (.int (i : Nat))) rfl F2 (by omega) T2 hc (fun H3 e3 => th H3) (fun H3 E R e3 T3 hf => ⟨_, rfl, _, rfl, _, rfl, a, .str y, .non, .non, v, ns, tbl, rfl, B.t.ext (e2.trans e3), B.nd, B.sh, B.pos, B.few, .inr ⟨y, rfl, B.yin, .inl ⟨i, on, hB.ext (e2.trans e3), hf⟩⟩⟩) fun H3 g3 T3 F3 => ?_
  exact fin H3 q fq (grow_on fq e2 g3) T3 F3
theorem rr_w3 (F : RefF P w K mg base CT EA) (TB : TabB base mg c Pt) (hm : (Pt, (envOfC "_law_refused_right" (defScope sRefR) s.heap.objs.size f (.ref c)).qual ++ "<lambda>") ∈ T) (hu : ∀ p ∈ T, p.1 = Pt → p.2 = (envOfC "_law_refused_right" (defScope sRefR) s.heap.objs.size f (.ref c)).qual ++ "<lambda>")
    (hr : Room 40 (A.deeper (envOfC "_law_refused_right" (defScope sRefR) s.heap.objs.size f (.ref c)))) :
    ∃ t, PS (cxOf CX0 P w K mg base NRr "_law_refused_right" (defScope sRefR) f (.ref c) A outer s H E).nox ((defBody sRefR).getD 2 (.Pass ⟨0, 0, 0, 0⟩)) t ∧ ∀ (D : Ends) (H0 : Hp) (a nm : Addr) (ns : List Str) (tbl : List (List Int)) (y : Str) (s3 s4 s5 s6 : Option V), TbR H0 CT a nm ns tbl y → Tabs T H0 →
      (∀ H' s3 s4 s5, ExtN H0 H' → Tabs T H' → D.nx [some (.ref a), some (.str y), some (.ref nm), s3, s4, s5, s6] H') → t D [some (.ref a), some (.str y), some (.ref nm), s3, s4, s5, s6] H0 := by
  obtain ⟨t2, p2, r2⟩ := rr_t3 (P := P) (w := w) (K := K) (mg := mg) (base := base) (outer := outer) (H := H) (E := E) hr
  obtain ⟨t1, p1, r1⟩ := rr_3 F TB hm hu hr p2
  have nd := scRr.nd
  refine ⟨_, ps_for PassesOwn.never rfl (pi_list (pe_lst (pa_cons (pe_tup (pa_cons pe_int (pa_cons pe_int pa_nil))) (pa_cons (pe_tup (pa_cons (pe_op op_cat (pv 2) (pe_lst (pa_cons pe_str pa_nil))) (pa_cons (pe_callB call_len_seq rfl F.nN boot_len (pa_cons (pv 2) pa_nil)) pa_nil))) (pa_cons (pe_tup (pa_cons pe_str (pa_cons pe_int pa_nil))) pa_nil)))))
    (pg_tup rfl (pgs_cons (pg_name (i := 3) nd rfl (Or.inr rfl)) (pgs_cons (pg_name (i := 5) nd rfl (Or.inl rfl)) pgs_nil))) p1, ?_⟩
  intro D H0 a nm ns tbl y s3 s4 s5 s6 B T0 fin
  have sI : ∀ H H' : Hp, Same H H' → H nm = some (.lst (ns.map V.str)) → H' nm = some (.lst (ns.map V.str)) := fun _ _ s h => s _ _ h
  have sR : ∀ v H H', Same H H' → KnoAt K ns v H → KnoAt K ns v H' := fun v H H' s ⟨t, x, i, e, o, b, n⟩ => ⟨t, x, i, e, s _ _ o, b.same s, n⟩
  have sB : ∀ i : Nat, ∀ v H H', Same H H' → (fun v H => Bad K H ns v (some i) ∧ v ≠ .non) v H → (fun v H => Bad K H ns v (some i) ∧ v ≠ .non) v H' := fun i v H H' s h => ⟨h.1.same s, h.2⟩
  have pr : ∀ {σ : L2.St} {te : TE} {i : Nat}, Gives te σ (fun H => H nm = some (.lst (ns.map V.str))) (fun v H => Bad K H ns v (some i) ∧ v ≠ .non) → Gives (tTup (tCons te (tCons (tC (.int (i : Nat))) tNil))) σ (fun H => H nm = some (.lst (ns.map V.str))) (KnoAt K ns) := fun {σ te i} h => gv_pair sI (sB i) h fun H t v _ b o => ⟨t, v, i, rfl, o, b.1, b.2⟩
  have shl := B.sh
  refine odd_for (n := 3) (I := fun H => H nm = some (.lst (ns.map V.str))) (R := KnoAt K ns) (Sh := fun σ => ∃ s3 s4 s5, σ = [some (.ref a), some (.str y), some (.ref nm), s3, s4, s5, s6]) (by omega) sR ?_ B.o T0 ⟨_, _, _, rfl⟩ ?_ ?_
  · exact (gvA_cons sI sR (pr (i := 0) (gv_c fun H _ => ⟨.no ⟨_, .base (.int 5), by decide +kernel, by decide +kernel⟩, fun z => by cases z⟩))
      (gvA_cons sI sR (fun H Q i k => ⟨_, rfl, (by show 1 ≤ sizeLine; decide), fun l nl => ⟨nm, l, ns.map V.str, [.str "no one"], rfl, rfl, same_new nl _ _ i, upd_same, (by rw [sizeLine_eq, List.length_map]; show _ + 1 ≤ _; omega), fun p np => by
          have kl := same_new (o := .lst [.str "no one"]) nl
          have kp := same_new (o := .lst (ns.map V.str ++ [.str "no one"])) np
          refine ⟨_, rfl, nm, _, rfl, .inl (SqL.of ((kl.trans kp) _ _ i)), (by show 2 ≤ sizeLine; decide), fun t nt => ?_⟩
          have kt := same_new (o := .tup [.ref p, .int ((ns.map V.str).length : Nat)]) nt
          refine k _ _ ((kl.trans kp).trans kt) ⟨t, .ref p, ns.length, rfl, ?_, ?_, fun z => by cases z⟩
          · rw [upd_same, List.length_map]
          · have e := badAt_more ns "no one" (fun m => no_one (B.ok _ m)) ns [] 0 (fun x hx => hx) (by simpa using B.nd)
            rw [Nat.zero_add] at e
            rw [← e]
            refine .seq (.inl (kt _ _ upd_same)) (fun x hx => ?_) (by rw [List.length_append, List.length_map]; show _ + 1 < _; omega)
            rcases List.mem_append.mp hx with hx | hx
            · obtain ⟨z, _, rfl⟩ := List.mem_map.mp hx; exact .str z
            · rw [List.mem_singleton.mp hx]; exact .str _⟩⟩)
      (gvA_cons sI sR (pr (i := 0) (gv_c fun H _ => ⟨.no ⟨_, .base (.str _), by decide +kernel, by decide +kernel⟩, fun z => by cases z⟩))
      gvA_nil)))
  · rintro C' HL x σ' H' k0L ⟨t, v, i, rfl, ot, hb, on⟩ e TH ⟨s3, s4, s5, rfl⟩ next
    have e0 := (ExtN.of k0L).trans e
    refine ⟨t, _, rfl, SqT.of (e _ _ ot (fun _ z => by cases z)), rfl, _, _, rfl, _, _, rfl, rfl, ?_⟩
    exact r1 _ _ a nm ns tbl y v i s4 _ s6 (B.ext e0) (hb.ext e) on TH (fun H2 q fq e2 T2 F2 => r2 _ _ i q _ _ _ _ _ F2 (fun H3 s3' => next _ _ (e2.trans (ExtN.of s3')) (T2.ext s3') ⟨_, _, _, rfl⟩))
  · rintro σ' H' e TH ⟨s3, s4, s5, rfl⟩
    exact fin H' _ _ _ e TH
end
end L2.TB
/-! _law_refused_right: weights that are none -/
namespace L2.TB
open PySem PySem.Spec PyProof.Rows LamX
/-- a pair of what are no weights, and where they are wrong -/
def WtAt (K : PySem.W.Frag) (m : Nat) (v : V) (H : Hp) : Prop := ∃ t x, ∃ i : Nat, v = .ref t ∧ H t = some (.tup [x, .int i]) ∧ BadWt K H m x (some i)
theorem badW_true : ∀ n i : Nat, badW (List.replicate n (V.int 1) ++ [.bl true]) i = some (i + n)
  | 0, i => rfl
  | n + 1, i => by
    rw [List.replicate_succ, List.cons_append]
    show (if (0 : Int) < 1 then badW (List.replicate n (V.int 1) ++ [.bl true]) (i + 1) else some i) = _
    rw [if_pos (by decide), badW_true n (i + 1)]
    congr 1
    omega
theorem BadWt.ones_ {K : PySem.W.Frag} {H : Hp} {m n i : Nat} {p : Addr} (ne : n ≠ m) (e : n = i) (o : H p = some (.lst (List.replicate n [V.int 1]).flatten)) (few : n < 1000) : BadWt K H m (.ref p) (some i) := by
  have z := BadWt.ones (K := K) (m := m) o few
  rw [if_neg ne, e] at z
  exact z
theorem BadWt.zeros {K : PySem.W.Frag} {H : Hp} {m n : Nat} {p : Addr} (pos : 0 < n) (o : H p = some (.lst (List.replicate n [V.int 0]).flatten)) (few : n < 1000) : BadWt K H m (.ref p) (some 0) := by
  rw [flat_one] at o
  have z := BadWt.seq (K := K) (m := m) (.inl o) (fun x hx => by rw [List.eq_of_mem_replicate hx]; exact .int 0) (by rw [List.length_replicate]; exact few)
  obtain ⟨n', rfl⟩ : ∃ n', n = n' + 1 := ⟨n - 1, by omega⟩
  have e : badW (List.replicate (n' + 1) (V.int 0)) 0 = some 0 := rfl
  rw [e] at z
  exact z
theorem BadWt.true_ {K : PySem.W.Frag} {H : Hp} {m n i : Nat} {p : Addr} (e : n = i) (o : H p = some (.lst ((List.replicate n [V.int 1]).flatten ++ [.bl true]))) (few : n < 900) : BadWt K H m (.ref p) (some i) := by
  rw [flat_one] at o
  have z := BadWt.seq (K := K) (m := m) (.inl o) (fun x hx => by
    rcases List.mem_append.mp hx with hx | hx
    · rw [List.eq_of_mem_replicate hx]; exact .int 1
    · rw [List.mem_singleton.mp hx]; exact .bl true) (by rw [List.length_append, List.length_replicate]; show _ + 1 < _; omega)
  rw [badW_true, Nat.zero_add, e] at z
  exact z
section
variable {P : Program} {w : World} {K : PySem.W.Frag} {mg : Str → Option Value} {base : Heap} {f CT c Pt fS : Addr} {EA : ErrA} {fdS : FuncData} {T : List (Addr × Str)} {A : Around} {outer : List Env} {s : Shared} {H : Hp} {E : XK}
theorem rr_w4 (F : RefF P w K mg base CT EA) (TB : TabB base mg c Pt) (hm : (Pt, (envOfC "_law_refused_right" (defScope sRefR) s.heap.objs.size f (.ref c)).qual ++ "<lambda>") ∈ T) (hu : ∀ p ∈ T, p.1 = Pt → p.2 = (envOfC "_law_refused_right" (defScope sRefR) s.heap.objs.size f (.ref c)).qual ++ "<lambda>")
    (hr : Room 40 (A.deeper (envOfC "_law_refused_right" (defScope sRefR) s.heap.objs.size f (.ref c)))) :
    ∃ t, PS (cxOf CX0 P w K mg base NRr "_law_refused_right" (defScope sRefR) f (.ref c) A outer s H E).nox ((defBody sRefR).getD 4 (.Pass ⟨0, 0, 0, 0⟩)) t ∧ ∀ (D : Ends) (H0 : Hp) (a nm : Addr) (ns : List Str) (tbl : List (List Int)) (y : Str) (s3 s4 s5 : Option V), TbR H0 CT a nm ns tbl y → Tabs T H0 →
      (∀ H' s3 s4 s5, ExtN H0 H' → Tabs T H' → D.nx [some (.ref a), some (.str y), some (.ref nm), s3, s4, s5, some (.int (tbl.length : Nat))] H') → t D [some (.ref a), some (.str y), some (.ref nm), s3, s4, s5, some (.int (tbl.length : Nat))] H0 := by
  obtain ⟨fM, fdM, gM, kM, GM, bM, dM, rM, bM3⟩ := F.mean
  obtain ⟨fL, fdL, mL, GL, bL⟩ := F.len
  have nd := scRr.nd
  have hu64 := hr.units
  refine ⟨_, ps_for PassesOwn.never rfl (pi_list (pe_lst (pa_cons (pe_tup (pa_cons pe_non (pa_cons pe_int pa_nil))) (pa_cons (pe_tup (pa_cons pe_int (pa_cons pe_int pa_nil))) (pa_cons (pe_tup (pa_cons (pe_op op_rep (pe_lst (pa_cons pe_int pa_nil)) (pe_op op_add (pv 6) pe_int)) (pa_cons (pe_op op_add (pv 6) pe_int) pa_nil)))
      (pa_cons (pe_tup (pa_cons (pe_op op_rep (pe_lst (pa_cons pe_int pa_nil)) (pe_op op_sub (pv 6) pe_int)) (pa_cons (pe_op op_sub (pv 6) pe_int) pa_nil))) (pa_cons (pe_tup (pa_cons (pe_op op_rep (pe_lst (pa_cons pe_int pa_nil)) (pv 6)) (pa_cons pe_int pa_nil))) pa_nil)))))))
    (pg_tup rfl (pgs_cons (pg_name (i := 3) nd rfl (Or.inr rfl)) (pgs_cons (pg_name (i := 5) nd rfl (Or.inl rfl)) pgs_nil)))
    (pss_one (ps_if (pt_cmpR (r := rNeD K) (op_neD hu64) (pe_tried F.R 1 rfl TB rfl hm hu hr (by decide) (lamS_by (by show lamSB (defScope sRefR) _ = true; decide +kernel)) rfl (fun _ _ _ _ _ => rfl) (fun A outer s H E f c' hr => pe_callS GM (hr.mono (by decide)) rfl gM kM bM (fun σ => passAt (takes_of rfl rfl rfl rfl) σ) (pa_cons (pv 0) (pa_cons (pv 3) (pa_cons pe_non (pa_cons pe_int pa_nil))))))
      (pe_tup (pa_cons pe_str (pa_cons (pv 5) pa_nil))) (nomark _)) (pss_one ps_never) pss_nil)), ?_⟩
  intro D H0 a nm ns tbl y s3 s4 s5 B T0 fin
  have few := B.few
  have pos := B.pos
  have sI : ∀ H H' : Hp, Same H H' → (fun _ : Hp => True) H → (fun _ : Hp => True) H' := fun _ _ _ _ => trivial
  have sR : ∀ v H H', Same H H' → WtAt K tbl.length v H → WtAt K tbl.length v H' := fun v H H' s ⟨t, x, i, e, o, b⟩ => ⟨t, x, i, e, s _ _ o, b.same s⟩
  have sB : ∀ i : Nat, ∀ v H H', Same H H' → (fun v H => BadWt K H tbl.length v (some i)) v H → (fun v H => BadWt K H tbl.length v (some i)) v H' := fun i v H H' s h => h.same s
  have pr : ∀ {σ : L2.St} {te : TE} {i : Nat}, Gives te σ (fun _ => True) (fun v H => BadWt K H tbl.length v (some i)) → Gives (tTup (tCons te (tCons (tC (.int (i : Nat))) tNil))) σ (fun _ => True) (WtAt K tbl.length) := fun {σ te i} h => gv_pair sI (sB i) h fun H t v _ b o => ⟨t, v, i, rfl, o, b⟩
  have sz : ∀ n : Nat, n ≤ 11 → 1 * n ≤ sizeLine := fun n h => by rw [sizeLine_eq]; omega
  refine odd_for (n := 5) (I := fun _ => True) (R := WtAt K tbl.length) (Sh := fun σ => ∃ s3 s4 s5, σ = [some (.ref a), some (.str y), some (.ref nm), s3, s4, s5, some (.int (tbl.length : Nat))]) (by omega) sR ?_ trivial T0 ⟨_, _, _, rfl⟩ ?_ ?_
  · exact (gvA_cons sI sR (pr (i := 0) (gv_c fun H _ => .no ⟨_, .base .non, by decide +kernel, by decide +kernel⟩))
      (gvA_cons sI sR (pr (i := 0) (gv_c fun H _ => .no ⟨_, .base (.int 5), by decide +kernel, by decide +kernel⟩))
      (gvA_cons sI sR (fun H Q i k => ⟨(by show 1 ≤ sizeLine; decide), fun l nl => ⟨_, rfl, _, _, rfl, rfl, l, _, [.int 1], rfl, rfl, upd_same, by omega, by omega, sz _ (by omega), fun p np => ⟨_, rfl, _, _, rfl, rfl, (by show 2 ≤ sizeLine; decide), fun t nt => by
          have kt := same_new (o := .tup [.ref p, .int (((tbl.length : Nat) : Int) + 1)]) nt
          exact k _ _ (((same_new nl).trans (same_new np)).trans kt) ⟨t, .ref p, tbl.length + 1, rfl, upd_same, .ones_ (by omega) (by omega) (kt _ _ upd_same) (by omega)⟩⟩⟩⟩)
      (gvA_cons sI sR (fun H Q i k => ⟨(by show 1 ≤ sizeLine; decide), fun l nl => ⟨_, rfl, _, _, rfl, rfl, l, _, [.int 1], rfl, rfl, upd_same, by omega, by omega, sz _ (by omega), fun p np => ⟨_, rfl, _, _, rfl, rfl, (by show 2 ≤ sizeLine; decide), fun t nt => by
          have kt := same_new (o := .tup [.ref p, .int (((tbl.length : Nat) : Int) - 1)]) nt
          have em : ((tbl.length : Nat) : Int) - 1 = ((tbl.length - 1 : Nat) : Int) := by omega
          exact k _ _ (((same_new nl).trans (same_new np)).trans kt) ⟨t, .ref p, tbl.length - 1, rfl, by rw [upd_same, ← em], .ones_ (by omega) (by omega) (kt _ _ upd_same) (by omega)⟩⟩⟩⟩)
      (gvA_cons sI sR (pr (i := 0) (fun H Q i k => ⟨(by show 1 ≤ sizeLine; decide), fun l nl => ⟨_, rfl, l, _, [.int 0], rfl, rfl, upd_same, by omega, by omega, sz _ (by omega), fun p np =>
          k _ _ ((same_new nl).trans (same_new np)) (.zeros (by omega) upd_same (by omega))⟩⟩))
      gvA_nil)))))
  · rintro C' HL x σ' H' k0L ⟨t, v, i, rfl, ot, hb⟩ e TH ⟨s3, s4, s5, rfl⟩ next
    have e0 := (ExtN.of k0L).trans e
    refine ⟨t, _, rfl, SqT.of (e _ _ ot (fun _ z => by cases z)), rfl, _, _, rfl, _, _, rfl, rfl, ?_⟩
    have hc : (⟨"BadWeight", EA.CX, "weight", "index"⟩ : Clz) ∈ clz4 EA := by simp [clz4]
    unfold tIfS
    refine ne_read (c := ⟨"BadWeight", EA.CX, "weight", "index"⟩) (i := (i : Nat)) (show PyData.strOk "weight" = true by decide +kernel) TH hc (fun H2 Q q => ⟨_, rfl, q⟩) (fun H2 E R e2 T2 hf => ?_) (fun H2 e2 T2 => iteF (next _ _ e2 T2 ⟨_, _, _, rfl⟩))
    exact ⟨_, rfl, _, rfl, a, v, .non, .int 5, ns, tbl, some i, rfl, B.t.ext (e0.trans e2), by omega, hb.ext (e.trans e2), .inl ⟨i, rfl, hf⟩⟩
  · rintro σ' H' e TH ⟨s3, s4, s5, rfl⟩
    exact fin H' _ _ _ e TH
def spRr (CT : Addr) (T : List (Addr × Str)) : Sp := fun vs H Q _ => ∃ (a nm : Addr) (ns : List Str) (tbl : List (List Int)) (y : Str), vs = [.ref a, .str y, .ref nm] ∧ TbR H CT a nm ns tbl y ∧ Tabs T H ∧ ∀ H', ExtN H H' → Tabs T H' → Q (.bl true) H'
theorem ok_rr {fd : FuncData} (FE : Fun K "_law_refused_right" "_law_refused_right" sRefR f fd) (hc : fd.code = .ref c) (F : RefF P w K mg base CT EA) (TB : TabB base mg c Pt) (hm : (Pt, ("_law_refused_right" : Str) ++ ".<locals>." ++ "<lambda>") ∈ T) (hu : ∀ p ∈ T, p.1 = Pt → p.2 = ("_law_refused_right" : Str) ++ ".<locals>." ++ "<lambda>")
    (FS : Fun K "_law_same" "_law_same" sSame fS fdS) (gS : mg "_law_same" = some (.ref fS)) (M : Sm mg) : FnOk P w K mg base CX0 41 f fd ["table", "asked", "names"] (spRr CT T) := by
  obtain ⟨oc, od, kV, doc, pm, an, cdv, ct, osl, rfl, lk, hcd⟩ := FE.ex
  obtain rfl : cdv = .ref c := hc
  refine fn_of lk hcd scRr (fun vs H Q E h => by obtain ⟨a, nm, ns, tbl, y, e, _⟩ := h; rw [e]; rfl) fun A outer s H vs Q E hr hsp => ?_
  obtain ⟨a, nm, ns, tbl, y, rfl, B, T0, hq⟩ := hsp
  obtain ⟨fM, fdM, gM, kM, GM, bM, dM, rM, bM3⟩ := F.mean
  obtain ⟨fL, fdL, mL, GL, bL⟩ := F.len
  have nd := scRr.nd
  have hu64 := hr.units
  obtain ⟨t1, p1, r1⟩ := rr_w1 (P := P) (w := w) (outer := outer) (H := H) (E := E) F FS gS M TB hm hu hr
  obtain ⟨t2, p2, r2⟩ := rr_w2 (P := P) (w := w) (outer := outer) (H := H) (E := E) F FS gS M TB hm hu hr
  obtain ⟨t3, p3, r3⟩ := rr_w3 (P := P) (w := w) (outer := outer) (H := H) (E := E) F TB hm hu hr
  obtain ⟨t4, p4, r4⟩ := rr_w4 (P := P) (w := w) (outer := outer) (H := H) (E := E) F TB hm hu hr
  refine ⟨_, PSs.nox (st := defBody sRefR) (pss_cons p1 (pss_cons p2 (pss_cons p3 (pss_cons (ps_set (i := 6) nd rfl (Or.inr rfl) (pe_callB (call_lenI GL (hr.mono (by decide)) mL bL pass0) rfl F.nN boot_len (pa_cons (pv 0) pa_nil))) (pss_cons p4
    (pss_one (ps_ret (pe_cmpR (r := rEqD K) (op_eqD hu64) (pe_tried F.R 1 rfl TB rfl hm hu hr (by decide) (lamS_by (by show lamSB (defScope sRefR) _ = true; decide +kernel)) rfl (fun _ _ _ _ _ => rfl) (fun A outer s H E f c' hr => pe_callSD GM (hr.mono (by decide)) rfl gM kM bM3 rM (fun σ => passAt (takes_of rfl rfl rfl rfl) σ) (pa_cons (pv 0) (pa_cons (pe_op op_cat (pe_op op_rep (pe_lst (pa_cons pe_int pa_nil)) (pe_op op_sub (pv 6) pe_int)) (pe_lst (pa_cons pe_bl pa_nil))) (pa_cons pe_non pa_nil))))) (pe_tup (pa_cons pe_str (pa_cons (pe_op op_sub (pv 6) pe_int) pa_nil))) (nomark _))))))))), ?_⟩
  refine r1 _ _ a nm ns tbl y _ _ _ _ B T0 fun H1 s3 s4 e1 T1 => ?_
  refine r2 _ _ a nm ns tbl y _ _ _ _ (B.ext e1) T1 fun H2 s3 s4 e2 T2 => ?_
  have e02 := e1.trans e2
  refine r3 _ _ a nm ns tbl y _ _ _ _ (B.ext e02) T2 fun H3 s3 s4 s5 e3 T3 => ?_
  have e03 := e02.trans e3
  have tab3 := B.t.ext e03
  have few := B.few
  have pos := B.pos
  obtain ⟨dx, qa, ra, ha, _, _⟩ := id tab3.ex
  refine ⟨_, rfl, a, dx, _, rfl, ha, a, ns, tbl, rfl, tab3, by omega, _, rfl, ⟨by omega, by omega⟩, ?_⟩
  refine r4 _ _ a nm ns tbl y _ _ _ (B.ext e03) T3 fun H4 s3 s4 s5 e4 T4 => ?_
  have e04 := e03.trans e4
  have hc : (⟨"BadWeight", EA.CX, "weight", "index"⟩ : Clz) ∈ clz4 EA := by simp [clz4]
  have em : ((tbl.length : Nat) : Int) - 1 = ((tbl.length - 1 : Nat) : Int) := by omega
  refine eq_read (c := ⟨"BadWeight", EA.CX, "weight", "index"⟩) (i := (tbl.length - 1 : Nat)) (show PyData.strOk "weight" = true by decide +kernel) T4 hc (fun H5 Q q => ⟨_, rfl, _, _, rfl, rfl, by rw [← em] at q; exact q⟩) (fun H5 E R e5 T5 hf => ?_) (fun H5 e5 T5 => hq H5 (e04.trans e5) T5)
  have tab5 := B.t.ext (e04.trans e5)
  refine ⟨_, rfl, (by show 1 ≤ sizeLine; decide), fun l nl => ⟨_, rfl, _, _, rfl, rfl, l, _, [.int 1], rfl, rfl, upd_same, by omega, by omega, (by show 1 * _ ≤ sizeLine; rw [sizeLine_eq]; omega), fun p np => ⟨(by show 1 ≤ sizeLine; decide), fun l2 nl2 => ?_⟩⟩⟩
  have kl := same_new (o := .lst [.int 1]) nl
  have kp := same_new (o := .lst (List.replicate (((tbl.length : Nat) : Int) - 1).toNat [V.int 1]).flatten) np
  have k2 := same_new (o := .lst [.bl true]) nl2
  have lenF : (List.replicate (((tbl.length : Nat) : Int) - 1).toNat [V.int 1]).flatten.length ≤ 10 := by
    rw [flat_one, List.length_replicate]; omega
  refine ⟨p, l2, _, _, rfl, rfl, k2 _ _ upd_same, upd_same, (by rw [sizeLine_eq]; show _ + 1 ≤ _; omega), fun p3 np3 => ?_⟩
  have k3 := same_new (o := .lst ((List.replicate (((tbl.length : Nat) : Int) - 1).toNat [V.int 1]).flatten ++ [.bl true])) np3
  have kk := ((kl.trans kp).trans k2).trans k3
  exact ⟨a, .ref p3, .non, .non, ns, tbl, some (tbl.length - 1), rfl, tab5.same kk, by omega, .true_ (n := (((tbl.length : Nat) : Int) - 1).toNat) (by omega) upd_same (by omega), .inl ⟨_, rfl, hf.same kk⟩⟩
end
end L2.TB
/-! what the law keeps from turn to turn -/
namespace L2.TB
open PySem PySem.Spec PyProof.Rows LamX
theorem strs_of : ∀ ys : List V, (∀ y ∈ ys, ∃ x, y = V.str x) → ∃ ks : List Str, ys = ks.map V.str
  | [], _ => ⟨[], rfl⟩
  | y :: ys, h => by
    obtain ⟨x, rfl⟩ := h y List.mem_cons_self
    obtain ⟨ks, rfl⟩ := strs_of ys fun z hz => h z (List.mem_cons_of_mem _ hz)
    exact ⟨x :: ks, rfl⟩
theorem some_strs {ns : List Str} {ys zs : List V} (pm : (ys ++ zs).Perm (ns.map V.str)) (nnd : ns.Nodup) : ∃ known : List Str, ys = known.map V.str ∧ known.Nodup ∧ ∀ x ∈ known, x ∈ ns := by
  have yin : ∀ y ∈ ys, ∃ x, y = V.str x := fun y hy => by
    have z : y ∈ ns.map V.str := pm.mem_iff.mp (List.mem_append_left _ hy)
    obtain ⟨x, _, rfl⟩ := List.mem_map.mp z
    exact ⟨x, rfl⟩
  obtain ⟨known, rfl⟩ := strs_of ys yin
  have ndall : (known.map V.str ++ zs).Nodup := pm.nodup_iff.mpr (List.Pairwise.map V.str (fun a b h e => h (V.str.inj e)) nnd)
  refine ⟨known, rfl, ?_, fun x hx => ?_⟩
  · have z := (List.nodup_append.mp ndall).1
    exact (List.pairwise_map.mp z).imp fun h e => h (congrArg V.str e)
  · have z : V.str x ∈ ns.map V.str := pm.mem_iff.mp (List.mem_append_left _ (List.mem_map_of_mem hx))
    obtain ⟨y, hy, e⟩ := List.mem_map.mp z
    exact V.str.inj e ▸ hy
theorem tabs_but {T : List (Addr × Str)} {H H' : Hp} {l ls : Addr} {N : Int} (h : Tabs T H) (S : Strm H l ls N) (B : But l ls H H') : Tabs T H' := fun p hp => by
  obtain ⟨cs, g, k, m, S⟩ := S
  obtain ⟨pa, h1, h2, h3⟩ := h p hp
  refine ⟨pa, B _ _ (fun z => by rw [z, S.o] at h1; cases h1) (fun z => by rw [z, S.c] at h1; cases h1) h1, h2, fun pos cv hc => ?_⟩
  obtain ⟨c, e1, e2⟩ := h3 pos cv hc
  exact ⟨c, e1, B _ _ (fun z => by rw [z, S.o] at e2; unfold CodeO at e2; cases e2) (fun z => by rw [z, S.c] at e2; unfold CodeO at e2; cases e2) e2⟩
theorem Strm.ext {H H' : Hp} {l ls : Addr} {N : Int} (s : Strm H l ls N) (e : ExtN H H') : Strm H' l ls N := by
  obtain ⟨cs, g, k, m, S⟩ := s
  exact ⟨cs, g, k, m, e _ _ S.o (fun _ z => by cases z), e _ _ S.c (fun _ z => by cases z), S.ne, S.g0, S.k0, S.k1, S.m0, S.m1, S.sz⟩
theorem TabAt.but {H H' : Hp} {C a l ls : Addr} {N : Int} {ns : List Str} {tbl : List (List Int)} (t : TabAt H C a ns tbl) (S : Strm H l ls N) (b : But l ls H H') (ne : ns ≠ []) (tn : 0 < tbl.length) : TabAt H' C a ns tbl := by
  obtain ⟨cs, g, k, m, S⟩ := S
  obtain ⟨dx, qa, ra, ha, hq, ps, hr, pr⟩ := t.ex
  obtain ⟨y, ns', rfl⟩ : ∃ y ns', ns = y :: ns' := by
    cases ns with
    | nil => exact absurd rfl ne
    | cons y r => exact ⟨y, r, rfl⟩
  have l1 := Paired.length pr
  have k1 : ∀ {p : Addr} {o : HO}, H p = some o → (∀ xs, o ≠ .lst xs) → H' p = some o := fun {p o} e n => b _ _ (fun z => by rw [z, S.o] at e; exact n _ (Option.some.inj e).symm) (fun z => by rw [z, S.c] at e; exact n _ (Option.some.inj e).symm) e
  refine ⟨dx, qa, ra, k1 ha (fun _ z => by cases z), b _ _ (fun z => ?_) (fun z => ?_) hq, ps, b _ _ (fun z => ?_) (fun z => ?_) hr, Paired.mapP pr fun p us h => ⟨k1 h.1 (fun _ z => by cases z), h.2⟩⟩
  · rw [z, S.o] at hq
    cases hq
  · rw [z, S.c] at hq
    have e := HO.lst.inj (Option.some.inj hq)
    cases cs with
    | nil => cases e
    | cons c r => cases e
  · rw [z, S.o] at hr
    have e := HO.lst.inj (Option.some.inj hr)
    match ps, e with
    | [_, _, _, _], e => simp at e
  · rw [z, S.c] at hr
    have e := HO.lst.inj (Option.some.inj hr)
    match ps, cs, e with
    | [], _, _ => simp at l1; omega
    | p :: r, [], e => cases e
    | p :: r, c :: r2, e => simp at e
/-- a turn's table, rows, names, and the questions that may be put -/
structure TurnS (H : Hp) (CT x nm l ls rr oL : Addr) (ns : List Str) (as : List Addr) (tbl : List (List Int)) (y : Str) (of : List Str) : Prop where
  B : TbR H CT x nm ns tbl y
  nml : nm ≠ l ∧ nm ≠ ls
  orr : H rr = some (.lst (as.map V.ref))
  rl : rr ≠ l ∧ rr ≠ ls
  R : RowsAt H l ls ns as tbl
  oo : H oL = some (.lst (of.map V.str))
  ol : oL ≠ l ∧ oL ≠ ls
  nof : of.Nodup
  sub : ∀ z ∈ of, z ∈ ns
  nms : ∀ x ∈ ns, NmS x
section
variable {H H' : Hp} {CT x nm l ls rr oL : Addr} {ns : List Str} {as : List Addr} {tbl : List (List Int)} {y : Str} {of : List Str} {N : Int}
theorem TurnS.but (h : TurnS H CT x nm l ls rr oL ns as tbl y of) (S : Strm H l ls N) (b : But l ls H H') : TurnS H' CT x nm l ls rr oL ns as tbl y of :=
  ⟨⟨h.B.t.but S b (fun z => by have := h.B.yin; rw [z] at this; cases this) h.B.pos, b _ _ h.nml.1 h.nml.2 h.B.o, h.B.nd, h.B.sh, h.B.pos, h.B.few, h.B.ok, h.B.yin⟩, h.nml, b _ _ h.rl.1 h.rl.2 h.orr, h.rl, h.R.but b, b _ _ h.ol.1 h.ol.2 h.oo, h.ol, h.nof, h.sub, h.nms⟩
theorem TurnS.same (h : TurnS H CT x nm l ls rr oL ns as tbl y of) (s : Same H H') : TurnS H' CT x nm l ls rr oL ns as tbl y of :=
  ⟨h.B.same s, h.nml, s _ _ h.orr, h.rl, h.R.but (.of s), s _ _ h.oo, h.ol, h.nof, h.sub, h.nms⟩
theorem TurnS.d (h : TurnS H CT x nm l ls rr oL ns as tbl y of) : DRows H ns as tbl := Paired.mapP h.R fun a vs h => ⟨h.1, h.2.1⟩
theorem TurnS.rows (h : TurnS H CT x nm l ls rr oL ns as tbl y of) : RowsOf H rr as (List.range tbl.length) := by
  have la : as.length = tbl.length := Paired.length h.R
  have e : ((List.range tbl.length).map fun i => V.ref (as.getD i 0)) = as.map V.ref := by
    refine List.ext_getElem? fun i => ?_
    rw [List.getElem?_map, List.getElem?_map]
    by_cases hi : i < tbl.length
    · rw [List.getElem?_range hi, List.getElem?_eq_getElem (show i < as.length by omega)]
      show some (V.ref (as.getD i 0)) = _
      rw [List.getD_eq_getElem?_getD, List.getElem?_eq_getElem (show i < as.length by omega)]
      rfl
    · rw [List.getElem?_eq_none (by rw [List.length_range]; omega), List.getElem?_eq_none (by omega)]
      rfl
  unfold RowsOf
  rw [e]
  exact h.orr
theorem TurnS.lof (h : TurnS H CT x nm l ls rr oL ns as tbl y of) : of.length ≤ 10 := Nat.le_trans (nodup_le h.nof h.sub) h.B.sh
theorem TurnS.ofAt {K : PySem.W.Frag} (h : TurnS H CT x nm l ls rr oL ns as tbl y of) : OfAt K H ns (.ref oL) of := by
  have := h.lof
  refine ⟨⟨oL, rfl, .inl h.oo⟩, ?_, h.sub, h.nof, by omega⟩
  have e := badAt_all ns of [] 0 h.sub (by simpa using h.nof)
  rw [← e]
  exact .seq (.inl h.oo) (fun x hx => by obtain ⟨z, _, rfl⟩ := List.mem_map.mp hx; exact .str z) (by rw [List.length_map]; omega)
theorem mr_new (nms : ∀ x ∈ ns, NmS x) : mr ∉ ns := fun h => by
  have z := (nms mr h).2
  have e : mr.cps.toList.length = 4 := by decide +kernel
  omega
/-- what hold tells, as _law_bent takes it -/
theorem told_of {H0 : Hp} {d : Nat} {v : V} {part : List Nat} {sy : Str → Nat → Int} (nl : ∀ b, H0 b = none → b ≠ l ∧ b ≠ ls) (nof : of.Nodup) (lof : of.length ≤ 10) (sub : ∀ z ∈ of, z ∈ ns) (nms : ∀ x ∈ ns, NmS x) (h : HdAt (fun b => H0 b = none) H (holdT sy y of d part) v) : Told l ls H v := by
  cases d with
  | zero =>
    have h : HdAt (fun b => H0 b = none) H (.sq true []) v := h
    cases h with
    | @sq a _ us _ ok o len al =>
      obtain rfl : us = [] := List.eq_nil_of_length_eq_zero len
      exact .inr (.inl ⟨a, rfl, (nl a ok).1, (nl a ok).2, o⟩)
  | succ d =>
    have h : HdAt (fun b => H0 b = none) H (.di (of.map fun q => (q, entT sy y of d part q))) v := h
    have ek : (of.map fun q => (q, entT sy y of d part q)).map (·.1) = of := by rw [List.map_map]; exact List.map_id' of
    cases h with
    | @di a es _ ok o ks nd al =>
      refine .inr (.inr ⟨a, es, _, rfl, (nl a ok).1, (nl a ok).2, o, (DiP.of ks al).keep nl fun _ _ _ e _ => e, by rw [ek]; exact nof, by rw [List.length_map]; omega, ?_, fun q t hq => ?_⟩)
      · rw [ek]
        exact fun m => mr_new nms (sub _ m)
      · obtain ⟨q', _, e⟩ := List.mem_map.mp hq
        cases e
        exact ⟨_, _, rfl, fun e => hold_noTr d e _⟩
end
/-- _law_can, _law_holds for three at most -/
def spCanA : Sp := fun vs H Q E => ∃ d, d ≤ 3 ∧ spCanL d vs H Q E
def spHoldsA : Sp := fun vs H Q E => ∃ d, d ≤ 3 ∧ spHoldsL d vs H Q E
section
variable {P : Program} {w : World} {K : PySem.W.Frag} {mg : Str → Option Value} {base : Heap} {f fS : Addr} {fd fdS : FuncData}
theorem ok_canA (F : Fun K "_law_can" "_law_can" sCan f fd) (gF : mg "_law_can" = some (.ref f)) (nN : mg "len" = none) (nS : mg "set" = none) (nSo : mg "sorted" = none) (nA : mg "any" = none) : FnOk P w K mg base CX0 4 f fd ["rows", "asked", "of", "n"] spCanA :=
  ⟨fun vs H Q E h => by obtain ⟨d, _, h⟩ := h; obtain ⟨r, oL, as, ns, tbl, x, of, part, e, _⟩ := h; rw [e]; rfl, fun A outer s H args us vs Q E hr he hb hv hs => by
    obtain ⟨d, hd, hs⟩ := hs
    exact (ok_can sortRule F gF nN nS nSo nA d).run A outer s H args us vs Q E (hr.mono (by omega)) he hb hv hs⟩
theorem ok_holdsA (F : Fun K "_law_holds" "_law_holds" sHolds f fd) (gF : mg "_law_holds" = some (.ref f)) (FS : Fun K "_law_same" "_law_same" sSame fS fdS) (gS : mg "_law_same" = some (.ref fS)) (nI : mg "isinstance" = none) (nL : mg "list" = none) (nT : mg "tuple" = none) (nN : mg "len" = none) (nS : mg "set" = none) (nD : mg "dict" = none) (nInt : mg "int" = none) (nB : mg "bool" = none) :
    FnOk P w K mg base CX0 4 f fd ["rows", "asked", "of", "n", "thing"] spHoldsA :=
  ⟨fun vs H Q E h => by obtain ⟨d, _, h⟩ := h; obtain ⟨r, oL, as, ns, tbl, x, of, part, t, v, e, _⟩ := h; rw [e]; rfl, fun A outer s H args us vs Q E hr he hb hv hs => by
    obtain ⟨d, hd, hs⟩ := hs
    exact (ok_holdsL F gF FS gS nI nL nT nN nS nD nInt nB d).run A outer s H args us vs Q E (hr.mono (by omega)) he hb hv hs⟩
end
end L2.TB
/-! the law: a turn from n on -/
namespace L2.TB
open PySem PySem.Spec PyProof.Rows LamX
abbrev NLw : List Str := ["script", "stream", "turn", "rows", "table", "names", "asked", "of", "n", "told", "thing", "name"]
theorem scLaw : FnScope NLw ["script"] (defScope sLaw) := ⟨rfl, rfl, rfl, by decide +kernel, rfl, by decide +kernel, by decide +kernel⟩
def bodyL : List Stmt := match (defBody sLaw).getD 1 (.Pass ⟨0, 0, 0, 0⟩) with
  | .For _ _ b _ _ => b
  | _ => []
/-- what a turn's second half reads -/
structure LawQ (P : Program) (w : World) (K : PySem.W.Frag) (mg : Str → Option Value) (base : Heap) (CT : Addr) (EA : ErrA) (T : List (Addr × Str)) : Prop where
  F : RefF P w K mg base CT EA
  draw : ∃ f fd, mg "_law_draw" = some (.ref f) ∧ PySem.W.keepIn K (.ref f) = true ∧ FnOk P w K mg base CX0 1 f fd ["stream", "many"] spDraw ∧ Binds K fd ["stream", "many"] []
  can : ∃ f fd, mg "_law_can" = some (.ref f) ∧ PySem.W.keepIn K (.ref f) = true ∧ FnOk P w K mg base CX0 4 f fd ["rows", "asked", "of", "n"] spCanA ∧ Binds K fd ["rows", "asked", "of", "n"] []
  holds : ∃ f fd, mg "_law_holds" = some (.ref f) ∧ PySem.W.keepIn K (.ref f) = true ∧ FnOk P w K mg base CX0 4 f fd ["rows", "asked", "of", "n", "thing"] spHoldsA ∧ Binds K fd ["rows", "asked", "of", "n", "thing"] []
  bent : ∃ f fd, mg "_law_bent" = some (.ref f) ∧ PySem.W.keepIn K (.ref f) = true ∧ FnOk P w K mg base CX0 4 f fd ["stream", "thing"] spBent ∧ Binds K fd ["stream", "thing"] []
  same : ∃ f fd, mg "_law_same" = some (.ref f) ∧ PySem.W.keepIn K (.ref f) = true ∧ FnOk P w K mg base CX0 1 f fd ["found", "due"] spSameB ∧ Binds K fd ["found", "due"] []
  rr : ∃ f fd, mg "_law_refused_right" = some (.ref f) ∧ PySem.W.keepIn K (.ref f) = true ∧ FnOk P w K mg base CX0 41 f fd ["table", "asked", "names"] (spRr CT T) ∧ Binds K fd ["table", "asked", "names"] []
section
variable {P : Program} {w : World} {K : PySem.W.Frag} {mg : Str → Option Value} {base : Heap} {f CT : Addr} {cdv : Value} {EA : ErrA} {T : List (Addr × Str)} {A : Around} {outer : List Env} {s : Shared} {H : Hp} {E : XK}
theorem lw_told (L : LawQ P w K mg base CT EA T) (hr : Room 41 (A.deeper (envOfC "law" (defScope sLaw) s.heap.objs.size f cdv))) :
    ∃ t, PSs (cxOf CX0 P w K mg base NLw "law" (defScope sLaw) f cdv A outer s H E).nox (bodyL.drop 7) t ∧ ∀ (D : Ends) (H0 : Hp) (x nm l ls rr oL : Addr) (ns : List Str) (as : List Addr) (tbl : List (List Int)) (y : Str) (of : List Str) (N : Int) (d : Nat) (v : V) (s0 s2 s10 s11 : Option V),
      TurnS H0 CT x nm l ls rr oL ns as tbl y of → Strm H0 l ls N → N ≤ 800000 → Tabs T H0 → d ≤ 3 → Told l ls H0 v →
      ((v = .non ∧ hardP (bestS (says ns tbl) y of (List.range tbl.length)).1 d = false) ∨ (v ≠ .non ∧ hardP (bestS (says ns tbl) y of (List.range tbl.length)).1 d = true ∧ HdAt (fun b => b ≠ l ∧ b ≠ ls) H0 (holdT (says ns tbl) y of d (List.range tbl.length)) v)) →
      (∀ H' s10, Strm H' l ls (N + 1) → Tabs T H' → D.nx [s0, some (.ref l), s2, some (.ref rr), some (.ref x), some (.ref nm), some (.str y), some (.ref oL), some (.int (d : Nat)), some v, s10, s11] H') →
      t D [s0, some (.ref l), s2, some (.ref rr), some (.ref x), some (.ref nm), some (.str y), some (.ref oL), some (.int (d : Nat)), some v, s10, s11] H0 := by
  obtain ⟨fH, fdH, gH, kH, GH, bH⟩ := L.F.hold
  obtain ⟨fI, fdI, gI, kI, GI, bI, _⟩ := L.F.isH
  obtain ⟨fD, fdD, gD, kD, GD, bD⟩ := L.draw
  obtain ⟨fC, fdC, gC, kC, GC, bC⟩ := L.can
  obtain ⟨fO, fdO, gO, kO, GO, bO⟩ := L.holds
  obtain ⟨fB, fdB, gB, kB, GB, bB⟩ := L.bent
  obtain ⟨fS, fdS, gS, kS, GS, bS⟩ := L.same
  obtain ⟨fR, fdR, gR, kR, GR, bR⟩ := L.rr
  have nd := scLaw.nd
  have T0' : ∀ {X : Cx} (σ : L2.St), PassesAt (L2.CX X.prog X.w) X σ (WE (fun _ _ _ _ => False) σ) := fun σ => passAt LamX.takes0 σ
  refine ⟨_, pss_cons (ps_if (pt_cmpR op_ne (pe_cmp (pc_notN (pv 9))) (pe_call GC (hr.mono (by decide)) rfl gC kC bC .nil pass0 (pa_cons (pv 3) (pa_cons (pv 6) (pa_cons (pv 7) (pa_cons (pv 8) pa_nil))))) (nomark _)) (pss_one ps_never) pss_nil)
    (pss_cons (ps_for PassesOwn.never rfl (pi_list (pe_call GB (hr.mono (by decide)) rfl gB kB bB .nil pass0 (pa_cons (pv 1) (pa_cons (pv 9) pa_nil)))) (pg_name (i := 10) nd rfl (Or.inl rfl))
      (pss_one (ps_if (pt_not (pt_val (pe_call GS (hr.mono (by decide)) rfl gS kS bS .nil pass0 (pa_cons (pe_callS GI (hr.mono (by decide)) rfl gI kI bI T0' (pa_cons (pv 4) (pa_cons (pv 6) (pa_cons (pv 8) (pa_cons (pv 10) (pa_cons (pv 7) pa_nil))))))
        (pa_cons (pe_call GO (hr.mono (by decide)) rfl gO kO bO .nil pass0 (pa_cons (pv 3) (pa_cons (pv 6) (pa_cons (pv 7) (pa_cons (pv 8) (pa_cons (pv 10) pa_nil)))))) pa_nil))))) (pss_one ps_never) pss_nil)))
    (pss_cons (ps_if (PW.pt (pw_and (pt_cmp (pc_notN (pv 9))) (pw_and1 (pt_not (pt_val (pe_call GO (hr.mono (by decide)) rfl gO kO bO .nil pass0 (pa_cons (pv 3) (pa_cons (pv 6) (pa_cons (pv 7) (pa_cons (pv 8) (pa_cons (pv 9) pa_nil))))))))))) (pss_one ps_never) pss_nil)
    (pss_one (ps_if (pt_not (pt_val (pe_call GR (hr.mono (by decide)) rfl gR kR bR .nil pass0 (pa_cons (pv 4) (pa_cons (pv 6) (pa_cons (pv 5) pa_nil)))))) (pss_one ps_never) pss_nil)))), ?_⟩
  intro D H0 x nm l ls rr oL ns as tbl y of N d v s0 s2 s10 s11 U0 S0 hN TT0 dl tv alt fin
  have lof := U0.lof
  have few := U0.B.few
  have pos := U0.B.pos
  have nsh := U0.B.sh
  have below : ∀ i ∈ List.range tbl.length, i < tbl.length := fun i hi => List.mem_range.mp hi
  have hb : (!decide (v = .non)) = hardP (bestS (says ns tbl) y of (List.range tbl.length)).1 d := by
    rcases alt with ⟨e, h⟩ | ⟨e, h, _⟩
    · rw [h, e]; rfl
    · rw [h, decide_eq_false e]; rfl
  refine ⟨_, rfl, _, rfl, _, rfl, _, rfl, _, rfl, d, dl, rr, oL, as, ns, tbl, y, of, List.range tbl.length, rfl, U0.rows, U0.d, U0.B.nd, below, by rw [List.length_range]; exact pos, by rw [List.length_range]; omega, U0.B.yin, U0.oo, U0.sub, by omega, fun H1 k1 => ⟨rfl, false, congrArg V.bl (by rw [← hb]; simp), iteF ?_⟩⟩
  have U1 := U0.same k1
  have tv1 : Told l ls H1 v := tv.imp id (Or.imp (fun ⟨a, e, n1, n2, o⟩ => ⟨a, e, n1, n2, k1 _ _ o⟩) fun ⟨d, es, kvs, e, n1, n2, o, p, r⟩ => ⟨d, es, kvs, e, n1, n2, k1 _ _ o, p.keep (fun _ z => z) fun b o _ e _ => k1 b o e, r⟩)
  refine ⟨_, rfl, _, rfl, l, ls, v, N, rfl, S0.same k1, by omega, tv1, fun H2 q bs nq oq lb thi S2 B2 => ?_⟩
  have U2 := U1.but (S0.same k1) B2
  have TT2 := tabs_but (TT0.ext k1) (S0.same k1) B2
  refine ⟨q, rfl, ⟨_, SqL.of oq⟩, for_list (xs := bs) (fun i σ H' => Same H2 H' ∧ ∃ s10, σ = [s0, some (.ref l), s2, some (.ref rr), some (.ref x), some (.ref nm), some (.str y), some (.ref oL), some (.int (d : Nat)), some v, s10, s11]) ⟨Same.refl _, _, rfl⟩ (fun i σ H' _ h => SqL.of (h.1 _ _ oq)) ?_ ?_⟩
  · rintro i b σ H' eb ⟨k2, s10, rfl⟩
    obtain ⟨t, ht, nt⟩ := thi b (List.mem_of_getElem? eb)
    have U3 := U2.same k2
    have ht' : HdAt (fun _ => True) H' t b := ht.keep (fun _ _ => trivial) fun b o _ e _ => k2 b o e
    refine ⟨_, rfl, _, rfl, _, rfl, _, rfl, _, rfl, x, .str y, .int (d : Nat), b, .ref oL, ns, tbl, rfl, U3.B.t, U3.B.nd, nsh, pos, few, .inr ⟨y, rfl, U3.B.yin, .inr ⟨of, .inl U3.ofAt, .inr ⟨d, t, dl, U3.nof, rfl, ht', fun H4 k4 => ?_⟩⟩⟩⟩
    have U4 := U3.same k4
    refine ⟨_, rfl, _, rfl, _, rfl, _, rfl, _, rfl, d, dl, rr, oL, as, ns, tbl, y, of, List.range tbl.length, t, b, rfl, U4.rows, U4.d, U4.B.nd, below, by rw [List.length_range]; omega, U4.B.yin, U4.oo, U4.sub, by omega, ht'.same k4, nt d, fun H5 k5 => ?_⟩
    refine ⟨_, _, rfl, fun H6 k6 => ⟨_, rfl, ?_⟩⟩
    rw [decide_eq_true rfl]
    exact iteF ⟨((k2.trans k4).trans k5).trans k6, _, rfl⟩
  rintro σ H3 ⟨k3, s10', rfl⟩
  have U3 := U2.same k3
  have B13 : But l ls H1 H3 := B2.trans (.of k3)
  have last : ∀ H4, Same H3 H4 → (tIfS (tNot (tB (tCall (spRr CT T) [] E0 (tCons (tVar 4) (tCons (tVar 6) (tCons (tVar 5) tNil)))))) tNever tNext) D [s0, some (.ref l), s2, some (.ref rr), some (.ref x), some (.ref nm), some (.str y), some (.ref oL), some (.int (d : Nat)), some v, s10', s11] H4 := fun H4 k4 => by
    have U4 := U3.same k4
    refine ⟨_, rfl, _, rfl, _, rfl, x, nm, ns, tbl, y, rfl, U4.B, (TT2.ext k3).ext k4, fun H5 e5 T5 => ⟨_, rfl, iteF ?_⟩⟩
    exact fin H5 _ (((S2.same (k3.trans k4)).ext e5)) T5
  rcases alt with ⟨e, h⟩ | ⟨e, h, ht⟩
  · refine ⟨_, rfl, _, rfl, ?_⟩
    rw [decide_eq_true e]
    exact iteF (iteF (last H3 (Same.refl _)))
  · refine ⟨_, rfl, _, rfl, ?_⟩
    rw [decide_eq_false e]
    refine iteT ?_
    have ht3 : HdAt (fun _ => True) H3 (holdT (says ns tbl) y of d (List.range tbl.length)) v := (ht.same k1).keep (fun _ _ => trivial) fun b o n e _ => B13 b o n.1 n.2 e
    refine ⟨_, rfl, _, rfl, _, rfl, _, rfl, _, rfl, d, dl, rr, oL, as, ns, tbl, y, of, List.range tbl.length, _, v, rfl, U3.rows, U3.d, U3.B.nd, below, by rw [List.length_range]; omega, U3.B.yin, U3.oo, U3.sub, by omega, ht3, hold_noTr _ _ _, fun H4 k4 => ⟨_, rfl, ?_⟩⟩
    rw [hold_holds d (by rw [List.length_range]; exact pos) h]
    exact iteF (last H4 k4)
theorem lw_rest (L : LawQ P w K mg base CT EA T) (hr : Room 41 (A.deeper (envOfC "law" (defScope sLaw) s.heap.objs.size f cdv))) :
    ∃ t, PSs (cxOf CX0 P w K mg base NLw "law" (defScope sLaw) f cdv A outer s H E).nox (bodyL.drop 5) t ∧ ∀ (D : Ends) (H0 : Hp) (x nm l ls rr oL : Addr) (ns : List Str) (as : List Addr) (tbl : List (List Int)) (y : Str) (of : List Str) (N : Int) (s0 s2 s8 s9 s10 s11 : Option V),
      TurnS H0 CT x nm l ls rr oL ns as tbl y of → Strm H0 l ls N → N ≤ 700000 → Tabs T H0 →
      (∀ H' s8 s9 s10, Strm H' l ls (N + 2) → Tabs T H' → D.nx [s0, some (.ref l), s2, some (.ref rr), some (.ref x), some (.ref nm), some (.str y), some (.ref oL), s8, s9, s10, s11] H') →
      t D [s0, some (.ref l), s2, some (.ref rr), some (.ref x), some (.ref nm), some (.str y), some (.ref oL), s8, s9, s10, s11] H0 := by
  obtain ⟨fH, fdH, gH, kH, GH, bH⟩ := L.F.hold
  obtain ⟨fD, fdD, gD, kD, GD, bD⟩ := L.draw
  obtain ⟨t7, p7, r7⟩ := lw_told (P := P) (w := w) (outer := outer) (H := H) (E := E) L hr
  have nd := scLaw.nd
  refine ⟨_, pss_cons (ps_set (i := 8) nd rfl (Or.inl rfl) (pe_call GD (hr.mono (by decide)) rfl gD kD bD .nil pass0 (pa_cons (pv 1) (pa_cons pe_int pa_nil))))
    (pss_cons (ps_set (i := 9) nd rfl (Or.inl rfl) (pe_callS GH (hr.mono (by decide)) rfl gH kH bH (fun σ => passAt LamX.takes0 σ) (pa_cons (pv 4) (pa_cons (pv 6) (pa_cons (pv 8) (pa_cons (pv 7) pa_nil)))))) p7), ?_⟩
  intro D H0 x nm l ls rr oL ns as tbl y of N s0 s2 s8 s9 s10 s11 U0 S0 hN TT0 fin
  refine ⟨_, rfl, l, ls, 4, N, rfl, S0, by omega, by decide, by decide, fun H1 r r0 r1 S1 B1 => ?_⟩
  have U1 := U0.but S0 B1
  have TT1 := tabs_but TT0 S0 B1
  obtain ⟨d, rfl, dl⟩ : ∃ d : Nat, r = (d : Int) ∧ d ≤ 3 := ⟨r.toNat, by omega, by omega⟩
  have nsh := U1.B.sh
  refine ⟨_, rfl, _, rfl, _, rfl, _, rfl, x, .str y, .int (d : Nat), .ref oL, ns, tbl, rfl, U1.B.t, U1.B.nd, by omega, U1.B.pos, U1.B.few, .inr ⟨y, rfl, U1.B.yin, .inr ⟨of, U1.ofAt, .inr ⟨d, dl, rfl, fun hb H2 k2 => ?_, fun hb H2 v k2 hv => ?_⟩⟩⟩⟩
  · exact r7 _ _ x nm l ls rr oL ns as tbl y of (N + 1) d .non _ _ _ _ (U1.same k2) (S1.same k2) (by omega) (TT1.ext k2) dl (.inl rfl) (.inl ⟨rfl, hb⟩) fun H3 s10' S3 T3 => fin H3 _ _ _ (S3.mono (by omega)) T3
  · have ap : ∀ b, H1 b = none → b ≠ l ∧ b ≠ ls := fun b n => S1.apart (Same.refl _) n
    have nn : v ≠ .non := fun z => by
      rw [z] at hv
      cases d with
      | zero =>
        have hv : HdAt (fun b => H1 b = none) H2 (.sq true []) .non := hv
        cases hv
      | succ d =>
        have hv : HdAt (fun b => H1 b = none) H2 (.di (of.map fun q => (q, entT (says ns tbl) y of d (List.range tbl.length) q))) .non := hv
        cases hv
    exact r7 _ _ x nm l ls rr oL ns as tbl y of (N + 1) d v _ _ _ _ (U1.same k2) (S1.same k2) (by omega) (TT1.ext k2) dl (told_of ap U1.nof U1.lof U1.sub U1.nms hv) (.inr ⟨nn, hb, hv.keep ap fun _ _ _ e _ => e⟩) fun H3 s10' S3 T3 => fin H3 _ _ _ (S3.mono (by omega)) T3
end
end L2.TB
/-! the law -/
namespace L2.TB
open PySem PySem.Spec PyProof.Rows LamX
/-- what the law reads -/
structure LawR (P : Program) (w : World) (K : PySem.W.Frag) (mg : Str → Option Value) (base : Heap) (C fIn : Addr) (EA : ErrA) (T : List (Addr × Str)) : Prop where
  Q : LawQ P w K mg base C EA T
  start : ∃ f fd, mg "_law_start" = some (.ref f) ∧ Fun K "_law_start" "_law_start" sStart f fd
  rows : ∃ f fd, mg "_law_t_rows" = some (.ref f) ∧ Fun K "_law_t_rows" "_law_t_rows" sRows f fd ∧ FnOk P w K mg base CX0 4 f fd ["stream", "many", "rows", "values"] spRows
  pick : ∃ f fd, mg "_law_pick" = some (.ref f) ∧ Fun K "_law_pick" "_law_pick" sPick f fd ∧ FnOk P w K mg base CX0 2 f fd ["stream", "some"] (spPick K)
  someN : ∃ f fd, mg "_law_t_some" = some (.ref f) ∧ Fun K "_law_t_some" "_law_t_some" sSome f fd ∧ FnOk P w K mg base CX0 3 f fd ["stream", "names"] (spSome K)
  made : Mk K C fIn
  init : ∃ fd, Fun K "__init__" "Table.__init__" sInit fIn fd ∧ FnOk P w K mg base CX0 3 fIn fd ["self", "rows"] (spInit C)
  gC : mg "Table" = some (.ref C)
  nR : mg "range" = none
  nL : mg "list" = none
def spLawT (K : PySem.W.Frag) (T : List (Addr × Str)) : Sp := fun vs H Q _ => ∃ (a : Addr) (ns : List Int), vs = [.ref a] ∧ SqL K H a (ns.map V.int) ∧ ns.length ≤ 63 ∧ Tabs T H ∧ ∀ H', Q (.bl true) H'
section
variable {P : Program} {w : World} {K : PySem.W.Frag} {mg : Str → Option Value} {base : Heap} {f C fIn : Addr} {fd : FuncData} {EA : ErrA} {T : List (Addr × Str)}
theorem ok_law (F : Fun K "law" "law" sLaw f fd) (L : LawR P w K mg base C fIn EA T) : FnOk P w K mg base CX0 42 f fd ["script"] (spLawT K T) := by
  obtain ⟨fS, fdS, gS, FS⟩ := L.start
  have GS : FnOk P w K mg base CX0 1 fS fdS ["script"] (spStart K) := ok_start FS L.nL
  have bS := FS.binds (ps := ["script"]) fun _ _ _ _ _ _ us hl => match us, hl with | [_], _ => rfl
  obtain ⟨fR, fdR, gR, FR, GR⟩ := L.rows
  obtain ⟨fdI, FI, GI⟩ := L.init
  obtain ⟨fP, fdP, gP, FP, GP⟩ := L.pick
  obtain ⟨fO, fdO, gO, FO, GO⟩ := L.someN
  obtain ⟨fD, fdD, gD, kD, GD, bD⟩ := L.Q.draw
  have bR := FR.binds (ps := ["stream", "many", "rows", "values"]) fun _ _ _ _ _ _ us hl => match us, hl with | [_, _, _, _], _ => rfl
  have bI := FI.binds (ps := ["self", "rows"]) fun _ _ _ _ _ _ us hl => match us, hl with | [_, _], _ => rfl
  have bP := FP.binds (ps := ["stream", "some"]) fun _ _ _ _ _ _ us hl => match us, hl with | [_, _], _ => rfl
  have bO := FO.binds (ps := ["stream", "names"]) fun _ _ _ _ _ _ us hl => match us, hl with | [_, _], _ => rfl
  refine F.ok scLaw (fun vs H Q E h => by obtain ⟨a, ns, e, _⟩ := h; rw [e]; rfl) fun cdv A outer s H vs Q E hr hsp => ?_
  obtain ⟨a, cs, rfl, hS, hn, hT, hq⟩ := hsp
  have nd := scLaw.nd
  obtain ⟨t5, p5, r5⟩ := lw_rest (P := P) (w := w) (outer := outer) (H := H) (E := E) L.Q hr
  refine ⟨_, PSs.nox (st := defBody sLaw) (pss_cons (ps_set (i := 1) nd rfl (Or.inl rfl) (pe_call GS (hr.mono (by decide)) rfl gS FS.kp bS .nil pass0 (pa_cons (pv 0) pa_nil)))
    (pss_cons (ps_for PassesOwn.never rfl (pi_range1 rfl L.nR (pa_cons pe_int pa_nil)) (pg_name (i := 2) nd rfl (Or.inl rfl))
      (pss_cons (ps_set (i := 3) nd rfl (Or.inl rfl) (pe_call GR (hr.mono (by decide)) rfl gR FR.kp bR .nil pass0 (pa_cons (pv 1) (pa_cons pe_int (pa_cons pe_int (pa_cons pe_int pa_nil))))))
      (pss_cons (ps_par (i := 4) (j := 5) rfl nd rfl rfl (by decide) rfl rfl (pa_cons (pe_make L.made GI (hr.mono (by decide)) rfl L.gC bI .nil pass0 (pa_cons (pv 3) pa_nil)) (pa_cons (pe_callTy (call_listD rfl) rfl L.nL boot_list' (pa_cons (pe_ix ix_list (pv 3) pe_int (fun _ _ => rfl)) pa_nil)) pa_nil)) (by rfl))
      (pss_cons (ps_set (i := 6) nd rfl (Or.inr rfl) (pe_call GP (hr.mono (by decide)) rfl gP FP.kp bP .nil pass0 (pa_cons (pv 1) (pa_cons (pv 5) pa_nil))))
      (pss_cons (ps_set (i := 7) nd rfl (Or.inl rfl) (pe_call GO (hr.mono (by decide)) rfl gO FO.kp bO .nil pass0 (pa_cons (pv 1) (pa_cons (pv 5) pa_nil))))
      (pss_cons (ps_if (pt_cmpR op_gt (pe_call GD (hr.mono (by decide)) rfl gD kD bD .nil pass0 (pa_cons (pv 1) (pa_cons pe_int pa_nil))) pe_int (nomark _))
        (pss_one (ps_setLc (i := 7) (own := [("name", 11)]) (g := gName 11) (te := tVar 11) (tt := tTest (tOp rNe (tVar 11) (tVar 6))) rfl nd rfl rfl (sw_true rfl rfl rfl rfl) (pi_seq (pv 7)) (blkOk_by (N := NLw) (sc := defScope sLaw) (by decide +kernel)) (fun _ _ _ _ _ => pg_name (i := 11) nd rfl (Or.inl rfl)) (fun _ _ _ _ _ => pts_one (pt_cmpR op_ne (pv 11) (pv 6) (nomark _))) (fun _ _ _ _ _ => pv 11))) pss_nil)
      p5))))))
    (pss_one (ps_ret pe_bl)))), ?_⟩
  refine ⟨_, rfl, a, cs, rfl, hS, by omega, fun H1 l ls nl k1 S1 nls => ?_⟩
  refine ⟨4, rfl, by decide, by decide, for_range (n := 4) (fun i σ H' => Strm H' l ls (3000 * (i : Int)) ∧ Tabs T H' ∧ ∃ s2 s3 s4 s5 s6 s7 s8 s9 s10 s11, σ = [some (.ref a), some (.ref l), s2, s3, s4, s5, s6, s7, s8, s9, s10, s11])
    ⟨by simpa using S1, hT.ext k1, _, _, _, _, _, _, _, _, _, _, rfl⟩ ?_ ?_⟩
  · rintro i σ H2 hi ⟨S2, T2, s2, s3, s4, s5, s6, s7, s8, s9, s10, s11, rfl⟩
    refine ⟨_, rfl, l, ls, 4, 7, 3, 3000 * (i : Int), rfl, S2, by omega, by decide, by decide, by decide, by decide, by decide, by decide, fun H3 rr as ns tbl lns nn nnd nms ltbl tn bv nrr rl rls orr RA S3 B3 => ?_⟩
    have T3 := tabs_but T2 S2 B3
    have nok : ∀ x ∈ ns, NmOk x := fun x hx => (nms x hx).1
    have D1 : DRows H3 ns as tbl := Paired.mapP RA fun a vs h => ⟨h.1, h.2.1⟩
    refine ⟨_, rfl, fun x dx nx ndx nex => ?_⟩
    have k1 : Same H3 (upd (upd H3 dx (.own x)) x (.ins C dx [])) := fun b o e => by rw [upd_ne (ne_of_none e nx), upd_ne (ne_of_none e ndx)]; exact e
    refine ⟨x, dx, rr, as, ns, tbl, rfl, upd_same, k1 _ _ orr, D1.same k1, tn, by omega, nn, nnd, nok, by omega, fun H4 tab fr => ⟨rfl, ?_⟩⟩
    have k2 : Same H3 H4 := fun b o e => fr b o (ne_of_none e nx) (k1 _ _ e)
    have pos : 0 < tbl.length := List.length_pos_iff.mpr tn
    have las : as.length = tbl.length := Paired.length D1
    obtain ⟨a0, ea0⟩ : ∃ a0, as[0]? = some a0 := ⟨as[0]'(by omega), List.getElem?_eq_getElem _⟩
    obtain ⟨vs0, ev0, oa0, lv0⟩ := paired_get (D1.same k2) ea0
    have at0' : atI (as.map V.ref) ((0 : Nat) : Int) = some (.ref a0) := atI_nat (by rw [List.getElem?_map, ea0]; rfl)
    have ekeys : ((dk ns vs0).map fun kv => kV kv.1) = ns.map V.str := by
      have z := congrArg (List.map kV) (dk_keys lv0.symm)
      rw [List.map_map, List.map_map] at z
      exact z
    refine ⟨_, rfl, _, _, _, _, rfl, rfl, SqL.of (k2 _ _ orr), at0', a0, _, rfl, .inl oa0, fun n nn1 => ?_⟩
    rw [ekeys]
    have k3 := same_new (o := .lst (ns.map V.str)) nn1
    have on4 := upd_same (H := H4) (a := n) (o := .lst (ns.map V.str))
    have an := S3.apart k2 nn1
    generalize upd H4 n (.lst (ns.map V.str)) = H5 at k3 on4
    refine ⟨_, _, rfl, ?_⟩
    have k35 := k2.trans k3
    have lpos : 0 < ns.length := List.length_pos_iff.mpr nn
    -- asked
    refine ⟨_, rfl, _, rfl, l, ls, n, _, _, rfl, S3.same k35, by omega, an.1, an.2, on4, by rw [List.length_map]; exact lpos, by rw [List.length_map]; omega, fun H6 yv hy S6 B6 => ?_⟩
    obtain ⟨y, yin, rfl⟩ := List.mem_map.mp hy
    -- of
    refine ⟨_, rfl, _, rfl, l, ls, n, _, _, rfl, S6, by omega, B6 _ _ an.1 an.2 on4, an.1, an.2, by rw [List.length_map]; omega, fun H7 oL ys zs pm noL ooL S7 B7 => ?_⟩
    obtain ⟨of, rfl, ofnd, ofsub⟩ := some_strs pm nnd
    have aO := S6.apart (Same.refl _) noL
    have B37 : But l ls H5 H7 := B6.trans B7
    have tab5 := tab.same k3
    have U7 : TurnS H7 C x n l ls rr oL ns as tbl y of := ⟨⟨tab5.but (S3.same k35) B37 nn pos, B37 _ _ an.1 an.2 on4, nnd, lns, pos, by omega, nok, yin⟩, an, B37 _ _ rl rls (k35 _ _ orr), ⟨rl, rls⟩, (RA.but (But.of k35)).but B37, ooL, aO, ofnd, ofsub, nms⟩
    have T7 := tabs_but (T3.ext k35) (S3.same k35) B37
    -- whether asked is left out
    refine ⟨_, rfl, l, ls, 3, _, rfl, S7, by omega, by decide, by decide, fun H8 r r0 r1 S8 B8 => ?_⟩
    have U8 := U7.but S7 B8
    have T8 := tabs_but T7 S7 B8
    refine ⟨_, _, rfl, rfl, _, rfl, ?_⟩
    by_cases hpos : 0 < r
    · rw [decide_eq_true hpos]
      refine iteT ?_
      have := U8.lof
      refine ⟨_, rfl, lc_seq (.inl rfl) U8.oo (by rw [List.length_map]; omega) (isStr fun z => decide (z ≠ y)) id ?_ ?_⟩
      · intro j v H9 Cn Nn ev s9' yes no
        rw [List.getElem?_map] at ev
        obtain ⟨z, ez, rfl⟩ := Option.map_eq_some_iff.mp ev
        refine ⟨rfl, _, rfl, _, rfl, rfl, ?_⟩
        by_cases h : z = y
        · exact ⟨false, congrArg V.bl (by rw [h]; simp), iteF (no (decide_eq_false fun c => c h) H9 (Same.refl _))⟩
        · exact ⟨true, congrArg V.bl (by rw [decide_eq_false (fun c => h (V.str.inj c))]; rfl), iteT ⟨_, rfl, yes (decide_eq_true h) H9 (Same.refl _)⟩⟩
      · intro H9 q nq oq s9'
        rw [filter_strs] at oq
        have U9 : TurnS H9 C x n l ls rr q ns as tbl y (of.filter fun z => decide (z ≠ y)) := ⟨U8.B.same s9', an, s9' _ _ U8.orr, U8.rl, U8.R.but (.of s9'), oq, S8.apart (Same.refl _) nq, ofnd.filter _, fun z hz => ofsub z (List.mem_filter.mp hz).1, nms⟩
        exact r5 _ _ x n l ls rr q ns as tbl y _ _ _ _ _ _ _ _ U9 (S8.same s9') (by omega) (T8.ext s9') fun H10 s8 s9 s10 S10 T10 => ⟨S10.mono (by omega), T10, _, _, _, _, _, _, _, _, _, _, rfl⟩
    · rw [decide_eq_false hpos]
      refine iteF ?_
      exact r5 _ _ x n l ls rr oL ns as tbl y of _ _ _ _ _ _ _ U8 S8 (by omega) T8 fun H9 s8 s9 s10 S9 T9 => ⟨S9.mono (by omega), T9, _, _, _, _, _, _, _, _, _, _, rfl⟩
  · rintro σ H2 ⟨S2, T2, s2, s3, s4, s5, s6, s7, s8, s9, s10, s11, rfl⟩
    exact hq H2
end
end L2.TB
namespace L2.TB
open PySem PySem.Spec PyProof.Rows
open LamX
section
variable {K : PySem.W.Frag} {h : Heap} {mg : Str → Option Value}
theorem fun_ofD {x q : Str} {st : Stmt} {f : Addr} {fd : FuncData} (F : FunD K x q (defArgs st) (defBody st) (defScope st) [] [] f fd) : Fun K x q st f fd := by
  obtain ⟨⟨oc, od, dV, kV, doc, pm, an, cdv, ct, osl, e, lk, hc, hd, hk⟩, kp⟩ := F
  obtain rfl : dV = .none := hd.elim (fun z => z.2) fun z => absurd rfl z.1
  exact ⟨⟨oc, od, kV, doc, pm, an, cdv, ct, osl, e, lk, hc⟩, kp⟩
theorem def_at (c : He.SaysD faT fnT K) (X : K.In h) (G : h.Ns mainGlobals mg) (i k : Nat) {x : Str} {st : Stmt} (ei : faT[i]? = some (.glo x)) (ek : fnT[k]? = some (dd (x, none) x x st [])) :
    mg x = some (.ref (He.ga K x)) ∧ ∃ fd, Fun K x x st (He.ga K x) fd := by
  obtain ⟨fd, F⟩ := c.def_ k ek
  exact ⟨He.glo_ok X G (c.fact i ei), fd, fun_ofD F⟩
theorem meth_at (c : He.SaysD faT fnT K) (i k : Nat) {m q : Str} {st : Stmt} (ei : faT[i]? = some (.meth "Table" m)) (ek : fnT[k]? = some (dd ("Table", some m) m q st [])) :
    Meth K (He.ga K "Table") m (He.ma K (He.ga K "Table") m) ∧ ∃ fd, Fun K m q st (He.ma K (He.ga K "Table") m) fd := by
  obtain ⟨fd, F⟩ := c.def_ k ek
  exact ⟨He.meth_ok (c.fact i ei), fd, fun_ofD F⟩
theorem defF_at (c : He.SaysD faT fnT K) (X : K.In h) (G : h.Ns mainGlobals mg) (i k : Nat) {x : Str} {st : Stmt} (ei : faT[i]? = some (.glo x)) (ek : fnT[k]? = some (dd (x, none) x x st [.non])) :
    mg x = some (.ref (He.ga K x)) ∧ ∃ fd, FunF K x st (He.ga K x) fd := by
  obtain ⟨fd, F⟩ := c.def_ k ek
  exact ⟨He.glo_ok X G (c.fact i ei), fd, F⟩
theorem smeth_at (c : He.SaysD faT fnT K) (i k : Nat) {m q : Str} {st : Stmt} (ei : faT[i]? = some (.meth "Search" m)) (ek : fnT[k]? = some (dd ("Search", some m) m q st [])) :
    Meth K (He.ga K "Search") m (He.ma K (He.ga K "Search") m) ∧ ∃ fd, Fun K m q st (He.ma K (He.ga K "Search") m) fd := by
  obtain ⟨fd, F⟩ := c.def_ k ek
  exact ⟨He.meth_ok (c.fact i ei), fd, fun_ofD F⟩
theorem init_at (c : He.SaysD faT fnT K) (k : Nat) {C q : Str} {st : Stmt} (ek : fnT[k]? = some (dd (C, some "__init__") "__init__" q st [])) : ∃ fd, Fun K "__init__" q st (He.ma K (He.ga K C) "__init__") fd := by
  obtain ⟨fd, F⟩ := c.def_ k ek
  exact ⟨fd, fun_ofD F⟩
theorem bindsN {x : Str} {st : Stmt} {f : Addr} {fd : FuncData} {ps : List Str} (F : FunF K x st f fd) (h : ∀ (T : Addr) (kV doc pm : Value) (an : Option Addr) (cdv ct : Value) (us its : List Value), us.length = ps.length → its.length = [V.non].length → ∃ k, bindArgs (PySem.W.fnOf x x (defArgs st) (defBody st) (defScope st) (.ref T) kV doc pm an cdv ct) ⟨us, []⟩ = seqItems? (.ref T) >>= k ∧ k (some its.toArray) = pure (ps.zip (us ++ its.drop 1))) :
    Binds K fd ps [] := by
  obtain ⟨ds, r, b⟩ := F.binds1 (ps := ps) ps.length 1 (by simp) (by simp) h
  cases r
  exact b
theorem code_of {x : Str} {st : Stmt} {fd : FuncData} (F : Fun K x x st (He.ga K x) fd) : fd.code = .ref (He.cT K (x, none)).1 := by
  obtain ⟨⟨oc, od, kV, doc, pm, an, cdv, ct, osl, e, lk, hc⟩, kp⟩ := F
  obtain ⟨c, e2⟩ := He.codeIn_ref hc
  have e3 : fd.code = .ref c := by rw [e]; exact e2
  have lk2 : K.lookup (He.fAd K (x, none)) = some ⟨oc, od, .func fd, osl⟩ := lk
  rw [e3]
  exact congrArg Value.ref (He.codeOf_eq lk2 e3).symm
/-- an error's class -/
theorem err_at {P : Program} {w : World} {base : Heap} (c : SaysK h K) (X : K.In h) (G : h.Ns mainGlobals mg) (i k : Nat) {x fld q : Str} {st : Stmt} {p0 p1 p2 p3 : Pos} (ei : faT[i]? = some (.glo x)) (ek : fnT[k]? = some (dd (x, some "__init__") "__init__" q st [])) (he : (x, fld) ∈ erT)
    (S : FnScope ["self", fld] ["self", fld] (defScope st)) (hb : defBody st = [.Assign [.Attribute (.Name "self" p0) fld p1] (.Name fld p2) p3]) (hv0 : Vis (defScope st) "self") (hv1 : Vis (defScope st) fld) (hdy : (fld == ("__debug__" : Str)) = false) (hcy : (fld == ("__classdict__" : Str)) = false)
    (bd : ∀ (kV doc pm : Value) (an : Option Addr) (cdv ct : Value) (us : List Value), us.length = 2 → bindArgs (PySem.W.fnOf "__init__" q (defArgs st) (defBody st) (defScope st) .none kV doc pm an cdv ct) ⟨us, []⟩ = pure ((["self", fld] : List Str).zip us)) : ErrF P w K mg base x (He.ga K x) fld := by
  obtain ⟨fd, F⟩ := c.d.def_ k ek
  have F' : Fun K "__init__" q st (He.ma K (He.ga K x) "__init__") fd := fun_ofD F
  exact ⟨He.glo_ok X G (c.d.fact i ei), _, fd, fld, errB_ok (c.er _ he), ok_errInit F' S hb hv0 hv1 hdy hcy, F'.binds bd⟩
abbrev pT (K : PySem.W.Frag) (x : Str) : Addr := (He.cT K (x, none)).2
def qT (x : Str) : Str := x ++ ".<locals>." ++ "<lambda>"
def tbN : List Str := ["_law_refused_right"]
def tbL (K : PySem.W.Frag) : List (Addr × Str) := tbN.map fun x => (pT K x, qT x)
theorem cs_of {x : Str} (h : x ∈ tbN) : He.cT K (x, none) ∈ csL K := by
  have e : csL K = tbN.map fun x => He.cT K (x, none) := rfl
  rw [e]
  exact List.mem_map_of_mem (f := fun x => He.cT K (x, none)) h
theorem tabs_nil {H : Hp} (hT : ∀ p ∈ csL K, H p.2 = some (.tbl #[])) : Tabs (tbL K) H := fun p hp => by
  obtain ⟨x, hx, rfl⟩ := List.mem_map.mp hp
  exact TabS.nil (hT _ (cs_of hx))
theorem tb_mem {x : Str} (h : x ∈ tbN) : (pT K x, qT x) ∈ tbL K := List.mem_map.mpr ⟨x, h, rfl⟩
theorem tb_uni (np : (tfT.map fun p => (He.cT K p).2).Nodup) {x : Str} (h : x ∈ tbN) : ∀ p ∈ tbL K, p.1 = pT K x → p.2 = qT x := fun p hp e => by
  obtain ⟨y, hy, rfl⟩ := List.mem_map.mp hp
  have z : (tbN.map (pT K)).Nodup := np
  have inj : ∀ {l : List Str}, (l.map (pT K)).Nodup → ∀ {a b : Str}, a ∈ l → b ∈ l → pT K a = pT K b → a = b := by
    intro l
    induction l with
    | nil => intro _ a b ha; cases ha
    | cons c l ih =>
      intro nd a b ha hb e
      rw [List.map_cons, List.nodup_cons] at nd
      rcases List.mem_cons.mp ha with ea | ha
      · rcases List.mem_cons.mp hb with eb | hb
        · rw [ea, eb]
        · exact absurd (List.mem_map.mpr ⟨b, hb, by rw [← e, ea]⟩) nd.1
      · rcases List.mem_cons.mp hb with eb | hb
        · exact absurd (List.mem_map.mpr ⟨a, ha, by rw [e, eb]⟩) nd.1
        · exact ih nd.2 ha hb e
  rw [inj z hy h e]
end
theorem facts {P : Program} {w : World} {K : PySem.W.Frag} {h : Heap} {mg : Str → Option Value} {f : Addr} (X : K.In h) (G : h.Ns mainGlobals mg) (hfa : mg ("law" : Str) = some (.ref f)) (cc : SaysK h K) :
    ∃ fd : FuncData, (∀ (s : Shared) (v : Value), BindsTo s fd ⟨[v], []⟩ [("script", v)]) ∧ ∀ base : Heap, K.In base → base.Ns mainGlobals mg → (∀ p ∈ csL K, TabB base mg p.1 p.2) → FnOk P w K mg base CX0 42 f fd ["script"] (spLawT K (tbL K)) := by
  have c := cc.d
  obtain ⟨gStart, dStart, FStart⟩ := def_at c X G 0 0 (x := "_law_start") (st := sStart) rfl rfl
  obtain ⟨gDraw, dDraw, FDraw⟩ := def_at c X G 1 1 (x := "_law_draw") (st := sDraw) rfl rfl
  obtain ⟨gPick, dPick, FPick⟩ := def_at c X G 2 2 (x := "_law_pick") (st := sPick) rfl rfl
  obtain ⟨gMixed, dMixed, FMixed⟩ := def_at c X G 3 3 (x := "_law_mixed") (st := sMixed) rfl rfl
  obtain ⟨gNames, dNames, FNames⟩ := def_at c X G 4 4 (x := "_law_t_names") (st := sNames) rfl rfl
  obtain ⟨gRows, dRows, FRows⟩ := def_at c X G 5 5 (x := "_law_t_rows") (st := sRows) rfl rfl
  obtain ⟨gSome, dSome, FSome⟩ := def_at c X G 6 6 (x := "_law_t_some") (st := sSome) rfl rfl
  obtain ⟨gSame, dSame, FSame⟩ := def_at c X G 7 7 (x := "_law_same") (st := sSame) rfl rfl
  obtain ⟨gFrozen, dFrozen, FFrozen⟩ := def_at c X G 8 8 (x := "_law_frozen") (st := sFrozen) rfl rfl
  obtain ⟨gTried, dTried, FTried⟩ := def_at c X G 9 9 (x := "_law_tried") (st := sTried) rfl rfl
  obtain ⟨gHolds, dHolds, FHolds⟩ := def_at c X G 10 10 (x := "_law_holds") (st := sHolds) rfl rfl
  obtain ⟨gCan, dCan, FCan⟩ := def_at c X G 11 11 (x := "_law_can") (st := sCan) rfl rfl
  obtain ⟨gBent, dBent, FBent⟩ := def_at c X G 12 12 (x := "_law_bent") (st := sBent) rfl rfl
  obtain ⟨gRefR, dRefR, FRefR⟩ := def_at c X G 13 13 (x := "_law_refused_right") (st := sRefR) rfl rfl
  obtain ⟨gLaw, dLaw, FLaw⟩ := def_at c X G 14 14 (x := "law") (st := sLaw) rfl rfl
  obtain ⟨gIsInt, dIsInt, FIsInt⟩ := def_at c X G 15 15 (x := "is_integer") (st := sIsInt) rfl rfl
  obtain ⟨gIsList, dIsList, FIsList⟩ := def_at c X G 16 16 (x := "is_list") (st := sIsList) rfl rfl
  obtain ⟨gIsPair, dIsPair, FIsPair⟩ := def_at c X G 17 17 (x := "is_pair") (st := sIsPair) rfl rfl
  obtain ⟨gIsCount, dIsCount, FIsCount⟩ := def_at c X G 18 18 (x := "is_count") (st := sIsCount) rfl rfl
  obtain ⟨gIsName, dIsName, FIsName⟩ := def_at c X G 19 19 (x := "is_name") (st := sIsName) rfl rfl
  obtain ⟨gIsOne, dIsOne, FIsOne⟩ := def_at c X G 20 20 (x := "is_one_of") (st := sIsOne) rfl rfl
  obtain ⟨gHasJust, dHasJust, FHasJust⟩ := def_at c X G 21 21 (x := "has_just") (st := sHasJust) rfl rfl
  obtain ⟨gFirst, dFirst, FFirst⟩ := def_at c X G 22 22 (x := "first_bad") (st := sFirst) rfl rfl
  obtain ⟨gCkK, dCkK, FCkK⟩ := def_at c X G 23 23 (x := "check_known") (st := sCkK) rfl rfl
  obtain ⟨gCkA, dCkA, FCkA⟩ := def_at c X G 24 24 (x := "check_asked") (st := sCkA) rfl rfl
  obtain ⟨gCkB, dCkB, FCkB⟩ := def_at c X G 25 25 (x := "check_both") (st := sCkB) rfl rfl
  obtain ⟨gCkLack, dCkLack, FCkLack⟩ := def_at c X G 26 26 (x := "check_lacking") (st := sCkLack) rfl rfl
  obtain ⟨gCkW, dCkW, FCkW⟩ := def_at c X G 27 27 (x := "check_weights") (st := sCkW) rfl rfl
  obtain ⟨gAskF, dAskF, FAskF⟩ := def_at c X G 28 28 (x := "asked_files") (st := sAskF) rfl rfl
  obtain ⟨gFewest, dFewest, FFewest⟩ := defF_at c X G 29 29 (x := "fewest") (st := sFewest) rfl rfl
  obtain ⟨gMeanF, dMeanF, FMeanF⟩ := defF_at c X G 30 30 (x := "mean_fewest") (st := sMeanF) rfl rfl
  obtain ⟨gHoldF, dHoldF, FHoldF⟩ := defF_at c X G 31 31 (x := "hold") (st := sHoldF) rfl rfl
  obtain ⟨gIsHold, dIsHold, FIsHold⟩ := defF_at c X G 32 32 (x := "is_hold") (st := sIsHold) rfl rfl
  obtain ⟨gAreInts, dAreInts, FAreInts⟩ := def_at c X G 33 33 (x := "_are_integers") (st := sAreInts) rfl rfl
  obtain ⟨gBadRow, dBadRow, FBadRow⟩ := def_at c X G 34 34 (x := "_first_bad_row") (st := sBadRow) rfl rfl
  obtain ⟨dInit, FInit⟩ := init_at c 35 (C := "Table") (q := "Table.__init__") (st := sInit) rfl
  obtain ⟨mLenM, dLenM, FLenM⟩ := meth_at c 59 36 (m := "__len__") (q := "Table.__len__") (st := sLenM) rfl rfl
  obtain ⟨mQs, dQs, FQs⟩ := meth_at c 60 37 (m := "questions") (q := "Table.questions") (st := sQs) rfl rfl
  obtain ⟨mRowsM, dRowsM, FRowsM⟩ := meth_at c 61 38 (m := "rows") (q := "Table.rows") (st := sRowsM) rfl rfl
  obtain ⟨mDictOf, dDictOf, FDictOf⟩ := meth_at c 62 39 (m := "_dict_of") (q := "Table._dict_of") (st := sDictOf) rfl rfl
  obtain ⟨dSInit, FSInit⟩ := init_at c 56 (C := "Search") (q := "Search.__init__") (st := sSInit) rfl
  obtain ⟨mWhole, dWhole, FWhole⟩ := smeth_at c 85 57 (m := "whole") (q := "Search.whole") (st := sWhole) rfl rfl
  obtain ⟨mPartsOf, dPartsOf, FPartsOf⟩ := smeth_at c 86 58 (m := "parts_of") (q := "Search.parts_of") (st := sPartsOf) rfl rfl
  obtain ⟨mCost, dCost, FCost⟩ := smeth_at c 87 59 (m := "cost") (q := "Search.cost") (st := sCost) rfl rfl
  obtain ⟨mHoldM, dHoldM, FHoldM⟩ := smeth_at c 88 60 (m := "hold") (q := "Search.hold") (st := sHoldM) rfl rfl
  obtain ⟨mIsHard, dIsHard, FIsHard⟩ := smeth_at c 89 61 (m := "is_hard") (q := "Search.is_hard") (st := sIsHard) rfl rfl
  obtain ⟨mBest, dBest, FBest⟩ := smeth_at c 90 62 (m := "_best") (q := "Search._best") (st := sBest) rfl rfl
  obtain ⟨mBestQ, dBestQ, FBestQ⟩ := smeth_at c 91 63 (m := "_best_question") (q := "Search._best_question") (st := sBestQ) rfl rfl
  obtain ⟨mCostOf, dCostOf, FCostOf⟩ := smeth_at c 92 64 (m := "_cost_of") (q := "Search._cost_of") (st := sCostOf) rfl rfl
  have n_list : mg "list" = none := He.free_ok X G (c.fact 37 rfl)
  have n_len : mg "len" = none := He.free_ok X G (c.fact 38 rfl)
  have n_int : mg "int" = none := He.free_ok X G (c.fact 39 rfl)
  have n_range : mg "range" = none := He.free_ok X G (c.fact 40 rfl)
  have n_dict : mg "dict" = none := He.free_ok X G (c.fact 41 rfl)
  have n_tuple : mg "tuple" = none := He.free_ok X G (c.fact 42 rfl)
  have n_str : mg "str" = none := He.free_ok X G (c.fact 43 rfl)
  have n_bool : mg "bool" = none := He.free_ok X G (c.fact 44 rfl)
  have n_isinstance : mg "isinstance" = none := He.free_ok X G (c.fact 45 rfl)
  have n_all : mg "all" = none := He.free_ok X G (c.fact 46 rfl)
  have n_any : mg "any" = none := He.free_ok X G (c.fact 47 rfl)
  have n_enumerate : mg "enumerate" = none := He.free_ok X G (c.fact 48 rfl)
  have n_zip : mg "zip" = none := He.free_ok X G (c.fact 49 rfl)
  have n_set : mg "set" = none := He.free_ok X G (c.fact 50 rfl)
  have n_max : mg "max" = none := He.free_ok X G (c.fact 51 rfl)
  have n_sorted : mg "sorted" = none := He.free_ok X G (c.fact 52 rfl)
  have n_sum : mg "sum" = none := He.free_ok X G (c.fact 53 rfl)
  have gC : mg "Table" = some (.ref (He.ga K "Table")) := He.glo_ok X G (c.fact 35 rfl)
  have gSe : mg "Search" = some (.ref (He.ga K "Search")) := He.glo_ok X G (c.fact 36 rfl)
  have gLo := He.int_ok X G (c.fact (f := .int "LONGEST" 40) 54 rfl)
  have gSg := He.str_ok X G (c.fact (f := .str "SIGNS" "abcdefghijklmnopqrstuvwxyz0123456789.") 55 rfl)
  have T0 : TabC K (He.ga K "Table") := ⟨He.cls_ok (c.fact 56 rfl), He.noat_ok (c.fact 57 rfl), He.noat_ok (c.fact 58 rfl)⟩
  have S0 : SeaC K (He.ga K "Search") := ⟨He.cls_ok (c.fact 79 rfl), He.noat_ok (c.fact 80 rfl), He.noat_ok (c.fact 81 rfl), He.noat_ok (c.fact 82 rfl), He.noat_ok (c.fact 83 rfl), He.noat_ok (c.fact 84 rfl)⟩
  have Ck : Chk K mg _ _ _ _ _ _ := ⟨⟨_, FFirst⟩, ⟨_, FIsList⟩, ⟨_, FIsOne⟩, ⟨_, FCkK⟩, ⟨_, FCkA⟩, ⟨_, FCkB⟩, gFirst, gIsList, gIsOne, gCkK, gCkA, gCkB, n_isinstance, n_list, n_tuple, n_str, n_enumerate⟩
  have M : Sm mg := ⟨n_isinstance, n_list, n_tuple, n_int, n_bool, n_len, n_all, n_zip⟩
  have MF : FzM mg := ⟨n_isinstance, n_list, n_tuple, n_dict⟩
  have MkT := He.mkr_ok (c.fact (f := .mkr "Table") 94 rfl)
  have MkS := He.mkr_ok (c.fact (f := .mkr "Search") 96 rfl)
  have e := hfa.symm.trans gLaw
  cases e
  have cRr := code_of FRefR
  obtain ⟨oc, od, kV, doc, pm, an, cdv, ct, osl, rfl, lk, hcd⟩ := id FLaw.ex
  refine ⟨PySem.W.fnOf "law" "law" (defArgs sLaw) (defBody sLaw) (defScope sLaw) .none kV doc pm an cdv ct, fun s v => .of_eq rfl, fun base _ _ hTB => ?_⟩
  have EBadKnown : ErrF P w K mg base "BadKnown" (He.ga K "BadKnown") "index" := err_at cc X G 98 66 (q := "BadKnown.__init__") (st := sIBadKnown) rfl rfl (by simp [erT]) ⟨rfl, rfl, rfl, by decide +kernel, rfl, by decide +kernel, by decide +kernel⟩ rfl (by first | exact .inl rfl | exact .inr (.inl rfl)) (by first | exact .inl rfl | exact .inr (.inl rfl)) (by decide +kernel) (by decide +kernel) (fun _ _ _ _ _ _ us hl => match us, hl with | [_, _], _ => rfl)
  have ENoQuestion : ErrF P w K mg base "NoQuestion" (He.ga K "NoQuestion") "name" := err_at cc X G 99 67 (q := "NoQuestion.__init__") (st := sINoQuestion) rfl rfl (by simp [erT]) ⟨rfl, rfl, rfl, by decide +kernel, rfl, by decide +kernel, by decide +kernel⟩ rfl (by first | exact .inl rfl | exact .inr (.inl rfl)) (by first | exact .inl rfl | exact .inr (.inl rfl)) (by decide +kernel) (by decide +kernel) (fun _ _ _ _ _ _ us hl => match us, hl with | [_, _], _ => rfl)
  have EBadNumber : ErrF P w K mg base "BadNumber" (He.ga K "BadNumber") "thing" := err_at cc X G 100 68 (q := "BadNumber.__init__") (st := sIBadNumber) rfl rfl (by simp [erT]) ⟨rfl, rfl, rfl, by decide +kernel, rfl, by decide +kernel, by decide +kernel⟩ rfl (by first | exact .inl rfl | exact .inr (.inl rfl)) (by first | exact .inl rfl | exact .inr (.inl rfl)) (by decide +kernel) (by decide +kernel) (fun _ _ _ _ _ _ us hl => match us, hl with | [_, _], _ => rfl)
  have EBadWeight : ErrF P w K mg base "BadWeight" (He.ga K "BadWeight") "index" := err_at cc X G 101 69 (q := "BadWeight.__init__") (st := sIBadWeight) rfl rfl (by simp [erT]) ⟨rfl, rfl, rfl, by decide +kernel, rfl, by decide +kernel, by decide +kernel⟩ rfl (by first | exact .inl rfl | exact .inr (.inl rfl)) (by first | exact .inl rfl | exact .inr (.inl rfl)) (by decide +kernel) (by decide +kernel) (fun _ _ _ _ _ _ us hl => match us, hl with | [_, _], _ => rfl)
  let EA : ErrA := ⟨He.ga K "NoQuestion", He.ga K "BadKnown", He.ga K "BadNumber", He.ga K "BadWeight"⟩
  have gOf : ∀ cl ∈ clz4 EA, mg cl.x = some (.ref cl.C) ∧ cl.C = He.ga K cl.x ∧ (cl.x, cl.fld) ∈ erT := fun cl hm => by
    simp only [clz4, List.mem_cons, List.not_mem_nil, or_false] at hm
    rcases hm with rfl | rfl | rfl | rfl
    · exact ⟨ENoQuestion.g, rfl, by simp [erT]⟩
    · exact ⟨EBadKnown.g, rfl, by simp [erT]⟩
    · exact ⟨EBadNumber.g, rfl, by simp [erT]⟩
    · exact ⟨EBadWeight.g, rfl, by simp [erT]⟩
  have O : ClzOk K mg (clz4 EA) := by
    refine ⟨fun cl hm => (gOf cl hm).1, fun cl hm => ?_, fun cl hm cl' hm' => ?_, fun cl hm cl' hm' e => ?_⟩
    · obtain ⟨_, e1, e2⟩ := gOf cl hm
      have z := errB_ok (cc.er _ e2)
      rw [e1]
      exact ⟨z.xf, z.no⟩
    · simp only [clz4, List.mem_cons, List.not_mem_nil, or_false] at hm hm'
      rcases hm with rfl | rfl | rfl | rfl <;> rcases hm' with rfl | rfl | rfl | rfl
      · exact He.exm_ok (c.fact (f := .exm "NoQuestion" "NoQuestion" true) 114 rfl)
      · exact He.exm_ok (c.fact (f := .exm "NoQuestion" "BadKnown" false) 113 rfl)
      · exact He.exm_ok (c.fact (f := .exm "NoQuestion" "BadNumber" false) 115 rfl)
      · exact He.exm_ok (c.fact (f := .exm "NoQuestion" "BadWeight" false) 116 rfl)
      · exact He.exm_ok (c.fact (f := .exm "BadKnown" "NoQuestion" false) 109 rfl)
      · exact He.exm_ok (c.fact (f := .exm "BadKnown" "BadKnown" true) 108 rfl)
      · exact He.exm_ok (c.fact (f := .exm "BadKnown" "BadNumber" false) 110 rfl)
      · exact He.exm_ok (c.fact (f := .exm "BadKnown" "BadWeight" false) 111 rfl)
      · exact He.exm_ok (c.fact (f := .exm "BadNumber" "NoQuestion" false) 119 rfl)
      · exact He.exm_ok (c.fact (f := .exm "BadNumber" "BadKnown" false) 118 rfl)
      · exact He.exm_ok (c.fact (f := .exm "BadNumber" "BadNumber" true) 120 rfl)
      · exact He.exm_ok (c.fact (f := .exm "BadNumber" "BadWeight" false) 121 rfl)
      · exact He.exm_ok (c.fact (f := .exm "BadWeight" "NoQuestion" false) 124 rfl)
      · exact He.exm_ok (c.fact (f := .exm "BadWeight" "BadKnown" false) 123 rfl)
      · exact He.exm_ok (c.fact (f := .exm "BadWeight" "BadNumber" false) 125 rfl)
      · exact He.exm_ok (c.fact (f := .exm "BadWeight" "BadWeight" true) 126 rfl)
    · simp only [clz4, List.mem_cons, List.not_mem_nil, or_false] at hm hm'
      rcases hm with rfl | rfl | rfl | rfl <;> rcases hm' with rfl | rfl | rfl | rfl <;> first | rfl | (dsimp only at e; exact absurd e (by decide))
  have R : Trd P w K mg EA := ⟨O, ⟨_, _, gTried, FTried⟩, ⟨_, _, gFrozen, FFrozen⟩, MF⟩
  have bH := bindsN (ps := ["table", "asked", "n", "of"]) FHoldF fun T kV doc pm an cdv ct us its h1 h2 => match us, its, h1, h2 with | [_, _, _, _], [_], _, _ => ⟨_, rfl, rfl⟩
  have bI := bindsN (ps := ["table", "asked", "n", "thing", "of"]) FIsHold fun T kV doc pm an cdv ct us its h1 h2 => match us, its, h1, h2 with | [_, _, _, _, _], [_], _, _ => ⟨_, rfl, rfl⟩
  have bI4 := FIsHold.binds1 (ps := ["table", "asked", "n", "thing", "of"]) 4 0 (by simp) rfl fun T kV doc pm an cdv ct us its h1 h2 => match us, its, h1, h2 with | [_, _, _, _], [_], _, _ => ⟨_, rfl, rfl⟩
  have bF := bindsN (ps := ["table", "asked", "of"]) FFewest fun T kV doc pm an cdv ct us its h1 h2 => match us, its, h1, h2 with | [_, _, _], [_], _, _ => ⟨_, rfl, rfl⟩
  have bM := bindsN (ps := ["table", "weights", "asked", "of"]) FMeanF fun T kV doc pm an cdv ct us its h1 h2 => match us, its, h1, h2 with | [_, _, _, _], [_], _, _ => ⟨_, rfl, rfl⟩
  have bM3 := FMeanF.binds1 (ps := ["table", "weights", "asked", "of"]) 3 0 (by simp) rfl fun T kV doc pm an cdv ct us its h1 h2 => match us, its, h1, h2 with | [_, _, _], [_], _, _ => ⟨_, rfl, rfl⟩
  have GRm := ok_rowsM (P := P) (w := w) (base := base) FRowsM T0 FDictOf mDictOf n_zip
  have SM : SeaM K mg (He.ga K "Search") _ _ _ _ _ := ⟨S0, ⟨_, FPartsOf⟩, mPartsOf, ⟨_, FCostOf⟩, mCostOf, ⟨_, FBestQ⟩, mBestQ, ⟨_, FBest⟩, mBest, ⟨_, FCost⟩, mCost, n_tuple, n_max, n_len⟩
  have SP := ok_seaP (P := P) (w := w) (base := base) SM gSe MkS FSInit T0 FRowsM mRowsM GRm FWhole mWhole FIsHard mIsHard FHoldM mHoldM FAskF gAskF FQs mQs Ck EBadKnown ENoQuestion EBadNumber FIsCount gIsCount FIsInt gIsInt n_isinstance n_int n_bool n_list n_range
  have GPo : FnOk P w K mg base CX0 1 _ _ ["self", "part", "question"] (spPartsOf (He.ga K "Search")) := ok_partsOf FPartsOf S0 n_tuple
  have HP : HoldP P w K mg base (He.ga K "Search") := { po := ⟨_, _, mPartsOf, GPo, FPartsOf.binds (ps := ["self", "part", "question"]) fun _ _ _ _ _ _ us hl => match us, hl with | [_, _, _], _ => rfl⟩, li := ⟨_, _, gIsList, FIsList.kp, ok_isListG FIsList n_isinstance n_list n_tuple, FIsList.binds (ps := ["thing"]) fun _ _ _ _ _ _ us hl => match us, hl with | [_], _ => rfl⟩, pr := ⟨_, _, gIsPair, FIsPair.kp, fun A => ok_isPair FIsPair FIsList gIsList n_isinstance n_list n_tuple n_len, FIsPair.binds (ps := ["thing"]) fun _ _ _ _ _ _ us hl => match us, hl with | [_], _ => rfl⟩, it := ⟨_, _, gIsInt, FIsInt.kp, ok_isIntG FIsInt n_isinstance n_int n_bool, FIsInt.binds (ps := ["thing"]) fun _ _ _ _ _ _ us hl => match us, hl with | [_], _ => rfl⟩, nI := n_isinstance, nD := n_dict, nN := n_len }
  have GCt : FnOk P w K mg base CX0 2 _ _ ["thing"] (spIsCountG K) := ok_isCountG FIsCount FIsInt gIsInt n_isinstance n_int n_bool
  have GCW := ok_ckW (P := P) (w := w) (base := base) FCkW (ok_isListG FIsList n_isinstance n_list n_tuple) gIsList FIsList GCt gIsCount FIsCount EBadWeight n_enumerate n_len
  have GHo := ok_holdF FHoldF SP
  have GIh := ok_isHoldF FIsHold SP HP
  have GFe := ok_fewX FFewest SP
  have GMe := ok_meanX FMeanF SP T0 FLenM mLenM FCkW gCkW GCW n_len n_list
  have GLn : FnOk P w K mg base CX0 1 _ _ ["self"] (spLen (He.ga K "Table")) := ok_len FLenM T0 n_len
  have RF : RefF P w K mg base (He.ga K "Table") EA := { R := R, hold := ⟨_, _, gHoldF, FHoldF.kp, GHo, bH⟩, isH := ⟨_, _, gIsHold, FIsHold.kp, GIh, bI, bI4⟩, few := ⟨_, _, gFewest, FFewest.kp, GFe, bF⟩, mean := ⟨_, _, gMeanF, FMeanF.kp, GMe, bM, bM3⟩, len := ⟨_, _, mLenM, GLn, FLenM.binds (ps := ["self"]) fun _ _ _ _ _ _ us hl => match us, hl with | [_], _ => rfl⟩, nN := n_len }
  have GRr := ok_rr (T := tbL K) FRefR cRr RF (hTB _ (cs_of (by decide))) (tb_mem (by decide)) (tb_uni cc.np (by decide)) FSame gSame M
  have GDr : FnOk P w K mg base CX0 1 _ _ ["stream", "many"] spDraw := ok_draw FDraw n_int
  have GPi : FnOk P w K mg base CX0 2 _ _ ["stream", "some"] (spPick K) := ok_pick FPick FDraw gDraw n_int n_len
  have GBe := ok_bent (P := P) (w := w) (base := base) FBent FPick gPick FDraw gDraw n_int n_len n_isinstance n_dict n_list
  have GSb : FnOk P w K mg base CX0 1 _ _ ["found", "due"] spSameB := ok_sameB FSame n_isinstance n_list n_tuple n_int n_bool
  have LQ : LawQ P w K mg base (He.ga K "Table") EA (tbL K) := { F := RF, draw := ⟨_, _, gDraw, FDraw.kp, GDr, FDraw.binds (ps := ["stream", "many"]) fun _ _ _ _ _ _ us hl => match us, hl with | [_, _], _ => rfl⟩, can := ⟨_, _, gCan, FCan.kp, ok_canA FCan gCan n_len n_set n_sorted n_any, FCan.binds (ps := ["rows", "asked", "of", "n"]) fun _ _ _ _ _ _ us hl => match us, hl with | [_, _, _, _], _ => rfl⟩, holds := ⟨_, _, gHolds, FHolds.kp, ok_holdsA FHolds gHolds FSame gSame n_isinstance n_list n_tuple n_len n_set n_dict n_int n_bool, FHolds.binds (ps := ["rows", "asked", "of", "n", "thing"]) fun _ _ _ _ _ _ us hl => match us, hl with | [_, _, _, _, _], _ => rfl⟩, bent := ⟨_, _, gBent, FBent.kp, GBe, FBent.binds (ps := ["stream", "thing"]) fun _ _ _ _ _ _ us hl => match us, hl with | [_, _], _ => rfl⟩, same := ⟨_, _, gSame, FSame.kp, GSb, FSame.binds (ps := ["found", "due"]) fun _ _ _ _ _ _ us hl => match us, hl with | [_, _], _ => rfl⟩, rr := ⟨_, _, gRefR, FRefR.kp, GRr, FRefR.binds (ps := ["table", "asked", "names"]) fun _ _ _ _ _ _ us hl => match us, hl with | [_, _, _], _ => rfl⟩ }
  have GIn := ok_init (P := P) (w := w) (base := base) FInit T0 (ok_badRow FBadRow FIsList gIsList FIsInt gIsInt FIsName gIsName FHasJust gHasJust n_isinstance n_list n_tuple n_str n_enumerate n_len n_all n_dict n_int n_bool gLo gSg) FBadRow gBadRow n_list n_tuple
  exact ok_law (T := tbL K) FLaw { Q := LQ, start := ⟨_, _, gStart, FStart⟩, rows := ⟨_, _, gRows, FRows, ok_rows FRows FNames gNames FPick gPick FDraw gDraw n_int n_len n_range n_dict⟩, pick := ⟨_, _, gPick, FPick, GPi⟩, someN := ⟨_, _, gSome, FSome, ok_some FSome FMixed gMixed FDraw gDraw n_int n_len n_list n_range⟩, made := MkT, init := ⟨_, FInit, GIn⟩, gC := gC, nR := n_range, nL := n_list }
end L2.TB
open PySem PySem.W PySem.Calls PyProof.Rows
set_option maxHeartbeats 0 in
theorem PySem.Challenge.cw_twoworlds_k10_holds_looked_at_holds : PySem.Challenge.rw_twoworlds_k10_holds_looked_at.Holds := by
  w_on; o_law
  refine HandSHeadRun.head_imp (r := L2.TB.HdR.R) (q := L2.TB.HdR.qv) (H := L2.TB.hookK) (ob := L2.TB.obT) (M := 16000) (loose := L2.TB.HdR.names)
    (d := HandSHeadRun.topDef L2.TB.HdR.R.prog 55) (kwd := []) L2.TB.obT_eq L2.TB.HdR.run
    (by kernel_rfl) (by kernel_rfl) (by kernel_rfl) (by rfl)
    (by first | assumption | decide +kernel) (by decide +kernel) ⟨rfl, rfl, rfl, rfl, rfl, by decide +kernel⟩ ?hw ?hc
  case hw => w_witness2
  case hc =>
    refine LamX.walk_ofTsE (l := PySem.Challenge.rw_twoworlds_k10_holds_looked_at) (n := 63) (k := 42) (x := "script") (CX := fun _ => L2.CX0)
      rfl (by decide) (by kernel_rfl) ⟨rfl, by decide, by decide⟩ ?F (fun _ _ _ _ _ z => z)
    intro w mg fa h Y G hmg0
    obtain ⟨K, KX, c⟩ := Y
    have hmg : mg ("law" : PySem.Str) = some (.ref fa) := by
      have e : (HandSHeadRun.topDef L2.TB.HdR.R.prog 55).name = ("law" : PySem.Str) := by kernel_rfl
      rw [← e]; exact hmg0
    obtain ⟨fd, hb, hF⟩ := L2.TB.facts (P := PySem.Challenge.rw_twoworlds_k10_holds_looked_at.prog) (w := w) KX G hmg c
    exact ⟨K, KX, fd, L2.TB.csL K, L2.TB.spLawT K (L2.TB.tbL K), fun p hp => c.emptyC hp, fun p hp => c.outC hp, fun p hp => PySem.W.codeHd_of_K KX (c.hdC hp), hb, fun H a ns hl _ hT hS => ⟨a, ns, rfl, hS, by omega, L2.TB.tabs_nil hT, fun _ => rfl⟩, hF⟩
